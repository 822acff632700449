/- The text of a tree as bytes; numbers, signs and strengths as the program has them. -/
import Derived.Test.YtncgmnijgdfenaaDoorShG
import Derived.Test.YtncgmnijgdfenaaDoorShP
import Derived.Test.YtncgmnijgdfenaaDoorShS
import Derived.Test.YtncgmnijgdfenaaDoorTrB
import Derived.Lib.AppendIntMem
namespace Go.Proofs.YtncgmnijgdfenaaDoor.Gl
open Go Go.RowKit
set_option linter.unusedVariables false
set_option linter.unusedSimpArgs false

/- texts as lists of bytes -/
theorem tb_app (x y : ByteArray) : tbs (x ++ y) = tbs x ++ tbs y := by simp [tbs]
theorem tb_len (x : ByteArray) : (tbs x).length = x.size := rfl
theorem tb_emp : tbs emp = [] := rfl
theorem tb_cons (p : Pc) (l : List Pc) : tbs (catP (p :: l)) = tbs p.txt ++ tbs (catP l) := tb_app _ _
theorem tb_nil : tbs (catP []) = [] := rfl
theorem tb_cat (l m : List Pc) : tbs (catP (l ++ m)) = tbs (catP l) ++ tbs (catP m) := by rw [cat_app, tb_app]
theorem tb_inj {x y : ByteArray} (h : tbs x = tbs y) : x = y := by
  cases x; cases y
  simp only [tbs] at h
  rw [Array.toList_inj.1 h]
theorem tb_mk (x : ByteArray) : (⟨(tbs x).toArray⟩ : ByteArray) = x := by
  cases x; simp [tbs]
/-- a part, in brackets where they stand -/
def hlT (v : Int) (pl : Nat) (t : Tm) : List UInt8 := if needB t.op v pl = true then 91 :: (tbs (shT t) ++ [93]) else tbs (shT t)
theorem tb_held (v : Int) (pl : Nat) (t : Tm) : tbs (catP (heldP v pl (t.op, pcT t))) = hlT v pl t := by
  unfold heldP brkP hlT
  dsimp only
  split
  · rw [tb_cons, tb_cat, tb_cons, tb_nil]; rfl
  · rfl
theorem tt_num {n : Int} {x : ByteArray} {a : List Tm} : tbs (shT (.mk 0 n x a)) = tbs (dec n.toNat) := by
  unfold shT; rw [pc_num, tb_cons, tb_nil, List.append_nil]; rfl
theorem tt_nam {n : Int} {x : ByteArray} {a : List Tm} : tbs (shT (.mk 1 n x a)) = tbs x := by
  unfold shT; rw [pc_nam, tb_cons, tb_nil, List.append_nil]; rfl
theorem tt_neg {n : Int} {x : ByteArray} {t : Tm} : tbs (shT (.mk 2 n x [t])) = 45 :: hlT 2 0 t := by
  unfold shT; rw [pc_neg, tb_cons, tb_held]; rfl
theorem tt_two {o n : Int} {x : ByteArray} {t u : Tm} (ho : o = 3 ∨ o = 4 ∨ o = 5) : tbs (shT (.mk o n x [t, u])) = hlT o 0 t ++ (32 :: (tbs (tsg o) ++ (32 :: hlT o 1 u))) := by
  unfold shT; rw [pc_two ho, tb_cat, tb_held, tb_cons, tb_cons, tb_cons, tb_held]; rfl
theorem tf_tru {x : ByteArray} {m : Int} {t : List Tm} {a : List Fm} : tbs (shF (.mk 0 x m t a)) = tbs kTrue := by
  unfold shF; rw [fc_tru, tb_cons, tb_nil, List.append_nil]; rfl
theorem tf_fls {x : ByteArray} {m : Int} {t : List Tm} {a : List Fm} : tbs (shF (.mk 1 x m t a)) = tbs kFalse := by
  unfold shF; rw [fc_fls, tb_cons, tb_nil, List.append_nil]; rfl
theorem tf_not {x : ByteArray} {m : Int} {t : List Tm} {f : Fm} : tbs (shF (.mk 2 x m t [f])) = tbs kNot ++ (32 :: tbs (shF f)) := by
  unfold shF; rw [fc_not, tb_cons, tb_cons]; rfl
theorem tf_pair {o : Int} {x : ByteArray} {m : Int} {t : List Tm} {f g : Fm} (h1 : 3 ≤ o) (h2 : o ≤ 6) : tbs (shF (.mk o x m t [f, g])) = 40 :: (tbs (shF f) ++ (32 :: (tbs (jsg o) ++ (32 :: (tbs (shF g) ++ [41]))))) := by
  unfold shF; rw [fc_pair h1 h2, tb_cons, tb_cat, tb_cons, tb_cons, tb_cons, tb_cat, tb_cons, tb_nil]; rfl
theorem tf_qu {o : Int} {x : ByteArray} {m : Int} {t : List Tm} {f : Fm} (h : o = 7 ∨ o = 8) : tbs (shF (.mk o x m t [f])) = tbs (qsg o) ++ (32 :: (tbs x ++ (46 :: (32 :: tbs (shF f))))) := by
  unfold shF; rw [fc_qu h, tb_cons, tb_cons, tb_cons, tb_cons, tb_cons]; rfl
theorem tf_rel {o : Int} {x : ByteArray} {m : Int} {t u : Tm} {a : List Fm} (h1 : 9 ≤ o) (h2 : o ≤ 14) : tbs (shF (.mk o x m [t, u] a)) = tbs (shT t) ++ (32 :: (tbs (rsg o) ++ (32 :: tbs (shT u)))) := by
  unfold shF; rw [fc_rel h1 h2, tb_cat, tb_cons, tb_cons, tb_cons]; rfl
theorem tf_cong {x : ByteArray} {m : Int} {t u : Tm} {a : List Fm} : tbs (shF (.mk 15 x m [t, u] a)) = tbs (shT t) ++ (32 :: (tbs (rsg 15) ++ (32 :: (tbs (shT u) ++ (32 :: (tbs kMod ++ (32 :: tbs (dec m.toNat)))))))) := by
  unfold shF; rw [fc_cong, tb_cat, tb_cons, tb_cons, tb_cons, tb_cat, tb_cons, tb_cons, tb_cons, tb_cons, tb_nil, List.append_nil]; rfl
/- numbers -/
theorem dec_lib (u : Nat) : Lib.decDigits u = decL u := by
  induction u using Nat.strongRecOn with
  | _ u ih =>
    by_cases h : u < 10
    · rw [Lib.decDigits, dif_pos h, dec_lt h]
    · rw [Lib.decDigits, dif_neg h, dec_ge h, ih (u / 10) (by omega)]
theorem itoa_lib {n : Int} (h : 0 ≤ n) : (⟨(Lib.itoa n).toArray⟩ : ByteArray) = dec n.toNat := by
  unfold Lib.itoa dec
  rw [if_neg (by omega), dec_lib]
/-- the table of powers, as the row lists it -/
def Pw (w : World) : Prop := ∃ t fr, w.heap[0]? = some (.cells (Lib.pow10Tab.map fun z => Value.int .u64 z).toArray t fr)
theorem Pw.lt {w : World} (h : Pw w) : 0 < w.heap.size := by
  obtain ⟨_, _, h⟩ := h
  exact (Array.getElem?_eq_some_iff.1 h).1
theorem Pw.below {b : Nat} {w w' : World} (h : Pw w) (hb : Below b w w') (hl : 0 < b) : Pw w' := by
  obtain ⟨t, fr, h⟩ := h
  exact ⟨t, fr, (hb.block _ hl).trans h⟩
theorem Pw.tab {w : World} (h : Pw w) : Lib.TabIs Tryd.prog w "internal/strconv.uint64pow10" .u64 Lib.pow10Tab := by
  obtain ⟨t, fr, h⟩ := h
  have gS : Tryd.prog.globalNamed "internal/strconv.uint64pow10" = some 0 := by kernel_rfl
  unfold Lib.TabIs World.var?
  rw [gS]
  simp only [Option.bind_some, h]
set_option maxHeartbeats 1000000 in
theorem digits_show (n : Int) (w : World) (h0 : 0 ≤ n) (h1 : n ≤ 9223372036854775807) (hP : Pw w) :
    Calls Tryd.prog 30 #[.int .i64 n] w fun e w' => e = .returned (.string (dec n.toNat)) ∧ Below w.heap.size w w' := by
  have FI := mkHid (format_lib n (by omega) h1 w hP.tab)
  have HE := mkHid (itoa_lib h0)
  clear hP
  go_enter Tryd.func30, Tryd.ntmps30
  go_wp2_with (go_at_call 43; refine FI.out.mono ?_; rintro e w2 ⟨rfl, k, os, rfl⟩)
  go_ret
  exact ⟨congrArg (fun z => Ending.returned (Value.string z)) HE.out, Lib.below_grow _ w (Nat.le_refl _) k os⟩
theorem srel_at (o : Int) (w : World) (h1 : 9 ≤ o) (h2 : o ≤ 15) :
    Calls Tryd.prog 39 #[.int .i64 o] w fun e w' => e = .returned (.string (rsg o)) ∧ w = w' := by
  have : o = 9 ∨ o = 10 ∨ o = 11 ∨ o = 12 ∨ o = 13 ∨ o = 14 ∨ o = 15 := by omega
  clear h1 h2
  rcases this with rfl | rfl | rfl | rfl | rfl | rfl | rfl
  all_goals
    go_enter Tryd.func39, Tryd.ntmps39
    go_wp2
    go_ret
    exact ⟨rfl, rfl⟩
theorem strength_at (o : Int) (w : World) :
    Calls Tryd.prog 44 #[.int .i64 o] w fun e w' => e = .returned (.int .i64 (strT o : Nat)) ∧ w = w' := by
  by_cases h3 : o = 3
  · subst h3
    go_enter Tryd.func44, Tryd.ntmps44
    go_wp2
    go_ret
    exact ⟨rfl, rfl⟩
  · by_cases h4 : o = 4
    · subst h4
      go_enter Tryd.func44, Tryd.ntmps44
      go_wp2
      go_ret
      exact ⟨rfl, rfl⟩
    · by_cases h5 : o = 5
      · subst h5
        go_enter Tryd.func44, Tryd.ntmps44
        go_wp2
        go_ret
        exact ⟨rfl, rfl⟩
      · have e3 : (o == 3) = false := by rw [beq_eq_false_iff_ne]; exact h3
        have e4 : (o == 4) = false := by rw [beq_eq_false_iff_ne]; exact h4
        have e5 : (o == 5) = false := by rw [beq_eq_false_iff_ne]; exact h5
        have hs : strT o = 2 := by unfold strT; rw [if_neg (by omega), if_neg h5]
        rw [hs]
        clear hs h3 h4 h5
        go_enter Tryd.func44, Tryd.ntmps44
        go_wp2
        go_ret
        exact ⟨rfl, rfl⟩
/-- how strong a part must be to stand bare -/
def wkT (v : Int) (pl : Nat) : Nat := if v = 2 then 2 else if v = 5 then 1 + pl else pl
theorem need_wk {o v : Int} {pl : Nat} (h : (v = 2 ∧ pl = 0) ∨ ((v = 3 ∨ v = 4 ∨ v = 5) ∧ (pl = 0 ∨ pl = 1))) : needB o v pl = decide (¬ wkT v pl ≤ strT o) := by
  rw [Bool.eq_iff_iff]
  unfold needB wkT strT
  simp only [Bool.or_eq_true, Bool.and_eq_true, decide_eq_true_eq]
  by_cases h3 : o = 3 ∨ o = 4
  · rw [if_pos h3]
    rcases h with ⟨rfl, rfl⟩ | ⟨rfl | rfl | rfl, rfl | rfl⟩ <;> simp <;> omega
  · rw [if_neg h3]
    by_cases h5 : o = 5
    · rw [if_pos h5]
      rcases h with ⟨rfl, rfl⟩ | ⟨rfl | rfl | rfl, rfl | rfl⟩ <;> simp <;> omega
    · rw [if_neg h5]
      rcases h with ⟨rfl, rfl⟩ | ⟨rfl | rfl | rfl, rfl | rfl⟩ <;> simp <;> omega
end Go.Proofs.YtncgmnijgdfenaaDoor.Gl
