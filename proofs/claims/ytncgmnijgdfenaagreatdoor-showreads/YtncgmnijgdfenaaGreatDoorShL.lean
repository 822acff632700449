/- The text of a tree as bytes; numbers, signs and strengths as the program has them. -/
import Derived.Test.YtncgmnijgdfenaaGreatDoorShS
import Derived.Test.YtncgmnijgdfenaaGreatDoorTrB
import Derived.Lib.AppendIntMem
namespace Go.Proofs.YtncgmnijgdfenaaGreatDoor.Gl
open Go Go.RowKit
set_option linter.unusedVariables false
set_option linter.unusedSimpArgs false

/- texts as lists of bytes -/
theorem tb_app (x y : ByteArray) : tbs (x ++ y) = tbs x ++ tbs y := by simp [tbs]
theorem tb_len (x : ByteArray) : (tbs x).length = x.size := rfl
theorem tb_emp : tbs emp = [] := rfl
theorem tb_cons (p : Pc) (l : List Pc) : tbs (catP (p :: l)) = tbs p.txt ++ tbs (catP l) := tb_app _ _
theorem tb_nil : tbs (catP []) = [] := rfl
theorem tb_cat (l m : List Pc) : tbs (catP (l ++ m)) = tbs (catP l) ++ tbs (catP m) := by rw [cat_app, tb_app]
theorem tb_inj {x y : ByteArray} (h : tbs x = tbs y) : x = y := by
  cases x; cases y
  simp only [tbs] at h
  rw [Array.toList_inj.1 h]
theorem tb_mk (x : ByteArray) : (⟨(tbs x).toArray⟩ : ByteArray) = x := by
  cases x; simp [tbs]
/-- a part, in brackets where they stand -/
def hlT (v : Int) (pl : Nat) (t : Tm) : List UInt8 := if needB t.op v pl = true then 91 :: (tbs (shT t) ++ [93]) else tbs (shT t)
theorem tb_held (v : Int) (pl : Nat) (t : Tm) : tbs (catP (heldP v pl (t.op, pcT t))) = hlT v pl t := by
  unfold heldP brkP hlT
  dsimp only
  split
  · rw [tb_cons, tb_cat, tb_cons, tb_nil]; rfl
  · rfl
theorem tt_num {n : Int} {x : ByteArray} {a : List Tm} : tbs (shT (.mk 0 n x a)) = tbs (dec n.toNat) := by
  unfold shT; rw [pc_num, tb_cons, tb_nil, List.append_nil]; rfl
theorem tt_nam {n : Int} {x : ByteArray} {a : List Tm} : tbs (shT (.mk 1 n x a)) = tbs x := by
  unfold shT; rw [pc_nam, tb_cons, tb_nil, List.append_nil]; rfl
theorem tt_neg {n : Int} {x : ByteArray} {t : Tm} : tbs (shT (.mk 2 n x [t])) = 45 :: hlT 2 0 t := by
  unfold shT; rw [pc_neg, tb_cons, tb_held]; rfl
theorem tt_two {o n : Int} {x : ByteArray} {t u : Tm} (ho : o = 3 ∨ o = 4 ∨ o = 5) : tbs (shT (.mk o n x [t, u])) = hlT o 0 t ++ (32 :: (tbs (tsg o) ++ (32 :: hlT o 1 u))) := by
  unfold shT; rw [pc_two ho, tb_cat, tb_held, tb_cons, tb_cons, tb_cons, tb_held]; rfl
theorem tf_tru {x : ByteArray} {m : Int} {t : List Tm} {a : List Fm} : tbs (shF (.mk 0 x m t a)) = tbs kTrue := by
  unfold shF; rw [fc_tru, tb_cons, tb_nil, List.append_nil]; rfl
theorem tf_fls {x : ByteArray} {m : Int} {t : List Tm} {a : List Fm} : tbs (shF (.mk 1 x m t a)) = tbs kFalse := by
  unfold shF; rw [fc_fls, tb_cons, tb_nil, List.append_nil]; rfl
theorem tf_not {x : ByteArray} {m : Int} {t : List Tm} {f : Fm} : tbs (shF (.mk 2 x m t [f])) = tbs kNot ++ (32 :: tbs (shF f)) := by
  unfold shF; rw [fc_not, tb_cons, tb_cons]; rfl
theorem tf_pair {o : Int} {x : ByteArray} {m : Int} {t : List Tm} {f g : Fm} (h1 : 3 ≤ o) (h2 : o ≤ 6) : tbs (shF (.mk o x m t [f, g])) = 40 :: (tbs (shF f) ++ (32 :: (tbs (jsg o) ++ (32 :: (tbs (shF g) ++ [41]))))) := by
  unfold shF; rw [fc_pair h1 h2, tb_cons, tb_cat, tb_cons, tb_cons, tb_cons, tb_cat, tb_cons, tb_nil]; rfl
theorem tf_qu {o : Int} {x : ByteArray} {m : Int} {t : List Tm} {f : Fm} (h : o = 7 ∨ o = 8) : tbs (shF (.mk o x m t [f])) = tbs (qsg o) ++ (32 :: (tbs x ++ (46 :: (32 :: tbs (shF f))))) := by
  unfold shF; rw [fc_qu h, tb_cons, tb_cons, tb_cons, tb_cons, tb_cons]; rfl
theorem tf_rel {o : Int} {x : ByteArray} {m : Int} {t u : Tm} {a : List Fm} (h1 : 9 ≤ o) (h2 : o ≤ 14) : tbs (shF (.mk o x m [t, u] a)) = tbs (shT t) ++ (32 :: (tbs (rsg o) ++ (32 :: tbs (shT u)))) := by
  unfold shF; rw [fc_rel h1 h2, tb_cat, tb_cons, tb_cons, tb_cons]; rfl
theorem tf_cong {x : ByteArray} {m : Int} {t u : Tm} {a : List Fm} : tbs (shF (.mk 15 x m [t, u] a)) = tbs (shT t) ++ (32 :: (tbs (rsg 15) ++ (32 :: (tbs (shT u) ++ (32 :: (tbs kMod ++ (32 :: tbs (dec m.toNat)))))))) := by
  unfold shF; rw [fc_cong, tb_cat, tb_cons, tb_cons, tb_cons, tb_cat, tb_cons, tb_cons, tb_cons, tb_cons, tb_nil, List.append_nil]; rfl
/- numbers -/
theorem dec_lib (u : Nat) : Lib.decDigits u = decL u := by
  induction u using Nat.strongRecOn with
  | _ u ih =>
    by_cases h : u < 10
    · rw [Lib.decDigits, dif_pos h, dec_lt h]
    · rw [Lib.decDigits, dif_neg h, dec_ge h, ih (u / 10) (by omega)]
theorem itoa_lib {n : Int} (h : 0 ≤ n) : (⟨(Lib.itoa n).toArray⟩ : ByteArray) = dec n.toNat := by
  unfold Lib.itoa dec
  rw [if_neg (by omega), dec_lib]
/-- the table of powers, as the row lists it -/
def Pw (w : World) : Prop := ∃ t fr, w.heap[1]? = some (.cells (Lib.pow10Tab.map fun z => Value.int .u64 z).toArray t fr)
theorem Pw.lt {w : World} (h : Pw w) : 1 < w.heap.size := by
  obtain ⟨_, _, h⟩ := h
  exact (Array.getElem?_eq_some_iff.1 h).1
theorem Pw.below {b : Nat} {w w' : World} (h : Pw w) (hb : Below b w w') (hl : 1 < b) : Pw w' := by
  obtain ⟨t, fr, h⟩ := h
  exact ⟨t, fr, (hb.block _ hl).trans h⟩
theorem Pw.tab {w : World} (h : Pw w) : Lib.TabIs Tryz.prog w "internal/strconv.uint64pow10" .u64 Lib.pow10Tab := by
  obtain ⟨t, fr, h⟩ := h
  have gS : Tryz.prog.globalNamed "internal/strconv.uint64pow10" = some 1 := by kernel_rfl
  unfold Lib.TabIs World.var?
  rw [gS]
  simp only [Option.bind_some, h]
set_option maxHeartbeats 1000000 in
theorem digits_show (n : Int) (w : World) (h0 : 0 ≤ n) (h1 : n ≤ 9223372036854775807) (hP : Pw w) :
    Calls Tryz.prog 41 #[.int .i64 n] w fun e w' => e = .returned (.string (dec n.toNat)) ∧ Below w.heap.size w w' := by
  have FI := mkHid (format_lib n (by omega) h1 w hP.tab)
  have HE := mkHid (itoa_lib h0)
  clear hP
  go_enter Tryz.func41, Tryz.ntmps41
  go_wp2_with (go_at_call 62; refine FI.out.mono ?_; rintro e w2 ⟨rfl, k, os, rfl⟩)
  go_ret
  exact ⟨congrArg (fun z => Ending.returned (Value.string z)) HE.out, Lib.below_grow _ w (Nat.le_refl _) k os⟩
theorem srel_at (o : Int) (w : World) (h1 : 9 ≤ o) (h2 : o ≤ 15) :
    Calls Tryz.prog 52 #[.int .i64 o] w fun e w' => e = .returned (.string (rsg o)) ∧ w = w' := by
  have : o = 9 ∨ o = 10 ∨ o = 11 ∨ o = 12 ∨ o = 13 ∨ o = 14 ∨ o = 15 := by omega
  clear h1 h2
  rcases this with rfl | rfl | rfl | rfl | rfl | rfl | rfl
  all_goals
    go_enter Tryz.func52, Tryz.ntmps52
    go_wp2
    go_ret
    exact ⟨rfl, rfl⟩
theorem strength_at (o : Int) (w : World) :
    Calls Tryz.prog 63 #[.int .i64 o] w fun e w' => e = .returned (.int .i64 (strT o : Nat)) ∧ w = w' := by
  by_cases h3 : o = 3
  · subst h3
    go_enter Tryz.func63, Tryz.ntmps63
    go_wp2
    go_ret
    exact ⟨rfl, rfl⟩
  · by_cases h4 : o = 4
    · subst h4
      go_enter Tryz.func63, Tryz.ntmps63
      go_wp2
      go_ret
      exact ⟨rfl, rfl⟩
    · by_cases h5 : o = 5
      · subst h5
        go_enter Tryz.func63, Tryz.ntmps63
        go_wp2
        go_ret
        exact ⟨rfl, rfl⟩
      · have e3 : (o == 3) = false := by rw [beq_eq_false_iff_ne]; exact h3
        have e4 : (o == 4) = false := by rw [beq_eq_false_iff_ne]; exact h4
        have e5 : (o == 5) = false := by rw [beq_eq_false_iff_ne]; exact h5
        have hs : strT o = 2 := by unfold strT; rw [if_neg (by omega), if_neg h5]
        rw [hs]
        clear hs h3 h4 h5
        go_enter Tryz.func63, Tryz.ntmps63
        go_wp2
        go_ret
        exact ⟨rfl, rfl⟩
/-- how strong a part must be to stand bare -/
def wkT (v : Int) (pl : Nat) : Nat := if v = 2 then 2 else if v = 5 then 1 + pl else pl
theorem need_wk {o v : Int} {pl : Nat} (h : (v = 2 ∧ pl = 0) ∨ ((v = 3 ∨ v = 4 ∨ v = 5) ∧ (pl = 0 ∨ pl = 1))) : needB o v pl = decide (¬ wkT v pl ≤ strT o) := by
  rw [Bool.eq_iff_iff]
  unfold needB wkT strT
  simp only [Bool.or_eq_true, Bool.and_eq_true, decide_eq_true_eq]
  by_cases h3 : o = 3 ∨ o = 4
  · rw [if_pos h3]
    rcases h with ⟨rfl, rfl⟩ | ⟨rfl | rfl | rfl, rfl | rfl⟩ <;> simp <;> omega
  · rw [if_neg h3]
    by_cases h5 : o = 5
    · rw [if_pos h5]
      rcases h with ⟨rfl, rfl⟩ | ⟨rfl | rfl | rfl, rfl | rfl⟩ <;> simp <;> omega
    · rw [if_neg h5]
      rcases h with ⟨rfl, rfl⟩ | ⟨rfl | rfl | rfl, rfl | rfl⟩ <;> simp <;> omega
end Go.Proofs.YtncgmnijgdfenaaGreatDoor.Gl
/- The writer's part and combined. -/
namespace Go.Proofs.YtncgmnijgdfenaaGreatDoor.Gl
open Go Go.RowKit
set_option linter.unusedVariables false
set_option linter.unusedSimpArgs false

/-- a call that writes these bytes -/
abbrev WrA (b : Nat) (l bs : List UInt8) (w : World) (e : Ending) (w' : World) : Prop := e = .returned (.tuple #[]) ∧ Bw w' b (l ++ bs) ∧ Kw b w w'
abbrev TC (W : World) (b : Nat) (bs : List UInt8) (c0 c1 c2 c3 : Value) : Prop :=
  ∀ w l, Below W.heap.size W w → Bw w b l → l.length + bs.length ≤ 140737488355328 → Calls Tryz.prog 23 #[.pointer (some ⟨b, 0, none⟩), .agg #[c0, c1, c2, c3]] w (WrA b l bs w)
theorem Kw.low {B b : Nat} {w w' : World} (h : Kw b w w') (hB : B ≤ b) : Below B w w' := h.1.mono hB
theorem Kw.size {b : Nat} {w w' : World} (h : Kw b w w') : w.heap.size ≤ w'.heap.size := h.1.size
theorem bel_alloc {B : Nat} {W w : World} (h : Below B W w) (hB : B ≤ w.heap.size) (o : Obj) : Below B W (w.alloc o) := h.alloc hB o
theorem Bw.below {w w' : World} {b : Nat} {l : List UInt8} (h : Bw w b l) (hb : Below w.heap.size w w') : Bw w' b l := by
  have key : ∀ p, Lib.BuilderAtF WT U8 b b p (Lib.byteCells l) w → Lib.BuilderAtF WT U8 b b p (Lib.byteCells l) w' := by
    rintro p ⟨h1, v, h2, ⟨h3, h4⟩, h5⟩
    refine ⟨h1, v, (hb.block b (Array.getElem?_eq_some_iff.1 h2).1).trans h2, ⟨h3, ?_⟩, h5⟩
    rcases h4 with h4 | ⟨g, cap, cur, fz, hv, hbg, hg, r⟩
    · exact .inl h4
    · exact .inr ⟨g, cap, cur, fz, hv, hbg, (hb.block g (Array.getElem?_eq_some_iff.1 hg).1).trans hg, r⟩
  rcases h with h | h
  · exact .inl (key _ h)
  · exact .inr (key _ h)
theorem Kw.of {b : Nat} {w w' : World} (h : Below w.heap.size w w') (hb : b ≤ w.heap.size) : Kw b w w' :=
  ⟨h.mono hb, fun k o hk _ _ => (h.block k (Array.getElem?_eq_some_iff.1 hk).1).trans hk⟩
/-- the box of a parameter, behind a write -/
theorem wbox_keep {b : Nat} {w w' : World} {vs : Array Value} {t : TypeId} (hbw : b < w.heap.size) (h : Kw b (w.alloc (.cells vs t)) w') (ht : t ≠ U8) : ∀ o, w'.cell? ⟨w.heap.size, o, none⟩ = vs[o]? := fun o => by
  rw [Lib.cell_of_heap (h.blk (heap_alloc_new w _) (by omega) ht)]
theorem wbox_keep2 {b : Nat} {w w' : World} {k : Nat} {vs : Array Value} {t : TypeId} (hk : w.heap[k]? = some (.cells vs t)) (hb : k ≠ b) (h : Kw b w w') (ht : t ≠ U8) : w'.heap[k]? = some (.cells vs t) := h.blk hk hb ht
set_option maxHeartbeats 1000000 in
theorem part_at {W : World} {b : Nat} (hb : W.heap.size ≤ b) (o : Int) (c1 c2 c3 : Value) (bs : List UInt8) (HT : TC W b bs (.int .i64 o) c1 c2 c3) (s : Nat) (w : World) (l : List UInt8) (hW : Below W.heap.size W w) (h : Bw w b l) (hlen : l.length + (if s ≤ strT o then bs else 91 :: (bs ++ [93])).length ≤ 140737488355328) :
    Calls Tryz.prog 42 #[.pointer (some ⟨b, 0, none⟩), .agg #[.int .i64 o, c1, c2, c3], .int .i64 (s : Nat)] w (WrA b l (if s ≤ strT o then bs else 91 :: (bs ++ [93])) w) := by
  have hbw := h.lt
  have ST := mkHid (strength_at o)
  generalize hk : strT o = k at *
  have hB1 := mkHid (h.alloc (.cells #[.int .i64 o, c1, c2, c3] 42))
  have hW1 := mkHid (bel_alloc hW (by omega) (.cells #[.int .i64 o, c1, c2, c3] 42))
  have hK1 := mkHid ((Kw.refl b w).alloc (by omega) (.cells #[.int .i64 o, c1, c2, c3] 42))
  have HTT := mkHid HT
  clear HT hk h hW
  by_cases hs : s ≤ k
  · rw [if_pos hs] at hlen ⊢
    have hs' : (s : Int) ≤ (k : Int) := by omega
    go_enter Tryz.func42, Tryz.ntmps42
    go_wp2_with (first
      | (go_at_call 63; refine (ST.out _).mono ?_; rintro e w2 ⟨rfl, rfl⟩; have _t := hs')
      | (go_at_call 23; refine (HTT.out _ _ hW1.out hB1.out (by omega)).mono ?_; rintro e w3 ⟨rfl, hb3, hk3⟩))
    go_end0
    exact ⟨rfl, hb3, hK1.out.trans hk3⟩
  · rw [if_neg hs] at hlen ⊢
    have hlen : l.length + (bs.length + 2) ≤ 140737488355328 := by simpa using hlen
    have hs' : ¬ (s : Int) ≤ (k : Int) := by omega
    have P1 := mkHid (put1 hB1.out kSq (by show l.length + 1 ≤ 140737488355328; omega) (g := w.heap.size + 1) (by simp))
    go_enter Tryz.func42, Tryz.ntmps42
    go_wp2_with (go_at_call 63; refine (ST.out _).mono ?_; rintro e w2 ⟨rfl, rfl⟩)
    refine P1.out.mono ?_
    rintro e w3 ⟨rfl, hb3, hk3⟩
    have hx := wbox_keep hbw hk3 (by decide)
    have x0 := hx 0
    have x1 := hx 1
    have x2 := hx 2
    have x3 := hx 3
    have hW3 := mkHid (hW1.out.trans (hk3.low hb))
    have hk3' := mkHid hk3
    have hb3' := mkHid hb3
    clear hk3 hb3
    go_wp2_with (fail)
    refine (HTT.out w3 _ hW3.out hb3'.out (by rw [List.length_append]; show l.length + 1 + _ ≤ 140737488355328; omega)).mono ?_
    rintro e w4 ⟨rfl, hb4, hk4⟩
    have P2 := mkHid (put1 hb4 kQs (by rw [List.length_append, List.length_append]; show l.length + 1 + _ + 1 ≤ 140737488355328; omega) rfl)
    have hk4' := mkHid hk4
    clear hk4 hb4
    go_wp2_with (fail)
    refine P2.out.mono ?_
    rintro e w5 ⟨rfl, hb5, hk5⟩
    have hbz := mkHid hb5
    have hkz := mkHid (((hK1.out.trans hk3'.out).trans hk4'.out).trans hk5)
    clear hb5 hk5
    go_wp2
    go_end0
    refine ⟨rfl, ?_, hkz.out⟩
    have := hbz.out
    rw [List.append_assoc, List.append_assoc] at this
    exact this
end Go.Proofs.YtncgmnijgdfenaaGreatDoor.Gl
/- The writer's combined and term. -/
namespace Go.Proofs.YtncgmnijgdfenaaGreatDoor.Gl
open Go Go.RowKit
set_option linter.unusedVariables false
set_option linter.unusedSimpArgs false

theorem RdT.op {W : World} {t : Tm} {c0 c1 c2 c3 : Value} (h : RdT W t c0 c1 c2 c3) : c0 = .int .i64 t.op := by
  cases t
  rw [RdT] at h
  exact h.1
/-- a term's cells at a place -/
structure At4 (W : World) (g o : Nat) (c0 c1 c2 c3 : Value) : Prop where
  lt : g < W.heap.size
  k0 : W.cell? ⟨g, o, none⟩ = some c0
  k1 : W.cell? ⟨g, o + 1, none⟩ = some c1
  k2 : W.cell? ⟨g, o + 2, none⟩ = some c2
  k3 : W.cell? ⟨g, o + 3, none⟩ = some c3
theorem At4.to {W w : World} {g o : Nat} {c0 c1 c2 c3 : Value} (h : At4 W g o c0 c1 c2 c3) (hb : Below W.heap.size W w) : w.cell? ⟨g, o, none⟩ = some c0 ∧ w.cell? ⟨g, o + 1, none⟩ = some c1 ∧ w.cell? ⟨g, o + 2, none⟩ = some c2 ∧ w.cell? ⟨g, o + 3, none⟩ = some c3 :=
  ⟨(hb.cell (p := ⟨g, o, none⟩) h.lt).trans h.k0, (hb.cell (p := ⟨g, o + 1, none⟩) h.lt).trans h.k1, (hb.cell (p := ⟨g, o + 2, none⟩) h.lt).trans h.k2, (hb.cell (p := ⟨g, o + 3, none⟩) h.lt).trans h.k3⟩
theorem rdtl_one {W : World} {t : Tm} {l : List Tm} {ao : Option Addr} (h : RdTL W (t :: l) ao 0) : ∃ g o c0 c1 c2 c3, ao = some ⟨g, o, none⟩ ∧ At4 W g o c0 c1 c2 c3 ∧ RdT W t c0 c1 c2 c3 := by
  rw [RdTL] at h
  obtain ⟨⟨g, o, c0, c1, c2, c3, e, hg, k0, k1, k2, k3, hr⟩, _⟩ := h
  exact ⟨g, o, c0, c1, c2, c3, e, ⟨hg, by simpa using k0, by simpa using k1, by simpa using k2, by simpa using k3⟩, hr⟩
theorem rdtl_two {W : World} {t u : Tm} {l : List Tm} {ao : Option Addr} (h : RdTL W (t :: u :: l) ao 0) : ∃ g o c0 c1 c2 c3 d0 d1 d2 d3, ao = some ⟨g, o, none⟩ ∧ (At4 W g o c0 c1 c2 c3 ∧ RdT W t c0 c1 c2 c3) ∧ At4 W g (o + 4) d0 d1 d2 d3 ∧ RdT W u d0 d1 d2 d3 := by
  rw [RdTL, RdTL] at h
  obtain ⟨⟨g, o, c0, c1, c2, c3, e, hg, k0, k1, k2, k3, hr⟩, ⟨g', o', d0, d1, d2, d3, e', hg', j0, j1, j2, j3, hr'⟩, _⟩ := h
  rw [e] at e'
  cases e'
  exact ⟨g, o, c0, c1, c2, c3, d0, d1, d2, d3, e, ⟨⟨hg, by simpa using k0, by simpa using k1, by simpa using k2, by simpa using k3⟩, hr⟩, ⟨hg, by simpa using j0, by simpa using j1, by simpa using j2, by simpa using j3⟩, hr'⟩
theorem tb_blk : tbs blk = [32] := rfl
theorem blk_size : blk.size = 1 := rfl
abbrev brL (b : Bool) (bs : List UInt8) : List UInt8 := if b = true then 91 :: (bs ++ [93]) else bs
theorem brL_len (b : Bool) (bs : List UInt8) : (brL b bs).length ≤ bs.length + 2 := by
  unfold brL
  split
  · simp
  · omega
set_option maxRecDepth 100000 in
set_option maxHeartbeats 1000000 in
theorem combined_at {W : World} {b : Nat} (hb : W.heap.size ≤ b) (g o cap : Nat) (c0 d0 : Int) (c1 c2 c3 d1 d2 d3 : Value) (bs cs : List UInt8) (hc : At4 W g o (.int .i64 c0) c1 c2 c3) (hd : At4 W g (o + 4) (.int .i64 d0) d1 d2 d3) (HT : TC W b bs (.int .i64 c0) c1 c2 c3) (HU : TC W b cs (.int .i64 d0) d1 d2 d3)
    (x : ByteArray) (s1 s2 : Nat) (B1 B2 : Bool) (w : World) (l : List UInt8) (hW : Below W.heap.size W w) (h : Bw w b l) (hlen : l.length + (brL B1 bs ++ (32 :: (tbs x ++ (32 :: brL B2 cs)))).length ≤ 140737488355328) (hcap : 2 ≤ cap) (hcz : cap ≤ 9223372036854775807) (e1 : B1 = decide (¬ s1 ≤ strT c0)) (e2 : B2 = decide (¬ s2 ≤ strT d0)) :
    Calls Tryz.prog 43 #[.pointer (some ⟨b, 0, none⟩), .slice (some ⟨g, o, none⟩) 2 cap, .int .i64 (s1 : Nat), .string x, .int .i64 (s2 : Nat)] w (WrA b l (brL B1 bs ++ (32 :: (tbs x ++ (32 :: brL B2 cs)))) w) := by
  have E1 := mkHid (show (if s1 ≤ strT c0 then bs else 91 :: (bs ++ [93])) = brL B1 bs by subst e1; unfold brL; by_cases hs : s1 ≤ strT c0 <;> simp [hs])
  have E2 := mkHid (show (if s2 ≤ strT d0 then cs else 91 :: (cs ++ [93])) = brL B2 cs by subst e2; unfold brL; by_cases hs : s2 ≤ strT d0 <;> simp [hs])
  simp only [List.length_append, List.length_cons, tb_len] at hlen
  have PA := mkHid (part_at hb c0 c1 c2 c3 bs HT s1 w l hW h (by rw [E1.out]; omega))
  have PB := mkHid (fun w l hW h hl => part_at hb d0 d1 d2 d3 cs HU s2 w l hW h hl)
  rw [E1.out] at PA
  rw [E2.out] at PB
  obtain ⟨x0, x1, x2, x3⟩ := hc.to hW
  have HW := mkHid hW
  have HD := mkHid hd
  have HX := mkHid (tb_len x)
  clear HT HU E1 E2 e1 e2 hc hd h hW
  go_enter Tryz.func43, Tryz.ntmps43
  go_wp2_with (fail)
  refine PA.out.mono ?_
  rintro e w3 ⟨rfl, hb3, hk3⟩
  have P1 := mkHid (put3 hb3 blk x blk (by rw [List.length_append, blk_size]; omega) rfl)
  have hk3' := mkHid hk3
  clear hb3 hk3 x0 x1 x2 x3
  go_wp2_with (fail)
  refine P1.out.mono ?_
  rintro e w4 ⟨rfl, hb4, hk4⟩
  have hW4 := mkHid ((HW.out.trans (hk3'.out.low hb)).trans (hk4.low hb))
  obtain ⟨x0, x1, x2, x3⟩ := HD.out.to hW4.out
  have PB' := mkHid (PB.out w4 _ hW4.out hb4 (by rw [List.length_append, List.length_append, List.length_append, List.length_append, tb_blk, HX.out]; simp only [List.length_singleton]; omega))
  have hk4' := mkHid hk4
  clear hb4 hk4
  go_wp2_with (fail)
  refine PB'.out.mono ?_
  rintro e w5 ⟨rfl, hb5, hk5⟩
  have hbz := mkHid hb5
  have hkz := mkHid ((hk3'.out.trans hk4'.out).trans hk5)
  clear hb5 hk5
  go_wp2
  go_end0
  refine ⟨rfl, ?_, hkz.out⟩
  have := hbz.out
  rw [tb_blk] at this
  simpa [List.append_assoc] using this
end Go.Proofs.YtncgmnijgdfenaaGreatDoor.Gl
/- The writer's term. -/
namespace Go.Proofs.YtncgmnijgdfenaaGreatDoor.Gl
open Go Go.RowKit
set_option linter.unusedVariables false
set_option linter.unusedSimpArgs false

theorem two_words {s1 s2 : Nat} {o : Int} (t u : Tm) (h1 : s1 = wkT o 0) (h2 : s2 = wkT o 1) (ho : o = 3 ∨ o = 4 ∨ o = 5) : brL (decide (¬ s1 ≤ strT t.op)) (tbs (shT t)) ++ (32 :: (tbs (tsg o) ++ (32 :: brL (decide (¬ s2 ≤ strT u.op)) (tbs (shT u))))) = hlT o 0 t ++ (32 :: (tbs (tsg o) ++ (32 :: hlT o 1 u))) := by
  subst h1 h2
  unfold hlT
  rw [need_wk (o := t.op) (v := o) (pl := 0) (.inr ⟨ho, .inl rfl⟩), need_wk (o := u.op) (v := o) (pl := 1) (.inr ⟨ho, .inr rfl⟩)]
set_option maxRecDepth 100000 in
set_option maxHeartbeats 2000000 in
theorem term_at {W : World} {b : Nat} (hb : W.heap.size ≤ b) (hP : Pw W) : ∀ t : Tm, t.all (wellT nmB) = true → t.all nT = true → ∀ c0 c1 c2 c3, RdT W t c0 c1 c2 c3 → ∀ w l, Below W.heap.size W w → Bw w b l → l.length + (tbs (shT t)).length ≤ 140737488355328 → Calls Tryz.prog 23 #[.pointer (some ⟨b, 0, none⟩), .agg #[c0, c1, c2, c3]] w (WrA b l (tbs (shT t)) w) := by
  refine Tm.ind (fun o n x a ih hw hn c0 c1 c2 c3 hr w l hW h hlen => ?_)
  have hbw := h.lt
  have hok := all_own hn
  rw [RdT] at hr
  obtain ⟨rfl, rfl, rfl, hz, ao, cap, rfl, hlc, hcz, hL⟩ := hr
  have hWs := hW.size
  rcases well_tm (all_own hw) with ⟨rfl, h0, rfl, rfl⟩ | ⟨rfl, rfl, hx, rfl⟩ | ⟨rfl, rfl, rfl, t, rfl⟩ | ⟨ho, rfl, rfl, t, u, rfl⟩
  · have hB1 := h.alloc (.cells #[.int .i64 0, .int .i64 n, .string emp, .slice ao 0 cap] 42)
    have hW1 := bel_alloc hW (by omega) (.cells #[.int .i64 0, .int .i64 n, .string emp, .slice ao 0 cap] 42)
    have hK1 := mkHid ((Kw.refl b w).alloc (by omega) (.cells #[.int .i64 0, .int .i64 n, .string emp, .slice ao 0 cap] 42))
    have DG := mkHid (digits_show n (w.alloc (.cells #[.int .i64 0, .int .i64 n, .string emp, .slice ao 0 cap] 42)) h0 (of_decide_eq_true hok) (hP.below hW1 hP.lt))
    have HB1 := mkHid hB1
    rw [tt_num] at hlen ⊢
    have HL := mkHid hlen
    clear hW1 hB1 h hW hlen hok hn hw ih hL
    go_enter Tryz.func23, Tryz.ntmps23
    go_wp2_with (fail)
    refine DG.out.mono ?_
    rintro e w3 ⟨rfl, hB3⟩
    have hb3 := hB3.size
    rw [World.size_alloc] at hb3
    have P1 := mkHid (put1 (HB1.out.below hB3) (dec n.toNat) (by have := HL.out; rw [tb_len] at this; omega) rfl)
    have hk3 := mkHid (hK1.out.trans (Kw.of hB3 (by rw [World.size_alloc]; omega)))
    clear hB3
    go_wp2_with (fail)
    refine P1.out.mono ?_
    rintro e w4 ⟨rfl, hb4, hk4⟩
    have hbz := mkHid hb4
    have hkz := mkHid (hk3.out.trans hk4)
    clear hb4 hk4
    go_wp2
    go_end0
    exact ⟨rfl, hbz.out, hkz.out⟩
  · have hB1 := h.alloc (.cells #[.int .i64 1, .int .i64 0, .string x, .slice ao 0 cap] 42)
    have hK1 := mkHid ((Kw.refl b w).alloc (by omega) (.cells #[.int .i64 1, .int .i64 0, .string x, .slice ao 0 cap] 42))
    rw [tt_nam] at hlen ⊢
    have P1 := mkHid (put1 hB1 x (by rw [tb_len] at hlen; omega) (g := w.heap.size + 1) (by simp))
    clear hB1 h hW hlen hok hn hw ih hL
    go_enter Tryz.func23, Tryz.ntmps23
    go_wp2_with (fail)
    refine P1.out.mono ?_
    rintro e w4 ⟨rfl, hb4, hk4⟩
    have hbz := mkHid hb4
    have hkz := mkHid (hK1.out.trans hk4)
    clear hb4 hk4
    go_wp2
    go_end0
    exact ⟨rfl, hbz.out, hkz.out⟩
  · obtain ⟨g, of, d0, d1, d2, d3, rfl, hd, hrt⟩ := rdtl_one hL
    have e0 := hrt.op
    subst e0
    have hbr : brL (decide (¬ 2 ≤ strT t.op)) (tbs (shT t)) = hlT 2 0 t := by
      unfold hlT
      rw [need_wk (o := t.op) (v := 2) (pl := 0) (.inl ⟨rfl, rfl⟩)]
      rfl
    have hif : (if 2 ≤ strT t.op then tbs (shT t) else 91 :: (tbs (shT t) ++ [93])) = hlT 2 0 t := by
      rw [← hbr]
      unfold brL
      by_cases hs : 2 ≤ strT t.op <;> simp [hs]
    rw [tt_neg] at hlen ⊢
    rw [List.length_cons] at hlen
    have HT := mkHid (fun w l hW h hl => part_at hb t.op d1 d2 d3 (tbs (shT t)) (fun w l hW h hl => ih t (by simp) (all_one hw).2 (all_one hn).2 _ _ _ _ hrt w l hW h hl) 2 w l hW h hl)
    rw [hif] at HT
    have hB1 := h.alloc (.cells #[.int .i64 2, .int .i64 0, .string emp, .slice (some ⟨g, of, none⟩) 1 cap] 42)
    have hK1 := mkHid ((Kw.refl b w).alloc (by omega) (.cells #[.int .i64 2, .int .i64 0, .string emp, .slice (some ⟨g, of, none⟩) 1 cap] 42))
    have P1 := mkHid (put1 hB1 kMinus (by show l.length + 1 ≤ 140737488355328; omega) (g := w.heap.size + 1) (by simp))
    have HW := mkHid (bel_alloc hW (by omega) (.cells #[.int .i64 2, .int .i64 0, .string emp, .slice (some ⟨g, of, none⟩) 1 cap] 42))
    have HD := mkHid hd
    have HL := mkHid hlen
    clear hB1 h hW hlen hok hn hw ih hL hd hrt hbr hif
    go_enter Tryz.func23, Tryz.ntmps23
    go_wp2_with (fail)
    refine P1.out.mono ?_
    rintro e w4 ⟨rfl, hb4, hk4⟩
    have x3 := wbox_keep hbw hk4 (by decide) 3
    have hW4 := mkHid (HW.out.trans (hk4.low hb))
    obtain ⟨y0, y1, y2, y3⟩ := HD.out.to hW4.out
    have HT' := mkHid (HT.out w4 _ hW4.out hb4 (by have := HL.out; rw [List.length_append]; show l.length + 1 + _ ≤ 140737488355328; omega))
    have hk4' := mkHid hk4
    clear hb4 hk4
    go_wp2_with (fail)
    refine HT'.out.mono ?_
    rintro e w5 ⟨rfl, hb5, hk5⟩
    have hbz := mkHid hb5
    have hkz := mkHid ((hK1.out.trans hk4'.out).trans hk5)
    clear hb5 hk5
    go_wp2
    go_end0
    refine ⟨rfl, ?_, hkz.out⟩
    have := hbz.out
    rw [List.append_assoc] at this
    exact this
  · obtain ⟨g, of, d0, d1, d2, d3, e0, e1, e2, e3, rfl, ⟨hd, hrt⟩, hd', hru⟩ := rdtl_two hL
    have z0 := hrt.op
    have z1 := hru.op
    subst z0 z1
    rw [tt_two ho] at hlen ⊢
    have CB := mkHid (fun s1 s2 k1 k2 w l hW h hl => combined_at (b := b) hb g of cap t.op u.op d1 d2 d3 e1 e2 e3 (tbs (shT t)) (tbs (shT u)) hd hd' (fun w l hW h hl => ih t (by simp) (all_two hw).2.1 (all_two hn).2.1 _ _ _ _ hrt w l hW h hl) (fun w l hW h hl => ih u (by simp) (all_two hw).2.2 (all_two hn).2.2 _ _ _ _ hru w l hW h hl) (tsg o) s1 s2 (decide (¬ s1 ≤ strT t.op)) (decide (¬ s2 ≤ strT u.op)) w l hW h (by rw [two_words t u k1 k2 ho]; exact hl) hlc hcz rfl rfl)
    have TW := mkHid (fun s1 s2 k1 k2 => two_words (s1 := s1) (s2 := s2) (o := o) t u k1 k2 ho)
    have hB1 := mkHid (h.alloc (.cells #[.int .i64 o, .int .i64 0, .string emp, .slice (some ⟨g, of, none⟩) 2 cap] 42))
    have hK1 := mkHid ((Kw.refl b w).alloc (by omega) (.cells #[.int .i64 o, .int .i64 0, .string emp, .slice (some ⟨g, of, none⟩) 2 cap] 42))
    have HW := mkHid (bel_alloc hW (by omega) (.cells #[.int .i64 o, .int .i64 0, .string emp, .slice (some ⟨g, of, none⟩) 2 cap] 42))
    have HL := mkHid hlen
    clear h hW hlen hok hn hw ih hL hd hrt hd' hru
    rcases ho with rfl | rfl | rfl
    · have C1 := mkHid (CB.out 0 1 rfl rfl _ l HW.out hB1.out HL.out)
      rw [TW.out 0 1 rfl rfl] at C1
      clear CB TW HL
      go_enter Tryz.func23, Tryz.ntmps23
      go_wp2_with (fail)
      refine C1.out.mono ?_
      rintro e w5 ⟨rfl, hb5, hk5⟩
      have hbz := mkHid hb5
      have hkz := mkHid (hK1.out.trans hk5)
      clear hb5 hk5
      go_wp2
      go_end0
      exact ⟨rfl, hbz.out, hkz.out⟩
    · have C1 := mkHid (CB.out 0 1 rfl rfl _ l HW.out hB1.out HL.out)
      rw [TW.out 0 1 rfl rfl] at C1
      clear CB TW HL
      go_enter Tryz.func23, Tryz.ntmps23
      go_wp2_with (fail)
      refine C1.out.mono ?_
      rintro e w5 ⟨rfl, hb5, hk5⟩
      have hbz := mkHid hb5
      have hkz := mkHid (hK1.out.trans hk5)
      clear hb5 hk5
      go_wp2
      go_end0
      exact ⟨rfl, hbz.out, hkz.out⟩
    · have C1 := mkHid (CB.out 1 2 rfl rfl _ l HW.out hB1.out HL.out)
      rw [TW.out 1 2 rfl rfl] at C1
      clear CB TW HL
      go_enter Tryz.func23, Tryz.ntmps23
      go_wp2_with (fail)
      refine C1.out.mono ?_
      rintro e w5 ⟨rfl, hb5, hk5⟩
      have hbz := mkHid hb5
      have hkz := mkHid (hK1.out.trans hk5)
      clear hb5 hk5
      go_wp2
      go_end0
      exact ⟨rfl, hbz.out, hkz.out⟩
end Go.Proofs.YtncgmnijgdfenaaGreatDoor.Gl
