/- Rows and blocks: a store elsewhere. -/
import Derived.Test.YtiapkblebbcfbaaGreatNmC
import Derived.Test.YtiapkblebbcfbaaGreatPsE
import Derived.Test.YtiapkblebbcfbaaGreatGlW
import Derived.Test.YtiapkblebbcfbaaGreatGlH
import Derived.Deep.RegionHeld3
import Derived.Deep.DeepCutAuto
namespace Go.Proofs.YtiapkblebbcfbaaGreat.Gl
open Go.RowKit
set_option linter.unusedVariables false

theorem rds_other {w : World} {ro : Option Addr} {n c X : Nat} {T : List ByteArray} (h : RdS w ro n c T) (hne : ∀ ad, ro = some ad → ad.block ≠ X) (i : Nat) (v : Value) : RdS (w.setCell ⟨X, i, none⟩ v) ro n c T := by
  refine ⟨h.eqlen, h.lecap, h.lemax, h.isnil, fun j hj => ?_⟩
  obtain ⟨b, off, rfl, hc⟩ := h.cell j hj
  refine ⟨b, off, rfl, ?_⟩
  have hb : b ≠ X := hne _ rfl
  unfold World.cell? at hc ⊢
  rw [Below.heap_setCell _ _ _ b hb]
  exact hc
theorem rds_st3 {w : World} {ro : Option Addr} {n c X : Nat} {T : List ByteArray} (h : RdS w ro n c T) (hne : ∀ ad, ro = some ad → ad.block ≠ X) (v0 v1 v2 : Value) : RdS (st3 w X v0 v1 v2) ro n c T := rds_other (rds_other (rds_other h hne 0 v0) hne 1 v1) hne 2 v2
theorem owns_other {w : World} {base : Nat} {t : TypeId} {v : Value} {n X : Nat} {xs : List Value} (h : w.ownsRow base t 1 v n xs) (hne : ∀ g, v.ownBlock = some g → g ≠ X) (i : Nat) (u : Value) : (w.setCell ⟨X, i, none⟩ u).ownsRow base t 1 v n xs := by
  refine ⟨h.1, ?_⟩
  rcases h.2 with h | ⟨g, cap, cur, e, hb, hh, hr⟩
  · exact .inl h
  · subst e
    exact .inr ⟨g, cap, cur, rfl, hb, by rw [Below.heap_setCell _ _ _ g (hne g rfl)]; exact hh, hr⟩
theorem owns_st3 {w : World} {base : Nat} {t : TypeId} {v : Value} {n X : Nat} {xs : List Value} (h : w.ownsRow base t 1 v n xs) (hne : ∀ g, v.ownBlock = some g → g ≠ X) (v0 v1 v2 : Value) : (st3 w X v0 v1 v2).ownsRow base t 1 v n xs := owns_other (owns_other (owns_other h hne 0 v0) hne 1 v1) hne 2 v2
theorem rdz_other {w : World} {ro : Option Addr} {n c X : Nat} {T : List Int} (h : RdZ w ro n c T) (hne : ∀ ad, ro = some ad → ad.block ≠ X) (i : Nat) (v : Value) : RdZ (w.setCell ⟨X, i, none⟩ v) ro n c T := by
  refine ⟨h.eqlen, h.lecap, h.lemax, h.isnil, fun j hj => ?_⟩
  obtain ⟨b, off, rfl, hc⟩ := h.cell j hj
  refine ⟨b, off, rfl, ?_⟩
  have hb : b ≠ X := hne _ rfl
  unfold World.cell? at hc ⊢
  rw [Below.heap_setCell _ _ _ b hb]
  exact hc
theorem rdz_st3 {w : World} {ro : Option Addr} {n c X : Nat} {T : List Int} (h : RdZ w ro n c T) (hne : ∀ ad, ro = some ad → ad.block ≠ X) (v0 v1 v2 : Value) : RdZ (st3 w X v0 v1 v2) ro n c T := rdz_other (rdz_other (rdz_other h hne 0 v0) hne 1 v1) hne 2 v2
theorem LrB.st3 {B X : Nat} {w : World} {r : Lr} {v : Value} (h : LrB B w r v) (hX : X < B) (v0 v1 v2 : Value) : LrB B (Gl.st3 w X v0 v1 v2) r v := by
  cases r with
  | er e => exact h
  | ok s =>
    obtain ⟨no, co, n, c, m, d, e, h1, h2, h3⟩ := h
    exact ⟨no, co, n, c, m, d, e, ⟨rds_st3 h1.1 (fun ad e => by have := h2 ad e; omega) _ _ _, rdz_st3 h1.2 (fun ad e => by have := h3 ad e; omega) _ _ _⟩, h2, h3⟩
theorem mul_yes (a b : Int) (w : World) (ha : I64 a) (hb : I64 b) (h : in64 (a * b) = true) : Calls Tryz.prog 88 #[.int .i64 a, .int .i64 b] w fun e w' => e = .returned (.tuple #[.int .i64 (a * b), .int .i64 0]) ∧ w = w' := (opc_mul.2 a b w ha hb).1 h
theorem mul_not (a b : Int) (w : World) (ha : I64 a) (hb : I64 b) (h : in64 (a * b) = false) : Calls Tryz.prog 88 #[.int .i64 a, .int .i64 b] w fun e w' => e = .returned (.tuple #[.int .i64 0, .int .i64 10]) ∧ w = w' := (opc_mul.2 a b w ha hb).2 h
end Go.Proofs.YtiapkblebbcfbaaGreat.Gl
/- The document's sums: of, note. -/
namespace Go.Proofs.YtiapkblebbcfbaaGreat.Gl
open Go.RowKit
set_option linter.unusedVariables false
set_option linter.unusedSimpArgs false

/-- a sum as the document has it: names, coefficients, constant, error -/
abbrev sum4 (no co : Option Addr) (n c m d : Nat) (k e : Int) : Array Value := #[.slice no n c, .slice co m d, .int .i64 k, .int .i64 e]
theorem cof_drop (x : ByteArray) (ns : List ByteArray) (cs : List Int) (k : Nat) (h : k < ns.length) (h2 : k < cs.length) : cof x (ns.drop k) (cs.drop k) = if ((ns.getD k emp).toList == x.toList) = true then cs.getD k 0 else cof x (ns.drop (k + 1)) (cs.drop (k + 1)) := by
  rw [List.drop_eq_getElem_cons h, List.drop_eq_getElem_cons h2, cof, sgetD_of h, getD_of h2]
set_option maxHeartbeats 2000000 in
theorem of_at (no co : Option Addr) (n c m d : Nat) (k e : Int) (ns : List ByteArray) (cs : List Int) (x : ByteArray) (w : World) (h : RdS w no n c ns) (h2 : RdZ w co m d cs) (hmn : m = n) :
    Calls Tryz.prog 48 #[.agg (sum4 no co n c m d k e), .string x] w fun e w' => e = .returned (.int .i64 (cof x ns cs)) ∧ Below w.heap.size w w' := by
  subst hmn
  have hcn := h.lecap
  have hcx := h.lemax
  have hcn2 := h2.lecap
  have hcx2 := h2.lemax
  have HT : Hid (ns.length = m) := h.eqlen
  have HL : Hid (cs.length = m) := h2.eqlen
  have hB1 := bal w (.cells (sum4 no co m c m d k e) 32)
  have hR1 := rb_new w (sum4 no co m c m d k e) 32
  have h1 := h.below (Nat.le_refl _) hB1
  have h3 := h2.below (Nat.le_refl _) hB1
  generalize hcx : cof x ns cs = cx
  have HC : Hid (cof x ns cs = cx) := hcx
  clear hcx
  go_enter Tryz.func48, Tryz.ntmps48
  go_wp2
  generalize w.alloc (.cells #[.slice no m c, .slice co m d, .int .i64 k, .int .i64 e] 32) = w1 at hB1 hR1 h1 h3 ⊢
  have r0 : w1.cell? ⟨w.heap.size, 0, none⟩ = some (.slice no m c) := (txcell (vs := sum4 no co m c m d k e) hR1 0 _ rfl).1
  have r1 : w1.cell? ⟨w.heap.size, 1, none⟩ = some (.slice co m d) := (txcell (vs := sum4 no co m c m d k e) hR1 1 _ rfl).1
  go_loop [5] (fun i => ∃ j : Nat, j ≤ m ∧ i = .int .i64 j ∧ Hid (cof x ns cs = cof x (ns.drop j) (cs.drop j))) (fun i => m - (intOf i).toNat)
  case atStart => exact ⟨0, Nat.zero_le _, rfl, rfl⟩
  case round =>
    obtain ⟨j, hj, rfl, hcof⟩ := hrel
    by_cases hlt : j < m
    · obtain ⟨g, o, rfl, hc⟩ := h1.cell j hlt
      obtain ⟨g', o', rfl, hc'⟩ := h3.cell j hlt
      have HD := mkHid (cof_drop x ns cs j (by rw [HT.out]; exact hlt) (by rw [HL.out]; exact hlt))
      generalize ns.getD j emp = y at hc HD
      generalize cs.getD j 0 = z at hc' HD
      cases hq : (y.toList == x.toList) with
      | true =>
        have HE : Hid (z = cx) := by show _ = _; rw [← HC.out, hcof.out, HD.out, if_pos hq]
        go_wp2
        go_ret
        exact ⟨ret1 HE.out, hB1⟩
      | false =>
        have HE : Hid (cof x ns cs = cof x (ns.drop (j + 1)) (cs.drop (j + 1))) := by show _ = _; rw [hcof.out, HD.out, if_neg (by rw [hq]; decide)]
        go_wp2
        go_round
        case rel => exact ⟨j + 1, by omega, by go_num, HE⟩
        case measure => simp [intOf]; omega
    · obtain rfl : j = m := by omega
      have HE : Hid (0 = cx) := by
        show _ = _
        rw [← HC.out, hcof.out, List.drop_of_length_le (by rw [HT.out]; exact Nat.le_refl _), cof_none x _ _ (by simp)]
      go_wp2
      go_ret
      exact ⟨ret1 HE.out, hB1⟩
theorem note_ok (p : Nat) (v : Int) (w : World) : Calls Tryz.prog 27 #[.pointer (some ⟨p, 0, none⟩), .int .i64 v, .int .i64 0] w fun e w' => e = .returned (.int .i64 v) ∧ w = w' := by
  go_enter Tryz.func27, Tryz.ntmps27
  go_wp2
  go_ret
  exact ⟨rfl, rfl⟩
theorem note_no (p : Nat) (v er : Int) (he : er ≠ 0) (vs : Array Value) (w : World) (hR : Rb w p vs 32) (h3 : vs.size = 4) : Calls Tryz.prog 27 #[.pointer (some ⟨p, 0, none⟩), .int .i64 v, .int .i64 er] w fun e w' => e = .returned (.int .i64 v) ∧ w' = w.setCell ⟨p, 3, none⟩ (.int .i64 91) := by
  obtain ⟨u, hu⟩ : ∃ u, vs[3]? = some u := ⟨vs[3], by simp [h3]⟩
  obtain ⟨c3, f3⟩ := txcell (vs := vs) hR 3 u hu
  have he' : (er == 0) = false := by rw [beq_eq_false_iff_ne]; exact he
  go_enter Tryz.func27, Tryz.ntmps27
  go_wp2
  go_ret
  exact ⟨rfl, rfl⟩
end Go.Proofs.YtiapkblebbcfbaaGreat.Gl
/- The document's plus: its names. -/
namespace Go.Proofs.YtiapkblebbcfbaaGreat.Gl
open Go Go.RowKit
set_option linter.unusedVariables false
set_option linter.unusedSimpArgs false

theorem step_of {P : Program} {ops : Array Oper} {o : Oper} {a : Act} {w : World} {K : Act → World → Prop} {Q : Exit → Act → World → Prop} {E : Prop} (hgd : o.guard = none) (h : Oper.wp P o a w K Q) : if Region.wanted o (yielded ops a.tmps) = true then Oper.wp P o a w K Q else E := by
  rw [if_pos (by simp [Region.wanted, hgd])]
  exact h
/-- an append onto a row that nobody else has -/
theorem op_joinS {o : Oper} {a : Act} {K : Act → World → Prop} {Q : Exit → Act → World → Prop} (W : World) (base : Nat) (s x : Operand)
    (ho : o.op = .call { callee := .builtin .append, args := #[s, x], argTypes := #[26, 26] }) (v : Value) (k : Nat) (O : List ByteArray) (hs : a.eval s = v)
    (ao : Option Addr) (m c : Nat) (D : List ByteArray) (hx : a.eval x = .slice ao m c) (hown : W.ownsRow base 9 1 v k (cellsS O)) (hR : RdS W ao m c D) (hbase : base ≤ W.heap.size) (hk : (k + m) * 16 ≤ 140737488355328) (B0 : World) (hbel : Below base B0 W)
    (h : ∀ a' c' w', w'.ownsRow base 9 1 (.slice a' (k + m) c') (k + m) (cellsS (O ++ D)) → RdS w' a' (k + m) c' (O ++ D) → Below base B0 w' → (∀ p vs t, t ≠ 9 → Rb W p vs t → Rb w' p vs t) → K (a.put o.dst (.slice a' (k + m) c')) w') : o.wp Tryz.prog a W K Q := by
  obtain ⟨i0, hi, hz0, hz1, hz2⟩ := info_parts Tryz.infoStr
  cases ao with
  | none =>
    have hc0 := hR.isnil rfl
    have hl := hR.lecap
    obtain rfl : c = 0 := hc0
    obtain rfl : m = 0 := by omega
    have hz : D = [] := List.length_eq_zero_iff.1 hR.eqlen
    subst hz
    have hrun := run_append_owned_none (P := Tryz.prog) (w := W) base 26 o.type 9 i0 1 Tryz.underlying26 hi v k (cellsS O) hown
    obtain ⟨ro, cr, rfl, hR'⟩ := rds_of_owns hown
    unfold Oper.wp
    simp [execOp, ho, resolve, invoke, builtin, hs, hx, hrun, Result.andThen]
    have := h ro cr W (by simpa using hown) (by simpa using hR') hbel (fun p vs t _ hp => hp)
    exact (show K (a.put o.dst (.slice ro k cr)) W by simpa using this)
  | some ad =>
    refine wp_append_own W s x 26 ho base 9 i0 (.string emp) 1 16 Tryz.underlying26 hi hz0 hz1 hz2 rfl (by decide) v k (cellsS O) hs hown ad m c (cellsS D) hx (by simp [hR.eqlen]) (cells_argA hR) (strs_oneCell D) (by unfold maxLen; omega) (by omega) hbase ?_
    intro v' w' h2 h3 h4
    have h2' : w'.ownsRow base 9 1 v' (k + m) (cellsS (O ++ D)) := by simpa [cellsS] using h2
    obtain ⟨ro, cr, rfl, hR'⟩ := rds_of_owns h2'
    refine h _ _ w' h2' hR' (hbel.grown h3 hbase fun q hq => (hown.lt q hq).1) ?_
    intro p vs t ht hp
    refine (h3.block p (Array.getElem?_eq_some_iff.1 hp).1 ?_).trans hp
    intro e
    rcases hown.2 with ⟨rfl, -⟩ | ⟨g, cap, cur, rfl, hb, hg, -⟩
    · cases e
    · simp only [Value.ownBlock, Option.some.injEq] at e
      subst e
      have := hg.symm.trans hp
      simp only [Option.some.injEq, Obj.cells.injEq] at this
      exact ht this.2.1.symm

theorem op_firstS {o : Oper} {a : Act} {K : Act → World → Prop} {Q : Exit → Act → World → Prop} (W : World) (base : Nat) (s x : Operand)
    (ho : o.op = .call { callee := .builtin .append, args := #[s, x], argTypes := #[26, 26] }) (v : Value) (hs : a.eval s = v)
    (ao : Option Addr) (m c : Nat) (D : List ByteArray) (hx : a.eval x = .slice ao m c) (hown : W.ownsRow base 9 1 v 0 []) (hR : RdS W ao m c D) (hbase : base ≤ W.heap.size) (hk : m * 16 ≤ 140737488355328) (B0 : World) (hbel : Below base B0 W)
    (h : ∀ a' c' w', w'.ownsRow base 9 1 (.slice a' m c') m (cellsS D) → RdS w' a' m c' D → Below base B0 w' → (∀ p vs t, t ≠ 9 → Rb W p vs t → Rb w' p vs t) → K (a.put o.dst (.slice a' m c')) w') : o.wp Tryz.prog a W K Q := by
  refine op_joinS W base s x ho v 0 [] hs ao m c D hx hown hR hbase (by omega) B0 hbel ?_
  intro a' c' w' h1 h2 h3 h4
  rw [Nat.zero_add, List.nil_append] at h1 h2
  rw [Nat.zero_add]
  exact h a' c' w' h1 h2 h3 h4

def DSum (w : World) (r : Lr) (v : Value) : Prop := match r with
  | .ok s => ∃ no co n c m d, v = .agg (sum4 no co n c m d s.k 0) ∧ RdS w no n c s.ns ∧ RdZ w co m d s.cs ∧ Bk w no 9 ∧ Bk w co 2
  | .er e => ∃ no co n c m d k, v = .agg (sum4 no co n c m d k e) ∧ (e = 90 ∨ e = 91)
abbrev z4 : Array Value := #[.slice none 0 0, .slice none 0 0, .int .i64 0, .int .i64 0]
theorem bk_set {w : World} {a : Option Addr} {t : TypeId} (h : Bk w a t) {p : Nat} (hne : ∀ ad, a = some ad → ad.block ≠ p) (i : Nat) (v : Value) : Bk (w.setCell ⟨p, i, none⟩ v) a t := fun ad e => by
  obtain ⟨cur, hc⟩ := h ad e
  exact ⟨cur, (Below.heap_setCell _ _ _ _ (hne ad e)).trans hc⟩
/-- a sum's block, its names just stored -/
def Fn4 (w3 w' : World) (p : Nat) (a : Option Addr) (l c : Nat) (T : List ByteArray) : Prop := w3.heap.size ≤ p ∧ Rb w' p (sum4 a none l c 0 0 0 0) 32 ∧ RdS w' a l c T ∧ Bk w' a 9 ∧ Below w3.heap.size w3 w'
theorem fn4_new {w3 w6 : World} {a : Option Addr} {l c : Nat} {T : List ByteArray} (hE : Below w3.heap.size w3 w6) (hR : RdS w6 a l c T) (hK : Bk w6 a 9) : Fn4 w3 (w6.alloc (.cells #[.slice a l c, .slice none 0 0, .int .i64 0, .int .i64 0] 32)) w6.heap.size a l c T := ⟨hE.size, rb_new w6 _ _, hR.below (Nat.le_refl _) (bal w6 _), hK.below (bal w6 _), bt2 hE (bal w6 _)⟩
theorem fn4_old {w3 w6 : World} {p : Nat} {a : Option Addr} {l c : Nat} {T : List ByteArray} (hz : Rb w6 p z4 32) (hp : w3.heap.size ≤ p) (hE : Below w3.heap.size w3 w6) (hR : RdS w6 a l c T) (hK : Bk w6 a 9) : Fn4 w3 ((((w6.setCell ⟨p, 0, none⟩ (.slice a l c)).setCell ⟨p, 1, none⟩ (.slice none 0 0)).setCell ⟨p, 2, none⟩ (.int .i64 0)).setCell ⟨p, 3, none⟩ (.int .i64 0)) p a l c T :=
  ⟨hp, rb_four hz rfl _ _ _ _, rds_other (rds_st3 hR (hK.ne hz (by decide)) _ _ _) (hK.ne hz (by decide)) _ _, bk_set (bk_set (bk_set (bk_set hK (hK.ne hz (by decide)) 0 _) (hK.ne hz (by decide)) 1 _) (hK.ne hz (by decide)) 2 _) (hK.ne hz (by decide)) 3 _, (bel_st3 hE hp _ _ _).setCell (p := ⟨p, 3, none⟩) hp _⟩
end Go.Proofs.YtiapkblebbcfbaaGreat.Gl
/- 's.Coefs = append(s.Coefs, s.note(v, e))': what its operations keep. -/
namespace Go.Proofs.YtiapkblebbcfbaaGreat.Gl
open Go Go.RowKit
set_option linter.unusedVariables false
set_option linter.unusedSimpArgs false

theorem note_any (p : Nat) (v er : Int) (no co : Option Addr) (n c m d : Nat) (k e : Int) (w : World) (hR : Rb w p (sum4 no co n c m d k e) 32) : Calls Tryz.prog 27 #[.pointer (some ⟨p, 0, none⟩), .int .i64 v, .int .i64 er] w fun en w' => en = .returned (.int .i64 v) ∧ Rb w' p (sum4 no co n c m d k (if er = 0 then e else 91)) 32 ∧ Bux p w w' := by
  by_cases h : er = 0
  · subst h
    refine (note_ok p v w).mono ?_
    rintro en w' ⟨rfl, rfl⟩
    exact ⟨rfl, by rw [if_pos rfl]; exact hR, Bux.refl _ _⟩
  · refine (note_no p v er h _ w hR rfl).mono ?_
    rintro en w' ⟨rfl, rfl⟩
    refine ⟨rfl, ?_, (Bux.refl _ _).set 3 _⟩
    rw [if_neg h]
    exact tx_set hR 3 _
theorem owns_but {w w' : World} {base p : Nat} {t : TypeId} {v : Value} {n : Nat} {xs : List Value} (h : w.ownsRow base t 1 v n xs) (hb : Bux p w w') (hp : p < base) : w'.ownsRow base t 1 v n xs := by
  refine ⟨h.1, ?_⟩
  rcases h.2 with h2 | ⟨g, cap, cur, e, hg, hc, h3⟩
  · exact .inl h2
  · exact .inr ⟨g, cap, cur, e, hg, (hb.block g (Array.getElem?_eq_some_iff.1 hc).1 (by omega)).trans hc, h3⟩
theorem bux_low {b : Nat} {w w1 w2 : World} (h : Bux b w w1) (k : Below w.heap.size w1 w2) : Bux b w w2 :=
  ⟨k.os.trans h.os, k.tape.trans h.tape, k.output.trans h.output, Nat.le_trans h.size k.size, fun i hi hn => (k.block i hi).trans (h.block i hi hn)⟩
/-- how it stands about the sum's block p (base: what is new) -/
structure I8 (wc : World) (p : Nat) (a ck : Option Addr) (l c k dk : Nat) (e ex : Int) (O : List Int) (y : World) : Prop where
  bux : Bux p wc y
  blk : ∃ e', (e' = e ∨ e' = ex) ∧ Rb y p (sum4 a ck l c k dk 0 e') 32
  own : y.ownsRow wc.heap.size 2 1 (.slice ck k dk) k (cellsZ O)
structure Rel8 (wc : World) (p : Nat) (a ck : Option Addr) (l c k dk : Nat) (e ex : Int) (O : List Int) (vv : Int) (x y : World) : Prop where
  inv : I8 wc p a ck l c k dk e ex O x → I8 wc p a ck l c k dk e ex O y
  noted : Rb x p (sum4 a ck l c k dk 0 ex) 32 → Rb y p (sum4 a ck l c k dk 0 ex) 32
  size : x.heap.size ≤ y.heap.size
  block : ∀ b, b < x.heap.size → b ≠ p → (∀ ad, ck = some ad → ad.block ≠ b) → y.heap[b]? = x.heap[b]?
  owns : ∀ v n ys, x.ownsRow wc.heap.size 2 1 v n ys → ys <+: cellsZ (O ++ [vv]) → y.ownsRow wc.heap.size 2 1 v n ys
section
variable {wc : World} {p : Nat} {a ck : Option Addr} {l c k dk : Nat} {e ex : Int} {O : List Int} {vv : Int}
theorem Rel8.refl (x : World) : Rel8 wc p a ck l c k dk e ex O vv x x := ⟨id, id, Nat.le_refl _, fun _ _ _ _ => rfl, fun _ _ _ h _ => h⟩
theorem Rel8.trans (x y z : World) (h : Rel8 wc p a ck l c k dk e ex O vv x y) (h' : Rel8 wc p a ck l c k dk e ex O vv y z) : Rel8 wc p a ck l c k dk e ex O vv x z :=
  ⟨h'.inv ∘ h.inv, h'.noted ∘ h.noted, Nat.le_trans h.size h'.size, fun b hb h1 h2 => (h'.block b (Nat.lt_of_lt_of_le hb h.size) h1 h2).trans (h.block b hb h1 h2), fun v n ys h1 h2 => h'.owns v n ys (h.owns v n ys h1 h2) h2⟩
theorem I8.below {x y : World} (h : I8 wc p a ck l c k dk e ex O x) (hb : Below x.heap.size x y) : I8 wc p a ck l c k dk e ex O y := by
  obtain ⟨e', h1, h2⟩ := h.blk
  exact ⟨h.bux.trans (Bux.of hb), ⟨e', h1, h2.keep hb⟩, owns_below h.own hb⟩
theorem Rel8.of {x y : World} (hb : Below x.heap.size x y) : Rel8 wc p a ck l c k dk e ex O vv x y :=
  ⟨fun h => h.below hb, fun h => h.keep hb, hb.size, fun b h _ _ => hb.block b h, fun v n ys h _ => owns_below h hb⟩
theorem Rel8.note {x y : World} (hp : p < wc.heap.size) (hb : Bux p x y) (hR : Rb y p (sum4 a ck l c k dk 0 ex) 32) : Rel8 wc p a ck l c k dk e ex O vv x y :=
  ⟨fun h => ⟨h.bux.trans hb, ⟨ex, .inr rfl, hR⟩, owns_but h.own hb hp⟩, fun _ => hR, hb.size, fun b h h1 _ => hb.block b h h1, fun v n ys h _ => owns_but h hb hp⟩
theorem I8.c1 {y : World} (h : I8 wc p a ck l c k dk e ex O y) : y.cell? ⟨p, 1, none⟩ = some (.slice ck k dk) := by
  obtain ⟨e', -, hR⟩ := h.blk
  exact (txcell (vs := sum4 a ck l c k dk 0 e') hR 1 _ rfl).1
theorem I8.row_ne {y : World} (h : I8 wc p a ck l c k dk e ex O y) : ∀ ad, ck = some ad → wc.heap.size ≤ ad.block ∧ ad.block < y.heap.size := fun ad he => by
  subst he
  exact h.own.lt ad.block rfl
theorem Rel8.push {x y : World} (hp : p < wc.heap.size) (hlow : Below wc.heap.size x y) (hblk : ∀ b, b < x.heap.size → (∀ ad, ck = some ad → ad.block ≠ b) → y.heap[b]? = x.heap[b]?) (hown : ∀ v n ys, x.ownsRow wc.heap.size 2 1 v n ys → ys <+: cellsZ (O ++ [vv]) → y.ownsRow wc.heap.size 2 1 v n ys) : Rel8 wc p a ck l c k dk e ex O vv x y := by
  refine ⟨fun h => ?_, fun h => (hlow.block p hp).trans h, hlow.size, fun b hb _ h2 => hblk b hb h2, hown⟩
  obtain ⟨e', h1, h2⟩ := h.blk
  exact ⟨bux_low h.bux hlow, ⟨e', h1, (hlow.block p hp).trans h2⟩, hown _ _ _ h.own ⟨[.int .i64 vv], by simp [cellsZ]⟩⟩
theorem c1_of {y : World} (hR : Rb y p (sum4 a ck l c k dk 0 ex) 32) : y.cell? ⟨p, 1, none⟩ = some (.slice ck k dk) ∧ y.frozen? ⟨p, 1, none⟩ = false := txcell (vs := sum4 a ck l c k dk 0 ex) hR 1 _ rfl
theorem c1_set {y : World} {c9 : Option Addr} {k9 d9 : Nat} (hR : Rb y p (sum4 a ck l c k dk 0 ex) 32) : Rb (y.setCell ⟨p, 1, none⟩ (.slice c9 k9 d9)) p (sum4 a c9 l c k9 d9 0 ex) 32 := tx_set hR 1 _
def P70 (p : Nat) (a ck : Option Addr) (l c k dk : Nat) (ex vv : Int) (v : Value) (y : World) : Prop := v = .int .i64 vv ∧ Rb y p (sum4 a ck l c k dk 0 ex) 32
def P71 (p : Nat) (a ck : Option Addr) (l c k dk : Nat) (ex vv : Int) (v : Value) (y : World) : Prop := ∃ g, v = .slice (some ⟨g, 0, none⟩) 1 1 ∧ y.cell? ⟨g, 0, none⟩ = some (.int .i64 vv) ∧ g ≠ p ∧ (∀ ad, ck = some ad → ad.block ≠ g) ∧ Rb y p (sum4 a ck l c k dk 0 ex) 32
def P72 (wc : World) (p : Nat) (a ck : Option Addr) (l c k dk : Nat) (e ex : Int) (O : List Int) (vv : Int) (v : Value) (y : World) : Prop := ∃ c9 d9, v = .slice c9 (k + 1) d9 ∧ y.ownsRow wc.heap.size 2 1 (.slice c9 (k + 1) d9) (k + 1) (cellsZ (O ++ [vv])) ∧ Rb y p (sum4 a ck l c k dk 0 ex) 32 ∧ I8 wc p a ck l c k dk e ex O y
theorem P70.keep {v : Value} {y z : World} (h : P70 p a ck l c k dk ex vv v y) (hr : Rel8 wc p a ck l c k dk e ex O vv y z) : P70 p a ck l c k dk ex vv v z := ⟨h.1, hr.noted h.2⟩
theorem P71.keep {v : Value} {y z : World} (h : P71 p a ck l c k dk ex vv v y) (hr : Rel8 wc p a ck l c k dk e ex O vv y z) : P71 p a ck l c k dk ex vv v z := by
  obtain ⟨g, h1, h2, h3, h4, h5⟩ := h
  exact ⟨g, h1, (World.cell?_of_block (hr.block g (World.block_lt_of_cell? _ _ h2) h3 h4)).trans h2, h3, h4, hr.noted h5⟩
theorem P72.keep {v : Value} {y z : World} (h : P72 wc p a ck l c k dk e ex O vv v y) (hr : Rel8 wc p a ck l c k dk e ex O vv y z) : P72 wc p a ck l c k dk e ex O vv v z := by
  obtain ⟨c9, d9, h1, h2, h3, h4⟩ := h
  exact ⟨c9, d9, h1, hr.owns _ _ _ h2 (List.prefix_refl _), hr.noted h3, hr.inv h4⟩
end
end Go.Proofs.YtiapkblebbcfbaaGreat.Gl
