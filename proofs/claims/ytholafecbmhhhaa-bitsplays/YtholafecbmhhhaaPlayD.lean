/- Three sets beside three: in the middle of a round of the script. -/
import Derived.Test.YtholafecbmhhhaaPlayC
namespace Go.Proofs.Ytholafecbmhhhaa.Dg
open Go.RowKit
set_option linter.unusedVariables false

theorem which_fix (x : Int) : ∃ k : Nat, k < 3 ∧ Hid (∀ w, Calls Try.prog 12 #[.int .i64 x] w fun e w' => e = .returned (.int .i64 k) ∧ w = w') := by
  have h1 : -3 < Int.tmod x 3 := by have := Int.lt_tmod_of_pos x (show (0 : Int) < 3 by omega); omega
  have h2 : Int.tmod x 3 < 3 := Int.tmod_lt_of_pos x (by omega)
  refine ⟨((x.tmod 3 + 3) % 3).toNat, by omega, fun w => ?_⟩
  have HF : Hid ((x.tmod 3 + 3) % 3 = ((((x.tmod 3 + 3) % 3).toNat : Nat) : Int)) := by show _ = _; omega
  go_enter Try.func12, Try.ntmps12
  go_wp2
  go_ret
  exact ⟨ret1 HF.out, rfl⟩
structure Mid (B : Nat) (W1 w : World) (Sb Wb : Nat) (E : Nat → One) (bo : Nat) (o0 o1 o2 o3 : Int) : Prop where
  pl : Pl B w Sb Wb 3 E
  bel : Below B W1 w
  hB : B ≤ w.heap.size
  c0 : w.cell? ⟨bo, 0, none⟩ = some (.int .i64 o0)
  c1 : w.cell? ⟨bo, 1, none⟩ = some (.int .i64 o1)
  c2 : w.cell? ⟨bo, 2, none⟩ = some (.int .i64 o2)
  c3 : w.cell? ⟨bo, 3, none⟩ = some (.int .i64 o3)
  free : ∀ j, j < 3 → ¬ (E j).Has bo
theorem Mid.below {B : Nat} {W1 w w' : World} {Sb Wb : Nat} {E : Nat → One} {bo : Nat} {o0 o1 o2 o3 : Int} (h : Mid B W1 w Sb Wb E bo o0 o1 o2 o3) (hb : Below w.heap.size w w') : Mid B W1 w' Sb Wb E bo o0 o1 o2 o3 :=
  ⟨h.pl.below (Nat.le_refl _) hb, h.bel.trans (hb.mono h.hB), Nat.le_trans h.hB hb.size, below_cell hb h.c0, below_cell hb h.c1, below_cell hb h.c2, below_cell hb h.c3, h.free⟩
theorem Mid.start {B : Nat} {W1 w : World} {Sb Wb : Nat} {E : Nat → One} (h : Pl B w Sb Wb 3 E) (hb : Below B W1 w) (hB : B ≤ w.heap.size) (o0 o1 o2 o3 : Int) : Mid B W1 (w.alloc (.cells #[.int .i64 o0, .int .i64 o1, .int .i64 o2, .int .i64 o3] 39)) Sb Wb E w.heap.size o0 o1 o2 o3 :=
  ⟨h.below (Nat.le_refl _) ((Below.refl _ _).alloc (Nat.le_refl _) _), hb.alloc hB _, by simp; omega, by simp, by simp, by simp, by simp, fun j hj hh => by have := (h.pt j hj).lt _ hh; omega⟩
/-- Has beside Has -/
theorem has_both (B Sb Wb i : Nat) (E : Nat → One) (hok : Ok E) (hi : i < 3) (x : Int) : ∃ r : Bool,
    Hid (∀ w, Pl B w Sb Wb 3 E → Calls Try.prog 22 #[at_p (E i).p, .int .i64 x] w fun e w' => e = .returned (.bool r) ∧ Below w.heap.size w w') ∧
    Hid (∀ w, Pl B w Sb Wb 3 E → Calls Try.prog 23 #[.pointer (some ⟨Wb, i, none⟩), .int .i64 x] w fun e w' => e = .returned (.bool r) ∧ Below w.heap.size w w') := by
  refine ⟨decide (0 ≤ x) && bitAt (E i).C x.toNat, fun w hP => ?_, fun w hP => ?_⟩
  · refine (bhas_at _ _ _ _ _ x w (hP.pt i hi).bs).mono ?_
    rintro e w' ⟨rfl, k, rfl⟩
    exact ⟨rfl, below_drewN _ _ _⟩
  · refine (has_at Wb i _ _ _ _ x w (hP.pt i hi).rs).mono ?_
    rintro e w' ⟨rfl, rfl⟩
    refine ⟨retB ?_, Below.refl _ _⟩
    congr 1
    rw [hok i hi]
    by_cases hl : x.toNat < (E i).n
    · rw [bools_getD _ _ _ hl]
    · rw [List.getD_eq_getElem?_getD, List.getElem?_eq_none (by rw [bools_length]; omega), Option.getD_none, (hP.pt i hi).bs.hi _ (by omega)]
/-- Same beside Same; and the keys -/
theorem same_both (B Sb Wb i k : Nat) (E : Nat → One) (w0 : World) (h0 : Pl B w0 Sb Wb 3 E) (hok : Ok E) (hi : i < 3) (hk : k < 3) : ∃ r : Bool,
    Hid (∀ w, Pl B w Sb Wb 3 E → Calls Try.prog 24 #[at_p (E i).p, at_p (E k).p] w fun e w' => e = .returned (.bool r) ∧ Below w.heap.size w w') ∧
    Hid (∀ w, Pl B w Sb Wb 3 E → Calls Try.prog 25 #[.pointer (some ⟨Wb, i, none⟩), .pointer (some ⟨Wb, k, none⟩)] w fun e w' => e = .returned (.bool r) ∧ Below w.heap.size w w') ∧
    Hid ((E i).n = (E k).n → (keyS (keyB (E i).C (E i).m) = keyS (keyB (E k).C (E k).m) ↔ r = true)) := by
  have bi := (h0.pt i hi).bs
  have bk := (h0.pt k hk).bs
  by_cases hn : (E i).n = (E k).n
  · have hm : (E k).m = (E i).m := by rw [bk.len, bi.len, hn]
    have bk' := bk
    rw [← hn, hm] at bk'
    have hTC : (E i).T = (E k).T ↔ (E i).C = (E k).C := by
      rw [hok i hi, hok k hk, ← hn]
      constructor
      · intro e
        refine eq_of_bits bi bk' (fun q => ?_)
        by_cases hq : q < (E i).n
        · rw [← bools_getD (E i).C _ _ hq, e, bools_getD _ _ _ hq]
        · rw [bi.hi q (by omega), bk'.hi q (by omega)]
      · intro e; rw [e]
    refine ⟨decide ((E i).C = (E k).C), fun w hP => ?_, fun w hP => ?_, fun _ => ?_⟩
    · have c := (hP.pt k hk).bs
      rw [← hn, hm] at c
      refine (bsame_at _ _ _ _ _ _ _ _ (decide ((E i).C = (E k).C)) w (hP.pt i hi).bs c decide_eq_true_iff).mono ?_
      rintro e w' ⟨rfl, rfl⟩
      exact ⟨rfl, below_drewN _ _ _⟩
    · exact same_at Wb i Wb k _ _ _ _ _ _ _ _ _ w (hP.pt i hi).rs (hP.pt k hk).rs (by rw [decide_eq_true_iff]; exact hTC.symm)
    · rw [hm, key_inj _ _ _ bi.clen bk'.clen bi.clt bk'.clt, decide_eq_true_iff]
  · refine ⟨false, fun w hP => ?_, fun w hP => ?_, fun e => absurd e hn⟩
    · refine (bsame_shape _ _ _ _ _ _ _ _ _ _ w (hP.pt i hi).bs (hP.pt k hk).bs hn).mono ?_
      rintro e w' ⟨rfl, rfl⟩
      exact ⟨rfl, below_drewN _ _ _⟩
    · refine same_at Wb i Wb k _ _ _ _ _ _ _ _ _ w (hP.pt i hi).rs (hP.pt k hk).rs ⟨fun e => (by cases e), fun e => ?_⟩
      have h1 := (hP.pt i hi).rs.len
      have h2 := (hP.pt k hk).rs.len
      rw [e] at h1
      exact absurd (h1.symm.trans h2) hn
theorem alike_both (B Sb Wb i : Nat) (E : Nat → One) (hok : Ok E) (hi : i < 3) : Hid (∀ w, Pl B w Sb Wb 3 E → Calls Try.prog 26 #[at_p (E i).p, .pointer (some ⟨Wb, i, none⟩)] w fun e w' => e = .returned (.bool true) ∧ Below w.heap.size w w') :=
  fun w hP => alike_at _ _ _ _ _ Wb i _ _ _ w (hP.pt i hi).bs (hP.pt i hi).rs (hok i hi)
end Go.Proofs.Ytholafecbmhhhaa.Dg
