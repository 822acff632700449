/- The program's Sorted. -/
import Derived.Test.YtiapkblebbcfbaaGlU
namespace Go.Proofs.Ytiapkblebbcfbaa.Gl
open Go.RowKit
set_option linter.unusedVariables false

theorem sizeStr : (Try.prog.info? 9).map (·.size) = some 1 := by kernel_rfl
/-- 'copy(row, names)' into a row of the call's own, of the same length -/
theorem copy_runS (w0 W : World) (B base g2 m : Nat) (T : List ByteArray) (Z : List Value) (ao : Option Addr) (sc : Nat)
    (hown : W.ownsRow base 9 1 (.slice (some ⟨g2, 0, none⟩) m m) m Z) (hR : RdS W ao m sc T) (hb : Below B w0 W) (hBg : B ≤ g2) :
    ∃ w', (Builtin.copy_ #[23, 23] 3 #[.slice (some ⟨g2, 0, none⟩) m m, .slice ao m sc]).run Try.prog W = .ok (goInt m) w' ∧ w'.ownsRow base 9 1 (.slice (some ⟨g2, 0, none⟩) m m) m (cellsS T) ∧ Below B w0 w' := by
  have hzl := hR.eqlen
  cases ao with
  | none =>
    have hc0 := hR.isnil rfl
    have hl := hR.lecap
    obtain rfl : sc = 0 := hc0
    obtain rfl : m = 0 := by omega
    have hz : T = [] := List.length_eq_zero_iff.1 hzl
    subst hz
    have hZ : Z = [] := List.length_eq_zero_iff.1 (by have := hown.1; omega)
    subst hZ
    exact ⟨W, run_copy_nil (P := Try.prog) W 23 23 3 9 ⟨g2, 0, none⟩ 0 0 Try.underlying23 (by kernel_rfl), hown, hb⟩
  | some ad =>
    rcases hown.2 with ⟨e, _⟩ | ⟨g', cap, cur, e, hbg, hh, _, hcm, hcs, _⟩
    · cases e
    · simp only [Value.slice.injEq, Option.some.injEq, Addr.mk.injEq, and_true, true_and] at e
      obtain ⟨rfl, rfl⟩ := e
      have hl : (cellsS T).length = m := by rw [List.length_map, hzl]
      have hrun := run_copy_row (P := Try.prog) W 23 23 3 9 g2 0 m m ad m sc cur 9 (cellsS T) Try.underlying23 sizeStr hh (by rw [hl]; exact (Nat.min_self m).symm) (cells_argA hR) (by omega) (strs_oneCell T)
      rw [hl] at hrun
      refine ⟨_, hrun, ?_, below_setRow hb hBg _⟩
      have hw := setRow_heap W g2 cur (cur.toList.take 0 ++ cellsS T ++ cur.toList.drop (0 + m)).toArray 9 (0, 0) hh
      have he : cur.toList.take 0 ++ cellsS T ++ cur.toList.drop (0 + m) = cellsS T := by
        rw [List.take_zero, List.nil_append, Nat.zero_add, List.drop_of_length_le (by simp only [Array.length_toList]; omega), List.append_nil]
      rw [he] at hw ⊢
      refine ⟨by omega, .inr ⟨g2, m, _, rfl, hbg, hw, Nat.le_refl _, hcm, by simpa using hl, ?_⟩⟩
      simp only [Nat.mul_one]
      exact List.take_of_length_le (by omega)
theorem owns_below2 {W0 w w' : World} {B base : Nat} {v : Value} {n : Nat} {xs : List Value} (hb : Below B W0 w) (h : w.ownsRow base 9 1 v n xs) (hB : B ≤ base) (hg : w.grownBy w' v.ownBlock) (hs : B ≤ w.heap.size) : Below B W0 w' :=
  hb.grown hg hs (fun k hk => by have := h.lt k hk; omega)
theorem rds_of_own2 {w : World} {base : Nat} {ro : Option Addr} {n c : Nat} {ss : List ByteArray} (h : w.ownsRow base 9 1 (.slice ro n c) n (cellsS ss)) : RdS w ro n c ss := by
  obtain ⟨ro', cr, hv, hR⟩ := rds_of_owns h
  obtain ⟨rfl, _, rfl⟩ := Value.slice.inj hv
  exact hR
end Go.Proofs.Ytiapkblebbcfbaa.Gl
