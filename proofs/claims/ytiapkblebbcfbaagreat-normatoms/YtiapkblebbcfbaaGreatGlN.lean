/- The walks of GlyphPlaces, GlyphClasses. -/
import Derived.Test.YtiapkblebbcfbaaGreatGlM
import Derived.Test.YtiapkblebbcfbaaGreatGlF
namespace Go.Proofs.YtiapkblebbcfbaaGreat.Gl
open Go.RowKit
set_option linter.unusedVariables false

theorem below_drewn {B : Nat} {w w1 : World} (h : Below B w w1) (n : Nat) : Below B w (w1.drewN n) := h.trans ⟨rfl, rfl, rfl, Nat.le_refl _, fun _ _ => rfl⟩
theorem cell_keep {W w1 : World} {x y : Value} {t : TypeId} (hb : Below (W.alloc (.cells #[x, y] t)).heap.size (W.alloc (.cells #[x, y] t)) w1) : w1.cell? ⟨W.heap.size, 0, none⟩ = some x ∧ w1.cell? ⟨W.heap.size, 1, none⟩ = some y := by
  obtain ⟨hc, _⟩ := bcell hb
  constructor
  · rw [hc _ _ (by simp)]; simp
  · rw [hc _ _ (by simp)]; simp
theorem pl_of {r : Int} (h : plB r ≠ emp) : r ∈ marks := by
  by_cases hm : r ∈ marks
  · exact hm
  · exact absurd (pl_none r (fun m h' e => hm (e ▸ h'))) h
/-- what a sign stands for is made of plain characters -/
def plainB (x : ByteArray) : Bool := x.data.all (fun c => 33 ≤ c.toNat && c.toNat < 128)
theorem plain_get {x : ByteArray} (h : plainB x = true) (i : Nat) (hi : i < x.size) : 33 ≤ x[i].toNat ∧ x[i].toNat < 128 := by
  unfold plainB at h
  rw [Array.all_eq_true] at h
  have := h i hi
  simp only [Bool.and_eq_true, decide_eq_true_eq] at this
  exact this
theorem marks_all : ∀ r ∈ marks, stB r = false ∧ reB r = false ∧ blB r = false ∧ (plainB (plB r) = true ∧ (plB r).size ≤ 3) ∧ 0 ≤ r ∧ r ≤ 1114111 := by decide +kernel
theorem bl_re {r : Int} (h : blB r = true) : reB r = false ∧ r ∉ marks ∧ stB r = false := by
  have h' := of_decide_eq_true h
  rcases h' with rfl | rfl | rfl | rfl <;> decide +kernel
theorem re_bd {r : Int} (h : reB r = true) : 0 ≤ r ∧ r ≤ 1114111 := by
  rw [re_eq, st_eq] at h
  unfold laB grB at h
  simp only [Bool.or_eq_true, decide_eq_true_eq] at h
  omega
theorem bl_bd {r : Int} (h : blB r = true) : 0 ≤ r ∧ r ≤ 1114111 := by
  have h' := of_decide_eq_true h
  omega
end Go.Proofs.YtiapkblebbcfbaaGreat.Gl
