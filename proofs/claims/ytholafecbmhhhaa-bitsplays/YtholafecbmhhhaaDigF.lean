/- The document's digits and letters: Spread's places and sum, plainly. -/
import Derived.Test.YtholafecbmhhhaaDigE
namespace Go.Proofs.Ytholafecbmhhhaa.Dg
set_option linter.unusedVariables false

theorem getD_set_same {α : Type} (l : List α) (p : Nat) (v d : α) (h : p < l.length) : (l.set p v).getD p d = v := by
  rw [List.getD_eq_getElem?_getD, List.getElem?_set_self h, Option.getD_some]
theorem getD_set_other {α : Type} (l : List α) (p q : Nat) (v d : α) (h : p ≠ q) : (l.set p v).getD q d = l.getD q d := by
  rw [List.getD_eq_getElem?_getD, List.getElem?_set_ne h, List.getD_eq_getElem?_getD]

/-- a place is taken if one of the first k names it -/
theorem tak_get (zs : List Int) (k p : Nat) (hp : p < 6) : (tak zs k).getD p false = true ↔ ∃ j, j < k ∧ (zs.getD j 0).toNat = p := by
  induction k with
  | zero =>
    rw [tak, List.getD_eq_getElem?_getD, List.getElem?_replicate, if_pos hp]
    simp
  | succ k ih =>
    rw [tak]
    by_cases h : (zs.getD k 0).toNat = p
    · rw [h, getD_set_same _ _ _ _ (by rw [tak_length]; exact hp)]
      exact ⟨fun _ => ⟨k, by omega, h⟩, fun _ => rfl⟩
    · rw [getD_set_other _ _ _ _ _ h, ih]
      constructor
      · rintro ⟨j, hj, e⟩; exact ⟨j, by omega, e⟩
      · rintro ⟨j, hj, e⟩
        refine ⟨j, ?_, e⟩
        rcases Nat.lt_succ_iff_lt_or_eq.1 hj with hj | rfl
        · exact hj
        · exact absurd e h
theorem free_iff (zs : List Int) (k : Nat) (hp : (zs.getD k 0).toNat < 6) : Free zs k ↔ ∀ j, j < k → (zs.getD j 0).toNat ≠ (zs.getD k 0).toNat := by
  unfold Free
  have h := tak_get zs k (zs.getD k 0).toNat hp
  constructor
  · intro e j hj he
    rw [h.2 ⟨j, hj, he⟩] at e
    cases e
  · intro hall
    cases hb : (tak zs k).getD (zs.getD k 0).toNat false with
    | false => rfl
    | true =>
      obtain ⟨j, hj, e⟩ := h.1 hb
      exact absurd e (hall j hj)

/-- the sum of the digits at their places -/
def sprv (L : Nat) (zs : List Int) : Nat → Nat
  | 0 => 0
  | k + 1 => sprv L zs k + 2 ^ (zs.getD k 0).toNat * (L / 2 ^ k % 2)
theorem num_set (ds : List Nat) (p d : Nat) (hp : p < ds.length) (h0 : ds.getD p 0 = 0) : num (ds.set p d) = num ds + 2 ^ p * d := by
  induction ds generalizing p with
  | nil => simp at hp
  | cons x r ih =>
    cases p with
    | zero =>
      have hx : x = 0 := by simpa using h0
      subst hx
      simp only [List.set_cons_zero, num]
      omega
    | succ p =>
      have h1 := ih p (by simpa using hp) (by simpa using h0)
      simp only [List.set_cons_succ, num]
      rw [h1, Nat.pow_succ, Nat.mul_add, Nat.mul_assoc, Nat.mul_left_comm (2 ^ p) 2 d]
      omega
theorem spr_zero (L : Nat) (zs : List Int) (k p : Nat) (hp : p < 6) (h : (tak zs k).getD p false = false) : (spr L zs k).getD p 0 = 0 := by
  induction k with
  | zero => rw [spr, List.getD_eq_getElem?_getD, List.getElem?_replicate, if_pos hp, Option.getD_some]
  | succ k ih =>
    rw [spr]
    rw [tak] at h
    by_cases e : (zs.getD k 0).toNat = p
    · rw [e, getD_set_same _ _ _ _ (by rw [tak_length]; exact hp)] at h
      cases h
    · rw [getD_set_other _ _ _ _ _ e] at h ⊢
      exact ih h
theorem num_spr (L : Nat) (zs : List Int) (k : Nat) (hp : ∀ j, j < k → (zs.getD j 0).toNat < 6) (h : ∀ j, j < k → Free zs j) : num (spr L zs k) = sprv L zs k := by
  induction k with
  | zero => rfl
  | succ k ih =>
    have hk := hp k (by omega)
    rw [spr, sprv, num_set _ _ _ (by rw [spr_length]; exact hk) (spr_zero L zs k _ hk (h k (by omega))), ih (fun j hj => hp j (by omega)) (fun j hj => h j (by omega))]
end Go.Proofs.Ytholafecbmhhhaa.Dg
