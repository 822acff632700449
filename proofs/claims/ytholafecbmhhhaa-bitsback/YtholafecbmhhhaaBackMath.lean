/- Letters lead back: plain mathematics over the digits. -/
import Derived.Test.YtholafecbmhhhaaPlaces
namespace Go.Proofs.Ytholafecbmhhhaa.Dg
set_option linter.unusedVariables false

theorem back_all : ∀ L : Fin 32, ∀ t : Fin 6, ∀ d : Fin 2, ins L.val t.val d.val < 64 ∧ rem (ins L.val t.val d.val) t.val = L.val ∧ ins L.val t.val d.val / 2 ^ t.val % 2 = d.val ∧ ∀ k : Fin 6, (k.val < t.val → ins L.val t.val d.val / 2 ^ k.val % 2 = L.val / 2 ^ k.val % 2) ∧ (t.val ≤ k.val → ins L.val t.val d.val / 2 ^ (k.val + 1) % 2 = L.val / 2 ^ k.val % 2) := by decide +kernel
theorem spr_at (L : Nat) (zs : List Int) (len : Nat) (hf : ∀ j, j < len → (zs.getD j 0).toNat < 6) (hd : ∀ i j, i < j → j < len → (zs.getD i 0).toNat ≠ (zs.getD j 0).toNat) (i : Nat) (hi : i < len) : (spr L zs len).getD (zs.getD i 0).toNat 0 = L / 2 ^ i % 2 := by
  induction len with
  | zero => omega
  | succ n ih =>
    rw [spr]
    by_cases e : i = n
    · subst e
      rw [getD_set_same _ _ _ _ (by rw [spr_length]; exact hf i (by omega))]
    · rw [getD_set_other _ _ _ _ _ (fun h => hd i n (by omega) (by omega) h.symm)]
      exact ih (fun j hj => hf j (by omega)) (fun a b h1 h2 => hd a b h1 (by omega)) (by omega)
theorem gather_spread (L : Nat) (zs : List Int) (len : Nat) (hl : zs.length = len) (hf : Fit zs len) (hall : ∀ j, j < len → Free zs j) (hL : L < 2 ^ len) : num (gath (num (spr L zs len)) zs) = L ∧ num (spr L zs len) < 64 := by
  have h6 : ∀ j, j < len → (zs.getD j 0).toNat < 6 := fun j hj => by have := hf.2 j hj; omega
  have hd : ∀ i j, i < j → j < len → (zs.getD i 0).toNat ≠ (zs.getD j 0).toNat := fun i j hij hj => (free_iff zs j (h6 j hj)).1 (hall j hj) i hij
  have hg : gath (num (spr L zs len)) zs = digs L len := by
    apply List.ext_getElem (by rw [gath_length, digs_length, hl])
    intro i h1 h2
    rw [gath_length] at h1
    have e1 : (gath (num (spr L zs len)) zs)[i]'(by rw [gath_length]; exact h1) = num (spr L zs len) / 2 ^ (zs.getD i 0).toNat % 2 := by
      simp [gath, List.getD_eq_getElem?_getD, List.getElem?_eq_getElem h1]
    have e2 : (digs L len)[i] = L / 2 ^ i % 2 := by simp [digs]
    rw [e1, e2, num_bit _ _ (spr_bit L zs len)]
    exact spr_at L zs len h6 hd i (by omega)
  rw [hg, num_digs, Nat.mod_eq_of_lt hL]
  have := num_lt _ (spr_bit L zs len)
  rw [spr_length] at this
  exact ⟨rfl, this⟩
end Go.Proofs.Ytholafecbmhhhaa.Dg
