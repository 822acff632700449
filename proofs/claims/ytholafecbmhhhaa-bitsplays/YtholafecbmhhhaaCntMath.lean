/- How many numbers are in the cells: the count of the cells is the length of the list. -/
import Derived.Test.YtholafecbmhhhaaBitE
namespace Go.Proofs.Ytholafecbmhhhaa.Dg
set_option linter.unusedVariables false

/-- how many of the first k bits are set -/
def tot (f : Nat → Bool) : Nat → Nat
  | 0 => 0
  | k + 1 => tot f k + (f k).toNat
theorem tot_congr {f g : Nat → Bool} (k : Nat) (h : ∀ j, j < k → f j = g j) : tot f k = tot g k := by
  induction k with
  | zero => rfl
  | succ k ih => rw [tot, tot, ih fun j hj => h j (by omega), h k (by omega)]
theorem tot_add (f : Nat → Bool) (a b : Nat) : tot f (a + b) = tot f a + tot (fun j => f (a + j)) b := by
  induction b with
  | zero => rfl
  | succ b ih => rw [← Nat.add_assoc, tot, ih, tot]; omega
theorem tot_zero {f : Nat → Bool} (a b : Nat) (h : ∀ j, a ≤ j → f j = false) : tot f (a + b) = tot f a := by
  induction b with
  | zero => rfl
  | succ b ih => rw [← Nat.add_assoc, tot, ih, h _ (by omega)]; rfl
theorem ones_tot (k x : Nat) : ones k x = tot x.testBit k := by
  induction k with
  | zero => rfl
  | succ k ih =>
    rw [ones, tot, ih, Nat.testBit_eq_decide_div_mod_eq]
    have h2 : x / 2 ^ k % 2 = 0 ∨ x / 2 ^ k % 2 = 1 := by omega
    rcases h2 with h | h
    · rw [h]; rfl
    · rw [h]; rfl
theorem cnt_tot (C : List Nat) (k : Nat) : cnt C k = tot (bitAt C) (64 * k) := by
  induction k with
  | zero => rfl
  | succ k ih =>
    rw [cnt, ih, show 64 * (k + 1) = 64 * k + 64 from by omega, tot_add, ones_tot]
    congr 1
    apply tot_congr
    intro j hj
    unfold bitAt
    rw [show (64 * k + j) / 64 = k from by omega, show (64 * k + j) % 64 = j from by omega]
theorem lst_tot (T : List Bool) (k : Nat) : (lst T k).length = tot (fun j => T.getD j false) k := by
  induction k with
  | zero => rfl
  | succ k ih =>
    rw [lst, tot]
    cases h : T.getD k false with
    | true => rw [if_pos rfl, List.length_append, ih]; rfl
    | false => rw [if_neg (by simp), ih]; rfl
theorem cnt_lst (C : List Nat) (n m : Nat) (hm : m = (n + 63) / 64) (hi : ∀ i, n ≤ i → bitAt C i = false) : cnt C m = (lst (bools C n) n).length := by
  rw [cnt_tot, lst_tot, show 64 * m = n + (64 * m - n) from by omega, tot_zero n _ hi]
  exact tot_congr n fun j hj => (bools_getD C n j hj).symm
theorem count_at (p g n m : Nat) (C : List Nat) (w : World) (h : Bs w p g n m C) :
    Calls Try.prog 42 #[at_p p] w fun e w' => e = .returned (.int .i64 (((lst (bools C n) n).length : Nat) : Int)) ∧ w = w' := by
  have := count_raw p g n m C w h
  rwa [cnt_lst C n m h.len h.hi] at this
end Go.Proofs.Ytholafecbmhhhaa.Dg
