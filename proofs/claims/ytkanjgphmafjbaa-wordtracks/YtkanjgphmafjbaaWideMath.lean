/- Numbers in digits of 16 bits: plain mathematics, no Go. -/
import Derived.RowKit
namespace Go.Proofs.Ytkanjgphmafjbaa.Wd

/-- the number whose k lowest digits (base 65536) are f 0, f 1 .. -/
def V (f : Nat → Nat) : Nat → Nat
  | 0 => 0
  | k + 1 => V f k + 65536 ^ k * f k

theorem V_lt {f : Nat → Nat} (h : ∀ i, f i < 65536) (k : Nat) : V f k < 65536 ^ k := by
  induction k with
  | zero => simp [V]
  | succ k ih =>
    have h1 : 65536 ^ k * f k ≤ 65536 ^ k * 65535 := Nat.mul_le_mul_left _ (by have := h k; omega)
    have h2 : 65536 ^ (k + 1) = 65536 ^ k * 65535 + 65536 ^ k := by rw [Nat.pow_succ]; omega
    simp only [V]
    omega

theorem V_congr {f g : Nat → Nat} (k : Nat) (h : ∀ i, i < k → f i = g i) : V f k = V g k := by
  induction k with
  | zero => rfl
  | succ k ih => simp only [V]; rw [ih fun i hi => h i (by omega), h k (by omega)]

theorem V_more {f : Nat → Nat} {n k : Nat} (hk : n ≤ k) (h : ∀ i, n ≤ i → f i = 0) : V f k = V f n := by
  induction k with
  | zero => obtain rfl : n = 0 := by omega
            rfl
  | succ k ih =>
    by_cases e : n = k + 1
    · rw [e]
    · simp only [V]; rw [ih (by omega), h k (by omega)]; omega

theorem V_mono {f : Nat → Nat} {n k : Nat} (hk : n ≤ k) : V f n ≤ V f k := by
  induction k with
  | zero => obtain rfl : n = 0 := by omega
            exact Nat.le_refl _
  | succ k ih =>
    by_cases e : n = k + 1
    · rw [e]; exact Nat.le_refl _
    · have := ih (by omega)
      simp only [V]; omega

/-- the digits of a list, and the number that they make -/
def dg (ds : List Nat) (i : Nat) : Nat := ds.getD i 0
def val (ds : List Nat) : Nat := V (dg ds) ds.length
/-- no zero at the top -/
def Nm (ds : List Nat) : Prop := 0 < ds.length → dg ds (ds.length - 1) ≠ 0
def Small (ds : List Nat) : Prop := ∀ d ∈ ds, d < 65536

theorem dg_lt {ds : List Nat} (h : Small ds) (i : Nat) : dg ds i < 65536 := by
  unfold dg
  by_cases hi : i < ds.length
  · rw [List.getD_eq_getElem?_getD, List.getElem?_eq_getElem hi]; exact h _ (List.getElem_mem hi)
  · rw [List.getD_eq_getElem?_getD, List.getElem?_eq_none (by omega)]; simp
theorem dg_none {ds : List Nat} {i : Nat} (h : ds.length ≤ i) : dg ds i = 0 := by
  unfold dg; rw [List.getD_eq_getElem?_getD, List.getElem?_eq_none h]; rfl
theorem val_at {ds : List Nat} {k : Nat} (h : ds.length ≤ k) : V (dg ds) k = val ds := V_more h fun _ hi => dg_none hi
theorem val_lt {ds : List Nat} (h : Small ds) : val ds < 65536 ^ ds.length := V_lt (dg_lt h) _

theorem dg_take {ds : List Nat} {n i : Nat} (h : i < n) : dg (ds.take n) i = dg ds i := by
  unfold dg; rw [List.getD_eq_getElem?_getD, List.getD_eq_getElem?_getD, List.getElem?_take_of_lt h]
theorem val_take {ds : List Nat} {n : Nat} (hn : n ≤ ds.length) (h : ∀ i, n ≤ i → dg ds i = 0) : val (ds.take n) = val ds := by
  have hl : (ds.take n).length = n := by rw [List.length_take]; omega
  unfold val
  rw [hl, V_congr n (fun i hi => dg_take hi), V_more hn h]
theorem small_take {ds : List Nat} (h : Small ds) (n : Nat) : Small (ds.take n) := fun d hd => h d (List.mem_of_mem_take hd)

theorem val_low {ds : List Nat} (h : Nm ds) (hp : 0 < ds.length) : 65536 ^ (ds.length - 1) ≤ val ds := by
  unfold val
  obtain ⟨k, hk⟩ : ∃ k, ds.length = k + 1 := ⟨ds.length - 1, by omega⟩
  have h1 := h hp
  rw [hk] at h1 ⊢
  simp only [V, Nat.add_sub_cancel] at h1 ⊢
  have : 65536 ^ k * 1 ≤ 65536 ^ k * dg ds k := Nat.mul_le_mul_left _ (by omega)
  omega
theorem len_le {ds : List Nat} (h : Nm ds) {K : Nat} (hv : val ds < 65536 ^ K) : ds.length ≤ K := by
  by_cases hp : 0 < ds.length
  · have h1 := val_low h hp
    have h2 : 65536 ^ (ds.length - 1) < 65536 ^ K := by omega
    have := (Nat.pow_lt_pow_iff_right (show 1 < 65536 by omega)).1 h2
    omega
  · omega
theorem val_pos {ds : List Nat} (h : Nm ds) : 0 < ds.length ↔ 0 < val ds := by
  constructor
  · intro hp
    have := val_low h hp
    have : 0 < 65536 ^ (ds.length - 1) := Nat.pow_pos (by omega)
    omega
  · intro hv
    by_cases hp : 0 < ds.length
    · exact hp
    · have : ds.length = 0 := by omega
      unfold val at hv
      rw [this] at hv
      simp [V] at hv

/-- where all higher digits agree, the digit at i decides -/
theorem less_at {f g : Nat → Nat} (hf : ∀ i, f i < 65536) {k L : Nat} (hk : k < L) (hi : ∀ i, k < i → i < L → f i = g i) (h : f k < g k) : V f L < V g L := by
  induction L with
  | zero => omega
  | succ L ih =>
    by_cases e : k = L
    · subst e
      have h1 := V_lt hf k
      have h2 : 65536 ^ k * (f k + 1) ≤ 65536 ^ k * g k := Nat.mul_le_mul_left _ (by omega)
      have h3 : 65536 ^ k * (f k + 1) = 65536 ^ k * f k + 65536 ^ k := by rw [Nat.mul_add]; omega
      simp only [V]
      omega
    · have h1 := ih (by omega) (fun i h1 h2 => hi i h1 (by omega))
      simp only [V]
      rw [hi L (by omega) (by omega)]
      omega
theorem same_at {f g : Nat → Nat} {L : Nat} (hi : ∀ i, i < L → f i = g i) : V f L = V g L := V_congr L hi

/-- lists put together -/
theorem dg_snoc_old {ds : List Nat} {d i : Nat} (h : i < ds.length) : dg (ds ++ [d]) i = dg ds i := by
  unfold dg; rw [List.getD_eq_getElem?_getD, List.getD_eq_getElem?_getD, List.getElem?_append_left h]
theorem dg_snoc_new {ds : List Nat} {d : Nat} : dg (ds ++ [d]) ds.length = d := by
  unfold dg; simp [List.getD_eq_getElem?_getD]
theorem val_snoc {ds : List Nat} {d : Nat} : val (ds ++ [d]) = val ds + 65536 ^ ds.length * d := by
  unfold val
  rw [List.length_append]
  simp only [List.length_cons, List.length_nil, Nat.zero_add, V]
  rw [V_congr ds.length (fun i hi => dg_snoc_old hi), dg_snoc_new]
theorem small_snoc {ds : List Nat} {d : Nat} (h : Small ds) (hd : d < 65536) : Small (ds ++ [d]) := by
  intro x hx
  rcases List.mem_append.1 hx with hx | hx
  · exact h x hx
  · simp only [List.mem_singleton] at hx; omega

/-- a round of the sum -/
theorem plus_step {a b : Nat → Nat} {out : List Nat} {k c s : Nat} (hl : out.length = k) (h : val out + 65536 ^ k * c = V a k + V b k) (hs : s = a k + b k + c) :
    val (out ++ [s % 65536]) + 65536 ^ (k + 1) * (s / 65536) = V a (k + 1) + V b (k + 1) := by
  rw [val_snoc, hl]
  simp only [V]
  have h1 : 65536 ^ (k + 1) * (s / 65536) = 65536 ^ k * (65536 * (s / 65536)) := by rw [Nat.pow_succ, Nat.mul_assoc]
  have h2 : 65536 ^ k * (s % 65536) + 65536 ^ k * (65536 * (s / 65536)) = 65536 ^ k * s := by rw [← Nat.mul_add, Nat.mod_add_div]
  have h3 : 65536 ^ k * s = 65536 ^ k * a k + 65536 ^ k * b k + 65536 ^ k * c := by rw [hs, Nat.mul_add, Nat.mul_add]
  omega

/-- a round of the difference -/
theorem minus_step {a b : Nat → Nat} {out : List Nat} {k c s : Nat} (hl : out.length = k) (h : val out + V b k = V a k + 65536 ^ k * c) (hc : c ≤ 1) (hb : b k < 65536) (hs : s = a k + 65536 - b k - c) (ha : a k < 65536) :
    val (out ++ [s % 65536]) + V b (k + 1) = V a (k + 1) + 65536 ^ (k + 1) * (1 - s / 65536) ∧ 1 - s / 65536 ≤ 1 ∧ s / 65536 ≤ 1 := by
  refine ⟨?_, by omega, by omega⟩
  rw [val_snoc, hl]
  simp only [V]
  have h1 : 65536 ^ (k + 1) * (1 - s / 65536) = 65536 ^ k * (65536 * (1 - s / 65536)) := by rw [Nat.pow_succ, Nat.mul_assoc]
  have h2 : s % 65536 + b k + c = a k + 65536 * (1 - s / 65536) := by omega
  have h3 : 65536 ^ k * (s % 65536) + 65536 ^ k * b k + 65536 ^ k * c = 65536 ^ k * a k + 65536 ^ k * (65536 * (1 - s / 65536)) := by
    rw [← Nat.mul_add, ← Nat.mul_add, ← Nat.mul_add, h2]
  omega

/-- a number's list of digits is of one kind: where the value is the same and no zero is at the top the list is -/
theorem minus_end {a b : List Nat} {out : List Nat} {c : Nat} (hl : out.length = a.length) (hs : Small out) (hb : b.length ≤ a.length) (hle : val b ≤ val a) (hc : c ≤ 1)
    (h : val out + V (dg b) a.length = V (dg a) a.length + 65536 ^ a.length * c) : val out = val a - val b := by
  rw [val_at hb] at h
  have h1 := val_lt hs
  rw [hl] at h1
  have h2 : V (dg a) a.length = val a := rfl
  rw [h2] at h
  have h3 : c = 0 := by
    by_cases e : c = 1
    · subst e; omega
    · omega
  subst h3
  omega
end Go.Proofs.Ytkanjgphmafjbaa.Wd
