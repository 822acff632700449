/- Numbers in digits of 16 bits: plain mathematics, no Go. -/
import Derived.RowKit
import Derived.Test.YtiapkblebbcfbaaGreatProg
import Derived.WalkKit
import Derived.WalkLawsBesides
import Derived.WalkSpells
import Derived.Deep.RegionHeld3
import Derived.Laws.BitsAllLaws
import Derived.Deep.Light
import Derived.Test.YtiapkblebbcfbaaGreatRowRead
namespace Go.Proofs.YtiapkblebbcfbaaGreat.Wd

/-- the number whose k lowest digits (base 65536) are f 0, f 1 .. -/
def V (f : Nat → Nat) : Nat → Nat
  | 0 => 0
  | k + 1 => V f k + 65536 ^ k * f k

theorem V_lt {f : Nat → Nat} (h : ∀ i, f i < 65536) (k : Nat) : V f k < 65536 ^ k := by
  induction k with
  | zero => simp [V]
  | succ k ih =>
    have h1 : 65536 ^ k * f k ≤ 65536 ^ k * 65535 := Nat.mul_le_mul_left _ (by have := h k; omega)
    have h2 : 65536 ^ (k + 1) = 65536 ^ k * 65535 + 65536 ^ k := by rw [Nat.pow_succ]; omega
    simp only [V]
    omega

theorem V_congr {f g : Nat → Nat} (k : Nat) (h : ∀ i, i < k → f i = g i) : V f k = V g k := by
  induction k with
  | zero => rfl
  | succ k ih => simp only [V]; rw [ih fun i hi => h i (by omega), h k (by omega)]

theorem V_more {f : Nat → Nat} {n k : Nat} (hk : n ≤ k) (h : ∀ i, n ≤ i → f i = 0) : V f k = V f n := by
  induction k with
  | zero => obtain rfl : n = 0 := by omega
            rfl
  | succ k ih =>
    by_cases e : n = k + 1
    · rw [e]
    · simp only [V]; rw [ih (by omega), h k (by omega)]; omega

theorem V_mono {f : Nat → Nat} {n k : Nat} (hk : n ≤ k) : V f n ≤ V f k := by
  induction k with
  | zero => obtain rfl : n = 0 := by omega
            exact Nat.le_refl _
  | succ k ih =>
    by_cases e : n = k + 1
    · rw [e]; exact Nat.le_refl _
    · have := ih (by omega)
      simp only [V]; omega

/-- the digits of a list, and the number that they make -/
def dg (ds : List Nat) (i : Nat) : Nat := ds.getD i 0
def val (ds : List Nat) : Nat := V (dg ds) ds.length
/-- no zero at the top -/
def Nm (ds : List Nat) : Prop := 0 < ds.length → dg ds (ds.length - 1) ≠ 0
def Small (ds : List Nat) : Prop := ∀ d ∈ ds, d < 65536

theorem dg_lt {ds : List Nat} (h : Small ds) (i : Nat) : dg ds i < 65536 := by
  unfold dg
  by_cases hi : i < ds.length
  · rw [List.getD_eq_getElem?_getD, List.getElem?_eq_getElem hi]; exact h _ (List.getElem_mem hi)
  · rw [List.getD_eq_getElem?_getD, List.getElem?_eq_none (by omega)]; simp
theorem dg_none {ds : List Nat} {i : Nat} (h : ds.length ≤ i) : dg ds i = 0 := by
  unfold dg; rw [List.getD_eq_getElem?_getD, List.getElem?_eq_none h]; rfl
theorem val_at {ds : List Nat} {k : Nat} (h : ds.length ≤ k) : V (dg ds) k = val ds := V_more h fun _ hi => dg_none hi
theorem val_lt {ds : List Nat} (h : Small ds) : val ds < 65536 ^ ds.length := V_lt (dg_lt h) _

theorem dg_take {ds : List Nat} {n i : Nat} (h : i < n) : dg (ds.take n) i = dg ds i := by
  unfold dg; rw [List.getD_eq_getElem?_getD, List.getD_eq_getElem?_getD, List.getElem?_take_of_lt h]
theorem val_take {ds : List Nat} {n : Nat} (hn : n ≤ ds.length) (h : ∀ i, n ≤ i → dg ds i = 0) : val (ds.take n) = val ds := by
  have hl : (ds.take n).length = n := by rw [List.length_take]; omega
  unfold val
  rw [hl, V_congr n (fun i hi => dg_take hi), V_more hn h]
theorem small_take {ds : List Nat} (h : Small ds) (n : Nat) : Small (ds.take n) := fun d hd => h d (List.mem_of_mem_take hd)

theorem val_low {ds : List Nat} (h : Nm ds) (hp : 0 < ds.length) : 65536 ^ (ds.length - 1) ≤ val ds := by
  unfold val
  obtain ⟨k, hk⟩ : ∃ k, ds.length = k + 1 := ⟨ds.length - 1, by omega⟩
  have h1 := h hp
  rw [hk] at h1 ⊢
  simp only [V, Nat.add_sub_cancel] at h1 ⊢
  have : 65536 ^ k * 1 ≤ 65536 ^ k * dg ds k := Nat.mul_le_mul_left _ (by omega)
  omega
theorem len_le {ds : List Nat} (h : Nm ds) {K : Nat} (hv : val ds < 65536 ^ K) : ds.length ≤ K := by
  by_cases hp : 0 < ds.length
  · have h1 := val_low h hp
    have h2 : 65536 ^ (ds.length - 1) < 65536 ^ K := by omega
    have := (Nat.pow_lt_pow_iff_right (show 1 < 65536 by omega)).1 h2
    omega
  · omega
theorem val_pos {ds : List Nat} (h : Nm ds) : 0 < ds.length ↔ 0 < val ds := by
  constructor
  · intro hp
    have := val_low h hp
    have : 0 < 65536 ^ (ds.length - 1) := Nat.pow_pos (by omega)
    omega
  · intro hv
    by_cases hp : 0 < ds.length
    · exact hp
    · have : ds.length = 0 := by omega
      unfold val at hv
      rw [this] at hv
      simp [V] at hv

/-- where all higher digits agree, the digit at i decides -/
theorem less_at {f g : Nat → Nat} (hf : ∀ i, f i < 65536) {k L : Nat} (hk : k < L) (hi : ∀ i, k < i → i < L → f i = g i) (h : f k < g k) : V f L < V g L := by
  induction L with
  | zero => omega
  | succ L ih =>
    by_cases e : k = L
    · subst e
      have h1 := V_lt hf k
      have h2 : 65536 ^ k * (f k + 1) ≤ 65536 ^ k * g k := Nat.mul_le_mul_left _ (by omega)
      have h3 : 65536 ^ k * (f k + 1) = 65536 ^ k * f k + 65536 ^ k := by rw [Nat.mul_add]; omega
      simp only [V]
      omega
    · have h1 := ih (by omega) (fun i h1 h2 => hi i h1 (by omega))
      simp only [V]
      rw [hi L (by omega) (by omega)]
      omega
theorem same_at {f g : Nat → Nat} {L : Nat} (hi : ∀ i, i < L → f i = g i) : V f L = V g L := V_congr L hi

/-- lists put together -/
theorem dg_snoc_old {ds : List Nat} {d i : Nat} (h : i < ds.length) : dg (ds ++ [d]) i = dg ds i := by
  unfold dg; rw [List.getD_eq_getElem?_getD, List.getD_eq_getElem?_getD, List.getElem?_append_left h]
theorem dg_snoc_new {ds : List Nat} {d : Nat} : dg (ds ++ [d]) ds.length = d := by
  unfold dg; simp [List.getD_eq_getElem?_getD]
theorem val_snoc {ds : List Nat} {d : Nat} : val (ds ++ [d]) = val ds + 65536 ^ ds.length * d := by
  unfold val
  rw [List.length_append]
  simp only [List.length_cons, List.length_nil, Nat.zero_add, V]
  rw [V_congr ds.length (fun i hi => dg_snoc_old hi), dg_snoc_new]
theorem small_snoc {ds : List Nat} {d : Nat} (h : Small ds) (hd : d < 65536) : Small (ds ++ [d]) := by
  intro x hx
  rcases List.mem_append.1 hx with hx | hx
  · exact h x hx
  · simp only [List.mem_singleton] at hx; omega

/-- a round of the sum -/
theorem plus_step {a b : Nat → Nat} {out : List Nat} {k c s : Nat} (hl : out.length = k) (h : val out + 65536 ^ k * c = V a k + V b k) (hs : s = a k + b k + c) :
    val (out ++ [s % 65536]) + 65536 ^ (k + 1) * (s / 65536) = V a (k + 1) + V b (k + 1) := by
  rw [val_snoc, hl]
  simp only [V]
  have h1 : 65536 ^ (k + 1) * (s / 65536) = 65536 ^ k * (65536 * (s / 65536)) := by rw [Nat.pow_succ, Nat.mul_assoc]
  have h2 : 65536 ^ k * (s % 65536) + 65536 ^ k * (65536 * (s / 65536)) = 65536 ^ k * s := by rw [← Nat.mul_add, Nat.mod_add_div]
  have h3 : 65536 ^ k * s = 65536 ^ k * a k + 65536 ^ k * b k + 65536 ^ k * c := by rw [hs, Nat.mul_add, Nat.mul_add]
  omega

/-- a round of the difference -/
theorem minus_step {a b : Nat → Nat} {out : List Nat} {k c s : Nat} (hl : out.length = k) (h : val out + V b k = V a k + 65536 ^ k * c) (hc : c ≤ 1) (hb : b k < 65536) (hs : s = a k + 65536 - b k - c) (ha : a k < 65536) :
    val (out ++ [s % 65536]) + V b (k + 1) = V a (k + 1) + 65536 ^ (k + 1) * (1 - s / 65536) ∧ 1 - s / 65536 ≤ 1 ∧ s / 65536 ≤ 1 := by
  refine ⟨?_, by omega, by omega⟩
  rw [val_snoc, hl]
  simp only [V]
  have h1 : 65536 ^ (k + 1) * (1 - s / 65536) = 65536 ^ k * (65536 * (1 - s / 65536)) := by rw [Nat.pow_succ, Nat.mul_assoc]
  have h2 : s % 65536 + b k + c = a k + 65536 * (1 - s / 65536) := by omega
  have h3 : 65536 ^ k * (s % 65536) + 65536 ^ k * b k + 65536 ^ k * c = 65536 ^ k * a k + 65536 ^ k * (65536 * (1 - s / 65536)) := by
    rw [← Nat.mul_add, ← Nat.mul_add, ← Nat.mul_add, h2]
  omega

/-- a number's list of digits is of one kind: where the value is the same and no zero is at the top the list is -/
theorem minus_end {a b : List Nat} {out : List Nat} {c : Nat} (hl : out.length = a.length) (hs : Small out) (hb : b.length ≤ a.length) (hle : val b ≤ val a) (hc : c ≤ 1)
    (h : val out + V (dg b) a.length = V (dg a) a.length + 65536 ^ a.length * c) : val out = val a - val b := by
  rw [val_at hb] at h
  have h1 := val_lt hs
  rw [hl] at h1
  have h2 : V (dg a) a.length = val a := rfl
  rw [h2] at h
  have h3 : c = 0 := by
    by_cases e : c = 1
    · subst e; omega
    · omega
  subst h3
  omega
end Go.Proofs.YtiapkblebbcfbaaGreat.Wd
/- The document's wide numbers in memory: their digits read, trimmed. -/
namespace Go.Proofs.YtiapkblebbcfbaaGreat.Wd
open Go.RowKit
set_option linter.unusedVariables false

/-- the slice .slice ao len cap reads as the digits ds -/
structure Dg (w : World) (ao : Option Addr) (len cap : Nat) (ds : List Nat) : Prop where
  eqlen : ds.length = len
  lecap : len ≤ cap
  lemax : cap ≤ 9223372036854775807
  lelen : len ≤ 1000000
  isnil : ao = none → cap = 0
  cell : ∀ i, i < len → ∃ b off, ao = some ⟨b, off, none⟩ ∧ w.cell? ⟨b, off + i, none⟩ = some (.int .u64 (dg ds i))
  small : Small ds

theorem Dg.below {w w' : World} {ao : Option Addr} {len cap : Nat} {ds : List Nat} (h : Dg w ao len cap ds) {B : Nat} (hB : w.heap.size ≤ B) (hb : Below B w w') : Dg w' ao len cap ds := by
  refine ⟨h.eqlen, h.lecap, h.lemax, h.lelen, h.isnil, fun i hi => ?_, h.small⟩
  obtain ⟨b, off, rfl, hc⟩ := h.cell i hi
  have hlt := World.block_lt_of_cell? _ _ hc
  exact ⟨b, off, rfl, (hb.cell (p := ⟨b, off + i, none⟩) (Nat.lt_of_lt_of_le hlt hB)).trans hc⟩

theorem digit_in (n : Bool) (ao : Option Addr) (len cap : Nat) (ds : List Nat) (i : Nat) (w : World) (h : Dg w ao len cap ds) (hi : i < len) :
    Calls Tryz.prog 80 #[.agg #[.bool n, .slice ao len cap], .int .i64 i] w fun e w' => e = .returned (.int .u64 (dg ds i)) ∧ w' = w.alloc (.cells #[.bool n, .slice ao len cap] 95) := by
  obtain ⟨b, off, rfl, hc⟩ := h.cell i hi
  have hlt := World.block_lt_of_cell? _ _ hc
  have hcap := h.lecap
  have hmax := h.lemax
  have hlen := h.lelen
  have hc' : (w.alloc (.cells #[.bool n, .slice (some ⟨b, off, none⟩) len cap] 95)).cell? ⟨b, off + i, none⟩ = some (.int .u64 (dg ds i)) := by
    rw [World.cell?_of_block (Below.heap_alloc _ _ _ hlt)]; exact hc
  have hd := dg_lt h.small i
  clear h hc
  go_enter Tryz.func80, Tryz.ntmps80
  go_wp2
  go_ret
  exact ⟨rfl, rfl⟩

theorem digit_out (n : Bool) (ao : Option Addr) (len cap : Nat) (i : Nat) (w : World) (hcap : len ≤ 1000000) (hi : len ≤ i) (hi' : i ≤ 1000000) :
    Calls Tryz.prog 80 #[.agg #[.bool n, .slice ao len cap], .int .i64 i] w fun e w' => e = .returned (.int .u64 0) ∧ w' = w.alloc (.cells #[.bool n, .slice ao len cap] 95) := by
  go_enter Tryz.func80, Tryz.ntmps80
  go_wp2
  go_ret
  exact ⟨rfl, rfl⟩

theorem digit_at (n : Bool) (ao : Option Addr) (len cap : Nat) (ds : List Nat) (i : Nat) (w : World) (h : Dg w ao len cap ds) (hi : i ≤ 1000000) :
    Calls Tryz.prog 80 #[.agg #[.bool n, .slice ao len cap], .int .i64 i] w fun e w' => e = .returned (.int .u64 (dg ds i)) ∧ w' = w.alloc (.cells #[.bool n, .slice ao len cap] 95) := by
  by_cases hl : i < len
  · exact digit_in n ao len cap ds i w h hl
  · rw [dg_none (by rw [h.eqlen]; omega)]
    have := h.lelen
    exact digit_out n ao len cap i w (by omega) (by omega) hi

/-- the slice of the first n digits, no room behind it -/
theorem Dg.cut {w : World} {ao : Option Addr} {len cap : Nat} {ds : List Nat} (h : Dg w ao len cap ds) {n : Nat} (hn : n ≤ len) : Dg w ao n n (ds.take n) := by
  refine ⟨by rw [List.length_take, h.eqlen]; omega, Nat.le_refl _, by have := h.lecap; have := h.lemax; omega, by have := h.lelen; omega, fun e => by have := h.isnil e; have := h.lecap; omega, fun i hi => ?_, small_take h.small n⟩
  obtain ⟨b, off, rfl, hc⟩ := h.cell i (by omega)
  exact ⟨b, off, rfl, by rw [dg_take hi]; exact hc⟩

set_option maxHeartbeats 1000000 in
theorem trimmed_at (ng : Bool) (ao : Option Addr) (len cap : Nat) (ds : List Nat) (w : World) (h : Dg w ao len cap ds) :
    Calls Tryz.prog 77 #[.agg #[.bool ng, .slice ao len cap]] w fun e w' => ∃ n, n ≤ len ∧ (∀ i, n ≤ i → dg ds i = 0) ∧ (0 < n → dg ds (n - 1) ≠ 0) ∧
      e = .returned (.agg #[.bool (ng && decide (0 < n)), .slice ao n n]) ∧ Below w.heap.size w w' := by
  have hcap := h.lecap
  have hmax := h.lemax
  have hlen := h.lelen
  go_enter Tryz.func77, Tryz.ntmps77
  go_wp2
  go_loop [3] (fun t => ∃ n : Nat, n ≤ len ∧ t = .int .i64 n ∧ Hid (∀ i, n ≤ i → dg ds i = 0)) (fun t => (intOf t).toNat)
  case atStart => exact ⟨len, Nat.le_refl _, rfl, fun i hi => dg_none (by rw [h.eqlen]; exact hi)⟩
  case round =>
    obtain ⟨n, hn, rfl, hz⟩ := hrel
    by_cases hp : 0 < n
    · obtain ⟨b, off, rfl, hc⟩ := h.cell (n - 1) (by omega)
      have hlt := World.block_lt_of_cell? _ _ hc
      have hc' : ((w.alloc (Obj.cells #[Value.bool ng, Value.slice (some ⟨b, off, none⟩) len cap] 95)).alloc (Obj.cells #[Value.bool false, Value.slice none 0 0] 95)).cell? ⟨b, off + (n - 1), none⟩ = some (.int .u64 (dg ds (n - 1))) := by
        rw [World.cell?_of_block (Below.heap_alloc _ _ _ (by rw [World.size_alloc]; exact Nat.lt_succ_of_lt hlt)), World.cell?_of_block (Below.heap_alloc _ _ _ hlt)]; exact hc
      have hd := dg_lt h.small (n - 1)
      have H := h
      clear hc
      by_cases h0 : dg ds (n - 1) = 0
      · have hb : ((dg ds (n - 1) : Int) == 0) = true := by simp [h0]
        have H0 : Hid (dg ds (n - 1) = 0) := h0
        clear h0
        go_wp2
        go_round
        case rel => exact ⟨n - 1, by omega, by go_num, fun i hi => by
          by_cases e : i = n - 1
          · subst e; exact H0.out
          · exact hz.out i (by omega)⟩
        case measure => simp [intOf]; omega
      · have hb : ((dg ds (n - 1) : Int) == 0) = false := by simp [h0]
        have H0 : Hid (¬ dg ds (n - 1) = 0) := h0
        clear h0
        go_wp2
        cases ng
        · go_region
          go_wp2
          exact bodyPost_ret (v := .agg #[.bool false, .slice (some ⟨b, off, none⟩) n n]) (by simp [results, Tryz.results77, go_sem]) rfl ⟨n, hn, hz.out, fun _ => H0.out, rfl, (((Below.refl _ _).alloc (Nat.le_refl _) _).alloc (by simp) _).drew⟩
        · go_region
          go_wp2
          exact bodyPost_ret (v := .agg #[.bool true, .slice (some ⟨b, off, none⟩) n n]) (by simp [results, Tryz.results77, go_sem]) rfl ⟨n, hn, hz.out, fun _ => H0.out, by simp [hp], (((Below.refl _ _).alloc (Nat.le_refl _) _).alloc (by simp) _).drew⟩
    · obtain rfl : n = 0 := by omega
      have hnone := h.isnil
      go_wp2
      rcases ao with _ | a
      · have hc0 := hnone rfl
        subst hc0
        obtain rfl : len = 0 := by omega
        clear hnone
        cases ng
        · go_region
          go_wp2
          exact bodyPost_ret (v := .agg #[.bool false, .slice none 0 0]) (by simp [results, Tryz.results77, go_sem]) rfl ⟨0, hn, hz.out, fun h => absurd h (by omega), rfl, (((Below.refl _ _).alloc (Nat.le_refl _) _).alloc (by simp) _).drew⟩
        · go_region
          go_wp2
          exact bodyPost_ret (v := .agg #[.bool false, .slice none 0 0]) (by simp [results, Tryz.results77, go_sem]) rfl ⟨0, hn, hz.out, fun h => absurd h (by omega), rfl, (((Below.refl _ _).alloc (Nat.le_refl _) _).alloc (by simp) _).drew⟩
      · clear hnone
        cases ng
        · go_region
          go_wp2
          exact bodyPost_ret (v := .agg #[.bool false, .slice (some a) 0 0]) (by simp [results, Tryz.results77, go_sem]) rfl ⟨0, hn, hz.out, fun h => absurd h (by omega), rfl, (((Below.refl _ _).alloc (Nat.le_refl _) _).alloc (by simp) _).drew⟩
        · go_region
          go_wp2
          exact bodyPost_ret (v := .agg #[.bool false, .slice (some a) 0 0]) (by simp [results, Tryz.results77, go_sem]) rfl ⟨0, hn, hz.out, fun h => absurd h (by omega), rfl, (((Below.refl _ _).alloc (Nat.le_refl _) _).alloc (by simp) _).drew⟩
end Go.Proofs.YtiapkblebbcfbaaGreat.Wd
/- The document's wide numbers: made of a number, with the other sign. -/
namespace Go.Proofs.YtiapkblebbcfbaaGreat.Wd
open Go.RowKit
set_option linter.unusedVariables false

/-- the slice reads as the digits of m, no zero at the top -/
def Mg (w : World) (ao : Option Addr) (len cap : Nat) (m : Nat) : Prop := ∃ ds, Dg w ao len cap ds ∧ Nm ds ∧ val ds = m ∧ len ≤ 64
theorem Mg.below {w w' : World} {ao : Option Addr} {len cap m : Nat} (h : Mg w ao len cap m) {B : Nat} (hB : w.heap.size ≤ B) (hb : Below B w w') : Mg w' ao len cap m := by
  obtain ⟨ds, h1, h2⟩ := h
  exact ⟨ds, h1.below hB hb, h2⟩
/-- the value of a wide number x -/
abbrev wide (x : Int) (ao : Option Addr) (len cap : Nat) : Value := .agg #[.bool (decide (x < 0)), .slice ao len cap]

theorem trimmed_is (ng : Bool) (ao : Option Addr) (len cap : Nat) (ds : List Nat) (w : World) (h : Dg w ao len cap ds) (x : Int) (hx : x = if ng then -(val ds : Int) else val ds) (hb : val ds < 65536 ^ 64) :
    Calls Tryz.prog 77 #[.agg #[.bool ng, .slice ao len cap]] w fun e w' => ∃ ao' len' cap', e = .returned (.agg #[.bool (decide (x < 0)), .slice ao' len' cap']) ∧ Mg w' ao' len' cap' x.natAbs ∧ Below w.heap.size w w' := by
  refine (trimmed_at ng ao len cap ds w h).mono ?_
  rintro e w' ⟨n, hn, hz, ht, rfl, hbel⟩
  have hl : (ds.take n).length = n := by rw [List.length_take, h.eqlen]; omega
  have hnm : Nm (ds.take n) := by
    intro hp
    rw [hl] at hp ⊢
    rw [dg_take (by omega)]
    exact ht hp
  have hv : val (ds.take n) = val ds := val_take (by rw [h.eqlen]; exact hn) hz
  have hpos := val_pos hnm
  rw [hl, hv] at hpos
  have habs : val ds = x.natAbs := by cases ng <;> simp at hx <;> omega
  have hneg : (ng && decide (0 < n)) = decide (x < 0) := by
    cases ng
    · simp at hx ⊢; omega
    · simp at hx ⊢
      rw [hpos]; omega
  refine ⟨ao, n, n, by rw [hneg], ⟨ds.take n, (h.cut hn).below (Nat.le_refl _) hbel, hnm, by rw [hv, habs], ?_⟩, hbel⟩
  have := len_le hnm (K := 64) (by rw [hv]; exact hb)
  omega

theorem bcell {W w1 : World} (hb : Below W.heap.size W w1) : (∀ b o, b < W.heap.size → w1.cell? ⟨b, o, none⟩ = W.cell? ⟨b, o, none⟩) ∧ (∀ b o, b < W.heap.size → w1.frozen? ⟨b, o, none⟩ = W.frozen? ⟨b, o, none⟩) :=
  ⟨fun b o h => hb.cell (p := ⟨b, o, none⟩) h, fun b o h => hb.frozen (p := ⟨b, o, none⟩) h⟩
theorem Dg.setCell {w : World} {ao : Option Addr} {len cap : Nat} {ds : List Nat} (h : Dg w ao len cap ds) {p : Addr} {v : Value} (hp : w.cell? p = some v) (hv : ∀ k, v ≠ .int .u64 k) (u : Value) : Dg (w.setCell p u) ao len cap ds := by
  refine ⟨h.eqlen, h.lecap, h.lemax, h.lelen, h.isnil, fun i hi => ?_, h.small⟩
  obtain ⟨b, off, rfl, hc⟩ := h.cell i hi
  refine ⟨b, off, rfl, ?_⟩
  rw [World.cell?_setCell_other]
  · exact hc
  · intro e
    rw [e, hc] at hp
    exact hv _ (Option.some.inj hp).symm
/-- what is stored into a result's place leaves the digits as they are -/
theorem Mg.stored {w : World} {ao : Option Addr} {len cap m : Nat} (h : Mg w ao len cap m) {R : Nat} {b0 b1 : Bool} {s0 : Option Addr} {l0 c0 : Nat} (h0 : w.cell? ⟨R, 0, none⟩ = some (.bool b0)) (h1 : w.cell? ⟨R, 1, none⟩ = some (.slice s0 l0 c0)) (u : Value) :
    Mg ((w.setCell ⟨R, 0, none⟩ (.bool b1)).setCell ⟨R, 1, none⟩ u) ao len cap m := by
  obtain ⟨ds, h2, h3⟩ := h
  have h4 : (w.setCell ⟨R, 0, none⟩ (.bool b1)).cell? ⟨R, 1, none⟩ = some (.slice s0 l0 c0) := by
    rw [World.cell?_setCell_other]
    · exact h1
    · simp
  exact ⟨ds, (h2.setCell h0 (fun _ h => nomatch h) _).setCell h4 (fun _ h => nomatch h) _, h3⟩
theorem and_low (x : Int) (h : 0 ≤ x) (h' : x < 18446744073709551616) : bits .and .u64 x 65535 = ((x.toNat % 65536 : Nat) : Int) := by
  rw [u64_and x 65535 h h' (by omega) (by omega)]
  exact congrArg Int.ofNat (Nat.and_two_pow_sub_one_eq_mod x.toNat 16)

theorem dg_four (W : World) (g : Nat) (hg : W.heap.size = g) (c0 c1 c2 c3 : Int) (d0 d1 d2 d3 : Nat) (h0 : c0 = d0) (h1 : c1 = d1) (h2 : c2 = d2) (h3 : c3 = d3) (l0 : d0 < 65536) (l1 : d1 < 65536) (l2 : d2 < 65536) (l3 : d3 < 65536) :
    Dg (W.alloc (.cells #[.int .u64 c0, .int .u64 c1, .int .u64 c2, .int .u64 c3] 122)) (some ⟨g, 0, none⟩) 4 4 [d0, d1, d2, d3] := by
  subst hg h0 h1 h2 h3
  refine ⟨rfl, Nat.le_refl _, by omega, by omega, (fun h => nomatch h), (fun i hi => ⟨W.heap.size, 0, rfl, ?_⟩), ?_⟩
  · rw [Nat.zero_add]
    match i, hi with
    | 0, _ => simp [dg]
    | 1, _ => simp [dg]
    | 2, _ => simp [dg]
    | 3, _ => simp [dg]
  · intro d hd
    simp only [List.mem_cons, List.not_mem_nil, or_false] at hd
    omega

theorem four_val (m : Nat) (h : m < 18446744073709551616) : val [m % 65536, m / 65536 % 65536, m / 4294967296 % 65536, m / 281474976710656] = m := by
  simp only [val, V, dg, List.length_cons, List.length_nil]
  simp [List.getD]
  omega

set_option maxHeartbeats 1000000 in
theorem of_at (a : Int) (w : World) (l0 : -9223372036854775808 ≤ a) (u0 : a ≤ 9223372036854775807) :
    Calls Tryz.prog 51 #[.int .i64 a] w fun e w' => ∃ ao len cap, e = .returned (.agg #[.bool (decide (a < 0)), .slice ao len cap]) ∧ Mg w' ao len cap a.natAbs ∧ Below w.heap.size w w' := by
  obtain ⟨m, hm⟩ : ∃ m : Nat, m = a.natAbs := ⟨_, rfl⟩
  have hlt : m < 18446744073709551616 := by omega
  have hv := four_val m hlt
  have hbig : val [m % 65536, m / 65536 % 65536, m / 4294967296 % 65536, m / 281474976710656] < 65536 ^ 64 := by
    rw [hv]; exact Nat.lt_trans hlt (by decide)
  by_cases hs : a < 0
  · have hneg : IntKind.u64.wrap (-IntKind.u64.wrap a) = (m : Int) := by rw [IntKind.wrap_u64, IntKind.wrap_u64]; omega
    have hd : decide (a < 0) = true := by simpa using hs
    rw [hd]
    have HV := hv
    clear hv
    have HM : Hid (m = a.natAbs) := hm
    clear hm
    go_enter Tryz.func51, Tryz.ntmps51
    go_wp2_with fail
    refine (trimmed_is true _ _ _ [m % 65536, m / 65536 % 65536, m / 4294967296 % 65536, m / 281474976710656] _ (dg_four _ _ (by simp) _ _ _ _ _ _ _ _ ?_ ?_ ?_ ?_ (by omega) (by omega) (by omega) (by omega)) a ?_ hbig).mono ?_
    · rw [and_low _ (by omega) (by omega)]; omega
    · rw [and_low _ (by omega) (by omega)]; omega
    · rw [and_low _ (by omega) (by omega)]; omega
    · omega
    · rw [HV, if_pos rfl, HM.out]; omega
    · rintro e w' ⟨ao, len, cap, rfl, hM, hB⟩
      obtain ⟨hc, hf⟩ := bcell hB
      have hz : w.heap.size + 1 < w'.heap.size := by have := hB.size; simp at this; omega
      have k0 : w'.cell? ⟨w.heap.size, 0, none⟩ = some (.bool false) := by rw [hc _ _ (by simp; omega)]; simp
      have k1 : w'.cell? ⟨w.heap.size, 1, none⟩ = some (.slice none 0 0) := by rw [hc _ _ (by simp; omega)]; simp
      go_wp2
      exact bodyPost_ret (v := .agg #[.bool true, .slice ao len cap]) (by simp [results, Tryz.results51, go_sem, k0, k1]) rfl ⟨ao, len, cap, rfl, hM.stored k0 k1 _,
        (((((Below.refl _ _).alloc (Nat.le_refl _) _).alloc (by simp) _).trans (hB.mono (by simp; omega))).setCell (by simp) _).setCell (by simp) _⟩
  · have hneg : a = (m : Int) := by omega
    subst hneg
    have hd : decide ((m : Int) < 0) = false := by simp
    rw [hd]
    have HV := hv
    clear hv hs l0 hm
    go_enter Tryz.func51, Tryz.ntmps51
    go_wp2_with fail
    refine (trimmed_is false _ _ _ [m % 65536, m / 65536 % 65536, m / 4294967296 % 65536, m / 281474976710656] _ (dg_four _ _ (by simp) _ _ _ _ _ _ _ _ ?_ ?_ ?_ ?_ (by omega) (by omega) (by omega) (by omega)) m ?_ hbig).mono ?_
    · rw [and_low _ (by omega) (by omega)]; omega
    · rw [and_low _ (by omega) (by omega)]; omega
    · rw [and_low _ (by omega) (by omega)]; omega
    · omega
    · rw [HV]; simp
    · rintro e w' ⟨ao, len, cap, rfl, hM, hB⟩
      obtain ⟨hc, hf⟩ := bcell hB
      have hz : w.heap.size + 1 < w'.heap.size := by have := hB.size; simp at this; omega
      have k0 : w'.cell? ⟨w.heap.size, 0, none⟩ = some (.bool false) := by rw [hc _ _ (by simp; omega)]; simp
      have k1 : w'.cell? ⟨w.heap.size, 1, none⟩ = some (.slice none 0 0) := by rw [hc _ _ (by simp; omega)]; simp
      go_wp2
      exact bodyPost_ret (v := .agg #[.bool false, .slice ao len cap]) (by simp [results, Tryz.results51, go_sem, k0, k1]) rfl ⟨ao, len, cap, rfl, hM.stored k0 k1 _,
        (((((Below.refl _ _).alloc (Nat.le_refl _) _).alloc (by simp) _).trans (hB.mono (by simp; omega))).setCell (by simp) _).setCell (by simp) _⟩

/-- Minus -/
theorem minus_at (x : Int) (ao : Option Addr) (len cap : Nat) (w : World) (h : Mg w ao len cap x.natAbs) :
    Calls Tryz.prog 52 #[.agg #[.bool (decide (x < 0)), .slice ao len cap]] w fun e w' => ∃ ao len cap, e = .returned (.agg #[.bool (decide (-x < 0)), .slice ao len cap]) ∧ Mg w' ao len cap x.natAbs ∧ Below w.heap.size w w' := by
  obtain ⟨ds, h1, h2, h3, h4⟩ := h
  have hbig : val ds < 65536 ^ 64 := Nat.lt_of_lt_of_le (val_lt h1.small) (Nat.pow_le_pow_right (by omega) (by rw [h1.eqlen]; exact h4))
  have hx : -x = if (!decide (x < 0)) then -(val ds : Int) else val ds := by
    by_cases hs : x < 0
    · simp [hs]; omega
    · simp [hs]; omega
  have H1 := fun W hW => (h1.below (w' := W) (Nat.le_refl _) hW)
  generalize hng : decide (x < 0) = ng at *
  have hng' : Hid (decide (x < 0) = ng) := hng
  clear hng h1
  go_enter Tryz.func52, Tryz.ntmps52
  go_wp2_with fail
  refine (trimmed_is (!ng) ao len cap ds _ (H1 _ (((Below.refl _ _).alloc (Nat.le_refl _) _).alloc (by simp) _)) (-x) hx hbig).mono ?_
  rintro e w' ⟨ao', len', cap', rfl, hM, hB⟩
  obtain ⟨hc, hf⟩ := bcell hB
  have hz : w.heap.size + 1 < w'.heap.size := by have := hB.size; simp at this; omega
  have k0 : w'.cell? ⟨w.heap.size + 1, 0, none⟩ = some (.bool false) := by rw [hc _ _ (by simp)]; simp
  have k1 : w'.cell? ⟨w.heap.size + 1, 1, none⟩ = some (.slice none 0 0) := by rw [hc _ _ (by simp)]; simp
  rw [Int.natAbs_neg] at hM
  clear H1 hx
  go_wp2
  exact bodyPost_ret (v := .agg #[.bool (decide (-x < 0)), .slice ao' len' cap']) (by simp [results, Tryz.results52, go_sem, k0, k1]) rfl ⟨ao', len', cap', rfl, hM.stored k0 k1 _,
    (((((Below.refl _ _).alloc (Nat.le_refl _) _).alloc (by simp) _).trans (hB.mono (by simp; omega))).setCell (by simp) _).setCell (by simp) _⟩
end Go.Proofs.YtiapkblebbcfbaaGreat.Wd
/- The document's wide numbers: sums and differences of absolute values. -/
namespace Go.Proofs.YtiapkblebbcfbaaGreat.Wd
open Go.RowKit
set_option linter.unusedVariables false

theorem Tryz.info122 : (Tryz.prog.info? 122).map (fun i => (i.zero, i.size, i.bytes)) = some (some (.int .u64 0), 1, 8) := by kernel_rfl
abbrev cellsU (O : List Nat) : List Value := O.map (fun d : Nat => Value.int .u64 (d : Int))

theorem cell_new3 (W : World) (a b : Obj) (v : Value) (t : TypeId) : (((W.alloc a).alloc b).alloc (.cells #[v] t)).drew.cell? ⟨W.heap.size + 1 + 1, 0, none⟩ = some v := by
  have h : ∀ (X : World) (n : Nat), X.heap.size = n → (X.alloc (.cells #[v] t)).drew.cell? ⟨n, 0, none⟩ = some v := by
    intro X n hn
    subst hn
    simp
  exact h _ _ (by simp)
theorem size_new3 {W : World} {n : Nat} (h : n ≤ W.heap.size) (a b c : Obj) : n ≤ (((W.alloc a).alloc b).alloc c).drew.heap.size := by simp; omega
theorem below_new3 {B : Nat} {W0 W : World} (h : Below B W0 W) (hB : B ≤ W.heap.size) (a b c : Obj) : Below B W0 (((W.alloc a).alloc b).alloc c).drew :=
  (((h.alloc hB _).alloc (by simp; omega) _).alloc (by simp; omega) _).drew
theorem owns_new3 {W : World} {base k : Nat} {v : Value} {xs : List Value} (h : W.ownsRow base 122 1 v k xs) (a b c : Obj) : (((W.alloc a).alloc b).alloc c).drew.ownsRow base 122 1 v k xs := (((h.alloc _).alloc _).alloc _).drew
/-- 'out = append(out, d)' -/
theorem wp_push {ops : Array Oper} {rest : List Oper} {o : Oper} {a : Act} {Q : Exit → Act → World → Prop} (W0 Wc : World) (B base : Nat) (hgd : o.guard = none) (s x : Operand)
    (ho : o.op = .call { callee := .builtin .append, args := #[s, x], argTypes := #[93, 93] }) (v : Value) (k : Nat) (O : List Nat) (hs : a.eval s = v) (g : Nat) (d : Nat) (c : Int) (hx : a.eval x = .slice (some ⟨g, 0, none⟩) 1 1)
    (hown : Wc.ownsRow base 122 1 v k (cellsU O)) (hcell : Wc.cell? ⟨g, 0, none⟩ = some (.int .u64 c)) (hd : c = (d : Int)) (hbase : base ≤ Wc.heap.size) (hk : k ≤ 1000) (hbel : Below B W0 Wc) (hB : B ≤ base)
    (h : ∀ v' w', w'.ownsRow base 122 1 v' (k + 1) (cellsU (O ++ [d])) → Below B W0 w' → wpList Tryz.prog ops Q rest (a.put o.dst v') w') : wpList Tryz.prog ops Q (o :: rest) a Wc := by
  subst hd
  obtain ⟨i0, hi, hz0, hz1, hz2⟩ := info_parts Tryz.info122
  refine wpList_append_own _ hgd s x 93 ho base 122 i0 (.int .u64 0) 1 8 Tryz.underlying93 hi hz0 hz1 hz2 rfl (by decide) _ k _ hs hown ⟨g, 0, none⟩ 1 1 [.int .u64 (d : Int)] hx rfl ?_ ?_ (by unfold maxLen; omega) (by omega) hbase ?_
  · intro j u hj
    match j, hj with
    | 0, hj => simp at hj; subst hj; simpa [Addr.add] using hcell
  · intro u hu; simp at hu; subst hu; rfl
  · intro v' w' h1 h2 _
    refine h v' w' (by simpa [cellsU] using h1) (hbel.grown h2 (by omega) ?_)
    intro q hq
    have := hown.lt q hq
    omega

theorem dg_of_owns {w : World} {base : Nat} {v : Value} {k : Nat} {O : List Nat} (h : w.ownsRow base 122 1 v k (cellsU O)) (hs : Small O) (hk : k ≤ 1000000) : ∃ ro cr, v = .slice ro k cr ∧ Dg w ro k cr O := by
  have h' := h
  obtain ⟨hl, hv⟩ := h'
  simp only [List.length_map, Nat.mul_one] at hl
  rcases hv with ⟨rfl, hn⟩ | ⟨g, cap, cur, rfl, hg, hh, hnc, hcm, hcs, hx⟩
  · subst hn
    exact ⟨none, 0, rfl, hl, Nat.le_refl _, by omega, by omega, fun _ => rfl, fun i hi => by omega, hs⟩
  · refine ⟨some ⟨g, 0, none⟩, cap, rfl, hl, hnc, hcm, hk, (fun h => nomatch h), (fun i hi => ⟨g, 0, rfl, ?_⟩), hs⟩
    rw [Nat.zero_add, h.cellAt i (by omega), List.getElem?_map, List.getElem?_eq_getElem (by omega)]
    simp [dg, List.getD_eq_getElem?_getD, List.getElem?_eq_getElem (show i < O.length by omega)]

set_option maxRecDepth 100000 in
set_option maxHeartbeats 2000000 in
theorem plus_at (na nb : Bool) (ao bo : Option Addr) (la ca lb cb : Nat) (A B : List Nat) (w : World) (hA : Dg w ao la ca A) (hB : Dg w bo lb cb B) (ha : la ≤ 64) (hb : lb ≤ 64) :
    Calls Tryz.prog 76 #[.agg #[.bool na, .slice ao la ca], .agg #[.bool nb, .slice bo lb cb]] w fun e w' => ∃ ro lr cr R, e = .returned (.slice ro lr cr) ∧ Dg w' ro lr cr R ∧ val R = val A + val B ∧ Below w.heap.size w w' := by
  obtain ⟨i0, hi, hz0, hz1, hz2⟩ := info_parts Tryz.info122
  have hcA := hA.lecap
  have hmA := hA.lemax
  have hmA' := hA.lelen
  have hcB := hB.lecap
  have hmB := hB.lemax
  have hmB' := hB.lelen
  obtain ⟨M, hM⟩ : ∃ M, (la < lb ∧ lb ≤ M ∧ M ≤ lb) ∨ (¬ la < lb ∧ la ≤ M ∧ M ≤ la) := ⟨max la lb, by omega⟩
  go_enter Tryz.func76, Tryz.ntmps76
  go_wp2
  go_loopw [5, 6, 7] (fun v c i wr => ∃ (k cy : Nat) (O : List Nat), i = .int .i64 k ∧ c = .int .u64 cy ∧ cy ≤ 1 ∧ O.length = k ∧ Small O ∧ wr.ownsRow (w.heap.size + 2) 122 1 v k (cellsU O) ∧ Hid (val O + 65536 ^ k * cy = V (dg A) k + V (dg B) k) ∧
      (k ≤ M ∨ (k = M + 1 ∧ cy = 0)) ∧ Below (w.heap.size + 2) ((w.alloc (.cells #[.bool na, .slice ao la ca] 95)).alloc (.cells #[.bool nb, .slice bo lb cb] 95)) wr)
    (fun _ _ i _ => M + 1 - (intOf i).toNat)
  case atStart => exact ⟨0, 0, [], rfl, rfl, by omega, rfl, (fun d hd => by simp at hd), World.ownsRow_nil _ _ _ _, by simp [Hid, val, V], by omega, Below.refl _ _⟩
  case round =>
    obtain ⟨k, cy, O, rfl, rfl, hcy, hOl, hOs, hown, hinv, hend, hnx⟩ := hrel
    have c0 : wr.cell? ⟨w.heap.size, 0, none⟩ = some (.bool na) := by rw [hnx.cell (by simp)]; simp
    have c1 : wr.cell? ⟨w.heap.size, 1, none⟩ = some (.slice ao la ca) := by rw [hnx.cell (by simp)]; simp
    have c2 : wr.cell? ⟨w.heap.size + 1, 0, none⟩ = some (.bool nb) := by rw [hnx.cell (by simp)]; simp
    have c3 : wr.cell? ⟨w.heap.size + 1, 1, none⟩ = some (.slice bo lb cb) := by rw [hnx.cell (by simp)]; simp
    have hsz : w.heap.size + 2 ≤ wr.heap.size := by have := hnx.size; simp at this; omega
    have hbw : Below w.heap.size w wr := (((Below.refl _ _).alloc (Nat.le_refl _) _).alloc (by simp) _).trans (hnx.mono (by omega))
    have hbw1 : Below w.heap.size w wr.drew := hbw.drew
    have hbw2 : ∀ o, Below w.heap.size w (wr.alloc o).drew := fun o => (hbw.alloc (by omega) o).drew
    have hlA := dg_lt hA.small k
    have hlB := dg_lt hB.small k
    obtain ⟨S, hS⟩ : ∃ S, S = dg A k + dg B k + cy := ⟨_, rfl⟩
    have hS1 : IntKind.u64.wrap (IntKind.u64.wrap (↑(dg A k) + ↑(dg B k)) + ↑cy) = (S : Int) := by rw [IntKind.wrap_u64, IntKind.wrap_u64]; omega
    have hS2 : bits .and .u64 (S : Int) 65535 = ((S % 65536 : Nat) : Int) := by rw [and_low _ (by omega) (by omega)]; omega
    have hS3 : S < 131072 := by omega
    have hS4 : Hid (S = dg A k + dg B k + cy) := hS
    clear hS
    have hcase : (k < M ∨ (M ≤ k ∧ k ≤ M ∧ 0 < cy)) ∨ (¬ k < M ∧ ¬ 0 < cy) := by omega
    rcases hcase with hgo | ⟨hgo, hcar⟩
    · have hM64 : k ≤ 64 := by omega
      have hkM : k ≤ M := by omega
      have hcy' : k + 1 ≤ M ∨ (k + 1 = M + 1 ∧ S / 65536 = 0) := by
        have hS5 := hS4.out
        by_cases h : k < M
        · omega
        · right
          have e1 : dg A k = 0 := dg_none (by rw [hA.eqlen]; omega)
          have e2 : dg B k = 0 := dg_none (by rw [hB.eqlen]; omega)
          omega
      have HC : Hid (k + 1 ≤ M ∨ (k + 1 = M + 1 ∧ S / 65536 = 0)) := hcy'
      clear hcy' hend
      rcases hgo with hgo | ⟨hgo, hgo2, hcar⟩
      all_goals rcases hM with ⟨hll, hm1, hm2⟩ | ⟨hll, hm1, hm2⟩
      all_goals
        go_wp2
        go_region_held3 (fun w' => w'.cell? ⟨w.heap.size, 0, none⟩ = some (.bool na) ∧ w'.cell? ⟨w.heap.size, 1, none⟩ = some (.slice ao la ca) ∧ w'.cell? ⟨w.heap.size + 1, 0, none⟩ = some (.bool nb) ∧ w'.cell? ⟨w.heap.size + 1, 1, none⟩ = some (.slice bo lb cb)) (go_keep)
          (first
            | (go_at_call_of 80 (Value.agg #[Value.bool na, Value.slice ao la ca]); refine (digit_at na ao la ca A k _ ?_ (by omega)).mono ?_; exact hA.below (Nat.le_refl _) (by first | exact hbw | exact hbw1 | exact hbw2 _); rintro e w' ⟨rfl, rfl⟩)
            | (go_at_call_of 80 (Value.agg #[Value.bool nb, Value.slice bo lb cb]); refine (digit_at nb bo lb cb B k _ ?_ (by omega)).mono ?_; exact hB.below (Nat.le_refl _) (by first | exact hbw | exact hbw1 | exact hbw2 _); rintro e w' ⟨rfl, rfl⟩))
        go_wp2_with (at_builtin; refine wp_push ((w.alloc (.cells #[.bool na, .slice ao la ca] 95)).alloc (.cells #[.bool nb, .slice bo lb cb] 95)) _ (w.heap.size + 2) (w.heap.size + 2) rfl (.tmp 33) (.tmp 36) rfl _ k O rfl (wr.heap.size + 1 + 1) (S % 65536) _ rfl (owns_new3 hown _ _ _) (cell_new3 _ _ _ _ _) (by omega) (size_new3 hsz _ _ _) (by omega) (below_new3 hnx hsz _ _ _) (Nat.le_refl _) ?_; intro v' w1 hown' hnx')
        go_roundw
        case rel =>
          go_light
          exact ⟨k + 1, S / 65536, O ++ [S % 65536], by go_num, by go_num, by omega, by rw [List.length_append, hOl]; rfl, small_snoc hOs (by omega), hown', plus_step hOl hinv.out hS4.out, HC.out, hnx'⟩
        case measure => simp [intOf]; omega
    · have hcy0 : cy = 0 := by omega
      subst hcy0
      obtain ⟨ro, cr, rfl, hR⟩ := dg_of_owns hown hOs (by omega)
      have hv : Hid (val O = val A + val B) := by
        have h := hinv.out
        have e1 := val_at (ds := A) (k := k) (by rw [hA.eqlen]; omega)
        have e2 := val_at (ds := B) (k := k) (by rw [hB.eqlen]; omega)
        show val O = val A + val B
        omega
      clear hinv
      rcases hM with ⟨hll, hm1, hm2⟩ | ⟨hll, hm1, hm2⟩
      all_goals
        go_wp2
        go_ret
        exact ⟨ro, k, cr, rfl, O, hR, hv.out, hbw⟩
end Go.Proofs.YtiapkblebbcfbaaGreat.Wd
/- The document's wide numbers: differences and comparisons of absolute values. -/
namespace Go.Proofs.YtiapkblebbcfbaaGreat.Wd
open Go.RowKit
set_option linter.unusedVariables false

set_option maxHeartbeats 2000000 in
theorem minus_abs (na nb : Bool) (ao bo : Option Addr) (la ca lb cb : Nat) (A B : List Nat) (w : World) (hA : Dg w ao la ca A) (hB : Dg w bo lb cb B) (ha : la ≤ 64) (hb : lb ≤ la) (hle : Hid (val B ≤ val A)) :
    Calls Tryz.prog 79 #[.agg #[.bool na, .slice ao la ca], .agg #[.bool nb, .slice bo lb cb]] w fun e w' => ∃ ro lr cr R, e = .returned (.slice ro lr cr) ∧ Dg w' ro lr cr R ∧ val R = val A - val B ∧ Below w.heap.size w w' := by
  have hcA := hA.lecap
  have hmA := hA.lemax
  have hmA' := hA.lelen
  have hcB := hB.lecap
  have hmB := hB.lemax
  have hmB' := hB.lelen
  go_enter Tryz.func79, Tryz.ntmps79
  go_wp2
  go_loopw [5, 6, 7] (fun v c i wr => ∃ (k cy : Nat) (O : List Nat), i = .int .i64 k ∧ c = .int .u64 cy ∧ cy ≤ 1 ∧ O.length = k ∧ Small O ∧ wr.ownsRow (w.heap.size + 2) 122 1 v k (cellsU O) ∧ Hid (val O + V (dg B) k = V (dg A) k + 65536 ^ k * cy) ∧
      k ≤ la ∧ Below (w.heap.size + 2) ((w.alloc (.cells #[.bool na, .slice ao la ca] 95)).alloc (.cells #[.bool nb, .slice bo lb cb] 95)) wr)
    (fun _ _ i _ => la - (intOf i).toNat)
  case atStart => exact ⟨0, 0, [], rfl, rfl, by omega, rfl, (fun d hd => by simp at hd), World.ownsRow_nil _ _ _ _, by simp [Hid, val, V], by omega, Below.refl _ _⟩
  case round =>
    obtain ⟨k, cy, O, rfl, rfl, hcy, hOl, hOs, hown, hinv, hend, hnx⟩ := hrel
    have c0 : wr.cell? ⟨w.heap.size, 0, none⟩ = some (.bool na) := by rw [hnx.cell (by simp)]; simp
    have c1 : wr.cell? ⟨w.heap.size, 1, none⟩ = some (.slice ao la ca) := by rw [hnx.cell (by simp)]; simp
    have c2 : wr.cell? ⟨w.heap.size + 1, 0, none⟩ = some (.bool nb) := by rw [hnx.cell (by simp)]; simp
    have c3 : wr.cell? ⟨w.heap.size + 1, 1, none⟩ = some (.slice bo lb cb) := by rw [hnx.cell (by simp)]; simp
    have hsz : w.heap.size + 2 ≤ wr.heap.size := by have := hnx.size; simp at this; omega
    have hbw : Below w.heap.size w wr := (((Below.refl _ _).alloc (Nat.le_refl _) _).alloc (by simp) _).trans (hnx.mono (by omega))
    have hbw1 : Below w.heap.size w wr.drew := hbw.drew
    have hbw2 : ∀ o, Below w.heap.size w (wr.alloc o).drew := fun o => (hbw.alloc (by omega) o).drew
    have hlA := dg_lt hA.small k
    have hlB := dg_lt hB.small k
    obtain ⟨S, hS⟩ : ∃ S, S = dg A k + 65536 - dg B k - cy := ⟨_, rfl⟩
    have hS1 : IntKind.u64.wrap (IntKind.u64.wrap (IntKind.u64.wrap (↑(dg A k) + 65536) - ↑(dg B k)) - ↑cy) = (S : Int) := by rw [IntKind.wrap_u64, IntKind.wrap_u64, IntKind.wrap_u64]; omega
    have hS2 : bits .and .u64 (S : Int) 65535 = ((S % 65536 : Nat) : Int) := by rw [and_low _ (by omega) (by omega)]; omega
    have hS3 : S < 131072 := by omega
    have hS4 : Hid (S = dg A k + 65536 - dg B k - cy) := hS
    clear hS
    by_cases hgo : k < la
    · have hM64 : k ≤ 64 := by omega
      have hst := minus_step (a := dg A) (b := dg B) hOl hinv.out hcy hlB hS4.out hlA
      have HST : Hid _ := hst
      clear hst
      go_wp2
      go_region_held3 (fun w' => w'.cell? ⟨w.heap.size, 0, none⟩ = some (.bool na) ∧ w'.cell? ⟨w.heap.size, 1, none⟩ = some (.slice ao la ca) ∧ w'.cell? ⟨w.heap.size + 1, 0, none⟩ = some (.bool nb) ∧ w'.cell? ⟨w.heap.size + 1, 1, none⟩ = some (.slice bo lb cb)) (go_keep)
        (first
          | (go_at_call_of 80 (Value.agg #[Value.bool na, Value.slice ao la ca]); refine (digit_at na ao la ca A k _ ?_ (by omega)).mono ?_; exact hA.below (Nat.le_refl _) (by first | exact hbw | exact hbw1 | exact hbw2 _); rintro e w' ⟨rfl, rfl⟩)
          | (go_at_call_of 80 (Value.agg #[Value.bool nb, Value.slice bo lb cb]); refine (digit_at nb bo lb cb B k _ ?_ (by omega)).mono ?_; exact hB.below (Nat.le_refl _) (by first | exact hbw | exact hbw1 | exact hbw2 _); rintro e w' ⟨rfl, rfl⟩))
      go_wp2_with (at_builtin; refine wp_push ((w.alloc (.cells #[.bool na, .slice ao la ca] 95)).alloc (.cells #[.bool nb, .slice bo lb cb] 95)) _ (w.heap.size + 2) (w.heap.size + 2) rfl (.tmp 26) (.tmp 29) rfl _ k O rfl (wr.heap.size + 1 + 1) (S % 65536) _ rfl (owns_new3 hown _ _ _) (cell_new3 _ _ _ _ _) (by omega) (size_new3 hsz _ _ _) (by omega) (below_new3 hnx hsz _ _ _) (Nat.le_refl _) ?_; intro v' w1 hown' hnx')
      go_roundw
      case rel =>
        go_light
        obtain ⟨h1, h2, h3⟩ := HST.out
        exact ⟨k + 1, 1 - S / 65536, O ++ [S % 65536], by go_num, by go_num, h2, by rw [List.length_append, hOl]; rfl, small_snoc hOs (by omega), hown', h1, hgo, hnx'⟩
      case measure => simp [intOf]; omega
    · obtain rfl : k = la := by omega
      obtain ⟨ro, cr, rfl, hR⟩ := dg_of_owns hown hOs (by omega)
      have hv : Hid (val O = val A - val B) := by
        refine minus_end (c := cy) (by rw [hOl, hA.eqlen]) hOs (by rw [hA.eqlen, hB.eqlen]; exact hb) hle.out hcy ?_
        rw [hA.eqlen]
        exact hinv.out
      clear hinv
      go_wp2
      go_ret
      exact ⟨ro, k, cr, O, rfl, hR, hv.out, hbw⟩

/-- the answer of Size -/
def cmpN (a b : Nat) : Int := if a < b then -1 else if b < a then 1 else 0

theorem two_new {B : Nat} {W0 W : World} (h : Below B W0 W) (hB : B ≤ W.heap.size) (a b : Obj) : Below B W0 ((W.alloc a).alloc b).drew := ((h.alloc hB _).alloc (by simp; omega) _).drew
theorem four_new {B : Nat} {W0 W : World} (h : Below B W0 W) (hB : B ≤ W.heap.size) (a b c d : Obj) : Below B W0 ((((W.alloc a).alloc b).alloc c).alloc d).drew.drew :=
  ((((h.alloc hB _).alloc (by simp; omega) _).alloc (by simp; omega) _).alloc (by simp; omega) _).drew.drew

set_option maxHeartbeats 4000000 in
theorem size_at (na nb : Bool) (ao bo : Option Addr) (la ca lb cb : Nat) (A B : List Nat) (w : World) (hA : Dg w ao la ca A) (hB : Dg w bo lb cb B) :
    Calls Tryz.prog 78 #[.agg #[.bool na, .slice ao la ca], .agg #[.bool nb, .slice bo lb cb]] w fun e w' => e = .returned (.int .i64 (cmpN (val A) (val B))) ∧ Below w.heap.size w w' := by
  have hcA := hA.lecap
  have hmA := hA.lemax
  have hmA' := hA.lelen
  have hcB := hB.lecap
  have hmB := hB.lemax
  have hmB' := hB.lelen
  obtain ⟨M, hM⟩ : ∃ M, (la < lb ∧ lb ≤ M ∧ M ≤ lb) ∨ (¬ la < lb ∧ la ≤ M ∧ M ≤ la) := ⟨max la lb, by omega⟩
  have hMA : Hid (V (dg A) M = val A) := val_at (by rw [hA.eqlen]; omega)
  have hMB : Hid (V (dg B) M = val B) := val_at (by rw [hB.eqlen]; omega)
  rcases hM with ⟨hll, hm1, hm2⟩ | ⟨hll, hm1, hm2⟩
  all_goals
    go_enter Tryz.func78, Tryz.ntmps78
    go_wp2
    go_loopw [5] (fun i wr => ∃ n : Nat, n ≤ M ∧ i = .int .i64 ((n : Int) - 1) ∧ Hid (∀ j, n ≤ j → j < M → dg A j = dg B j) ∧
        Below (w.heap.size + 2) ((w.alloc (.cells #[.bool na, .slice ao la ca] 95)).alloc (.cells #[.bool nb, .slice bo lb cb] 95)) wr)
      (fun i _ => (intOf i + 1).toNat)
    case atStart => exact ⟨M, Nat.le_refl _, by go_num, (fun j h1 h2 => by omega), Below.refl _ _⟩
    case round =>
      obtain ⟨n, hn, rfl, hinv, hnx⟩ := hrel
      have c0 : wr.cell? ⟨w.heap.size, 0, none⟩ = some (.bool na) := by rw [hnx.cell (by simp)]; simp
      have c1 : wr.cell? ⟨w.heap.size, 1, none⟩ = some (.slice ao la ca) := by rw [hnx.cell (by simp)]; simp
      have c2 : wr.cell? ⟨w.heap.size + 1, 0, none⟩ = some (.bool nb) := by rw [hnx.cell (by simp)]; simp
      have c3 : wr.cell? ⟨w.heap.size + 1, 1, none⟩ = some (.slice bo lb cb) := by rw [hnx.cell (by simp)]; simp
      have hsz : w.heap.size + 2 ≤ wr.heap.size := by have := hnx.size; simp at this; omega
      have hbw : Below w.heap.size w wr := (((Below.refl _ _).alloc (Nat.le_refl _) _).alloc (by simp) _).trans (hnx.mono (by omega))
      have hbw1 : Below w.heap.size w wr.drew := hbw.drew
      have hbw2 : ∀ o, Below w.heap.size w (wr.alloc o).drew := fun o => (hbw.alloc (by omega) o).drew
      have hbw3 : ∀ o p, Below w.heap.size w ((wr.alloc o).alloc p).drew.drew := fun o p => (two_new hbw (by omega) o p).drew
      have hbw4 : ∀ o p q, Below w.heap.size w (((wr.alloc o).alloc p).alloc q).drew.drew := fun o p q => (below_new3 hbw (by omega) o p q).drew
      have hSx : ∀ w', Below (w.heap.size + 2) ((w.alloc (.cells #[.bool na, .slice ao la ca] 95)).alloc (.cells #[.bool nb, .slice bo lb cb] 95)) w' → (w'.cell? ⟨w.heap.size, 0, none⟩ = some (.bool na) ∧ w'.cell? ⟨w.heap.size, 1, none⟩ = some (.slice ao la ca) ∧ w'.cell? ⟨w.heap.size + 1, 0, none⟩ = some (.bool nb) ∧ w'.cell? ⟨w.heap.size + 1, 1, none⟩ = some (.slice bo lb cb)) := fun w' h => by
        refine ⟨?_, ?_, ?_, ?_⟩ <;> (rw [h.cell (by simp)]; simp)
      have g1 := hnx.drew
      have g2 := fun o => (hnx.alloc hsz o).drew
      have g3 := fun o p => two_new hnx hsz o p
      have g3' := fun o p => (two_new hnx hsz o p).drew
      have g4 := fun o p q => (below_new3 hnx hsz o p q).drew
      have g5 := fun o p q r => four_new hnx hsz o p q r
      rcases n with _ | m
      · have hv : Hid (cmpN (val A) (val B) = 0) := by
          have e : val A = val B := by rw [← hMA.out, ← hMB.out]; exact V_congr M fun i hi => hinv.out i (by omega) hi
          show cmpN (val A) (val B) = 0
          unfold cmpN; rw [e]; simp
        go_wp2
        go_ret
        exact ⟨congrArg (fun x => Ending.returned (.int .i64 x)) hv.out.symm, hbw⟩
      · rw [show ((m + 1 : Nat) : Int) - 1 = (m : Int) from by omega]
        have hlA := dg_lt hA.small m
        have hlB := dg_lt hB.small m
        rcases (show dg A m < dg B m ∨ (¬ dg A m < dg B m ∧ dg B m < dg A m) ∨ (¬ dg A m < dg B m ∧ ¬ dg B m < dg A m) by omega) with hc | ⟨hc, hc'⟩ | ⟨hc, hc'⟩
        · have hv : Hid (cmpN (val A) (val B) = -1) := by
            have e := less_at (f := dg A) (g := dg B) (fun i => dg_lt hA.small i) (k := m) (L := M) (by omega) (fun i h1 h2 => hinv.out i (by omega) h2) hc
            rw [hMA.out, hMB.out] at e
            show cmpN (val A) (val B) = -1
            unfold cmpN; rw [if_pos e]
          go_wp2
          go_region_held3 (fun w' => w'.cell? ⟨w.heap.size, 0, none⟩ = some (.bool na) ∧ w'.cell? ⟨w.heap.size, 1, none⟩ = some (.slice ao la ca) ∧ w'.cell? ⟨w.heap.size + 1, 0, none⟩ = some (.bool nb) ∧ w'.cell? ⟨w.heap.size + 1, 1, none⟩ = some (.slice bo lb cb)) (first | exact hSx _ g1 | exact hSx _ (g2 _) | exact hSx _ (g3 _ _) | exact hSx _ (g3' _ _) | exact hSx _ (g4 _ _ _) | exact hSx _ (g5 _ _ _ _))
            (first
              | (go_at_call_of 80 (Value.agg #[Value.bool na, Value.slice ao la ca]); refine (digit_at na ao la ca A m _ ?_ (by omega)).mono ?_; exact hA.below (Nat.le_refl _) (by first | exact hbw1 | exact hbw2 _ | exact hbw3 _ _ | exact hbw4 _ _ _); rintro e w' ⟨rfl, rfl⟩)
              | (go_at_call_of 80 (Value.agg #[Value.bool nb, Value.slice bo lb cb]); refine (digit_at nb bo lb cb B m _ ?_ (by omega)).mono ?_; exact hB.below (Nat.le_refl _) (by first | exact hbw1 | exact hbw2 _ | exact hbw3 _ _ | exact hbw4 _ _ _); rintro e w' ⟨rfl, rfl⟩))
          go_wp2
          go_ret
          exact ⟨congrArg (fun x => Ending.returned (.int .i64 x)) hv.out.symm, two_new hbw (by omega) _ _⟩
        · have hv : Hid (cmpN (val A) (val B) = 1) := by
            have e := less_at (f := dg B) (g := dg A) (fun i => dg_lt hB.small i) (k := m) (L := M) (by omega) (fun i h1 h2 => (hinv.out i (by omega) h2).symm) hc'
            rw [hMA.out, hMB.out] at e
            show cmpN (val A) (val B) = 1
            unfold cmpN; rw [if_neg (by omega), if_pos e]
          go_wp2
          go_region_held3 (fun w' => w'.cell? ⟨w.heap.size, 0, none⟩ = some (.bool na) ∧ w'.cell? ⟨w.heap.size, 1, none⟩ = some (.slice ao la ca) ∧ w'.cell? ⟨w.heap.size + 1, 0, none⟩ = some (.bool nb) ∧ w'.cell? ⟨w.heap.size + 1, 1, none⟩ = some (.slice bo lb cb)) (first | exact hSx _ g1 | exact hSx _ (g2 _) | exact hSx _ (g3 _ _) | exact hSx _ (g3' _ _) | exact hSx _ (g4 _ _ _) | exact hSx _ (g5 _ _ _ _))
            (first
              | (go_at_call_of 80 (Value.agg #[Value.bool na, Value.slice ao la ca]); refine (digit_at na ao la ca A m _ ?_ (by omega)).mono ?_; exact hA.below (Nat.le_refl _) (by first | exact hbw1 | exact hbw2 _ | exact hbw3 _ _ | exact hbw4 _ _ _); rintro e w' ⟨rfl, rfl⟩)
              | (go_at_call_of 80 (Value.agg #[Value.bool nb, Value.slice bo lb cb]); refine (digit_at nb bo lb cb B m _ ?_ (by omega)).mono ?_; exact hB.below (Nat.le_refl _) (by first | exact hbw1 | exact hbw2 _ | exact hbw3 _ _ | exact hbw4 _ _ _); rintro e w' ⟨rfl, rfl⟩))
          go_wp2
          go_region_held3 (fun w' => w'.cell? ⟨w.heap.size, 0, none⟩ = some (.bool na) ∧ w'.cell? ⟨w.heap.size, 1, none⟩ = some (.slice ao la ca) ∧ w'.cell? ⟨w.heap.size + 1, 0, none⟩ = some (.bool nb) ∧ w'.cell? ⟨w.heap.size + 1, 1, none⟩ = some (.slice bo lb cb)) (first | exact hSx _ g1 | exact hSx _ (g2 _) | exact hSx _ (g3 _ _) | exact hSx _ (g3' _ _) | exact hSx _ (g4 _ _ _) | exact hSx _ (g5 _ _ _ _))
            (first
              | (go_at_call_of 80 (Value.agg #[Value.bool na, Value.slice ao la ca]); refine (digit_at na ao la ca A m _ ?_ (by omega)).mono ?_; exact hA.below (Nat.le_refl _) (by first | exact hbw1 | exact hbw2 _ | exact hbw3 _ _ | exact hbw4 _ _ _); rintro e w' ⟨rfl, rfl⟩)
              | (go_at_call_of 80 (Value.agg #[Value.bool nb, Value.slice bo lb cb]); refine (digit_at nb bo lb cb B m _ ?_ (by omega)).mono ?_; exact hB.below (Nat.le_refl _) (by first | exact hbw1 | exact hbw2 _ | exact hbw3 _ _ | exact hbw4 _ _ _); rintro e w' ⟨rfl, rfl⟩))
          go_wp2
          go_ret
          exact ⟨congrArg (fun x => Ending.returned (.int .i64 x)) hv.out.symm, four_new hbw (by omega) _ _ _ _⟩
        · go_wp2
          go_region_held3 (fun w' => w'.cell? ⟨w.heap.size, 0, none⟩ = some (.bool na) ∧ w'.cell? ⟨w.heap.size, 1, none⟩ = some (.slice ao la ca) ∧ w'.cell? ⟨w.heap.size + 1, 0, none⟩ = some (.bool nb) ∧ w'.cell? ⟨w.heap.size + 1, 1, none⟩ = some (.slice bo lb cb)) (first | exact hSx _ g1 | exact hSx _ (g2 _) | exact hSx _ (g3 _ _) | exact hSx _ (g3' _ _) | exact hSx _ (g4 _ _ _) | exact hSx _ (g5 _ _ _ _))
            (first
              | (go_at_call_of 80 (Value.agg #[Value.bool na, Value.slice ao la ca]); refine (digit_at na ao la ca A m _ ?_ (by omega)).mono ?_; exact hA.below (Nat.le_refl _) (by first | exact hbw1 | exact hbw2 _ | exact hbw3 _ _ | exact hbw4 _ _ _); rintro e w' ⟨rfl, rfl⟩)
              | (go_at_call_of 80 (Value.agg #[Value.bool nb, Value.slice bo lb cb]); refine (digit_at nb bo lb cb B m _ ?_ (by omega)).mono ?_; exact hB.below (Nat.le_refl _) (by first | exact hbw1 | exact hbw2 _ | exact hbw3 _ _ | exact hbw4 _ _ _); rintro e w' ⟨rfl, rfl⟩))
          go_wp2
          go_region_held3 (fun w' => w'.cell? ⟨w.heap.size, 0, none⟩ = some (.bool na) ∧ w'.cell? ⟨w.heap.size, 1, none⟩ = some (.slice ao la ca) ∧ w'.cell? ⟨w.heap.size + 1, 0, none⟩ = some (.bool nb) ∧ w'.cell? ⟨w.heap.size + 1, 1, none⟩ = some (.slice bo lb cb)) (first | exact hSx _ g1 | exact hSx _ (g2 _) | exact hSx _ (g3 _ _) | exact hSx _ (g3' _ _) | exact hSx _ (g4 _ _ _) | exact hSx _ (g5 _ _ _ _))
            (first
              | (go_at_call_of 80 (Value.agg #[Value.bool na, Value.slice ao la ca]); refine (digit_at na ao la ca A m _ ?_ (by omega)).mono ?_; exact hA.below (Nat.le_refl _) (by first | exact hbw1 | exact hbw2 _ | exact hbw3 _ _ | exact hbw4 _ _ _); rintro e w' ⟨rfl, rfl⟩)
              | (go_at_call_of 80 (Value.agg #[Value.bool nb, Value.slice bo lb cb]); refine (digit_at nb bo lb cb B m _ ?_ (by omega)).mono ?_; exact hB.below (Nat.le_refl _) (by first | exact hbw1 | exact hbw2 _ | exact hbw3 _ _ | exact hbw4 _ _ _); rintro e w' ⟨rfl, rfl⟩))
          go_wp2
          go_roundw
          case rel =>
            go_light
            exact ⟨m, by omega, rfl, (fun j h1 h2 => by
              by_cases e : j = m
              · subst e; omega
              · exact hinv.out j (by omega) h2), four_new hnx hsz _ _ _ _⟩
          case measure => simp [intOf]
end Go.Proofs.YtiapkblebbcfbaaGreat.Wd
/- The document's wide numbers: sums, comparisons. -/
namespace Go.Proofs.YtiapkblebbcfbaaGreat.Wd
open Go.RowKit
set_option linter.unusedVariables false

theorem mg_le {w : World} {ao bo : Option Addr} {la ca lb cb : Nat} {A B : List Nat} (hA : Dg w ao la ca A) (hB : Dg w bo lb cb B) (nB : Nm B) (h : val B ≤ val A) : lb ≤ la := by
  have h1 := val_lt hA.small
  rw [hA.eqlen] at h1
  have := len_le nB (K := la) (by omega)
  rw [hB.eqlen] at this
  exact this

theorem cell_old (W : World) (o : Obj) (p : Addr) (h : p.block < W.heap.size) : (W.alloc o).cell? p = W.cell? p := World.cell?_of_block (Below.heap_alloc _ _ _ h)
theorem cell_two (W : World) (n : Nat) (h : W.heap.size = n) (u v : Value) (t : TypeId) : (W.alloc (.cells #[u, v] t)).cell? ⟨n, 0, none⟩ = some u ∧ (W.alloc (.cells #[u, v] t)).cell? ⟨n, 1, none⟩ = some v := by
  subst h; exact ⟨by simp, by simp⟩
theorem free_two (W : World) (n : Nat) (h : W.heap.size = n) (u v : Value) (t : TypeId) : (W.alloc (.cells #[u, v] t)).frozen? ⟨n, 0, none⟩ = false ∧ (W.alloc (.cells #[u, v] t)).frozen? ⟨n, 1, none⟩ = false := by
  subst h; exact ⟨by simp, by simp⟩

/-- the world behind the three new blocks with which Plus and its like begin -/
abbrev box3 (w : World) (na nb : Bool) (ao bo : Option Addr) (la ca lb cb : Nat) : World :=
  ((w.alloc (.cells #[.bool na, .slice ao la ca] 95)).alloc (.cells #[.bool nb, .slice bo lb cb] 95)).alloc (.cells #[.bool false, .slice none 0 0] 95)

/-- the cells of the new blocks -/
theorem boxes {w W' : World} {na nb : Bool} {ao bo : Option Addr} {la ca lb cb : Nat} (h : Below (w.heap.size + 2) (box3 w na nb ao bo la ca lb cb) W') :
    W'.cell? ⟨w.heap.size, 0, none⟩ = some (.bool na) ∧ W'.cell? ⟨w.heap.size, 1, none⟩ = some (.slice ao la ca) ∧ W'.cell? ⟨w.heap.size + 1, 0, none⟩ = some (.bool nb) ∧ W'.cell? ⟨w.heap.size + 1, 1, none⟩ = some (.slice bo lb cb) := by
  have e1 := cell_two w _ rfl (.bool na) (.slice ao la ca) 95
  have e2 := cell_two (w.alloc (.cells #[.bool na, .slice ao la ca] 95)) (w.heap.size + 1) (by simp) (.bool nb) (.slice bo lb cb) 95
  refine ⟨?_, ?_, ?_, ?_⟩
  · rw [h.cell (p := ⟨w.heap.size, 0, none⟩) (by simp), cell_old _ _ _ (by simp; omega), cell_old _ _ _ (by simp)]; exact e1.1
  · rw [h.cell (p := ⟨w.heap.size, 1, none⟩) (by simp), cell_old _ _ _ (by simp; omega), cell_old _ _ _ (by simp)]; exact e1.2
  · rw [h.cell (p := ⟨w.heap.size + 1, 0, none⟩) (by simp), cell_old _ _ _ (by simp)]; exact e2.1
  · rw [h.cell (p := ⟨w.heap.size + 1, 1, none⟩) (by simp), cell_old _ _ _ (by simp)]; exact e2.2
theorem place {w W' : World} {na nb : Bool} {ao bo : Option Addr} {la ca lb cb : Nat} (h : Below (w.heap.size + 3) (box3 w na nb ao bo la ca lb cb) W') :
    W'.cell? ⟨w.heap.size + 1 + 1, 0, none⟩ = some (.bool false) ∧ W'.cell? ⟨w.heap.size + 1 + 1, 1, none⟩ = some (.slice none 0 0) ∧ W'.frozen? ⟨w.heap.size + 1 + 1, 0, none⟩ = false ∧ W'.frozen? ⟨w.heap.size + 1 + 1, 1, none⟩ = false := by
  have e1 := cell_two ((w.alloc (.cells #[.bool na, .slice ao la ca] 95)).alloc (.cells #[.bool nb, .slice bo lb cb] 95)) (w.heap.size + 1 + 1) (by simp) (.bool false) (.slice none 0 0) 95
  have e2 := free_two ((w.alloc (.cells #[.bool na, .slice ao la ca] 95)).alloc (.cells #[.bool nb, .slice bo lb cb] 95)) (w.heap.size + 1 + 1) (by simp) (.bool false) (.slice none 0 0) 95
  refine ⟨?_, ?_, ?_, ?_⟩
  · rw [h.cell (p := ⟨w.heap.size + 1 + 1, 0, none⟩) (by simp)]; exact e1.1
  · rw [h.cell (p := ⟨w.heap.size + 1 + 1, 1, none⟩) (by simp)]; exact e1.2
  · rw [h.frozen (p := ⟨w.heap.size + 1 + 1, 0, none⟩) (by simp)]; exact e2.1
  · rw [h.frozen (p := ⟨w.heap.size + 1 + 1, 1, none⟩) (by simp)]; exact e2.2
theorem box3_below (w : World) (na nb : Bool) (ao bo : Option Addr) (la ca lb cb : Nat) : Below w.heap.size w (box3 w na nb ao bo la ca lb cb) :=
  (((Below.refl _ _).alloc (Nat.le_refl _) _).alloc (by simp) _).alloc (by simp; omega) _
theorem box3_size (w : World) (na nb : Bool) (ao bo : Option Addr) (la ca lb cb : Nat) : (box3 w na nb ao bo la ca lb cb).heap.size = w.heap.size + 3 := by simp [box3]
theorem two_below {B : Nat} {W0 W : World} (h : Below B W0 W) {n : Nat} (hn : B ≤ n) (u v : Value) : Below B W0 ((W.setCell ⟨n, 0, none⟩ u).setCell ⟨n, 1, none⟩ v) := (h.setCell (p := ⟨n, 0, none⟩) hn u).setCell (p := ⟨n, 1, none⟩) hn v

set_option maxHeartbeats 4000000 in
theorem sum_same (b : Bool) (x : Int) (ao bo : Option Addr) (la ca lb cb : Nat) (A B : List Nat) (w : World) (hA : Dg w ao la ca A) (hB : Dg w bo lb cb B) (ha : la ≤ 64) (hb : lb ≤ 64) (hx : Hid (x = if b then -((val A + val B : Nat) : Int) else ((val A + val B : Nat) : Int))) (hbig : Hid (val A + val B < 65536 ^ 64)) :
    Calls Tryz.prog 50 #[.agg #[.bool b, .slice ao la ca], .agg #[.bool b, .slice bo lb cb]] w fun e w' => ∃ ro lr cr, e = .returned (.agg #[.bool (decide (x < 0)), .slice ro lr cr]) ∧ Mg w' ro lr cr x.natAbs ∧ Below w.heap.size w w' := by
  have hW0 := box3_below w b b ao bo la ca lb cb
  have hWW := Below.refl (w.heap.size + 3) (box3 w b b ao bo la ca lb cb)
  have hWs := box3_size w b b ao bo la ca lb cb
  have hbb : (b == b) = true := by simp
  go_enter Tryz.func50, Tryz.ntmps50
  go_wp2
  go_region_held3 (fun w' => w'.cell? ⟨w.heap.size, 0, none⟩ = some (.bool b) ∧ w'.cell? ⟨w.heap.size, 1, none⟩ = some (.slice ao la ca) ∧ w'.cell? ⟨w.heap.size + 1, 0, none⟩ = some (.bool b) ∧ w'.cell? ⟨w.heap.size + 1, 1, none⟩ = some (.slice bo lb cb)) (first | exact boxes (hWW.drew.mono (by omega)) | exact boxes (hN1.mono (by omega)) | exact boxes (hN2.mono (by omega)) | exact boxes (two_below (hN2.mono (by omega)) (by omega) _ _))
    (first
      | (go_at_call 76; refine (plus_at b b ao bo la ca lb cb A B _ (hA.below (Nat.le_refl _) hW0.drew) (hB.below (Nat.le_refl _) hW0.drew) ha hb).mono ?_; rintro e w1 ⟨ro, lr, cr, R, rfl, hR, hvR, hB1⟩; have hN1 := hWW.drew.trans (hB1.mono (by have := hWW.drew.size; simp only [World.size_drew] at *; omega)); have hw1 := hW0.drew.trans (hB1.mono (by have := hW0.drew.size; simp only [World.size_drew] at *; omega)))
      | (go_at_call 77; refine (trimmed_is b _ _ _ R _ hR x (by rw [hvR]; exact hx.out) (by rw [hvR]; exact hbig.out)).mono ?_; rintro e w2 ⟨ro2, lr2, cr2, rfl, hM2, hB2⟩; have hN2 := hN1.trans (hB2.mono (by have := hN1.size; omega)); have hw2 := hw1.trans (hB2.mono (by have := hw1.size; omega)); obtain ⟨k0, k1, kf0, kf1⟩ := place hN2))
  go_wp2
  exact bodyPost_ret (v := .agg #[.bool (decide (x < 0)), .slice ro2 lr2 cr2]) (by simp [results, Tryz.results50, go_sem, k0, k1]) rfl ⟨ro2, lr2, cr2, rfl, hM2.stored k0 k1 _, two_below hw2 (by omega) _ _⟩

set_option maxHeartbeats 4000000 in
theorem sum_left (b : Bool) (x : Int) (ao bo : Option Addr) (la ca lb cb : Nat) (A B : List Nat) (w : World) (hA : Dg w ao la ca A) (hB : Dg w bo lb cb B) (nB : Nm B) (ha : la ≤ 64) (hle : Hid (val B ≤ val A)) (hx : Hid (x = if b then -((val A - val B : Nat) : Int) else ((val A - val B : Nat) : Int))) (hbig : Hid (val A - val B < 65536 ^ 64)) :
    Calls Tryz.prog 50 #[.agg #[.bool b, .slice ao la ca], .agg #[.bool (!b), .slice bo lb cb]] w fun e w' => ∃ ro lr cr, e = .returned (.agg #[.bool (decide (x < 0)), .slice ro lr cr]) ∧ Mg w' ro lr cr x.natAbs ∧ Below w.heap.size w w' := by
  have hW0 := box3_below w b (!b) ao bo la ca lb cb
  have hWW := Below.refl (w.heap.size + 3) (box3 w b (!b) ao bo la ca lb cb)
  have hWs := box3_size w b (!b) ao bo la ca lb cb
  have hbb : (b == !b) = false := by cases b <;> rfl
  have hll := mg_le hA hB nB hle.out
  have hcp : ∃ c, cmpN (val A) (val B) = c ∧ 0 ≤ c := ⟨_, rfl, by have := hle.out; unfold cmpN; split <;> first | omega | (split <;> omega)⟩
  obtain ⟨c, hcmp', hc0⟩ := hcp
  have hcmp : Hid (cmpN (val A) (val B) = c) := hcmp'
  clear hcmp'
  go_enter Tryz.func50, Tryz.ntmps50
  go_wp2_with (go_at_call 78; refine (size_at b (!b) ao bo la ca lb cb A B _ (hA.below (Nat.le_refl _) hW0) (hB.below (Nat.le_refl _) hW0)).mono ?_; rintro e w0 ⟨rfl, hB0⟩; rw [hcmp.out]; have hN0 := hWW.trans (hB0.mono (Nat.le_of_eq hWs.symm)); have hw0 := hW0.trans (hB0.mono (Nat.le_of_lt (by rw [hWs]; omega))); have hz0 := hN0.size; obtain ⟨q0, q1, q2, q3⟩ := boxes (hN0.mono (by omega)))
  go_region_held3 (fun w' => w'.cell? ⟨w.heap.size, 0, none⟩ = some (.bool b) ∧ w'.cell? ⟨w.heap.size, 1, none⟩ = some (.slice ao la ca) ∧ w'.cell? ⟨w.heap.size + 1, 0, none⟩ = some (.bool (!b)) ∧ w'.cell? ⟨w.heap.size + 1, 1, none⟩ = some (.slice bo lb cb)) (first | exact boxes (hN0.drew.mono (by omega)) | exact boxes (hN1.mono (by omega)) | exact boxes (hN2.mono (by omega)) | exact boxes (two_below (hN2.mono (by omega)) (by omega) _ _))
    (first
      | (go_at_call 79; refine (minus_abs b (!b) ao bo la ca lb cb A B _ (hA.below (Nat.le_refl _) hw0.drew) (hB.below (Nat.le_refl _) hw0.drew) ha hll hle).mono ?_; rintro e w1 ⟨ro, lr, cr, R, rfl, hR, hvR, hB1⟩; have hN1 := hN0.drew.trans (hB1.mono (by have := hN0.drew.size; simp only [World.size_drew] at *; omega)); have hw1 := hw0.drew.trans (hB1.mono (by have := hw0.drew.size; simp only [World.size_drew] at *; omega)))
      | (go_at_call 77; refine (trimmed_is b _ _ _ R _ hR x (by rw [hvR]; exact hx.out) (by rw [hvR]; exact hbig.out)).mono ?_; rintro e w2 ⟨ro2, lr2, cr2, rfl, hM2, hB2⟩; have hN2 := hN1.trans (hB2.mono (by have := hN1.size; omega)); have hw2 := hw1.trans (hB2.mono (by have := hw1.size; omega)); obtain ⟨k0, k1, kf0, kf1⟩ := place hN2))
  go_wp2
  exact bodyPost_ret (v := .agg #[.bool (decide (x < 0)), .slice ro2 lr2 cr2]) (by simp [results, Tryz.results50, go_sem, k0, k1]) rfl ⟨ro2, lr2, cr2, rfl, hM2.stored k0 k1 _, two_below hw2 (by omega) _ _⟩

set_option maxHeartbeats 4000000 in
theorem sum_right (b : Bool) (x : Int) (ao bo : Option Addr) (la ca lb cb : Nat) (A B : List Nat) (w : World) (hA : Dg w ao la ca A) (hB : Dg w bo lb cb B) (nA : Nm A) (hb : lb ≤ 64) (hlt : Hid (val A < val B)) (hx : Hid (x = if b then -((val B - val A : Nat) : Int) else ((val B - val A : Nat) : Int))) (hbig : Hid (val B - val A < 65536 ^ 64)) :
    Calls Tryz.prog 50 #[.agg #[.bool (!b), .slice ao la ca], .agg #[.bool b, .slice bo lb cb]] w fun e w' => ∃ ro lr cr, e = .returned (.agg #[.bool (decide (x < 0)), .slice ro lr cr]) ∧ Mg w' ro lr cr x.natAbs ∧ Below w.heap.size w w' := by
  have hW0 := box3_below w (!b) b ao bo la ca lb cb
  have hWW := Below.refl (w.heap.size + 3) (box3 w (!b) b ao bo la ca lb cb)
  have hWs := box3_size w (!b) b ao bo la ca lb cb
  have hbb : ((!b) == b) = false := by cases b <;> rfl
  have hle : Hid (val A ≤ val B) := Nat.le_of_lt hlt.out
  have hll := mg_le hB hA nA hle.out
  have hcp : ∃ c, cmpN (val A) (val B) = c ∧ ¬ 0 ≤ c := ⟨_, rfl, by have := hlt.out; unfold cmpN; rw [if_pos this]; omega⟩
  obtain ⟨c, hcmp', hc0⟩ := hcp
  have hcmp : Hid (cmpN (val A) (val B) = c) := hcmp'
  clear hcmp'
  go_enter Tryz.func50, Tryz.ntmps50
  go_wp2_with (go_at_call 78; refine (size_at (!b) b ao bo la ca lb cb A B _ (hA.below (Nat.le_refl _) hW0) (hB.below (Nat.le_refl _) hW0)).mono ?_; rintro e w0 ⟨rfl, hB0⟩; rw [hcmp.out]; have hN0 := hWW.trans (hB0.mono (Nat.le_of_eq hWs.symm)); have hw0 := hW0.trans (hB0.mono (Nat.le_of_lt (by rw [hWs]; omega))); have hz0 := hN0.size; obtain ⟨q0, q1, q2, q3⟩ := boxes (hN0.mono (by omega)))
  go_region_held3 (fun w' => w'.cell? ⟨w.heap.size, 0, none⟩ = some (.bool (!b)) ∧ w'.cell? ⟨w.heap.size, 1, none⟩ = some (.slice ao la ca) ∧ w'.cell? ⟨w.heap.size + 1, 0, none⟩ = some (.bool b) ∧ w'.cell? ⟨w.heap.size + 1, 1, none⟩ = some (.slice bo lb cb)) (first | exact boxes (hN0.drew.mono (by omega)) | exact boxes (hN1.mono (by omega)) | exact boxes (hN2.mono (by omega)) | exact boxes (two_below (hN2.mono (by omega)) (by omega) _ _))
    (first
      | (go_at_call 79; refine (minus_abs b (!b) bo ao lb cb la ca B A _ (hB.below (Nat.le_refl _) hw0.drew) (hA.below (Nat.le_refl _) hw0.drew) hb hll hle).mono ?_; rintro e w1 ⟨ro, lr, cr, R, rfl, hR, hvR, hB1⟩; have hN1 := hN0.drew.trans (hB1.mono (by have := hN0.drew.size; simp only [World.size_drew] at *; omega)); have hw1 := hw0.drew.trans (hB1.mono (by have := hw0.drew.size; simp only [World.size_drew] at *; omega)))
      | (go_at_call 77; refine (trimmed_is b _ _ _ R _ hR x (by rw [hvR]; exact hx.out) (by rw [hvR]; exact hbig.out)).mono ?_; rintro e w2 ⟨ro2, lr2, cr2, rfl, hM2, hB2⟩; have hN2 := hN1.trans (hB2.mono (by have := hN1.size; omega)); have hw2 := hw1.trans (hB2.mono (by have := hw1.size; omega)); obtain ⟨k0, k1, kf0, kf1⟩ := place hN2))
  go_wp2
  exact bodyPost_ret (v := .agg #[.bool (decide (x < 0)), .slice ro2 lr2 cr2]) (by simp [results, Tryz.results50, go_sem, k0, k1]) rfl ⟨ro2, lr2, cr2, rfl, hM2.stored k0 k1 _, two_below hw2 (by omega) _ _⟩

end Go.Proofs.YtiapkblebbcfbaaGreat.Wd
/- The document's wide numbers: comparisons, and back to 64 bits. -/
namespace Go.Proofs.YtiapkblebbcfbaaGreat.Wd
open Go.RowKit
set_option linter.unusedVariables false

theorem plus_is (x y z : Int) (ao bo : Option Addr) (la ca lb cb : Nat) (w : World) (hX : Mg w ao la ca x.natAbs) (hY : Mg w bo lb cb y.natAbs) (hz : z = x + y) (hbig : z.natAbs < 65536 ^ 64) :
    Calls Tryz.prog 50 #[.agg #[.bool (decide (x < 0)), .slice ao la ca], .agg #[.bool (decide (y < 0)), .slice bo lb cb]] w fun e w' => ∃ ro lr cr, e = .returned (.agg #[.bool (decide (z < 0)), .slice ro lr cr]) ∧ Mg w' ro lr cr z.natAbs ∧ Below w.heap.size w w' := by
  obtain ⟨A, hA, nA, vA, lA⟩ := hX
  obtain ⟨B, hB, nB, vB, lB⟩ := hY
  by_cases hs : (x < 0 ↔ y < 0)
  · have e : decide (y < 0) = decide (x < 0) := by simp [hs]
    rw [e]
    have hv : z.natAbs = val A + val B := by omega
    refine sum_same (decide (x < 0)) z ao bo la ca lb cb A B w hA hB lA lB ?_ ?_
    · show z = _
      by_cases h : x < 0
      · rw [if_pos (by simpa using h)]; omega
      · rw [if_neg (by simpa using h)]; omega
    · show _ < _
      rw [← hv]; exact hbig
  · by_cases hle : val B ≤ val A
    · have e : decide (y < 0) = !decide (x < 0) := by
        by_cases h : x < 0 <;> by_cases h' : y < 0 <;> simp [h, h'] <;> omega
      rw [e]
      have hv : z.natAbs = val A - val B := by omega
      refine sum_left (decide (x < 0)) z ao bo la ca lb cb A B w hA hB nB lA hle ?_ ?_
      · show z = _
        by_cases h : x < 0
        · rw [if_pos (by simpa using h)]; omega
        · rw [if_neg (by simpa using h)]; omega
      · show _ < _
        rw [← hv]; exact hbig
    · have e : decide (x < 0) = !decide (y < 0) := by
        by_cases h : x < 0 <;> by_cases h' : y < 0 <;> simp [h, h'] <;> omega
      rw [e]
      have hv : z.natAbs = val B - val A := by omega
      refine sum_right (decide (y < 0)) z ao bo la ca lb cb A B w hA hB nA lB (show _ < _ by omega) ?_ ?_
      · show z = _
        by_cases h : y < 0
        · rw [if_pos (by simpa using h)]; omega
        · rw [if_neg (by simpa using h)]; omega
      · show _ < _
        rw [← hv]; exact hbig

theorem plus_b (x y z : Int) (na nb : Bool) (ao bo : Option Addr) (la ca lb cb : Nat) (w : World) (ha : na = decide (x < 0)) (hb : nb = decide (y < 0)) (hX : Mg w ao la ca x.natAbs) (hY : Mg w bo lb cb y.natAbs) (hz : z = x + y) (hbig : z.natAbs < 65536 ^ 64) :
    Calls Tryz.prog 50 #[.agg #[.bool na, .slice ao la ca], .agg #[.bool nb, .slice bo lb cb]] w fun e w' => ∃ b ro lr cr, e = .returned (.agg #[.bool b, .slice ro lr cr]) ∧ Hid (b = decide (z < 0)) ∧ Mg w' ro lr cr z.natAbs ∧ Below w.heap.size w w' := by
  subst ha hb
  refine (plus_is x y z ao bo la ca lb cb w hX hY hz hbig).mono ?_
  rintro e w' ⟨ao, len, cap, rfl, h1, h2⟩
  exact ⟨_, ao, len, cap, rfl, rfl, h1, h2⟩
theorem minus_b (x : Int) (nb : Bool) (ao : Option Addr) (len cap : Nat) (w : World) (hb : nb = decide (x < 0)) (h : Mg w ao len cap x.natAbs) :
    Calls Tryz.prog 52 #[.agg #[.bool nb, .slice ao len cap]] w fun e w' => ∃ b ao len cap, e = .returned (.agg #[.bool b, .slice ao len cap]) ∧ Hid (b = decide (-x < 0)) ∧ Mg w' ao len cap (-x).natAbs ∧ Below w.heap.size w w' := by
  subst hb; rw [Int.natAbs_neg]
  refine (minus_at x ao len cap w h).mono ?_
  rintro e w' ⟨ao, len, cap, rfl, h1, h2⟩
  exact ⟨_, ao, len, cap, rfl, rfl, h1, h2⟩

/-- the world behind the two new blocks with which Less begins -/
abbrev box2 (w : World) (na nb : Bool) (ao bo : Option Addr) (la ca lb cb : Nat) : World :=
  (w.alloc (.cells #[.bool na, .slice ao la ca] 95)).alloc (.cells #[.bool nb, .slice bo lb cb] 95)
theorem boxes2 {w W' : World} {na nb : Bool} {ao bo : Option Addr} {la ca lb cb : Nat} (h : Below (w.heap.size + 2) (box2 w na nb ao bo la ca lb cb) W') :
    W'.cell? ⟨w.heap.size, 0, none⟩ = some (.bool na) ∧ W'.cell? ⟨w.heap.size, 1, none⟩ = some (.slice ao la ca) ∧ W'.cell? ⟨w.heap.size + 1, 0, none⟩ = some (.bool nb) ∧ W'.cell? ⟨w.heap.size + 1, 1, none⟩ = some (.slice bo lb cb) := by
  have e1 := cell_two w _ rfl (.bool na) (.slice ao la ca) 95
  have e2 := cell_two (w.alloc (.cells #[.bool na, .slice ao la ca] 95)) (w.heap.size + 1) (by simp) (.bool nb) (.slice bo lb cb) 95
  refine ⟨?_, ?_, ?_, ?_⟩
  · rw [h.cell (p := ⟨w.heap.size, 0, none⟩) (by simp), cell_old _ _ _ (by simp)]; exact e1.1
  · rw [h.cell (p := ⟨w.heap.size, 1, none⟩) (by simp), cell_old _ _ _ (by simp)]; exact e1.2
  · rw [h.cell (p := ⟨w.heap.size + 1, 0, none⟩) (by simp)]; exact e2.1
  · rw [h.cell (p := ⟨w.heap.size + 1, 1, none⟩) (by simp)]; exact e2.2
theorem box2_below (w : World) (na nb : Bool) (ao bo : Option Addr) (la ca lb cb : Nat) : Below w.heap.size w (box2 w na nb ao bo la ca lb cb) := ((Below.refl _ _).alloc (Nat.le_refl _) _).alloc (by simp) _
theorem box2_size (w : World) (na nb : Bool) (ao bo : Option Addr) (la ca lb cb : Nat) : (box2 w na nb ao bo la ca lb cb).heap.size = w.heap.size + 2 := by simp [box2]

theorem field0 (b : Bool) (o : Option Addr) (l c : Nat) (W : World) : (Instr.field 95 (.agg #[.bool b, .slice o l c]) 0).run Tryz.prog W = .ok (.bool b) W := by kernel_rfl
theorem field1 (b : Bool) (o : Option Addr) (l c : Nat) (W : World) : (Instr.field 95 (.agg #[.bool b, .slice o l c]) 1).run Tryz.prog W = .ok (.slice o l c) W := by kernel_rfl
set_option maxHeartbeats 400000 in
theorem less_b (x y : Int) (na nb : Bool) (ao bo : Option Addr) (la ca lb cb : Nat) (w : World) (Hna : Hid (na = decide (x < 0))) (Hnb : Hid (nb = decide (y < 0))) (hX : Mg w ao la ca x.natAbs) (hY : Mg w bo lb cb y.natAbs) (hbig : Hid ((x - y).natAbs < 65536 ^ 64)) (hd : Hid (decide (x - y < 0) = decide (x < y))) :
    Calls Tryz.prog 91 #[.agg #[.bool na, .slice ao la ca], .agg #[.bool nb, .slice bo lb cb]] w fun e w' => e = .returned (.bool (decide (x < y))) ∧ Below w.heap.size w w' := by
  have hW0 := box2_below w na nb ao bo la ca lb cb
  have hWW := Below.refl (w.heap.size + 2) (box2 w na nb ao bo la ca lb cb)
  have hWs := box2_size w na nb ao bo la ca lb cb
  have hf0 := field0
  go_enter Tryz.func91, Tryz.ntmps91
  go_wp2
  go_region_held3 (fun w' => w'.cell? ⟨w.heap.size, 0, none⟩ = some (.bool na) ∧ w'.cell? ⟨w.heap.size, 1, none⟩ = some (.slice ao la ca) ∧ w'.cell? ⟨w.heap.size + 1, 0, none⟩ = some (.bool nb) ∧ w'.cell? ⟨w.heap.size + 1, 1, none⟩ = some (.slice bo lb cb)) (first | exact boxes2 hWW.drew | exact boxes2 hN1 | exact boxes2 hN2)
    (first
      | (go_at_call 52; refine (minus_b y nb bo lb cb _ Hnb.out (hY.below (Nat.le_refl _) hW0.drew)).mono ?_; rintro e w1 ⟨b1, ro, lr, cr, rfl, Hb1, hR, hB1⟩; have hN1 := hWW.drew.trans (hB1.mono (Nat.le_of_eq hWs.symm)); have hw1 := hW0.drew.trans (hB1.mono (Nat.le_of_lt (by rw [World.size_drew, hWs]; omega))))
      | (go_at_call 50; refine (plus_b x (-y) (x - y) na b1 ao ro la ca lr cr _ Hna.out Hb1.out (hX.below (Nat.le_refl _) hw1) hR (by omega) hbig.out).mono ?_; rintro e w2 ⟨b2, ro2, lr2, cr2, rfl, Hb2, hM2, hB2⟩; have hN2 := hN1.trans (hB2.mono (by have := hN1.size; omega)); have hw2 := hw1.trans (hB2.mono hw1.size)))
  go_wp2
  go_ret
  exact ⟨congrArg (fun b => Ending.returned (.bool b)) (Hb2.out.trans hd.out), hw2⟩
end Go.Proofs.YtiapkblebbcfbaaGreat.Wd
/- The document's wide numbers: back to 64 bits. -/
namespace Go.Proofs.YtiapkblebbcfbaaGreat.Wd
open Go.RowKit
set_option linter.unusedVariables false

theorem of_b (a : Int) (w : World) (l0 : -9223372036854775808 ≤ a) (u0 : a ≤ 9223372036854775807) :
    Calls Tryz.prog 51 #[.int .i64 a] w fun e w' => ∃ b ao len cap, e = .returned (.agg #[.bool b, .slice ao len cap]) ∧ Hid (b = decide (a < 0)) ∧ Mg w' ao len cap a.natAbs ∧ Below w.heap.size w w' := by
  refine (of_at a w l0 u0).mono ?_
  rintro e w' ⟨ao, len, cap, rfl, h1, h2⟩
  exact ⟨_, ao, len, cap, rfl, rfl, h1, h2⟩

theorem box1 {w W' : World} {na : Bool} {ao : Option Addr} {la ca : Nat} (h : Below (w.heap.size + 1) (w.alloc (.cells #[.bool na, .slice ao la ca] 95)) W') :
    W'.cell? ⟨w.heap.size, 0, none⟩ = some (.bool na) ∧ W'.cell? ⟨w.heap.size, 1, none⟩ = some (.slice ao la ca) := by
  have e1 := cell_two w _ rfl (.bool na) (.slice ao la ca) 95
  refine ⟨?_, ?_⟩
  · rw [h.cell (p := ⟨w.heap.size, 0, none⟩) (by simp)]; exact e1.1
  · rw [h.cell (p := ⟨w.heap.size, 1, none⟩) (by simp)]; exact e1.2

theorem big_sub (x y : Int) (h : x.natAbs < 65536 ^ 60) (hy : y.natAbs ≤ 9223372036854775808) : (x - y).natAbs < 65536 ^ 64 ∧ (y - x).natAbs < 65536 ^ 64 := by
  have h1 : 65536 ^ 60 + 9223372036854775808 < 65536 ^ 64 := by decide
  generalize 65536 ^ 60 = p at *
  generalize 65536 ^ 64 = q at *
  omega
theorem less_v (x y : Int) (r : Bool) (na nb : Bool) (ao bo : Option Addr) (la ca lb cb : Nat) (w : World) (Hna : Hid (na = decide (x < 0))) (Hnb : Hid (nb = decide (y < 0))) (hX : Mg w ao la ca x.natAbs) (hY : Mg w bo lb cb y.natAbs) (hbig : Hid ((x - y).natAbs < 65536 ^ 64)) (hr : decide (x < y) = r) :
    Calls Tryz.prog 91 #[.agg #[.bool na, .slice ao la ca], .agg #[.bool nb, .slice bo lb cb]] w fun e w' => e = .returned (.bool r) ∧ Below w.heap.size w w' := by
  subst hr; exact less_b x y na nb ao bo la ca lb cb w Hna Hnb hX hY hbig (show _ = _ by rw [decide_eq_decide]; omega)
theorem less_dec (x y : Int) : decide (x - y < 0) = decide (x < y) := by rw [decide_eq_decide]; omega

set_option maxHeartbeats 1000000 in
theorem fits_low (x : Int) (na : Bool) (ao : Option Addr) (la ca : Nat) (w : World) (Hna : Hid (na = decide (x < 0))) (hX : Mg w ao la ca x.natAbs) (hbig : Hid (x.natAbs < 65536 ^ 60)) (hlow : x < -9223372036854775808) :
    Calls Tryz.prog 75 #[.agg #[.bool na, .slice ao la ca]] w fun e w' => e = .returned (.tuple #[.int .i64 0, .bool false]) ∧ Below w.heap.size w w' := by
  have hW0 := (Below.refl w.heap.size w).alloc (Nat.le_refl _) (.cells #[.bool na, .slice ao la ca] 95)
  have hWW := Below.refl (w.heap.size + 1) (w.alloc (.cells #[.bool na, .slice ao la ca] 95))
  have hWs : (w.alloc (.cells #[.bool na, .slice ao la ca] 95)).heap.size = w.heap.size + 1 := by simp
  go_enter Tryz.func75, Tryz.ntmps75
  go_wp2
  go_region_with (first
    | (go_at_call 51; refine (of_b _ _ (by omega) (by omega)).mono ?_; rintro e w1 ⟨b1, ro, lr, cr, rfl, Hb1, hR, hB1⟩; have hN1 := hWW.drew.trans (hB1.mono (Nat.le_of_eq hWs.symm)); have hw1 := hW0.drew.trans (hB1.mono (Nat.le_of_lt (by rw [World.size_drew, hWs]; omega))); obtain ⟨q0, q1⟩ := box1 hN1)
    | (go_at_call 91; refine (less_b x (-9223372036854775808) na b1 ao ro la ca lr cr _ Hna Hb1 (hX.below (Nat.le_refl _) hw1) hR (big_sub x _ hbig.out (by decide)).1 (less_dec _ _)).mono ?_; rintro e w2 ⟨rfl, hB2⟩; have hN2 := hN1.trans (hB2.mono (by have := hN1.size; omega)); have hw2 := hw1.trans (hB2.mono hw1.size)))
  all_goals
    go_wp2
    go_ret2
    exact ⟨rfl, hw2⟩

set_option maxHeartbeats 2000000 in
theorem fits_high (x : Int) (na : Bool) (ao : Option Addr) (la ca : Nat) (w : World) (Hna : Hid (na = decide (x < 0))) (hX : Mg w ao la ca x.natAbs) (hbig : Hid (x.natAbs < 65536 ^ 60)) (hhigh : 9223372036854775807 < x) :
    Calls Tryz.prog 75 #[.agg #[.bool na, .slice ao la ca]] w fun e w' => e = .returned (.tuple #[.int .i64 0, .bool false]) ∧ Below w.heap.size w w' := by
  have hW0 := (Below.refl w.heap.size w).alloc (Nat.le_refl _) (.cells #[.bool na, .slice ao la ca] 95)
  have hWW := Below.refl (w.heap.size + 1) (w.alloc (.cells #[.bool na, .slice ao la ca] 95))
  have hWs : (w.alloc (.cells #[.bool na, .slice ao la ca] 95)).heap.size = w.heap.size + 1 := by simp
  have hlow : ¬ x < -9223372036854775808 := by omega
  go_enter Tryz.func75, Tryz.ntmps75
  go_wp2
  go_region_held3 (fun w' => w'.cell? ⟨w.heap.size, 0, none⟩ = some (.bool na) ∧ w'.cell? ⟨w.heap.size, 1, none⟩ = some (.slice ao la ca)) (first | exact box1 hWW.drew | exact box1 hN1 | exact box1 hN2 | exact box1 hN3 | exact box1 hN4)
    (first
      | (go_at_call 91; have _t := hN3; refine (less_v 9223372036854775807 x true b3 na ro3 ao lr3 cr3 la ca _ Hb3 Hna hR3 (hX.below (Nat.le_refl _) hw3) (big_sub x _ hbig.out (by decide)).2 (decide_eq_true (by omega))).mono ?_; rintro e w4 ⟨rfl, hB4⟩; have hN4 := hN3.trans (hB4.mono (by have := hN3.size; omega)); have hw4 := hw3.trans (hB4.mono hw3.size))
      | (go_at_call 51; have _t := hN2; refine (of_b _ _ (by omega) (by omega)).mono ?_; rintro e w3 ⟨b3, ro3, lr3, cr3, rfl, Hb3, hR3, hB3⟩; have hN3 := hN2.trans (hB3.mono (by have := hN2.size; omega)); have hw3 := hw2.trans (hB3.mono hw2.size))
      | (go_at_call 91; refine (less_v x (-9223372036854775808) false na b1 ao ro la ca lr cr _ Hna Hb1 (hX.below (Nat.le_refl _) hw1) hR (big_sub x _ hbig.out (by decide)).1 (decide_eq_false (by omega))).mono ?_; rintro e w2 ⟨rfl, hB2⟩; have hN2 := hN1.trans (hB2.mono (by have := hN1.size; omega)); have hw2 := hw1.trans (hB2.mono hw1.size))
      | (go_at_call 51; refine (of_b _ _ (by omega) (by omega)).mono ?_; rintro e w1 ⟨b1, ro, lr, cr, rfl, Hb1, hR, hB1⟩; have hN1 := hWW.drew.trans (hB1.mono (Nat.le_of_eq hWs.symm)); have hw1 := hW0.drew.trans (hB1.mono (Nat.le_of_lt (by rw [World.size_drew, hWs]; omega)))))
  all_goals
    go_wp2
    go_ret2
    exact ⟨rfl, hw4⟩
end Go.Proofs.YtiapkblebbcfbaaGreat.Wd
/- The document's wide numbers: back to 64 bits, where they fit. -/
namespace Go.Proofs.YtiapkblebbcfbaaGreat.Wd
open Go.RowKit
set_option linter.unusedVariables false

theorem back_step {f : Nat → Nat} {nv m x : Nat} (h : nv * 65536 ^ (m + 1) + V f (m + 1) = x) : (nv * 65536 + f m) * 65536 ^ m + V f m = x := by
  rw [← h, Nat.add_mul]
  simp only [V]
  rw [Nat.pow_succ, Nat.mul_comm (65536 ^ m) 65536, ← Nat.mul_assoc, Nat.mul_comm (f m)]
  omega
theorem back_bound {f : Nat → Nat} {nv m x : Nat} (h : nv * 65536 ^ (m + 1) + V f (m + 1) = x) : nv * 65536 ≤ x := by
  have h1 : nv * 65536 ≤ nv * 65536 ^ (m + 1) := Nat.mul_le_mul_left _ (by rw [Nat.pow_succ]; exact Nat.le_mul_of_pos_left _ (Nat.pow_pos (by omega)))
  omega

theorem or_join (nv d : Nat) (h : nv * 65536 ≤ 9223372036854775808) (hd : d < 65536) : bits .or .u64 ((nv : Int) * 65536) (d : Int) = ((nv * 65536 + d : Nat) : Int) := by
  have e := u64_or_nat (nv * 65536) d (by omega) (by omega)
  rw [Int.natCast_mul] at e
  have e2 := nat_join 16 (nv * 65536) d (by omega) hd
  rw [e2] at e
  exact e
theorem ret_fit {a b : Int} (h : a = b) : Ending.returned (.tuple #[.int .i64 a, .bool true]) = .returned (.tuple #[.int .i64 b, .bool true]) := by rw [h]

set_option maxHeartbeats 2000000 in
theorem fits_in (x : Int) (na : Bool) (ao : Option Addr) (la ca : Nat) (w : World) (Hna : Hid (na = decide (x < 0))) (hX : Mg w ao la ca x.natAbs) (hl : -9223372036854775808 ≤ x) (hu : x ≤ 9223372036854775807) :
    Calls Tryz.prog 75 #[.agg #[.bool na, .slice ao la ca]] w fun e w' => e = .returned (.tuple #[.int .i64 x, .bool true]) ∧ Below w.heap.size w w' := by
  have hW0 := (Below.refl w.heap.size w).alloc (Nat.le_refl _) (.cells #[.bool na, .slice ao la ca] 95)
  have hWW := Below.refl (w.heap.size + 1) (w.alloc (.cells #[.bool na, .slice ao la ca] 95))
  have hWs : (w.alloc (.cells #[.bool na, .slice ao la ca] 95)).heap.size = w.heap.size + 1 := by simp
  have hlow : ¬ x < -9223372036854775808 := by omega
  have hbig : Hid (x.natAbs < 65536 ^ 60) := Nat.lt_of_le_of_lt (show x.natAbs ≤ 9223372036854775808 by omega) (by decide)
  obtain ⟨A, hA, nA, vA, lA⟩ := hX
  have hX : Mg w ao la ca x.natAbs := ⟨A, hA, nA, vA, lA⟩
  have hcA := hA.lecap
  have hmA := hA.lemax
  have VA : Hid (val A = x.natAbs) := vA
  clear vA
  go_enter Tryz.func75, Tryz.ntmps75
  go_wp2
  go_region_held3 (fun w' => w'.cell? ⟨w.heap.size, 0, none⟩ = some (.bool na) ∧ w'.cell? ⟨w.heap.size, 1, none⟩ = some (.slice ao la ca)) (first | exact box1 hWW.drew | exact box1 hN1 | exact box1 hN2 | exact box1 hN3 | exact box1 hN4)
    (first
      | (go_at_call 91; have _t := hN3; refine (less_v 9223372036854775807 x false b3 na ro3 ao lr3 cr3 la ca _ Hb3 Hna hR3 (hX.below (Nat.le_refl _) hw3) (big_sub x _ hbig.out (by decide)).2 (decide_eq_false (by omega))).mono ?_; rintro e w4 ⟨rfl, hB4⟩; have hN4 := hN3.trans (hB4.mono (by have := hN3.size; omega)); have hw4 := hw3.trans (hB4.mono hw3.size))
      | (go_at_call 51; have _t := hN2; refine (of_b _ _ (by omega) (by omega)).mono ?_; rintro e w3 ⟨b3, ro3, lr3, cr3, rfl, Hb3, hR3, hB3⟩; have hN3 := hN2.trans (hB3.mono (by have := hN2.size; omega)); have hw3 := hw2.trans (hB3.mono hw2.size))
      | (go_at_call 91; refine (less_v x (-9223372036854775808) false na b1 ao ro la ca lr cr _ Hna Hb1 (hX.below (Nat.le_refl _) hw1) hR (big_sub x _ hbig.out (by decide)).1 (decide_eq_false (by omega))).mono ?_; rintro e w2 ⟨rfl, hB2⟩; have hN2 := hN1.trans (hB2.mono (by have := hN1.size; omega)); have hw2 := hw1.trans (hB2.mono hw1.size))
      | (go_at_call 51; refine (of_b _ _ (by omega) (by omega)).mono ?_; rintro e w1 ⟨b1, ro, lr, cr, rfl, Hb1, hR, hB1⟩; have hN1 := hWW.drew.trans (hB1.mono (Nat.le_of_eq hWs.symm)); have hw1 := hW0.drew.trans (hB1.mono (Nat.le_of_lt (by rw [World.size_drew, hWs]; omega)))))
  obtain ⟨q0, q1⟩ := box1 hN4
  have hA4 := hA.below (Nat.le_refl _) hw4
  have HA4 : Hid (Dg w4 ao la ca A) := hA4
  clear hA4 hX hR hR3 hB1 hB2 hB3 hB4 hN1 hN2 hN3 hN4 hw1 hw2 hw3 hWW hW0
  go_wp2
  go_loop [4, 5] (fun n i => ∃ m nv : Nat, m ≤ la ∧ i = .int .i64 ((m : Int) - 1) ∧ n = .int .u64 nv ∧ Hid (nv * 65536 ^ m + V (dg A) m = x.natAbs)) (fun _ i => (intOf i + 1).toNat)
  case atStart => exact ⟨la, 0, Nat.le_refl _, by go_num, rfl, by
    show 0 * 65536 ^ la + V (dg A) la = x.natAbs
    rw [val_at (by rw [hA.eqlen]; exact Nat.le_refl _), VA.out]; omega⟩
  case round =>
    obtain ⟨m, nv, hm, rfl, rfl, hinv⟩ := hrel
    rcases m with _ | j
    · have hv : Hid (nv = x.natAbs) := by
        have := hinv.out
        simp [V] at this
        exact this
      clear hinv
      rcases Bool.eq_false_or_eq_true na with hn | hn
      · subst hn
        have hs0 : x < 0 := of_decide_eq_true Hna.out.symm
        have hs : Hid (x < 0) := hs0
        clear hs0
        go_wp2
        go_ret2
        have h1 := hv.out
        have h2 := hs.out
        exact ⟨ret_fit (by rw [IntKind.wrap_u64]; unfold wrap64; omega), hw4⟩
      · subst hn
        have hs0 : ¬ x < 0 := of_decide_eq_false Hna.out.symm
        have hs : Hid (¬ x < 0) := hs0
        clear hs0
        go_wp2
        go_ret2
        have h1 := hv.out
        have h2 := hs.out
        exact ⟨ret_fit (by unfold wrap64; omega), hw4⟩
    · rw [show ((j + 1 : Nat) : Int) - 1 = (j : Int) from by omega]
      obtain ⟨b, off, rfl, hc⟩ := HA4.out.cell j (by omega)
      have hd := dg_lt hA.small j
      have hbd := back_bound hinv.out
      have hor := or_join nv (dg A j) (by omega) hd
      go_wp2
      go_round
      case rel => exact ⟨j, nv * 65536 + dg A j, by omega, rfl, by go_num, back_step hinv.out⟩
      case measure => simp [intOf]

/-- what is told of the number x -/
def InR (x : Int) : Prop := -9223372036854775808 ≤ x ∧ x ≤ 9223372036854775807
theorem told_in (x : Int) (na : Bool) (ao : Option Addr) (la ca : Nat) (w : World) (Hna : Hid (na = decide (x < 0))) (hX : Mg w ao la ca x.natAbs) (h : InR x) :
    Calls Tryz.prog 49 #[.agg #[.bool na, .slice ao la ca]] w fun e w' => e = .returned (.tuple #[.int .i64 x, .int .i64 0]) ∧ Below w.heap.size w w' := by
  have hl := h.1
  have hu := h.2
  have hW0 := (Below.refl w.heap.size w).alloc (Nat.le_refl _) (.cells #[.bool na, .slice ao la ca] 95)
  go_enter Tryz.func49, Tryz.ntmps49
  go_wp2_with (go_at_call 75; refine (fits_in x na ao la ca _ Hna (hX.below (Nat.le_refl _) hW0) hl hu).mono ?_; rintro e w1 ⟨rfl, hB1⟩; have hw1 := hW0.trans (hB1.mono (by simp)))
  go_ret2
  exact ⟨rfl, hw1⟩
theorem told_out (x : Int) (na : Bool) (ao : Option Addr) (la ca : Nat) (w : World) (Hna : Hid (na = decide (x < 0))) (hX : Mg w ao la ca x.natAbs) (h : ¬ InR x) (hbig : Hid (x.natAbs < 65536 ^ 60)) :
    Calls Tryz.prog 49 #[.agg #[.bool na, .slice ao la ca]] w fun e w' => e = .returned (.tuple #[.int .i64 0, .int .i64 10]) ∧ Below w.heap.size w w' := by
  have hW0 := (Below.refl w.heap.size w).alloc (Nat.le_refl _) (.cells #[.bool na, .slice ao la ca] 95)
  have hc : x < -9223372036854775808 ∨ 9223372036854775807 < x := by unfold InR at h; omega
  clear h
  rcases hc with hc | hc
  · go_enter Tryz.func49, Tryz.ntmps49
    go_wp2_with (go_at_call 75; refine (fits_low x na ao la ca _ Hna (hX.below (Nat.le_refl _) hW0) hbig hc).mono ?_; rintro e w1 ⟨rfl, hB1⟩; have hw1 := hW0.trans (hB1.mono (by simp)))
    go_ret2
    exact ⟨rfl, hw1⟩
  · go_enter Tryz.func49, Tryz.ntmps49
    go_wp2_with (go_at_call 75; refine (fits_high x na ao la ca _ Hna (hX.below (Nat.le_refl _) hW0) hbig hc).mono ?_; rintro e w1 ⟨rfl, hB1⟩; have hw1 := hW0.trans (hB1.mono (by simp)))
    go_ret2
    exact ⟨rfl, hw1⟩

theorem out_eq {x : Int} (h : InR x) : (if -9223372036854775808 ≤ x ∧ x ≤ 9223372036854775807 then x else 0) = x := if_pos h
/-- the number and the error that are told of x -/
def nOf (x : Int) : Int := if -9223372036854775808 ≤ x ∧ x ≤ 9223372036854775807 then x else 0
def eOf (x : Int) : Int := if -9223372036854775808 ≤ x ∧ x ≤ 9223372036854775807 then 0 else 10
theorem told_is (x : Int) (na : Bool) (ao : Option Addr) (la ca : Nat) (w : World) (Hna : Hid (na = decide (x < 0))) (hX : Mg w ao la ca x.natAbs) (hbig : Hid (x.natAbs < 65536 ^ 60)) :
    Calls Tryz.prog 49 #[.agg #[.bool na, .slice ao la ca]] w fun e w' => e = .returned (.tuple #[.int .i64 (nOf x), .int .i64 (eOf x)]) ∧ Below w.heap.size w w' := by
  by_cases h : InR x
  · have e1 : nOf x = x := if_pos h
    have e2 : eOf x = 0 := if_pos h
    rw [e1, e2]; exact told_in x na ao la ca w Hna hX h
  · have e1 : nOf x = 0 := if_neg h
    have e2 : eOf x = 10 := if_neg h
    rw [e1, e2]; exact told_out x na ao la ca w Hna hX h hbig
theorem big60 (x : Int) (h : x.natAbs < 340282366920938463463374607431768211456) : x.natAbs < 65536 ^ 60 := Nat.lt_trans h (by decide)
theorem big64 (x : Int) (h : x.natAbs < 340282366920938463463374607431768211456) : x.natAbs < 65536 ^ 64 := Nat.lt_trans h (by decide)

set_option maxHeartbeats 1000000 in
theorem ref_add (a b : Int) (w : World) (l0 : -9223372036854775808 ≤ a) (u0 : a ≤ 9223372036854775807) (l1 : -9223372036854775808 ≤ b) (u1 : b ≤ 9223372036854775807) :
    Calls Tryz.prog 47 #[.int .i64 a, .int .i64 b] w fun e w' => e = .returned (.tuple #[.int .i64 (nOf (a + b)), .int .i64 (eOf (a + b))]) ∧ Below w.heap.size w w' := by
  go_enter Tryz.func47, Tryz.ntmps47
  go_wp2_with (first
    | (go_at_call 49; refine (told_is (a + b) b3 ro3 lr3 cr3 _ Hb3 hR3 (big60 _ (by omega))).mono ?_; rintro e w4 ⟨rfl, hB4⟩; have hw4 := hw3.trans (hB4.mono hw3.size))
    | (go_at_call 50; refine (plus_b a b (a + b) b1 b2 ro1 ro2 lr1 cr1 lr2 cr2 _ Hb1.out Hb2.out (hR1.below (Nat.le_refl _) hB2) hR2 rfl (big64 _ (by omega))).mono ?_; rintro e w3 ⟨b3, ro3, lr3, cr3, rfl, Hb3, hR3, hB3⟩; have hw3 := hw2.trans (hB3.mono hw2.size))
    | (go_at_call 51; have _t := hB1; refine (of_b _ _ (by omega) (by omega)).mono ?_; rintro e w2 ⟨b2, ro2, lr2, cr2, rfl, Hb2, hR2, hB2⟩; have hw2 := hB1.trans (hB2.mono hB1.size))
    | (go_at_call 51; refine (of_b _ _ (by omega) (by omega)).mono ?_; rintro e w1 ⟨b1, ro1, lr1, cr1, rfl, Hb1, hR1, hB1⟩))
  go_ret2
  exact ⟨rfl, hw4⟩
set_option maxHeartbeats 1000000 in
theorem ref_sub (a b : Int) (w : World) (l0 : -9223372036854775808 ≤ a) (u0 : a ≤ 9223372036854775807) (l1 : -9223372036854775808 ≤ b) (u1 : b ≤ 9223372036854775807) :
    Calls Tryz.prog 26 #[.int .i64 a, .int .i64 b] w fun e w' => e = .returned (.tuple #[.int .i64 (nOf (a - b)), .int .i64 (eOf (a - b))]) ∧ Below w.heap.size w w' := by
  go_enter Tryz.func26, Tryz.ntmps26
  go_wp2_with (first
    | (go_at_call 49; refine (told_is (a - b) b3 ro3 lr3 cr3 _ Hb3 hR3 (big60 _ (by omega))).mono ?_; rintro e w4 ⟨rfl, hB4⟩; have hw4 := hw3.trans (hB4.mono hw3.size))
    | (go_at_call 50; refine (plus_b a (-b) (a - b) b1 b5 ro1 ro5 lr1 cr1 lr5 cr5 _ Hb1.out Hb5.out ((hR1.below (Nat.le_refl _) hB2).below (Nat.le_refl _) hB5) hR5 (by omega) (big64 _ (by omega))).mono ?_; rintro e w3 ⟨b3, ro3, lr3, cr3, rfl, Hb3, hR3, hB3⟩; have hw3 := hw5.trans (hB3.mono hw5.size))
    | (go_at_call 52; refine (minus_b b b2 ro2 lr2 cr2 _ Hb2.out hR2).mono ?_; rintro e w5 ⟨b5, ro5, lr5, cr5, rfl, Hb5, hR5, hB5⟩; have hw5 := hw2.trans (hB5.mono hw2.size))
    | (go_at_call 51; have _t := hB1; refine (of_b _ _ (by omega) (by omega)).mono ?_; rintro e w2 ⟨b2, ro2, lr2, cr2, rfl, Hb2, hR2, hB2⟩; have hw2 := hB1.trans (hB2.mono hB1.size))
    | (go_at_call 51; refine (of_b _ _ (by omega) (by omega)).mono ?_; rintro e w1 ⟨b1, ro1, lr1, cr1, rfl, Hb1, hR1, hB1⟩))
  go_ret2
  exact ⟨rfl, hw4⟩
theorem told_nat (m : Nat) (ao : Option Addr) (la ca : Nat) (w : World) (hX : Mg w ao la ca m) (hbig : m < 340282366920938463463374607431768211456) :
    Calls Tryz.prog 49 #[.agg #[.bool false, .slice ao la ca]] w fun e w' => e = .returned (.tuple #[.int .i64 (nOf m), .int .i64 (eOf m)]) ∧ Below w.heap.size w w' := by
  have h1 : false = decide ((m : Int) < 0) := by
    rw [decide_eq_false (by omega)]
  have h2 : Mg w ao la ca (m : Int).natAbs := by rw [Int.natAbs_natCast]; exact hX
  exact told_is m false ao la ca w h1 h2 (big60 _ (by omega))
end Go.Proofs.YtiapkblebbcfbaaGreat.Wd
/- What chk's calls tell, in the document's words: the number if it fits, else the error. -/
namespace Go.Proofs.YtiapkblebbcfbaaGreat.Chk
open Go.RowKit
open Go.Proofs.YtiapkblebbcfbaaGreat.Wd (nOf eOf)
set_option linter.unusedVariables false

theorem nOf_in {x : Int} (h : -9223372036854775808 ≤ x ∧ x ≤ 9223372036854775807) : nOf x = x := if_pos h
theorem eOf_in {x : Int} (h : -9223372036854775808 ≤ x ∧ x ≤ 9223372036854775807) : eOf x = 0 := if_pos h
theorem nOf_out {x : Int} (h : ¬ (-9223372036854775808 ≤ x ∧ x ≤ 9223372036854775807)) : nOf x = 0 := if_neg h
theorem eOf_out {x : Int} (h : ¬ (-9223372036854775808 ≤ x ∧ x ≤ 9223372036854775807)) : eOf x = 10 := if_neg h

theorem add_is (a b : Int) (w : World) (l0 : -9223372036854775808 ≤ a) (u0 : a ≤ 9223372036854775807) (l1 : -9223372036854775808 ≤ b) (u1 : b ≤ 9223372036854775807) :
    Calls Tryz.prog 37 #[.int .i64 a, .int .i64 b] w fun e w' => e = .returned (.tuple #[.int .i64 (nOf (a + b)), .int .i64 (eOf (a + b))]) ∧ w = w' := by
  by_cases h : -9223372036854775808 ≤ a + b ∧ a + b ≤ 9223372036854775807
  · rw [nOf_in h, eOf_in h]; exact (add_ok a b w l0 u0 l1 u1 h.1 h.2).mono fun e w' ⟨h1, h2⟩ => ⟨h1, h2.symm⟩
  · rw [nOf_out h, eOf_out h]; exact (add_no a b w l0 u0 l1 u1 (by omega)).mono fun e w' ⟨h1, h2⟩ => ⟨h1, h2.symm⟩
theorem sub_is (a b : Int) (w : World) (l0 : -9223372036854775808 ≤ a) (u0 : a ≤ 9223372036854775807) (l1 : -9223372036854775808 ≤ b) (u1 : b ≤ 9223372036854775807) :
    Calls Tryz.prog 36 #[.int .i64 a, .int .i64 b] w fun e w' => e = .returned (.tuple #[.int .i64 (nOf (a - b)), .int .i64 (eOf (a - b))]) ∧ w = w' := by
  by_cases h : -9223372036854775808 ≤ a - b ∧ a - b ≤ 9223372036854775807
  · rw [nOf_in h, eOf_in h]; exact (sub_ok a b w l0 u0 l1 u1 h.1 h.2).mono fun e w' ⟨h1, h2⟩ => ⟨h1, h2.symm⟩
  · rw [nOf_out h, eOf_out h]; exact (sub_no a b w l0 u0 l1 u1 (by omega)).mono fun e w' ⟨h1, h2⟩ => ⟨h1, h2.symm⟩
theorem mul_is (a b : Int) (w : World) (l0 : -9223372036854775808 ≤ a) (u0 : a ≤ 9223372036854775807) (l1 : -9223372036854775808 ≤ b) (u1 : b ≤ 9223372036854775807) :
    Calls Tryz.prog 88 #[.int .i64 a, .int .i64 b] w fun e w' => e = .returned (.tuple #[.int .i64 (nOf (a * b)), .int .i64 (eOf (a * b))]) ∧ w = w' := by
  by_cases h : -9223372036854775808 ≤ a * b ∧ a * b ≤ 9223372036854775807
  · rw [nOf_in h, eOf_in h]; exact (mul_ok a b w l0 u0 l1 u1 h.1 h.2).mono fun e w' ⟨h1, h2⟩ => ⟨h1, h2.symm⟩
  · rw [nOf_out h, eOf_out h]; exact (mul_no a b w l0 u0 l1 u1 (by omega)).mono fun e w' ⟨h1, h2⟩ => ⟨h1, h2.symm⟩
theorem neg_is (a : Int) (w : World) (l0 : -9223372036854775808 ≤ a) (u0 : a ≤ 9223372036854775807) :
    Calls Tryz.prog 42 #[.int .i64 a] w fun e w' => e = .returned (.tuple #[.int .i64 (nOf (-a)), .int .i64 (eOf (-a))]) ∧ w = w' := by
  by_cases h : a = -9223372036854775808
  · subst h
    rw [nOf_out (by omega), eOf_out (by omega)]; exact (neg_no w).mono fun e w' ⟨h1, h2⟩ => ⟨h1, h2.symm⟩
  · rw [nOf_in (by omega), eOf_in (by omega)]; exact (neg_ok a w (by omega) u0).mono fun e w' ⟨h1, h2⟩ => ⟨h1, h2.symm⟩
theorem abs_is (a : Int) (w : World) (l0 : -9223372036854775808 ≤ a) (u0 : a ≤ 9223372036854775807) :
    Calls Tryz.prog 72 #[.int .i64 a] w fun e w' => e = .returned (.tuple #[.int .i64 (nOf a.natAbs), .int .i64 (eOf a.natAbs)]) ∧ w = w' := by
  by_cases h : a = -9223372036854775808
  · subst h
    rw [nOf_out (by omega), eOf_out (by omega)]; exact (abs_no w).mono fun e w' ⟨h1, h2⟩ => ⟨h1, h2.symm⟩
  · rw [nOf_in (by omega), eOf_in (by omega)]; exact (abs_at a _ w (by omega) rfl).mono fun e w' ⟨h1, h2⟩ => ⟨h1, h2.symm⟩

end Go.Proofs.YtiapkblebbcfbaaGreat.Chk
