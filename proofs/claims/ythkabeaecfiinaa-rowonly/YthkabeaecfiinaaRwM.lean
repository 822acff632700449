/- Rows and their cubes: the mathematics. -/
import Derived.Test.YthkabeaecfiinaaRwA
namespace Go.Proofs.Ythkabeaecfiinaa.Ro
open Go.RowKit
set_option linter.unusedVariables false

/-- a cube of numbers that are not below 0 -/
structure Cn where
  m : Nat
  b : Nat
  t : Int
def Cn.cb (c : Cn) : Cb := ⟨c.m, c.b, c.t⟩
def Cn.up (a b : Nat) (c : Cn) : Cn := ⟨c.m + a, c.b + b, c.t⟩
/-- the cubes of a row over k tracks -/
def cn : Nat → List Int → List Cn
  | 0, zs => [⟨0, 0, zs.getD 0 0⟩]
  | k + 1, zs =>
    if zs.take (2 ^ k) = zs.drop (2 ^ k) then cn k (zs.take (2 ^ k))
    else (cn k (zs.take (2 ^ k))).map (Cn.up (2 ^ k) 0) ++ (cn k (zs.drop (2 ^ k))).map (Cn.up (2 ^ k) (2 ^ k))
/-- the cubes, from the way that led there -/
def cb : Nat → List Int → Nat → Nat → List Cb
  | 0, zs, m, b => [⟨m, b, zs.getD 0 0⟩]
  | k + 1, zs, m, b =>
    if zs.take (2 ^ k) = zs.drop (2 ^ k) then cb k (zs.take (2 ^ k)) m b
    else cb k (zs.take (2 ^ k)) (m + 2 ^ k) b ++ cb k (zs.drop (2 ^ k)) (m + 2 ^ k) (b + 2 ^ k)
theorem cb_cn (k : Nat) : ∀ zs m b, cb k zs m b = (cn k zs).map (fun c => (c.up m b).cb) := by
  induction k with
  | zero => intro zs m b; simp [cb, cn, Cn.up, Cn.cb]
  | succ k ih =>
    intro zs m b
    simp only [cb, cn]
    split
    · exact ih _ _ _
    · rw [ih, ih, List.map_append, List.map_map, List.map_map]
      congr 1 <;>
        (apply List.map_congr_left; intro c _; simp only [Function.comp, Cn.up, Cn.cb, Cb.mk.injEq]; refine ⟨?_, ?_, trivial⟩ <;> congr 1 <;> omega)
def cb0 (k : Nat) (zs : List Int) : List Cb := (cn k zs).map Cn.cb
theorem cb_zero (k : Nat) (zs : List Int) : cb k zs 0 0 = cb0 k zs := by
  rw [cb_cn]; rfl
theorem cb_len (k : Nat) (zs : List Int) (m b : Nat) : (cb k zs m b).length = (cn k zs).length := by rw [cb_cn, List.length_map]
theorem pow_dbl (k : Nat) : 2 ^ (k + 1) = 2 ^ k + 2 ^ k := by rw [Nat.pow_succ]; omega
theorem take_len {k : Nat} {zs : List Int} (h : zs.length = 2 ^ (k + 1)) : (zs.take (2 ^ k)).length = 2 ^ k := by rw [List.length_take, h, pow_dbl]; omega
theorem drop_len {k : Nat} {zs : List Int} (h : zs.length = 2 ^ (k + 1)) : (zs.drop (2 ^ k)).length = 2 ^ k := by rw [List.length_drop, h, pow_dbl]; omega
theorem cn_len (k : Nat) : ∀ zs, zs.length = 2 ^ k → (cn k zs).length ≤ 2 ^ k := by
  induction k with
  | zero => intro zs _; simp [cn]
  | succ k ih =>
    intro zs h
    have h1 := ih _ (take_len h)
    have h2 := ih _ (drop_len h)
    have h3 := pow_dbl k
    simp only [cn]
    split
    · omega
    · rw [List.length_append, List.length_map, List.length_map]; omega
theorem cn_ne (k : Nat) : ∀ zs, 0 < (cn k zs).length := by
  induction k with
  | zero => intro zs; simp [cn]
  | succ k ih =>
    intro zs
    simp only [cn]
    split
    · exact ih _
    · rw [List.length_append, List.length_map]; have := ih (zs.take (2 ^ k)); omega
/-- a cube over k tracks -/
structure Ok (k : Nat) (c : Cn) : Prop where
  m : c.m < 2 ^ k
  b : c.b < 2 ^ k
  i : c.b &&& c.m = c.b
theorem and_top (k l m d e : Nat) (hl : l < 2 ^ k) (hm : m < 2 ^ k) : (2 ^ k * d + l) &&& (2 ^ k * e + m) = 2 ^ k * (d &&& e) + (l &&& m) := by
  have hlm : l &&& m < 2 ^ k := Nat.and_lt_two_pow _ hm
  apply Nat.eq_of_testBit_eq
  intro i
  rw [Nat.testBit_and, Nat.testBit_two_pow_mul_add _ hl, Nat.testBit_two_pow_mul_add _ hm, Nat.testBit_two_pow_mul_add _ hlm]
  split
  · rw [Nat.testBit_and]
  · rw [Nat.testBit_and]
theorem and_up0 (k l m : Nat) (hl : l < 2 ^ k) (hm : m < 2 ^ k) : l &&& (m + 2 ^ k) = l &&& m := by
  have := and_top k l m 0 1 hl hm
  simpa [Nat.add_comm] using this
theorem and_up1 (k l m : Nat) (hl : l < 2 ^ k) (hm : m < 2 ^ k) : (l + 2 ^ k) &&& (m + 2 ^ k) = (l &&& m) + 2 ^ k := by
  have := and_top k l m 1 1 hl hm
  simpa [Nat.add_comm] using this
theorem and_low1 (k l m : Nat) (hl : l < 2 ^ k) (hm : m < 2 ^ k) : (l + 2 ^ k) &&& m = l &&& m := by
  have := and_top k l m 1 0 hl hm
  simpa [Nat.add_comm] using this
theorem Ok.low {k : Nat} {c : Cn} (h : Ok k c) : Ok (k + 1) c := ⟨by have := h.m; rw [pow_dbl]; omega, by have := h.b; rw [pow_dbl]; omega, h.i⟩
theorem Ok.up0 {k : Nat} {c : Cn} (h : Ok k c) : Ok (k + 1) (c.up (2 ^ k) 0) :=
  ⟨by have := h.m; rw [pow_dbl]; show c.m + 2 ^ k < _; omega, by have := h.b; rw [pow_dbl]; show c.b + 0 < _; omega, by show (c.b + 0) &&& (c.m + 2 ^ k) = c.b + 0; rw [Nat.add_zero, and_up0 k _ _ h.b h.m]; exact h.i⟩
theorem Ok.up1 {k : Nat} {c : Cn} (h : Ok k c) : Ok (k + 1) (c.up (2 ^ k) (2 ^ k)) :=
  ⟨by have := h.m; rw [pow_dbl]; show c.m + 2 ^ k < _; omega, by have := h.b; rw [pow_dbl]; show c.b + 2 ^ k < _; omega, by show (c.b + 2 ^ k) &&& (c.m + 2 ^ k) = c.b + 2 ^ k; rw [and_up1 k _ _ h.b h.m, h.i]⟩
theorem cn_ok (k : Nat) : ∀ zs, ∀ c ∈ cn k zs, Ok k c := by
  induction k with
  | zero => intro zs c hc; simp [cn] at hc; subst hc; exact ⟨by show 0 < 2 ^ 0; decide, by show 0 < 2 ^ 0; decide, by show 0 &&& 0 = 0; decide⟩
  | succ k ih =>
    intro zs c hc
    simp only [cn] at hc
    split at hc
    · exact (ih _ c hc).low
    · rw [List.mem_append, List.mem_map, List.mem_map] at hc
      rcases hc with ⟨d, hd, rfl⟩ | ⟨d, hd, rfl⟩
      · exact (ih _ d hd).up0
      · exact (ih _ d hd).up1
/-- Bits rise -/
theorem cn_rise (k : Nat) : ∀ zs, (cn k zs).Pairwise (fun c d => c.b < d.b) := by
  induction k with
  | zero => intro zs; simp [cn]
  | succ k ih =>
    intro zs
    simp only [cn]
    split
    · exact ih _
    · rw [List.pairwise_append, List.pairwise_map, List.pairwise_map]
      refine ⟨(ih _).imp (fun h => by show _ + 0 < _ + 0; omega), (ih _).imp (fun h => by show _ + 2 ^ k < _ + 2 ^ k; omega), ?_⟩
      intro c hc d hd
      rw [List.mem_map] at hc hd
      obtain ⟨c, hc, rfl⟩ := hc
      obtain ⟨d, hd, rfl⟩ := hd
      have := (cn_ok k _ c hc).b
      show c.b + 0 < d.b + 2 ^ k
      omega
/-- the letter is in the cube -/
def hitN (l : Nat) (c : Cn) : Bool := (l &&& c.m) == c.b
theorem hit_low {k l : Nat} {c : Cn} (h : Ok k c) (hl : l < 2 ^ k) : hitN (l + 2 ^ k) c = hitN l c := by
  unfold hitN; rw [and_low1 k l c.m hl h.m]
theorem hit_00 {k l : Nat} {c : Cn} (h : Ok k c) (hl : l < 2 ^ k) : hitN l (c.up (2 ^ k) 0) = hitN l c := by
  show ((l &&& (c.m + 2 ^ k)) == c.b + 0) = _
  rw [and_up0 k l c.m hl h.m]; rfl
theorem hit_01 {k l : Nat} {c : Cn} (h : Ok k c) (hl : l < 2 ^ k) : hitN l (c.up (2 ^ k) (2 ^ k)) = false := by
  show ((l &&& (c.m + 2 ^ k)) == c.b + 2 ^ k) = _
  rw [and_up0 k l c.m hl h.m]
  have : l &&& c.m < 2 ^ k := Nat.and_lt_two_pow _ h.m
  apply beq_false_of_ne
  omega
theorem hit_10 {k l : Nat} {c : Cn} (h : Ok k c) (hl : l < 2 ^ k) : hitN (l + 2 ^ k) (c.up (2 ^ k) 0) = false := by
  show (((l + 2 ^ k) &&& (c.m + 2 ^ k)) == c.b + 0) = _
  rw [and_up1 k l c.m hl h.m]
  have := h.b
  apply beq_false_of_ne
  omega
theorem hit_11 {k l : Nat} {c : Cn} (h : Ok k c) (hl : l < 2 ^ k) : hitN (l + 2 ^ k) (c.up (2 ^ k) (2 ^ k)) = hitN l c := by
  show (((l + 2 ^ k) &&& (c.m + 2 ^ k)) == c.b + 2 ^ k) = _
  rw [and_up1 k l c.m hl h.m]
  unfold hitN
  rw [Bool.eq_iff_iff, beq_iff_eq, beq_iff_eq]
  omega
theorem filter_none {α : Type} (p : α → Bool) (xs : List α) (h : ∀ x ∈ xs, p x = false) : xs.filter p = [] := by
  rw [List.filter_eq_nil_iff]; intro x hx; rw [h x hx]; decide
/-- each letter is in just one cube, that of its state -/
theorem cn_hits (k : Nat) : ∀ zs, zs.length = 2 ^ k → ∀ l, l < 2 ^ k → ((cn k zs).filter (hitN l)).map Cn.t = [zs.getD l 0] := by
  induction k with
  | zero =>
    intro zs h l hl
    obtain rfl : l = 0 := by simp at hl; omega
    simp [cn, hitN]
  | succ k ih =>
    intro zs h l hl
    have h1 := take_len h
    have h2 := drop_len h
    have hp := pow_dbl k
    simp only [cn]
    rcases Nat.lt_or_ge l (2 ^ k) with hlt | hge
    · have hz : (zs.take (2 ^ k)).getD l 0 = zs.getD l 0 := by rw [List.getD_eq_getElem?_getD, List.getElem?_take, if_pos hlt, ← List.getD_eq_getElem?_getD]
      split
      · rw [ih _ h1 l hlt, hz]
      · rw [List.filter_append, List.filter_map, List.filter_map, filter_none (hitN l ∘ Cn.up (2 ^ k) (2 ^ k)) (cn k (zs.drop (2 ^ k))) (fun c hc => hit_01 (cn_ok k _ c hc) hlt), List.map_nil, List.append_nil]
        rw [show List.filter (hitN l ∘ Cn.up (2 ^ k) 0) (cn k (zs.take (2 ^ k))) = List.filter (hitN l) (cn k (zs.take (2 ^ k))) from List.filter_congr (fun c hc => hit_00 (cn_ok k _ c hc) hlt), List.map_map]
        rw [show (Cn.t ∘ Cn.up (2 ^ k) 0) = Cn.t from rfl, ih _ h1 l hlt, hz]
    · obtain ⟨j, rfl⟩ : ∃ j, l = j + 2 ^ k := ⟨l - 2 ^ k, by omega⟩
      have hj : j < 2 ^ k := by omega
      have hz : (zs.drop (2 ^ k)).getD j 0 = zs.getD (j + 2 ^ k) 0 := by rw [List.getD_eq_getElem?_getD, List.getElem?_drop, Nat.add_comm, ← List.getD_eq_getElem?_getD]
      split
      · rename_i he
        rw [show List.filter (hitN (j + 2 ^ k)) (cn k (zs.take (2 ^ k))) = List.filter (hitN j) (cn k (zs.take (2 ^ k))) from List.filter_congr (fun c hc => hit_low (cn_ok k _ c hc) hj)]
        rw [ih _ h1 j hj, he, hz]
      · rw [List.filter_append, List.filter_map, List.filter_map, filter_none (hitN (j + 2 ^ k) ∘ Cn.up (2 ^ k) 0) (cn k (zs.take (2 ^ k))) (fun c hc => hit_10 (cn_ok k _ c hc) hj), List.map_nil, List.nil_append]
        rw [show List.filter (hitN (j + 2 ^ k) ∘ Cn.up (2 ^ k) (2 ^ k)) (cn k (zs.drop (2 ^ k))) = List.filter (hitN j) (cn k (zs.drop (2 ^ k))) from List.filter_congr (fun c hc => hit_11 (cn_ok k _ c hc) hj), List.map_map]
        rw [show (Cn.t ∘ Cn.up (2 ^ k) (2 ^ k)) = Cn.t from rfl, ih _ h2 j hj, hz]
/-- the letter is in the cube, whatever both are -/
def hit (l : Int) (c : Cb) : Bool := bits .and .i64 l c.m == c.b
theorem and_nat (l m : Nat) (hl : l < 9223372036854775808) (hm : m < 9223372036854775808) : bits .and .i64 (l : Int) (m : Int) = ((l &&& m : Nat) : Int) := by
  show IntKind.i64.wrap ((BitVec.ofInt 64 (l : Int) &&& BitVec.ofInt 64 (m : Int)).toNat : Int) = _
  rw [BitVec.toNat_and, BitVec.toNat_ofInt, BitVec.toNat_ofInt]
  have h1 : ((l : Int) % ((2 ^ 64 : Nat) : Int)).toNat = l := by omega
  have h2 : ((m : Int) % ((2 ^ 64 : Nat) : Int)).toNat = m := by omega
  rw [h1, h2, IntKind.wrap_i64]
  have : l &&& m < 2 ^ 63 := Nat.and_lt_two_pow _ (by omega)
  omega
theorem hit_nat {k l : Nat} {c : Cn} (h : Ok k c) (hk : k ≤ 6) (hl : l < 9223372036854775808) : hit l c.cb = hitN l c := by
  have := h.m
  have hp : 2 ^ k ≤ 2 ^ 6 := Nat.pow_le_pow_right (by omega) hk
  show (bits .and .i64 (l : Int) (c.m : Int) == (c.b : Int)) = ((l &&& c.m) == c.b)
  rw [and_nat l c.m hl (by omega), Bool.eq_iff_iff, beq_iff_eq, beq_iff_eq]
  omega
/-- the state of the first cube in which the letter is -/
def look (cs : List Cb) (l : Int) : Option Int := (cs.find? (hit l)).map Cb.t
theorem cb0_hits (k : Nat) (zs : List Int) (hk : k ≤ 6) (h : zs.length = 2 ^ k) (l : Nat) (hl : l < 2 ^ k) : ((cb0 k zs).filter (hit l)).map Cb.t = [zs.getD l 0] := by
  have hp : 2 ^ k ≤ 2 ^ 6 := Nat.pow_le_pow_right (by omega) hk
  unfold cb0
  rw [List.filter_map, List.map_map, show List.filter (hit (l : Int) ∘ Cn.cb) (cn k zs) = List.filter (hitN l) (cn k zs) from List.filter_congr (fun c hc => hit_nat (cn_ok k _ c hc) hk (by omega)), show (Cb.t ∘ Cn.cb) = Cn.t from rfl]
  exact cn_hits k zs h l hl
theorem find_filter {α : Type} (p : α → Bool) (xs : List α) : xs.find? p = (xs.filter p).head? := by
  rw [List.head?_filter]
theorem look_cb0 (k : Nat) (zs : List Int) (hk : k ≤ 6) (h : zs.length = 2 ^ k) (l : Nat) (hl : l < 2 ^ k) : look (cb0 k zs) l = some (zs.getD l 0) := by
  have := cb0_hits k zs hk h l hl
  unfold look
  rw [find_filter]
  cases hf : (cb0 k zs).filter (hit l) with
  | nil => rw [hf] at this; simp at this
  | cons x xs => rw [hf] at this; simp at this; simp [this.1]
theorem cb0_len (k : Nat) (zs : List Int) (h : zs.length = 2 ^ k) : (cb0 k zs).length ≤ 2 ^ k := by
  unfold cb0; rw [List.length_map]; exact cn_len k zs h
theorem cb0_pos (k : Nat) (zs : List Int) : 0 < (cb0 k zs).length := by
  unfold cb0; rw [List.length_map]; exact cn_ne k zs
/-- the row that a list of cubes says -/
def rowOf (cs : List Cb) (k : Nat) : List Int := (List.range (2 ^ k)).map (fun l => (look cs (l : Nat)).getD 0)
theorem rowOf_len (cs : List Cb) (k : Nat) : (rowOf cs k).length = 2 ^ k := by simp [rowOf]
theorem rowOf_get (cs : List Cb) (k l : Nat) (hl : l < 2 ^ k) : (rowOf cs k).getD l 0 = (look cs (l : Nat)).getD 0 := by
  simp [rowOf, List.getD_eq_getElem?_getD, List.getElem?_map, List.getElem?_range hl]
/-- the cubes are those of a row -/
structure Unp (cs : List Cb) (k : Nat) (zs : List Int) : Prop where
  len : zs.length = 2 ^ k
  pos : ∀ z ∈ zs, 0 ≤ z
  cubes : cb0 k zs = cs
theorem list_ext {n : Nat} {T U : List Int} (hT : T.length = n) (hU : U.length = n) (h : ∀ j, j < n → T.getD j 0 = U.getD j 0) : T = U := by
  apply List.ext_getElem (by rw [hT, hU])
  intro i h1 h2
  have := h i (by omega)
  rwa [List.getD_eq_getElem?_getD, List.getD_eq_getElem?_getD, List.getElem?_eq_getElem h1, List.getElem?_eq_getElem h2, Option.getD_some, Option.getD_some] at this
theorem Unp.row {cs : List Cb} {k : Nat} {zs : List Int} (h : Unp cs k zs) (hk : k ≤ 6) : zs = rowOf cs k := by
  refine list_ext h.len (rowOf_len cs k) fun j hj => ?_
  rw [rowOf_get cs k j hj, ← h.cubes, look_cb0 k zs hk h.len j hj]; rfl
theorem Unp.uniq {cs : List Cb} {k : Nat} {zs us : List Int} (h : Unp cs k zs) (g : Unp cs k us) (hk : k ≤ 6) : zs = us := (h.row hk).trans (g.row hk).symm
theorem Unp.le {cs : List Cb} {k : Nat} {zs : List Int} (h : Unp cs k zs) : cs.length ≤ 2 ^ k := by rw [← h.cubes]; exact cb0_len k zs h.len
theorem Unp.some {cs : List Cb} {k : Nat} {zs : List Int} (h : Unp cs k zs) (hk : k ≤ 6) (l : Nat) (hl : l < 2 ^ k) : look cs l = some (zs.getD l 0) := by
  rw [← h.cubes]; exact look_cb0 k zs hk h.len l hl
theorem cb0_inj {k : Nat} {zs us : List Int} (hk : k ≤ 6) (h : zs.length = 2 ^ k) (g : us.length = 2 ^ k) (e : cb0 k zs = cb0 k us) : zs = us := by
  refine list_ext h g fun j hj => ?_
  have h1 := look_cb0 k zs hk h j hj
  rw [e, look_cb0 k us hk g j hj] at h1
  simpa using h1.symm
/-- the states of the cubes are those of the row -/
theorem cb0_states (k : Nat) : ∀ zs, zs.length = 2 ^ k → ∀ z, z ∈ zs ↔ ∃ c ∈ cn k zs, c.t = z := by
  induction k with
  | zero =>
    intro zs h z
    match zs, h with
    | [x], _ => simp [cn, eq_comm]
  | succ k ih =>
    intro zs h z
    have h1 := ih _ (take_len h) z
    have h2 := ih _ (drop_len h) z
    have hz : z ∈ zs ↔ z ∈ zs.take (2 ^ k) ∨ z ∈ zs.drop (2 ^ k) := by rw [← List.mem_append, List.take_append_drop]
    simp only [cn]
    split
    · rename_i he
      rw [hz, ← he, or_self]; exact h1
    · rw [hz, h1, h2]
      simp only [List.mem_append, List.mem_map]
      constructor
      · rintro (⟨c, hc, e⟩ | ⟨c, hc, e⟩)
        · exact ⟨_, .inl ⟨c, hc, rfl⟩, e⟩
        · exact ⟨_, .inr ⟨c, hc, rfl⟩, e⟩
      · rintro ⟨d, ⟨c, hc, rfl⟩ | ⟨c, hc, rfl⟩, e⟩
        · exact .inl ⟨c, hc, e⟩
        · exact .inr ⟨c, hc, e⟩
theorem Unp.states {cs : List Cb} {k : Nat} {zs : List Int} (h : Unp cs k zs) (z : Int) : z ∈ zs ↔ ∃ c ∈ cs, c.t = z := by
  rw [cb0_states k zs h.len z, ← h.cubes]
  unfold cb0
  simp only [List.mem_map]
  constructor
  · rintro ⟨c, hc, e⟩; exact ⟨_, ⟨c, hc, rfl⟩, e⟩
  · rintro ⟨d, ⟨c, hc, rfl⟩, e⟩; exact ⟨c, hc, e⟩
/-- is a list a row? -/
def IsRow (zs : List Int) (k : Nat) : Prop := k ≤ 6 ∧ zs.length = 2 ^ k ∧ ∀ z ∈ zs, 0 ≤ z
end Go.Proofs.Ythkabeaecfiinaa.Ro
