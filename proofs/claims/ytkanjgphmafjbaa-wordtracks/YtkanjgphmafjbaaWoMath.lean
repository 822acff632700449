/- Numbers in two's complement, tuples as words: plain mathematics, no Go. -/
import Derived.RowKit
namespace Go.Proofs.Ytkanjgphmafjbaa.Wo

/-- digit i of v -/
def dgt (v : Int) (i : Nat) : Int := v / 2 ^ i % 2
theorem dgt_bd (v : Int) (i : Nat) : 0 ≤ dgt v i ∧ dgt v i ≤ 1 := by
  unfold dgt
  generalize v / 2 ^ i = x
  omega
theorem dgt_zero (v : Int) : dgt v 0 = v % 2 := by simp [dgt]
theorem pow2_succ (i : Nat) : (2 : Int) ^ (i + 1) = 2 * 2 ^ i := by rw [Int.pow_succ, Int.mul_comm]
theorem pow2_pos (i : Nat) : (0 : Int) < 2 ^ i := Int.pow_pos (by omega)
theorem div_succ (v : Int) (i : Nat) : v / 2 ^ (i + 1) = v / 2 / 2 ^ i := by
  rw [pow2_succ, Int.ediv_ediv_of_nonneg (show (0 : Int) ≤ 2 by omega)]
theorem div_succ' (v : Int) (i : Nat) : v / 2 ^ (i + 1) = v / 2 ^ i / 2 := by
  rw [Int.pow_succ, Int.ediv_ediv_of_nonneg (Int.le_of_lt (pow2_pos i))]
theorem dgt_succ (v : Int) (i : Nat) : dgt v (i + 1) = dgt (v / 2) i := by unfold dgt; rw [div_succ]

/-- how many digits a number of n needs -/
def bl (n : Nat) : Nat := if n = 0 then 0 else Nat.log2 n + 1
theorem bl_le (n k : Nat) : bl n ≤ k ↔ n < 2 ^ k := by
  unfold bl
  by_cases h : n = 0
  · subst h
    have : 0 < 2 ^ k := Nat.pow_pos (by omega)
    simp [this]
  · rw [if_neg h, Nat.succ_le_iff, Nat.log2_lt h]
theorem bl_half (n : Nat) (h : n ≠ 0) : bl n = bl (n / 2) + 1 := by
  unfold bl
  rw [if_neg h]
  by_cases h2 : 2 ≤ n
  · rw [Nat.log2_def, if_pos h2, if_neg (by omega)]
  · obtain rfl : n = 1 := by omega
    decide
def mag (v : Int) : Nat := if v < 0 then (-v - 1).toNat else v.toNat
def ln (v : Int) : Nat := bl (mag v) + 1
theorem mag_half (v : Int) : mag (v / 2) = mag v / 2 := by
  unfold mag
  by_cases h : v < 0
  · rw [if_pos h, if_pos (by omega)]; omega
  · rw [if_neg h, if_neg (by omega)]; omega
theorem ln_half (v : Int) (h : v ≠ 0) (h' : v ≠ -1) : ln v = ln (v / 2) + 1 := by
  unfold ln
  rw [mag_half, bl_half]
  unfold mag
  split <;> omega
theorem ln_zero : ln 0 = 1 := by decide
theorem ln_neg : ln (-1) = 1 := by decide
theorem ln_pos (v : Int) : 1 ≤ ln v := by unfold ln; omega
theorem ln_le (v : Int) (n : Nat) : ln v ≤ n + 1 ↔ mag v < 2 ^ n := by
  unfold ln
  rw [Nat.add_le_add_iff_right, bl_le]
theorem mag_iff (v : Int) (n : Nat) : mag v < 2 ^ n ↔ -(2 ^ n : Int) ≤ v ∧ v < 2 ^ n := by
  have e : (2 : Int) ^ n = ((2 ^ n : Nat) : Int) := by simp
  rw [e]
  generalize 2 ^ n = p
  unfold mag
  split <;> omega
theorem ln_64 (v : Int) (l : -9223372036854775808 ≤ v) (u : v ≤ 9223372036854775807) : ln v ≤ 64 := by
  rw [show (64 : Nat) = 63 + 1 from rfl, ln_le, mag_iff]
  have : (2 : Int) ^ 63 = 9223372036854775808 := by decide
  omega

/-- the number of which these are the digits -/
def tc : List Int → Int
  | [] => 0
  | [s] => -s
  | d :: e :: l => d + 2 * tc (e :: l)
def Bin (zs : List Int) : Prop := ∀ z ∈ zs, z = 0 ∨ z = 1
theorem tc_cons (d : Int) (l : List Int) (h : l ≠ []) : tc (d :: l) = d + 2 * tc l := by
  cases l with
  | nil => exact absurd rfl h
  | cons e l => rfl
theorem getD_of {zs : List Int} {i : Nat} (h : i < zs.length) : zs.getD i 0 = zs[i] := by
  rw [List.getD_eq_getElem?_getD, List.getElem?_eq_getElem h, Option.getD_some]
theorem tc_drop (zs : List Int) (j : Nat) (h : j + 1 < zs.length) : tc (zs.drop j) = zs.getD j 0 + 2 * tc (zs.drop (j + 1)) := by
  rw [List.drop_eq_getElem_cons (show j < zs.length by omega), tc_cons, getD_of (show j < zs.length by omega)]
  intro e
  have := congrArg List.length e
  simp at this
  omega
theorem tc_last (zs : List Int) (n : Nat) (h : zs.length = n + 1) : tc (zs.drop n) = -zs.getD n 0 := by
  rw [List.drop_eq_getElem_cons (show n < zs.length by omega), getD_of (show n < zs.length by omega), List.drop_of_length_le (by omega)]
  rfl
theorem tc_bd (l : List Int) (n : Nat) (hb : Bin l) (h : l.length = n + 1) : -(2 ^ n : Int) ≤ tc l ∧ tc l < 2 ^ n := by
  induction n generalizing l with
  | zero =>
    match l, h with
    | [s], _ =>
      have := hb s (by simp)
      simp only [tc, Int.pow_zero]
      omega
  | succ n ih =>
    match l, h with
    | d :: l, h =>
      simp only [List.length_cons, Nat.add_right_cancel_iff] at h
      have hd := hb d (by simp)
      have := ih l (fun z hz => hb z (by simp [hz])) h
      rw [tc_cons d l (by intro e; rw [e] at h; simp at h), pow2_succ]
      omega
theorem mag_tc (l : List Int) (n : Nat) (hb : Bin l) (h : l.length = n + 1) : mag (tc l) < 2 ^ n := (mag_iff _ _).2 (tc_bd l n hb h)
theorem ln_tc (l : List Int) (hb : Bin l) (h : l ≠ []) : ln (tc l) ≤ l.length := by
  obtain ⟨n, hn⟩ : ∃ n, l.length = n + 1 := ⟨l.length - 1, by have := List.length_pos_iff.2 h; omega⟩
  rw [hn, ln_le]
  exact mag_tc l n hb hn

/-- n digits of v -/
def dgs (v : Int) (n : Nat) : List Int := (List.range n).map (dgt v)
theorem dgs_length (v : Int) (n : Nat) : (dgs v n).length = n := by simp [dgs]
theorem dgs_snoc (v : Int) (n : Nat) : dgs v (n + 1) = dgs v n ++ [dgt v n] := by simp [dgs, List.range_succ]
theorem dgs_cons (v : Int) (n : Nat) : dgs v (n + 1) = v % 2 :: dgs (v / 2) n := by
  unfold dgs
  rw [List.range_succ_eq_map, List.map_cons, dgt_zero, List.map_map]
  congr 1
  apply List.map_congr_left
  intro i _
  exact dgt_succ v i
theorem dgs_get (v : Int) (n i : Nat) (h : i < n) : (dgs v n).getD i 0 = dgt v i := by
  rw [getD_of (by rw [dgs_length]; exact h)]; simp [dgs]
theorem dgs_bin (v : Int) (n : Nat) : Bin (dgs v n) := by
  intro z hz
  obtain ⟨i, _, rfl⟩ := List.mem_map.1 hz
  have := dgt_bd v i
  omega
theorem tc_dgs (v : Int) (n : Nat) (h : mag v < 2 ^ n) : tc (dgs v (n + 1)) = v := by
  induction n generalizing v with
  | zero =>
    rw [mag_iff] at h
    simp only [Int.pow_zero] at h
    rw [dgs_cons]
    show -(v % 2) = v
    omega
  | succ n ih =>
    have h2 : mag (v / 2) < 2 ^ n := by rw [mag_half]; rw [Nat.pow_succ] at h; omega
    rw [dgs_cons, tc_cons, ih _ h2]
    · omega
    · intro e
      have := congrArg List.length e
      rw [dgs_length] at this
      simp at this
theorem tc_dgs' (v : Int) (n : Nat) (h : ln v ≤ n) : tc (dgs v n) = v := by
  have := ln_pos v
  obtain ⟨m, rfl⟩ : ∃ m, n = m + 1 := ⟨n - 1, by omega⟩
  exact tc_dgs v m ((ln_le v m).1 h)
theorem dgs_tc (l : List Int) (hb : Bin l) (h : l ≠ []) : dgs (tc l) l.length = l := by
  match l, h with
  | [s], _ =>
    have := hb s (by simp)
    show dgs (-s) 1 = [s]
    rw [dgs_cons]
    show [-s % 2] = [s]
    congr 1
    omega
  | d :: e :: l, _ =>
    have hd := hb d (by simp)
    have ih := dgs_tc (e :: l) (fun z hz => hb z (by simp at hz ⊢; right; exact hz)) (by simp)
    rw [tc_cons d (e :: l) (by simp), List.length_cons, dgs_cons, show (d + 2 * tc (e :: l)) / 2 = tc (e :: l) from by omega, ih, show (d + 2 * tc (e :: l)) % 2 = d from by omega]

/-- letter i of a tuple -/
def lt : List Int → Nat → Int
  | [], _ => 0
  | v :: vs, i => dgt v i + 2 * lt vs i
theorem lt_bd (vs : List Int) (i : Nat) : 0 ≤ lt vs i ∧ lt vs i < 2 ^ vs.length := by
  induction vs with
  | nil => simp [lt]
  | cons v vs ih =>
    have := dgt_bd v i
    rw [List.length_cons, pow2_succ]
    simp only [lt]
    omega
theorem lt_snoc (vs : List Int) (v : Int) (i : Nat) : lt (vs ++ [v]) i = lt vs i + dgt v i * 2 ^ vs.length := by
  induction vs with
  | nil => simp [lt]
  | cons u vs ih =>
    rw [List.cons_append, List.length_cons, pow2_succ]
    simp only [lt]
    rw [ih, Int.mul_add, ← Int.mul_assoc (dgt v i), Int.mul_comm (dgt v i) 2, Int.mul_assoc]
    omega
theorem lt_take (vs : List Int) (k i : Nat) (h : k < vs.length) : lt (vs.take (k + 1)) i = lt (vs.take k) i + dgt (vs.getD k 0) i * 2 ^ k := by
  rw [List.take_succ_eq_append_getElem h, lt_snoc, getD_of h, List.length_take, Nat.min_eq_left (by omega)]
theorem lt_dig (vs : List Int) (t i : Nat) (h : t < vs.length) : lt vs i / 2 ^ t % 2 = dgt (vs.getD t 0) i := by
  induction vs generalizing t with
  | nil => simp at h
  | cons v vs ih =>
    have hd := dgt_bd v i
    cases t with
    | zero =>
      simp only [lt, Int.pow_zero, Int.ediv_one, List.getD_cons_zero]
      omega
    | succ t =>
      rw [div_succ]
      simp only [lt, List.getD_cons_succ]
      rw [show (dgt v i + 2 * lt vs i) / 2 = lt vs i from by omega]
      exact ih t (by simpa using h)
theorem lt_same (vs : List Int) (i j : Nat) : lt vs i = lt vs j ↔ ∀ v ∈ vs, dgt v i = dgt v j := by
  induction vs with
  | nil => simp [lt]
  | cons v vs ih =>
    have h1 := dgt_bd v i
    have h2 := dgt_bd v j
    simp only [lt, List.mem_cons, forall_eq_or_imp]
    rw [← ih]
    omega
theorem lt_of (vs : List Int) (i : Nat) (a : Int) (h0 : 0 ≤ a) (h1 : a < 2 ^ vs.length) (h : ∀ t, t < vs.length → dgt (vs.getD t 0) i = a / 2 ^ t % 2) : lt vs i = a := by
  induction vs generalizing a with
  | nil => simp at h1; simp [lt]; omega
  | cons v vs ih =>
    have hz := h 0 (by simp)
    simp only [List.getD_cons_zero, Int.pow_zero, Int.ediv_one] at hz
    rw [List.length_cons, pow2_succ] at h1
    simp only [lt]
    rw [ih (a / 2) (by omega) (by omega) (fun t ht => ?_), hz]
    · omega
    · have := h (t + 1) (by simpa using ht)
      rw [List.getD_cons_succ, div_succ] at this
      exact this

/-- a tuple's word of n letters; a word's track; a word's tuple -/
def enc (vs : List Int) (n : Nat) : List Int := (List.range n).map (lt vs)
def trk (w : List Int) (t : Nat) : List Int := w.map fun a => a / 2 ^ t % 2
def dec (w : List Int) (k : Nat) : List Int := (List.range k).map fun t => tc (trk w t)
theorem enc_length (vs : List Int) (n : Nat) : (enc vs n).length = n := by simp [enc]
theorem enc_get (vs : List Int) (n i : Nat) (h : i < n) : (enc vs n).getD i 0 = lt vs i := by
  rw [getD_of (by rw [enc_length]; exact h)]; simp [enc]
theorem enc_snoc (vs : List Int) (n : Nat) : enc vs (n + 1) = enc vs n ++ [lt vs n] := by simp [enc, List.range_succ]
theorem trk_length (w : List Int) (t : Nat) : (trk w t).length = w.length := by simp [trk]
theorem trk_bin (w : List Int) (t : Nat) : Bin (trk w t) := by
  intro z hz
  obtain ⟨a, _, rfl⟩ := List.mem_map.1 hz
  generalize a / 2 ^ t = x
  omega
theorem trk_get (w : List Int) (t i : Nat) (h : i < w.length) : (trk w t).getD i 0 = w.getD i 0 / 2 ^ t % 2 := by
  rw [getD_of (by rw [trk_length]; exact h), getD_of h]; simp [trk]
theorem trk_take (w : List Int) (t k : Nat) (h : k < w.length) : trk (w.take (k + 1)) t = trk (w.take k) t ++ [w.getD k 0 / 2 ^ t % 2] := by
  unfold trk
  rw [List.take_succ_eq_append_getElem h, List.map_append, List.map_singleton, getD_of h]
theorem trk_enc (vs : List Int) (n t : Nat) (h : t < vs.length) : trk (enc vs n) t = dgs (vs.getD t 0) n := by
  unfold trk enc dgs
  rw [List.map_map]
  apply List.map_congr_left
  intro i _
  exact lt_dig vs t i h
theorem dec_length (w : List Int) (k : Nat) : (dec w k).length = k := by simp [dec]
theorem dec_snoc (w : List Int) (k : Nat) : dec w (k + 1) = dec w k ++ [tc (trk w k)] := by simp [dec, List.range_succ]
theorem dec_get (w : List Int) (k t : Nat) (h : t < k) : (dec w k).getD t 0 = tc (trk w t) := by
  rw [getD_of (by rw [dec_length]; exact h)]; simp [dec]

/-- the longest -/
def lg (vs : List Int) : Nat := vs.foldl (fun n v => max n (ln v)) 1
theorem lg_snoc (vs : List Int) (v : Int) : lg (vs ++ [v]) = max (lg vs) (ln v) := by simp [lg]
theorem lg_take (vs : List Int) (k : Nat) (h : k < vs.length) : lg (vs.take (k + 1)) = max (lg (vs.take k)) (ln (vs.getD k 0)) := by
  rw [List.take_succ_eq_append_getElem h, lg_snoc, getD_of h]
theorem foldl_le (vs : List Int) (m n : Nat) : vs.foldl (fun n v => max n (ln v)) m ≤ n ↔ m ≤ n ∧ ∀ v ∈ vs, ln v ≤ n := by
  induction vs generalizing m with
  | nil => simp
  | cons v vs ih =>
    rw [List.foldl_cons, ih]
    simp only [List.mem_cons, forall_eq_or_imp]
    constructor
    · rintro ⟨h1, h2⟩; exact ⟨by omega, by omega, h2⟩
    · rintro ⟨h1, h2, h3⟩; exact ⟨by omega, h3⟩
theorem lg_le (vs : List Int) (n : Nat) : lg vs ≤ n ↔ 1 ≤ n ∧ ∀ v ∈ vs, ln v ≤ n := foldl_le vs 1 n
theorem lg_pos (vs : List Int) : 1 ≤ lg vs := ((lg_le vs (lg vs)).1 (Nat.le_refl _)).1
def In64 (vs : List Int) : Prop := ∀ v ∈ vs, -9223372036854775808 ≤ v ∧ v ≤ 9223372036854775807
theorem lg_64 (vs : List Int) (h : In64 vs) : lg vs ≤ 64 := (lg_le vs 64).2 ⟨by omega, fun v hv => ln_64 v (h v hv).1 (h v hv).2⟩
theorem In64.take {vs : List Int} (h : In64 vs) (n : Nat) : In64 (vs.take n) := fun v hv => h v (List.mem_of_mem_take hv)
theorem In64.get {vs : List Int} (h : In64 vs) {i : Nat} (hi : i < vs.length) : -9223372036854775808 ≤ vs.getD i 0 ∧ vs.getD i 0 ≤ 9223372036854775807 := by
  rw [getD_of hi]; exact h _ (List.getElem_mem hi)

theorem list_eq {T U : List Int} (n : Nat) (hT : T.length = n) (hU : U.length = n) (h : ∀ j, j < n → T.getD j 0 = U.getD j 0) : T = U := by
  apply List.ext_getElem (by rw [hT, hU])
  intro i h1 h2
  have := h i (by omega)
  rwa [getD_of h1, getD_of h2] at this
theorem dec_enc (vs : List Int) (n : Nat) (h : lg vs ≤ n) : dec (enc vs n) vs.length = vs := by
  refine list_eq vs.length (dec_length _ _) rfl (fun t ht => ?_)
  rw [dec_get _ _ _ ht, trk_enc vs n t ht, tc_dgs' _ _ (((lg_le vs n).1 h).2 _ (by rw [getD_of ht]; exact List.getElem_mem ht))]
def Letters (w : List Int) (k : Nat) : Prop := ∀ a ∈ w, 0 ≤ a ∧ a < 2 ^ k
theorem ne_nil_trk {w : List Int} (h : w ≠ []) (t : Nat) : trk w t ≠ [] := by
  intro e
  have := congrArg List.length e
  rw [trk_length] at this
  exact h (List.length_eq_zero_iff.1 this)
theorem lg_dec (w : List Int) (k : Nat) (h : w ≠ []) : lg (dec w k) ≤ w.length := by
  rw [lg_le]
  refine ⟨List.length_pos_iff.2 h, fun v hv => ?_⟩
  obtain ⟨t, _, rfl⟩ := List.mem_map.1 hv
  have := ln_tc (trk w t) (trk_bin w t) (ne_nil_trk h t)
  rwa [trk_length] at this
theorem enc_dec (w : List Int) (k : Nat) (h : w ≠ []) (hl : Letters w k) : enc (dec w k) w.length = w := by
  refine list_eq w.length (enc_length _ _) rfl (fun i hi => ?_)
  rw [enc_get _ _ _ hi]
  have ha := hl (w.getD i 0) (by rw [getD_of hi]; exact List.getElem_mem hi)
  refine lt_of _ _ _ ha.1 (by rw [dec_length]; exact ha.2) (fun t ht => ?_)
  rw [dec_length] at ht
  rw [dec_get _ _ _ ht, ← trk_get w t i hi, ← dgs_get _ w.length i hi]
  have := dgs_tc (trk w t) (trk_bin w t) (ne_nil_trk h t)
  rw [trk_length] at this
  rw [this]
theorem dec_64 (w : List Int) (k : Nat) (h : w ≠ []) (hl : w.length ≤ 64) : In64 (dec w k) := by
  intro v hv
  have h1 := ((lg_le _ _).1 (lg_dec w k h)).2 v hv
  have h2 : ln v ≤ 63 + 1 := by omega
  rw [ln_le, mag_iff] at h2
  have : (2 : Int) ^ 63 = 9223372036854775808 := by decide
  omega

/-- what is left of the first n letters -/
def trimN (w : List Int) : Nat → Nat
  | 0 => 0
  | 1 => 1
  | n + 2 => if w.getD (n + 1) 0 = w.getD n 0 then trimN w (n + 1) else n + 2
def trim (w : List Int) : List Int := w.take (trimN w w.length)
theorem trimN_le (w : List Int) (n : Nat) : trimN w n ≤ n := by
  match n with
  | 0 => simp [trimN]
  | 1 => simp [trimN]
  | n + 2 =>
    have := trimN_le w (n + 1)
    rw [trimN]; split <;> omega
theorem dgt_last (v : Int) (n : Nat) (h : ln v ≤ n + 1 + 1) : dgt v (n + 1) = dgt v n ↔ ln v ≤ n + 1 := by
  rw [ln_le, mag_iff] at h ⊢
  rw [pow2_succ] at h
  unfold dgt
  rw [div_succ']
  have hp := pow2_pos n
  generalize hq : (2 : Int) ^ n = p at *
  by_cases h1 : -p ≤ v ∧ v < p
  · have : v / p = 0 ∨ v / p = -1 := by
      by_cases h0 : 0 ≤ v
      · left; exact Int.ediv_eq_zero_of_lt h0 h1.2
      · right
        have a := Int.ediv_mul_le v (show p ≠ 0 by omega)
        have b := Int.lt_ediv_add_one_mul_self v hp
        have c1 : v / p < 0 := Int.ediv_neg_of_neg_of_pos (by omega) hp
        have c2 : -1 ≤ v / p := (Int.le_ediv_iff_mul_le hp).2 (by omega)
        omega
    simp only [h1, and_self, iff_true]
    rcases this with e | e <;> rw [e] <;> decide
  · have : v / p = 1 ∨ v / p = -2 := by
      by_cases h0 : 0 ≤ v
      · left
        have c1 : v / p < 2 := Int.ediv_lt_of_lt_mul hp (by omega)
        have c2 : 1 ≤ v / p := (Int.le_ediv_iff_mul_le hp).2 (by omega)
        omega
      · right
        have c1 : v / p < -1 := Int.ediv_lt_of_lt_mul hp (by omega)
        have c2 : -2 ≤ v / p := (Int.le_ediv_iff_mul_le hp).2 (by omega)
        omega
    simp only [h1, iff_false]
    rcases this with e | e <;> rw [e] <;> decide
theorem lt_last (vs : List Int) (n : Nat) (h : lg vs ≤ n + 1 + 1) : lt vs (n + 1) = lt vs n ↔ lg vs ≤ n + 1 := by
  rw [lt_same, lg_le]
  have h2 := ((lg_le vs _).1 h).2
  constructor
  · intro k; exact ⟨by omega, fun v hv => (dgt_last v n (h2 v hv)).1 (k v hv)⟩
  · rintro ⟨_, k⟩ v hv; exact (dgt_last v n (h2 v hv)).2 (k v hv)
theorem trimN_enc (vs : List Int) (m n : Nat) (h : lg vs ≤ n) (hn : n ≤ m) : trimN (enc vs m) n = lg vs := by
  match n, h, hn with
  | 0, h, _ => have := lg_pos vs; omega
  | 1, h, _ => have := lg_pos vs; rw [trimN]; omega
  | n + 2, h, hn =>
    rw [trimN, enc_get _ _ _ (by omega), enc_get _ _ _ (by omega)]
    by_cases e : lt vs (n + 1) = lt vs n
    · rw [if_pos e]
      exact trimN_enc vs m (n + 1) ((lt_last vs n h).1 e) (by omega)
    · rw [if_neg e]
      have : ¬ lg vs ≤ n + 1 := fun k => e ((lt_last vs n h).2 k)
      omega
theorem enc_take (vs : List Int) (m n : Nat) (h : n ≤ m) : (enc vs m).take n = enc vs n := by
  unfold enc
  rw [← List.map_take, List.take_range, Nat.min_eq_left h]
theorem trim_enc (vs : List Int) (m : Nat) (h : lg vs ≤ m) : trim (enc vs m) = enc vs (lg vs) := by
  unfold trim
  rw [enc_length, trimN_enc vs m m h (Nat.le_refl _), enc_take _ _ _ h]

/-- the order of words -/
def lex : List Int → List Int → Int
  | x :: xs, y :: ys => if x < y then -1 else if y < x then 1 else lex xs ys
  | _, _ => 0
def cmp (a b : List Int) : Int := if a.length < b.length then -1 else if b.length < a.length then 1 else lex a b
theorem lex_at (a b : List Int) (k : Nat) (ha : k ≤ a.length) (hb : k ≤ b.length) (h : ∀ j, j < k → a.getD j 0 = b.getD j 0) : lex a b = lex (a.drop k) (b.drop k) := by
  induction k generalizing a b with
  | zero => rfl
  | succ k ih =>
    match a, b, ha, hb with
    | x :: xs, y :: ys, ha, hb =>
      have e := h 0 (by omega)
      simp only [List.getD_cons_zero] at e
      subst e
      rw [lex, if_neg (by omega), if_neg (by omega), List.drop_succ_cons, List.drop_succ_cons]
      exact ih xs ys (by simpa using ha) (by simpa using hb) (fun j hj => by simpa using h (j + 1) (by omega))
theorem lex_less (a b : List Int) (k : Nat) (ha : k < a.length) (hb : k < b.length) (h : ∀ j, j < k → a.getD j 0 = b.getD j 0) (hl : a.getD k 0 < b.getD k 0) : lex a b = -1 := by
  rw [lex_at a b k (by omega) (by omega) h, List.drop_eq_getElem_cons ha, List.drop_eq_getElem_cons hb, lex, if_pos]
  rwa [getD_of ha, getD_of hb] at hl
theorem lex_more (a b : List Int) (k : Nat) (ha : k < a.length) (hb : k < b.length) (h : ∀ j, j < k → a.getD j 0 = b.getD j 0) (hl : b.getD k 0 < a.getD k 0) : lex a b = 1 := by
  rw [getD_of ha, getD_of hb] at hl
  rw [lex_at a b k (by omega) (by omega) h, List.drop_eq_getElem_cons ha, List.drop_eq_getElem_cons hb, lex, if_neg (by omega), if_pos hl]
theorem lex_none (a b : List Int) (n : Nat) (ha : a.length = n) (hb : b.length = n) (h : ∀ j, j < n → a.getD j 0 = b.getD j 0) : lex a b = 0 := by
  rw [lex_at a b n (by omega) (by omega) h, List.drop_of_length_le (by omega), List.drop_of_length_le (by omega)]
  rfl
theorem lex_neg (a b : List Int) : lex b a = -lex a b := by
  induction a generalizing b with
  | nil => cases b <;> rfl
  | cons x xs ih =>
    cases b with
    | nil => rfl
    | cons y ys =>
      simp only [lex]
      by_cases h1 : x < y
      · rw [if_pos h1, if_neg (by omega), if_pos h1]; rfl
      · by_cases h2 : y < x
        · simp [h1, h2]
        · simp [h1, h2, ih ys]
theorem cmp_neg (a b : List Int) : cmp b a = -cmp a b := by
  unfold cmp
  by_cases h1 : a.length < b.length
  · rw [if_neg (by omega), if_pos h1, if_pos h1]; rfl
  · by_cases h2 : b.length < a.length
    · rw [if_pos h2, if_neg h1, if_pos h2]
    · rw [if_neg h1, if_neg h2, if_neg h2, if_neg h1]; exact lex_neg a b
theorem lex_bd (a b : List Int) : -1 ≤ lex a b ∧ lex a b ≤ 1 := by
  induction a generalizing b with
  | nil => cases b <;> simp [lex]
  | cons x xs ih =>
    cases b with
    | nil => simp [lex]
    | cons y ys =>
      have := ih ys
      simp only [lex]
      split
      · omega
      · split <;> omega
theorem cmp_bd (a b : List Int) : -1 ≤ cmp a b ∧ cmp a b ≤ 1 := by
  have := lex_bd a b
  unfold cmp
  split
  · omega
  · split <;> omega
theorem lex_zero (a b : List Int) (h : a.length = b.length) : lex a b = 0 ↔ a = b := by
  induction a generalizing b with
  | nil => cases b with
    | nil => simp [lex]
    | cons y ys => simp at h
  | cons x xs ih =>
    cases b with
    | nil => simp at h
    | cons y ys =>
      have := ih ys (by simpa using h)
      simp only [lex, List.cons.injEq]
      by_cases h1 : x < y
      · rw [if_pos h1]; constructor
        · intro e; omega
        · rintro ⟨e, _⟩; omega
      · rw [if_neg h1]
        by_cases h2 : y < x
        · rw [if_pos h2]; constructor
          · intro e; omega
          · rintro ⟨e, _⟩; omega
        · rw [if_neg h2, this]; constructor
          · intro e; exact ⟨by omega, e⟩
          · rintro ⟨_, e⟩; exact e
theorem cmp_zero (a b : List Int) : cmp a b = 0 ↔ a = b := by
  unfold cmp
  by_cases h1 : a.length < b.length
  · rw [if_pos h1]; constructor
    · intro e; omega
    · rintro rfl; omega
  · rw [if_neg h1]
    by_cases h2 : b.length < a.length
    · rw [if_pos h2]; constructor
      · intro e; omega
      · rintro rfl; omega
    · rw [if_neg h2]; exact lex_zero a b (by omega)
theorem lex_trans (a b c : List Int) (h1 : a.length = b.length) (h2 : b.length = c.length) (p : lex a b ≤ 0) (q : lex b c ≤ 0) : lex a c ≤ 0 := by
  induction a generalizing b c with
  | nil => cases c <;> simp [lex]
  | cons x xs ih =>
    match b, c, h1, h2 with
    | y :: ys, z :: zs, h1, h2 =>
      simp only [lex] at p q ⊢
      by_cases xy : x < y
      · by_cases yz : y < z
        · rw [if_pos (by omega)]; omega
        · rw [if_neg yz] at q
          by_cases zy : z < y
          · rw [if_pos zy] at q; omega
          · rw [if_pos (by omega)]; omega
      · rw [if_neg xy] at p
        by_cases yx : y < x
        · rw [if_pos yx] at p; omega
        · rw [if_neg yx] at p
          obtain rfl : x = y := by omega
          by_cases yz : x < z
          · rw [if_pos yz]; omega
          · rw [if_neg yz] at q ⊢
            by_cases zy : z < x
            · rw [if_pos zy] at q; omega
            · rw [if_neg zy] at q ⊢
              exact ih ys zs (by simpa using h1) (by simpa using h2) p q
theorem cmp_trans (a b c : List Int) (p : cmp a b ≤ 0) (q : cmp b c ≤ 0) : cmp a c ≤ 0 := by
  have hab : a.length ≤ b.length := by
    unfold cmp at p; by_cases h : b.length < a.length
    · rw [if_neg (by omega), if_pos h] at p; omega
    · omega
  have hbc : b.length ≤ c.length := by
    unfold cmp at q; by_cases h : c.length < b.length
    · rw [if_neg (by omega), if_pos h] at q; omega
    · omega
  by_cases h : a.length < c.length
  · unfold cmp; rw [if_pos h]; omega
  · unfold cmp at p q ⊢
    rw [if_neg (by omega), if_neg (by omega)] at p q ⊢
    exact lex_trans a b c (by omega) (by omega) p q
theorem cmp_snoc (a : List Int) (x : Int) : cmp a (a ++ [x]) = -1 := by
  unfold cmp; rw [if_pos (by simp)]
end Go.Proofs.Ytkanjgphmafjbaa.Wo
