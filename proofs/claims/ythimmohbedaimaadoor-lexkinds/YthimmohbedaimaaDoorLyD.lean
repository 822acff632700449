/- firstWord. -/
import Derived.Test.YthimmohbedaimaaDoorLyC
namespace Go.Proofs.YthimmohbedaimaaDoor.Gl
open Go.RowKit
set_option linter.unusedVariables false

/- how many bytes a character takes -/
def wdF (c : Nat) : Nat := if c < 128 then 1 else if c < 2048 then 2 else if c < 65536 then 3 else 4
theorem wd_is {s : ByteArray} {p : Nat} (h : (rdS s p).2.2 = true) : (rdS s p).2.1 = wdF (rdS s p).1 := by
  by_cases h1 : bt s p < 128
  · rw [rd_one s p h1]; show 1 = wdF (bt s p); rw [wdF, if_pos h1]
  · by_cases h2 : (128 ≤ bt s p ∧ bt s p < 194) ∨ 245 ≤ bt s p
    · rw [rd_bad0 s p h2] at h; cases h
    · by_cases h3 : bt s p < 224
      · rw [rd_two s p (by omega)] at h ⊢
        split at h
        · rename_i hc
          rw [if_pos hc]
          have e : accB s p (bt s p - 192) 1 = (bt s p - 192) * 64 + (bt s (p + 1) - 128) := rfl
          have hb := hc.2.1 0 (by omega)
          have := hc.2.2.1
          show 2 = wdF (accB s p (bt s p - 192) 1)
          rw [wdF, if_neg (by omega), if_pos (by rw [e]; simp only [Nat.zero_add] at hb; omega)]
        · cases h
      · by_cases h4 : bt s p < 240
        · rw [rd_three s p (by omega)] at h ⊢
          split at h
          · rename_i hc
            rw [if_pos hc]
            have e : accB s p (bt s p - 224) 2 = ((bt s p - 224) * 64 + (bt s (p + 1) - 128)) * 64 + (bt s (p + 2) - 128) := rfl
            have hb := hc.2.1 0 (by omega)
            have hb' := hc.2.1 1 (by omega)
            have := hc.2.2.1
            show 3 = wdF (accB s p (bt s p - 224) 2)
            rw [wdF, if_neg (by omega), if_neg (by omega), if_pos (by rw [e]; simp only [Nat.zero_add] at hb; simp only [Nat.reduceAdd] at hb'; omega)]
          · cases h
        · rw [rd_four s p (by omega)] at h ⊢
          split at h
          · rename_i hc
            rw [if_pos hc]
            have := hc.2.2.1
            show 4 = wdF (accB s p (bt s p - 240) 3)
            rw [wdF, if_neg (by omega), if_neg (by omega), if_neg (by omega)]
          · cases h
theorem enc_marks : ∀ m ∈ marks, (Utf8.encode m).size = wdF m.toNat := by decide +kernel
/- names -/
theorem pos_le (s : ByteArray) (j k : Nat) (h : j ≤ k) : pos s j ≤ pos s k := by
  induction h with
  | refl => exact Nat.le_refl _
  | step _ ih => rw [pos_succ]; omega
theorem RunTo.posn {P : Nat → Bool} {s : ByteArray} {p e : Nat} (h : RunTo P s p e) : ∀ k, pos s k = p → ∀ j, k ≤ j → pos s j < e → (rdS s (pos s j)).2.2 = true ∧ P (rdS s (pos s j)).1 = true := by
  induction h with
  | nil p =>
    intro k hk j hj hlt
    have := pos_le s k j hj
    omega
  | cons a b c _ ih =>
    intro k hk j hj hlt
    rcases Nat.lt_or_eq_of_le hj with hj | rfl
    · exact ih (k + 1) (by rw [pos_succ, hk]) j hj hlt
    · rw [hk]; exact ⟨b, c⟩
theorem nm_iff {t : ByteArray} (h : RunTo reN t 0 t.size) (h0 : 0 < t.size) (hst : stB ((rdS t 0).1 : Nat) = true) (hr : rsB t = false) : (decide (cnt t ≤ 16) = true ↔ IsName t) := by
  rw [decide_eq_true_eq]
  have hc := cnt_cnt t
  constructor
  · intro hle
    refine ⟨⟨cnt t, hc, ?_, hle, fun j hj => ?_⟩, hr⟩
    · rcases Nat.eq_zero_or_pos (cnt t) with e | e
      · rw [e] at hc
        have : (0 : Nat) = t.size := hc.1
        omega
      · exact e
    · have hlt := hc.2 j hj
      obtain ⟨a, b⟩ := h.posn 0 rfl j (Nat.zero_le _) hlt
      exact ⟨hlt, a, b, fun e => by subst e; exact hst⟩
  · rintro ⟨⟨n, hn, _, hle, _⟩, _⟩
    rw [cnt_one hc hn]
    exact hle
theorem res_keep {w w4 : World} {vs : Array Value} {t : TypeId} (hb : Below (w.alloc (.cells vs t)).heap.size (w.alloc (.cells vs t)) w4) :
    (∀ ob o, (w4.alloc ob).cell? ⟨w.heap.size, o, none⟩ = vs[o]?) ∧ (∀ ob o, (w4.alloc ob).frozen? ⟨w.heap.size, o, none⟩ = false) ∧ (∀ o, w4.cell? ⟨w.heap.size, o, none⟩ = vs[o]?) ∧ ∀ o, w4.frozen? ⟨w.heap.size, o, none⟩ = false := by
  refine ⟨fun ob o => ?_, fun ob o => ?_, fun o => ?_, fun o => ?_⟩
  · rw [(bcell (bta hb ob)).1 _ _ (by simp)]; simp
  · rw [(bcell (bta hb ob)).2 _ _ (by simp)]; simp
  · rw [(bcell hb).1 _ _ (by simp)]; simp
  · rw [(bcell hb).2 _ _ (by simp)]; simp
theorem ne_emp {x : ByteArray} (h : x ≠ emp) : (x.toList == []) = false := by
  cases hb : (x.toList == []) with
  | false => rfl
  | true => exact absurd (toList_inj (by simpa using hb)) h
set_option maxHeartbeats 2000000 in
theorem fw_st (u : ByteArray) (w : World) (r k c q : Nat) (x : ByteArray) (hu : u.size ≤ 4096) (hst : stB (r : Nat) = true) (hq : run reN u 0 = q) (hqs : q ≤ u.size)
    (hN : ∀ w, Calls Tryd.prog 21 #[.string (u.extract 0 q)] w fun e w' => e = .returned (.tuple #[wordV k x 0 0 0, .int .i64 c]) ∧ Below w.heap.size w w') :
    Calls Tryd.prog 14 #[.string u, .int .i32 r] w fun e w' => e = .returned (.tuple #[wordV k x 0 0 0, .int .i64 q, .int .i64 c]) ∧ Below w.heap.size w w' := by
  have ST : Hid (∀ w, Calls Tryd.prog 18 #[.int .i32 r] w fun e w' => e = .returned (.bool true) ∧ w = w') := fun w => by rw [← hst]; exact start_at _ w
  have RU : Hid (∀ w, Calls Tryd.prog 19 #[.string u, .func (.func 20) #[] #[]] w fun e w' => e = .returned (.string (u.extract 0 q)) ∧ Below w.heap.size w w') := fun w => by rw [← hq]; exact runre_at u w (by omega)
  have NN : Hid _ := hN
  have hz : (u.extract 0 q).size = q := size_win u 0 q hqs
  generalize u.extract 0 q = t at *
  clear hst hq hN
  go_enter Tryd.func14, Tryd.ntmps14
  go_wp2_with (first
    | (go_at_call 18; refine (ST.out _).mono ?_; rintro e w2 ⟨rfl, rfl⟩)
    | (go_at_call 19; refine (RU.out _).mono ?_; rintro e w3 ⟨rfl, hB3⟩)
    | (go_at_call 21; refine (NN.out _).mono ?_; rintro e w4 ⟨rfl, hB4⟩; obtain ⟨hc4, hf4, hd4, he4⟩ := res_keep (bt2 hB3 hB4)))
  refine bodyPost_ret (v := .tuple #[wordV k x 0 0 0, .int .i64 q, .int .i64 c]) (by simp [results, Tryd.results14, go_sem, hc4]) rfl ⟨rfl, ?_⟩
  repeat refine Below.setCell ?_ (by simp) _
  exact bta (ba2 (bt2 hB3 hB4)) _
set_option maxHeartbeats 2000000 in
theorem fw_dig (u : ByteArray) (w : World) (hS : Sg w) (r k c q v : Nat) (x : ByteArray) (hu : u.size ≤ 4096) (hst : stB (r : Nat) = false) (hdg : isDig r = true) (hq : run isDig u 0 = q) (hqs : q ≤ u.size)
    (hN : ∀ w, Sg w → Calls Tryd.prog 23 #[.string (u.extract 0 q)] w fun e w' => e = .returned (.tuple #[wordV k x v 0 0, .int .i64 c]) ∧ Below w.heap.size w w') :
    Calls Tryd.prog 14 #[.string u, .int .i32 r] w fun e w' => e = .returned (.tuple #[wordV k x v 0 0, .int .i64 q, .int .i64 c]) ∧ Below w.heap.size w w' := by
  have ST : Hid (∀ w, Calls Tryd.prog 18 #[.int .i32 r] w fun e w' => e = .returned (.bool false) ∧ w = w') := fun w => by rw [← hst]; exact start_at _ w
  have DG : Hid (∀ w, Calls Tryd.prog 22 #[.int .i32 r] w fun e w' => e = .returned (.bool true) ∧ w = w') := fun w => by rw [← hdg]; exact isdig_at _ w
  have RU : Hid (∀ w, Calls Tryd.prog 19 #[.string u, .func (.func 22) #[] #[]] w fun e w' => e = .returned (.string (u.extract 0 q)) ∧ Below w.heap.size w w') := fun w => by rw [← hq]; exact rundig_at u w (by omega)
  have NN : Hid _ := hN
  have hz : (u.extract 0 q).size = q := size_win u 0 q hqs
  generalize u.extract 0 q = t at *
  clear hst hq hN hdg
  go_enter Tryd.func14, Tryd.ntmps14
  go_wp2_with (first
    | (go_at_call 18; refine (ST.out _).mono ?_; rintro e w2 ⟨rfl, rfl⟩)
    | (go_at_call 22; refine (DG.out _).mono ?_; rintro e w2 ⟨rfl, rfl⟩)
    | (go_at_call 19; refine (RU.out _).mono ?_; rintro e w3 ⟨rfl, hB3⟩; have hS3 := (hS.alloc _).below hB3)
    | (go_at_call 23; refine (NN.out _ hS3).mono ?_; rintro e w4 ⟨rfl, hB4⟩; obtain ⟨hc4, hf4, hd4, he4⟩ := res_keep (bt2 hB3 hB4)))
  refine bodyPost_ret (v := .tuple #[wordV k x v 0 0, .int .i64 q, .int .i64 c]) (by simp [results, Tryd.results14, go_sem, hc4]) rfl ⟨rfl, ?_⟩
  repeat refine Below.setCell ?_ (by simp) _
  exact bta (ba2 (bt2 hB3 hB4)) _
set_option maxHeartbeats 2000000 in
theorem fw_plain (u : ByteArray) (w : World) (r q : Nat) (x : ByteArray) (hu : u.size ≤ 4096) (hst : stB (r : Nat) = false) (hdg : isDig r = false) (hx : plB (r : Nat) = x) (hne : x ≠ emp) (hq : (Utf8.encode (r : Nat)).size = q) :
    Calls Tryd.prog 14 #[.string u, .int .i32 r] w fun e w' => e = .returned (.tuple #[wordV 2 x 0 0 0, .int .i64 q, .int .i64 0]) ∧ Below w.heap.size w w' := by
  have ST : Hid (∀ w, Calls Tryd.prog 18 #[.int .i32 r] w fun e w' => e = .returned (.bool false) ∧ w = w') := fun w => by rw [← hst]; exact start_at _ w
  have DG : Hid (∀ w, Calls Tryd.prog 22 #[.int .i32 r] w fun e w' => e = .returned (.bool false) ∧ w = w') := fun w => by rw [← hdg]; exact isdig_at _ w
  have PL : Hid (∀ w, Calls Tryd.prog 24 #[.int .i32 r] w fun e w' => e = .returned (.string x) ∧ w = w') := fun w => by rw [← hx]; exact plain_at _ w
  have SG : Hid (∀ w, Calls Tryd.prog 25 #[.string x] w fun e w' => e = .returned (wordV 2 x 0 0 0) ∧ Below w.heap.size w w') := fun w => sign_at x w
  have hn1 : (x.toList == []) = false := ne_emp hne
  clear hst hdg hx hne
  go_enter Tryd.func14, Tryd.ntmps14
  go_wp2_with (first
    | (go_at_call 18; refine (ST.out _).mono ?_; rintro e w2 ⟨rfl, rfl⟩)
    | (go_at_call 22; refine (DG.out _).mono ?_; rintro e w2 ⟨rfl, rfl⟩)
    | (go_at_call 24; refine (PL.out _).mono ?_; rintro e w2 ⟨rfl, rfl⟩)
    | (go_at_call 25; refine (SG.out _).mono ?_; rintro e w4 ⟨rfl, hB4⟩; obtain ⟨hc4, hf4, hd4, he4⟩ := res_keep hB4))
  refine bodyPost_ret (v := .tuple #[wordV 2 x 0 0 0, .int .i64 q, .int .i64 0]) (by simp [results, Tryd.results14, go_sem, hd4]) rfl ⟨rfl, ?_⟩
  repeat refine Below.setCell ?_ (by simp) _
  exact ba2 hB4
set_option maxHeartbeats 2000000 in
theorem fw_sign (u : ByteArray) (w : World) (hS : Sg w) (r : Nat) (x : ByteArray) (hu : u.size ≤ 4096) (hst : stB (r : Nat) = false) (hdg : isDig r = false) (hpl : plB (r : Nat) = emp) (hx : sgn u 0 = x) (hne : x ≠ emp) :
    Calls Tryd.prog 14 #[.string u, .int .i32 r] w fun e w' => e = .returned (.tuple #[wordV 2 x 0 0 0, .int .i64 x.size, .int .i64 0]) ∧ Below w.heap.size w w' := by
  have ST : Hid (∀ w, Calls Tryd.prog 18 #[.int .i32 r] w fun e w' => e = .returned (.bool false) ∧ w = w') := fun w => by rw [← hst]; exact start_at _ w
  have DG : Hid (∀ w, Calls Tryd.prog 22 #[.int .i32 r] w fun e w' => e = .returned (.bool false) ∧ w = w') := fun w => by rw [← hdg]; exact isdig_at _ w
  have PL : Hid (∀ w, Calls Tryd.prog 24 #[.int .i32 r] w fun e w' => e = .returned (.string emp) ∧ w = w') := fun w => by rw [← hpl]; exact plain_at _ w
  have LS : Hid (∀ w, Sg w → Calls Tryd.prog 26 #[.string u] w fun e w' => e = .returned (.string x) ∧ w = w') := fun w h => by rw [← hx]; exact longest_at u w h (by omega)
  have SG : Hid (∀ w, Calls Tryd.prog 25 #[.string x] w fun e w' => e = .returned (wordV 2 x 0 0 0) ∧ Below w.heap.size w w') := fun w => sign_at x w
  have hn1 : (x.toList == []) = false := ne_emp hne
  clear hst hdg hx hne hpl
  go_enter Tryd.func14, Tryd.ntmps14
  go_wp2_with (first
    | (go_at_call 18; refine (ST.out _).mono ?_; rintro e w2 ⟨rfl, rfl⟩)
    | (go_at_call 22; refine (DG.out _).mono ?_; rintro e w2 ⟨rfl, rfl⟩)
    | (go_at_call 24; refine (PL.out _).mono ?_; rintro e w2 ⟨rfl, rfl⟩)
    | (go_at_call 26; refine (LS.out _ (hS.alloc _)).mono ?_; rintro e w2 ⟨rfl, rfl⟩)
    | (go_at_call 25; refine (SG.out _).mono ?_; rintro e w4 ⟨rfl, hB4⟩; obtain ⟨hc4, hf4, hd4, he4⟩ := res_keep hB4))
  refine bodyPost_ret (v := .tuple #[wordV 2 x 0 0 0, .int .i64 x.size, .int .i64 0]) (by simp [results, Tryd.results14, go_sem, hd4]) rfl ⟨rfl, ?_⟩
  repeat refine Below.setCell ?_ (by simp) _
  exact ba2 hB4
set_option maxHeartbeats 2000000 in
theorem fw_none (u : ByteArray) (w : World) (hS : Sg w) (r : Nat) (hu : u.size ≤ 4096) (hst : stB (r : Nat) = false) (hdg : isDig r = false) (hpl : plB (r : Nat) = emp) (hx : sgn u 0 = emp) :
    Calls Tryd.prog 14 #[.string u, .int .i32 r] w fun e w' => e = .returned (.tuple #[wordV 0 emp 0 0 0, .int .i64 0, .int .i64 51]) ∧ Below w.heap.size w w' := by
  have ST : Hid (∀ w, Calls Tryd.prog 18 #[.int .i32 r] w fun e w' => e = .returned (.bool false) ∧ w = w') := fun w => by rw [← hst]; exact start_at _ w
  have DG : Hid (∀ w, Calls Tryd.prog 22 #[.int .i32 r] w fun e w' => e = .returned (.bool false) ∧ w = w') := fun w => by rw [← hdg]; exact isdig_at _ w
  have PL : Hid (∀ w, Calls Tryd.prog 24 #[.int .i32 r] w fun e w' => e = .returned (.string emp) ∧ w = w') := fun w => by rw [← hpl]; exact plain_at _ w
  have LS : Hid (∀ w, Sg w → Calls Tryd.prog 26 #[.string u] w fun e w' => e = .returned (.string emp) ∧ w = w') := fun w h => by rw [← hx]; exact longest_at u w h (by omega)
  clear hst hdg hx hpl
  go_enter Tryd.func14, Tryd.ntmps14
  go_wp2_with (first
    | (go_at_call 18; refine (ST.out _).mono ?_; rintro e w2 ⟨rfl, rfl⟩)
    | (go_at_call 22; refine (DG.out _).mono ?_; rintro e w2 ⟨rfl, rfl⟩)
    | (go_at_call 24; refine (PL.out _).mono ?_; rintro e w2 ⟨rfl, rfl⟩)
    | (go_at_call 26; refine (LS.out _ (hS.alloc _)).mono ?_; rintro e w2 ⟨rfl, rfl⟩))
  refine bodyPost_ret (v := .tuple #[wordV 0 emp 0 0 0, .int .i64 0, .int .i64 51]) (by simp [results, Tryd.results14, go_sem]) rfl ⟨rfl, ?_⟩
  repeat refine Below.setCell ?_ (by simp) _
  exact bta (Below.refl _ _) _
end Go.Proofs.YthimmohbedaimaaDoor.Gl
