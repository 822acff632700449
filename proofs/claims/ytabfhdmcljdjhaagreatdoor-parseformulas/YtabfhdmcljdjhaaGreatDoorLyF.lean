/- firstWord. -/
import Derived.Test.YtabfhdmcljdjhaaGreatDoorLyC
import Derived.WalkSmall
import Derived.Laws.AppendOwnNone
namespace Go.Proofs.YtabfhdmcljdjhaaGreatDoor.Gl
open Go.RowKit
set_option linter.unusedVariables false

/- how many bytes a character takes -/
def wdF (c : Nat) : Nat := if c < 128 then 1 else if c < 2048 then 2 else if c < 65536 then 3 else 4
theorem wd_is {s : ByteArray} {p : Nat} (h : (rdS s p).2.2 = true) : (rdS s p).2.1 = wdF (rdS s p).1 := by
  by_cases h1 : bt s p < 128
  · rw [rd_one s p h1]; show 1 = wdF (bt s p); rw [wdF, if_pos h1]
  · by_cases h2 : (128 ≤ bt s p ∧ bt s p < 194) ∨ 245 ≤ bt s p
    · rw [rd_bad0 s p h2] at h; cases h
    · by_cases h3 : bt s p < 224
      · rw [rd_two s p (by omega)] at h ⊢
        split at h
        · rename_i hc
          rw [if_pos hc]
          have e : accB s p (bt s p - 192) 1 = (bt s p - 192) * 64 + (bt s (p + 1) - 128) := rfl
          have hb := hc.2.1 0 (by omega)
          have := hc.2.2.1
          show 2 = wdF (accB s p (bt s p - 192) 1)
          rw [wdF, if_neg (by omega), if_pos (by rw [e]; simp only [Nat.zero_add] at hb; omega)]
        · cases h
      · by_cases h4 : bt s p < 240
        · rw [rd_three s p (by omega)] at h ⊢
          split at h
          · rename_i hc
            rw [if_pos hc]
            have e : accB s p (bt s p - 224) 2 = ((bt s p - 224) * 64 + (bt s (p + 1) - 128)) * 64 + (bt s (p + 2) - 128) := rfl
            have hb := hc.2.1 0 (by omega)
            have hb' := hc.2.1 1 (by omega)
            have := hc.2.2.1
            show 3 = wdF (accB s p (bt s p - 224) 2)
            rw [wdF, if_neg (by omega), if_neg (by omega), if_pos (by rw [e]; simp only [Nat.zero_add] at hb; simp only [Nat.reduceAdd] at hb'; omega)]
          · cases h
        · rw [rd_four s p (by omega)] at h ⊢
          split at h
          · rename_i hc
            rw [if_pos hc]
            have := hc.2.2.1
            show 4 = wdF (accB s p (bt s p - 240) 3)
            rw [wdF, if_neg (by omega), if_neg (by omega), if_neg (by omega)]
          · cases h
theorem enc_marks : ∀ m ∈ marks, (Utf8.encode m).size = wdF m.toNat := by decide +kernel
/- names -/
theorem pos_le (s : ByteArray) (j k : Nat) (h : j ≤ k) : pos s j ≤ pos s k := by
  induction h with
  | refl => exact Nat.le_refl _
  | step _ ih => rw [pos_succ]; omega
theorem RunTo.posn {P : Nat → Bool} {s : ByteArray} {p e : Nat} (h : RunTo P s p e) : ∀ k, pos s k = p → ∀ j, k ≤ j → pos s j < e → (rdS s (pos s j)).2.2 = true ∧ P (rdS s (pos s j)).1 = true := by
  induction h with
  | nil p =>
    intro k hk j hj hlt
    have := pos_le s k j hj
    omega
  | cons a b c _ ih =>
    intro k hk j hj hlt
    rcases Nat.lt_or_eq_of_le hj with hj | rfl
    · exact ih (k + 1) (by rw [pos_succ, hk]) j hj hlt
    · rw [hk]; exact ⟨b, c⟩
theorem nm_iff {t : ByteArray} (h : RunTo reN t 0 t.size) (h0 : 0 < t.size) (hst : stB ((rdS t 0).1 : Nat) = true) (hr : rsB t = false) : (decide (cnt t ≤ 16) = true ↔ IsName t) := by
  rw [decide_eq_true_eq]
  have hc := cnt_cnt t
  constructor
  · intro hle
    refine ⟨⟨cnt t, hc, ?_, hle, fun j hj => ?_⟩, hr⟩
    · rcases Nat.eq_zero_or_pos (cnt t) with e | e
      · rw [e] at hc
        have : (0 : Nat) = t.size := hc.1
        omega
      · exact e
    · have hlt := hc.2 j hj
      obtain ⟨a, b⟩ := h.posn 0 rfl j (Nat.zero_le _) hlt
      exact ⟨hlt, a, b, fun e => by subst e; exact hst⟩
  · rintro ⟨⟨n, hn, _, hle, _⟩, _⟩
    rw [cnt_one hc hn]
    exact hle
theorem ne_emp {x : ByteArray} (h : x ≠ emp) : (x.toList == []) = false := by
  cases hb : (x.toList == []) with
  | false => rfl
  | true => exact absurd (toList_inj (by simpa using hb)) h
set_option maxHeartbeats 2000000 in
theorem fw_st (u : ByteArray) (w : World) (r k c q : Nat) (x : ByteArray) (hu : u.size ≤ 4096) (hst : stB (r : Nat) = true) (hq : run reN u 0 = q) (hqs : q ≤ u.size)
    (hN : ∀ w, Calls Tryz.prog 81 #[.string (u.extract 0 q)] w fun e w' => e = .returned (.tuple #[wordV k x 0 0 0, .int .i64 c]) ∧ Below w.heap.size w w') :
    Calls Tryz.prog 52 #[.string u, .int .i32 r] w fun e w' => e = .returned (.tuple #[wordV k x 0 0 0, .int .i64 q, .int .i64 c]) ∧ Below w.heap.size w w' := by
  have ST : Hid (∀ w, Calls Tryz.prog 78 #[.int .i32 r] w fun e w' => e = .returned (.bool true) ∧ w = w') := fun w => by rw [← hst]; exact start_at _ w
  have RU : Hid (∀ w, Calls Tryz.prog 79 #[.string u, .func (.func 80) #[] #[]] w fun e w' => e = .returned (.string (u.extract 0 q)) ∧ Below w.heap.size w w') := fun w => by rw [← hq]; exact runre_at u w (by omega)
  have NN : Hid _ := hN
  have hz : (u.extract 0 q).size = q := size_win u 0 q hqs
  generalize u.extract 0 q = t at *
  clear hst hq hN
  go_enter Tryz.func52, Tryz.ntmps52
  go_wp2_with (first
    | (go_at_call 78; refine (ST.out _).mono ?_; rintro e w2 ⟨rfl, rfl⟩)
    | (go_at_call 79; refine (RU.out _).mono ?_; rintro e w3 ⟨rfl, hB3⟩)
    | (go_at_call 81; refine (NN.out _).mono ?_; rintro e w4 ⟨rfl, hB4⟩; obtain ⟨hc4, hf4, hd4, he4⟩ := res_keep (bt2 hB3 hB4)))
  refine bodyPost_ret (v := .tuple #[wordV k x 0 0 0, .int .i64 q, .int .i64 c]) (by simp [results, Tryz.results52, go_sem, hc4]) rfl ⟨rfl, ?_⟩
  repeat refine Below.setCell ?_ (by simp) _
  exact bta (ba2 (bt2 hB3 hB4)) _
set_option maxHeartbeats 2000000 in
theorem fw_dig (u : ByteArray) (w : World) (hS : Sg w) (r k c q v : Nat) (x : ByteArray) (hu : u.size ≤ 4096) (hst : stB (r : Nat) = false) (hdg : isDig r = true) (hq : run isDig u 0 = q) (hqs : q ≤ u.size)
    (hN : ∀ w, Sg w → Calls Tryz.prog 83 #[.string (u.extract 0 q)] w fun e w' => e = .returned (.tuple #[wordV k x v 0 0, .int .i64 c]) ∧ Below w.heap.size w w') :
    Calls Tryz.prog 52 #[.string u, .int .i32 r] w fun e w' => e = .returned (.tuple #[wordV k x v 0 0, .int .i64 q, .int .i64 c]) ∧ Below w.heap.size w w' := by
  have ST : Hid (∀ w, Calls Tryz.prog 78 #[.int .i32 r] w fun e w' => e = .returned (.bool false) ∧ w = w') := fun w => by rw [← hst]; exact start_at _ w
  have DG : Hid (∀ w, Calls Tryz.prog 82 #[.int .i32 r] w fun e w' => e = .returned (.bool true) ∧ w = w') := fun w => by rw [← hdg]; exact isdig_at _ w
  have RU : Hid (∀ w, Calls Tryz.prog 79 #[.string u, .func (.func 82) #[] #[]] w fun e w' => e = .returned (.string (u.extract 0 q)) ∧ Below w.heap.size w w') := fun w => by rw [← hq]; exact rundig_at u w (by omega)
  have NN : Hid _ := hN
  have hz : (u.extract 0 q).size = q := size_win u 0 q hqs
  generalize u.extract 0 q = t at *
  clear hst hq hN hdg
  go_enter Tryz.func52, Tryz.ntmps52
  go_wp2_with (first
    | (go_at_call 78; refine (ST.out _).mono ?_; rintro e w2 ⟨rfl, rfl⟩)
    | (go_at_call 82; refine (DG.out _).mono ?_; rintro e w2 ⟨rfl, rfl⟩)
    | (go_at_call 79; refine (RU.out _).mono ?_; rintro e w3 ⟨rfl, hB3⟩; have hS3 := (hS.alloc _).below hB3)
    | (go_at_call 83; refine (NN.out _ hS3).mono ?_; rintro e w4 ⟨rfl, hB4⟩; obtain ⟨hc4, hf4, hd4, he4⟩ := res_keep (bt2 hB3 hB4)))
  refine bodyPost_ret (v := .tuple #[wordV k x v 0 0, .int .i64 q, .int .i64 c]) (by simp [results, Tryz.results52, go_sem, hc4]) rfl ⟨rfl, ?_⟩
  repeat refine Below.setCell ?_ (by simp) _
  exact bta (ba2 (bt2 hB3 hB4)) _
set_option maxHeartbeats 2000000 in
theorem fw_plain (u : ByteArray) (w : World) (r q : Nat) (x : ByteArray) (hu : u.size ≤ 4096) (hst : stB (r : Nat) = false) (hdg : isDig r = false) (hx : plB (r : Nat) = x) (hne : x ≠ emp) (hq : (Utf8.encode (r : Nat)).size = q) :
    Calls Tryz.prog 52 #[.string u, .int .i32 r] w fun e w' => e = .returned (.tuple #[wordV 2 x 0 0 0, .int .i64 q, .int .i64 0]) ∧ Below w.heap.size w w' := by
  have ST : Hid (∀ w, Calls Tryz.prog 78 #[.int .i32 r] w fun e w' => e = .returned (.bool false) ∧ w = w') := fun w => by rw [← hst]; exact start_at _ w
  have DG : Hid (∀ w, Calls Tryz.prog 82 #[.int .i32 r] w fun e w' => e = .returned (.bool false) ∧ w = w') := fun w => by rw [← hdg]; exact isdig_at _ w
  have PL : Hid (∀ w, Calls Tryz.prog 84 #[.int .i32 r] w fun e w' => e = .returned (.string x) ∧ w = w') := fun w => by rw [← hx]; exact plain_at _ w
  have SG : Hid (∀ w, Calls Tryz.prog 85 #[.string x] w fun e w' => e = .returned (wordV 2 x 0 0 0) ∧ Below w.heap.size w w') := fun w => sign_at x w
  have hn1 : (x.toList == []) = false := ne_emp hne
  clear hst hdg hx hne
  go_enter Tryz.func52, Tryz.ntmps52
  go_wp2_with (first
    | (go_at_call 78; refine (ST.out _).mono ?_; rintro e w2 ⟨rfl, rfl⟩)
    | (go_at_call 82; refine (DG.out _).mono ?_; rintro e w2 ⟨rfl, rfl⟩)
    | (go_at_call 84; refine (PL.out _).mono ?_; rintro e w2 ⟨rfl, rfl⟩)
    | (go_at_call 85; refine (SG.out _).mono ?_; rintro e w4 ⟨rfl, hB4⟩; obtain ⟨hc4, hf4, hd4, he4⟩ := res_keep hB4))
  refine bodyPost_ret (v := .tuple #[wordV 2 x 0 0 0, .int .i64 q, .int .i64 0]) (by simp [results, Tryz.results52, go_sem, hd4]) rfl ⟨rfl, ?_⟩
  repeat refine Below.setCell ?_ (by simp) _
  exact ba2 hB4
set_option maxHeartbeats 2000000 in
theorem fw_sign (u : ByteArray) (w : World) (hS : Sg w) (r : Nat) (x : ByteArray) (hu : u.size ≤ 4096) (hst : stB (r : Nat) = false) (hdg : isDig r = false) (hpl : plB (r : Nat) = emp) (hx : sgn u 0 = x) (hne : x ≠ emp) :
    Calls Tryz.prog 52 #[.string u, .int .i32 r] w fun e w' => e = .returned (.tuple #[wordV 2 x 0 0 0, .int .i64 x.size, .int .i64 0]) ∧ Below w.heap.size w w' := by
  have ST : Hid (∀ w, Calls Tryz.prog 78 #[.int .i32 r] w fun e w' => e = .returned (.bool false) ∧ w = w') := fun w => by rw [← hst]; exact start_at _ w
  have DG : Hid (∀ w, Calls Tryz.prog 82 #[.int .i32 r] w fun e w' => e = .returned (.bool false) ∧ w = w') := fun w => by rw [← hdg]; exact isdig_at _ w
  have PL : Hid (∀ w, Calls Tryz.prog 84 #[.int .i32 r] w fun e w' => e = .returned (.string emp) ∧ w = w') := fun w => by rw [← hpl]; exact plain_at _ w
  have LS : Hid (∀ w, Sg w → Calls Tryz.prog 86 #[.string u] w fun e w' => e = .returned (.string x) ∧ w = w') := fun w h => by rw [← hx]; exact longest_at u w h (by omega)
  have SG : Hid (∀ w, Calls Tryz.prog 85 #[.string x] w fun e w' => e = .returned (wordV 2 x 0 0 0) ∧ Below w.heap.size w w') := fun w => sign_at x w
  have hn1 : (x.toList == []) = false := ne_emp hne
  clear hst hdg hx hne hpl
  go_enter Tryz.func52, Tryz.ntmps52
  go_wp2_with (first
    | (go_at_call 78; refine (ST.out _).mono ?_; rintro e w2 ⟨rfl, rfl⟩)
    | (go_at_call 82; refine (DG.out _).mono ?_; rintro e w2 ⟨rfl, rfl⟩)
    | (go_at_call 84; refine (PL.out _).mono ?_; rintro e w2 ⟨rfl, rfl⟩)
    | (go_at_call 86; refine (LS.out _ (hS.alloc _)).mono ?_; rintro e w2 ⟨rfl, rfl⟩)
    | (go_at_call 85; refine (SG.out _).mono ?_; rintro e w4 ⟨rfl, hB4⟩; obtain ⟨hc4, hf4, hd4, he4⟩ := res_keep hB4))
  refine bodyPost_ret (v := .tuple #[wordV 2 x 0 0 0, .int .i64 x.size, .int .i64 0]) (by simp [results, Tryz.results52, go_sem, hd4]) rfl ⟨rfl, ?_⟩
  repeat refine Below.setCell ?_ (by simp) _
  exact ba2 hB4
set_option maxHeartbeats 2000000 in
theorem fw_none (u : ByteArray) (w : World) (hS : Sg w) (r : Nat) (hu : u.size ≤ 4096) (hst : stB (r : Nat) = false) (hdg : isDig r = false) (hpl : plB (r : Nat) = emp) (hx : sgn u 0 = emp) :
    Calls Tryz.prog 52 #[.string u, .int .i32 r] w fun e w' => e = .returned (.tuple #[wordV 0 emp 0 0 0, .int .i64 0, .int .i64 51]) ∧ Below w.heap.size w w' := by
  have ST : Hid (∀ w, Calls Tryz.prog 78 #[.int .i32 r] w fun e w' => e = .returned (.bool false) ∧ w = w') := fun w => by rw [← hst]; exact start_at _ w
  have DG : Hid (∀ w, Calls Tryz.prog 82 #[.int .i32 r] w fun e w' => e = .returned (.bool false) ∧ w = w') := fun w => by rw [← hdg]; exact isdig_at _ w
  have PL : Hid (∀ w, Calls Tryz.prog 84 #[.int .i32 r] w fun e w' => e = .returned (.string emp) ∧ w = w') := fun w => by rw [← hpl]; exact plain_at _ w
  have LS : Hid (∀ w, Sg w → Calls Tryz.prog 86 #[.string u] w fun e w' => e = .returned (.string emp) ∧ w = w') := fun w h => by rw [← hx]; exact longest_at u w h (by omega)
  clear hst hdg hx hpl
  go_enter Tryz.func52, Tryz.ntmps52
  go_wp2_with (first
    | (go_at_call 78; refine (ST.out _).mono ?_; rintro e w2 ⟨rfl, rfl⟩)
    | (go_at_call 82; refine (DG.out _).mono ?_; rintro e w2 ⟨rfl, rfl⟩)
    | (go_at_call 84; refine (PL.out _).mono ?_; rintro e w2 ⟨rfl, rfl⟩)
    | (go_at_call 86; refine (LS.out _ (hS.alloc _)).mono ?_; rintro e w2 ⟨rfl, rfl⟩))
  refine bodyPost_ret (v := .tuple #[wordV 0 emp 0 0 0, .int .i64 0, .int .i64 51]) (by simp [results, Tryz.results52, go_sem]) rfl ⟨rfl, ?_⟩
  repeat refine Below.setCell ?_ (by simp) _
  exact bta (Below.refl _ _) _
end Go.Proofs.YtabfhdmcljdjhaaGreatDoor.Gl
/- What firstWord answers. -/
namespace Go.Proofs.YtabfhdmcljdjhaaGreatDoor.Gl
open Go.RowKit
set_option linter.unusedVariables false

theorem run_digs {u : ByteArray} {p q : Nat} (h : RunTo isDig u p q) : p ≤ q ∧ ∀ j, p ≤ j → j < q → 48 ≤ bt u j ∧ bt u j ≤ 57 := by
  induction h with
  | nil => exact ⟨Nat.le_refl _, fun j h1 h2 => by omega⟩
  | @cons p q a b c _ ih =>
    have hd := of_decide_eq_true c
    obtain ⟨e1, e2, _⟩ := rd_ascii (s := u) (p := p) (by omega)
    rw [e2] at ih
    refine ⟨by omega, fun j h1 h2 => ?_⟩
    rcases Nat.lt_or_eq_of_le h1 with hlt | rfl
    · exact ih.2 j (by omega) h2
    · rw [e1]; exact hd
theorem digs_run {u : ByteArray} (h0 : 0 < u.size) (hok : (rdS u 0).2.2 = true) (hd : isDig (rdS u 0).1 = true) : Digs (u.extract 0 (run isDig u 0)) ∧ valF (u.extract 0 (run isDig u 0)) 0 (u.extract 0 (run isDig u 0)).size = valF u 0 (run isDig u 0 - 0) ∧ run isDig u 0 ≤ u.size := by
  have hle := (run_run isDig u 0).le_size (Nat.zero_le _)
  have hgt := run_gt h0 hok hd
  have hz := size_win u 0 (run isDig u 0) hle
  obtain ⟨_, hb⟩ := run_digs (run_run isDig u 0)
  refine ⟨⟨by omega, fun j hj => ?_⟩, ?_, hle⟩
  · rw [bt_win u 0 _ j hle (by omega), Nat.zero_add]
    exact hb j (Nat.zero_le _) (by omega)
  · rw [hz]
    exact valF_congr _ (fun j hj => by rw [Nat.zero_add, bt_win u 0 _ j hle (by omega), Nat.zero_add])
theorem name_run {u : ByteArray} (h0 : 0 < u.size) (hok : (rdS u 0).2.2 = true) (hst : stB ((rdS u 0).1 : Nat) = true) : run reN u 0 ≤ u.size ∧ (rsB (u.extract 0 (run reN u 0)) = false → (decide (cnt (u.extract 0 (run reN u 0)) ≤ 16) = true ↔ IsName (u.extract 0 (run reN u 0)))) := by
  have hle := (run_run reN u 0).le_size (Nat.zero_le _)
  have hgt := run_gt h0 hok (show reN (rdS u 0).1 = true from reB_of hst)
  have hz := size_win u 0 (run reN u 0) hle
  refine ⟨hle, fun hr => ?_⟩
  have hrt : RunTo reN (u.extract 0 (run reN u 0)) 0 (u.extract 0 (run reN u 0)).size := by
    rw [hz]
    exact (run_run reN u 0).win hle 0 (run reN u 0 - 0) (by omega) (by omega) (Nat.le_refl _)
  have e0 : rdS (u.extract 0 (run reN u 0)) 0 = rdS u 0 := rd_win u 0 _ 0 hle ((run_run reN u 0).bd.step hgt) hgt
  exact nm_iff hrt (by omega) (by rw [e0]; exact hst) hr
theorem fw_word (u : ByteArray) (w : World) (hS : Sg w) (h0 : 0 < u.size) (hu : u.size ≤ 4096) {k v q : Nat} {t : ByteArray} (h : tok u 0 = .word k t v q) :
    Calls Tryz.prog 52 #[.string u, .int .i32 ((rdS u 0).1 : Nat)] w fun e w' => e = .returned (.tuple #[wordV k t v 0 0, .int .i64 q, .int .i64 0]) ∧ Below w.heap.size w w' := by
  rcases tok_cases u 0 with ⟨_, e⟩ | ⟨hbl, ⟨_, e⟩ | ⟨hok, ⟨hst, hc⟩ | ⟨hst, hdg, ⟨_, e⟩ | ⟨hv, e⟩⟩ | ⟨hst, hdg, hpl, e⟩ | ⟨hst, hdg, hpl, ⟨_, e⟩ | ⟨hne, e⟩⟩⟩⟩
  · rw [h] at e; cases e
  · rw [h] at e; cases e
  · obtain ⟨hle, hnm⟩ := name_run h0 hok hst
    have hz : (u.extract 0 (run reN u 0)).size ≤ 4096 := by rw [size_win u 0 _ hle]; omega
    rcases hc with ⟨h1, e⟩ | ⟨_, _, e⟩ | ⟨h1, h2, e⟩
    · rw [h] at e; cases e
      exact fw_st u w _ 2 0 _ _ hu hst rfl hle (fun w => name_sign _ w hz h1)
    · rw [h] at e; cases e
    · rw [h] at e; cases e
      exact fw_st u w _ 0 0 _ _ hu hst rfl hle (fun w => name_name _ w hz h1 0 0 _ _ (hnm h1) (.inl ⟨decide_eq_true (by omega), rfl, rfl⟩))
  · rw [h] at e; cases e
  · rw [h] at e; cases e
    obtain ⟨hd, hval, hle⟩ := digs_run h0 hok hdg
    have hz : (u.extract 0 (run isDig u 0)).size ≤ 4096 := by rw [size_win u 0 _ hle]; omega
    exact fw_dig u w hS _ 1 0 _ _ emp hu hst hdg rfl hle (fun w _ => number_ok _ _ w hd hz hval (by omega))
  · rw [h] at e; cases e
    have hm : ((rdS u 0).1 : Int) ∈ marks := by
      by_cases hm : ((rdS u 0).1 : Int) ∈ marks
      · exact hm
      · exact absurd (pl_none _ (fun m h' e => hm (by rw [← e]; exact h'))) hpl
    exact fw_plain u w _ _ _ hu hst hdg rfl hpl (by rw [enc_marks _ hm, Nat.zero_add, wd_is hok]; rfl)
  · rw [h] at e; cases e
  · rw [h] at e; cases e
    have := fw_sign u w hS _ _ hu hst hdg hpl rfl hne
    rwa [Nat.zero_add]
theorem fw_bad (u : ByteArray) (w : World) (hS : Sg w) (h0 : 0 < u.size) (hu : u.size ≤ 4096) {c : Nat} (hok : (rdS u 0).2.2 = true) (h : tok u 0 = .bad c) :
    Calls Tryz.prog 52 #[.string u, .int .i32 ((rdS u 0).1 : Nat)] w fun e w' => ∃ z : Nat, e = .returned (.tuple #[wordV 0 emp 0 0 0, .int .i64 z, .int .i64 c]) ∧ Below w.heap.size w w' := by
  rcases tok_cases u 0 with ⟨_, e⟩ | ⟨hbl, ⟨ho, e⟩ | ⟨hok, ⟨hst, hc⟩ | ⟨hst, hdg, ⟨hv, e⟩ | ⟨hv, e⟩⟩ | ⟨hst, hdg, hpl, e⟩ | ⟨hst, hdg, hpl, ⟨hne, e⟩ | ⟨hne, e⟩⟩⟩⟩
  · rw [h] at e; cases e
  · rw [hok] at ho; cases ho
  · obtain ⟨hle, hnm⟩ := name_run h0 hok hst
    have hz : (u.extract 0 (run reN u 0)).size ≤ 4096 := by rw [size_win u 0 _ hle]; omega
    rcases hc with ⟨h1, e⟩ | ⟨h1, h2, e⟩ | ⟨h1, h2, e⟩
    · rw [h] at e; cases e
    · rw [h] at e; cases e
      exact (fw_st u w _ 0 6 _ emp hu hst rfl hle (fun w => name_name _ w hz h1 0 6 _ _ (hnm h1) (.inr ⟨decide_eq_false (by omega), rfl, rfl⟩))).mono fun e w' ⟨he, hb⟩ => ⟨_, he, hb⟩
    · rw [h] at e; cases e
  · rw [h] at e; cases e
    obtain ⟨hd, hval, hle⟩ := digs_run h0 hok hdg
    have hz : (u.extract 0 (run isDig u 0)).size ≤ 4096 := by rw [size_win u 0 _ hle]; omega
    exact (fw_dig u w hS _ 0 52 _ 0 emp hu hst hdg rfl hle (fun w hS => number_bad _ w hS hd hz (by rw [hval]; exact hv))).mono fun e w' ⟨he, hb⟩ => ⟨_, he, hb⟩
  · rw [h] at e; cases e
  · rw [h] at e; cases e
  · rw [h] at e; cases e
    exact (fw_none u w hS _ hu hst hdg hpl hne).mono fun e w' ⟨he, hb⟩ => ⟨0, he, hb⟩
  · rw [h] at e; cases e
end Go.Proofs.YtabfhdmcljdjhaaGreatDoor.Gl
/- Words: where the loop stands; the append of a word. -/
namespace Go.Proofs.YtabfhdmcljdjhaaGreatDoor.Gl
open Go.RowKit
set_option linter.unusedVariables false

abbrev anyC : Nat → Bool := fun _ => true
theorem RunTo.anyc {P : Nat → Bool} {s : ByteArray} {p q : Nat} (h : RunTo P s p q) : RunTo anyC s p q := by
  induction h with
  | nil => exact .nil _
  | cons a b c _ ih => exact .cons a b rfl ih
theorem any_ascii {s : ByteArray} : ∀ (n p : Nat), p + n ≤ s.size → (∀ j, j < n → bt s (p + j) < 128) → RunTo anyC s p (p + n)
  | 0, p, _, _ => .nil p
  | n + 1, p, h, hb => by
    have h0 := hb 0 (by omega)
    rw [Nat.add_zero] at h0
    have e := rd_one s p h0
    refine .cons (by omega) (by rw [e]) rfl ?_
    rw [e]
    have := any_ascii (s := s) n (p + 1) (by omega) (fun j hj => by have := hb (j + 1) (by omega); rwa [show p + 1 + j = p + (j + 1) by omega])
    rwa [show p + 1 + n = p + (n + 1) by omega] at this
theorem tok_any {s : ByteArray} {p k v q : Nat} {t : ByteArray} (hp : p < s.size) (h : tok s p = .word k t v q) : RunTo anyC s p q := by
  rcases tok_cases s p with ⟨_, e⟩ | ⟨hbl, ⟨_, e⟩ | ⟨hok, ⟨_, ⟨_, e⟩ | ⟨_, _, e⟩ | ⟨_, _, e⟩⟩ | ⟨_, _, ⟨_, e⟩ | ⟨_, e⟩⟩ | ⟨_, _, _, e⟩ | ⟨_, _, _, ⟨_, e⟩ | ⟨hne, e⟩⟩⟩⟩
  all_goals rw [h] at e
  all_goals cases e
  · exact (run_run reN s p).anyc
  · exact (run_run reN s p).anyc
  · exact (run_run isDig s p).anyc
  · exact .cons hp hok rfl (.nil _)
  · obtain ⟨h1, h2, _⟩ := sgn_mem hne
    have h3 := (fits_iff s p _).1 h1
    exact any_ascii _ p h3.1 (fun j hj => by rw [h3.2 j hj]; exact (signs_plain _ h2 j hj).2)
/-- where the loop of Words stands -/
structure Stand (s : ByteArray) (a : List Wd) (f : Option (Nat × Nat)) (k p e : Nat) (A : List Wd) : Prop where
  at_ : pos s k = p
  oks : Oks s k
  rest : ∃ m B, A ++ B = a ∧ Lx s m B f ∧ RunTo anyC s p m ∧ ((p < e ∧ m = e) ∨ (e ≤ p ∧ m = p))
theorem Stand.zero {s : ByteArray} {a : List Wd} {f : Option (Nat × Nat)} (h : Lx s 0 a f) : Stand s a f 0 0 0 [] :=
  ⟨rfl, fun j hj => absurd hj (by omega), 0, a, rfl, h, .nil 0, .inr ⟨Nat.le_refl _, rfl⟩⟩
theorem Stand.le {s : ByteArray} {a : List Wd} {f : Option (Nat × Nat)} {k p e : Nat} {A : List Wd} (h : Stand s a f k p e A) : k ≤ p ∧ p ≤ s.size := by
  have := pos_ge s k h.oks.lt
  rw [h.at_] at this
  exact this
theorem Stand.cnt {s : ByteArray} {a : List Wd} {f : Option (Nat × Nat)} {k p e : Nat} {A : List Wd} (h : Stand s a f k p e A) : cnt (s.extract 0 p) = k := by
  have := cnt_cut s k h.oks.lt
  rw [h.at_] at this
  exact cnt_one (cnt_cnt _) this
theorem Stand.fin {s : ByteArray} {a : List Wd} {f : Option (Nat × Nat)} {k p e : Nat} {A : List Wd} (h : Stand s a f k p e A) (hp : ¬ p < s.size) : f = none ∧ A = a := by
  obtain ⟨m, B, hA, hL, hR, _⟩ := h.rest
  have hm := hR.le
  cases hL with
  | done _ => exact ⟨rfl, by rw [List.append_nil] at hA; exact hA⟩
  | blank a _ _ => omega
  | bad a _ => omega
  | word a _ _ => omega
theorem Stand.oks' {s : ByteArray} {k p : Nat} (h : pos s k = p) (ho : Oks s k) (hp : p < s.size) (hok : (rdS s p).2.2 = true) : pos s (k + 1) = p + (rdS s p).2.1 ∧ Oks s (k + 1) := by
  refine ⟨by rw [pos_succ, h], fun j hj => ?_⟩
  rcases Nat.lt_succ_iff_lt_or_eq.1 hj with hj | rfl
  · exact ho j hj
  · rw [h]; exact ⟨hp, hok⟩
theorem Stand.skip {s : ByteArray} {a : List Wd} {f : Option (Nat × Nat)} {k p e : Nat} {A : List Wd} (h : Stand s a f k p e A) (hp : p < s.size) (he : p < e) : Stand s a f (k + 1) (p + (rdS s p).2.1) e A := by
  obtain ⟨m, B, hA, hL, hR, hm⟩ := h.rest
  obtain rfl : m = e := by omega
  cases hR with
  | nil => omega
  | cons _ hok _ hR =>
    obtain ⟨h1, h2⟩ := Stand.oks' h.at_ h.oks hp hok
    refine ⟨h1, h2, m, B, hA, hL, hR, ?_⟩
    have := hR.le
    omega
theorem Stand.here {s : ByteArray} {a : List Wd} {f : Option (Nat × Nat)} {k p e : Nat} {A : List Wd} (h : Stand s a f k p e A) (he : e ≤ p) : ∃ B, A ++ B = a ∧ Lx s p B f := by
  obtain ⟨m, B, hA, hL, hR, hm⟩ := h.rest
  obtain rfl : m = p := by omega
  exact ⟨B, hA, hL⟩
theorem Stand.blank {s : ByteArray} {a : List Wd} {f : Option (Nat × Nat)} {k p e : Nat} {A : List Wd} (h : Stand s a f k p e A) (hp : p < s.size) (he : e ≤ p) (hb : blB ((rdS s p).1 : Nat) = true) : Stand s a f (k + 1) (p + (rdS s p).2.1) e A := by
  obtain ⟨B, hA, hL⟩ := h.here he
  have ht : tok s p = .blank := by unfold tok; rw [if_pos hb]
  have h1 := (blank_one hb).1
  have hbt := (blank_one hb).2
  have hok : (rdS s p).2.2 = true := by
    refine rd_ok s p (fun e => ?_)
    rw [e] at hb
    exact absurd hb (by decide)
  obtain ⟨h2, h3⟩ := Stand.oks' h.at_ h.oks hp hok
  refine ⟨h2, h3, p + 1, B, hA, ?_, by rw [h1]; exact .nil _, .inr ⟨by omega, by rw [h1]⟩⟩
  cases hL with
  | done _ => omega
  | blank _ _ k => exact k
  | bad _ c => rw [ht] at c; cases c
  | word _ c _ => rw [ht] at c; cases c
theorem Stand.bad {s : ByteArray} {a : List Wd} {f : Option (Nat × Nat)} {k p e c : Nat} {A : List Wd} (h : Stand s a f k p e A) (hp : p < s.size) (he : e ≤ p) (ht : tok s p = .bad c) : f = some (c, p) := by
  obtain ⟨B, hA, hL⟩ := h.here he
  cases hL with
  | done _ => omega
  | blank _ d _ => rw [ht] at d; cases d
  | bad _ d => rw [ht] at d; cases d; rfl
  | word _ d _ => rw [ht] at d; cases d
theorem Stand.word {s : ByteArray} {a : List Wd} {f : Option (Nat × Nat)} {k p e kd v q : Nat} {t : ByteArray} {A : List Wd} (h : Stand s a f k p e A) (hp : p < s.size) (he : e ≤ p) (ht : tok s p = .word kd t v q) : Stand s a f (k + 1) (p + (rdS s p).2.1) q (A ++ [⟨kd, t, v, p⟩]) := by
  obtain ⟨B, hA, hL⟩ := h.here he
  have hr := tok_any hp ht
  have hto := tok_to hp ht
  cases hL with
  | done _ => omega
  | blank _ d _ => rw [ht] at d; cases d
  | bad _ d => rw [ht] at d; cases d
  | word _ d l =>
    rw [ht] at d; cases d
    cases hr with
    | nil => omega
    | cons _ hok _ hr =>
      obtain ⟨h1, h2⟩ := Stand.oks' h.at_ h.oks hp hok
      refine ⟨h1, h2, q, _, by rw [List.append_assoc]; exact hA, l, hr, ?_⟩
      have := hr.le
      omega
theorem Stand.len {s : ByteArray} {a : List Wd} {f : Option (Nat × Nat)} {k p e : Nat} {A : List Wd} (h : Stand s a f k p e A) : A.length ≤ a.length := by
  obtain ⟨m, B, hA, _⟩ := h.rest
  rw [← hA, List.length_append]; omega
theorem Lx.len {s : ByteArray} {p : Nat} {ws : List Wd} {f : Option (Nat × Nat)} (h : Lx s p ws f) : ws.length ≤ s.size := by
  have key : ws.length + p ≤ s.size + p ∧ (p ≤ s.size → ws.length + p ≤ s.size) := by
    induction h with
    | done h => exact ⟨by simp, fun h => by simpa using h⟩
    | blank a b _ ih => exact ⟨by omega, fun _ => by omega⟩
    | bad a b => exact ⟨by simp, fun h => by simpa using h⟩
    | word a b _ ih => have := tok_to a b; rw [List.length_cons]; exact ⟨by omega, fun _ => by omega⟩
  omega
/-- a window of the text to its end -/
theorem sim_end (s : ByteArray) (p : Nat) (hp : p ≤ s.size) : Sim s p (s.extract p s.size) where
  size := by rw [size_win s p s.size (Nat.le_refl _)]; omega
  byte := fun j hj => by rw [size_win s p s.size (Nat.le_refl _)] at hj; rw [bt_win s p s.size j (Nat.le_refl _) (by omega)]
  stop := .inl (by rw [size_win s p s.size (Nat.le_refl _)]; omega)
theorem tok_end (s : ByteArray) (p : Nat) (hp : p < s.size) : tok s p = (tok (s.extract p s.size) 0).move p ∧ rdS (s.extract p s.size) 0 = rdS s p := by
  have hz := size_win s p s.size (Nat.le_refl _)
  have := tok_sim (sim_end s p (Nat.le_of_lt hp)) (p := 0) (by omega)
  have hr := rd_sim (sim_end s p (Nat.le_of_lt hp)) 0 (by omega)
  exact ⟨this, hr.symm⟩
theorem Tryz.infoWord : (Tryz.prog.info? 87).map (fun i => (i.zero, i.size, i.bytes)) = some (some (wordV 0 emp 0 0 0), 5, 48) := by kernel_rfl
theorem wp_pushW {ops : Array Oper} {rest : List Oper} {o : Oper} {a : Act} {Q : Exit → Act → World → Prop} (Wc : World) (base : Nat) (hgd : o.guard = none) (s x : Operand)
    (ho : o.op = .call { callee := .builtin .append, args := #[s, x], argTypes := #[54, 54] }) (v : Value) (n : Nat) (O : List FW) (hs : a.eval s = v) (g : Nat) (d : FW) (hx : a.eval x = .slice (some ⟨g, 0, none⟩) 1 1)
    (hown : Wc.ownsRow base 87 5 v n (O.flatMap FW.cells)) (hcell : ∀ i, i < 5 → Wc.cell? ⟨g, i, none⟩ = d.cells[i]?) (hbase : base ≤ Wc.heap.size) (hk : n ≤ 4096)
    (h : ∀ v' w', w'.ownsRow base 87 5 v' (n + 1) ((O ++ [d]).flatMap FW.cells) → Below base Wc w' → wpList Tryz.prog ops Q rest (a.put o.dst v') w') : wpList Tryz.prog ops Q (o :: rest) a Wc := by
  obtain ⟨i0, hi, hz0, hz1, hz2⟩ := info_parts Tryz.infoWord
  refine wpList_append_own _ hgd s x 54 ho base 87 i0 _ 5 48 Tryz.underlying54 hi hz0 hz1 hz2 rfl (by decide) _ n _ hs hown ⟨g, 0, none⟩ 1 1 d.cells hx rfl ?_ ?_ (by unfold maxLen; omega) (by omega) hbase ?_
  · intro j u hj
    have hj5 : j < 5 := by
      have := (List.getElem?_eq_some_iff.1 hj).1
      exact this
    have := hcell j hj5
    rw [hj] at this
    rcases Nat.eq_zero_or_pos j with rfl | hp
    · exact this
    · simpa [Addr.add, Nat.ne_of_gt hp] using this
  · intro u hu
    simp only [FW.cells, List.mem_cons, List.not_mem_nil, or_false] at hu
    rcases hu with rfl | rfl | rfl | rfl | rfl <;> rfl
  · intro v' w' h1 h2 _
    refine h v' w' (by rw [List.flatMap_append]; simpa using h1) ((Below.refl base Wc).grown h2 hbase ?_)
    intro q hq
    have := hown.lt q hq
    omega
end Go.Proofs.YtabfhdmcljdjhaaGreatDoor.Gl
