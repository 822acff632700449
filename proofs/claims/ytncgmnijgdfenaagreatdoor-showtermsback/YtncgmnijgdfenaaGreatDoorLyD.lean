/- Numbers as strconv.ParseInt reads them; number; nameOrReserved. -/
import Derived.Test.YtncgmnijgdfenaaGreatDoorTrB
import Derived.Test.YtncgmnijgdfenaaGreatDoorLyS
namespace Go.Proofs.YtncgmnijgdfenaaGreatDoor.Gl
open Go.RowKit
set_option linter.unusedVariables false

/-- the number that digits write -/
def dv (acc : Nat) : List UInt8 → Nat
  | [] => acc
  | c :: r => dv (acc * 10 + (c.toNat - 48)) r
theorem dv_le (l : List UInt8) (acc : Nat) : acc ≤ dv acc l := by
  induction l generalizing acc with
  | nil => exact Nat.le_refl _
  | cons c r ih => exact Nat.le_trans (by omega) (ih (acc * 10 + (c.toNat - 48)))
theorem dv_snoc (l : List UInt8) (c : UInt8) (acc : Nat) : dv acc (l ++ [c]) = 10 * dv acc l + (c.toNat - 48) := by
  induction l generalizing acc with
  | nil => show acc * 10 + (c.toNat - 48) = _; show _ = 10 * acc + _; omega
  | cons d r ih => exact ih _
theorem val_dv (s : ByteArray) : ∀ n, n ≤ s.size → valF s 0 n = dv 0 (s.data.toList.take n)
  | 0, _ => rfl
  | n + 1, h => by
    have hl : n < s.data.toList.length := by rw [← Lib.size_eq]; omega
    rw [valF, val_dv s n (by omega), List.take_succ_eq_append_getElem hl, dv_snoc, Nat.zero_add, bt_of s n (by omega)]
    rfl
theorem val_all (s : ByteArray) : valF s 0 s.size = dv 0 s.data.toList := by
  rw [val_dv s s.size (Nat.le_refl _), List.take_of_length_le (by rw [← Lib.size_eq]; exact Nat.le_refl _)]
theorem uint_dv (M : Nat) (hM : M ≤ 18446744073709551615) (l : List UInt8) (hl : ∀ c ∈ l, 48 ≤ c.toNat ∧ c.toNat ≤ 57) (acc : Nat) :
    (Lib.parseUintM M acc l = .ok (dv acc l)) ∨ (Lib.parseUintM M acc l = .range ∧ M < dv acc l) := by
  induction l generalizing acc with
  | nil => exact .inl rfl
  | cons c r ih =>
    have hc := hl c (List.mem_cons_self ..)
    rw [Lib.parseUintM, if_pos hc]
    have hle := dv_le r (acc * 10 + (c.toNat - 48))
    split
    · exact .inr ⟨rfl, by show M < dv _ r; omega⟩
    · split
      · exact .inr ⟨rfl, by show M < dv _ r; omega⟩
      · exact ih (fun d hd => hl d (List.mem_cons_of_mem _ hd)) _
def Digs (t : ByteArray) : Prop := 0 < t.size ∧ ∀ j, j < t.size → 48 ≤ bt t j ∧ bt t j ≤ 57
theorem digs_mem {t : ByteArray} (h : Digs t) : ∀ c ∈ t.data.toList, 48 ≤ c.toNat ∧ c.toNat ≤ 57 := by
  intro c hc
  obtain ⟨j, hj, rfl⟩ := List.getElem_of_mem hc
  have hj' : j < t.size := by rw [Lib.size_eq]; exact hj
  have := h.2 j hj'
  rw [bt_of t j hj'] at this
  exact this
theorem parse_digs {t : ByteArray} (h : Digs t) : (valF t 0 t.size ≤ 9223372036854775807 → Lib.parseIntB 64 t.data.toList = .ok ((valF t 0 t.size : Nat) : Int)) ∧ (9223372036854775807 < valF t 0 t.size → Lib.parseIntB 64 t.data.toList = .range) := by
  have hm := digs_mem h
  have hne : 0 < t.data.toList.length := by rw [← Lib.size_eq]; exact h.1
  rw [val_all]
  generalize t.data.toList = l at *
  cases l with
  | nil => simp at hne
  | cons c r =>
    have hc := hm c (List.mem_cons_self ..)
    rw [Lib.parseIntB_plain 64 c r (by omega) (by omega)]
    have e : Lib.parseUintB 64 (c :: r) = Lib.parseUintM 18446744073709551615 0 (c :: r) := rfl
    rw [e]
    have e2 : (2 : Nat) ^ (64 - 1) = 9223372036854775808 := by decide
    rw [e2]
    rcases uint_dv 18446744073709551615 (Nat.le_refl _) (c :: r) hm 0 with h1 | ⟨h1, h2⟩
    · rw [h1]
      constructor
      · intro hle
        show (if _ then _ else _) = _
        rw [if_neg (by omega)]
      · intro hlt
        show (if _ then _ else _) = _
        rw [if_pos (by omega)]
    · rw [h1]
      constructor
      · intro hle; omega
      · intro _; rfl
set_option maxHeartbeats 1000000 in
theorem number_ok (t : ByteArray) (v : Nat) (w : World) (hd : Digs t) (ht : t.size ≤ 4096) (hv : valF t 0 t.size = v) (h : v ≤ 9223372036854775807) :
    Calls Tryz.prog 75 #[.string t] w fun e w' => e = .returned (.tuple #[wordV 1 emp v 0 0, .int .i64 0]) ∧ Below w.heap.size w w' := by
  have PA : Hid (∀ w, Calls Tryz.prog 93 #[.string t, .int .i64 10, .int .i64 64] w fun e w' => e = .returned (.tuple #[.int .i64 (v : Int), .nilIface]) ∧ Below w.heap.size w w') := fun w =>
    (parse_lib_ok t (by omega) _ (by rw [(parse_digs hd).1 (by rw [hv]; exact h), hv]) w).mono fun e w' ⟨he, hw⟩ => ⟨he, by
      rcases hw with rfl | ⟨u, rfl⟩
      · exact Below.refl _ _
      · exact Lib.bytesWorld_below _ _ _⟩
  clear hv hd
  go_enter Tryz.func75, Tryz.ntmps75
  go_wp2_with (go_at_call 93; refine (PA.out _).mono ?_; rintro e w2 ⟨rfl, hB2⟩; obtain ⟨hc, hf⟩ := bcell hB2)
  refine bodyPost_ret (v := .tuple #[wordV 1 emp v 0 0, .int .i64 0]) (by simp [results, Tryz.results75, go_sem, hc]) rfl ⟨rfl, ?_⟩
  repeat refine Below.setCell ?_ (by simp) _
  exact ba2 hB2
set_option maxHeartbeats 1000000 in
theorem number_bad (t : ByteArray) (w : World) (hS : Sg w) (hd : Digs t) (ht : t.size ≤ 4096) (h : 9223372036854775807 < valF t 0 t.size) :
    Calls Tryz.prog 75 #[.string t] w fun e w' => e = .returned (.tuple #[wordV 0 emp 0 0 0, .int .i64 52]) ∧ Below w.heap.size w w' := by
  have PA : Hid (∀ w, Sg w → Calls Tryz.prog 93 #[.string t, .int .i64 10, .int .i64 64] w fun e w' => ∃ (z : Int) (N : Nat), e = .returned (.tuple #[.int .i64 z, .iface 162 (.pointer (some ⟨N, 0, none⟩))]) ∧ Below w.heap.size w w') := fun w hS => by
    obtain ⟨te, pe, hr⟩ := hS.range
    exact (parse_lib_range t (by omega) ((parse_digs hd).2 h) _ w hr (.inr ⟨te, pe, rfl⟩)).mono fun e w' ⟨N, he, _, _, hb⟩ => ⟨_, N, he, hb⟩
  clear hd h
  go_enter Tryz.func75, Tryz.ntmps75
  go_wp2_with (go_at_call 93; refine (PA.out _ (hS.alloc _)).mono ?_; rintro e w2 ⟨z, N, rfl, hB2⟩; obtain ⟨hc, hf⟩ := bcell hB2)
  refine bodyPost_ret (v := .tuple #[wordV 0 emp 0 0 0, .int .i64 52]) (by simp [results, Tryz.results75, go_sem, hc]) rfl ⟨rfl, ?_⟩
  repeat refine Below.setCell ?_ (by simp) _
  exact ba2 hB2
theorem clone_at (t : ByteArray) (w : World) (ht : t.size ≤ 4096) :
    Calls Tryz.prog 91 #[.string t] w fun e w' => e = .returned (.string t) ∧ Below w.heap.size w w' := by
  have K : Hid (∀ w, Calls Tryz.prog 100 #[.string t] w fun e w' => e = .returned (.string t) ∧ Below w.heap.size w w') := fun w => clone_lib t w (by omega)
  go_enter Tryz.func91, Tryz.ntmps91
  go_wp2_with (go_at_call 100; refine (K.out _).mono ?_; rintro e w2 ⟨rfl, hB2⟩)
  go_ret
  exact ⟨rfl, hB2⟩
set_option maxHeartbeats 1000000 in
theorem name_sign (t : ByteArray) (w : World) (ht : t.size ≤ 4096) (h : rsB t = true) :
    Calls Tryz.prog 73 #[.string t] w fun e w' => e = .returned (.tuple #[wordV 2 t 0 0 0, .int .i64 0]) ∧ Below w.heap.size w w' := by
  have CL : Hid (∀ w, Calls Tryz.prog 91 #[.string t] w fun e w' => e = .returned (.string t) ∧ Below w.heap.size w w') := fun w => clone_at t w ht
  have RS : Hid (∀ w, Calls Tryz.prog 92 #[.string t] w fun e w' => e = .returned (.bool true) ∧ w = w') := fun w => by rw [← h]; exact reserved_at t w
  have SG : Hid (∀ w, Calls Tryz.prog 77 #[.string t] w fun e w' => e = .returned (wordV 2 t 0 0 0) ∧ Below w.heap.size w w') := fun w => sign_at t w
  clear h
  go_enter Tryz.func73, Tryz.ntmps73
  go_wp2_with (first
    | (go_at_call 91; refine (CL.out _).mono ?_; rintro e w2 ⟨rfl, hB2⟩; obtain ⟨hc, hf⟩ := bcell hB2)
    | (go_at_call 92; refine (RS.out _).mono ?_; rintro e w3 ⟨rfl, rfl⟩)
    | (go_at_call 77; refine (SG.out _).mono ?_; rintro e w4 ⟨rfl, hB4⟩; obtain ⟨hc4, hf4⟩ := bcell (bt2 hB2 hB4)))
  refine bodyPost_ret (v := .tuple #[wordV 2 t 0 0 0, .int .i64 0]) (by simp [results, Tryz.results73, go_sem, hc4]) rfl ⟨rfl, ?_⟩
  repeat refine Below.setCell ?_ (by simp) _
  exact ba2 (bt2 hB2 hB4)
set_option maxHeartbeats 1000000 in
theorem name_name (t : ByteArray) (w : World) (ht : t.size ≤ 4096) (h : rsB t = false) (k c : Nat) (x : ByteArray) (b : Bool) (hb : b = true ↔ IsName t) (hx : (b = true ∧ x = t ∧ c = 0) ∨ (b = false ∧ x = emp ∧ c = 6)) :
    Calls Tryz.prog 73 #[.string t] w fun e w' => e = .returned (.tuple #[wordV 0 x 0 0 0, .int .i64 c]) ∧ Below w.heap.size w w' := by
  have CL : Hid (∀ w, Calls Tryz.prog 91 #[.string t] w fun e w' => e = .returned (.string t) ∧ Below w.heap.size w w') := fun w => clone_at t w ht
  have RS : Hid (∀ w, Calls Tryz.prog 92 #[.string t] w fun e w' => e = .returned (.bool false) ∧ w = w') := fun w => by rw [← h]; exact reserved_at t w
  have NM : Hid (∀ w, Calls Tryz.prog 86 #[.string t] w fun e w' => e = .returned (.bool b) ∧ Below w.heap.size w w') := fun w => name_at t b w (by omega) hb
  clear h hb
  rcases hx with ⟨rfl, rfl, rfl⟩ | ⟨rfl, rfl, rfl⟩
  · go_enter Tryz.func73, Tryz.ntmps73
    go_wp2_with (first
      | (go_at_call 91; refine (CL.out _).mono ?_; rintro e w2 ⟨rfl, hB2⟩; obtain ⟨hc, hf⟩ := bcell hB2)
      | (go_at_call 92; refine (RS.out _).mono ?_; rintro e w3 ⟨rfl, rfl⟩)
      | (go_at_call 86; refine (NM.out _).mono ?_; rintro e w4 ⟨rfl, hB4⟩; obtain ⟨hc4, hf4⟩ := bcell (bt2 hB2 hB4)))
    refine bodyPost_ret (v := .tuple #[wordV 0 x 0 0 0, .int .i64 0]) (by simp [results, Tryz.results73, go_sem, hc4]) rfl ⟨rfl, ?_⟩
    repeat refine Below.setCell ?_ (by simp) _
    exact ba2 (bt2 hB2 hB4)
  · go_enter Tryz.func73, Tryz.ntmps73
    go_wp2_with (first
      | (go_at_call 91; refine (CL.out _).mono ?_; rintro e w2 ⟨rfl, hB2⟩; obtain ⟨hc, hf⟩ := bcell hB2)
      | (go_at_call 92; refine (RS.out _).mono ?_; rintro e w3 ⟨rfl, rfl⟩)
      | (go_at_call 86; refine (NM.out _).mono ?_; rintro e w4 ⟨rfl, hB4⟩; obtain ⟨hc4, hf4⟩ := bcell (bt2 hB2 hB4)))
    refine bodyPost_ret (v := .tuple #[wordV 0 emp 0 0 0, .int .i64 6]) (by simp [results, Tryz.results73, go_sem, hc4]) rfl ⟨rfl, ?_⟩
    repeat refine Below.setCell ?_ (by simp) _
    exact ba2 (bt2 hB2 hB4)
end Go.Proofs.YtncgmnijgdfenaaGreatDoor.Gl
/- longestSign. -/
namespace Go.Proofs.YtncgmnijgdfenaaGreatDoor.Gl
open Go.RowKit
set_option linter.unusedVariables false

theorem ix_at (i : Nat) (hi : i < 18) : ∃ x : ByteArray, allSigns[i]? = some x ∧ ∀ w, (Instr.index 141 (.agg sgnArr) (.int .i64 ((i : Nat) : Int))).run Tryz.prog w = .ok (.string x) w := by
  match i, hi with
  | 0, _ => exact ⟨_, rfl, fun w => by kernel_rfl⟩
  | 1, _ => exact ⟨_, rfl, fun w => by kernel_rfl⟩
  | 2, _ => exact ⟨_, rfl, fun w => by kernel_rfl⟩
  | 3, _ => exact ⟨_, rfl, fun w => by kernel_rfl⟩
  | 4, _ => exact ⟨_, rfl, fun w => by kernel_rfl⟩
  | 5, _ => exact ⟨_, rfl, fun w => by kernel_rfl⟩
  | 6, _ => exact ⟨_, rfl, fun w => by kernel_rfl⟩
  | 7, _ => exact ⟨_, rfl, fun w => by kernel_rfl⟩
  | 8, _ => exact ⟨_, rfl, fun w => by kernel_rfl⟩
  | 9, _ => exact ⟨_, rfl, fun w => by kernel_rfl⟩
  | 10, _ => exact ⟨_, rfl, fun w => by kernel_rfl⟩
  | 11, _ => exact ⟨_, rfl, fun w => by kernel_rfl⟩
  | 12, _ => exact ⟨_, rfl, fun w => by kernel_rfl⟩
  | 13, _ => exact ⟨_, rfl, fun w => by kernel_rfl⟩
  | 14, _ => exact ⟨_, rfl, fun w => by kernel_rfl⟩
  | 15, _ => exact ⟨_, rfl, fun w => by kernel_rfl⟩
  | 16, _ => exact ⟨_, rfl, fun w => by kernel_rfl⟩
  | 17, _ => exact ⟨_, rfl, fun w => by kernel_rfl⟩
  | n + 18, h => exact absurd h (by omega)
theorem drop_sign {k : Nat} {x : ByteArray} (h : allSigns[k]? = some x) : allSigns.drop k = x :: allSigns.drop (k + 1) := by
  obtain ⟨hk, rfl⟩ := List.getElem?_eq_some_iff.1 h
  exact List.drop_eq_getElem_cons hk
theorem sgn_size : sgnArr.size = 18 := rfl
set_option maxHeartbeats 2000000 in
theorem longest_at (u : ByteArray) (w : World) (hS : Sg w) (hu : u.size ≤ 9223372036854775807) :
    Calls Tryz.prog 78 #[.string u] w fun e w' => e = .returned (.string (sgn u 0)) ∧ w = w' := by
  have HP : Hid (∀ (x : ByteArray) w, Calls Tryz.prog 69 #[.string u, .string x] w fun e w' => e = .returned (.bool (fits u 0 x)) ∧ w = w') := fun x w => hasprefix_at u x w hu
  obtain ⟨tt, fr, hg⟩ := hS.signs
  have IX : Hid (∀ i : Nat, i < 18 → ∃ x : ByteArray, allSigns[i]? = some x ∧ ∀ w, (Instr.index 141 (.agg sgnArr) (.int .i64 ((i : Nat) : Int))).run Tryz.prog w = .ok (.string x) w) := ix_at
  have hsz : (Tryz.prog.info? 141).map (·.size) = some sgnArr.size := by kernel_rfl
  generalize sgnArr = A at hg IX hsz
  have H0 : Hid (longest u 0 (allSigns.drop 0) emp = sgn u 0) := rfl
  clear hS
  go_enter Tryz.func78, Tryz.ntmps78
  go_wp2_with (refine wpList_load_row rfl 141 _ rfl 0 rfl tt A fr _ hg Tryz.underlying141 rfl hsz ?_)
  go_loopw [3, 7] (fun b i wr => ∃ (k : Nat) (x : ByteArray), k ≤ 18 ∧ b = .string x ∧ i = .int .i64 k ∧ wr = w ∧ Hid (longest u 0 (allSigns.drop k) x = sgn u 0)) (fun _ i _ => 18 - (intOf i).toNat)
  case atStart => exact ⟨0, emp, by omega, rfl, rfl, rfl, H0⟩
  case round =>
    obtain ⟨k, b, hk, rfl, rfl, rfl, HL⟩ := hrel
    by_cases hlt : k < 18
    · obtain ⟨x, hx, hix⟩ := IX.out k hlt
      have HLx : Hid (longest u 0 (allSigns.drop (k + 1)) (if (fits u 0 x && decide (b.size < x.size)) = true then x else b) = sgn u 0) := by
        have := HL.out
        rw [drop_sign hx] at this
        exact this
      have P0 : Hid (∀ w, Calls Tryz.prog 69 #[.string u, .string x] w fun e w' => e = .returned (.bool (fits u 0 x)) ∧ w = w') := HP.out x
      have hlt' : (k : Int) < 18 := by omega
      clear HP HL hx IX H0 hg
      by_cases hgt : b.size < x.size
      · cases hf : fits u 0 x with
        | true =>
          rw [hf] at P0
          have HN : Hid (longest u 0 (allSigns.drop (k + 1)) x = sgn u 0) := by
            have := HLx.out
            rwa [hf, decide_eq_true hgt, if_pos (by decide)] at this
          clear HLx hf
          go_wp2_with (go_at_call 69; refine (P0.out _).mono ?_; rintro e w2 ⟨rfl, rfl⟩)
          go_roundw
          case rel => exact ⟨k + 1, x, by omega, rfl, by go_num, trivial, HN⟩
          case measure => simp [intOf]; omega
        | false =>
          rw [hf] at P0
          have HN : Hid (longest u 0 (allSigns.drop (k + 1)) b = sgn u 0) := by
            have := HLx.out
            rwa [hf, if_neg (by simp)] at this
          clear HLx hf
          go_wp2_with (go_at_call 69; refine (P0.out _).mono ?_; rintro e w2 ⟨rfl, rfl⟩)
          go_roundw
          case rel => exact ⟨k + 1, b, by omega, rfl, by go_num, trivial, HN⟩
          case measure => simp [intOf]; omega
      · have hgt' : decide (b.size < x.size) = false := decide_eq_false hgt
        have HN : Hid (longest u 0 (allSigns.drop (k + 1)) b = sgn u 0) := by
          have := HLx.out
          rwa [hgt', Bool.and_false, if_neg (by decide)] at this
        clear HLx P0
        go_wp2
        go_roundw
        case rel => exact ⟨k + 1, b, by omega, rfl, by go_num, trivial, HN⟩
        case measure => simp [intOf]; omega
    · have HE : Hid (b = sgn u 0) := by
        have := HL.out
        rw [show k = 18 by omega] at this
        exact this
      have hlt' : decide ((k : Int) < 18) = false := decide_eq_false (by omega)
      clear HL IX HP H0 hg
      go_wp2
      go_ret
      exact ⟨congrArg (fun x => Ending.returned (.string x)) HE.out, rfl⟩
end Go.Proofs.YtncgmnijgdfenaaGreatDoor.Gl
/- firstWord. -/
namespace Go.Proofs.YtncgmnijgdfenaaGreatDoor.Gl
open Go.RowKit
set_option linter.unusedVariables false

/- how many bytes a character takes -/
def wdF (c : Nat) : Nat := if c < 128 then 1 else if c < 2048 then 2 else if c < 65536 then 3 else 4
theorem wd_is {s : ByteArray} {p : Nat} (h : (rdS s p).2.2 = true) : (rdS s p).2.1 = wdF (rdS s p).1 := by
  by_cases h1 : bt s p < 128
  · rw [rd_one s p h1]; show 1 = wdF (bt s p); rw [wdF, if_pos h1]
  · by_cases h2 : (128 ≤ bt s p ∧ bt s p < 194) ∨ 245 ≤ bt s p
    · rw [rd_bad0 s p h2] at h; cases h
    · by_cases h3 : bt s p < 224
      · rw [rd_two s p (by omega)] at h ⊢
        split at h
        · rename_i hc
          rw [if_pos hc]
          have e : accB s p (bt s p - 192) 1 = (bt s p - 192) * 64 + (bt s (p + 1) - 128) := rfl
          have hb := hc.2.1 0 (by omega)
          have := hc.2.2.1
          show 2 = wdF (accB s p (bt s p - 192) 1)
          rw [wdF, if_neg (by omega), if_pos (by rw [e]; simp only [Nat.zero_add] at hb; omega)]
        · cases h
      · by_cases h4 : bt s p < 240
        · rw [rd_three s p (by omega)] at h ⊢
          split at h
          · rename_i hc
            rw [if_pos hc]
            have e : accB s p (bt s p - 224) 2 = ((bt s p - 224) * 64 + (bt s (p + 1) - 128)) * 64 + (bt s (p + 2) - 128) := rfl
            have hb := hc.2.1 0 (by omega)
            have hb' := hc.2.1 1 (by omega)
            have := hc.2.2.1
            show 3 = wdF (accB s p (bt s p - 224) 2)
            rw [wdF, if_neg (by omega), if_neg (by omega), if_pos (by rw [e]; simp only [Nat.zero_add] at hb; simp only [Nat.reduceAdd] at hb'; omega)]
          · cases h
        · rw [rd_four s p (by omega)] at h ⊢
          split at h
          · rename_i hc
            rw [if_pos hc]
            have := hc.2.2.1
            show 4 = wdF (accB s p (bt s p - 240) 3)
            rw [wdF, if_neg (by omega), if_neg (by omega), if_neg (by omega)]
          · cases h
theorem enc_marks : ∀ m ∈ marks, (Utf8.encode m).size = wdF m.toNat := by decide +kernel
/- names -/
theorem pos_le (s : ByteArray) (j k : Nat) (h : j ≤ k) : pos s j ≤ pos s k := by
  induction h with
  | refl => exact Nat.le_refl _
  | step _ ih => rw [pos_succ]; omega
theorem RunTo.posn {P : Nat → Bool} {s : ByteArray} {p e : Nat} (h : RunTo P s p e) : ∀ k, pos s k = p → ∀ j, k ≤ j → pos s j < e → (rdS s (pos s j)).2.2 = true ∧ P (rdS s (pos s j)).1 = true := by
  induction h with
  | nil p =>
    intro k hk j hj hlt
    have := pos_le s k j hj
    omega
  | cons a b c _ ih =>
    intro k hk j hj hlt
    rcases Nat.lt_or_eq_of_le hj with hj | rfl
    · exact ih (k + 1) (by rw [pos_succ, hk]) j hj hlt
    · rw [hk]; exact ⟨b, c⟩
theorem nm_iff {t : ByteArray} (h : RunTo reN t 0 t.size) (h0 : 0 < t.size) (hst : stB ((rdS t 0).1 : Nat) = true) (hr : rsB t = false) : (decide (cnt t ≤ 16) = true ↔ IsName t) := by
  rw [decide_eq_true_eq]
  have hc := cnt_cnt t
  constructor
  · intro hle
    refine ⟨⟨cnt t, hc, ?_, hle, fun j hj => ?_⟩, hr⟩
    · rcases Nat.eq_zero_or_pos (cnt t) with e | e
      · rw [e] at hc
        have : (0 : Nat) = t.size := hc.1
        omega
      · exact e
    · have hlt := hc.2 j hj
      obtain ⟨a, b⟩ := h.posn 0 rfl j (Nat.zero_le _) hlt
      exact ⟨hlt, a, b, fun e => by subst e; exact hst⟩
  · rintro ⟨⟨n, hn, _, hle, _⟩, _⟩
    rw [cnt_one hc hn]
    exact hle
theorem ne_emp {x : ByteArray} (h : x ≠ emp) : (x.toList == []) = false := by
  cases hb : (x.toList == []) with
  | false => rfl
  | true => exact absurd (toList_inj (by simpa using hb)) h
set_option maxHeartbeats 2000000 in
theorem fw_st (u : ByteArray) (w : World) (r k c q : Nat) (x : ByteArray) (hu : u.size ≤ 4096) (hst : stB (r : Nat) = true) (hq : run reN u 0 = q) (hqs : q ≤ u.size)
    (hN : ∀ w, Calls Tryz.prog 73 #[.string (u.extract 0 q)] w fun e w' => e = .returned (.tuple #[wordV k x 0 0 0, .int .i64 c]) ∧ Below w.heap.size w w') :
    Calls Tryz.prog 55 #[.string u, .int .i32 r] w fun e w' => e = .returned (.tuple #[wordV k x 0 0 0, .int .i64 q, .int .i64 c]) ∧ Below w.heap.size w w' := by
  have ST : Hid (∀ w, Calls Tryz.prog 70 #[.int .i32 r] w fun e w' => e = .returned (.bool true) ∧ w = w') := fun w => by rw [← hst]; exact start_at _ w
  have RU : Hid (∀ w, Calls Tryz.prog 71 #[.string u, .func (.func 72) #[] #[]] w fun e w' => e = .returned (.string (u.extract 0 q)) ∧ Below w.heap.size w w') := fun w => by rw [← hq]; exact runre_at u w (by omega)
  have NN : Hid _ := hN
  have hz : (u.extract 0 q).size = q := size_win u 0 q hqs
  generalize u.extract 0 q = t at *
  clear hst hq hN
  go_enter Tryz.func55, Tryz.ntmps55
  go_wp2_with (first
    | (go_at_call 70; refine (ST.out _).mono ?_; rintro e w2 ⟨rfl, rfl⟩)
    | (go_at_call 71; refine (RU.out _).mono ?_; rintro e w3 ⟨rfl, hB3⟩)
    | (go_at_call 73; refine (NN.out _).mono ?_; rintro e w4 ⟨rfl, hB4⟩; obtain ⟨hc4, hf4, hd4, he4⟩ := res_keep (bt2 hB3 hB4)))
  refine bodyPost_ret (v := .tuple #[wordV k x 0 0 0, .int .i64 q, .int .i64 c]) (by simp [results, Tryz.results55, go_sem, hc4]) rfl ⟨rfl, ?_⟩
  repeat refine Below.setCell ?_ (by simp) _
  exact bta (ba2 (bt2 hB3 hB4)) _
set_option maxHeartbeats 2000000 in
theorem fw_dig (u : ByteArray) (w : World) (hS : Sg w) (r k c q v : Nat) (x : ByteArray) (hu : u.size ≤ 4096) (hst : stB (r : Nat) = false) (hdg : isDig r = true) (hq : run isDig u 0 = q) (hqs : q ≤ u.size)
    (hN : ∀ w, Sg w → Calls Tryz.prog 75 #[.string (u.extract 0 q)] w fun e w' => e = .returned (.tuple #[wordV k x v 0 0, .int .i64 c]) ∧ Below w.heap.size w w') :
    Calls Tryz.prog 55 #[.string u, .int .i32 r] w fun e w' => e = .returned (.tuple #[wordV k x v 0 0, .int .i64 q, .int .i64 c]) ∧ Below w.heap.size w w' := by
  have ST : Hid (∀ w, Calls Tryz.prog 70 #[.int .i32 r] w fun e w' => e = .returned (.bool false) ∧ w = w') := fun w => by rw [← hst]; exact start_at _ w
  have DG : Hid (∀ w, Calls Tryz.prog 74 #[.int .i32 r] w fun e w' => e = .returned (.bool true) ∧ w = w') := fun w => by rw [← hdg]; exact isdig_at _ w
  have RU : Hid (∀ w, Calls Tryz.prog 71 #[.string u, .func (.func 74) #[] #[]] w fun e w' => e = .returned (.string (u.extract 0 q)) ∧ Below w.heap.size w w') := fun w => by rw [← hq]; exact rundig_at u w (by omega)
  have NN : Hid _ := hN
  have hz : (u.extract 0 q).size = q := size_win u 0 q hqs
  generalize u.extract 0 q = t at *
  clear hst hq hN hdg
  go_enter Tryz.func55, Tryz.ntmps55
  go_wp2_with (first
    | (go_at_call 70; refine (ST.out _).mono ?_; rintro e w2 ⟨rfl, rfl⟩)
    | (go_at_call 74; refine (DG.out _).mono ?_; rintro e w2 ⟨rfl, rfl⟩)
    | (go_at_call 71; refine (RU.out _).mono ?_; rintro e w3 ⟨rfl, hB3⟩; have hS3 := (hS.alloc _).below hB3)
    | (go_at_call 75; refine (NN.out _ hS3).mono ?_; rintro e w4 ⟨rfl, hB4⟩; obtain ⟨hc4, hf4, hd4, he4⟩ := res_keep (bt2 hB3 hB4)))
  refine bodyPost_ret (v := .tuple #[wordV k x v 0 0, .int .i64 q, .int .i64 c]) (by simp [results, Tryz.results55, go_sem, hc4]) rfl ⟨rfl, ?_⟩
  repeat refine Below.setCell ?_ (by simp) _
  exact bta (ba2 (bt2 hB3 hB4)) _
set_option maxHeartbeats 2000000 in
theorem fw_plain (u : ByteArray) (w : World) (r q : Nat) (x : ByteArray) (hu : u.size ≤ 4096) (hst : stB (r : Nat) = false) (hdg : isDig r = false) (hx : plB (r : Nat) = x) (hne : x ≠ emp) (hq : (Utf8.encode (r : Nat)).size = q) :
    Calls Tryz.prog 55 #[.string u, .int .i32 r] w fun e w' => e = .returned (.tuple #[wordV 2 x 0 0 0, .int .i64 q, .int .i64 0]) ∧ Below w.heap.size w w' := by
  have ST : Hid (∀ w, Calls Tryz.prog 70 #[.int .i32 r] w fun e w' => e = .returned (.bool false) ∧ w = w') := fun w => by rw [← hst]; exact start_at _ w
  have DG : Hid (∀ w, Calls Tryz.prog 74 #[.int .i32 r] w fun e w' => e = .returned (.bool false) ∧ w = w') := fun w => by rw [← hdg]; exact isdig_at _ w
  have PL : Hid (∀ w, Calls Tryz.prog 76 #[.int .i32 r] w fun e w' => e = .returned (.string x) ∧ w = w') := fun w => by rw [← hx]; exact plain_at _ w
  have SG : Hid (∀ w, Calls Tryz.prog 77 #[.string x] w fun e w' => e = .returned (wordV 2 x 0 0 0) ∧ Below w.heap.size w w') := fun w => sign_at x w
  have hn1 : (x.toList == []) = false := ne_emp hne
  clear hst hdg hx hne
  go_enter Tryz.func55, Tryz.ntmps55
  go_wp2_with (first
    | (go_at_call 70; refine (ST.out _).mono ?_; rintro e w2 ⟨rfl, rfl⟩)
    | (go_at_call 74; refine (DG.out _).mono ?_; rintro e w2 ⟨rfl, rfl⟩)
    | (go_at_call 76; refine (PL.out _).mono ?_; rintro e w2 ⟨rfl, rfl⟩)
    | (go_at_call 77; refine (SG.out _).mono ?_; rintro e w4 ⟨rfl, hB4⟩; obtain ⟨hc4, hf4, hd4, he4⟩ := res_keep hB4))
  refine bodyPost_ret (v := .tuple #[wordV 2 x 0 0 0, .int .i64 q, .int .i64 0]) (by simp [results, Tryz.results55, go_sem, hd4]) rfl ⟨rfl, ?_⟩
  repeat refine Below.setCell ?_ (by simp) _
  exact ba2 hB4
set_option maxHeartbeats 2000000 in
theorem fw_sign (u : ByteArray) (w : World) (hS : Sg w) (r : Nat) (x : ByteArray) (hu : u.size ≤ 4096) (hst : stB (r : Nat) = false) (hdg : isDig r = false) (hpl : plB (r : Nat) = emp) (hx : sgn u 0 = x) (hne : x ≠ emp) :
    Calls Tryz.prog 55 #[.string u, .int .i32 r] w fun e w' => e = .returned (.tuple #[wordV 2 x 0 0 0, .int .i64 x.size, .int .i64 0]) ∧ Below w.heap.size w w' := by
  have ST : Hid (∀ w, Calls Tryz.prog 70 #[.int .i32 r] w fun e w' => e = .returned (.bool false) ∧ w = w') := fun w => by rw [← hst]; exact start_at _ w
  have DG : Hid (∀ w, Calls Tryz.prog 74 #[.int .i32 r] w fun e w' => e = .returned (.bool false) ∧ w = w') := fun w => by rw [← hdg]; exact isdig_at _ w
  have PL : Hid (∀ w, Calls Tryz.prog 76 #[.int .i32 r] w fun e w' => e = .returned (.string emp) ∧ w = w') := fun w => by rw [← hpl]; exact plain_at _ w
  have LS : Hid (∀ w, Sg w → Calls Tryz.prog 78 #[.string u] w fun e w' => e = .returned (.string x) ∧ w = w') := fun w h => by rw [← hx]; exact longest_at u w h (by omega)
  have SG : Hid (∀ w, Calls Tryz.prog 77 #[.string x] w fun e w' => e = .returned (wordV 2 x 0 0 0) ∧ Below w.heap.size w w') := fun w => sign_at x w
  have hn1 : (x.toList == []) = false := ne_emp hne
  clear hst hdg hx hne hpl
  go_enter Tryz.func55, Tryz.ntmps55
  go_wp2_with (first
    | (go_at_call 70; refine (ST.out _).mono ?_; rintro e w2 ⟨rfl, rfl⟩)
    | (go_at_call 74; refine (DG.out _).mono ?_; rintro e w2 ⟨rfl, rfl⟩)
    | (go_at_call 76; refine (PL.out _).mono ?_; rintro e w2 ⟨rfl, rfl⟩)
    | (go_at_call 78; refine (LS.out _ (hS.alloc _)).mono ?_; rintro e w2 ⟨rfl, rfl⟩)
    | (go_at_call 77; refine (SG.out _).mono ?_; rintro e w4 ⟨rfl, hB4⟩; obtain ⟨hc4, hf4, hd4, he4⟩ := res_keep hB4))
  refine bodyPost_ret (v := .tuple #[wordV 2 x 0 0 0, .int .i64 x.size, .int .i64 0]) (by simp [results, Tryz.results55, go_sem, hd4]) rfl ⟨rfl, ?_⟩
  repeat refine Below.setCell ?_ (by simp) _
  exact ba2 hB4
set_option maxHeartbeats 2000000 in
theorem fw_none (u : ByteArray) (w : World) (hS : Sg w) (r : Nat) (hu : u.size ≤ 4096) (hst : stB (r : Nat) = false) (hdg : isDig r = false) (hpl : plB (r : Nat) = emp) (hx : sgn u 0 = emp) :
    Calls Tryz.prog 55 #[.string u, .int .i32 r] w fun e w' => e = .returned (.tuple #[wordV 0 emp 0 0 0, .int .i64 0, .int .i64 51]) ∧ Below w.heap.size w w' := by
  have ST : Hid (∀ w, Calls Tryz.prog 70 #[.int .i32 r] w fun e w' => e = .returned (.bool false) ∧ w = w') := fun w => by rw [← hst]; exact start_at _ w
  have DG : Hid (∀ w, Calls Tryz.prog 74 #[.int .i32 r] w fun e w' => e = .returned (.bool false) ∧ w = w') := fun w => by rw [← hdg]; exact isdig_at _ w
  have PL : Hid (∀ w, Calls Tryz.prog 76 #[.int .i32 r] w fun e w' => e = .returned (.string emp) ∧ w = w') := fun w => by rw [← hpl]; exact plain_at _ w
  have LS : Hid (∀ w, Sg w → Calls Tryz.prog 78 #[.string u] w fun e w' => e = .returned (.string emp) ∧ w = w') := fun w h => by rw [← hx]; exact longest_at u w h (by omega)
  clear hst hdg hx hpl
  go_enter Tryz.func55, Tryz.ntmps55
  go_wp2_with (first
    | (go_at_call 70; refine (ST.out _).mono ?_; rintro e w2 ⟨rfl, rfl⟩)
    | (go_at_call 74; refine (DG.out _).mono ?_; rintro e w2 ⟨rfl, rfl⟩)
    | (go_at_call 76; refine (PL.out _).mono ?_; rintro e w2 ⟨rfl, rfl⟩)
    | (go_at_call 78; refine (LS.out _ (hS.alloc _)).mono ?_; rintro e w2 ⟨rfl, rfl⟩))
  refine bodyPost_ret (v := .tuple #[wordV 0 emp 0 0 0, .int .i64 0, .int .i64 51]) (by simp [results, Tryz.results55, go_sem]) rfl ⟨rfl, ?_⟩
  repeat refine Below.setCell ?_ (by simp) _
  exact bta (Below.refl _ _) _
end Go.Proofs.YtncgmnijgdfenaaGreatDoor.Gl
