/- Numbers as strconv.ParseInt reads them; number; nameOrReserved. -/
import Derived.Test.YtabfhdmcljdjhaaDoorLyA
import Derived.Test.YtabfhdmcljdjhaaDoorLyS
import Derived.WalkSmall
import Derived.Laws.AppendOwnNone
import Derived.Laws.StructEq
namespace Go.Proofs.YtabfhdmcljdjhaaDoor.Gl
open Go.RowKit
set_option linter.unusedVariables false

/-- the number that digits write -/
def dv (acc : Nat) : List UInt8 → Nat
  | [] => acc
  | c :: r => dv (acc * 10 + (c.toNat - 48)) r
theorem dv_le (l : List UInt8) (acc : Nat) : acc ≤ dv acc l := by
  induction l generalizing acc with
  | nil => exact Nat.le_refl _
  | cons c r ih => exact Nat.le_trans (by omega) (ih (acc * 10 + (c.toNat - 48)))
theorem dv_snoc (l : List UInt8) (c : UInt8) (acc : Nat) : dv acc (l ++ [c]) = 10 * dv acc l + (c.toNat - 48) := by
  induction l generalizing acc with
  | nil => show acc * 10 + (c.toNat - 48) = _; show _ = 10 * acc + _; omega
  | cons d r ih => exact ih _
theorem val_dv (s : ByteArray) : ∀ n, n ≤ s.size → valF s 0 n = dv 0 (s.data.toList.take n)
  | 0, _ => rfl
  | n + 1, h => by
    have hl : n < s.data.toList.length := by rw [← Lib.size_eq]; omega
    rw [valF, val_dv s n (by omega), List.take_succ_eq_append_getElem hl, dv_snoc, Nat.zero_add, bt_of s n (by omega)]
    rfl
theorem val_all (s : ByteArray) : valF s 0 s.size = dv 0 s.data.toList := by
  rw [val_dv s s.size (Nat.le_refl _), List.take_of_length_le (by rw [← Lib.size_eq]; exact Nat.le_refl _)]
theorem uint_dv (M : Nat) (hM : M ≤ 18446744073709551615) (l : List UInt8) (hl : ∀ c ∈ l, 48 ≤ c.toNat ∧ c.toNat ≤ 57) (acc : Nat) :
    (Lib.parseUintM M acc l = .ok (dv acc l)) ∨ (Lib.parseUintM M acc l = .range ∧ M < dv acc l) := by
  induction l generalizing acc with
  | nil => exact .inl rfl
  | cons c r ih =>
    have hc := hl c (List.mem_cons_self ..)
    rw [Lib.parseUintM, if_pos hc]
    have hle := dv_le r (acc * 10 + (c.toNat - 48))
    split
    · exact .inr ⟨rfl, by show M < dv _ r; omega⟩
    · split
      · exact .inr ⟨rfl, by show M < dv _ r; omega⟩
      · exact ih (fun d hd => hl d (List.mem_cons_of_mem _ hd)) _
def Digs (t : ByteArray) : Prop := 0 < t.size ∧ ∀ j, j < t.size → 48 ≤ bt t j ∧ bt t j ≤ 57
theorem digs_mem {t : ByteArray} (h : Digs t) : ∀ c ∈ t.data.toList, 48 ≤ c.toNat ∧ c.toNat ≤ 57 := by
  intro c hc
  obtain ⟨j, hj, rfl⟩ := List.getElem_of_mem hc
  have hj' : j < t.size := by rw [Lib.size_eq]; exact hj
  have := h.2 j hj'
  rw [bt_of t j hj'] at this
  exact this
theorem parse_digs {t : ByteArray} (h : Digs t) : (valF t 0 t.size ≤ 9223372036854775807 → Lib.parseIntB 64 t.data.toList = .ok ((valF t 0 t.size : Nat) : Int)) ∧ (9223372036854775807 < valF t 0 t.size → Lib.parseIntB 64 t.data.toList = .range) := by
  have hm := digs_mem h
  have hne : 0 < t.data.toList.length := by rw [← Lib.size_eq]; exact h.1
  rw [val_all]
  generalize t.data.toList = l at *
  cases l with
  | nil => simp at hne
  | cons c r =>
    have hc := hm c (List.mem_cons_self ..)
    rw [Lib.parseIntB_plain 64 c r (by omega) (by omega)]
    have e : Lib.parseUintB 64 (c :: r) = Lib.parseUintM 18446744073709551615 0 (c :: r) := rfl
    rw [e]
    have e2 : (2 : Nat) ^ (64 - 1) = 9223372036854775808 := by decide
    rw [e2]
    rcases uint_dv 18446744073709551615 (Nat.le_refl _) (c :: r) hm 0 with h1 | ⟨h1, h2⟩
    · rw [h1]
      constructor
      · intro hle
        show (if _ then _ else _) = _
        rw [if_neg (by omega)]
      · intro hlt
        show (if _ then _ else _) = _
        rw [if_pos (by omega)]
    · rw [h1]
      constructor
      · intro hle; omega
      · intro _; rfl
theorem ba2 {w : World} {o : Obj} {w2 : World} (h : Below (w.alloc o).heap.size (w.alloc o) w2) : Below w.heap.size w w2 := ((Below.refl _ _).alloc (Nat.le_refl _) o).trans (h.mono (by simp))
set_option maxHeartbeats 1000000 in
theorem number_ok (t : ByteArray) (v : Nat) (w : World) (hd : Digs t) (ht : t.size ≤ 4096) (hv : valF t 0 t.size = v) (h : v ≤ 9223372036854775807) :
    Calls Tryd.prog 44 #[.string t] w fun e w' => e = .returned (.tuple #[wordV 1 emp v 0 0, .int .i64 0]) ∧ Below w.heap.size w w' := by
  have PA : Hid (∀ w, Calls Tryd.prog 55 #[.string t, .int .i64 10, .int .i64 64] w fun e w' => e = .returned (.tuple #[.int .i64 (v : Int), .nilIface]) ∧ Below w.heap.size w w') := fun w =>
    (parse_lib_ok t (by omega) _ (by rw [(parse_digs hd).1 (by rw [hv]; exact h), hv]) w).mono fun e w' ⟨he, hw⟩ => ⟨he, by
      rcases hw with rfl | ⟨u, rfl⟩
      · exact Below.refl _ _
      · exact Lib.bytesWorld_below _ _ _⟩
  clear hv hd
  go_enter Tryd.func44, Tryd.ntmps44
  go_wp2_with (go_at_call 55; refine (PA.out _).mono ?_; rintro e w2 ⟨rfl, hB2⟩; obtain ⟨hc, hf⟩ := bcell hB2)
  refine bodyPost_ret (v := .tuple #[wordV 1 emp v 0 0, .int .i64 0]) (by simp [results, Tryd.results44, go_sem, hc]) rfl ⟨rfl, ?_⟩
  repeat refine Below.setCell ?_ (by simp) _
  exact ba2 hB2
set_option maxHeartbeats 1000000 in
theorem number_bad (t : ByteArray) (w : World) (hS : Sg w) (hd : Digs t) (ht : t.size ≤ 4096) (h : 9223372036854775807 < valF t 0 t.size) :
    Calls Tryd.prog 44 #[.string t] w fun e w' => e = .returned (.tuple #[wordV 0 emp 0 0 0, .int .i64 52]) ∧ Below w.heap.size w w' := by
  have PA : Hid (∀ w, Sg w → Calls Tryd.prog 55 #[.string t, .int .i64 10, .int .i64 64] w fun e w' => ∃ (z : Int) (N : Nat), e = .returned (.tuple #[.int .i64 z, .iface 104 (.pointer (some ⟨N, 0, none⟩))]) ∧ Below w.heap.size w w') := fun w hS => by
    obtain ⟨te, pe, hr⟩ := hS.range
    exact (parse_lib_range t (by omega) ((parse_digs hd).2 h) _ w hr (.inr ⟨te, pe, rfl⟩)).mono fun e w' ⟨N, he, _, _, hb⟩ => ⟨_, N, he, hb⟩
  clear hd h
  go_enter Tryd.func44, Tryd.ntmps44
  go_wp2_with (go_at_call 55; refine (PA.out _ (hS.alloc _)).mono ?_; rintro e w2 ⟨z, N, rfl, hB2⟩; obtain ⟨hc, hf⟩ := bcell hB2)
  refine bodyPost_ret (v := .tuple #[wordV 0 emp 0 0 0, .int .i64 52]) (by simp [results, Tryd.results44, go_sem, hc]) rfl ⟨rfl, ?_⟩
  repeat refine Below.setCell ?_ (by simp) _
  exact ba2 hB2
theorem clone_at (t : ByteArray) (w : World) (ht : t.size ≤ 4096) :
    Calls Tryd.prog 53 #[.string t] w fun e w' => e = .returned (.string t) ∧ Below w.heap.size w w' := by
  have K : Hid (∀ w, Calls Tryd.prog 57 #[.string t] w fun e w' => e = .returned (.string t) ∧ Below w.heap.size w w') := fun w => clone_lib t w (by omega)
  go_enter Tryd.func53, Tryd.ntmps53
  go_wp2_with (go_at_call 57; refine (K.out _).mono ?_; rintro e w2 ⟨rfl, hB2⟩)
  go_ret
  exact ⟨rfl, hB2⟩
set_option maxHeartbeats 1000000 in
theorem name_sign (t : ByteArray) (w : World) (ht : t.size ≤ 4096) (h : rsB t = true) :
    Calls Tryd.prog 42 #[.string t] w fun e w' => e = .returned (.tuple #[wordV 2 t 0 0 0, .int .i64 0]) ∧ Below w.heap.size w w' := by
  have CL : Hid (∀ w, Calls Tryd.prog 53 #[.string t] w fun e w' => e = .returned (.string t) ∧ Below w.heap.size w w') := fun w => clone_at t w ht
  have RS : Hid (∀ w, Calls Tryd.prog 54 #[.string t] w fun e w' => e = .returned (.bool true) ∧ w = w') := fun w => by rw [← h]; exact reserved_at t w
  have SG : Hid (∀ w, Calls Tryd.prog 46 #[.string t] w fun e w' => e = .returned (wordV 2 t 0 0 0) ∧ Below w.heap.size w w') := fun w => sign_at t w
  clear h
  go_enter Tryd.func42, Tryd.ntmps42
  go_wp2_with (first
    | (go_at_call 53; refine (CL.out _).mono ?_; rintro e w2 ⟨rfl, hB2⟩; obtain ⟨hc, hf⟩ := bcell hB2)
    | (go_at_call 54; refine (RS.out _).mono ?_; rintro e w3 ⟨rfl, rfl⟩)
    | (go_at_call 46; refine (SG.out _).mono ?_; rintro e w4 ⟨rfl, hB4⟩; obtain ⟨hc4, hf4⟩ := bcell (bt2 hB2 hB4)))
  refine bodyPost_ret (v := .tuple #[wordV 2 t 0 0 0, .int .i64 0]) (by simp [results, Tryd.results42, go_sem, hc4]) rfl ⟨rfl, ?_⟩
  repeat refine Below.setCell ?_ (by simp) _
  exact ba2 (bt2 hB2 hB4)
set_option maxHeartbeats 1000000 in
theorem name_name (t : ByteArray) (w : World) (ht : t.size ≤ 4096) (h : rsB t = false) (k c : Nat) (x : ByteArray) (b : Bool) (hb : b = true ↔ IsName t) (hx : (b = true ∧ x = t ∧ c = 0) ∨ (b = false ∧ x = emp ∧ c = 6)) :
    Calls Tryd.prog 42 #[.string t] w fun e w' => e = .returned (.tuple #[wordV 0 x 0 0 0, .int .i64 c]) ∧ Below w.heap.size w w' := by
  have CL : Hid (∀ w, Calls Tryd.prog 53 #[.string t] w fun e w' => e = .returned (.string t) ∧ Below w.heap.size w w') := fun w => clone_at t w ht
  have RS : Hid (∀ w, Calls Tryd.prog 54 #[.string t] w fun e w' => e = .returned (.bool false) ∧ w = w') := fun w => by rw [← h]; exact reserved_at t w
  have NM : Hid (∀ w, Calls Tryd.prog 49 #[.string t] w fun e w' => e = .returned (.bool b) ∧ Below w.heap.size w w') := fun w => name_at t b w (by omega) hb
  clear h hb
  rcases hx with ⟨rfl, rfl, rfl⟩ | ⟨rfl, rfl, rfl⟩
  · go_enter Tryd.func42, Tryd.ntmps42
    go_wp2_with (first
      | (go_at_call 53; refine (CL.out _).mono ?_; rintro e w2 ⟨rfl, hB2⟩; obtain ⟨hc, hf⟩ := bcell hB2)
      | (go_at_call 54; refine (RS.out _).mono ?_; rintro e w3 ⟨rfl, rfl⟩)
      | (go_at_call 49; refine (NM.out _).mono ?_; rintro e w4 ⟨rfl, hB4⟩; obtain ⟨hc4, hf4⟩ := bcell (bt2 hB2 hB4)))
    refine bodyPost_ret (v := .tuple #[wordV 0 x 0 0 0, .int .i64 0]) (by simp [results, Tryd.results42, go_sem, hc4]) rfl ⟨rfl, ?_⟩
    repeat refine Below.setCell ?_ (by simp) _
    exact ba2 (bt2 hB2 hB4)
  · go_enter Tryd.func42, Tryd.ntmps42
    go_wp2_with (first
      | (go_at_call 53; refine (CL.out _).mono ?_; rintro e w2 ⟨rfl, hB2⟩; obtain ⟨hc, hf⟩ := bcell hB2)
      | (go_at_call 54; refine (RS.out _).mono ?_; rintro e w3 ⟨rfl, rfl⟩)
      | (go_at_call 49; refine (NM.out _).mono ?_; rintro e w4 ⟨rfl, hB4⟩; obtain ⟨hc4, hf4⟩ := bcell (bt2 hB2 hB4)))
    refine bodyPost_ret (v := .tuple #[wordV 0 emp 0 0 0, .int .i64 6]) (by simp [results, Tryd.results42, go_sem, hc4]) rfl ⟨rfl, ?_⟩
    repeat refine Below.setCell ?_ (by simp) _
    exact ba2 (bt2 hB2 hB4)
end Go.Proofs.YtabfhdmcljdjhaaDoor.Gl
/- longestSign. -/
namespace Go.Proofs.YtabfhdmcljdjhaaDoor.Gl
open Go.RowKit
set_option linter.unusedVariables false

theorem ix_at (i : Nat) (hi : i < 18) : ∃ x : ByteArray, allSigns[i]? = some x ∧ ∀ w, (Instr.index 93 (.agg sgnArr) (.int .i64 ((i : Nat) : Int))).run Tryd.prog w = .ok (.string x) w := by
  match i, hi with
  | 0, _ => exact ⟨_, rfl, fun w => by kernel_rfl⟩
  | 1, _ => exact ⟨_, rfl, fun w => by kernel_rfl⟩
  | 2, _ => exact ⟨_, rfl, fun w => by kernel_rfl⟩
  | 3, _ => exact ⟨_, rfl, fun w => by kernel_rfl⟩
  | 4, _ => exact ⟨_, rfl, fun w => by kernel_rfl⟩
  | 5, _ => exact ⟨_, rfl, fun w => by kernel_rfl⟩
  | 6, _ => exact ⟨_, rfl, fun w => by kernel_rfl⟩
  | 7, _ => exact ⟨_, rfl, fun w => by kernel_rfl⟩
  | 8, _ => exact ⟨_, rfl, fun w => by kernel_rfl⟩
  | 9, _ => exact ⟨_, rfl, fun w => by kernel_rfl⟩
  | 10, _ => exact ⟨_, rfl, fun w => by kernel_rfl⟩
  | 11, _ => exact ⟨_, rfl, fun w => by kernel_rfl⟩
  | 12, _ => exact ⟨_, rfl, fun w => by kernel_rfl⟩
  | 13, _ => exact ⟨_, rfl, fun w => by kernel_rfl⟩
  | 14, _ => exact ⟨_, rfl, fun w => by kernel_rfl⟩
  | 15, _ => exact ⟨_, rfl, fun w => by kernel_rfl⟩
  | 16, _ => exact ⟨_, rfl, fun w => by kernel_rfl⟩
  | 17, _ => exact ⟨_, rfl, fun w => by kernel_rfl⟩
  | n + 18, h => exact absurd h (by omega)
theorem drop_sign {k : Nat} {x : ByteArray} (h : allSigns[k]? = some x) : allSigns.drop k = x :: allSigns.drop (k + 1) := by
  obtain ⟨hk, rfl⟩ := List.getElem?_eq_some_iff.1 h
  exact List.drop_eq_getElem_cons hk
theorem sgn_size : sgnArr.size = 18 := rfl
set_option maxHeartbeats 2000000 in
theorem longest_at (u : ByteArray) (w : World) (hS : Sg w) (hu : u.size ≤ 9223372036854775807) :
    Calls Tryd.prog 47 #[.string u] w fun e w' => e = .returned (.string (sgn u 0)) ∧ w = w' := by
  have HP : Hid (∀ (x : ByteArray) w, Calls Tryd.prog 38 #[.string u, .string x] w fun e w' => e = .returned (.bool (fits u 0 x)) ∧ w = w') := fun x w => hasprefix_at u x w hu
  obtain ⟨tt, fr, hg⟩ := hS.signs
  have IX : Hid (∀ i : Nat, i < 18 → ∃ x : ByteArray, allSigns[i]? = some x ∧ ∀ w, (Instr.index 93 (.agg sgnArr) (.int .i64 ((i : Nat) : Int))).run Tryd.prog w = .ok (.string x) w) := ix_at
  have hsz : (Tryd.prog.info? 93).map (·.size) = some sgnArr.size := by kernel_rfl
  generalize sgnArr = A at hg IX hsz
  have H0 : Hid (longest u 0 (allSigns.drop 0) emp = sgn u 0) := rfl
  clear hS
  go_enter Tryd.func47, Tryd.ntmps47
  go_wp2_with (refine wpList_load_row rfl 93 _ rfl 0 rfl tt A fr _ hg Tryd.underlying93 rfl hsz ?_)
  go_loopw [3, 7] (fun b i wr => ∃ (k : Nat) (x : ByteArray), k ≤ 18 ∧ b = .string x ∧ i = .int .i64 k ∧ wr = w ∧ Hid (longest u 0 (allSigns.drop k) x = sgn u 0)) (fun _ i _ => 18 - (intOf i).toNat)
  case atStart => exact ⟨0, emp, by omega, rfl, rfl, rfl, H0⟩
  case round =>
    obtain ⟨k, b, hk, rfl, rfl, rfl, HL⟩ := hrel
    by_cases hlt : k < 18
    · obtain ⟨x, hx, hix⟩ := IX.out k hlt
      have HLx : Hid (longest u 0 (allSigns.drop (k + 1)) (if (fits u 0 x && decide (b.size < x.size)) = true then x else b) = sgn u 0) := by
        have := HL.out
        rw [drop_sign hx] at this
        exact this
      have P0 : Hid (∀ w, Calls Tryd.prog 38 #[.string u, .string x] w fun e w' => e = .returned (.bool (fits u 0 x)) ∧ w = w') := HP.out x
      have hlt' : (k : Int) < 18 := by omega
      clear HP HL hx IX H0 hg
      by_cases hgt : b.size < x.size
      · cases hf : fits u 0 x with
        | true =>
          rw [hf] at P0
          have HN : Hid (longest u 0 (allSigns.drop (k + 1)) x = sgn u 0) := by
            have := HLx.out
            rwa [hf, decide_eq_true hgt, if_pos (by decide)] at this
          clear HLx hf
          go_wp2_with (go_at_call 38; refine (P0.out _).mono ?_; rintro e w2 ⟨rfl, rfl⟩)
          go_roundw
          case rel => exact ⟨k + 1, x, by omega, rfl, by go_num, trivial, HN⟩
          case measure => simp [intOf]; omega
        | false =>
          rw [hf] at P0
          have HN : Hid (longest u 0 (allSigns.drop (k + 1)) b = sgn u 0) := by
            have := HLx.out
            rwa [hf, if_neg (by simp)] at this
          clear HLx hf
          go_wp2_with (go_at_call 38; refine (P0.out _).mono ?_; rintro e w2 ⟨rfl, rfl⟩)
          go_roundw
          case rel => exact ⟨k + 1, b, by omega, rfl, by go_num, trivial, HN⟩
          case measure => simp [intOf]; omega
      · have hgt' : decide (b.size < x.size) = false := decide_eq_false hgt
        have HN : Hid (longest u 0 (allSigns.drop (k + 1)) b = sgn u 0) := by
          have := HLx.out
          rwa [hgt', Bool.and_false, if_neg (by decide)] at this
        clear HLx P0
        go_wp2
        go_roundw
        case rel => exact ⟨k + 1, b, by omega, rfl, by go_num, trivial, HN⟩
        case measure => simp [intOf]; omega
    · have HE : Hid (b = sgn u 0) := by
        have := HL.out
        rw [show k = 18 by omega] at this
        exact this
      have hlt' : decide ((k : Int) < 18) = false := decide_eq_false (by omega)
      clear HL IX HP H0 hg
      go_wp2
      go_ret
      exact ⟨congrArg (fun x => Ending.returned (.string x)) HE.out, rfl⟩
end Go.Proofs.YtabfhdmcljdjhaaDoor.Gl
/- firstWord. -/
namespace Go.Proofs.YtabfhdmcljdjhaaDoor.Gl
open Go.RowKit
set_option linter.unusedVariables false

/- how many bytes a character takes -/
def wdF (c : Nat) : Nat := if c < 128 then 1 else if c < 2048 then 2 else if c < 65536 then 3 else 4
theorem wd_is {s : ByteArray} {p : Nat} (h : (rdS s p).2.2 = true) : (rdS s p).2.1 = wdF (rdS s p).1 := by
  by_cases h1 : bt s p < 128
  · rw [rd_one s p h1]; show 1 = wdF (bt s p); rw [wdF, if_pos h1]
  · by_cases h2 : (128 ≤ bt s p ∧ bt s p < 194) ∨ 245 ≤ bt s p
    · rw [rd_bad0 s p h2] at h; cases h
    · by_cases h3 : bt s p < 224
      · rw [rd_two s p (by omega)] at h ⊢
        split at h
        · rename_i hc
          rw [if_pos hc]
          have e : accB s p (bt s p - 192) 1 = (bt s p - 192) * 64 + (bt s (p + 1) - 128) := rfl
          have hb := hc.2.1 0 (by omega)
          have := hc.2.2.1
          show 2 = wdF (accB s p (bt s p - 192) 1)
          rw [wdF, if_neg (by omega), if_pos (by rw [e]; simp only [Nat.zero_add] at hb; omega)]
        · cases h
      · by_cases h4 : bt s p < 240
        · rw [rd_three s p (by omega)] at h ⊢
          split at h
          · rename_i hc
            rw [if_pos hc]
            have e : accB s p (bt s p - 224) 2 = ((bt s p - 224) * 64 + (bt s (p + 1) - 128)) * 64 + (bt s (p + 2) - 128) := rfl
            have hb := hc.2.1 0 (by omega)
            have hb' := hc.2.1 1 (by omega)
            have := hc.2.2.1
            show 3 = wdF (accB s p (bt s p - 224) 2)
            rw [wdF, if_neg (by omega), if_neg (by omega), if_pos (by rw [e]; simp only [Nat.zero_add] at hb; simp only [Nat.reduceAdd] at hb'; omega)]
          · cases h
        · rw [rd_four s p (by omega)] at h ⊢
          split at h
          · rename_i hc
            rw [if_pos hc]
            have := hc.2.2.1
            show 4 = wdF (accB s p (bt s p - 240) 3)
            rw [wdF, if_neg (by omega), if_neg (by omega), if_neg (by omega)]
          · cases h
theorem enc_marks : ∀ m ∈ marks, (Utf8.encode m).size = wdF m.toNat := by decide +kernel
/- names -/
theorem pos_le (s : ByteArray) (j k : Nat) (h : j ≤ k) : pos s j ≤ pos s k := by
  induction h with
  | refl => exact Nat.le_refl _
  | step _ ih => rw [pos_succ]; omega
theorem RunTo.posn {P : Nat → Bool} {s : ByteArray} {p e : Nat} (h : RunTo P s p e) : ∀ k, pos s k = p → ∀ j, k ≤ j → pos s j < e → (rdS s (pos s j)).2.2 = true ∧ P (rdS s (pos s j)).1 = true := by
  induction h with
  | nil p =>
    intro k hk j hj hlt
    have := pos_le s k j hj
    omega
  | cons a b c _ ih =>
    intro k hk j hj hlt
    rcases Nat.lt_or_eq_of_le hj with hj | rfl
    · exact ih (k + 1) (by rw [pos_succ, hk]) j hj hlt
    · rw [hk]; exact ⟨b, c⟩
theorem nm_iff {t : ByteArray} (h : RunTo reN t 0 t.size) (h0 : 0 < t.size) (hst : stB ((rdS t 0).1 : Nat) = true) (hr : rsB t = false) : (decide (cnt t ≤ 16) = true ↔ IsName t) := by
  rw [decide_eq_true_eq]
  have hc := cnt_cnt t
  constructor
  · intro hle
    refine ⟨⟨cnt t, hc, ?_, hle, fun j hj => ?_⟩, hr⟩
    · rcases Nat.eq_zero_or_pos (cnt t) with e | e
      · rw [e] at hc
        have : (0 : Nat) = t.size := hc.1
        omega
      · exact e
    · have hlt := hc.2 j hj
      obtain ⟨a, b⟩ := h.posn 0 rfl j (Nat.zero_le _) hlt
      exact ⟨hlt, a, b, fun e => by subst e; exact hst⟩
  · rintro ⟨⟨n, hn, _, hle, _⟩, _⟩
    rw [cnt_one hc hn]
    exact hle
theorem res_keep {w w4 : World} {vs : Array Value} {t : TypeId} (hb : Below (w.alloc (.cells vs t)).heap.size (w.alloc (.cells vs t)) w4) :
    (∀ ob o, (w4.alloc ob).cell? ⟨w.heap.size, o, none⟩ = vs[o]?) ∧ (∀ ob o, (w4.alloc ob).frozen? ⟨w.heap.size, o, none⟩ = false) ∧ (∀ o, w4.cell? ⟨w.heap.size, o, none⟩ = vs[o]?) ∧ ∀ o, w4.frozen? ⟨w.heap.size, o, none⟩ = false := by
  refine ⟨fun ob o => ?_, fun ob o => ?_, fun o => ?_, fun o => ?_⟩
  · rw [(bcell (bta hb ob)).1 _ _ (by simp)]; simp
  · rw [(bcell (bta hb ob)).2 _ _ (by simp)]; simp
  · rw [(bcell hb).1 _ _ (by simp)]; simp
  · rw [(bcell hb).2 _ _ (by simp)]; simp
theorem ne_emp {x : ByteArray} (h : x ≠ emp) : (x.toList == []) = false := by
  cases hb : (x.toList == []) with
  | false => rfl
  | true => exact absurd (toList_inj (by simpa using hb)) h
set_option maxHeartbeats 2000000 in
theorem fw_st (u : ByteArray) (w : World) (r k c q : Nat) (x : ByteArray) (hu : u.size ≤ 4096) (hst : stB (r : Nat) = true) (hq : run reN u 0 = q) (hqs : q ≤ u.size)
    (hN : ∀ w, Calls Tryd.prog 42 #[.string (u.extract 0 q)] w fun e w' => e = .returned (.tuple #[wordV k x 0 0 0, .int .i64 c]) ∧ Below w.heap.size w w') :
    Calls Tryd.prog 31 #[.string u, .int .i32 r] w fun e w' => e = .returned (.tuple #[wordV k x 0 0 0, .int .i64 q, .int .i64 c]) ∧ Below w.heap.size w w' := by
  have ST : Hid (∀ w, Calls Tryd.prog 39 #[.int .i32 r] w fun e w' => e = .returned (.bool true) ∧ w = w') := fun w => by rw [← hst]; exact start_at _ w
  have RU : Hid (∀ w, Calls Tryd.prog 40 #[.string u, .func (.func 41) #[] #[]] w fun e w' => e = .returned (.string (u.extract 0 q)) ∧ Below w.heap.size w w') := fun w => by rw [← hq]; exact runre_at u w (by omega)
  have NN : Hid _ := hN
  have hz : (u.extract 0 q).size = q := size_win u 0 q hqs
  generalize u.extract 0 q = t at *
  clear hst hq hN
  go_enter Tryd.func31, Tryd.ntmps31
  go_wp2_with (first
    | (go_at_call 39; refine (ST.out _).mono ?_; rintro e w2 ⟨rfl, rfl⟩)
    | (go_at_call 40; refine (RU.out _).mono ?_; rintro e w3 ⟨rfl, hB3⟩)
    | (go_at_call 42; refine (NN.out _).mono ?_; rintro e w4 ⟨rfl, hB4⟩; obtain ⟨hc4, hf4, hd4, he4⟩ := res_keep (bt2 hB3 hB4)))
  refine bodyPost_ret (v := .tuple #[wordV k x 0 0 0, .int .i64 q, .int .i64 c]) (by simp [results, Tryd.results31, go_sem, hc4]) rfl ⟨rfl, ?_⟩
  repeat refine Below.setCell ?_ (by simp) _
  exact bta (ba2 (bt2 hB3 hB4)) _
set_option maxHeartbeats 2000000 in
theorem fw_dig (u : ByteArray) (w : World) (hS : Sg w) (r k c q v : Nat) (x : ByteArray) (hu : u.size ≤ 4096) (hst : stB (r : Nat) = false) (hdg : isDig r = true) (hq : run isDig u 0 = q) (hqs : q ≤ u.size)
    (hN : ∀ w, Sg w → Calls Tryd.prog 44 #[.string (u.extract 0 q)] w fun e w' => e = .returned (.tuple #[wordV k x v 0 0, .int .i64 c]) ∧ Below w.heap.size w w') :
    Calls Tryd.prog 31 #[.string u, .int .i32 r] w fun e w' => e = .returned (.tuple #[wordV k x v 0 0, .int .i64 q, .int .i64 c]) ∧ Below w.heap.size w w' := by
  have ST : Hid (∀ w, Calls Tryd.prog 39 #[.int .i32 r] w fun e w' => e = .returned (.bool false) ∧ w = w') := fun w => by rw [← hst]; exact start_at _ w
  have DG : Hid (∀ w, Calls Tryd.prog 43 #[.int .i32 r] w fun e w' => e = .returned (.bool true) ∧ w = w') := fun w => by rw [← hdg]; exact isdig_at _ w
  have RU : Hid (∀ w, Calls Tryd.prog 40 #[.string u, .func (.func 43) #[] #[]] w fun e w' => e = .returned (.string (u.extract 0 q)) ∧ Below w.heap.size w w') := fun w => by rw [← hq]; exact rundig_at u w (by omega)
  have NN : Hid _ := hN
  have hz : (u.extract 0 q).size = q := size_win u 0 q hqs
  generalize u.extract 0 q = t at *
  clear hst hq hN hdg
  go_enter Tryd.func31, Tryd.ntmps31
  go_wp2_with (first
    | (go_at_call 39; refine (ST.out _).mono ?_; rintro e w2 ⟨rfl, rfl⟩)
    | (go_at_call 43; refine (DG.out _).mono ?_; rintro e w2 ⟨rfl, rfl⟩)
    | (go_at_call 40; refine (RU.out _).mono ?_; rintro e w3 ⟨rfl, hB3⟩; have hS3 := (hS.alloc _).below hB3)
    | (go_at_call 44; refine (NN.out _ hS3).mono ?_; rintro e w4 ⟨rfl, hB4⟩; obtain ⟨hc4, hf4, hd4, he4⟩ := res_keep (bt2 hB3 hB4)))
  refine bodyPost_ret (v := .tuple #[wordV k x v 0 0, .int .i64 q, .int .i64 c]) (by simp [results, Tryd.results31, go_sem, hc4]) rfl ⟨rfl, ?_⟩
  repeat refine Below.setCell ?_ (by simp) _
  exact bta (ba2 (bt2 hB3 hB4)) _
set_option maxHeartbeats 2000000 in
theorem fw_plain (u : ByteArray) (w : World) (r q : Nat) (x : ByteArray) (hu : u.size ≤ 4096) (hst : stB (r : Nat) = false) (hdg : isDig r = false) (hx : plB (r : Nat) = x) (hne : x ≠ emp) (hq : (Utf8.encode (r : Nat)).size = q) :
    Calls Tryd.prog 31 #[.string u, .int .i32 r] w fun e w' => e = .returned (.tuple #[wordV 2 x 0 0 0, .int .i64 q, .int .i64 0]) ∧ Below w.heap.size w w' := by
  have ST : Hid (∀ w, Calls Tryd.prog 39 #[.int .i32 r] w fun e w' => e = .returned (.bool false) ∧ w = w') := fun w => by rw [← hst]; exact start_at _ w
  have DG : Hid (∀ w, Calls Tryd.prog 43 #[.int .i32 r] w fun e w' => e = .returned (.bool false) ∧ w = w') := fun w => by rw [← hdg]; exact isdig_at _ w
  have PL : Hid (∀ w, Calls Tryd.prog 45 #[.int .i32 r] w fun e w' => e = .returned (.string x) ∧ w = w') := fun w => by rw [← hx]; exact plain_at _ w
  have SG : Hid (∀ w, Calls Tryd.prog 46 #[.string x] w fun e w' => e = .returned (wordV 2 x 0 0 0) ∧ Below w.heap.size w w') := fun w => sign_at x w
  have hn1 : (x.toList == []) = false := ne_emp hne
  clear hst hdg hx hne
  go_enter Tryd.func31, Tryd.ntmps31
  go_wp2_with (first
    | (go_at_call 39; refine (ST.out _).mono ?_; rintro e w2 ⟨rfl, rfl⟩)
    | (go_at_call 43; refine (DG.out _).mono ?_; rintro e w2 ⟨rfl, rfl⟩)
    | (go_at_call 45; refine (PL.out _).mono ?_; rintro e w2 ⟨rfl, rfl⟩)
    | (go_at_call 46; refine (SG.out _).mono ?_; rintro e w4 ⟨rfl, hB4⟩; obtain ⟨hc4, hf4, hd4, he4⟩ := res_keep hB4))
  refine bodyPost_ret (v := .tuple #[wordV 2 x 0 0 0, .int .i64 q, .int .i64 0]) (by simp [results, Tryd.results31, go_sem, hd4]) rfl ⟨rfl, ?_⟩
  repeat refine Below.setCell ?_ (by simp) _
  exact ba2 hB4
set_option maxHeartbeats 2000000 in
theorem fw_sign (u : ByteArray) (w : World) (hS : Sg w) (r : Nat) (x : ByteArray) (hu : u.size ≤ 4096) (hst : stB (r : Nat) = false) (hdg : isDig r = false) (hpl : plB (r : Nat) = emp) (hx : sgn u 0 = x) (hne : x ≠ emp) :
    Calls Tryd.prog 31 #[.string u, .int .i32 r] w fun e w' => e = .returned (.tuple #[wordV 2 x 0 0 0, .int .i64 x.size, .int .i64 0]) ∧ Below w.heap.size w w' := by
  have ST : Hid (∀ w, Calls Tryd.prog 39 #[.int .i32 r] w fun e w' => e = .returned (.bool false) ∧ w = w') := fun w => by rw [← hst]; exact start_at _ w
  have DG : Hid (∀ w, Calls Tryd.prog 43 #[.int .i32 r] w fun e w' => e = .returned (.bool false) ∧ w = w') := fun w => by rw [← hdg]; exact isdig_at _ w
  have PL : Hid (∀ w, Calls Tryd.prog 45 #[.int .i32 r] w fun e w' => e = .returned (.string emp) ∧ w = w') := fun w => by rw [← hpl]; exact plain_at _ w
  have LS : Hid (∀ w, Sg w → Calls Tryd.prog 47 #[.string u] w fun e w' => e = .returned (.string x) ∧ w = w') := fun w h => by rw [← hx]; exact longest_at u w h (by omega)
  have SG : Hid (∀ w, Calls Tryd.prog 46 #[.string x] w fun e w' => e = .returned (wordV 2 x 0 0 0) ∧ Below w.heap.size w w') := fun w => sign_at x w
  have hn1 : (x.toList == []) = false := ne_emp hne
  clear hst hdg hx hne hpl
  go_enter Tryd.func31, Tryd.ntmps31
  go_wp2_with (first
    | (go_at_call 39; refine (ST.out _).mono ?_; rintro e w2 ⟨rfl, rfl⟩)
    | (go_at_call 43; refine (DG.out _).mono ?_; rintro e w2 ⟨rfl, rfl⟩)
    | (go_at_call 45; refine (PL.out _).mono ?_; rintro e w2 ⟨rfl, rfl⟩)
    | (go_at_call 47; refine (LS.out _ (hS.alloc _)).mono ?_; rintro e w2 ⟨rfl, rfl⟩)
    | (go_at_call 46; refine (SG.out _).mono ?_; rintro e w4 ⟨rfl, hB4⟩; obtain ⟨hc4, hf4, hd4, he4⟩ := res_keep hB4))
  refine bodyPost_ret (v := .tuple #[wordV 2 x 0 0 0, .int .i64 x.size, .int .i64 0]) (by simp [results, Tryd.results31, go_sem, hd4]) rfl ⟨rfl, ?_⟩
  repeat refine Below.setCell ?_ (by simp) _
  exact ba2 hB4
set_option maxHeartbeats 2000000 in
theorem fw_none (u : ByteArray) (w : World) (hS : Sg w) (r : Nat) (hu : u.size ≤ 4096) (hst : stB (r : Nat) = false) (hdg : isDig r = false) (hpl : plB (r : Nat) = emp) (hx : sgn u 0 = emp) :
    Calls Tryd.prog 31 #[.string u, .int .i32 r] w fun e w' => e = .returned (.tuple #[wordV 0 emp 0 0 0, .int .i64 0, .int .i64 51]) ∧ Below w.heap.size w w' := by
  have ST : Hid (∀ w, Calls Tryd.prog 39 #[.int .i32 r] w fun e w' => e = .returned (.bool false) ∧ w = w') := fun w => by rw [← hst]; exact start_at _ w
  have DG : Hid (∀ w, Calls Tryd.prog 43 #[.int .i32 r] w fun e w' => e = .returned (.bool false) ∧ w = w') := fun w => by rw [← hdg]; exact isdig_at _ w
  have PL : Hid (∀ w, Calls Tryd.prog 45 #[.int .i32 r] w fun e w' => e = .returned (.string emp) ∧ w = w') := fun w => by rw [← hpl]; exact plain_at _ w
  have LS : Hid (∀ w, Sg w → Calls Tryd.prog 47 #[.string u] w fun e w' => e = .returned (.string emp) ∧ w = w') := fun w h => by rw [← hx]; exact longest_at u w h (by omega)
  clear hst hdg hx hpl
  go_enter Tryd.func31, Tryd.ntmps31
  go_wp2_with (first
    | (go_at_call 39; refine (ST.out _).mono ?_; rintro e w2 ⟨rfl, rfl⟩)
    | (go_at_call 43; refine (DG.out _).mono ?_; rintro e w2 ⟨rfl, rfl⟩)
    | (go_at_call 45; refine (PL.out _).mono ?_; rintro e w2 ⟨rfl, rfl⟩)
    | (go_at_call 47; refine (LS.out _ (hS.alloc _)).mono ?_; rintro e w2 ⟨rfl, rfl⟩))
  refine bodyPost_ret (v := .tuple #[wordV 0 emp 0 0 0, .int .i64 0, .int .i64 51]) (by simp [results, Tryd.results31, go_sem]) rfl ⟨rfl, ?_⟩
  repeat refine Below.setCell ?_ (by simp) _
  exact bta (Below.refl _ _) _
end Go.Proofs.YtabfhdmcljdjhaaDoor.Gl
/- What firstWord answers. -/
namespace Go.Proofs.YtabfhdmcljdjhaaDoor.Gl
open Go.RowKit
set_option linter.unusedVariables false

theorem run_digs {u : ByteArray} {p q : Nat} (h : RunTo isDig u p q) : p ≤ q ∧ ∀ j, p ≤ j → j < q → 48 ≤ bt u j ∧ bt u j ≤ 57 := by
  induction h with
  | nil => exact ⟨Nat.le_refl _, fun j h1 h2 => by omega⟩
  | @cons p q a b c _ ih =>
    have hd := of_decide_eq_true c
    obtain ⟨e1, e2, _⟩ := rd_ascii (s := u) (p := p) (by omega)
    rw [e2] at ih
    refine ⟨by omega, fun j h1 h2 => ?_⟩
    rcases Nat.lt_or_eq_of_le h1 with hlt | rfl
    · exact ih.2 j (by omega) h2
    · rw [e1]; exact hd
theorem digs_run {u : ByteArray} (h0 : 0 < u.size) (hok : (rdS u 0).2.2 = true) (hd : isDig (rdS u 0).1 = true) : Digs (u.extract 0 (run isDig u 0)) ∧ valF (u.extract 0 (run isDig u 0)) 0 (u.extract 0 (run isDig u 0)).size = valF u 0 (run isDig u 0 - 0) ∧ run isDig u 0 ≤ u.size := by
  have hle := (run_run isDig u 0).le_size (Nat.zero_le _)
  have hgt := run_gt h0 hok hd
  have hz := size_win u 0 (run isDig u 0) hle
  obtain ⟨_, hb⟩ := run_digs (run_run isDig u 0)
  refine ⟨⟨by omega, fun j hj => ?_⟩, ?_, hle⟩
  · rw [bt_win u 0 _ j hle (by omega), Nat.zero_add]
    exact hb j (Nat.zero_le _) (by omega)
  · rw [hz]
    exact valF_congr _ (fun j hj => by rw [Nat.zero_add, bt_win u 0 _ j hle (by omega), Nat.zero_add])
theorem name_run {u : ByteArray} (h0 : 0 < u.size) (hok : (rdS u 0).2.2 = true) (hst : stB ((rdS u 0).1 : Nat) = true) : run reN u 0 ≤ u.size ∧ (rsB (u.extract 0 (run reN u 0)) = false → (decide (cnt (u.extract 0 (run reN u 0)) ≤ 16) = true ↔ IsName (u.extract 0 (run reN u 0)))) := by
  have hle := (run_run reN u 0).le_size (Nat.zero_le _)
  have hgt := run_gt h0 hok (show reN (rdS u 0).1 = true from reB_of hst)
  have hz := size_win u 0 (run reN u 0) hle
  refine ⟨hle, fun hr => ?_⟩
  have hrt : RunTo reN (u.extract 0 (run reN u 0)) 0 (u.extract 0 (run reN u 0)).size := by
    rw [hz]
    exact (run_run reN u 0).win hle 0 (run reN u 0 - 0) (by omega) (by omega) (Nat.le_refl _)
  have e0 : rdS (u.extract 0 (run reN u 0)) 0 = rdS u 0 := rd_win u 0 _ 0 hle ((run_run reN u 0).bd.step hgt) hgt
  exact nm_iff hrt (by omega) (by rw [e0]; exact hst) hr
theorem fw_word (u : ByteArray) (w : World) (hS : Sg w) (h0 : 0 < u.size) (hu : u.size ≤ 4096) {k v q : Nat} {t : ByteArray} (h : tok u 0 = .word k t v q) :
    Calls Tryd.prog 31 #[.string u, .int .i32 ((rdS u 0).1 : Nat)] w fun e w' => e = .returned (.tuple #[wordV k t v 0 0, .int .i64 q, .int .i64 0]) ∧ Below w.heap.size w w' := by
  rcases tok_cases u 0 with ⟨_, e⟩ | ⟨hbl, ⟨_, e⟩ | ⟨hok, ⟨hst, hc⟩ | ⟨hst, hdg, ⟨_, e⟩ | ⟨hv, e⟩⟩ | ⟨hst, hdg, hpl, e⟩ | ⟨hst, hdg, hpl, ⟨_, e⟩ | ⟨hne, e⟩⟩⟩⟩
  · rw [h] at e; cases e
  · rw [h] at e; cases e
  · obtain ⟨hle, hnm⟩ := name_run h0 hok hst
    have hz : (u.extract 0 (run reN u 0)).size ≤ 4096 := by rw [size_win u 0 _ hle]; omega
    rcases hc with ⟨h1, e⟩ | ⟨_, _, e⟩ | ⟨h1, h2, e⟩
    · rw [h] at e; cases e
      exact fw_st u w _ 2 0 _ _ hu hst rfl hle (fun w => name_sign _ w hz h1)
    · rw [h] at e; cases e
    · rw [h] at e; cases e
      exact fw_st u w _ 0 0 _ _ hu hst rfl hle (fun w => name_name _ w hz h1 0 0 _ _ (hnm h1) (.inl ⟨decide_eq_true (by omega), rfl, rfl⟩))
  · rw [h] at e; cases e
  · rw [h] at e; cases e
    obtain ⟨hd, hval, hle⟩ := digs_run h0 hok hdg
    have hz : (u.extract 0 (run isDig u 0)).size ≤ 4096 := by rw [size_win u 0 _ hle]; omega
    exact fw_dig u w hS _ 1 0 _ _ emp hu hst hdg rfl hle (fun w _ => number_ok _ _ w hd hz hval (by omega))
  · rw [h] at e; cases e
    have hm : ((rdS u 0).1 : Int) ∈ marks := by
      by_cases hm : ((rdS u 0).1 : Int) ∈ marks
      · exact hm
      · exact absurd (pl_none _ (fun m h' e => hm (by rw [← e]; exact h'))) hpl
    exact fw_plain u w _ _ _ hu hst hdg rfl hpl (by rw [enc_marks _ hm, Nat.zero_add, wd_is hok]; rfl)
  · rw [h] at e; cases e
  · rw [h] at e; cases e
    have := fw_sign u w hS _ _ hu hst hdg hpl rfl hne
    rwa [Nat.zero_add]
theorem fw_bad (u : ByteArray) (w : World) (hS : Sg w) (h0 : 0 < u.size) (hu : u.size ≤ 4096) {c : Nat} (hok : (rdS u 0).2.2 = true) (h : tok u 0 = .bad c) :
    Calls Tryd.prog 31 #[.string u, .int .i32 ((rdS u 0).1 : Nat)] w fun e w' => ∃ z : Nat, e = .returned (.tuple #[wordV 0 emp 0 0 0, .int .i64 z, .int .i64 c]) ∧ Below w.heap.size w w' := by
  rcases tok_cases u 0 with ⟨_, e⟩ | ⟨hbl, ⟨ho, e⟩ | ⟨hok, ⟨hst, hc⟩ | ⟨hst, hdg, ⟨hv, e⟩ | ⟨hv, e⟩⟩ | ⟨hst, hdg, hpl, e⟩ | ⟨hst, hdg, hpl, ⟨hne, e⟩ | ⟨hne, e⟩⟩⟩⟩
  · rw [h] at e; cases e
  · rw [hok] at ho; cases ho
  · obtain ⟨hle, hnm⟩ := name_run h0 hok hst
    have hz : (u.extract 0 (run reN u 0)).size ≤ 4096 := by rw [size_win u 0 _ hle]; omega
    rcases hc with ⟨h1, e⟩ | ⟨h1, h2, e⟩ | ⟨h1, h2, e⟩
    · rw [h] at e; cases e
    · rw [h] at e; cases e
      exact (fw_st u w _ 0 6 _ emp hu hst rfl hle (fun w => name_name _ w hz h1 0 6 _ _ (hnm h1) (.inr ⟨decide_eq_false (by omega), rfl, rfl⟩))).mono fun e w' ⟨he, hb⟩ => ⟨_, he, hb⟩
    · rw [h] at e; cases e
  · rw [h] at e; cases e
    obtain ⟨hd, hval, hle⟩ := digs_run h0 hok hdg
    have hz : (u.extract 0 (run isDig u 0)).size ≤ 4096 := by rw [size_win u 0 _ hle]; omega
    exact (fw_dig u w hS _ 0 52 _ 0 emp hu hst hdg rfl hle (fun w hS => number_bad _ w hS hd hz (by rw [hval]; exact hv))).mono fun e w' ⟨he, hb⟩ => ⟨_, he, hb⟩
  · rw [h] at e; cases e
  · rw [h] at e; cases e
  · rw [h] at e; cases e
    exact (fw_none u w hS _ hu hst hdg hpl hne).mono fun e w' ⟨he, hb⟩ => ⟨0, he, hb⟩
  · rw [h] at e; cases e
end Go.Proofs.YtabfhdmcljdjhaaDoor.Gl
/- Words: where the loop stands; the append of a word. -/
namespace Go.Proofs.YtabfhdmcljdjhaaDoor.Gl
open Go.RowKit
set_option linter.unusedVariables false

abbrev anyC : Nat → Bool := fun _ => true
theorem RunTo.anyc {P : Nat → Bool} {s : ByteArray} {p q : Nat} (h : RunTo P s p q) : RunTo anyC s p q := by
  induction h with
  | nil => exact .nil _
  | cons a b c _ ih => exact .cons a b rfl ih
theorem any_ascii {s : ByteArray} : ∀ (n p : Nat), p + n ≤ s.size → (∀ j, j < n → bt s (p + j) < 128) → RunTo anyC s p (p + n)
  | 0, p, _, _ => .nil p
  | n + 1, p, h, hb => by
    have h0 := hb 0 (by omega)
    rw [Nat.add_zero] at h0
    have e := rd_one s p h0
    refine .cons (by omega) (by rw [e]) rfl ?_
    rw [e]
    have := any_ascii (s := s) n (p + 1) (by omega) (fun j hj => by have := hb (j + 1) (by omega); rwa [show p + 1 + j = p + (j + 1) by omega])
    rwa [show p + 1 + n = p + (n + 1) by omega] at this
theorem tok_any {s : ByteArray} {p k v q : Nat} {t : ByteArray} (hp : p < s.size) (h : tok s p = .word k t v q) : RunTo anyC s p q := by
  rcases tok_cases s p with ⟨_, e⟩ | ⟨hbl, ⟨_, e⟩ | ⟨hok, ⟨_, ⟨_, e⟩ | ⟨_, _, e⟩ | ⟨_, _, e⟩⟩ | ⟨_, _, ⟨_, e⟩ | ⟨_, e⟩⟩ | ⟨_, _, _, e⟩ | ⟨_, _, _, ⟨_, e⟩ | ⟨hne, e⟩⟩⟩⟩
  all_goals rw [h] at e
  all_goals cases e
  · exact (run_run reN s p).anyc
  · exact (run_run reN s p).anyc
  · exact (run_run isDig s p).anyc
  · exact .cons hp hok rfl (.nil _)
  · obtain ⟨h1, h2, _⟩ := sgn_mem hne
    have h3 := (fits_iff s p _).1 h1
    exact any_ascii _ p h3.1 (fun j hj => by rw [h3.2 j hj]; exact (signs_plain _ h2 j hj).2)
/-- where the loop of Words stands -/
structure Stand (s : ByteArray) (a : List Wd) (f : Option (Nat × Nat)) (k p e : Nat) (A : List Wd) : Prop where
  at_ : pos s k = p
  oks : Oks s k
  rest : ∃ m B, A ++ B = a ∧ Lx s m B f ∧ RunTo anyC s p m ∧ ((p < e ∧ m = e) ∨ (e ≤ p ∧ m = p))
theorem Stand.zero {s : ByteArray} {a : List Wd} {f : Option (Nat × Nat)} (h : Lx s 0 a f) : Stand s a f 0 0 0 [] :=
  ⟨rfl, fun j hj => absurd hj (by omega), 0, a, rfl, h, .nil 0, .inr ⟨Nat.le_refl _, rfl⟩⟩
theorem Stand.le {s : ByteArray} {a : List Wd} {f : Option (Nat × Nat)} {k p e : Nat} {A : List Wd} (h : Stand s a f k p e A) : k ≤ p ∧ p ≤ s.size := by
  have := pos_ge s k h.oks.lt
  rw [h.at_] at this
  exact this
theorem Stand.cnt {s : ByteArray} {a : List Wd} {f : Option (Nat × Nat)} {k p e : Nat} {A : List Wd} (h : Stand s a f k p e A) : cnt (s.extract 0 p) = k := by
  have := cnt_cut s k h.oks.lt
  rw [h.at_] at this
  exact cnt_one (cnt_cnt _) this
theorem Stand.fin {s : ByteArray} {a : List Wd} {f : Option (Nat × Nat)} {k p e : Nat} {A : List Wd} (h : Stand s a f k p e A) (hp : ¬ p < s.size) : f = none ∧ A = a := by
  obtain ⟨m, B, hA, hL, hR, _⟩ := h.rest
  have hm := hR.le
  cases hL with
  | done _ => exact ⟨rfl, by rw [List.append_nil] at hA; exact hA⟩
  | blank a _ _ => omega
  | bad a _ => omega
  | word a _ _ => omega
theorem Stand.oks' {s : ByteArray} {k p : Nat} (h : pos s k = p) (ho : Oks s k) (hp : p < s.size) (hok : (rdS s p).2.2 = true) : pos s (k + 1) = p + (rdS s p).2.1 ∧ Oks s (k + 1) := by
  refine ⟨by rw [pos_succ, h], fun j hj => ?_⟩
  rcases Nat.lt_succ_iff_lt_or_eq.1 hj with hj | rfl
  · exact ho j hj
  · rw [h]; exact ⟨hp, hok⟩
theorem Stand.skip {s : ByteArray} {a : List Wd} {f : Option (Nat × Nat)} {k p e : Nat} {A : List Wd} (h : Stand s a f k p e A) (hp : p < s.size) (he : p < e) : Stand s a f (k + 1) (p + (rdS s p).2.1) e A := by
  obtain ⟨m, B, hA, hL, hR, hm⟩ := h.rest
  obtain rfl : m = e := by omega
  cases hR with
  | nil => omega
  | cons _ hok _ hR =>
    obtain ⟨h1, h2⟩ := Stand.oks' h.at_ h.oks hp hok
    refine ⟨h1, h2, m, B, hA, hL, hR, ?_⟩
    have := hR.le
    omega
theorem Stand.here {s : ByteArray} {a : List Wd} {f : Option (Nat × Nat)} {k p e : Nat} {A : List Wd} (h : Stand s a f k p e A) (he : e ≤ p) : ∃ B, A ++ B = a ∧ Lx s p B f := by
  obtain ⟨m, B, hA, hL, hR, hm⟩ := h.rest
  obtain rfl : m = p := by omega
  exact ⟨B, hA, hL⟩
theorem Stand.blank {s : ByteArray} {a : List Wd} {f : Option (Nat × Nat)} {k p e : Nat} {A : List Wd} (h : Stand s a f k p e A) (hp : p < s.size) (he : e ≤ p) (hb : blB ((rdS s p).1 : Nat) = true) : Stand s a f (k + 1) (p + (rdS s p).2.1) e A := by
  obtain ⟨B, hA, hL⟩ := h.here he
  have ht : tok s p = .blank := by unfold tok; rw [if_pos hb]
  have h1 := (blank_one hb).1
  have hbt := (blank_one hb).2
  have hok : (rdS s p).2.2 = true := by
    refine rd_ok s p (fun e => ?_)
    rw [e] at hb
    exact absurd hb (by decide)
  obtain ⟨h2, h3⟩ := Stand.oks' h.at_ h.oks hp hok
  refine ⟨h2, h3, p + 1, B, hA, ?_, by rw [h1]; exact .nil _, .inr ⟨by omega, by rw [h1]⟩⟩
  cases hL with
  | done _ => omega
  | blank _ _ k => exact k
  | bad _ c => rw [ht] at c; cases c
  | word _ c _ => rw [ht] at c; cases c
theorem Stand.bad {s : ByteArray} {a : List Wd} {f : Option (Nat × Nat)} {k p e c : Nat} {A : List Wd} (h : Stand s a f k p e A) (hp : p < s.size) (he : e ≤ p) (ht : tok s p = .bad c) : f = some (c, p) := by
  obtain ⟨B, hA, hL⟩ := h.here he
  cases hL with
  | done _ => omega
  | blank _ d _ => rw [ht] at d; cases d
  | bad _ d => rw [ht] at d; cases d; rfl
  | word _ d _ => rw [ht] at d; cases d
theorem Stand.word {s : ByteArray} {a : List Wd} {f : Option (Nat × Nat)} {k p e kd v q : Nat} {t : ByteArray} {A : List Wd} (h : Stand s a f k p e A) (hp : p < s.size) (he : e ≤ p) (ht : tok s p = .word kd t v q) : Stand s a f (k + 1) (p + (rdS s p).2.1) q (A ++ [⟨kd, t, v, p⟩]) := by
  obtain ⟨B, hA, hL⟩ := h.here he
  have hr := tok_any hp ht
  have hto := tok_to hp ht
  cases hL with
  | done _ => omega
  | blank _ d _ => rw [ht] at d; cases d
  | bad _ d => rw [ht] at d; cases d
  | word _ d l =>
    rw [ht] at d; cases d
    cases hr with
    | nil => omega
    | cons _ hok _ hr =>
      obtain ⟨h1, h2⟩ := Stand.oks' h.at_ h.oks hp hok
      refine ⟨h1, h2, q, _, by rw [List.append_assoc]; exact hA, l, hr, ?_⟩
      have := hr.le
      omega
theorem Stand.len {s : ByteArray} {a : List Wd} {f : Option (Nat × Nat)} {k p e : Nat} {A : List Wd} (h : Stand s a f k p e A) : A.length ≤ a.length := by
  obtain ⟨m, B, hA, _⟩ := h.rest
  rw [← hA, List.length_append]; omega
theorem Lx.len {s : ByteArray} {p : Nat} {ws : List Wd} {f : Option (Nat × Nat)} (h : Lx s p ws f) : ws.length ≤ s.size := by
  have key : ws.length + p ≤ s.size + p ∧ (p ≤ s.size → ws.length + p ≤ s.size) := by
    induction h with
    | done h => exact ⟨by simp, fun h => by simpa using h⟩
    | blank a b _ ih => exact ⟨by omega, fun _ => by omega⟩
    | bad a b => exact ⟨by simp, fun h => by simpa using h⟩
    | word a b _ ih => have := tok_to a b; rw [List.length_cons]; exact ⟨by omega, fun _ => by omega⟩
  omega
/-- a window of the text to its end -/
theorem sim_end (s : ByteArray) (p : Nat) (hp : p ≤ s.size) : Sim s p (s.extract p s.size) where
  size := by rw [size_win s p s.size (Nat.le_refl _)]; omega
  byte := fun j hj => by rw [size_win s p s.size (Nat.le_refl _)] at hj; rw [bt_win s p s.size j (Nat.le_refl _) (by omega)]
  stop := .inl (by rw [size_win s p s.size (Nat.le_refl _)]; omega)
theorem tok_end (s : ByteArray) (p : Nat) (hp : p < s.size) : tok s p = (tok (s.extract p s.size) 0).move p ∧ rdS (s.extract p s.size) 0 = rdS s p := by
  have hz := size_win s p s.size (Nat.le_refl _)
  have := tok_sim (sim_end s p (Nat.le_of_lt hp)) (p := 0) (by omega)
  have hr := rd_sim (sim_end s p (Nat.le_of_lt hp)) 0 (by omega)
  exact ⟨this, hr.symm⟩
theorem Tryd.infoWord : (Tryd.prog.info? 76).map (fun i => (i.zero, i.size, i.bytes)) = some (some (wordV 0 emp 0 0 0), 5, 48) := by kernel_rfl
theorem wp_pushW {ops : Array Oper} {rest : List Oper} {o : Oper} {a : Act} {Q : Exit → Act → World → Prop} (Wc : World) (base : Nat) (hgd : o.guard = none) (s x : Operand)
    (ho : o.op = .call { callee := .builtin .append, args := #[s, x], argTypes := #[62, 62] }) (v : Value) (n : Nat) (O : List FW) (hs : a.eval s = v) (g : Nat) (d : FW) (hx : a.eval x = .slice (some ⟨g, 0, none⟩) 1 1)
    (hown : Wc.ownsRow base 76 5 v n (O.flatMap FW.cells)) (hcell : ∀ i, i < 5 → Wc.cell? ⟨g, i, none⟩ = d.cells[i]?) (hbase : base ≤ Wc.heap.size) (hk : n ≤ 4096)
    (h : ∀ v' w', w'.ownsRow base 76 5 v' (n + 1) ((O ++ [d]).flatMap FW.cells) → Below base Wc w' → wpList Tryd.prog ops Q rest (a.put o.dst v') w') : wpList Tryd.prog ops Q (o :: rest) a Wc := by
  obtain ⟨i0, hi, hz0, hz1, hz2⟩ := info_parts Tryd.infoWord
  refine wpList_append_own _ hgd s x 62 ho base 76 i0 _ 5 48 Tryd.underlying62 hi hz0 hz1 hz2 rfl (by decide) _ n _ hs hown ⟨g, 0, none⟩ 1 1 d.cells hx rfl ?_ ?_ (by unfold maxLen; omega) (by omega) hbase ?_
  · intro j u hj
    have hj5 : j < 5 := by
      have := (List.getElem?_eq_some_iff.1 hj).1
      exact this
    have := hcell j hj5
    rw [hj] at this
    rcases Nat.eq_zero_or_pos j with rfl | hp
    · exact this
    · simpa [Addr.add, Nat.ne_of_gt hp] using this
  · intro u hu
    simp only [FW.cells, List.mem_cons, List.not_mem_nil, or_false] at hu
    rcases hu with rfl | rfl | rfl | rfl | rfl <;> rfl
  · intro v' w' h1 h2 _
    refine h v' w' (by rw [List.flatMap_append]; simpa using h1) ((Below.refl base Wc).grown h2 hbase ?_)
    intro q hq
    have := hown.lt q hq
    omega
end Go.Proofs.YtabfhdmcljdjhaaDoor.Gl
/- What lex.Words must answer, as a statement on the call; the law's fixed and the walk of LexKinds out of it. -/
namespace Go.Proofs.YtabfhdmcljdjhaaDoor.Gl
open Go.RowKit
set_option linter.unusedVariables false

theorem Tryd.infoU8 : (Tryd.prog.info? 5).map (fun i => (i.zero, i.size, i.bytes)) = some (some (.int .u8 0), 1, 1) := by kernel_rfl
theorem flat_get (ws : List FW) (i r : Nat) (hr : r < 5) (hi : i < ws.length) : (ws.flatMap FW.cells)[i * 5 + r]? = (ws.getD i default).cells[r]? := by
  induction ws generalizing i with
  | nil => simp at hi
  | cons x ws ih =>
    have hx : x.cells.length = 5 := rfl
    rw [List.flatMap_cons]
    cases i with
    | zero =>
      rw [Nat.zero_mul, Nat.zero_add, List.getElem?_append_left (by omega)]
      rfl
    | succ i =>
      rw [List.getElem?_append_right (by omega), hx, show (i + 1) * 5 + r - 5 = i * 5 + r by omega, ih i (by simpa using hi)]
      rfl
theorem flat_len (ws : List FW) : (ws.flatMap FW.cells).length = ws.length * 5 := by
  induction ws with
  | nil => rfl
  | cons x ws ih =>
    rw [List.flatMap_cons, List.length_append, ih, List.length_cons]
    show 5 + ws.length * 5 = _
    omega
theorem rdw_of_owns {w : World} {base : Nat} {v : Value} {n : Nat} {ws : List FW} (hn : ws.length = n) (h : w.ownsRow base 76 5 v n (ws.flatMap FW.cells)) : ∃ ro cr, v = .slice ro n cr ∧ RdW w ro n cr ws := by
  have h' := h
  obtain ⟨hl, hv⟩ := h'
  rcases hv with ⟨rfl, hz⟩ | ⟨g, cap, cur, rfl, hg, hh, hnc, hcm, hcs, hx⟩
  · subst hz
    exact ⟨none, 0, rfl, hn, Nat.le_refl _, by omega, fun _ => rfl, fun i hi => by omega⟩
  · refine ⟨some ⟨g, 0, none⟩, cap, rfl, hn, hnc, hcm, (fun h => nomatch h), (fun i hi => ⟨g, 0, rfl, (Array.getElem?_eq_some_iff.1 hh).1, ?_⟩)⟩
    have key : ∀ r, r < 5 → w.cell? ⟨g, i * 5 + r, none⟩ = (ws.getD i default).cells[r]? := fun r hr => by
      rw [h.cellAt (i * 5 + r) (by omega), flat_get ws i r hr (by omega)]
    simp only [Nat.zero_add]
    exact ⟨key 0 (by omega), key 1 (by omega), key 2 (by omega), key 3 (by omega), key 4 (by omega)⟩
abbrev fau (c b k : Nat) : Value := .agg #[.int .i64 c, .int .i64 b, .int .i64 k]
/-- what lex.Words answers -/
structure LexC : Prop where
  long : ∀ (s : ByteArray) (w : World), Sg w → 4096 < s.size → s.size ≤ 9223372036854775807 → Calls Tryd.prog 19 #[.string s] w fun e w' => ∃ v, e = .returned (.tuple #[v, fau 70 0 0]) ∧ w'.ownsRow w.heap.size 76 5 v 0 [] ∧ Below w.heap.size w w'
  good : ∀ (s : ByteArray) (a : List Wd) (w : World), Sg w → s.size ≤ 4096 → Lx s 0 a none → Calls Tryd.prog 19 #[.string s] w fun e w' => ∃ v, e = .returned (.tuple #[v, fau 0 0 0]) ∧ w'.ownsRow w.heap.size 76 5 v a.length ((a.map (full s)).flatMap FW.cells) ∧ Below w.heap.size w w'
  bad : ∀ (s : ByteArray) (a : List Wd) (c p : Nat) (w : World), Sg w → s.size ≤ 4096 → Lx s 0 a (some (c, p)) → Calls Tryd.prog 19 #[.string s] w fun e w' => ∃ v, e = .returned (.tuple #[v, fau c p (cnt (s.extract 0 p))]) ∧ w'.ownsRow w.heap.size 76 5 v 0 [] ∧ Below w.heap.size w w'
abbrev fxt : ByteArray := ⟨#[120, 49, 32, 60, 61, 32, 48, 55]⟩
def Tk.isW (t : Tk) (k : Nat) (x : ByteArray) (v q : Nat) : Bool := match t with
  | .word k' y v' q' => k' == k && y.toList == x.toList && v' == v && q' == q
  | _ => false
def Tk.isB : Tk → Bool
  | .blank => true
  | _ => false
theorem Tk.of_isW {t : Tk} {k v q : Nat} {x : ByteArray} (h : t.isW k x v q = true) : t = .word k x v q := by
  unfold Tk.isW at h
  split at h
  · simp only [Bool.and_eq_true, beq_iff_eq] at h
    obtain ⟨⟨⟨h1, h2⟩, h3⟩, h4⟩ := h
    rw [h1, toList_inj h2, h3, h4]
  · cases h
theorem Tk.of_isB {t : Tk} (h : t.isB = true) : t = .blank := by
  cases t with
  | blank => rfl
  | bad e => cases h
  | word _ _ _ _ => cases h
theorem fx_lx : Lx fxt 0 [⟨0, ⟨#[120, 49]⟩, 0, 0⟩, ⟨2, ⟨#[60, 61]⟩, 0, 3⟩, ⟨1, emp, 7, 6⟩] none :=
  .word (by decide) (Tk.of_isW (q := 2) (by decide +kernel)) (.blank (by decide) (Tk.of_isB (by decide +kernel)) (.word (by decide) (Tk.of_isW (q := 5) (by decide +kernel)) (.blank (by decide) (Tk.of_isB (by decide +kernel)) (.word (by decide) (Tk.of_isW (q := 8) (by decide +kernel)) (.done (by decide))))))
theorem fx_full : ([⟨0, ⟨#[120, 49]⟩, 0, 0⟩, ⟨2, ⟨#[60, 61]⟩, 0, 3⟩, ⟨1, emp, 7, 6⟩] : List Wd).map (full fxt) = [⟨0, ⟨#[120, 49]⟩, 0, 0, 0⟩, ⟨2, ⟨#[60, 61]⟩, 0, 3, 3⟩, ⟨1, emp, 7, 6, 6⟩] := by
  have h0 : cnt (fxt.extract 0 0) = 0 := by decide +kernel
  have h3 : cnt (fxt.extract 0 3) = 3 := by decide +kernel
  have h6 : cnt (fxt.extract 0 6) = 6 := by decide +kernel
  simp only [List.map_cons, List.map_nil, full, h0, h3, h6]
theorem fx_cells {w : World} {ao : Option Addr} {c : Nat} (h : RdW w ao 3 c [⟨0, ⟨#[120, 49]⟩, 0, 0, 0⟩, ⟨2, ⟨#[60, 61]⟩, 0, 3, 3⟩, ⟨1, emp, 7, 6, 6⟩]) : ∃ g o, ao = some ⟨g, o, none⟩ ∧ g < w.heap.size ∧ w.cell? ⟨g, o + 1, none⟩ = some (.string ⟨#[120, 49]⟩) ∧ w.cell? ⟨g, o + 5, none⟩ = some (.int .i64 2) ∧ w.cell? ⟨g, o + 6, none⟩ = some (.string ⟨#[60, 61]⟩) ∧ w.cell? ⟨g, o + 7, none⟩ = some (.int .i64 0) ∧ w.cell? ⟨g, o + 8, none⟩ = some (.int .i64 3) ∧ w.cell? ⟨g, o + 9, none⟩ = some (.int .i64 3) ∧ w.cell? ⟨g, o + 12, none⟩ = some (.int .i64 7) := by
  obtain ⟨g, o, rfl, hg, p0, p1, p2, p3, p4⟩ := h.cell 0 (by omega)
  obtain ⟨g1, o1, e1, _, q0, q1, q2, q3, q4⟩ := h.cell 1 (by omega)
  obtain ⟨g2, o2, e2, _, r0, r1, r2, r3, r4⟩ := h.cell 2 (by omega)
  simp only [Option.some.injEq, Addr.mk.injEq, and_true] at e1 e2
  obtain ⟨rfl, rfl⟩ := e1
  obtain ⟨rfl, rfl⟩ := e2
  exact ⟨g, o, rfl, hg, p1, q0, q1, q2, q3, q4, r2⟩
theorem made_u8 (m : Nat) : ∀ x ∈ (madeCells (Value.int .u8 0).cells (m * 1)).toList, ∃ z : Nat, z < 256 ∧ x = .int .u8 z := by
  intro x hx
  have : (madeCells (Value.int .u8 0).cells (m * 1)).toList = List.replicate (m * 1) (.int .u8 0) := toList_madeCells_one _ _
  rw [this] at hx
  exact ⟨0, by omega, (List.mem_replicate.1 hx).2⟩
/-- 'string(b)' of a row of bytes: a text of as many -/
theorem conv_row {w : World} {base g m : Nat} {xs : List Value} (h : w.ownsRow base 5 1 (.slice (some ⟨g, 0, none⟩) m m) m xs) (hx : ∀ x ∈ xs, ∃ z : Nat, z < 256 ∧ x = .int .u8 z) :
    ∃ t : ByteArray, t.size = m ∧ (convert 97 9 (.slice (some ⟨g, 0, none⟩) m m)).run Tryd.prog w = .ok (.string t) w := by
  have hl := h.1
  obtain ⟨ns, hns⟩ : ∃ ns : List Int, xs = ns.map (Value.int .u8) := by
    clear hl h
    induction xs with
    | nil => exact ⟨[], rfl⟩
    | cons x xs ih =>
      obtain ⟨ns, e⟩ := ih (fun y hy => hx y (List.mem_cons_of_mem _ hy))
      obtain ⟨z, _, ez⟩ := hx x (List.mem_cons_self ..)
      exact ⟨(z : Int) :: ns, by rw [List.map_cons, e, ez]⟩
  have hload := run_loadCells_list (P := Tryd.prog) (w := w) ⟨g, 0, none⟩ xs (h.cells rfl)
  rw [hl, Nat.mul_one] at hload
  rw [run_convert_bytes_string _ 97 9 5 _ _ _ Tryd.underlying97 Tryd.underlying5 Tryd.underlying9, run_bytesToString w ⟨g, 0, none⟩ m m ns (by rw [hload, hns])]
  refine ⟨_, ?_, rfl⟩
  have key : ∀ (ns : List Int) (b : ByteArray), (ns.foldl (fun r n => r.push (UInt8.ofNat n.toNat)) b).size = b.size + ns.length := by
    intro ns
    induction ns with
    | nil => intro b; rfl
    | cons n ns ih => intro b; rw [List.foldl_cons, ih, ByteArray.size_push, List.length_cons]; omega
  rw [key]
  rw [hns, List.length_map] at hl
  show 0 + ns.length = m
  omega
end Go.Proofs.YtabfhdmcljdjhaaDoor.Gl
