/- Numbers as strconv.ParseInt reads them; number; nameOrReserved. -/
import Derived.Test.YthimmohbedaimaaDoorLyA
import Derived.Test.YthimmohbedaimaaDoorLyS
namespace Go.Proofs.YthimmohbedaimaaDoor.Gl
open Go.RowKit
set_option linter.unusedVariables false

/-- the number that digits write -/
def dv (acc : Nat) : List UInt8 → Nat
  | [] => acc
  | c :: r => dv (acc * 10 + (c.toNat - 48)) r
theorem dv_le (l : List UInt8) (acc : Nat) : acc ≤ dv acc l := by
  induction l generalizing acc with
  | nil => exact Nat.le_refl _
  | cons c r ih => exact Nat.le_trans (by omega) (ih (acc * 10 + (c.toNat - 48)))
theorem dv_snoc (l : List UInt8) (c : UInt8) (acc : Nat) : dv acc (l ++ [c]) = 10 * dv acc l + (c.toNat - 48) := by
  induction l generalizing acc with
  | nil => show acc * 10 + (c.toNat - 48) = _; show _ = 10 * acc + _; omega
  | cons d r ih => exact ih _
theorem val_dv (s : ByteArray) : ∀ n, n ≤ s.size → valF s 0 n = dv 0 (s.data.toList.take n)
  | 0, _ => rfl
  | n + 1, h => by
    have hl : n < s.data.toList.length := by rw [← Lib.size_eq]; omega
    rw [valF, val_dv s n (by omega), List.take_succ_eq_append_getElem hl, dv_snoc, Nat.zero_add, bt_of s n (by omega)]
    rfl
theorem val_all (s : ByteArray) : valF s 0 s.size = dv 0 s.data.toList := by
  rw [val_dv s s.size (Nat.le_refl _), List.take_of_length_le (by rw [← Lib.size_eq]; exact Nat.le_refl _)]
theorem uint_dv (M : Nat) (hM : M ≤ 18446744073709551615) (l : List UInt8) (hl : ∀ c ∈ l, 48 ≤ c.toNat ∧ c.toNat ≤ 57) (acc : Nat) :
    (Lib.parseUintM M acc l = .ok (dv acc l)) ∨ (Lib.parseUintM M acc l = .range ∧ M < dv acc l) := by
  induction l generalizing acc with
  | nil => exact .inl rfl
  | cons c r ih =>
    have hc := hl c (List.mem_cons_self ..)
    rw [Lib.parseUintM, if_pos hc]
    have hle := dv_le r (acc * 10 + (c.toNat - 48))
    split
    · exact .inr ⟨rfl, by show M < dv _ r; omega⟩
    · split
      · exact .inr ⟨rfl, by show M < dv _ r; omega⟩
      · exact ih (fun d hd => hl d (List.mem_cons_of_mem _ hd)) _
def Digs (t : ByteArray) : Prop := 0 < t.size ∧ ∀ j, j < t.size → 48 ≤ bt t j ∧ bt t j ≤ 57
theorem digs_mem {t : ByteArray} (h : Digs t) : ∀ c ∈ t.data.toList, 48 ≤ c.toNat ∧ c.toNat ≤ 57 := by
  intro c hc
  obtain ⟨j, hj, rfl⟩ := List.getElem_of_mem hc
  have hj' : j < t.size := by rw [Lib.size_eq]; exact hj
  have := h.2 j hj'
  rw [bt_of t j hj'] at this
  exact this
theorem parse_digs {t : ByteArray} (h : Digs t) : (valF t 0 t.size ≤ 9223372036854775807 → Lib.parseIntB 64 t.data.toList = .ok ((valF t 0 t.size : Nat) : Int)) ∧ (9223372036854775807 < valF t 0 t.size → Lib.parseIntB 64 t.data.toList = .range) := by
  have hm := digs_mem h
  have hne : 0 < t.data.toList.length := by rw [← Lib.size_eq]; exact h.1
  rw [val_all]
  generalize t.data.toList = l at *
  cases l with
  | nil => simp at hne
  | cons c r =>
    have hc := hm c (List.mem_cons_self ..)
    rw [Lib.parseIntB_plain 64 c r (by omega) (by omega)]
    have e : Lib.parseUintB 64 (c :: r) = Lib.parseUintM 18446744073709551615 0 (c :: r) := rfl
    rw [e]
    have e2 : (2 : Nat) ^ (64 - 1) = 9223372036854775808 := by decide
    rw [e2]
    rcases uint_dv 18446744073709551615 (Nat.le_refl _) (c :: r) hm 0 with h1 | ⟨h1, h2⟩
    · rw [h1]
      constructor
      · intro hle
        show (if _ then _ else _) = _
        rw [if_neg (by omega)]
      · intro hlt
        show (if _ then _ else _) = _
        rw [if_pos (by omega)]
    · rw [h1]
      constructor
      · intro hle; omega
      · intro _; rfl
theorem ba2 {w : World} {o : Obj} {w2 : World} (h : Below (w.alloc o).heap.size (w.alloc o) w2) : Below w.heap.size w w2 := ((Below.refl _ _).alloc (Nat.le_refl _) o).trans (h.mono (by simp))
set_option maxHeartbeats 1000000 in
theorem number_ok (t : ByteArray) (v : Nat) (w : World) (hd : Digs t) (ht : t.size ≤ 4096) (hv : valF t 0 t.size = v) (h : v ≤ 9223372036854775807) :
    Calls Tryd.prog 23 #[.string t] w fun e w' => e = .returned (.tuple #[wordV 1 emp v 0 0, .int .i64 0]) ∧ Below w.heap.size w w' := by
  have PA : Hid (∀ w, Calls Tryd.prog 33 #[.string t, .int .i64 10, .int .i64 64] w fun e w' => e = .returned (.tuple #[.int .i64 (v : Int), .nilIface]) ∧ Below w.heap.size w w') := fun w =>
    (parse_lib_ok t (by omega) _ (by rw [(parse_digs hd).1 (by rw [hv]; exact h), hv]) w).mono fun e w' ⟨he, hw⟩ => ⟨he, by
      rcases hw with rfl | ⟨u, rfl⟩
      · exact Below.refl _ _
      · exact Lib.bytesWorld_below _ _ _⟩
  clear hv hd
  go_enter Tryd.func23, Tryd.ntmps23
  go_wp2_with (go_at_call 33; refine (PA.out _).mono ?_; rintro e w2 ⟨rfl, hB2⟩; obtain ⟨hc, hf⟩ := bcell hB2)
  refine bodyPost_ret (v := .tuple #[wordV 1 emp v 0 0, .int .i64 0]) (by simp [results, Tryd.results23, go_sem, hc]) rfl ⟨rfl, ?_⟩
  repeat refine Below.setCell ?_ (by simp) _
  exact ba2 hB2
set_option maxHeartbeats 1000000 in
theorem number_bad (t : ByteArray) (w : World) (hS : Sg w) (hd : Digs t) (ht : t.size ≤ 4096) (h : 9223372036854775807 < valF t 0 t.size) :
    Calls Tryd.prog 23 #[.string t] w fun e w' => e = .returned (.tuple #[wordV 0 emp 0 0 0, .int .i64 52]) ∧ Below w.heap.size w w' := by
  have PA : Hid (∀ w, Sg w → Calls Tryd.prog 33 #[.string t, .int .i64 10, .int .i64 64] w fun e w' => ∃ (z : Int) (N : Nat), e = .returned (.tuple #[.int .i64 z, .iface 64 (.pointer (some ⟨N, 0, none⟩))]) ∧ Below w.heap.size w w') := fun w hS => by
    obtain ⟨te, pe, hr⟩ := hS.range
    exact (parse_lib_range t (by omega) ((parse_digs hd).2 h) _ w hr (.inr ⟨te, pe, rfl⟩)).mono fun e w' ⟨N, he, _, _, hb⟩ => ⟨_, N, he, hb⟩
  clear hd h
  go_enter Tryd.func23, Tryd.ntmps23
  go_wp2_with (go_at_call 33; refine (PA.out _ (hS.alloc _)).mono ?_; rintro e w2 ⟨z, N, rfl, hB2⟩; obtain ⟨hc, hf⟩ := bcell hB2)
  refine bodyPost_ret (v := .tuple #[wordV 0 emp 0 0 0, .int .i64 52]) (by simp [results, Tryd.results23, go_sem, hc]) rfl ⟨rfl, ?_⟩
  repeat refine Below.setCell ?_ (by simp) _
  exact ba2 hB2
theorem clone_at (t : ByteArray) (w : World) (ht : t.size ≤ 4096) :
    Calls Tryd.prog 30 #[.string t] w fun e w' => e = .returned (.string t) ∧ Below w.heap.size w w' := by
  have K : Hid (∀ w, Calls Tryd.prog 34 #[.string t] w fun e w' => e = .returned (.string t) ∧ Below w.heap.size w w') := fun w => clone_lib t w (by omega)
  go_enter Tryd.func30, Tryd.ntmps30
  go_wp2_with (go_at_call 34; refine (K.out _).mono ?_; rintro e w2 ⟨rfl, hB2⟩)
  go_ret
  exact ⟨rfl, hB2⟩
set_option maxHeartbeats 1000000 in
theorem name_sign (t : ByteArray) (w : World) (ht : t.size ≤ 4096) (h : rsB t = true) :
    Calls Tryd.prog 21 #[.string t] w fun e w' => e = .returned (.tuple #[wordV 2 t 0 0 0, .int .i64 0]) ∧ Below w.heap.size w w' := by
  have CL : Hid (∀ w, Calls Tryd.prog 30 #[.string t] w fun e w' => e = .returned (.string t) ∧ Below w.heap.size w w') := fun w => clone_at t w ht
  have RS : Hid (∀ w, Calls Tryd.prog 31 #[.string t] w fun e w' => e = .returned (.bool true) ∧ w = w') := fun w => by rw [← h]; exact reserved_at t w
  have SG : Hid (∀ w, Calls Tryd.prog 25 #[.string t] w fun e w' => e = .returned (wordV 2 t 0 0 0) ∧ Below w.heap.size w w') := fun w => sign_at t w
  clear h
  go_enter Tryd.func21, Tryd.ntmps21
  go_wp2_with (first
    | (go_at_call 30; refine (CL.out _).mono ?_; rintro e w2 ⟨rfl, hB2⟩; obtain ⟨hc, hf⟩ := bcell hB2)
    | (go_at_call 31; refine (RS.out _).mono ?_; rintro e w3 ⟨rfl, rfl⟩)
    | (go_at_call 25; refine (SG.out _).mono ?_; rintro e w4 ⟨rfl, hB4⟩; obtain ⟨hc4, hf4⟩ := bcell (bt2 hB2 hB4)))
  refine bodyPost_ret (v := .tuple #[wordV 2 t 0 0 0, .int .i64 0]) (by simp [results, Tryd.results21, go_sem, hc4]) rfl ⟨rfl, ?_⟩
  repeat refine Below.setCell ?_ (by simp) _
  exact ba2 (bt2 hB2 hB4)
set_option maxHeartbeats 1000000 in
theorem name_name (t : ByteArray) (w : World) (ht : t.size ≤ 4096) (h : rsB t = false) (k c : Nat) (x : ByteArray) (b : Bool) (hb : b = true ↔ IsName t) (hx : (b = true ∧ x = t ∧ c = 0) ∨ (b = false ∧ x = emp ∧ c = 6)) :
    Calls Tryd.prog 21 #[.string t] w fun e w' => e = .returned (.tuple #[wordV 0 x 0 0 0, .int .i64 c]) ∧ Below w.heap.size w w' := by
  have CL : Hid (∀ w, Calls Tryd.prog 30 #[.string t] w fun e w' => e = .returned (.string t) ∧ Below w.heap.size w w') := fun w => clone_at t w ht
  have RS : Hid (∀ w, Calls Tryd.prog 31 #[.string t] w fun e w' => e = .returned (.bool false) ∧ w = w') := fun w => by rw [← h]; exact reserved_at t w
  have NM : Hid (∀ w, Calls Tryd.prog 32 #[.string t] w fun e w' => e = .returned (.bool b) ∧ Below w.heap.size w w') := fun w => name_at t b w (by omega) hb
  clear h hb
  rcases hx with ⟨rfl, rfl, rfl⟩ | ⟨rfl, rfl, rfl⟩
  · go_enter Tryd.func21, Tryd.ntmps21
    go_wp2_with (first
      | (go_at_call 30; refine (CL.out _).mono ?_; rintro e w2 ⟨rfl, hB2⟩; obtain ⟨hc, hf⟩ := bcell hB2)
      | (go_at_call 31; refine (RS.out _).mono ?_; rintro e w3 ⟨rfl, rfl⟩)
      | (go_at_call 32; refine (NM.out _).mono ?_; rintro e w4 ⟨rfl, hB4⟩; obtain ⟨hc4, hf4⟩ := bcell (bt2 hB2 hB4)))
    refine bodyPost_ret (v := .tuple #[wordV 0 x 0 0 0, .int .i64 0]) (by simp [results, Tryd.results21, go_sem, hc4]) rfl ⟨rfl, ?_⟩
    repeat refine Below.setCell ?_ (by simp) _
    exact ba2 (bt2 hB2 hB4)
  · go_enter Tryd.func21, Tryd.ntmps21
    go_wp2_with (first
      | (go_at_call 30; refine (CL.out _).mono ?_; rintro e w2 ⟨rfl, hB2⟩; obtain ⟨hc, hf⟩ := bcell hB2)
      | (go_at_call 31; refine (RS.out _).mono ?_; rintro e w3 ⟨rfl, rfl⟩)
      | (go_at_call 32; refine (NM.out _).mono ?_; rintro e w4 ⟨rfl, hB4⟩; obtain ⟨hc4, hf4⟩ := bcell (bt2 hB2 hB4)))
    refine bodyPost_ret (v := .tuple #[wordV 0 emp 0 0 0, .int .i64 6]) (by simp [results, Tryd.results21, go_sem, hc4]) rfl ⟨rfl, ?_⟩
    repeat refine Below.setCell ?_ (by simp) _
    exact ba2 (bt2 hB2 hB4)
end Go.Proofs.YthimmohbedaimaaDoor.Gl
