/- The law's digits, written. -/
import Derived.Test.YtabfhdmcljdjhaaDoorLxG
import Derived.Laws.BytesString
import Derived.Laws.Rows
namespace Go.Proofs.YtabfhdmcljdjhaaDoor.Gl
open Go.RowKit
set_option linter.unusedVariables false

theorem dec_len (n : Nat) : (decL n).length ≤ n / 2 + 1 := by
  induction n using Nat.strongRecOn with
  | _ n ih =>
    by_cases h : n < 10
    · rw [dec_lt h]; simp
    · have := ih (n / 10) (by omega)
      rw [dec_ge h, List.length_append]
      simp only [List.length_singleton]
      omega
theorem dec_part {n q : Nat} {t : List UInt8} (h : decL n = decL q ++ t) : t.length ≤ n / 2 := by
  have h1 := dec_len n
  have h2 := (dec_all q).1
  rw [h, List.length_append] at h1
  omega
theorem u8_add {r : Nat} (h : r < 10) : (48 : UInt8) + UInt8.ofNat r = UInt8.ofNat (48 + r) := by
  rw [← UInt8.toNat_inj, UInt8.toNat_add, u8_of (by omega), u8_of (by omega)]
  show (48 + r) % 256 = 48 + r
  omega
theorem str_cons {r : Nat} {t : List UInt8} (h : r < 10) : Value.string (⟨#[48 + UInt8.ofNat r]⟩ ++ ⟨t.toArray⟩) = .string ⟨(UInt8.ofNat (48 + r) :: t).toArray⟩ := by
  rw [u8_add h]
  congr 1
theorem conv_one (W : World) (c : Nat) (z : Int) (hz : z = (c : Int)) : (convert 97 9 (.slice (some ⟨W.heap.size, 0, none⟩) 1 1)).run Tryd.prog (W.alloc (.cells #[.int .u8 z] 5)) = .ok (.string ⟨#[UInt8.ofNat c]⟩) (W.alloc (.cells #[.int .u8 z] 5)) := by
  subst hz
  rw [run_convert_bytes_string _ 97 9 5 _ _ _ Tryd.underlying97 Tryd.underlying5 Tryd.underlying9]
  have hload := run_loadCells_list (P := Tryd.prog) (w := W.alloc (.cells #[.int .u8 (c : Int)] 5)) ⟨W.heap.size, 0, none⟩ [.int .u8 (c : Int)] (fun j v hj => by
    match j, hj with
    | 0, hj => simp at hj; subst hj; simp [Addr.add])
  rw [run_bytesToString _ ⟨W.heap.size, 0, none⟩ 1 1 [(c : Int)] (by simpa using hload)]
  rfl
end Go.Proofs.YtabfhdmcljdjhaaDoor.Gl
/- The program's variables; isDigit, sign, HasPrefix, run, longestSign. -/
namespace Go.Proofs.YtabfhdmcljdjhaaDoor.Gl
open Go.RowKit
set_option linter.unusedVariables false

abbrev sgnArr : Array Value := #[.string ⟨#[40]⟩, .string ⟨#[41]⟩, .string ⟨#[91]⟩, .string ⟨#[93]⟩, .string ⟨#[44]⟩, .string ⟨#[46]⟩, .string ⟨#[43]⟩, .string ⟨#[45]⟩, .string ⟨#[42]⟩, .string ⟨#[61]⟩, .string ⟨#[33, 61]⟩, .string ⟨#[60, 61]⟩, .string ⟨#[62, 61]⟩, .string ⟨#[60]⟩, .string ⟨#[62]⟩, .string ⟨#[45, 62]⟩, .string ⟨#[60, 45, 62]⟩, .string ⟨#[126]⟩]
/-- the variables hold what the text of the program lays -/
structure Sg (w : World) : Prop where
  signs : ∃ t fr, w.heap[0]? = some (.cells sgnArr t fr)
  range : ∃ te pe, w.cell? ⟨2, 0, none⟩ = some (.iface te pe)
theorem Sg.lt {w : World} (h : Sg w) : 0 < w.heap.size ∧ 2 < w.heap.size := by
  obtain ⟨t, fr, h1⟩ := h.signs
  obtain ⟨te, pe, h2⟩ := h.range
  exact ⟨(Array.getElem?_eq_some_iff.1 h1).1, World.block_lt_of_cell? _ _ h2⟩
theorem Sg.below {w w' : World} (h : Sg w) (hb : Below w.heap.size w w') : Sg w' := by
  obtain ⟨l1, l2⟩ := h.lt
  obtain ⟨t, fr, h1⟩ := h.signs
  obtain ⟨te, pe, h2⟩ := h.range
  exact ⟨⟨t, fr, (hb.block _ l1).trans h1⟩, ⟨te, pe, (hb.cell (p := ⟨2, 0, none⟩) l2).trans h2⟩⟩
theorem Sg.alloc {w : World} (h : Sg w) (o : Obj) : Sg (w.alloc o) := h.below ((Below.refl _ _).alloc (Nat.le_refl _) _)
theorem isdig_at (r : Nat) (w : World) :
    Calls Tryd.prog 43 #[.int .i32 r] w fun e w' => e = .returned (.bool (isDig r)) ∧ w = w' := by
  by_cases h : 48 ≤ r
  · by_cases h2 : r ≤ 57
    · have HE : Hid (isDig r = true) := by show decide _ = true; exact decide_eq_true ⟨h, h2⟩
      have k1 : (48 : Int) ≤ (r : Int) := by omega
      have k2 : (r : Int) ≤ 57 := by omega
      go_enter Tryd.func43, Tryd.ntmps43
      go_wp2
      go_ret
      exact ⟨retb HE.out.symm, rfl⟩
    · have HE : Hid (isDig r = false) := by show decide _ = false; exact decide_eq_false (fun hh => h2 hh.2)
      have k1 : (48 : Int) ≤ (r : Int) := by omega
      have k2 : decide ((r : Int) ≤ 57) = false := decide_eq_false (by omega)
      go_enter Tryd.func43, Tryd.ntmps43
      go_wp2
      go_ret
      exact ⟨retb HE.out.symm, rfl⟩
  · have HE : Hid (isDig r = false) := by show decide _ = false; exact decide_eq_false (fun hh => h hh.1)
    have k1 : decide ((48 : Int) ≤ (r : Int)) = false := decide_eq_false (by omega)
    go_enter Tryd.func43, Tryd.ntmps43
    go_wp2
    go_ret
    exact ⟨retb HE.out.symm, rfl⟩
abbrev wordV (k : Nat) (t : ByteArray) (v : Nat) (b c : Nat) : Value := .agg #[.int .i64 k, .string t, .int .i64 v, .int .i64 b, .int .i64 c]
theorem sign_at (t : ByteArray) (w : World) :
    Calls Tryd.prog 46 #[.string t] w fun e w' => e = .returned (wordV 2 t 0 0 0) ∧ Below w.heap.size w w' := by
  go_enter Tryd.func46, Tryd.ntmps46
  go_wp2
  exact bodyPost_ret (v := wordV 2 t 0 0 0) (by simp [results, Tryd.results46, go_sem]) rfl ⟨rfl, (Below.refl _ _).alloc (Nat.le_refl _) _⟩
/- HasPrefix -/
theorem fits_take (t x : ByteArray) (h : x.size ≤ t.size) : ((t.extract 0 x.size).toList == x.toList) = fits t 0 x := by
  rw [Bool.eq_iff_iff, fits_iff, beq_iff_eq]
  constructor
  · intro e
    have e' := toList_inj e
    refine ⟨by omega, fun j hj => ?_⟩
    rw [← e', bt_win t 0 x.size j h (by omega)]
  · rintro ⟨_, h2⟩
    have : t.extract 0 x.size = x.extract 0 x.size := extract_eq (Nat.le_refl _) h rfl (fun k hk => by simpa using h2 k (by omega))
    rw [this, extract_all]
theorem hp_at (t x : ByteArray) (w : World) (hs : t.size ≤ 9223372036854775807) :
    Calls Tryd.prog 50 #[.string t, .string x] w fun e w' => e = .returned (.bool (fits t 0 x)) ∧ w = w' := by
  by_cases h : x.size ≤ t.size
  · have HE : Hid (((t.extract 0 x.size).toList == x.toList) = fits t 0 x) := fits_take t x h
    have h1 : (x.size : Int) ≤ (t.size : Int) := by omega
    go_enter Tryd.func50, Tryd.ntmps50
    go_wp2
    go_ret
    exact ⟨retb HE.out, rfl⟩
  · have HE : Hid (false = fits t 0 x) := by
      show _ = _
      cases hf : fits t 0 x with
      | false => rfl
      | true => have := (fits_iff t 0 x).1 hf; omega
    have h1 : decide (x.size ≤ t.size) = false := decide_eq_false h
    go_enter Tryd.func50, Tryd.ntmps50
    go_wp2
    go_ret
    exact ⟨retb HE.out, rfl⟩
theorem hasprefix_at (t x : ByteArray) (w : World) (hs : t.size ≤ 9223372036854775807) :
    Calls Tryd.prog 38 #[.string t, .string x] w fun e w' => e = .returned (.bool (fits t 0 x)) ∧ w = w' := by
  have K : Hid (∀ w, Calls Tryd.prog 50 #[.string t, .string x] w fun e w' => e = .returned (.bool (fits t 0 x)) ∧ w = w') := fun w => hp_at t x w hs
  generalize fits t 0 x = b at *
  go_enter Tryd.func38, Tryd.ntmps38
  go_wp2_with (go_at_call 50; refine (K.out _).mono ?_; rintro e w2 ⟨rfl, rfl⟩)
  go_ret
  exact ⟨rfl, rfl⟩
/- run -/
theorem ok_of_dig {s : ByteArray} {p : Nat} (h : isDig (rdS s p).1 = true) : (rdS s p).2.2 = true := by
  have : (rdS s p).1 < 128 := by
    have := of_decide_eq_true h
    omega
  exact (rd_ascii this).2.2
theorem RunTo.snoc {P : Nat → Bool} {s : ByteArray} {p q : Nat} (h : RunTo P s p q) (h1 : q < s.size) (h2 : (rdS s q).2.2 = true) (h3 : P (rdS s q).1 = true) : RunTo P s p (q + (rdS s q).2.1) := by
  induction h with
  | nil => exact .cons h1 h2 h3 (.nil _)
  | cons a b c _ ih => exact .cons a b c (ih h1 h2 h3)
set_option maxHeartbeats 1000000 in
theorem runre_at (s : ByteArray) (w : World) (hs : s.size ≤ 9223372036854775807) :
    Calls Tryd.prog 40 #[.string s, .func (.func 41) #[] #[]] w fun e w' => e = .returned (.string (s.extract 0 (run reN s 0))) ∧ Below w.heap.size w w' := by
  have PR : Hid (∀ (r : Nat) w, Calls Tryd.prog 41 #[.int .i32 r] w fun e w' => e = .returned (.bool (reN r)) ∧ w = w') := fun r w => rest_at (r : Nat) w
  go_enter Tryd.func40, Tryd.ntmps40
  go_wp2
  go_loopw [] (fun wr => ∃ p : Nat, wr = w.iter s p ∧ p ≤ s.size ∧ Hid (RunTo reN s 0 p)) (fun wr => s.size - wr.iterPos w.heap.size)
  case atStart => exact ⟨0, rfl, Nat.zero_le _, .nil 0⟩
  case round =>
    obtain ⟨p, rfl, hle, hrun⟩ := hrel
    by_cases hlt : p < s.size
    · obtain ⟨hb1, hb2, hb3⟩ := rd_bd s p hlt
      have HY : Hid (reN (rdS s p).1 = true → RunTo reN s 0 (p + (rdS s p).2.1)) := fun h => hrun.out.snoc hlt (ok_of_re h) h
      have HN : Hid (reN (rdS s p).1 = false → s.extract 0 p = s.extract 0 (run reN s 0)) := fun h => by
        rw [run_is hrun.out (fun hc => by rw [h] at hc; exact absurd hc.2.2 (by decide))]
      have hnx := next_at w s p _ _ hlt rfl rfl
      have P0 : Hid (∀ w, Calls Tryd.prog 41 #[.int .i32 ((rdS s p).1 : Nat)] w fun e w' => e = .returned (.bool (reN (rdS s p).1)) ∧ w = w') := PR.out (rdS s p).1
      generalize hr : (rdS s p).1 = r at *
      generalize hw : (rdS s p).2.1 = wd at *
      clear hr hw PR
      cases hc : reN r with
      | true =>
        rw [hc] at P0
        have HY' := HY.out hc
        clear HY HN hc hrun
        go_wp2_with (go_at_call 41; refine (P0.out _).mono ?_; rintro e w2 ⟨rfl, rfl⟩)
        go_roundw
        case rel => exact ⟨p + wd, rfl, hb2, HY'⟩
        case measure => simp only [World.iterPos_iter]; omega
      | false =>
        rw [hc] at P0
        have HE : Hid (s.extract 0 p = s.extract 0 (run reN s 0)) := HN.out hc
        clear HY HN hc hrun
        go_wp2_with (go_at_call 41; refine (P0.out _).mono ?_; rintro e w2 ⟨rfl, rfl⟩)
        go_ret
        exact ⟨congrArg (fun x => Ending.returned (.string x)) HE.out, iter_below _ _ _⟩
    · have HE : Hid (s = s.extract 0 (run reN s 0)) := by
        show _ = _
        rw [run_is hrun.out (fun hc => hlt hc.1), show p = s.size by omega, extract_all]
      have hnx := fun ty => run_next_end (P := Tryd.prog) w s p ty hlt
      clear hrun
      go_wp2
      go_ret
      exact ⟨congrArg (fun x => Ending.returned (.string x)) HE.out, iter_below _ _ _⟩
set_option maxHeartbeats 1000000 in
theorem rundig_at (s : ByteArray) (w : World) (hs : s.size ≤ 9223372036854775807) :
    Calls Tryd.prog 40 #[.string s, .func (.func 43) #[] #[]] w fun e w' => e = .returned (.string (s.extract 0 (run isDig s 0))) ∧ Below w.heap.size w w' := by
  have PR : Hid (∀ (r : Nat) w, Calls Tryd.prog 43 #[.int .i32 r] w fun e w' => e = .returned (.bool (isDig r)) ∧ w = w') := fun r w => isdig_at r w
  go_enter Tryd.func40, Tryd.ntmps40
  go_wp2
  go_loopw [] (fun wr => ∃ p : Nat, wr = w.iter s p ∧ p ≤ s.size ∧ Hid (RunTo isDig s 0 p)) (fun wr => s.size - wr.iterPos w.heap.size)
  case atStart => exact ⟨0, rfl, Nat.zero_le _, .nil 0⟩
  case round =>
    obtain ⟨p, rfl, hle, hrun⟩ := hrel
    by_cases hlt : p < s.size
    · obtain ⟨hb1, hb2, hb3⟩ := rd_bd s p hlt
      have HY : Hid (isDig (rdS s p).1 = true → RunTo isDig s 0 (p + (rdS s p).2.1)) := fun h => hrun.out.snoc hlt (ok_of_dig h) h
      have HN : Hid (isDig (rdS s p).1 = false → s.extract 0 p = s.extract 0 (run isDig s 0)) := fun h => by
        rw [run_is hrun.out (fun hc => by rw [h] at hc; exact absurd hc.2.2 (by decide))]
      have hnx := next_at w s p _ _ hlt rfl rfl
      have P0 : Hid (∀ w, Calls Tryd.prog 43 #[.int .i32 ((rdS s p).1 : Nat)] w fun e w' => e = .returned (.bool (isDig (rdS s p).1)) ∧ w = w') := PR.out (rdS s p).1
      generalize hr : (rdS s p).1 = r at *
      generalize hw : (rdS s p).2.1 = wd at *
      clear hr hw PR
      cases hc : isDig r with
      | true =>
        rw [hc] at P0
        have HY' := HY.out hc
        clear HY HN hc hrun
        go_wp2_with (go_at_call 43; refine (P0.out _).mono ?_; rintro e w2 ⟨rfl, rfl⟩)
        go_roundw
        case rel => exact ⟨p + wd, rfl, hb2, HY'⟩
        case measure => simp only [World.iterPos_iter]; omega
      | false =>
        rw [hc] at P0
        have HE : Hid (s.extract 0 p = s.extract 0 (run isDig s 0)) := HN.out hc
        clear HY HN hc hrun
        go_wp2_with (go_at_call 43; refine (P0.out _).mono ?_; rintro e w2 ⟨rfl, rfl⟩)
        go_ret
        exact ⟨congrArg (fun x => Ending.returned (.string x)) HE.out, iter_below _ _ _⟩
    · have HE : Hid (s = s.extract 0 (run isDig s 0)) := by
        show _ = _
        rw [run_is hrun.out (fun hc => hlt hc.1), show p = s.size by omega, extract_all]
      have hnx := fun ty => run_next_end (P := Tryd.prog) w s p ty hlt
      clear hrun
      go_wp2
      go_ret
      exact ⟨congrArg (fun x => Ending.returned (.string x)) HE.out, iter_below _ _ _⟩
end Go.Proofs.YtabfhdmcljdjhaaDoor.Gl
