/- The law's digits, written. -/
import Derived.Test.YthimmohbedaimaaDoorLxG
import Derived.Laws.BytesString
namespace Go.Proofs.YthimmohbedaimaaDoor.Gl
open Go.RowKit
set_option linter.unusedVariables false

theorem dec_len (n : Nat) : (decL n).length ≤ n / 2 + 1 := by
  induction n using Nat.strongRecOn with
  | _ n ih =>
    by_cases h : n < 10
    · rw [dec_lt h]; simp
    · have := ih (n / 10) (by omega)
      rw [dec_ge h, List.length_append]
      simp only [List.length_singleton]
      omega
theorem dec_part {n q : Nat} {t : List UInt8} (h : decL n = decL q ++ t) : t.length ≤ n / 2 := by
  have h1 := dec_len n
  have h2 := (dec_all q).1
  rw [h, List.length_append] at h1
  omega
theorem u8_add {r : Nat} (h : r < 10) : (48 : UInt8) + UInt8.ofNat r = UInt8.ofNat (48 + r) := by
  rw [← UInt8.toNat_inj, UInt8.toNat_add, u8_of (by omega), u8_of (by omega)]
  show (48 + r) % 256 = 48 + r
  omega
theorem str_cons {r : Nat} {t : List UInt8} (h : r < 10) : Value.string (⟨#[48 + UInt8.ofNat r]⟩ ++ ⟨t.toArray⟩) = .string ⟨(UInt8.ofNat (48 + r) :: t).toArray⟩ := by
  rw [u8_add h]
  congr 1
theorem conv_one (W : World) (c : Nat) (z : Int) (hz : z = (c : Int)) : (convert 23 9 (.slice (some ⟨W.heap.size, 0, none⟩) 1 1)).run Tryd.prog (W.alloc (.cells #[.int .u8 z] 5)) = .ok (.string ⟨#[UInt8.ofNat c]⟩) (W.alloc (.cells #[.int .u8 z] 5)) := by
  subst hz
  rw [run_convert_bytes_string _ 23 9 5 _ _ _ Tryd.underlying23 Tryd.underlying5 Tryd.underlying9]
  have hload := run_loadCells_list (P := Tryd.prog) (w := W.alloc (.cells #[.int .u8 (c : Int)] 5)) ⟨W.heap.size, 0, none⟩ [.int .u8 (c : Int)] (fun j v hj => by
    match j, hj with
    | 0, hj => simp at hj; subst hj; simp [Addr.add])
  rw [run_bytesToString _ ⟨W.heap.size, 0, none⟩ 1 1 [(c : Int)] (by simpa using hload)]
  rfl
set_option maxHeartbeats 1000000 in
theorem digits_at (n : Nat) (w : World) (hn : n ≤ 9223372036854775807) :
    Calls Tryd.prog 15 #[.int .i64 n] w fun e w' => e = .returned (.string (dec n)) ∧ Below w.heap.size w w' := by
  go_enter Tryd.func15, Tryd.ntmps15
  go_wp2
  go_loopw [0, 3] (fun a b wr => ∃ (q : Nat) (t : List UInt8), q ≤ n ∧ a = .int .i64 q ∧ b = .string ⟨t.toArray⟩ ∧ Hid (decL n = decL q ++ t) ∧ Below w.heap.size w wr) (fun a _ _ => (intOf a).toNat)
  case atStart => exact ⟨n, [], Nat.le_refl _, rfl, rfl, by show _ = _; simp, Below.refl _ _⟩
  case round =>
    obtain ⟨q, t, hq, rfl, rfl, hinv, hB⟩ := hrel
    have htl := dec_part hinv.out
    by_cases h9 : 9 < q
    · have hc := fun z hz => conv_one wr (48 + q % 10) z hz
      have HI : Hid (decL n = decL (q / 10) ++ (UInt8.ofNat (48 + q % 10) :: t)) := by
        show _ = _
        rw [hinv.out, dec_ge (by omega), List.append_assoc]
        rfl
      go_wp2
      go_roundw
      case rel => exact ⟨q / 10, UInt8.ofNat (48 + q % 10) :: t, by omega, congrArg (Value.int .i64) (by omega), str_cons (by omega), HI, bta hB _⟩
      case measure => simp [intOf]; omega
    · have hc := fun z hz => conv_one wr (48 + q) z hz
      have HI : Hid (decL n = UInt8.ofNat (48 + q) :: t) := by
        show _ = _
        rw [hinv.out, dec_lt (by omega)]
        rfl
      go_wp2
      go_ret
      refine ⟨?_, bta hB _⟩
      unfold dec
      rw [HI.out]
      exact congrArg Ending.returned (str_cons (by omega))
theorem written_at (x : FW) (w : World) (hn : x.num ≤ 9223372036854775807) :
    Calls Tryd.prog 9 #[x.val] w fun e w' => e = .returned (.string (if x.kind = 1 then dec x.num else x.text)) ∧ Below w.heap.size w w' := by
  obtain ⟨k, t, v, b, c⟩ := x
  dsimp only at hn
  unfold FW.val
  dsimp only
  have DG : Hid (∀ w, Calls Tryd.prog 15 #[.int .i64 v] w fun e w' => e = .returned (.string (dec v)) ∧ Below w.heap.size w w') := fun w => digits_at v w hn
  have hB0 := bta (Below.refl w.heap.size w) (.cells #[.int .i64 k, .string t, .int .i64 v, .int .i64 b, .int .i64 c] 35)
  by_cases hk : k = 1
  · subst hk
    rw [if_pos rfl]
    go_enter Tryd.func9, Tryd.ntmps9
    go_wp2_with (go_at_call 15; refine (DG.out _).mono ?_; rintro e w2 ⟨rfl, hB2⟩)
    go_ret
    exact ⟨rfl, bt2 hB0 hB2⟩
  · rw [if_neg hk]
    have hk' : ((k : Int) == 1) = false := by simp; omega
    go_enter Tryd.func9, Tryd.ntmps9
    go_wp2
    go_ret
    exact ⟨rfl, hB0⟩
end Go.Proofs.YthimmohbedaimaaDoor.Gl
