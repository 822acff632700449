/- The document's Number and held. -/
import Derived.Test.YtncgmnijgdfenaaDoorShO
import Derived.Laws.BytesString
namespace Go.Proofs.YtncgmnijgdfenaaDoor.Gl
open Go Go.RowKit
set_option linter.unusedVariables false
set_option linter.unusedSimpArgs false

/-- the digits but the last -/
def preL (q : Nat) : List UInt8 := if q < 10 then [] else decL (q / 10)
theorem dec_pre (q : Nat) : decL q = preL q ++ [UInt8.ofNat (48 + q % 10)] := by
  unfold preL
  by_cases h : q < 10
  · rw [if_pos h, dec_lt h, Nat.mod_eq_of_lt h]; rfl
  · rw [if_neg h, ← dec_ge h]
theorem nconv (W : World) (c : Nat) (z : Int) (hz : z = (c : Int)) : (convert 59 9 (.slice (some ⟨W.heap.size, 0, none⟩) 1 1)).run Tryd.prog (W.alloc (.cells #[.int .u8 z] 5)) = .ok (.string ⟨#[UInt8.ofNat c]⟩) (W.alloc (.cells #[.int .u8 z] 5)) := by
  subst hz
  rw [run_convert_bytes_string _ 59 9 5 _ _ _ Tryd.underlying59 Tryd.underlying5 Tryd.underlying9]
  have hload := run_loadCells_list (P := Tryd.prog) (w := W.alloc (.cells #[.int .u8 (c : Int)] 5)) ⟨W.heap.size, 0, none⟩ [.int .u8 (c : Int)] (fun j v hj => by
    match j, hj with
    | 0, hj => simp at hj; subst hj; simp [Addr.add])
  rw [run_bytesToString _ ⟨W.heap.size, 0, none⟩ 1 1 [(c : Int)] (by simpa using hload)]
  rfl
theorem nu8 {r : Nat} (h : r < 10) : (48 : UInt8) + UInt8.ofNat r = UInt8.ofNat (48 + r) := by
  rw [← UInt8.toNat_inj, UInt8.toNat_add, u8_of (by omega), u8_of (by omega)]
  show (48 + r) % 256 = 48 + r
  omega
theorem nstr {r : Nat} {t : List UInt8} (h : r < 10) : Value.string (⟨#[48 + UInt8.ofNat r]⟩ ++ ⟨t.toArray⟩) = .string ⟨(UInt8.ofNat (48 + r) :: t).toArray⟩ := by
  rw [nu8 h]
  congr 1
theorem nstr1 {r : Nat} (h : r < 10) : Value.string ⟨#[48 + UInt8.ofNat r]⟩ = .string ⟨([UInt8.ofNat (48 + r)]).toArray⟩ := by
  rw [nu8 h]
set_option maxHeartbeats 1000000 in
theorem rnumber_at (n : Nat) (w : World) (hn : n ≤ 9223372036854775807) :
    Calls Tryd.prog 16 #[.int .i64 n] w fun e w' => e = .returned (.string (dec n)) ∧ Below w.heap.size w w' := by
  have hc := fun z hz => nconv w (48 + n % 10) z hz
  go_enter Tryd.func16, Tryd.ntmps16
  go_wp2
  clear hc
  go_loopw [0, 3] (fun a b wr => ∃ (q : Nat) (t : List UInt8), q ≤ n ∧ a = .int .i64 q ∧ b = .string ⟨t.toArray⟩ ∧ Hid (decL n = preL q ++ t) ∧ Below w.heap.size w wr) (fun a _ _ => (intOf a).toNat)
  case atStart => exact ⟨n, [UInt8.ofNat (48 + n % 10)], Nat.le_refl _, rfl, nstr1 (by omega), mkHid (dec_pre n), (Below.refl _ _).alloc (Nat.le_refl _) _⟩
  case round =>
    obtain ⟨q, t, hq, rfl, rfl, hinv, hB⟩ := hrel
    have hs := hB.size
    have htl : t.length ≤ 20 := by
      have h1 := dec_short 19 n (by have : (10 : Nat) ^ (19 + 1) = 100000000000000000000 := by decide
                                    omega)
      rw [hinv.out, List.length_append] at h1
      omega
    by_cases h9 : 10 ≤ q
    · have hc := fun z hz => nconv wr (48 + q / 10 % 10) z hz
      have HI : Hid (decL n = preL (q / 10) ++ (UInt8.ofNat (48 + q / 10 % 10) :: t)) := by
        show _ = _
        rw [hinv.out]
        have e : preL q = decL (q / 10) := by unfold preL; rw [if_neg (by omega)]
        rw [e, dec_pre (q / 10), List.append_assoc]
        rfl
      go_wp2
      go_roundw
      case rel => exact ⟨q / 10, UInt8.ofNat (48 + q / 10 % 10) :: t, by omega, congrArg (Value.int .i64) (by omega), nstr (by omega), HI, hB.alloc hs _⟩
      case measure => simp [intOf]; omega
    · have HI : Hid (decL n = t) := by
        show _ = _
        rw [hinv.out]
        unfold preL
        rw [if_pos (by omega)]
        rfl
      go_wp2
      go_ret
      refine ⟨?_, hB⟩
      unfold dec
      rw [HI.out]
      rfl
/-- the text of a held part -/
def hlB (v : Int) (pl : Nat) (t : Tm) : ByteArray := ⟨(hlT v pl t).toArray⟩
theorem hlB_tb (v : Int) (pl : Nat) (t : Tm) : tbs (hlB v pl t) = hlT v pl t := by simp [hlB, tbs]
theorem hlB_in {v : Int} {pl : Nat} {t : Tm} (h : needB t.op v pl = true) : (⟨#[91]⟩ : ByteArray) ++ shT t ++ ⟨#[93]⟩ = hlB v pl t := by
  apply tb_inj
  rw [hlB_tb, tb_app, tb_app]
  unfold hlT
  rw [if_pos h]
  rfl
theorem hlB_no {v : Int} {pl : Nat} {t : Tm} (h : needB t.op v pl = false) : shT t = hlB v pl t := by
  apply tb_inj
  rw [hlB_tb]
  unfold hlT
  rw [h, if_neg (by decide)]
end Go.Proofs.YtncgmnijgdfenaaDoor.Gl
