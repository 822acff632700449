/- The program's Good, At. -/
import Derived.Test.YtdfdbhjgighkpabGlK
import Derived.Test.YtdfdbhjgighkpabGlMb
namespace Go.Proofs.Ytdfdbhjgighkpab.Gl
open Go.RowKit
set_option linter.unusedVariables false

theorem bool_of_iff {a b : Bool} (h : a = true ↔ b = true) : a = b := Bool.eq_iff_iff.2 h
theorem bcell {W w1 : World} (hb : Below W.heap.size W w1) : (∀ b o, b < W.heap.size → w1.cell? ⟨b, o, none⟩ = W.cell? ⟨b, o, none⟩) ∧ (∀ b o, b < W.heap.size → w1.frozen? ⟨b, o, none⟩ = W.frozen? ⟨b, o, none⟩) :=
  ⟨fun b o h => hb.cell (p := ⟨b, o, none⟩) h, fun b o h => hb.frozen (p := ⟨b, o, none⟩) h⟩
set_option maxHeartbeats 1000000 in
theorem at_in (s : ByteArray) (k n : Nat) (w : World) (hs : s.size ≤ 9223372036854775807) (hk : k ≤ s.size) (hn : IsCnt (s.extract 0 k) n) :
    Calls Try.prog 10 #[.string s, .int .i64 k] w fun e w' => e = .returned (.tuple #[.agg #[.int .i64 k, .int .i64 n], .int .i64 0]) ∧ Below w.heap.size w w' := by
  have CH : Hid (∀ w, Calls Try.prog 19 #[.string (s.extract 0 k)] w fun e w' => e = .returned (.int .i64 n) ∧ Below w.heap.size w w') := fun w => characters_at _ n w (by rw [ByteArray.size_extract]; omega) hn
  have d1 : decide ((k : Int) < 0) = false := decide_eq_false (by omega)
  have d2 : decide (s.size < k) = false := decide_eq_false (by omega)
  clear hn
  go_enter Try.func10, Try.ntmps10
  go_wp2_with (go_at_call 19; refine (CH.out _).mono ?_; rintro e w2 ⟨rfl, hB2⟩; obtain ⟨hc, hf⟩ := bcell hB2)
  refine bodyPost_ret (v := .tuple #[.agg #[.int .i64 k, .int .i64 n], .int .i64 0]) (by simp [results, Try.results10, go_sem, hc]) rfl ⟨rfl, ?_⟩
  exact ((((Below.refl _ _).alloc (Nat.le_refl _) _).trans (hB2.mono (by simp))).setCell (by simp) _).setCell (by simp) _
theorem at_out (s : ByteArray) (k : Int) (w : World) (hs : s.size ≤ 9223372036854775807) (hk : k < 0 ∨ (s.size : Int) < k) :
    Calls Try.prog 10 #[.string s, .int .i64 k] w fun e w' => e = .returned (.tuple #[.agg #[.int .i64 0, .int .i64 0], .int .i64 2]) ∧ Below w.heap.size w w' := by
  by_cases h0 : k < 0
  · clear hk
    go_enter Try.func10, Try.ntmps10
    go_wp2
    exact bodyPost_ret (v := .tuple #[.agg #[.int .i64 0, .int .i64 0], .int .i64 2]) (by simp [results, Try.results10, go_sem]) rfl ⟨rfl, (Below.refl _ _).alloc (Nat.le_refl _) _⟩
  · have h1 : (s.size : Int) < k := by omega
    have h2 : decide (k < 0) = false := decide_eq_false h0
    clear hk
    go_enter Try.func10, Try.ntmps10
    go_wp2
    exact bodyPost_ret (v := .tuple #[.agg #[.int .i64 0, .int .i64 0], .int .i64 2]) (by simp [results, Try.results10, go_sem]) rfl ⟨rfl, (Below.refl _ _).alloc (Nat.le_refl _) _⟩
end Go.Proofs.Ytdfdbhjgighkpab.Gl
