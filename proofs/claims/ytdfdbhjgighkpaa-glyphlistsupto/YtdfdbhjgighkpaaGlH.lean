/- The document's Together. -/
import Derived.Test.YtdfdbhjgighkpaaGlG
namespace Go.Proofs.Ytdfdbhjgighkpaa.Gl
open Go.RowKit
set_option linter.unusedVariables false

theorem owns_mono {w : World} {base base' : Nat} {e : TypeId} {v : Value} {n : Nat} {xs : List Value} (h : w.ownsRow base e 1 v n xs) (hb : base' ≤ base) : w.ownsRow base' e 1 v n xs := by
  refine ⟨h.1, ?_⟩
  rcases h.2 with hn | ⟨g, cap, cur, rfl, hbg, rest⟩
  · exact .inl hn
  · exact .inr ⟨g, cap, cur, rfl, by omega, rest⟩
/-- the names of a list, rising, each once -/
def togL (l : List ByteArray) : List ByteArray := l.foldl (fun o s => putL s o) []
theorem tog_take (T : List ByteArray) (k : Nat) (h : k < T.length) : togL (T.take (k + 1)) = putL (T.getD k emp) (togL (T.take k)) := by
  unfold togL
  rw [take_snoc T k h, List.foldl_append]
  rfl
theorem fold_length (l O : List ByteArray) : (l.foldl (fun o s => putL s o) O).length ≤ O.length + l.length := by
  induction l generalizing O with
  | nil => simp
  | cons x l ih =>
    have h1 := ih (putL x O)
    have h2 := putL_length x O
    simp only [List.foldl_cons, List.length_cons]
    omega
theorem tog_length (l : List ByteArray) : (togL l).length ≤ l.length := by
  have := fold_length l []
  simpa [togL] using this
set_option maxHeartbeats 1000000 in
theorem rtogether_at (ao : Option Addr) (n c : Nat) (T : List ByteArray) (w : World) (h : RdS w ao n c T) (hn : (n + 2) * 16 ≤ 140737488355328) :
    Calls Try.prog 44 #[.slice ao n c] w fun e w' => ∃ v, e = .returned v ∧ w'.ownsRow w.heap.size 9 1 v (togL T).length (cellsS (togL T)) ∧ Below w.heap.size w w' := by
  have hcn := h.lecap
  have hcx := h.lemax
  have HT : Hid (T.length = n) := h.eqlen
  go_enter Try.func44, Try.ntmps44
  go_wp2
  go_loopw [3, 4] (fun o i wr => ∃ k : Nat, k ≤ n ∧ i = .int .i64 k ∧ wr.ownsRow w.heap.size 9 1 o (togL (T.take k)).length (cellsS (togL (T.take k))) ∧ Below w.heap.size w wr) (fun _ i _ => n - (intOf i).toNat)
  case atStart => exact ⟨0, Nat.zero_le _, rfl, World.ownsRow_nil _ _ _ _, Below.refl _ _⟩
  case round =>
    obtain ⟨k, hk, rfl, hO, hB⟩ := hrel
    by_cases hlt : k < n
    · obtain ⟨b, off, rfl, hc⟩ := (h.below (Nat.le_refl _) hB).cell k hlt
      have HS : Hid (togL (T.take (k + 1)) = putL (T.getD k emp) (togL (T.take k))) := tog_take T k (by rw [HT.out]; exact hlt)
      have hl := tog_length (T.take k)
      have hl2 : (T.take k).length = k := by rw [List.length_take, HT.out]; omega
      rw [hl2] at hl
      obtain ⟨a3, c3, rfl, hR3⟩ := rds_of_owns hO
      generalize hx : T.getD k emp = x at *
      generalize hy : togL (T.take k) = y at *
      clear hx hy hl2
      have hs := hB.size
      go_wp2_with (go_at_call 52; refine (rput_at _ _ _ y x _ hR3 (by omega)).mono ?_; rintro e w4 ⟨v4, rfl, hO4, hB4⟩)
      go_roundw
      case rel => exact ⟨k + 1, by omega, by go_num, by rw [HS.out]; exact owns_mono hO4 hs, hB.trans (hB4.mono hs)⟩
      case measure => simp [intOf]; omega
    · obtain rfl : k = n := by omega
      rw [List.take_of_length_le (by rw [HT.out]; exact Nat.le_refl _)] at hO
      go_wp2
      go_ret
      exact ⟨_, rfl, hO, hB⟩
end Go.Proofs.Ytdfdbhjgighkpaa.Gl
