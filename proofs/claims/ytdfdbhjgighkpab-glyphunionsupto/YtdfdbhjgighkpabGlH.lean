/- The document's Together. -/
import Derived.Test.YtdfdbhjgighkpabGlG
namespace Go.Proofs.Ytdfdbhjgighkpab.Gl
open Go.RowKit
set_option linter.unusedVariables false

theorem owns_mono {w : World} {base base' : Nat} {e : TypeId} {v : Value} {n : Nat} {xs : List Value} (h : w.ownsRow base e 1 v n xs) (hb : base' ≤ base) : w.ownsRow base' e 1 v n xs := by
  refine ⟨h.1, ?_⟩
  rcases h.2 with hn | ⟨g, cap, cur, rfl, hbg, rest⟩
  · exact .inl hn
  · exact .inr ⟨g, cap, cur, rfl, by omega, rest⟩
/-- the names of a list, rising, each once -/
def togL (l : List ByteArray) : List ByteArray := l.foldl (fun o s => putL s o) []
theorem tog_take (T : List ByteArray) (k : Nat) (h : k < T.length) : togL (T.take (k + 1)) = putL (T.getD k emp) (togL (T.take k)) := by
  unfold togL
  rw [take_snoc T k h, List.foldl_append]
  rfl
theorem fold_length (l O : List ByteArray) : (l.foldl (fun o s => putL s o) O).length ≤ O.length + l.length := by
  induction l generalizing O with
  | nil => simp
  | cons x l ih =>
    have h1 := ih (putL x O)
    have h2 := putL_length x O
    simp only [List.foldl_cons, List.length_cons]
    omega
theorem tog_length (l : List ByteArray) : (togL l).length ≤ l.length := by
  have := fold_length l []
  simpa [togL] using this
end Go.Proofs.Ytdfdbhjgighkpab.Gl
