/- Lists of texts: the law's same; the document's Index, put, Together. -/
import Derived.Test.YtiapkblebbcfbaaGreatGlE
import Derived.Laws.Cover1
namespace Go.Proofs.YtiapkblebbcfbaaGreat.Gl
open Go.RowKit
set_option linter.unusedVariables false

theorem toList_inj {x y : ByteArray} (h : x.toList = y.toList) : x = y := by
  rw [ByteArray.toList_eq, ByteArray.toList_eq] at h
  cases x; cases y
  exact congrArg ByteArray.mk (Array.toList_inj.1 h)
theorem eqS_iff (x y : ByteArray) : (x.toList == y.toList) = true ↔ x = y := by
  rw [beq_iff_eq]
  exact ⟨toList_inj, fun h => by rw [h]⟩
theorem slist_eq {T U : List ByteArray} (n : Nat) (hT : T.length = n) (hU : U.length = n) (h : ∀ j, j < n → T.getD j emp = U.getD j emp) : T = U := by
  apply List.ext_getElem (by rw [hT, hU])
  intro i h1 h2
  have := h i (by omega)
  rwa [sgetD_of h1, sgetD_of h2] at this
/-- where the name stands first -/
def idx (s : ByteArray) : List ByteArray → Int → Int
  | [], _ => -1
  | x :: l, k => if (x.toList == s.toList) = true then k else idx s l (k + 1)
theorem idx_step (s : ByteArray) (ss : List ByteArray) (k : Nat) (h : k < ss.length) : idx s (ss.drop k) k = if ((ss.getD k emp).toList == s.toList) = true then (k : Int) else idx s (ss.drop (k + 1)) ((k + 1 : Nat) : Int) := by
  rw [List.drop_eq_getElem_cons h, idx, sgetD_of h]; rfl
end Go.Proofs.YtiapkblebbcfbaaGreat.Gl
