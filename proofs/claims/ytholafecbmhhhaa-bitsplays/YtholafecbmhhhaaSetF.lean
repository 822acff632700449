/- The document's set: With, of another size. -/
import Derived.Test.YtholafecbmhhhaaSetE
namespace Go.Proofs.Ytholafecbmhhhaa.Dg
open Go.RowKit
set_option linter.unusedVariables false

theorem with_shape (sb so tb to' : Nat) (ao ao' : Option Addr) (n c m c' : Nat) (how : Int) (T U : List Bool) (w : World) (h : Rs w ⟨sb, so, none⟩ ao n c T) (k : Rs w ⟨tb, to', none⟩ ao' m c' U) (hne : n ≠ m) :
    Calls Try.prog 17 #[.pointer (some ⟨sb, so, none⟩), .pointer (some ⟨tb, to', none⟩), .int .i64 how] w fun e w' => e = .returned (.int .i64 3) ∧ Below w.heap.size w w' := by
  have hs := h.at_s
  have hn := h.small
  have ht := k.at_s
  have hm := k.small
  have hnm' : ¬ (n : Int) = (m : Int) := by omega
  have hB0 := (Below.refl w.heap.size w).drew
  go_enter Try.func17, Try.ntmps17
  go_wp2
  go_region
  go_wp2
  go_ret
  exact ⟨rfl, hB0⟩
end Go.Proofs.Ytholafecbmhhhaa.Dg
