/- What a law is handed as a slice of integers, read as a list. -/
import Derived.Test.YtholafecbmhhhaaPlaces
import Derived.OpenShut
namespace Go.Proofs.Ytholafecbmhhhaa.Dg
open Go.RowKit
set_option linter.unusedVariables false
theorem rdz_in {w : World} {a : Option Addr} {len cap : Nat} {zs : List Int} (h : (a = none ∧ len = 0 ∧ cap = 0 ∧ zs = []) ∨
    ∃ x, a = some x ∧ len ≤ cap ∧ cap * 8 ≤ 140737488351232 ∧ zs.length = cap ∧ (∀ i, i < zs.length → w.cell? (x.add i) = some (.int .i64 (zs.getD i 0))) ∧ ∀ n ∈ zs, (Lit.int .i64 n).wf = true) :
    RdZ w a len cap (zs.take len) ∧ len * 8 ≤ 140737488351232 := by
  rcases h with ⟨rfl, rfl, rfl, rfl⟩ | ⟨x, rfl, hl, hm, hz, hc, hw⟩
  · exact ⟨⟨rfl, Nat.le_refl _, by omega, fun _ => rfl, fun i hi => by omega⟩, by omega⟩
  · refine ⟨⟨by rw [List.length_take]; omega, hl, by omega, (fun h => nomatch h), fun i hi => ?_⟩, by omega⟩
    obtain ⟨b, off, rfl, hc'⟩ := _root_.Go.ints_at hc (by omega)
    refine ⟨b, off, rfl, ?_⟩
    have := hc' i (by omega)
    rw [this, List.getD_eq_getElem?_getD, List.getD_eq_getElem?_getD, List.getElem?_take, if_pos hi]
end Go.Proofs.Ytholafecbmhhhaa.Dg
