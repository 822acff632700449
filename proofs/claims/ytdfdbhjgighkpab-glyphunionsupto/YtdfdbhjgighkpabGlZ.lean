/- What a law is handed as a slice of texts, read as a list; what its bulk bounds. -/
import Derived.Test.YtdfdbhjgighkpabRows
import Derived.Test.YtdfdbhjgighkpabGlUo
import Derived.SliceStrings
namespace Go.Proofs.Ytdfdbhjgighkpab.Gl
open Go.RowKit
set_option linter.unusedVariables false

theorem addr_plain {w : World} {x : Addr} {v : Value} (h : w.cell? (x.add 0) = some v) : ∃ b off, x = ⟨b, off, none⟩ := by
  obtain ⟨b, off, spot⟩ := x
  have hspot : spot = none := by simpa [Addr.add] using World.cell?_spot h
  subst hspot
  exact ⟨b, off, rfl⟩
/-- a slice of texts that came in -/
def IsTexts (w : World) (a : Option Addr) (len cap : Nat) (ss : List ByteArray) : Prop :=
  (a = none ∧ len = 0 ∧ cap = 0 ∧ ss = []) ∨
  ∃ x, a = some x ∧ len ≤ cap ∧ cap ≤ maxLen ∧ ss.length = cap ∧ (∀ i, i < ss.length → w.cell? (x.add i) = some (.string (ss.getD i emp))) ∧ ∀ s ∈ ss, s.size ≤ maxLen
theorem texts_arg {w : World} {a : Option Addr} {len cap : Nat} {ss : List ByteArray} (h : IsTexts w a len cap ss) : RdS w a len cap (ss.take len) ∧ Short (ss.take len) := by
  rcases h with ⟨rfl, rfl, rfl, rfl⟩ | ⟨x, rfl, hl, hm, hz, hc, hw⟩
  · exact ⟨⟨rfl, Nat.le_refl _, by omega, fun _ => rfl, fun i hi => by omega⟩, fun v hv => by cases hv⟩
  · refine ⟨⟨by rw [List.length_take]; omega, hl, hm, (fun h => nomatch h), fun i hi => ?_⟩, fun v hv => hw v (List.mem_of_mem_take hv)⟩
    have h1 := hc i (by omega)
    obtain ⟨b, off, rfl⟩ := addr_plain (hc 0 (by omega))
    refine ⟨b, off, rfl, ?_⟩
    rw [Go.WideShapes.add_plain] at h1
    rw [h1, List.getD_eq_getElem?_getD, List.getD_eq_getElem?_getD, List.getElem?_take, if_pos hi]
theorem bulk_one {H : Type} (d : DataW H) : 1 ≤ Rows.uptoBulk d := by
  cases d with
  | lit l => cases l <;> simp [Rows.uptoBulk]
  | nil => simp [Rows.uptoBulk]
  | ptr d => simp [Rows.uptoBulk]
  | slice elems spare => simp [Rows.uptoBulk]
  | agg parts => simp [Rows.uptoBulk]
  | iface t d => simp [Rows.uptoBulk]
  | map entries => simp [Rows.uptoBulk]
  | held h => simp [Rows.uptoBulk]
theorem bulk_len {H : Type} (l : List (DataW H)) : l.length ≤ Rows.uptoBulkAll l := by
  induction l with
  | nil => simp [Rows.uptoBulkAll]
  | cons x r ih => have := bulk_one x; simp only [Rows.uptoBulkAll, List.length_cons]; omega
theorem bulk_slice {H : Type} (elems spare : List (DataW H)) : elems.length ≤ Rows.uptoBulk (.slice elems spare) := by
  have h1 := bulk_len elems
  simp only [Rows.uptoBulk]
  omega
theorem bulk_two {H : Type} {d0 d1 : DataW H} {r : List (DataW H)} {n m : Nat} (h0 : n ≤ Rows.uptoBulk d0) (h1 : m ≤ Rows.uptoBulk d1) (hk : Rows.uptoSmall H (d0 :: d1 :: r) = true) : n + m ≤ 1048576 := by
  have h : Rows.uptoBulkAll (d0 :: d1 :: r) ≤ 1048576 := of_decide_eq_true hk
  simp only [Rows.uptoBulkAll] at h
  omega
end Go.Proofs.Ytdfdbhjgighkpab.Gl
