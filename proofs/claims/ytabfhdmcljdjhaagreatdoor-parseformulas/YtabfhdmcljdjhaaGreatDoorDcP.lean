/- The document's reader: between. -/
import Derived.Test.YtabfhdmcljdjhaaGreatDoorDcI
namespace Go.Proofs.YtabfhdmcljdjhaaGreatDoor.Gl
open Go.RowKit
set_option linter.unusedVariables false
set_option linter.unusedSimpArgs false

set_option maxHeartbeats 4000000 in
theorem dbetween_at {X : Rx} {w : World} {P : Pos} (h : Ds X w P) (o : Int) (ho : ∀ i : Nat, i < 7 → P.stands X.ws (rels.getD i emp) → o = 9 + (i : Nat)) (hn : (∀ i : Nat, i < 7 → ¬ P.stands X.ws (rels.getD i emp)) → o = -1) :
    Calls Tryz.prog 93 #[.pointer (some ⟨X.b, 0, none⟩)] w fun e w' => e = .returned (.int .i64 o) ∧ Ds X w' P ∧ Below w.heap.size w w' := by
  have hR : RdS (w.alloc (.cells #[.string ⟨#[60, 61]⟩, .string ⟨#[60]⟩, .string ⟨#[62, 61]⟩, .string ⟨#[62]⟩, .string ⟨#[61]⟩, .string ⟨#[33, 61]⟩, .string ⟨#[126]⟩] 9)) (some ⟨w.heap.size, 0, none⟩) 7 7 rels := rds_built w rels 7 9 w.heap.size rfl rfl (by omega)
  have hB : Below w.heap.size w (w.alloc (.cells #[.string ⟨#[60, 61]⟩, .string ⟨#[60]⟩, .string ⟨#[62, 61]⟩, .string ⟨#[62]⟩, .string ⟨#[61]⟩, .string ⟨#[33, 61]⟩, .string ⟨#[126]⟩] 9)) := bal w _
  have HR : Hid _ := hR
  have HO := mkHid ho
  have HN := mkHid hn
  have h0 := h.keep hB
  clear hR ho hn
  go_enter Tryz.func93, Tryz.ntmps93
  go_wp2
  generalize hw0 : w.alloc (.cells #[.string ⟨#[60, 61]⟩, .string ⟨#[60]⟩, .string ⟨#[62, 61]⟩, .string ⟨#[62]⟩, .string ⟨#[61]⟩, .string ⟨#[33, 61]⟩, .string ⟨#[126]⟩] 9) = w0 at *
  have hgl : w.heap.size < w0.heap.size := by rw [← hw0]; simp
  go_loopw [4] (fun i wr => ∃ k : Nat, k ≤ 7 ∧ i = .int .i64 (k : Nat) ∧ Hid (∀ j : Nat, j < k → ¬ P.stands X.ws (rels.getD j emp)) ∧ Below w0.heap.size w0 wr ∧ Ds X wr P) (fun i _ => 7 - (intOf i).toNat)
  case atStart => exact ⟨0, Nat.zero_le _, rfl, fun j hj => absurd hj (by omega), Below.refl _ _, h0⟩
  case round =>
    obtain ⟨k, hk, rfl, HK, hBr, hS⟩ := hrel
    by_cases hlt : k < 7
    · obtain ⟨g, off, e, hc0⟩ := HR.out.cell k hlt
      obtain ⟨rfl, rfl⟩ : w.heap.size = g ∧ 0 = off := by simpa using e
      rw [Nat.zero_add] at hc0
      have hc : wr.cell? ⟨w.heap.size, k, none⟩ = some (.string (rels.getD k emp)) := (hBr.cell (p := ⟨w.heap.size, k, none⟩) hgl).trans hc0
      clear hc0 e
      by_cases hs : P.stands X.ws (rels.getD k emp)
      · have HE : Hid (o = 9 + (k : Int)) := HO.out k hlt hs
        cases P with
        | bad y q => exact hs.elim
        | «at» p =>
          have IC := mkHid (dis_yes hS hs)
          generalize rels.getD k emp = x at *
          clear HO HN HK HR
          go_wp2_with (fail)
          refine (IC.out).mono ?_
          rintro e w2 ⟨rfl, hB2⟩
          have h2 := hS.keep hB2
          go_wp2
          go_ret
          exact ⟨ret1 HE.out.symm, h2, bt2 (hB.trans (hBr.mono (Nat.le_of_lt hgl))) hB2⟩
      · have HK2 : Hid (∀ j : Nat, j < k + 1 → ¬ P.stands X.ws (rels.getD j emp)) := fun j hj => by
          rcases Nat.lt_succ_iff_lt_or_eq.1 hj with hj | rfl
          · exact HK.out j hj
          · exact hs
        have IC := mkHid (dis_no hS hs)
        generalize rels.getD k emp = x at IC hc
        clear HO HN HK HR hs
        go_wp2_with (fail)
        refine (IC.out).mono ?_
        rintro e w2 ⟨rfl, hB2⟩
        have h2 := hS.keep hB2
        go_wp2
        go_roundw
        case rel => exact ⟨k + 1, by omega, by go_num, HK2, bt2 hBr hB2, h2⟩
        case measure => simp [intOf]; omega
    · obtain rfl : k = 7 := by omega
      have HE : Hid (o = -1) := HN.out (fun i hi => HK.out i hi)
      clear HO HN HK HR
      go_wp2
      go_ret
      exact ⟨ret1 HE.out.symm, hS, hB.trans (hBr.mono (Nat.le_of_lt hgl))⟩
end Go.Proofs.YtabfhdmcljdjhaaGreatDoor.Gl
