/-
  DERIVED. GIVEN WITH THE SEED: THE CARDS: each row of YtncgmnijgdfenaaGreatDoorRows.lean that lists a variable, with what it lists TIED to the program's text (the seventh form; the later family's looks); each row that meets fmt, with fmt's text TOLD by the authors' own Lean function (tested against real Go, not proved from fmt's source: count such statements apart). THE CARD IS WHAT COUNTS. Prove the row's statement (the work); the ties are given (YtncgmnijgdfenaaGreatDoorTie.lean); close each card by the builder's one call (the guide's Derived/Test/ToyasCard.lean, 'card_holds'). Laid BY PROGRAM, IN A SANDBOX (cutbox-door.mjs). By AI agents, Wed Nov 11 2026. No macro, syntax, notation, axiom, sorry.
-/
import Derived.Test.YtncgmnijgdfenaaGreatDoorRows
import GoSem.ClaimSeven
namespace Go.Proofs.YtncgmnijgdfenaaGreatDoor
namespace Rows

/-- THE TIED CARD OF 'tabardlaw08.ShowBack'. -/
def showBackCard : Claim7 := { stood := { row := showBackRow, standIns := [], harness := (true, "4d78514ec6eef90aa2e5dd6797e509942bed4635123f8a56e8a95b11c70fc3db"), looks := true }, kinds := [], alts := [], laidByText := true, laidKinds := [.data, .data, .data, .sentinel, .sentinel, .data], laidTests := true, laidLooks := .later }
def ShowBackCardSaid : Prop := Claim7.holds Tryz.pinned (.plain (OpenSpec.ofChange showBackSpec)) showBackCard

/-- THE TIED CARD OF 'tabardlaw08.ShowTermsBack'. -/
def showTermsBackCard : Claim7 := { stood := { row := showTermsBackRow, standIns := [], harness := (true, "4d78514ec6eef90aa2e5dd6797e509942bed4635123f8a56e8a95b11c70fc3db"), looks := true }, kinds := [], alts := [], laidByText := true, laidKinds := [.data, .data, .data, .sentinel, .sentinel, .data], laidTests := true, laidLooks := .later }
def ShowTermsBackCardSaid : Prop := Claim7.holds Tryz.pinned (.plain (OpenSpec.ofChange showTermsBackSpec)) showTermsBackCard

/-- THE TIED CARD OF 'tabardlaw08.ShowReads'. -/
def showReadsCard : Claim7 := { stood := { row := showReadsRow, standIns := [], harness := (true, "4d78514ec6eef90aa2e5dd6797e509942bed4635123f8a56e8a95b11c70fc3db"), looks := true }, kinds := [], alts := [], laidByText := true, laidKinds := [.data, .data, .data, .sentinel, .sentinel, .data], laidTests := true, laidLooks := .later }
def ShowReadsCardSaid : Prop := Claim7.holds Tryz.pinned (.plain (OpenSpec.ofChange showReadsSpec)) showReadsCard

/-- THE SECOND FORM's CARD OF 'tabardlaw08.ShowBack'. -/
def showBackUptoCard : Claim7 := { stood := { row := showBackUptoRow, standIns := [], harness := (true, "4d78514ec6eef90aa2e5dd6797e509942bed4635123f8a56e8a95b11c70fc3db"), looks := true }, kinds := [], alts := [], laidByText := true, laidKinds := [.data, .data, .data, .sentinel, .sentinel, .data], laidTests := true, laidLooks := .later }
def ShowBackUptoCardSaid : Prop := Claim7.holds Tryz.pinned (.plain (OpenSpec.upto showBackSpec)) showBackUptoCard

/-- THE SECOND FORM's CARD OF 'tabardlaw08.ShowTermsBack'. -/
def showTermsBackUptoCard : Claim7 := { stood := { row := showTermsBackUptoRow, standIns := [], harness := (true, "4d78514ec6eef90aa2e5dd6797e509942bed4635123f8a56e8a95b11c70fc3db"), looks := true }, kinds := [], alts := [], laidByText := true, laidKinds := [.data, .data, .data, .sentinel, .sentinel, .data], laidTests := true, laidLooks := .later }
def ShowTermsBackUptoCardSaid : Prop := Claim7.holds Tryz.pinned (.plain (OpenSpec.upto showTermsBackSpec)) showTermsBackUptoCard

/-- THE SECOND FORM's CARD OF 'tabardlaw08.ShowReads'. -/
def showReadsUptoCard : Claim7 := { stood := { row := showReadsUptoRow, standIns := [], harness := (true, "4d78514ec6eef90aa2e5dd6797e509942bed4635123f8a56e8a95b11c70fc3db"), looks := true }, kinds := [], alts := [], laidByText := true, laidKinds := [.data, .data, .data, .sentinel, .sentinel, .data], laidTests := true, laidLooks := .later }
def ShowReadsUptoCardSaid : Prop := Claim7.holds Tryz.pinned (.plain (OpenSpec.upto showReadsSpec)) showReadsUptoCard
end Rows
end Go.Proofs.YtncgmnijgdfenaaGreatDoor
