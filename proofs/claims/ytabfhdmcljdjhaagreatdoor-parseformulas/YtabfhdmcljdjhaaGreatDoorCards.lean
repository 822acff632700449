/-
  DERIVED. GIVEN WITH THE SEED: THE CARDS: each row of YtabfhdmcljdjhaaGreatDoorRows.lean that lists a variable, with what it lists TIED to the program's text (the seventh form; the later family's looks); each row that meets fmt, with fmt's text TOLD by the authors' own Lean function (tested against real Go, not proved from fmt's source: count such statements apart). THE CARD IS WHAT COUNTS. Prove the row's statement (the work); the ties are given (YtabfhdmcljdjhaaGreatDoorTie.lean); close each card by the builder's one call (the guide's Derived/Test/ToyasCard.lean, 'card_holds'). Laid BY PROGRAM, IN A SANDBOX (cutbox-door.mjs). By AI agents, Wed Nov 11 2026. No macro, syntax, notation, axiom, sorry.
-/
import Derived.Test.YtabfhdmcljdjhaaGreatDoorRows
import GoSem.ClaimSeven
namespace Go.Proofs.YtabfhdmcljdjhaaGreatDoor
namespace Rows

/-- THE TIED CARD OF 'tabardlaw07.ParseFormulas'. -/
def parseFormulasCard : Claim7 := { stood := { row := parseFormulasRow, standIns := [], harness := (true, "ac5a3e6e8b37fb7f867215183535bb120e4368e4751c7f401343f9340006a453"), looks := true }, kinds := [], alts := [], laidByText := true, laidKinds := [.data, .data, .data, .sentinel, .sentinel, .data], laidTests := true, laidLooks := .later }
def ParseFormulasCardSaid : Prop := Claim7.holds Tryz.pinned (.plain (OpenSpec.ofChange parseFormulasSpec)) parseFormulasCard

/-- THE TIED CARD OF 'tabardlaw07.ParseTerms'. -/
def parseTermsCard : Claim7 := { stood := { row := parseTermsRow, standIns := [], harness := (true, "ac5a3e6e8b37fb7f867215183535bb120e4368e4751c7f401343f9340006a453"), looks := true }, kinds := [], alts := [], laidByText := true, laidKinds := [.data, .data, .data, .sentinel, .sentinel, .data], laidTests := true, laidLooks := .later }
def ParseTermsCardSaid : Prop := Claim7.holds Tryz.pinned (.plain (OpenSpec.ofChange parseTermsSpec)) parseTermsCard

/-- THE SECOND FORM's CARD OF 'tabardlaw07.ParseFormulas'. -/
def parseFormulasUptoCard : Claim7 := { stood := { row := parseFormulasUptoRow, standIns := [], harness := (true, "ac5a3e6e8b37fb7f867215183535bb120e4368e4751c7f401343f9340006a453"), looks := true }, kinds := [], alts := [], laidByText := true, laidKinds := [.data, .data, .data, .sentinel, .sentinel, .data], laidTests := true, laidLooks := .later }
def ParseFormulasUptoCardSaid : Prop := Claim7.holds Tryz.pinned (.plain (OpenSpec.upto parseFormulasSpec)) parseFormulasUptoCard

/-- THE SECOND FORM's CARD OF 'tabardlaw07.ParseTerms'. -/
def parseTermsUptoCard : Claim7 := { stood := { row := parseTermsUptoRow, standIns := [], harness := (true, "ac5a3e6e8b37fb7f867215183535bb120e4368e4751c7f401343f9340006a453"), looks := true }, kinds := [], alts := [], laidByText := true, laidKinds := [.data, .data, .data, .sentinel, .sentinel, .data], laidTests := true, laidLooks := .later }
def ParseTermsUptoCardSaid : Prop := Claim7.holds Tryz.pinned (.plain (OpenSpec.upto parseTermsSpec)) parseTermsUptoCard
end Rows
end Go.Proofs.YtabfhdmcljdjhaaGreatDoor
