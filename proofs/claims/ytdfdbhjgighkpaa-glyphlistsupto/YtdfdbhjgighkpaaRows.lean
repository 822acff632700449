/-
  No cell of these rows narrows 'for every input' (looked for: loops, veiled, ifaces, maps, wideKeys, modest, calm, conditions, laid).
  DERIVED. THE GIVEN ROWS OF THIS SEAT. 6 by the template 'for every input the law returns true; each argument reads behind the call as it read before'; 0 by the template 'total and deterministic' (their statements: YtdfdbhjgighkpaaTotals.lean).
  GIVEN WITH THE SEED: the statements are not yours to turn. If you find one false, say at which input.
  Laid BY PROGRAM, IN A SANDBOX (cutbox-rows.mjs): the forced cells as the released guide's own fill.sh prints them over the translation ce9fc9d42d3fed15… (all of the seat's roots in one cut). By AI agents, Wed Nov 11 2026. No macro, syntax, notation, axiom, sorry.
-/
import Derived.Test.YtdfdbhjgighkpaaChecked
import GoSem.Claim
import GoSem.ClaimJoined
import GoSem.ClaimMapViews
import Derived.JoinedTies
import Derived.KernelRfl
namespace Go.Proofs.Ytdfdbhjgighkpaa
/- THE CELL 'sum', in the pinned program and in every row, IS THE sha256 OF THE DUMP (.gsa) THAT YtdfdbhjgighkpaaProg.lean LOADS. Nothing in Lean hashes anything: it is a label: what it is worth is what the hold of that sum in a sandbox is worth. -/
noncomputable def Try.pinned : Pinned := { name := "ytdfdbhjgighkpaa", sum := "ce9fc9d42d3fed15817a64d3c4429ac6438831162e74dfe3ae9dd551441165ec", checked := Try.checked }
namespace Rows
def none {H : Type} : Left H := { results := [], args := [] }

/-- 'tabardlaw04.GlyphChars': WHATEVER THE INPUT: true; the input reads as it did. -/
def glyphCharsSpec : ChangeSpec := { name := "glyphChars", fn := fun _ => fun
  | [d] => { results := [.lit (.bool true)], args := [d] }
  | _ => none }
def glyphCharsRow : OpenClaim := { program := "ytdfdbhjgighkpaa", sum := "ce9fc9d42d3fed15817a64d3c4429ac6438831162e74dfe3ae9dd551441165ec", func := "tabard/tabardlaw04.GlyphChars", spec := "glyphChars", apart := false }
def GlyphCharsSaid : Prop := glyphCharsRow.holds Try.pinned (OpenSpec.ofChange glyphCharsSpec)

/-- ITS FALSE NEIGHBOUR: 'it returns false'. Refute it at one input. -/
def glyphCharsWrong : ChangeSpec := { name := "glyphChars", fn := fun _ => fun
  | [d] => { results := [.lit (.bool false)], args := [d] }
  | _ => none }
def GlyphCharsWrongFalsely : Prop := glyphCharsRow.holds Try.pinned (OpenSpec.ofChange glyphCharsWrong)

/-- 'tabardlaw04.GlyphNames': WHATEVER THE INPUT: true; the input reads as it did. -/
def glyphNamesSpec : ChangeSpec := { name := "glyphNames", fn := fun _ => fun
  | [d] => { results := [.lit (.bool true)], args := [d] }
  | _ => none }
def glyphNamesRow : OpenClaim := { program := "ytdfdbhjgighkpaa", sum := "ce9fc9d42d3fed15817a64d3c4429ac6438831162e74dfe3ae9dd551441165ec", func := "tabard/tabardlaw04.GlyphNames", spec := "glyphNames", apart := false }
def GlyphNamesSaid : Prop := glyphNamesRow.holds Try.pinned (OpenSpec.ofChange glyphNamesSpec)

/-- ITS FALSE NEIGHBOUR: 'it returns false'. Refute it at one input. -/
def glyphNamesWrong : ChangeSpec := { name := "glyphNames", fn := fun _ => fun
  | [d] => { results := [.lit (.bool false)], args := [d] }
  | _ => none }
def GlyphNamesWrongFalsely : Prop := glyphNamesRow.holds Try.pinned (OpenSpec.ofChange glyphNamesWrong)

/-- 'tabardlaw04.GlyphPlaces': WHATEVER THE INPUT: true; the input reads as it did. -/
def glyphPlacesSpec : ChangeSpec := { name := "glyphPlaces", fn := fun _ => fun
  | [d1, d2] => { results := [.lit (.bool true)], args := [d1, d2] }
  | _ => none }
def glyphPlacesRow : OpenClaim := { program := "ytdfdbhjgighkpaa", sum := "ce9fc9d42d3fed15817a64d3c4429ac6438831162e74dfe3ae9dd551441165ec", func := "tabard/tabardlaw04.GlyphPlaces", spec := "glyphPlaces", apart := false }
def GlyphPlacesSaid : Prop := glyphPlacesRow.holds Try.pinned (OpenSpec.ofChange glyphPlacesSpec)

/-- ITS FALSE NEIGHBOUR: 'it returns false'. Refute it at one input. -/
def glyphPlacesWrong : ChangeSpec := { name := "glyphPlaces", fn := fun _ => fun
  | [d1, d2] => { results := [.lit (.bool false)], args := [d1, d2] }
  | _ => none }
def GlyphPlacesWrongFalsely : Prop := glyphPlacesRow.holds Try.pinned (OpenSpec.ofChange glyphPlacesWrong)

/-- 'tabardlaw04.GlyphLists': WHATEVER THE INPUT: true; the input reads as it did. -/
def glyphListsSpec : ChangeSpec := { name := "glyphLists", fn := fun _ => fun
  | [d1, d2, d3] => { results := [.lit (.bool true)], args := [d1, d2, d3] }
  | _ => none }
def glyphListsRow : OpenClaim := { program := "ytdfdbhjgighkpaa", sum := "ce9fc9d42d3fed15817a64d3c4429ac6438831162e74dfe3ae9dd551441165ec", func := "tabard/tabardlaw04.GlyphLists", spec := "glyphLists", unfollowed := true, recurses := true, apart := false }
def GlyphListsSaid : Prop := glyphListsRow.holds Try.pinned (OpenSpec.ofChange glyphListsSpec)

/-- ITS FALSE NEIGHBOUR: 'it returns false'. Refute it at one input. -/
def glyphListsWrong : ChangeSpec := { name := "glyphLists", fn := fun _ => fun
  | [d1, d2, d3] => { results := [.lit (.bool false)], args := [d1, d2, d3] }
  | _ => none }
def GlyphListsWrongFalsely : Prop := glyphListsRow.holds Try.pinned (OpenSpec.ofChange glyphListsWrong)

/-- 'tabardlaw04.GlyphRange': WHATEVER THE INPUT: true; the input reads as it did. -/
def glyphRangeSpec : ChangeSpec := { name := "glyphRange", fn := fun _ => fun
  | [d] => { results := [.lit (.bool true)], args := [d] }
  | _ => none }
def glyphRangeRow : OpenClaim := { program := "ytdfdbhjgighkpaa", sum := "ce9fc9d42d3fed15817a64d3c4429ac6438831162e74dfe3ae9dd551441165ec", func := "tabard/tabardlaw04.GlyphRange", spec := "glyphRange", apart := false }
def GlyphRangeSaid : Prop := glyphRangeRow.holds Try.pinned (OpenSpec.ofChange glyphRangeSpec)

/-- ITS FALSE NEIGHBOUR: 'it returns false'. Refute it at one input. -/
def glyphRangeWrong : ChangeSpec := { name := "glyphRange", fn := fun _ => fun
  | [d] => { results := [.lit (.bool false)], args := [d] }
  | _ => none }
def GlyphRangeWrongFalsely : Prop := glyphRangeRow.holds Try.pinned (OpenSpec.ofChange glyphRangeWrong)

/-- 'tabardlaw04.GlyphClasses': WHATEVER THE INPUT: true; the input reads as it did. -/
def glyphClassesSpec : ChangeSpec := { name := "glyphClasses", fn := fun _ => fun
  | [d] => { results := [.lit (.bool true)], args := [d] }
  | _ => none }
def glyphClassesRow : OpenClaim := { program := "ytdfdbhjgighkpaa", sum := "ce9fc9d42d3fed15817a64d3c4429ac6438831162e74dfe3ae9dd551441165ec", func := "tabard/tabardlaw04.GlyphClasses", spec := "glyphClasses", apart := false }
def GlyphClassesSaid : Prop := glyphClassesRow.holds Try.pinned (OpenSpec.ofChange glyphClassesSpec)

/-- ITS FALSE NEIGHBOUR: 'it returns false'. Refute it at one input. -/
def glyphClassesWrong : ChangeSpec := { name := "glyphClasses", fn := fun _ => fun
  | [d] => { results := [.lit (.bool false)], args := [d] }
  | _ => none }
def GlyphClassesWrongFalsely : Prop := glyphClassesRow.holds Try.pinned (OpenSpec.ofChange glyphClassesWrong)

/- THE SECOND FORM. 'bulk': how many values and letters a reading holds, each counted each time it is reached (what is shared counts as often as it is met; a slice's spare places count too). A statement '..UptoSaid' is the law's where the arguments, and the package variables that the reading takes, are together of bulk at most 1048576: NARROWER than '..Said'. Prove '..Said' where nothing that the law and all that it calls make is longer than what came in: it says more and counts as full. Else prove '..UptoSaid'. A law counts once. -/
mutual
def uptoBulk {H : Type} : DataW H → Nat
  | .lit (.string bytes) => bytes.length + 1
  | .lit _ => 1
  | .nil => 1
  | .ptr d => uptoBulk d + 1
  | .slice elems spare => uptoBulkAll elems + uptoBulkAll spare + 1
  | .agg parts => uptoBulkAll parts + 1
  | .iface _ d => uptoBulk d + 1
  | .map entries => uptoBulkEntries entries + 1
  | .held _ => 1
def uptoBulkAll {H : Type} : List (DataW H) → Nat
  | [] => 0
  | d :: r => uptoBulk d + uptoBulkAll r
def uptoBulkEntries {H : Type} : List (Lit × DataW H) → Nat
  | [] => 0
  | x :: r => uptoBulkEntry x + uptoBulkEntries r
def uptoBulkEntry {H : Type} : Lit × DataW H → Nat
  | (.string bytes, d) => bytes.length + uptoBulk d + 1
  | (_, d) => uptoBulk d + 1
 end
def uptoSmall : (H : Type) → List (DataW H) → Bool := fun _ ds => decide (uptoBulkAll ds ≤ 1048576)
def OpenSpec.upto (s : _root_.Go.ChangeSpec) : _root_.Go.OpenSpec := { _root_.Go.OpenSpec.ofChange s with cond := some uptoSmall }

/-- 'tabardlaw04.GlyphChars', WHERE WHAT IT READS IS OF BULK AT MOST 1048576: true; the input reads as it did. -/
def glyphCharsUptoRow : OpenClaim := { program := "ytdfdbhjgighkpaa", sum := "ce9fc9d42d3fed15817a64d3c4429ac6438831162e74dfe3ae9dd551441165ec", func := "tabard/tabardlaw04.GlyphChars", spec := "glyphChars", apart := false, narrowed := true }
def GlyphCharsUptoSaid : Prop := glyphCharsUptoRow.holds Try.pinned (OpenSpec.upto glyphCharsSpec)

/-- 'tabardlaw04.GlyphNames', WHERE WHAT IT READS IS OF BULK AT MOST 1048576: true; the input reads as it did. -/
def glyphNamesUptoRow : OpenClaim := { program := "ytdfdbhjgighkpaa", sum := "ce9fc9d42d3fed15817a64d3c4429ac6438831162e74dfe3ae9dd551441165ec", func := "tabard/tabardlaw04.GlyphNames", spec := "glyphNames", apart := false, narrowed := true }
def GlyphNamesUptoSaid : Prop := glyphNamesUptoRow.holds Try.pinned (OpenSpec.upto glyphNamesSpec)

/-- 'tabardlaw04.GlyphPlaces', WHERE WHAT IT READS IS OF BULK AT MOST 1048576: true; the input reads as it did. -/
def glyphPlacesUptoRow : OpenClaim := { program := "ytdfdbhjgighkpaa", sum := "ce9fc9d42d3fed15817a64d3c4429ac6438831162e74dfe3ae9dd551441165ec", func := "tabard/tabardlaw04.GlyphPlaces", spec := "glyphPlaces", apart := false, narrowed := true }
def GlyphPlacesUptoSaid : Prop := glyphPlacesUptoRow.holds Try.pinned (OpenSpec.upto glyphPlacesSpec)

/-- 'tabardlaw04.GlyphLists', WHERE WHAT IT READS IS OF BULK AT MOST 1048576: true; the input reads as it did. -/
def glyphListsUptoRow : OpenClaim := { program := "ytdfdbhjgighkpaa", sum := "ce9fc9d42d3fed15817a64d3c4429ac6438831162e74dfe3ae9dd551441165ec", func := "tabard/tabardlaw04.GlyphLists", spec := "glyphLists", unfollowed := true, recurses := true, apart := false, narrowed := true }
def GlyphListsUptoSaid : Prop := glyphListsUptoRow.holds Try.pinned (OpenSpec.upto glyphListsSpec)

/-- 'tabardlaw04.GlyphRange', WHERE WHAT IT READS IS OF BULK AT MOST 1048576: true; the input reads as it did. -/
def glyphRangeUptoRow : OpenClaim := { program := "ytdfdbhjgighkpaa", sum := "ce9fc9d42d3fed15817a64d3c4429ac6438831162e74dfe3ae9dd551441165ec", func := "tabard/tabardlaw04.GlyphRange", spec := "glyphRange", apart := false, narrowed := true }
def GlyphRangeUptoSaid : Prop := glyphRangeUptoRow.holds Try.pinned (OpenSpec.upto glyphRangeSpec)

/-- 'tabardlaw04.GlyphClasses', WHERE WHAT IT READS IS OF BULK AT MOST 1048576: true; the input reads as it did. -/
def glyphClassesUptoRow : OpenClaim := { program := "ytdfdbhjgighkpaa", sum := "ce9fc9d42d3fed15817a64d3c4429ac6438831162e74dfe3ae9dd551441165ec", func := "tabard/tabardlaw04.GlyphClasses", spec := "glyphClasses", apart := false, narrowed := true }
def GlyphClassesUptoSaid : Prop := glyphClassesUptoRow.holds Try.pinned (OpenSpec.upto glyphClassesSpec)

end Rows
end Go.Proofs.Ytdfdbhjgighkpaa
