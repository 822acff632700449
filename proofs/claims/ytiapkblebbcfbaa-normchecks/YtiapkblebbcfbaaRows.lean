/-
  NARROWER THAN 'FOR EVERY INPUT', by the rows' own cells (each row's printed sentence says how): NormValues: loops · NormHolds: loops · NormTurns: loops.
  DERIVED. THE GIVEN ROWS OF THIS SEAT. 4 by the template 'for every input the law returns true; each argument reads behind the call as it read before'; 0 by the template 'total and deterministic' (their statements: YtiapkblebbcfbaaTotals.lean).
  GIVEN WITH THE SEED: the statements are not yours to turn. If you find one false, say at which input.
  Laid BY PROGRAM, IN A SANDBOX (cutbox-rows.mjs): the forced cells as the released guide's own fill.sh prints them over the translation 813c6a27d52ecd45… (all of the seat's roots in one cut). By AI agents, Wed Nov 11 2026. No macro, syntax, notation, axiom, sorry.
-/
import Derived.Test.YtiapkblebbcfbaaChecked
import GoSem.Claim
import GoSem.ClaimJoined
import GoSem.ClaimMapViews
import Derived.JoinedTies
import Derived.KernelRfl
namespace Go.Proofs.Ytiapkblebbcfbaa
/- THE CELL 'sum', in the pinned program and in every row, IS THE sha256 OF THE DUMP (.gsa) THAT YtiapkblebbcfbaaProg.lean LOADS. Nothing in Lean hashes anything: it is a label: what it is worth is what the hold of that sum in a sandbox is worth. -/
noncomputable def Try.pinned : Pinned := { name := "ytiapkblebbcfbaa", sum := "813c6a27d52ecd45c5c60b582856527a7fd4d63a3f697fd013cb11f90ce8cbdf", checked := Try.checked }
namespace Rows
def none {H : Type} : Left H := { results := [], args := [] }

/-- 'tabardlaw09.NormChecks': WHATEVER THE INPUT: true; the input reads as it did. -/
def normChecksSpec : ChangeSpec := { name := "normChecks", fn := fun _ => fun
  | [d] => { results := [.lit (.bool true)], args := [d] }
  | _ => none }
def normChecksRow : OpenClaim := { program := "ytiapkblebbcfbaa", sum := "813c6a27d52ecd45c5c60b582856527a7fd4d63a3f697fd013cb11f90ce8cbdf", func := "tabard/tabardlaw09.NormChecks", spec := "normChecks", unfollowed := true, recurses := true, apart := false }
def NormChecksSaid : Prop := normChecksRow.holds Try.pinned (OpenSpec.ofChange normChecksSpec)

/-- ITS FALSE NEIGHBOUR: 'it returns false'. Refute it at one input. -/
def normChecksWrong : ChangeSpec := { name := "normChecks", fn := fun _ => fun
  | [d] => { results := [.lit (.bool false)], args := [d] }
  | _ => none }
def NormChecksWrongFalsely : Prop := normChecksRow.holds Try.pinned (OpenSpec.ofChange normChecksWrong)

/-- 'tabardlaw09.NormValues': WHATEVER THE INPUT: true; the input reads as it did. -/
def normValuesSpec : ChangeSpec := { name := "normValues", fn := fun _ => fun
  | [d1, d2] => { results := [.lit (.bool true)], args := [d1, d2] }
  | _ => none }
def normValuesRow : OpenClaim := { program := "ytiapkblebbcfbaa", sum := "813c6a27d52ecd45c5c60b582856527a7fd4d63a3f697fd013cb11f90ce8cbdf", func := "tabard/tabardlaw09.NormValues", spec := "normValues", unfollowed := true, recurses := true, loops := true, apart := false }
def NormValuesSaid : Prop := normValuesRow.holds Try.pinned (OpenSpec.ofChange normValuesSpec)

/-- ITS FALSE NEIGHBOUR: 'it returns false'. Refute it at one input. -/
def normValuesWrong : ChangeSpec := { name := "normValues", fn := fun _ => fun
  | [d1, d2] => { results := [.lit (.bool false)], args := [d1, d2] }
  | _ => none }
def NormValuesWrongFalsely : Prop := normValuesRow.holds Try.pinned (OpenSpec.ofChange normValuesWrong)

/-- 'tabardlaw09.NormHolds': WHATEVER THE INPUT: true; the input reads as it did. -/
def normHoldsSpec : ChangeSpec := { name := "normHolds", fn := fun _ => fun
  | [d1, d2] => { results := [.lit (.bool true)], args := [d1, d2] }
  | _ => none }
def normHoldsRow : OpenClaim := { program := "ytiapkblebbcfbaa", sum := "813c6a27d52ecd45c5c60b582856527a7fd4d63a3f697fd013cb11f90ce8cbdf", func := "tabard/tabardlaw09.NormHolds", spec := "normHolds", unfollowed := true, recurses := true, loops := true, apart := false }
def NormHoldsSaid : Prop := normHoldsRow.holds Try.pinned (OpenSpec.ofChange normHoldsSpec)

/-- ITS FALSE NEIGHBOUR: 'it returns false'. Refute it at one input. -/
def normHoldsWrong : ChangeSpec := { name := "normHolds", fn := fun _ => fun
  | [d1, d2] => { results := [.lit (.bool false)], args := [d1, d2] }
  | _ => none }
def NormHoldsWrongFalsely : Prop := normHoldsRow.holds Try.pinned (OpenSpec.ofChange normHoldsWrong)

/-- 'tabardlaw09.NormTurns': WHATEVER THE INPUT: true; the input reads as it did. -/
def normTurnsSpec : ChangeSpec := { name := "normTurns", fn := fun _ => fun
  | [d1, d2] => { results := [.lit (.bool true)], args := [d1, d2] }
  | _ => none }
def normTurnsRow : OpenClaim := { program := "ytiapkblebbcfbaa", sum := "813c6a27d52ecd45c5c60b582856527a7fd4d63a3f697fd013cb11f90ce8cbdf", func := "tabard/tabardlaw09.NormTurns", spec := "normTurns", unfollowed := true, recurses := true, loops := true, apart := false }
def NormTurnsSaid : Prop := normTurnsRow.holds Try.pinned (OpenSpec.ofChange normTurnsSpec)

/-- ITS FALSE NEIGHBOUR: 'it returns false'. Refute it at one input. -/
def normTurnsWrong : ChangeSpec := { name := "normTurns", fn := fun _ => fun
  | [d1, d2] => { results := [.lit (.bool false)], args := [d1, d2] }
  | _ => none }
def NormTurnsWrongFalsely : Prop := normTurnsRow.holds Try.pinned (OpenSpec.ofChange normTurnsWrong)

/- THE SECOND FORM. 'bulk': how many values and letters a reading holds, each counted each time it is reached (what is shared counts as often as it is met; a slice's spare places count too). A statement '..UptoSaid' is the law's where the arguments, and the package variables that the reading takes, are together of bulk at most 1048576: NARROWER than '..Said'. Prove '..Said' where nothing that the law and all that it calls make is longer than what came in: it says more and counts as full. Else prove '..UptoSaid'. A law counts once. -/
mutual
def uptoBulk {H : Type} : DataW H → Nat
  | .lit (.string bytes) => bytes.length + 1
  | .lit _ => 1
  | .nil => 1
  | .ptr d => uptoBulk d + 1
  | .slice elems spare => uptoBulkAll elems + uptoBulkAll spare + 1
  | .agg parts => uptoBulkAll parts + 1
  | .iface _ d => uptoBulk d + 1
  | .map entries => uptoBulkEntries entries + 1
  | .held _ => 1
def uptoBulkAll {H : Type} : List (DataW H) → Nat
  | [] => 0
  | d :: r => uptoBulk d + uptoBulkAll r
def uptoBulkEntries {H : Type} : List (Lit × DataW H) → Nat
  | [] => 0
  | x :: r => uptoBulkEntry x + uptoBulkEntries r
def uptoBulkEntry {H : Type} : Lit × DataW H → Nat
  | (.string bytes, d) => bytes.length + uptoBulk d + 1
  | (_, d) => uptoBulk d + 1
 end
def uptoSmall : (H : Type) → List (DataW H) → Bool := fun _ ds => decide (uptoBulkAll ds ≤ 1048576)
def OpenSpec.upto (s : _root_.Go.ChangeSpec) : _root_.Go.OpenSpec := { _root_.Go.OpenSpec.ofChange s with cond := some uptoSmall }

/-- 'tabardlaw09.NormChecks', WHERE WHAT IT READS IS OF BULK AT MOST 1048576: true; the input reads as it did. -/
def normChecksUptoRow : OpenClaim := { program := "ytiapkblebbcfbaa", sum := "813c6a27d52ecd45c5c60b582856527a7fd4d63a3f697fd013cb11f90ce8cbdf", func := "tabard/tabardlaw09.NormChecks", spec := "normChecks", unfollowed := true, recurses := true, apart := false, narrowed := true }
def NormChecksUptoSaid : Prop := normChecksUptoRow.holds Try.pinned (OpenSpec.upto normChecksSpec)

/-- 'tabardlaw09.NormValues', WHERE WHAT IT READS IS OF BULK AT MOST 1048576: true; the input reads as it did. -/
def normValuesUptoRow : OpenClaim := { program := "ytiapkblebbcfbaa", sum := "813c6a27d52ecd45c5c60b582856527a7fd4d63a3f697fd013cb11f90ce8cbdf", func := "tabard/tabardlaw09.NormValues", spec := "normValues", unfollowed := true, recurses := true, loops := true, apart := false, narrowed := true }
def NormValuesUptoSaid : Prop := normValuesUptoRow.holds Try.pinned (OpenSpec.upto normValuesSpec)

/-- 'tabardlaw09.NormHolds', WHERE WHAT IT READS IS OF BULK AT MOST 1048576: true; the input reads as it did. -/
def normHoldsUptoRow : OpenClaim := { program := "ytiapkblebbcfbaa", sum := "813c6a27d52ecd45c5c60b582856527a7fd4d63a3f697fd013cb11f90ce8cbdf", func := "tabard/tabardlaw09.NormHolds", spec := "normHolds", unfollowed := true, recurses := true, loops := true, apart := false, narrowed := true }
def NormHoldsUptoSaid : Prop := normHoldsUptoRow.holds Try.pinned (OpenSpec.upto normHoldsSpec)

/-- 'tabardlaw09.NormTurns', WHERE WHAT IT READS IS OF BULK AT MOST 1048576: true; the input reads as it did. -/
def normTurnsUptoRow : OpenClaim := { program := "ytiapkblebbcfbaa", sum := "813c6a27d52ecd45c5c60b582856527a7fd4d63a3f697fd013cb11f90ce8cbdf", func := "tabard/tabardlaw09.NormTurns", spec := "normTurns", unfollowed := true, recurses := true, loops := true, apart := false, narrowed := true }
def NormTurnsUptoSaid : Prop := normTurnsUptoRow.holds Try.pinned (OpenSpec.upto normTurnsSpec)

end Rows
end Go.Proofs.Ytiapkblebbcfbaa
