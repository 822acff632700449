/- The program's Rises, isNoName, Index; slices.IndexFunc and ContainsFunc at isNoName. -/
import Derived.Test.YtiapkblebbcfbaaGreatGlI
import Derived.Test.YtiapkblebbcfbaaGreatGlM
namespace Go.Proofs.YtiapkblebbcfbaaGreat.Gl
open Go.RowKit
set_option linter.unusedVariables false

theorem pname_yes (s : ByteArray) (w : World) (hs : s.size ≤ 9223372036854775807) (h : IsName s) : Calls Tryz.prog 92 #[.string s] w fun e w' => e = .returned (.bool true) ∧ Below w.heap.size w w' := name_at s true w hs ⟨fun _ => h, fun _ => rfl⟩
theorem pname_not (s : ByteArray) (w : World) (hs : s.size ≤ 9223372036854775807) (h : ¬ IsName s) : Calls Tryz.prog 92 #[.string s] w fun e w' => e = .returned (.bool false) ∧ Below w.heap.size w w' := name_at s false w hs ⟨fun e => (by cases e), fun e => absurd e h⟩
end Go.Proofs.YtiapkblebbcfbaaGreat.Gl
