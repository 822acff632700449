/- A fact behind a name. -/
import Derived.Below
namespace Go.Proofs.YtncgmnijgdfenaaDoor.Gl
open Go Go.RowKit
theorem mkHid {p : Prop} (h : p) : Hid p := h
end Go.Proofs.YtncgmnijgdfenaaDoor.Gl
