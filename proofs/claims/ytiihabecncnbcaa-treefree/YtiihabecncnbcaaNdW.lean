/- What the program's tree answers. -/
import Derived.Test.YtiihabecncnbcaaNdV
import Derived.Test.YtiihabecncnbcaaNdP
import Derived.Test.YtiihabecncnbcaaTrN
namespace Go.Proofs.Ytiihabecncnbcaa.Gl
theorem tree_c : TreeC where
  check := check_run
  size := size_run
  depth := depth_run
  free := free_run
  widest := widest_run
  plain := plain_run
  same := same_run
end Go.Proofs.Ytiihabecncnbcaa.Gl
