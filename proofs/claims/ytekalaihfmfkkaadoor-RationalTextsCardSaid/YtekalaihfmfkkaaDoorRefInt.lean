/-
  exactpplref01.FromInt and Pow: an int as a number, and powers.
-/
import Derived.Test.YtekalaihfmfkkaaDoorRefMul
import Derived.Test.YtekalaihfmfkkaaDoorSame
namespace Go.Proofs.YtekalaihfmfkkaaDoor
open Go.RowKit
set_option maxRecDepth 20000

end Go.Proofs.YtekalaihfmfkkaaDoor
