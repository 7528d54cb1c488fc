/-
  exactpplref01.Sub: the difference, or ErrRange.
-/
import Derived.Test.YtekalaihfmfkkaaDoorRefPow
import Derived.Test.YtekalaihfmfkkaaDoorSame
import Derived.Test.YtekalaihfmfkkaaDoorGcd7
namespace Go.Proofs.YtekalaihfmfkkaaDoor
open Go.RowKit
set_option maxRecDepth 20000

end Go.Proofs.YtekalaihfmfkkaaDoor
