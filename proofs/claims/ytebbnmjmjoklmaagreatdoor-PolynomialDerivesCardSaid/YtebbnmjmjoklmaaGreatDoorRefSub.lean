/-
  exactpplref01.Sub: the difference, or ErrRange.
-/
import Derived.Test.YtebbnmjmjoklmaaGreatDoorRefPow
import Derived.Test.YtebbnmjmjoklmaaGreatDoorSame
import Derived.Test.YtebbnmjmjoklmaaGreatDoorGcd7
namespace Go.Proofs.YtebbnmjmjoklmaaGreatDoor
open Go.RowKit
set_option maxRecDepth 20000

end Go.Proofs.YtebbnmjmjoklmaaGreatDoor
