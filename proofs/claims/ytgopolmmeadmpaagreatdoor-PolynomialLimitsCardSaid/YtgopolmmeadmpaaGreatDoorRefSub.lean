/-
  exactpplref01.Sub: the difference, or ErrRange.
-/
import Derived.Test.YtgopolmmeadmpaaGreatDoorRefPow
import Derived.Test.YtgopolmmeadmpaaGreatDoorSame
import Derived.Test.YtgopolmmeadmpaaGreatDoorGcd7
namespace Go.Proofs.YtgopolmmeadmpaaGreatDoor
open Go.RowKit
set_option maxRecDepth 20000

end Go.Proofs.YtgopolmmeadmpaaGreatDoor
