/-
  What the rows of numbers and fractions of the reference need, part E.
-/
import Derived.Test.YtggdhgppclnckaaGreatDoorQD
import Derived.Deep.RegionWith
namespace Go.Proofs.YtggdhgppclnckaaGreatDoor.Q
open Go.RowKit
set_option maxRecDepth 20000

end Go.Proofs.YtggdhgppclnckaaGreatDoor.Q

namespace Go.Proofs.YtggdhgppclnckaaGreatDoor.Q
open Go.RowKit
set_option maxRecDepth 20000

end Go.Proofs.YtggdhgppclnckaaGreatDoor.Q
namespace Go.Proofs.YtggdhgppclnckaaGreatDoor.Q
open Go.RowKit
set_option maxRecDepth 20000

end Go.Proofs.YtggdhgppclnckaaGreatDoor.Q
