/-
  exactppllaw07.some on valid types: a value that is nearly one of the type.
-/
import Derived.Test.YtklndjkblfncjaaDoorSomeA
import Derived.Test.YtklndjkblfncjaaDoorSomeB
import Derived.Test.YtklndjkblfncjaaDoorSomeC
import Derived.Test.YtklndjkblfncjaaDoorSomeD
namespace Go.Proofs.YtklndjkblfncjaaDoor
open Go Go.RowKit

theorem some_x : ∀ d, SomeAt d
  | 0, _, _, _, _, _, _, _, h, _, _, _, _ => h.elim
  | d + 1, S, T, A, n, c, g, w, h, hSg, hok, hk34, hs => by
    have IH := some_x d
    rcases hok.kinds with hk | hk | hk | hk | hk | hk
    · exact some_bool d IH S T A n c g w h hSg hok hk34 hs hk
    · exact some_int d IH S T A n c g w h hSg hok hk34 hs hk
    · exact absurd hk hk34.1
    · exact absurd hk hk34.2
    · exact some_tuple d IH S T A n c g w h hSg hok hk34 hs hk
    · exact some_list d IH S T A n c g w h hSg hok hk34 hs hk
end Go.Proofs.YtklndjkblfncjaaDoor
