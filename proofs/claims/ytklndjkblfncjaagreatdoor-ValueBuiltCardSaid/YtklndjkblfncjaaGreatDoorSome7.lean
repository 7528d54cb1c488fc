/-
  exactppllaw07.some on valid types: a value that is nearly one of the type.
-/
import Derived.Test.YtklndjkblfncjaaGreatDoorSomeE
import Derived.Test.YtklndjkblfncjaaGreatDoorSomeB
import Derived.Test.YtklndjkblfncjaaGreatDoorSomeC
import Derived.Test.YtklndjkblfncjaaGreatDoorSomeD
namespace Go.Proofs.YtklndjkblfncjaaGreatDoor
open Go Go.RowKit

theorem some_t : ∀ d, SomeAt d
  | 0, _, _, _, _, _, _, _, h, _, _, _ => h.elim
  | d + 1, S, T, A, n, c, g, w, h, hSg, hok, hs => by
    have IH := some_t d
    by_cases k1 : T.k = 1
    · exact some_bool d IH S T A n c g w h hSg hok hs k1
    · by_cases k2 : T.k = 2
      · exact some_int d IH S T A n c g w h hSg hok hs k2
      · by_cases k5 : T.k = 5
        · exact some_tuple d IH S T A n c g w h hSg hok hs k5
        · by_cases k6 : T.k = 6
          · exact some_list d IH S T A n c g w h hSg hok hs k6
          · exact some_other d IH S T A n c g w h hSg hok hs ⟨k1, k2, k5, k6⟩
end Go.Proofs.YtklndjkblfncjaaGreatDoor
