/-
  Expressions, of any depth; data of types, declarations, draws, statements.
-/
import Derived.Test.YtggdhgppclnckaaGreatDoorPasK
import Derived.Test.YtggdhgppclnckaaGreatDoorPasL
import Derived.Test.YtggdhgppclnckaaGreatDoorPasM
namespace Go.Proofs.YtggdhgppclnckaaGreatDoor
open Go Go.RowKit Lx
set_option maxRecDepth 20000

namespace Ps
variable {g b n c : Nat} {L : List Tok}
theorem expr_all (hfr : FrOk g b n c L) : ∀ k : Nat, Does g b n c L 166 rdE (expr L k) k
  | 0 => fun w i o h hq => absurd h.hi (by omega)
  | k + 1 => by
    have ih := expr_all hfr k
    have hpost := postfix_x ih (primary_x hfr ih (parenthesized_x ih))
    have hun : Does g b n c L 228 rdE (unF L (expr L k) L.length) (k + 1) := fun w i o h hq => unary_x hpost L.length w i o h hq (by have := h.hn; omega)
    have hprod := product_x hun
    have hsum := sum_x hprod
    have hcmp := comparison_x hsum
    have hand := and_x hcmp
    have hor := or_x hand
    exact cond_x ih hor
end Ps
end Go.Proofs.YtggdhgppclnckaaGreatDoor
