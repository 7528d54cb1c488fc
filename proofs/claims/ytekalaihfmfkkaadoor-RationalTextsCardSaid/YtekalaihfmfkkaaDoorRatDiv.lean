/-
  rational.Div: the quotient, or ErrDivide.
-/
import Derived.Test.YtekalaihfmfkkaaDoorRatD
namespace Go.Proofs.YtekalaihfmfkkaaDoor
open Go.RowKit
set_option maxRecDepth 20000

theorem sgnR_zero : sgnR 0 = 0 := cmpR_eq rfl
theorem sgnR_ne {q : Rat} (h : q ≠ 0) : sgnR q = 1 ∨ sgnR q = -1 := by
  rcases (Rat.le_total (a := q) (b := 0)) with h1 | h1
  · exact .inr (cmpR_lt (Rat.lt_of_le_of_ne h1 h))
  · exact .inl (cmpR_gt (Rat.lt_of_le_of_ne h1 (fun e => h e.symm)))


end Go.Proofs.YtekalaihfmfkkaaDoor
