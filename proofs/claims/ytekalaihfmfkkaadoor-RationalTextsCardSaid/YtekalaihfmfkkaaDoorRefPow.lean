/-
  exactpplref01.Pow, and the reference's Add and Mul by the numbers alone.
-/
import Derived.Test.YtekalaihfmfkkaaDoorRefInt
import Derived.Test.YtekalaihfmfkkaaDoorRefDiv1
import Derived.Test.YtekalaihfmfkkaaDoorPow
namespace Go.Proofs.YtekalaihfmfkkaaDoor
open Go.RowKit
set_option maxRecDepth 20000

theorem refCmp_n {w : World} {A B : Option Addr} {n c m d : Nat} {x y : Int} (hx : Num w A n c x) (hy : Num w B m d y) (hn : n ≤ 1000000) (hm : m ≤ 1000000) : Calls Tryd.prog 47 #[.slice A n c, .slice B m d] w (CmpPost w x y) := by
  obtain ⟨L, h1, rfl⟩ := hx
  obtain ⟨M, h2, rfl⟩ := hy
  exact refCmp_any A B n c m d L M w h1 h2 hn hm

end Go.Proofs.YtekalaihfmfkkaaDoor
