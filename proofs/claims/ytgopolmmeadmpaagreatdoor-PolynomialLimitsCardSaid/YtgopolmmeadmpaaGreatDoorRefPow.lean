/-
  exactpplref01.Pow, and the reference's Add and Mul by the numbers alone.
-/
import Derived.Test.YtgopolmmeadmpaaGreatDoorRefInt
import Derived.Test.YtgopolmmeadmpaaGreatDoorRefDiv1
import Derived.Test.YtgopolmmeadmpaaGreatDoorPow
namespace Go.Proofs.YtgopolmmeadmpaaGreatDoor
open Go.RowKit
set_option maxRecDepth 20000

theorem refAdd_n {w : World} {A B : Option Addr} {n c m d : Nat} {x y : Int} (hx : Num w A n c x) (hy : Num w B m d y) (hn : n ≤ 900000) (hm : m ≤ 900000) : Calls Tryz.prog 37 #[.slice A n c, .slice B m d] w (GivesN w (x + y)) := by
  obtain ⟨L, h1, rfl⟩ := hx
  obtain ⟨M, h2, rfl⟩ := hy
  exact (refAdd_any A B n c m d L M w h1 h2 hn hm).mono fun _ _ h => h.n
theorem refCmp_n {w : World} {A B : Option Addr} {n c m d : Nat} {x y : Int} (hx : Num w A n c x) (hy : Num w B m d y) (hn : n ≤ 1000000) (hm : m ≤ 1000000) : Calls Tryz.prog 113 #[.slice A n c, .slice B m d] w (CmpPost w x y) := by
  obtain ⟨L, h1, rfl⟩ := hx
  obtain ⟨M, h2, rfl⟩ := hy
  exact refCmp_any A B n c m d L M w h1 h2 hn hm

end Go.Proofs.YtgopolmmeadmpaaGreatDoor
