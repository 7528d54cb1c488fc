/-
  exactpplref01.FromInt and Pow: an int as a number, and powers.
-/
import Derived.Test.YtebbnmjmjoklmaaGreatDoorRefMul
import Derived.Test.YtebbnmjmjoklmaaGreatDoorSame
namespace Go.Proofs.YtebbnmjmjoklmaaGreatDoor
open Go.RowKit
set_option maxRecDepth 20000

theorem refFromInt_neg (x : Int) (w : World) (h : x < 0) :
    Calls Tryz.prog 77 #[.int .i64 x] w fun e w' => e = .returned (.tuple #[.slice none 0 0, .int .i64 1]) ∧ w = w' := by
  go_enter Tryz.func77, Tryz.ntmps77
  go_wp2
  go_ret2
  exact ⟨rfl, rfl⟩

theorem refFromInt_any (x : Int) (w : World) (x0 : 0 ≤ x) (x1 : x ≤ 9223372036854775807) :
    Calls Tryz.prog 77 #[.int .i64 x] w (GivesOk w x) := by
  have J := and_mask x 32 4294967295 (by decide) (by decide) x0 x1
  have J2 : bits .and .i64 x 4294967295 = x % 4294967296 := J
  have m0 : 0 ≤ x % 4294967296 ∧ x % 4294967296 < 4294967296 := by omega
  have d0 : 0 ≤ x / 4294967296 ∧ x / 4294967296 < 4294967296 := by omega
  have TR := Lib.hid (refTrim_any _ _ _ _ _ (lit2 w (x % 4294967296) (x / 4294967296) m0.1 m0.2 d0.1 d0.2) (by omega))
  have hv : Hid (val [x % 4294967296, x / 4294967296] = x) := by show _ = _; simp [val]; omega
  have hB := (Below.refl w.heap.size w).alloc (Nat.le_refl _) (.cells #[.int .u32 (x % 4294967296), .int .u32 (x / 4294967296)] 71)
  clear J
  go_enter Tryz.func77, Tryz.ntmps77
  go_wp2_with fail
  refine TR.out.mono ?_
  rintro e w4 ⟨A4, n4, c4, R, rfl, hR, IR, hB4⟩
  have HI := Lib.hid IR
  clear IR TR
  go_wp2
  go_ret2
  exact ⟨A4, n4, c4, R, rfl, hR.more hB.size, by rw [← hv.out]; exact HI.out, nextB hB hB4⟩

end Go.Proofs.YtebbnmjmjoklmaaGreatDoor
