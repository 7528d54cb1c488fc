/-
  exactppllaw02.short: whether a fraction has at most twelve limbs above and below.
-/
import Derived.Test.YtekalaihfmfkkaaGreatDoorRatF
namespace Go.Proofs.YtekalaihfmfkkaaGreatDoor
open Go.RowKit
set_option maxRecDepth 100000

theorem short2_yes {A B : Option Addr} {n c m d : Nat} (s : Bool) (w : World) (h1 : n ≤ 12) (h2 : m ≤ 12) :
    Calls Tryz.prog 13 #[.agg #[.bool s, .slice A n c, .slice B m d]] w (True1 w) := by
  go_enter Tryz.func13, Tryz.ntmps13
  go_wp2
  go_ret
  exact ⟨by simp <;> omega, (Below.refl _ _).alloc (Nat.le_refl _) _⟩
theorem short2_no {A B : Option Addr} {n c m d : Nat} (s : Bool) (w : World) (h : 12 < n ∨ 12 < m) :
    Calls Tryz.prog 13 #[.agg #[.bool s, .slice A n c, .slice B m d]] w fun e w' => e = .returned (.bool false) ∧ Below w.heap.size w w' := by
  by_cases h1 : 12 < n
  · go_enter Tryz.func13, Tryz.ntmps13
    go_wp2
    go_ret
    exact ⟨by simp <;> omega, (Below.refl _ _).alloc (Nat.le_refl _) _⟩
  · have h2 : 12 < m := by omega
    go_enter Tryz.func13, Tryz.ntmps13
    go_wp2
    go_ret
    exact ⟨by simp <;> omega, (Below.refl _ _).alloc (Nat.le_refl _) _⟩
end Go.Proofs.YtekalaihfmfkkaaGreatDoor
