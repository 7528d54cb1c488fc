/-
  The lexer's small functions: letters, digits, blanks.
-/
import Derived.Test.YtenobkhiekhohaaMem8
namespace Go.Proofs.Ytenobkhiekhohaa
open Go.RowKit Lx
set_option maxRecDepth 20000

theorem isLetter_x (x : Int) (w : World) : Calls Try.prog 30 #[.int .u8 x] w fun e w' => e = .returned (.bool (isL x)) ∧ w = w' := by
  go_enter Try.func30, Try.ntmps30
  go_wp2
  all_goals
    go_ret
    exact ⟨ret_bool (by unfold isL; first | (symm; rw [decide_eq_true_eq]; omega) | (rw [Bool.eq_iff_iff]; simp; omega)), rfl⟩
theorem inBlank_x (a : Value) (x : Int) (w : World) : Calls Try.prog 18 #[a, .int .u8 x] w fun e w' => e = .returned (.bool (isB x)) ∧ w = w' := by
  go_enter Try.func18, Try.ntmps18
  go_wp2
  all_goals
    go_ret
    exact ⟨ret_bool (by unfold isB; first | (symm; rw [decide_eq_true_eq]; omega) | (rw [Bool.eq_iff_iff]; simp; omega) | (rw [Bool.eq_iff_iff]; simp [or_assoc])), rfl⟩
theorem inNumber_x (a : Value) (x : Int) (w : World) : Calls Try.prog 21 #[a, .int .u8 x] w fun e w' => e = .returned (.bool (isD x)) ∧ w = w' := by
  go_enter Try.func21, Try.ntmps21
  go_wp2
  all_goals
    go_ret
    exact ⟨ret_bool (by unfold isD; first | (symm; rw [decide_eq_true_eq]; omega) | (rw [Bool.eq_iff_iff]; simp; omega)), rfl⟩
end Go.Proofs.Ytenobkhiekhohaa
