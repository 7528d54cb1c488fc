/-
  The small functions of forms: truth, limited, arity, isIndex, operate; Clamp, the program's and the statement's.
-/
import Derived.Test.YtlhncmnhpnhfhaaFxP
namespace Go.Proofs.Ytlhncmnhpnhfhaa
open Go Go.RowKit
set_option maxRecDepth 20000
namespace Fx

theorem truth_x (b : Bool) (w : World) : Calls Try.prog 30 #[.bool b] w fun e w' => e = .returned (.int .i64 (truth b)) ∧ w' = w := by
  cases b
  all_goals
    go_enter Try.func30, Try.ntmps30
    go_wp2
    go_ret
    exact ⟨rfl, rfl⟩

theorem limited_x (n : Int) (w : World) : Calls Try.prog 35 #[.int .i64 n] w fun e w' => e = .returned (.int .i64 (limited n)) ∧ w' = w := by
  go_enter Try.func35, Try.ntmps35
  go_wp2
  all_goals
    go_ret
    refine ⟨ret_int ?_, rfl⟩
    unfold limited
    omega

theorem isIndex_x (i n : Int) (w : World) : Calls Try.prog 34 #[.int .i64 i, .int .i64 n] w fun e w' => e = .returned (.bool (decide (0 ≤ i ∧ i < n))) ∧ w' = w := by
  go_enter Try.func34, Try.ntmps34
  go_wp2
  all_goals
    go_ret
    refine ⟨ret_bool ?_, rfl⟩
    simp_all
    try omega

theorem arity_x (o : Int) (w : World) : Calls Try.prog 33 #[.int .i64 o] w fun e w' => e = .returned (.int .i64 (arity o)) ∧ w' = w := by
  have go : ∀ v, v = arity o → Calls Try.prog 33 #[.int .i64 o] w fun e w' => e = .returned (.int .i64 v) ∧ w' = w := by
    intro v hv
    have HV := Lib.hid hv
    clear hv
    go_enter Try.func33, Try.ntmps33
    go_wp2
    all_goals
      go_ret
      refine ⟨ret_int ?_, rfl⟩
      rw [HV.out]
      unfold arity
      simp_all
      try omega
  exact go _ rfl

theorem operate_x (o a b : Int) (w : World) (ha : -1073741824 ≤ a ∧ a ≤ 1073741824) (hb : -1073741824 ≤ b ∧ b ≤ 1073741824) :
    Calls Try.prog 36 #[.int .i64 o, .int .i64 a, .int .i64 b] w fun e w' => e = .returned (.int .i64 (operate o a b)) ∧ w' = w := by
  have hm : -1152921504606846976 ≤ a * b ∧ a * b ≤ 1152921504606846976 := by
    constructor
    · have := Int.mul_le_mul_of_natAbs_le (x := a) (y := -b) (s := 1073741824) (t := 1073741824) (by omega) (by omega)
      rw [Int.mul_neg] at this
      omega
    · have := Int.mul_le_mul_of_natAbs_le (x := a) (y := b) (s := 1073741824) (t := 1073741824) (by omega) (by omega)
      omega
  obtain ⟨m, hm0⟩ : ∃ m, a * b = m := ⟨_, rfl⟩
  have go : ∀ v, v = operate o a b → Calls Try.prog 36 #[.int .i64 o, .int .i64 a, .int .i64 b] w fun e w' => e = .returned (.int .i64 v) ∧ w' = w := by
    intro v hv
    have HV := Lib.hid hv
    clear hv
    have HM := Lib.hid hm0
    rw [hm0] at hm
    clear hm0
    go_enter Try.func36, Try.ntmps36
    go_wp2_with (first
      | (refine (truth_x _ _).mono ?_; rintro e w' ⟨rfl, rfl⟩)
      | (refine (limited_x _ _).mono ?_; rintro e w' ⟨rfl, rfl⟩))
    all_goals
      go_ret
      refine ⟨ret_int ?_, rfl⟩
      rw [HV.out]
      unfold operate
      have hM := HM.out
      have hW : wrap64 m = m := by simp only [wrap64]; omega
      simp only [hM]
      simp_all
      try (first
        | (rename_i h _ hn; rw [show (a != 0) = true by simpa using hn]; rfl)
        | (rename_i hn _; rw [show (a != 0) = true by simpa using hn]; rfl)
        | trace_state)
  exact go _ rfl
end Fx
end Go.Proofs.Ytlhncmnhpnhfhaa
