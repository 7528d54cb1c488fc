/-
  How operators bind: the texts of ParserPrecedence as the pure reader reads them. No program is named here.
-/
import Derived.Test.YtggdhgppclnckaaGreatDoorEv9
import Derived.ProofKit
namespace Go.Proofs.YtggdhgppclnckaaGreatDoor
open Go.RowKit Lx

namespace Ps
def opl : Nat → Bs
  | 0 => [124, 124]
  | 1 => [38, 38]
  | 2 => [60]
  | 3 => [43]
  | _ => [42]
def pt1 (a b : Nat) : Bs := [120, 32, 58, 61, 32, 117, 32] ++ opl a ++ [32, 118, 32] ++ opl b ++ [32, 119, 59, 32, 114, 101, 116, 117, 114, 110, 32, 120, 59]
def ptL (a b : Nat) : Bs := [120, 32, 58, 61, 32] ++ ([40, 117, 32] ++ opl a ++ [32, 118, 41, 32] ++ opl b ++ [32, 119]) ++ [59, 32, 114, 101, 116, 117, 114, 110, 32, 120, 59]
def ptR (a b : Nat) : Bs := [120, 32, 58, 61, 32] ++ ([117, 32] ++ opl a ++ [32, 40, 118, 32] ++ opl b ++ [32, 119, 41]) ++ [59, 32, 114, 101, 116, 117, 114, 110, 32, 120, 59]
def pt3 (b : Nat) : Bs := [120, 32, 58, 61, 32, 33, 117, 32] ++ opl b ++ [32, 45, 118, 46, 49, 91, 48, 93, 59, 32, 114, 101, 116, 117, 114, 110, 32, 120, 59]
def pt4 (b : Nat) : Bs := [120, 32, 58, 61, 32, 40, 33, 117, 41, 32] ++ opl b ++ [32, 40, 45, 40, 40, 118, 46, 49, 41, 91, 48, 93, 41, 41, 59, 32, 114, 101, 116, 117, 114, 110, 32, 120, 59]
def pt5 (b : Nat) : Bs := [120, 32, 58, 61, 32, 117, 32, 63, 32, 118, 32, 58, 32, 119, 32, 63, 32, 117, 32] ++ opl b ++ [32, 118, 32, 58, 32, 119, 59, 32, 114, 101, 116, 117, 114, 110, 32, 120, 59]
def pt6 (b : Nat) : Bs := [120, 32, 58, 61, 32, 117, 32, 63, 32, 118, 32, 58, 32, 40, 119, 32, 63, 32, 40, 117, 32] ++ opl b ++ [32, 118, 41, 32, 58, 32, 119, 41, 59, 32, 114, 101, 116, 117, 114, 110, 32, 120, 59]
def PO.len : PO → Nat
  | .ok pr => pr.body.length
  | .bad _ _ _ => 1000
theorem prec_two : (parse (pt1 2 2)).err = (1, 12, 4) := by decide +kernel
theorem prec_len : ∀ a < 5, ∀ b < 5, (a = 2 ∧ b = 2) ∨ (parse (pt1 a b)).len = 1 := by decide +kernel
theorem prec_3 : ∀ b < 5, (parse (pt3 b)).len = 1 := by decide +kernel
theorem prec_5 : ∀ b < 5, (parse (pt5 b)).len = 1 := by decide +kernel
theorem prec_l00 : parse (pt1 0 0) = parse (ptL 0 0) := by kernel_rfl
theorem prec_l10 : parse (pt1 1 0) = parse (ptL 1 0) := by kernel_rfl
theorem prec_l11 : parse (pt1 1 1) = parse (ptL 1 1) := by kernel_rfl
theorem prec_l20 : parse (pt1 2 0) = parse (ptL 2 0) := by kernel_rfl
theorem prec_l21 : parse (pt1 2 1) = parse (ptL 2 1) := by kernel_rfl
theorem prec_l30 : parse (pt1 3 0) = parse (ptL 3 0) := by kernel_rfl
theorem prec_l31 : parse (pt1 3 1) = parse (ptL 3 1) := by kernel_rfl
theorem prec_l32 : parse (pt1 3 2) = parse (ptL 3 2) := by kernel_rfl
theorem prec_l33 : parse (pt1 3 3) = parse (ptL 3 3) := by kernel_rfl
theorem prec_l40 : parse (pt1 4 0) = parse (ptL 4 0) := by kernel_rfl
theorem prec_l41 : parse (pt1 4 1) = parse (ptL 4 1) := by kernel_rfl
theorem prec_l42 : parse (pt1 4 2) = parse (ptL 4 2) := by kernel_rfl
theorem prec_l43 : parse (pt1 4 3) = parse (ptL 4 3) := by kernel_rfl
theorem prec_l44 : parse (pt1 4 4) = parse (ptL 4 4) := by kernel_rfl
theorem prec_l (a b : Nat) (ha : a < 5) (hb : b < 5) (h : ¬ a < b) (h2 : ¬ (a = 2 ∧ b = 2)) : parse (pt1 a b) = parse (ptL a b) := by
  match a, b, ha, hb with
  | 0, 0, _, _ => exact prec_l00
  | 0, 1, _, _ => exact absurd h (by decide)
  | 0, 2, _, _ => exact absurd h (by decide)
  | 0, 3, _, _ => exact absurd h (by decide)
  | 0, 4, _, _ => exact absurd h (by decide)
  | 1, 0, _, _ => exact prec_l10
  | 1, 1, _, _ => exact prec_l11
  | 1, 2, _, _ => exact absurd h (by decide)
  | 1, 3, _, _ => exact absurd h (by decide)
  | 1, 4, _, _ => exact absurd h (by decide)
  | 2, 0, _, _ => exact prec_l20
  | 2, 1, _, _ => exact prec_l21
  | 2, 2, _, _ => exact absurd h2 (by decide)
  | 2, 3, _, _ => exact absurd h (by decide)
  | 2, 4, _, _ => exact absurd h (by decide)
  | 3, 0, _, _ => exact prec_l30
  | 3, 1, _, _ => exact prec_l31
  | 3, 2, _, _ => exact prec_l32
  | 3, 3, _, _ => exact prec_l33
  | 3, 4, _, _ => exact absurd h (by decide)
  | 4, 0, _, _ => exact prec_l40
  | 4, 1, _, _ => exact prec_l41
  | 4, 2, _, _ => exact prec_l42
  | 4, 3, _, _ => exact prec_l43
  | 4, 4, _, _ => exact prec_l44
theorem prec_r01 : parse (pt1 0 1) = parse (ptR 0 1) := by kernel_rfl
theorem prec_r02 : parse (pt1 0 2) = parse (ptR 0 2) := by kernel_rfl
theorem prec_r03 : parse (pt1 0 3) = parse (ptR 0 3) := by kernel_rfl
theorem prec_r04 : parse (pt1 0 4) = parse (ptR 0 4) := by kernel_rfl
theorem prec_r12 : parse (pt1 1 2) = parse (ptR 1 2) := by kernel_rfl
theorem prec_r13 : parse (pt1 1 3) = parse (ptR 1 3) := by kernel_rfl
theorem prec_r14 : parse (pt1 1 4) = parse (ptR 1 4) := by kernel_rfl
theorem prec_r23 : parse (pt1 2 3) = parse (ptR 2 3) := by kernel_rfl
theorem prec_r24 : parse (pt1 2 4) = parse (ptR 2 4) := by kernel_rfl
theorem prec_r34 : parse (pt1 3 4) = parse (ptR 3 4) := by kernel_rfl
theorem prec_r (a b : Nat) (ha : a < 5) (hb : b < 5) (h : a < b) : parse (pt1 a b) = parse (ptR a b) := by
  match a, b, ha, hb with
  | 0, 0, _, _ => exact absurd h (by decide)
  | 0, 1, _, _ => exact prec_r01
  | 0, 2, _, _ => exact prec_r02
  | 0, 3, _, _ => exact prec_r03
  | 0, 4, _, _ => exact prec_r04
  | 1, 0, _, _ => exact absurd h (by decide)
  | 1, 1, _, _ => exact absurd h (by decide)
  | 1, 2, _, _ => exact prec_r12
  | 1, 3, _, _ => exact prec_r13
  | 1, 4, _, _ => exact prec_r14
  | 2, 0, _, _ => exact absurd h (by decide)
  | 2, 1, _, _ => exact absurd h (by decide)
  | 2, 2, _, _ => exact absurd h (by decide)
  | 2, 3, _, _ => exact prec_r23
  | 2, 4, _, _ => exact prec_r24
  | 3, 0, _, _ => exact absurd h (by decide)
  | 3, 1, _, _ => exact absurd h (by decide)
  | 3, 2, _, _ => exact absurd h (by decide)
  | 3, 3, _, _ => exact absurd h (by decide)
  | 3, 4, _, _ => exact prec_r34
  | 4, 0, _, _ => exact absurd h (by decide)
  | 4, 1, _, _ => exact absurd h (by decide)
  | 4, 2, _, _ => exact absurd h (by decide)
  | 4, 3, _, _ => exact absurd h (by decide)
  | 4, 4, _, _ => exact absurd h (by decide)
theorem prec_34_0 : parse (pt3 0) = parse (pt4 0) := by kernel_rfl
theorem prec_34_1 : parse (pt3 1) = parse (pt4 1) := by kernel_rfl
theorem prec_34_2 : parse (pt3 2) = parse (pt4 2) := by kernel_rfl
theorem prec_34_3 : parse (pt3 3) = parse (pt4 3) := by kernel_rfl
theorem prec_34_4 : parse (pt3 4) = parse (pt4 4) := by kernel_rfl
theorem prec_34 (b : Nat) (hb : b < 5) : parse (pt3 b) = parse (pt4 b) := by
  match b, hb with
  | 0, _ => exact prec_34_0
  | 1, _ => exact prec_34_1
  | 2, _ => exact prec_34_2
  | 3, _ => exact prec_34_3
  | 4, _ => exact prec_34_4
theorem prec_56_0 : parse (pt5 0) = parse (pt6 0) := by kernel_rfl
theorem prec_56_1 : parse (pt5 1) = parse (pt6 1) := by kernel_rfl
theorem prec_56_2 : parse (pt5 2) = parse (pt6 2) := by kernel_rfl
theorem prec_56_3 : parse (pt5 3) = parse (pt6 3) := by kernel_rfl
theorem prec_56_4 : parse (pt5 4) = parse (pt6 4) := by kernel_rfl
theorem prec_56 (b : Nat) (hb : b < 5) : parse (pt5 b) = parse (pt6 b) := by
  match b, hb with
  | 0, _ => exact prec_56_0
  | 1, _ => exact prec_56_1
  | 2, _ => exact prec_56_2
  | 3, _ => exact prec_56_3
  | 4, _ => exact prec_56_4
end Ps
end Go.Proofs.YtggdhgppclnckaaGreatDoor
