/-
  exactpplref01.Mul: the limbs of the product, in memory of its own.
-/
import Derived.Test.YtebbnmjmjoklmaaGreatDoorRefAdd
namespace Go.Proofs.YtebbnmjmjoklmaaGreatDoor
open Go.RowKit
set_option maxRecDepth 20000

/-- A limb is stored with its carry taken off. -/
theorem carry_step {S : List Int} {p : Nat} {t z : Int} (hp : p < S.length) (ht : S.getD p 0 = t) : val (S.set p (z % 4294967296)) + pw (p + 1) * (z / 4294967296) = val S + pw p * (z - t) := by
  rw [val_set S p _ hp, ← getD_of_lt S p hp, ht, pw_succ]
  have e := Int.emod_add_mul_ediv z 4294967296
  generalize z % 4294967296 = r at *
  generalize z / 4294967296 = q at *
  rw [← e]; grind

theorem mul_arith {z pij pi pj x y t cr V T : Int} (h : pij = pi * pj) (e : z + pij * cr = V + pi * x * T) : z + pij * (x * y + t + cr - t) = V + pi * x * (T + pj * y) := by
  have h3 : pij * (x * y + t + cr - t) = pij * cr + pi * x * (pj * y) := by rw [h]; grind
  rw [h3]; grind

theorem take_prod_lt {L M : List Int} {i m : Nat} (hL : Lims L) (hM : Lims M) (lM : M.length = m) : val (L.take i) * val M < pw (i + m) := by
  have a0 := val_nonneg (hL.take i)
  have a1 := Int.lt_of_lt_of_le (val_lt (hL.take i)) (pw_mono (m := (L.take i).length) (n := i) (by rw [List.length_take]; omega))
  have b0 := val_nonneg hM
  have b1 := val_lt hM
  rw [lM] at b1
  exact pw_prod a0 b0 a1 b1

end Go.Proofs.YtebbnmjmjoklmaaGreatDoor
