/-
  natural.Pow: for every list of limbs and every exponent the limbs of the power, or ErrRange.
  exactpplref01.Pow, and the reference's Add and Mul by the numbers alone.
-/
import Derived.Test.YtebbnmjmjoklmaaGreatDoorSame
import Derived.Test.YtebbnmjmjoklmaaGreatDoorLen
import Derived.Test.YtebbnmjmjoklmaaGreatDoorRefInt
import Derived.Test.YtebbnmjmjoklmaaGreatDoorRefDiv1
namespace Go.Proofs.YtebbnmjmjoklmaaGreatDoor
open Go.RowKit
set_option maxRecDepth 20000

theorem bits_none : ∀ k : Fin 65, k.val / 2 ^ Lib.bitLen k.val = 0 := by decide +kernel
theorem low_bit (k i : Nat) (hk : k ≤ 64) : bits .and .i64 ((k : Int) / 2 ^ i) 1 = ((k / 2 ^ i % 2 : Nat) : Int) := by
  have e : (k : Int) / 2 ^ i = ((k / 2 ^ i : Nat) : Int) := by simp
  have h1 : k / 2 ^ i ≤ 64 := Nat.le_trans (Nat.div_le_self _ _) hk
  rw [e]
  generalize k / 2 ^ i = q at *
  have h := and_mask (q : Int) 1 1 (by decide) (by decide) (by omega) (by omega)
  have e1 : ((1 : Nat) : Int) = 1 := rfl
  rw [e1] at h
  rw [h]
  omega
theorem halve (k i : Nat) : k / 2 ^ (i + 1) = k / 2 ^ i / 2 := by rw [Nat.pow_succ, Nat.div_div_eq_div_mul]
theorem pow_even {x : Int} {k i : Nat} (h : k / 2 ^ i % 2 = 0) : x ^ (k / 2 ^ (i + 1)) * x ^ (k / 2 ^ (i + 1)) = x ^ (k / 2 ^ i) := by
  rw [← Int.pow_add, halve]
  congr 1
  omega
theorem pow_odd {x : Int} {k i : Nat} (h : k / 2 ^ i % 2 = 1) : x ^ (k / 2 ^ (i + 1)) * x ^ (k / 2 ^ (i + 1)) * x = x ^ (k / 2 ^ i) := by
  rw [← Int.pow_add, ← Int.pow_succ, halve]
  congr 1
  omega
theorem pow_len {w : World} {P : Option Addr} {p pc n e : Nat} {x : Int} (h : Nrm w P p pc (x ^ e)) (x0 : 0 ≤ x) (hx : x < pw n) (hn : n ≤ 100) (he : e ≤ 64) : p ≤ 10000 := by
  have h1 := h.short (pow_lt x0 hx e)
  have h2 : n * e ≤ 100 * 64 := Nat.mul_le_mul hn he
  omega

end Go.Proofs.YtebbnmjmjoklmaaGreatDoor

namespace Go.Proofs.YtebbnmjmjoklmaaGreatDoor
open Go.RowKit
set_option maxRecDepth 20000

theorem refAdd_n {w : World} {A B : Option Addr} {n c m d : Nat} {x y : Int} (hx : Num w A n c x) (hy : Num w B m d y) (hn : n ≤ 900000) (hm : m ≤ 900000) : Calls Tryz.prog 78 #[.slice A n c, .slice B m d] w (GivesN w (x + y)) := by
  obtain ⟨L, h1, rfl⟩ := hx
  obtain ⟨M, h2, rfl⟩ := hy
  exact (refAdd_any A B n c m d L M w h1 h2 hn hm).mono fun _ _ h => h.n
theorem refCmp_n {w : World} {A B : Option Addr} {n c m d : Nat} {x y : Int} (hx : Num w A n c x) (hy : Num w B m d y) (hn : n ≤ 1000000) (hm : m ≤ 1000000) : Calls Tryz.prog 104 #[.slice A n c, .slice B m d] w (CmpPost w x y) := by
  obtain ⟨L, h1, rfl⟩ := hx
  obtain ⟨M, h2, rfl⟩ := hy
  exact refCmp_any A B n c m d L M w h1 h2 hn hm

end Go.Proofs.YtebbnmjmjoklmaaGreatDoor
