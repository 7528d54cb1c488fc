/-
  exactppllaw01.NaturalPowers returns true for every list of limbs and every two bytes, whatever the memory.
-/
import Derived.Test.YtdimajnadmkhiaaPow
import Derived.OpenShut
namespace Go.Proofs.Ytdimajnadmkhiaa
open Go.RowKit

theorem pow_i (A : Option Addr) (n c : Nat) (x e : Int) (k : Nat) (w : World) (he : e = (k : Int)) (hx : Num w A n c x) (hn : n ≤ 100) (hk : k ≤ 64) :
    Calls Try.prog 22 #[.slice A n c, .int .i64 e] w (GivesNOk w (x ^ k)) := by
  subst he
  exact pow_n A n c x k w hx hn hk

theorem powers_long (A : Option Addr) (a ca : Nat) (m n : Int) (w : World) (h : 4 < a) :
    Calls Try.prog 7 #[.slice A a ca, .int .u8 m, .int .u8 n] w (True1 w) := by
  go_enter Try.func7, Try.ntmps7
  go_wp2_with fail
  refine (awake_any _).mono ?_
  rintro e w' ⟨rfl, hB⟩
  go_wp2
  go_ret
  exact ⟨rfl, hB⟩

set_option maxHeartbeats 2000000 in
theorem powers_short (A : Option Addr) (a ca : Nat) (x m n : Int) (w : World) (hx : Num w A a ca x) (h : a ≤ 4) (m0 : 0 ≤ m) (m1 : m ≤ 255) (n0 : 0 ≤ n) (n1 : n ≤ 255) :
    Calls Try.prog 7 #[.slice A a ca, .int .u8 m, .int .u8 n] w (True1 w) := by
  have x0 := hx.nonneg
  have hxl := hx.lt
  obtain ⟨i, hi⟩ := Int.eq_ofNat_of_zero_le (show 0 ≤ m % 12 by omega)
  obtain ⟨k, hk⟩ := Int.eq_ofNat_of_zero_le (show 0 ≤ n % 12 by omega)
  have i1 : i ≤ 11 := by omega
  have k1 : k ≤ 11 := by omega
  have hn : a ≤ 100 := by omega
  have hW := Below.refl w.heap.size w
  go_enter Try.func7, Try.ntmps7
  go_wp2_with fail
  refine (pow_i _ _ _ x _ i _ rfl hx hn (by omega)).mono ?_
  rintro e w1 ⟨A1, a1, c1, rfl, hP, hB⟩
  replace hx := hx.below hB
  replace hW := nextB hW hB
  clear hB
  go_wp2_with fail
  refine (pow_i _ _ _ x _ k _ rfl hx hn (by omega)).mono ?_
  rintro e w2 ⟨A2, a2, c2, rfl, hQ, hB⟩
  replace hx := hx.below hB
  replace hP := hP.below hB
  replace hW := nextB hW hB
  clear hB
  go_wp2_with fail
  refine (pow_i _ _ _ x _ (i + k) _ (by omega) hx hn (by omega)).mono ?_
  rintro e w3 ⟨A3, a3, c3, rfl, hR, hB⟩
  replace hx := hx.below hB
  replace hP := hP.below hB
  replace hQ := hQ.below hB
  replace hW := nextB hW hB
  clear hB
  go_wp2_with fail
  refine (pow_range _ _ _ _ _ (by omega)).mono ?_
  rintro e w' ⟨rfl, rfl⟩
  go_wp2_with fail
  refine (pow_range _ _ _ _ _ (by omega)).mono ?_
  rintro e w' ⟨rfl, rfl⟩
  have p1 := pow_len hP x0 hxl hn (by omega)
  have p2 := pow_len hQ x0 hxl hn (by omega)
  go_wp2_with fail
  refine (mul_n hP.num hQ.num (by omega) (by omega)).mono ?_
  rintro e w4 ⟨A4, a4, c4, rfl, hS, hB⟩
  replace hR := hR.below hB
  replace hW := nextB hW hB
  clear hB
  go_wp2_with fail
  refine (same_n hR hS (Int.pow_add ..)).mono ?_
  rintro e w' ⟨rfl, k5, rfl⟩
  replace hW := drewN_below hW k5
  go_wp2_with fail
  refine (awake_any _).mono ?_
  rintro e w' ⟨rfl, hB⟩
  replace hW := nextB hW hB
  go_wp2
  go_ret
  exact ⟨rfl, hW⟩

theorem naturalPowers.walk {A : Option Addr} {a ca : Nat} {x m n : Int} {w : World} (ha : Num w A a ca x) (hm : (Lit.int .u8 m).wf = true) (hn : (Lit.int .u8 n).wf = true) :
    Calls Try.prog 7 #[.slice A a ca, .int .u8 m, .int .u8 n] w (True1 w) := by
  have b1 := bounds_u8 hm
  have b2 := bounds_u8 hn
  by_cases h : a ≤ 4
  · exact powers_short A a ca x m n w ha h b1.1 b1.2 b2.1 b2.2
  · exact powers_long A a ca m n w (by omega)

end Go.Proofs.Ytdimajnadmkhiaa
