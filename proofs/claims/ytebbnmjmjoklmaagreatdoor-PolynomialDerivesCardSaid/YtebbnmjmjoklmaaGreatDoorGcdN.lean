/-
  natural.GCD, and exactpplref01.DivMod by one limb, by the numbers alone.
-/
import Derived.Test.YtebbnmjmjoklmaaGreatDoorGcd7
import Derived.Test.YtebbnmjmjoklmaaGreatDoorRefDiv1
namespace Go.Proofs.YtebbnmjmjoklmaaGreatDoor
open Go.RowKit
set_option maxRecDepth 20000

theorem gcd_n {w : World} {A B : Option Addr} {n c m d : Nat} {x y : Int} (hl : Laid w) (hx : Num w A n c x) (hy : Num w B m d y) (hn : n ≤ 900000) (hm : m ≤ 900000) :
    Calls Tryz.prog 75 #[.slice A n c, .slice B m d] w (GivesN w (Int.gcd x y : Int)) := by
  obtain ⟨L, h1, rfl⟩ := hx
  obtain ⟨M, h2, rfl⟩ := hy
  exact (gcd_any A B n c m d L M w h1 h2 hn hm hl).mono fun _ _ h => h.n

theorem refDiv1_n {w : World} {A B : Option Addr} {n c m d : Nat} {x y : Int} (hx : Num w A n c x) (hy : Num w B m d y) (hn : n ≤ 1000000) (hm : m ≤ 1000000) (y0 : 0 < y) (y1 : y < 4294967296) :
    Calls Tryz.prog 80 #[.slice A n c, .slice B m d] w (Gives2N w (x / y) (x % y)) := by
  obtain ⟨L, h1, rfl⟩ := hx
  obtain ⟨M, h2, rfl⟩ := hy
  refine (refDivMod_one A B n c m d L M w h1 h2 hn hm y0 y1).mono fun e w' h => ?_
  obtain ⟨A, n, c, Q, B, m, d, R, he, hQ, iQ, hR, iR, hB⟩ := h
  exact ⟨A, n, c, B, m, d, he, Nrm.of_mine hQ iQ, Nrm.of_mine hR iR, hB⟩

theorem gcd_lt {x y : Int} {k : Nat} (x0 : 0 ≤ x) (y0 : 0 ≤ y) (hx : x < pw k) (hy : y < pw k) : (Int.gcd x y : Int) < pw k := by
  have p := pw_pos k
  rcases Int.lt_or_eq_of_le x0 with h | h
  · have h1 : ((Int.gcd x y : Nat) : Int) ∣ x := Int.gcd_dvd_left ..
    have h2 := Int.le_of_dvd h h1
    omega
  · rw [← h, Int.gcd_zero_left]
    omega

theorem gcd_times {x y z : Int} (z0 : 0 ≤ z) : (Int.gcd (x * z) (y * z) : Int) = (Int.gcd x y : Int) * z := by
  rw [Int.gcd_mul_right]
  push_cast
  rw [Int.ofNat_natAbs_of_nonneg z0]

theorem gcd_small {x y d : Int} (_hd : 0 < d) : (x % d = 0 ∧ y % d = 0) ↔ (Int.gcd x y : Int) % d = 0 := by
  constructor
  · rintro ⟨h1, h2⟩
    exact Int.emod_eq_zero_of_dvd (Int.dvd_coe_gcd (Int.dvd_of_emod_eq_zero h1) (Int.dvd_of_emod_eq_zero h2))
  · intro h
    have h0 := Int.dvd_of_emod_eq_zero h
    exact ⟨Int.emod_eq_zero_of_dvd (Int.dvd_trans h0 (Int.gcd_dvd_left ..)), Int.emod_eq_zero_of_dvd (Int.dvd_trans h0 (Int.gcd_dvd_right ..))⟩

theorem Nrm.len_iff {w : World} {A : Option Addr} {n c : Nat} {x : Int} (h : Nrm w A n c x) : n = 0 ↔ x = 0 := by
  constructor
  · intro h0
    subst h0
    have h1 := h.num.lt
    have h2 := h.num.nonneg
    have h3 : pw 0 = 1 := rfl
    omega
  · intro h0
    subst h0
    exact h.zero_len

end Go.Proofs.YtebbnmjmjoklmaaGreatDoor
