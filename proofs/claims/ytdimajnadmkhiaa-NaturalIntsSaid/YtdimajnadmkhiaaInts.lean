/-
  exactppllaw01.NaturalInts returns true for every two ints, whatever the memory.
-/
import Derived.Test.YtdimajnadmkhiaaAwake
import Derived.Test.YtdimajnadmkhiaaAdd
import Derived.Test.YtdimajnadmkhiaaMul
import Derived.Test.YtdimajnadmkhiaaCmp
namespace Go.Proofs.Ytdimajnadmkhiaa
open Go.RowKit

theorem and_mask (a : Int) (k m : Nat) (hm : m + 1 = 2 ^ k) (hk : k ≤ 62) (a0 : 0 ≤ a) (a1 : a ≤ 9223372036854775807) : bits .and .i64 a (m : Int) = a % ((m : Int) + 1) := by
  have hk2 : 2 ^ k ≤ 2 ^ 62 := Nat.pow_le_pow_right (by decide) hk
  have e62 : (2 : Nat) ^ 62 = 4611686018427387904 := by decide
  have h1 : ∀ x : Nat, x < 9223372036854775808 → (BitVec.ofInt 64 (x : Int)).toNat = x := by
    intro x hx
    rw [BitVec.ofInt_natCast, BitVec.toNat_ofNat]
    exact Nat.mod_eq_of_lt (by omega)
  obtain ⟨n, rfl⟩ := Int.eq_ofNat_of_zero_le a0
  have e : m = 2 ^ k - 1 := by omega
  have h2 : n &&& m = n % (m + 1) := by rw [hm, e, Nat.and_two_pow_sub_one_eq_mod]
  show IntKind.i64.wrap ((BitVec.ofInt 64 (n : Int) &&& BitVec.ofInt 64 (m : Int)).toNat : Int) = _
  rw [BitVec.toNat_and, h1 n (by omega), h1 m (by omega), h2, IntKind.wrap_i64]
  have h3 : n % (m + 1) < m + 1 := Nat.mod_lt _ (by omega)
  have h4 : ((n % (m + 1) : Nat) : Int) = (n : Int) % ((m : Int) + 1) := by simp
  omega

theorem ints_neg (m n : Int) (w : World) (h : m < 0 ∨ n < 0) (m0 : -9223372036854775808 ≤ m) (m1 : m ≤ 9223372036854775807) (n0 : -9223372036854775808 ≤ n) (n1 : n ≤ 9223372036854775807) :
    Calls Try.prog 6 #[.int .i64 m, .int .i64 n] w (True1 w) := by
  by_cases hm : m < 0
  · by_cases hn : n < 0
    · go_enter Try.func6, Try.ntmps6
      go_wp2_with fail
      refine (fromInt_neg m _ hm).mono ?_
      rintro e w' ⟨rfl, rfl⟩
      go_wp2_with fail
      refine (fromInt_neg n _ hn).mono ?_
      rintro e w' ⟨rfl, rfl⟩
      go_wp2_with fail
      refine (awake_any _).mono ?_
      rintro e w' ⟨rfl, hB⟩
      go_wp2
      go_ret
      exact ⟨rfl, hB⟩
    · have hn' : 0 ≤ n := by omega
      have hd : decide (n < 0) = false := by simpa using hn'
      go_enter Try.func6, Try.ntmps6
      go_wp2_with fail
      refine (fromInt_neg m _ hm).mono ?_
      rintro e w' ⟨rfl, rfl⟩
      go_wp2_with fail
      refine (fromInt_any n _ hn' n1).mono ?_
      rintro e w1 ⟨A, a, c, L, rfl, _, _, hB1⟩
      go_wp2_with fail
      refine (awake_any _).mono ?_
      rintro e w' ⟨rfl, hB⟩
      go_wp2
      go_ret
      exact ⟨rfl, hB1.trans (hB.mono hB1.size)⟩
  · have hm' : 0 ≤ m := by omega
    have hn : n < 0 := by omega
    have hd : decide (m < 0) = false := by simpa using hm'
    go_enter Try.func6, Try.ntmps6
    go_wp2_with fail
    refine (fromInt_any m _ hm' m1).mono ?_
    rintro e w1 ⟨A, a, c, L, rfl, _, _, hB1⟩
    go_wp2_with fail
    refine (fromInt_neg n _ hn).mono ?_
    rintro e w' ⟨rfl, rfl⟩
    go_wp2_with fail
    refine (awake_any _).mono ?_
    rintro e w' ⟨rfl, hB⟩
    go_wp2
    go_ret
    exact ⟨rfl, hB1.trans (hB.mono hB1.size)⟩

theorem masks (m n : Int) (m0 : 0 ≤ m) (m1 : m ≤ 9223372036854775807) (n0 : 0 ≤ n) (n1 : n ≤ 9223372036854775807) :
    ∃ x y : Int, bits .and .i64 m 2147483647 = x ∧ bits .and .i64 n 1073741823 = y ∧ 0 ≤ x ∧ x ≤ 2147483647 ∧ 0 ≤ y ∧ y ≤ 1073741823 :=
  ⟨m % 2147483648, n % 1073741824, and_mask m 31 2147483647 (by decide) (by decide) m0 m1, and_mask n 30 1073741823 (by decide) (by decide) n0 n1, by omega, by omega, by omega, by omega⟩

theorem order_of (m n : Int) : ∃ z, cmpZ m n = z ∧ ((m < n ∧ z = -1) ∨ (m = n ∧ z = 0) ∨ (n < m ∧ z = 1)) := by
  rcases Int.lt_trichotomy m n with h | h | h
  · exact ⟨_, rfl, .inl ⟨h, cmpZ_lt h⟩⟩
  · exact ⟨_, rfl, .inr (.inl ⟨h, cmpZ_eq h⟩)⟩
  · exact ⟨_, rfl, .inr (.inr ⟨h, cmpZ_gt h⟩)⟩

/-- A list of the limbs of a number that fits into two limbs is short. -/
theorem small_len {L : List Int} {x : Int} (h : Is L x) (hx : x ≤ 9223372036854775807) : L.length ≤ 2 := by
  rcases Nat.lt_or_ge L.length 3 with h1 | h1
  · omega
  · exfalso
    obtain ⟨j, hj⟩ : ∃ j, L.length = j + 1 := ⟨L.length - 1, by omega⟩
    have h2 := h.ge hj
    have h3 := pw_mono (m := 2) (n := j) (by omega)
    have h4 : pw 2 = 18446744073709551616 := by decide
    omega

set_option maxHeartbeats 2000000 in
theorem ints_pos (m n : Int) (w : World) (m0 : 0 ≤ m) (m1 : m ≤ 9223372036854775807) (n0 : 0 ≤ n) (n1 : n ≤ 9223372036854775807) :
    Calls Try.prog 6 #[.int .i64 m, .int .i64 n] w (True1 w) := by
  obtain ⟨x, y, ex, ey, x0, x1, y0, y1⟩ := masks m n m0 m1 n0 n1
  obtain ⟨z, hz, hcases⟩ := order_of m n
  have p0 : 0 ≤ x * y := Int.mul_nonneg x0 y0
  have p1 : x * y ≤ 2305843006066720769 := by
    have h1 : x * y ≤ 2147483647 * y := Int.mul_le_mul_of_nonneg_right x1 y0
    omega
  have HZ := Lib.hid hz
  clear hz
  rcases hcases with ⟨h, rfl⟩ | ⟨rfl, rfl⟩ | ⟨h, rfl⟩
  all_goals
    go_enter Try.func6, Try.ntmps6
    go_wp2_with fail
    refine (fromInt_any _ _ m0 m1).mono ?_
    rintro e w1 ⟨A, a, c, L, rfl, hA, iA, hB1⟩
    go_wp2_with fail
    refine (fromInt_any _ _ n0 n1).mono ?_
    rintro e w2 ⟨B, b, d, M, rfl, hM, iM, hB2⟩
    have hA2 := hA.below hB2
    have iA' := iA.eq
    have iM' := iM.eq
    have I1 := int_any A a c L w2 hA2.rd (by rw [iA']; exact m1)
    have C1 := cmp_any A B a c b d L M w2 hA2.rd hM.rd
    unfold SameNum at C1
    rw [iA'] at I1
    rw [iA', iM', HZ.out] at C1
    have HI1 := Lib.hid I1
    have HC1 := Lib.hid C1
    clear I1 C1 iA iM iA' iM' hA hA2 hM
    go_wp2_with fail
    refine HI1.out.mono ?_
    rintro e w' ⟨rfl, rfl⟩
    go_wp2_with fail
    refine HC1.out.mono ?_
    rintro e w' ⟨rfl, k0, rfl⟩
    go_wp2_with fail
    refine (fromInt_any x _ x0 (by omega)).mono ?_
    rintro e w3 ⟨A3, a3, c3, L3, rfl, hA3, iA3, hB3⟩
    have hB3' : Below w2.heap.size w2 w3 := (drewN_below (Below.refl _ _) k0).trans hB3
    go_wp2_with fail
    refine (fromInt_any y _ y0 (by omega)).mono ?_
    rintro e w4 ⟨A4, a4, c4, L4, rfl, hA4, iA4, hB4⟩
    have hA3' := hA3.below hB4
    have i3 := iA3.eq
    have i4 := iA4.eq
    have s3 := small_len iA3 (by omega)
    have s4 := small_len iA4 (by omega)
    have l3 := hA3'.len
    have l4 := hA4.len
    have SUM := add_any A3 A4 a3 c3 a4 c4 L3 L4 w4 hA3'.rd hA4.rd (by omega) (by omega)
    rw [i3, i4] at SUM
    have HS := Lib.hid SUM
    have I3 := Lib.hid i3
    have I4 := Lib.hid i4
    have S3 := Lib.hid s3
    have S4 := Lib.hid s4
    have N3 := Lib.hid l3
    have N4 := Lib.hid l4
    clear SUM i3 i4 iA3 iA4 s3 s4 l3 l4 hA3 HI1 HC1 HZ
    go_wp2_with fail
    refine HS.out.mono ?_
    rintro e w5 ⟨A5, a5, c5, L5, rfl, hA5, iA5, hB5⟩
    have I5 := int_any A5 a5 c5 L5 w5 hA5.rd (by rw [iA5.eq]; omega)
    rw [iA5.eq] at I5
    have HI5 := Lib.hid I5
    clear I5 iA5 hA5
    go_wp2_with fail
    refine HI5.out.mono ?_
    rintro e w' ⟨rfl, rfl⟩
    have PRO := mul_any A3 A4 a3 c3 a4 c4 L3 L4 w5 (hA3'.below hB5).rd (hA4.below hB5).rd (by have := N3.out; have := S3.out; omega) (by have := N4.out; have := S4.out; omega)
    rw [I3.out, I4.out] at PRO
    have HP := Lib.hid PRO
    clear PRO HI5 HS
    go_wp2_with fail
    refine HP.out.mono ?_
    rintro e w6 ⟨A6, a6, c6, L6, rfl, hA6, iA6, hB6⟩
    have I6 := int_any A6 a6 c6 L6 w6 hA6.rd (by rw [iA6.eq]; omega)
    rw [iA6.eq] at I6
    have HI6 := Lib.hid I6
    clear I6 iA6 hA6 HP
    go_wp2_with fail
    refine HI6.out.mono ?_
    rintro e w' ⟨rfl, rfl⟩
    go_wp2_with fail
    refine (awake_any _).mono ?_
    rintro e w7 ⟨rfl, hB7⟩
    go_wp2
    go_ret
    exact ⟨rfl, nextB (nextB (nextB (nextB (nextB (nextB hB1 hB2) hB3') hB4) hB5) hB6) hB7⟩

end Go.Proofs.Ytdimajnadmkhiaa
