/-
  The functions of math/bits on words of 32 bits that natural calls, and natural.multiplyAdd: what they return for limbs.
-/
import Derived.Test.YtdimajnadmkhiaaDoorMem
import Derived.Test.YtdimajnadmkhiaaDoorChecked
import Derived.WalkKit
import Derived.Handy
import Derived.Outline
import Derived.Laws.BitsAllLaws
import Derived.Laws.BitsLemmas
import Derived.BigQuiet
import Derived.Deep.QuietTactic
namespace Go.Proofs.YtdimajnadmkhiaaDoor
open Go.RowKit

theorem ret_int {k : IntKind} {a b : Int} (h : a = b) : Ending.returned (.int k a) = .returned (.int k b) := by rw [h]
theorem ret2_int {k k' : IntKind} {a b a' b' : Int} (h : a = b) (h' : a' = b') : Ending.returned (.tuple #[.int k a, .int k' a']) = .returned (.tuple #[.int k b, .int k' b']) := by rw [h, h']
theorem and_mask (a : Int) (k m : Nat) (hm : m + 1 = 2 ^ k) (hk : k ≤ 62) (a0 : 0 ≤ a) (a1 : a ≤ 9223372036854775807) : bits .and .i64 a (m : Int) = a % ((m : Int) + 1) := by
  have hk2 : 2 ^ k ≤ 2 ^ 62 := Nat.pow_le_pow_right (by decide) hk
  have e62 : (2 : Nat) ^ 62 = 4611686018427387904 := by decide
  have h1 : ∀ x : Nat, x < 9223372036854775808 → (BitVec.ofInt 64 (x : Int)).toNat = x := by
    intro x hx
    rw [BitVec.ofInt_natCast, BitVec.toNat_ofNat]
    exact Nat.mod_eq_of_lt (by omega)
  obtain ⟨n, rfl⟩ := Int.eq_ofNat_of_zero_le a0
  have e : m = 2 ^ k - 1 := by omega
  have h2 : n &&& m = n % (m + 1) := by rw [hm, e, Nat.and_two_pow_sub_one_eq_mod]
  show IntKind.i64.wrap ((BitVec.ofInt 64 (n : Int) &&& BitVec.ofInt 64 (m : Int)).toNat : Int) = _
  rw [BitVec.toNat_and, h1 n (by omega), h1 m (by omega), h2, IntKind.wrap_i64]
  have h3 : n % (m + 1) < m + 1 := Nat.mod_lt _ (by omega)
  have h4 : ((n % (m + 1) : Nat) : Int) = (n : Int) % ((m : Int) + 1) := by simp
  omega

theorem u32_bits_lt (op : BinOp) (h : op = .and ∨ op = .or ∨ op = .xor) (a b : Int) (h1 : 0 ≤ a) (h2 : a < 4294967296) (h3 : 0 ≤ b) (h4 : b < 4294967296) : 0 ≤ bits op .u32 a b ∧ bits op .u32 a b < 4294967296 := by
  have e : (4294967296 : Nat) = 2 ^ 32 := by decide
  have ha : a.toNat < 2 ^ 32 := by omega
  have hb : b.toNat < 2 ^ 32 := by omega
  rcases h with rfl | rfl | rfl
  · rw [u32_and a b h1 h2 h3 h4]
    have := Nat.and_lt_two_pow a.toNat hb
    omega
  · rw [u32_or a b h1 h2 h3 h4]
    have := Nat.or_lt_two_pow ha hb
    omega
  · rw [u32_xor a b h1 h2 h3 h4]
    have := Nat.xor_lt_two_pow ha hb
    omega

theorem top_bit (n : Nat) (h : n < 4294967296) : n / 2147483648 = 0 ∨ n / 2147483648 = 1 := by omega
theorem borrow_bits (x y d : Nat) :
    (((4294967295 ^^^ x) &&& y) ||| ((4294967295 ^^^ (x ^^^ y)) &&& d)) / 2147483648 = ((1 ^^^ (x / 2147483648)) &&& (y / 2147483648)) ||| ((1 ^^^ ((x / 2147483648) ^^^ (y / 2147483648))) &&& (d / 2147483648)) := by
  have e : (2147483648 : Nat) = 2 ^ 31 := by decide
  rw [e, Nat.or_div_two_pow, Nat.and_div_two_pow, Nat.and_div_two_pow, Nat.xor_div_two_pow, Nat.xor_div_two_pow, Nat.xor_div_two_pow]
theorem borrow_word (x y c : Int) (x0 : 0 ≤ x) (x1 : x < 4294967296) (y0 : 0 ≤ y) (y1 : y < 4294967296) (c0 : 0 ≤ c) (c1 : c < 2) :
    bits .or .u32 (bits .and .u32 (bits .xor .u32 IntKind.u32.max x) y) (bits .and .u32 (bits .xor .u32 IntKind.u32.max (bits .xor .u32 x y)) ((x - y - c) % 4294967296)) / 2147483648 = borrowOf x y c := by
  have m : IntKind.u32.max = 4294967295 := by decide
  have m0 : (4294967295 : Int).toNat = 4294967295 := by decide
  obtain ⟨d, hd⟩ : ∃ d : Int, d = (x - y - c) % 4294967296 := ⟨_, rfl⟩
  have d0 : 0 ≤ d := by omega
  have d1 : d < 4294967296 := by omega
  rw [m, ← hd]
  have a1 := u32_bits_lt .xor (.inr (.inr rfl)) 4294967295 x (by omega) (by omega) x0 x1
  have a2 := u32_bits_lt .and (.inl rfl) _ y a1.1 a1.2 y0 y1
  have a3 := u32_bits_lt .xor (.inr (.inr rfl)) x y x0 x1 y0 y1
  have a4 := u32_bits_lt .xor (.inr (.inr rfl)) 4294967295 _ (by omega) (by omega) a3.1 a3.2
  have a5 := u32_bits_lt .and (.inl rfl) _ d a4.1 a4.2 d0 d1
  rw [u32_or _ _ a2.1 a2.2 a5.1 a5.2, u32_and _ _ a1.1 a1.2 y0 y1, u32_and _ _ a4.1 a4.2 d0 d1, u32_xor _ _ (by omega) (by omega) x0 x1, u32_xor _ _ (by omega) (by omega) a3.1 a3.2, u32_xor _ _ x0 x1 y0 y1]
  simp only [Int.toNat_natCast, m0]
  have B := borrow_bits x.toNat y.toNat d.toNat
  have T1 := top_bit x.toNat (by omega)
  have T2 := top_bit y.toNat (by omega)
  have T3 := top_bit d.toNat (by omega)
  have key : ((((4294967295 ^^^ x.toNat) &&& y.toNat) ||| ((4294967295 ^^^ (x.toNat ^^^ y.toNat)) &&& d.toNat)) / 2147483648 : Nat) = (borrowOf x y c).toNat := by
    rw [B]
    unfold borrowOf
    rcases T1 with t1 | t1 <;> rcases T2 with t2 | t2 <;> rcases T3 with t3 | t3 <;> rw [t1, t2, t3] <;> simp <;> omega
  have r := borrowOf_range x y c
  omega

theorem add32_any (x y c : Int) (w : World) (hx : 0 ≤ x ∧ x < 4294967296) (hy : 0 ≤ y ∧ y < 4294967296) (hc : 0 ≤ c ∧ c < 4294967296) :
    Calls Tryd.prog 57 #[.int .u32 x, .int .u32 y, .int .u32 c] w fun e w' => e = .returned (.tuple #[.int .u32 ((x + y + c) % 4294967296), .int .u32 ((x + y + c) / 4294967296)]) ∧ w = w' := by
  obtain ⟨x0, x1⟩ := hx
  obtain ⟨y0, y1⟩ := hy
  obtain ⟨c0, c1⟩ := hc
  go_enter Tryd.func57, Tryd.ntmps57
  go_wp2
  go_ret2
  exact ⟨rfl, rfl⟩

theorem mul_limbs (x y : Int) (hx : 0 ≤ x ∧ x < 4294967296) (hy : 0 ≤ y ∧ y < 4294967296) : 0 ≤ x * y ∧ x * y ≤ 18446744065119617025 :=
  ⟨Int.mul_nonneg hx.1 hy.1, by
    have h1 : x * y ≤ 4294967295 * y := Int.mul_le_mul_of_nonneg_right (by omega) hy.1
    omega⟩

theorem mul32_any (x y : Int) (w : World) (hx : 0 ≤ x ∧ x < 4294967296) (hy : 0 ≤ y ∧ y < 4294967296) :
    Calls Tryd.prog 63 #[.int .u32 x, .int .u32 y] w fun e w' => e = .returned (.tuple #[.int .u32 (x * y / 4294967296), .int .u32 (x * y % 4294967296)]) ∧ w = w' := by
  obtain ⟨p0, p1⟩ := mul_limbs x y hx hy
  obtain ⟨x0, x1⟩ := hx
  obtain ⟨y0, y1⟩ := hy
  have p2 : x * y / 4294967296 < 4294967296 := by omega
  go_enter Tryd.func63, Tryd.ntmps63
  go_wp2
  go_ret2
  exact ⟨rfl, rfl⟩

theorem sub32_any (x y c : Int) (w : World) (hx : 0 ≤ x ∧ x < 4294967296) (hy : 0 ≤ y ∧ y < 4294967296) (hc : 0 ≤ c ∧ c < 2) :
    Calls Tryd.prog 56 #[.int .u32 x, .int .u32 y, .int .u32 c] w fun e w' => e = .returned (.tuple #[.int .u32 ((x - y - c) % 4294967296), .int .u32 (borrowOf x y c)]) ∧ w = w' := by
  obtain ⟨x0, x1⟩ := hx
  obtain ⟨y0, y1⟩ := hy
  obtain ⟨c0, c1⟩ := hc
  have W := borrow_word x y c x0 x1 y0 y1 c0 c1
  have HW := Lib.hid W
  clear W
  go_enter Tryd.func56, Tryd.ntmps56
  go_wp2
  all_goals first
    | (exfalso; rename_i h; exact h rfl)
    | (go_ret2; exact ⟨by rw [← HW.out]; rfl, rfl⟩)

theorem or_join (x y : Int) (x0 : 0 ≤ x) (x1 : x < 4294967296) (y0 : 0 ≤ y) (y1 : y < 4294967296) : bits .or .u64 (x * 4294967296) y = x * 4294967296 + y := by
  rw [u64_or _ _ (by omega) (by omega) (by omega) (by omega), nat_join 32 _ _ (by omega) (by omega)]
  omega

theorem div32_any (x y d : Int) (w : World) (hx : 0 ≤ x ∧ x < d) (hy : 0 ≤ y ∧ y < 4294967296) (hd : d < 4294967296) :
    Calls Tryd.prog 64 #[.int .u32 x, .int .u32 y, .int .u32 d] w fun e w' => e = .returned (.tuple #[.int .u32 ((x * 4294967296 + y) / d), .int .u32 ((x * 4294967296 + y) % d)]) ∧ ∃ n, w' = w.drewN n := by
  obtain ⟨x0, x1⟩ := hx
  obtain ⟨y0, y1⟩ := hy
  have hd0 : (d != 0) = true := by simp; omega
  have hd1 : ¬ d ≤ x := by omega
  have J := or_join x y x0 (by omega) y0 y1
  have d0 : 1 ≤ d := by omega
  have q0 : (x * 4294967296 + y) / d < 4294967296 := Int.ediv_lt_of_lt_mul (by omega) (by
    have : x * 4294967296 + 4294967296 ≤ d * 4294967296 := by omega
    rw [Int.mul_comm 4294967296 d]; omega)
  have q1 : 0 ≤ (x * 4294967296 + y) / d := Int.ediv_nonneg (by omega) (by omega)
  have r0 := Int.emod_nonneg (x * 4294967296 + y) (show d ≠ 0 by omega)
  have r1 := Int.emod_lt_of_pos (x * 4294967296 + y) (show 0 < d by omega)
  have r2 : (x * 4294967296 + y) % d < 4294967296 := by omega
  go_enter Tryd.func64, Tryd.ntmps64
  go_wp2
  go_quiet (fail)
  go_wp2
  go_ret2
  exact ⟨rfl, _, rfl⟩

theorem multiplyAdd_any (x y a c : Int) (w : World) (hx : 0 ≤ x ∧ x < 4294967296) (hy : 0 ≤ y ∧ y < 4294967296) (ha : 0 ≤ a ∧ a < 4294967296) (hc : 0 ≤ c ∧ c < 4294967296) :
    Calls Tryd.prog 47 #[.int .u32 x, .int .u32 y, .int .u32 a, .int .u32 c] w fun e w' =>
      e = .returned (.tuple #[.int .u32 ((x * y + a + c) / 4294967296), .int .u32 ((x * y + a + c) % 4294967296)]) ∧ w = w' := by
  obtain ⟨p0, p1⟩ := mul_limbs x y hx hy
  have M := mul32_any x y w hx hy
  have HM := Lib.hid M
  clear M
  obtain ⟨x0, x1⟩ := hx
  obtain ⟨y0, y1⟩ := hy
  obtain ⟨a0, a1⟩ := ha
  obtain ⟨c0, c1⟩ := hc
  have b1 : 0 ≤ x * y / 4294967296 := by omega
  have b2 : x * y / 4294967296 + (x * y % 4294967296 + a) / 4294967296 < 4294967296 := by omega
  have b3 : x * y / 4294967296 + (x * y % 4294967296 + a) / 4294967296 + ((x * y % 4294967296 + a) % 4294967296 + c) / 4294967296 < 4294967296 := by omega
  go_enter Tryd.func47, Tryd.ntmps47
  go_wp2_with fail
  refine HM.out.mono ?_
  rintro e w' ⟨rfl, rfl⟩
  go_wp2_with fail
  refine (add32_any _ _ _ _ (by omega) (by omega) (by omega)).mono ?_
  rintro e w' ⟨rfl, rfl⟩
  go_wp2_with fail
  refine (add32_any _ _ _ _ (by omega) (by omega) (by omega)).mono ?_
  rintro e w' ⟨rfl, rfl⟩
  go_wp2_with fail
  go_ret2
  exact ⟨ret2_int (by omega) (by omega), rfl⟩

end Go.Proofs.YtdimajnadmkhiaaDoor
