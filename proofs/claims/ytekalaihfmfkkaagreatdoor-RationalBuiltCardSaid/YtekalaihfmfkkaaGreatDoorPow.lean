/-
  natural.Pow: for every list of limbs and every exponent the limbs of the power, or ErrRange.
-/
import Derived.Test.YtekalaihfmfkkaaGreatDoorSame
import Derived.Test.YtekalaihfmfkkaaGreatDoorLen
namespace Go.Proofs.YtekalaihfmfkkaaGreatDoor
open Go.RowKit
set_option maxRecDepth 20000

theorem pow_range (A : Option Addr) (n c : Nat) (k : Int) (w : World) (h : k < 0 ∨ 64 < k) :
    Calls Tryz.prog 97 #[.slice A n c, .int .i64 k] w fun e w' => e = .returned (.tuple #[.slice none 0 0, .int .i64 1]) ∧ w = w' := by
  by_cases h0 : k < 0
  · go_enter Tryz.func97, Tryz.ntmps97
    go_wp2
    go_ret2
    exact ⟨rfl, rfl⟩
  · have h1 : 64 < k := by omega
    have h2 : 0 ≤ k := by omega
    go_enter Tryz.func97, Tryz.ntmps97
    go_wp2
    go_ret2
    exact ⟨rfl, rfl⟩

theorem bits_none : ∀ k : Fin 65, k.val / 2 ^ Lib.bitLen k.val = 0 := by decide +kernel
theorem low_bit (k i : Nat) (hk : k ≤ 64) : bits .and .i64 ((k : Int) / 2 ^ i) 1 = ((k / 2 ^ i % 2 : Nat) : Int) := by
  have e : (k : Int) / 2 ^ i = ((k / 2 ^ i : Nat) : Int) := by simp
  have h1 : k / 2 ^ i ≤ 64 := Nat.le_trans (Nat.div_le_self _ _) hk
  rw [e]
  generalize k / 2 ^ i = q at *
  have h := and_mask (q : Int) 1 1 (by decide) (by decide) (by omega) (by omega)
  have e1 : ((1 : Nat) : Int) = 1 := rfl
  rw [e1] at h
  rw [h]
  omega
theorem halve (k i : Nat) : k / 2 ^ (i + 1) = k / 2 ^ i / 2 := by rw [Nat.pow_succ, Nat.div_div_eq_div_mul]
theorem pow_even {x : Int} {k i : Nat} (h : k / 2 ^ i % 2 = 0) : x ^ (k / 2 ^ (i + 1)) * x ^ (k / 2 ^ (i + 1)) = x ^ (k / 2 ^ i) := by
  rw [← Int.pow_add, halve]
  congr 1
  omega
theorem pow_odd {x : Int} {k i : Nat} (h : k / 2 ^ i % 2 = 1) : x ^ (k / 2 ^ (i + 1)) * x ^ (k / 2 ^ (i + 1)) * x = x ^ (k / 2 ^ i) := by
  rw [← Int.pow_add, ← Int.pow_succ, halve]
  congr 1
  omega
theorem pow_len {w : World} {P : Option Addr} {p pc n e : Nat} {x : Int} (h : Nrm w P p pc (x ^ e)) (x0 : 0 ≤ x) (hx : x < pw n) (hn : n ≤ 100) (he : e ≤ 64) : p ≤ 10000 := by
  have h1 := h.short (pow_lt x0 hx e)
  have h2 : n * e ≤ 100 * 64 := Nat.mul_le_mul hn he
  omega

set_option maxHeartbeats 1000000 in
theorem pow_n (A : Option Addr) (n c : Nat) (x : Int) (k : Nat) (w : World) (hx : Num w A n c x) (hn : n ≤ 100) (hk : k ≤ 64) :
    Calls Tryz.prog 97 #[.slice A n c, .int .i64 (k : Int)] w (GivesNOk w (x ^ k)) := by
  have l := Lib.bitLen_le k 8 (by decide) (by omega)
  have x0 := hx.nonneg
  have hxl := hx.lt
  obtain ⟨B, hB⟩ : ∃ B, Lib.bitLen k = B := ⟨_, rfl⟩
  have hz := bits_none ⟨k, by omega⟩
  simp only at hz
  rw [hB] at l hz
  have hlen := len_small (k : Int) (w.alloc (.cells #[.int .u32 1] 92)) (by omega) (by omega)
  rw [Int.toNat_natCast, hB] at hlen
  have HLEN := Lib.hid hlen
  have HZ := Lib.hid hz
  have hone := Nrm.of_mine (Mine.lit w (Nat.le_refl _) #[.int .u32 1] [1] (Lims.cons (by decide) (by decide) Lims.nil) rfl (by unfold maxLen; simp)) (is_one (by decide) (by decide))
  clear hlen hB hz
  go_enter Tryz.func97, Tryz.ntmps97
  go_wp2_with fail
  refine HLEN.out.mono ?_
  rintro e w' ⟨rfl, rfl⟩
  go_wp2
  go_loopw [6, 7] (fun pv bv wr => ∃ (j : Nat) (P : Option Addr) (p pc : Nat), j ≤ B ∧ bv = .int .i64 ((j : Int) - 1) ∧ pv = .slice P p pc ∧ Nrm wr P p pc (x ^ (k / 2 ^ j)) ∧ Below w.heap.size w wr) (fun _ bv _ => (intOf bv + 1).toNat)
  case atStart => exact ⟨B, _, _, _, Nat.le_refl _, rfl, rfl, by rw [HZ.out, Int.pow_zero]; exact hone, (Below.refl _ _).alloc (Nat.le_refl _) _⟩
  case round =>
    obtain ⟨j, P, p, pc, hj, rfl, rfl, hP, hb⟩ := hrel
    have hp := pow_len hP x0 hxl hn (Nat.le_trans (Nat.div_le_self _ _) hk)
    clear hone
    by_cases h0 : j = 0
    · subst h0
      have hP' : Nrm wr P p pc (x ^ k) := by simpa using hP
      clear hP
      go_wp2
      go_ret2
      exact ⟨_, _, _, rfl, hP', hb⟩
    · obtain ⟨i, rfl⟩ : ∃ i, j = i + 1 := ⟨j - 1, by omega⟩
      have hlow := low_bit k i hk
      have hmul := mul_n hP.num hP.num (by omega) (by omega)
      have HM := Lib.hid hmul
      clear hmul
      by_cases hodd : k / 2 ^ i % 2 = 1
      · have htest : (bits .and .i64 ((k : Int) / 2 ^ i) 1 == 1) = true := by rw [hlow, hodd]; rfl
        have HO := Lib.hid hodd
        clear hodd hlow h0
        go_wp2_with fail
        refine HM.out.mono ?_
        rintro e w1 ⟨P1, p1, pc1, rfl, hP1, hb1⟩
        have hb2 := nextB hb hb1
        have hp1 : p1 ≤ 10000 := by
          have h2 := hP1
          rw [← Int.pow_add] at h2
          exact pow_len h2 x0 hxl hn (by have h3 := halve k i; have h4 := Nat.div_le_self k (2 ^ i); omega)
        have hmul := mul_n hP1.num (hx.below hb2) (by omega) (by omega)
        rw [pow_odd HO.out] at hmul
        have HM2 := Lib.hid hmul
        clear hmul
        go_wp2_with fail
        refine HM2.out.mono ?_
        rintro e w2 ⟨P2, p2, pc2, rfl, hP2, hb3⟩
        go_wp2
        go_roundw
        case rel => exact ⟨i, _, _, _, by omega, rfl, rfl, hP2, nextB hb2 hb3⟩
        case measure => simp [intOf] <;> omega
      · have heven : k / 2 ^ i % 2 = 0 := by omega
        have htest : (bits .and .i64 ((k : Int) / 2 ^ i) 1 == 1) = false := by rw [hlow, heven]; rfl
        have HO := Lib.hid heven
        clear hodd hlow h0 heven
        go_wp2_with fail
        refine HM.out.mono ?_
        rintro e w1 ⟨P1, p1, pc1, rfl, hP1, hb1⟩
        rw [pow_even HO.out] at hP1
        go_wp2
        go_roundw
        case rel => exact ⟨i, _, _, _, by omega, rfl, rfl, hP1, nextB hb hb1⟩
        case measure => simp [intOf] <;> omega

end Go.Proofs.YtekalaihfmfkkaaGreatDoor
