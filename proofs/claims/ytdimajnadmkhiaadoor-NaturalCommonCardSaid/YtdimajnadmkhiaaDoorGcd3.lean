/-
  natural.remainder, gcdWords, leadingBits.
-/
import Derived.Test.YtdimajnadmkhiaaDoorGcd2
namespace Go.Proofs.YtdimajnadmkhiaaDoor
open Go.RowKit

theorem remainder_any (A B : Option Addr) (n c m d : Nat) (L M : List Int) (w : World) (hr : Rd w A n c L) (hs : Rd w B m d M) (hn : n ≤ 900000) (h0 : val M ≠ 0) :
    Calls Tryd.prog 44 #[.slice A n c, .slice B m d] w (Gives w (val L % val M)) := by
  go_enter Tryd.func44, Tryd.ntmps44
  go_wp2_with fail
  refine (divMod_any A B n c m d L M w hr hs hn h0).mono ?_
  rintro e w' ⟨A1, n1, c1, Q, A2, n2, c2, R, rfl, hQ, IQ, hR, IR, hB⟩
  have HI := Lib.hid IR
  clear IQ IR hQ
  go_wp2
  go_ret
  exact ⟨_, _, _, R, rfl, hR, HI.out, hB⟩

theorem gcd_rest (a b : Int) : Int.gcd b (a % b) = Int.gcd a b := by
  rw [Int.emod_def, Int.gcd_comm a b]; simp

def WordPost (w : World) (x : Int) (e : Ending) (w' : World) : Prop := e = .returned (.int .u64 x) ∧ Below w.heap.size w w'

theorem gcdWords_any (x y : Int) (w : World) (hx : 0 ≤ x ∧ x < 18446744073709551616) (hy : 0 ≤ y ∧ y < 18446744073709551616) :
    Calls Tryd.prog 45 #[.int .u64 x, .int .u64 y] w (WordPost w (Int.gcd x y : Int)) := by
  go_enter Tryd.func45, Tryd.ntmps45
  go_wp2
  go_loopw [0, 1] (fun av bv wr => ∃ a b : Int, av = .int .u64 a ∧ bv = .int .u64 b ∧ (0 ≤ a ∧ a < 18446744073709551616) ∧ (0 ≤ b ∧ b < 18446744073709551616) ∧ Hid (Int.gcd a b = Int.gcd x y) ∧ Below w.heap.size w wr) (fun _ bv _ => (intOf bv).toNat)
  case atStart => exact ⟨x, y, rfl, rfl, hx, hy, rfl, Below.refl _ _⟩
  case round =>
    obtain ⟨a, b, rfl, rfl, ⟨a0, a1⟩, ⟨b0, b1⟩, hG, hB⟩ := hrel
    by_cases hz : b = 0
    · have hF : Hid (a = (Int.gcd x y : Int)) := by
        show _ = _
        rw [← hG.out, hz, Int.gcd_zero_right]; omega
      subst hz
      go_wp2
      go_ret
      exact ⟨ret_int hF.out, hB⟩
    · have r0 := Int.emod_nonneg a hz
      have r1 := Int.emod_lt_of_pos a (show 0 < b by omega)
      have hG2 : Hid (Int.gcd b (a % b) = Int.gcd x y) := by
        show _ = _
        rw [← hG.out, gcd_rest]
      go_wp2_with fail
      go_quiet (fail)
      go_wp2
      go_roundw
      case rel => exact ⟨b, a % b, rfl, rfl, ⟨b0, b1⟩, ⟨r0, by omega⟩, hG2, drewN_below hB _⟩
      case measure => simp [intOf] <;> omega

/-- A number of n limbs whose top limb has s leading zeros. -/
theorem top_fit {L : List Int} {n s : Nat} {d : Int} (hL : Lims L) (hl : L.length = n) (h1 : 1 ≤ n) (hd : L.getD (n - 1) 0 = d) (s31 : s ≤ 31) (t1 : d * 2 ^ s < 4294967296) : val L * 2 ^ s < pw n := by
  have en : n - 1 + 1 = n := by omega
  have hpn : pw n = 4294967296 * pw (n - 1) := by rw [← pw_succ, en]
  have hMv := val_take_getD L (n - 1)
  rw [List.take_of_length_le (by omega)] at hMv
  have hM0 := val_nonneg (hL.take (n - 1))
  have hM1 := val_lt (hL.take (n - 1))
  rw [List.length_take_of_le (by omega)] at hM1
  rw [hd] at hMv
  have tp : (0 : Int) < 2 ^ s := Int.pow_pos (by decide)
  have h1 : val L * 2 ^ s ≤ ((d + 1) * pw (n - 1) - 1) * 2 ^ s := by
    refine le_mul ?_ (by omega)
    rw [hMv]
    have e : (d + 1) * pw (n - 1) = pw (n - 1) + pw (n - 1) * d := by grind
    omega
  have h2 : pw (n - 1) * ((d + 1) * 2 ^ s) ≤ pw (n - 1) * 4294967296 := by
    refine le_mul' ?_ (Int.le_of_lt (pw_pos _))
    have e31 := two_split s s31
    have h3 : d * 2 ^ s < 2 ^ (32 - s) * 2 ^ s := by rw [Int.mul_comm (2 ^ (32 - s)), e31]; exact t1
    have h4 : d < 2 ^ (32 - s) := Int.lt_of_mul_lt_mul_right h3 (by omega)
    have h5 : (d + 1) * 2 ^ s ≤ 2 ^ (32 - s) * 2 ^ s := le_mul (by omega) (by omega)
    rw [Int.mul_comm (2 ^ (32 - s)), e31] at h5
    exact h5
  have e2 : ((d + 1) * pw (n - 1) - 1) * 2 ^ s = pw (n - 1) * ((d + 1) * 2 ^ s) - 2 ^ s := by grind
  rw [hpn]
  omega

def LeadPost (w : World) (n : Nat) (x y : Int) (e : Ending) (w' : World) : Prop :=
  ∃ s, e = .returned (.tuple #[.int .i64 (x / lastBit n s), .int .i64 (y / lastBit n s)]) ∧ s ≤ 31 ∧ x / lastBit n s < 4611686018427387904 ∧ Below w.heap.size w w'

theorem leadingBits_any (A B : Option Addr) (n c m d : Nat) (L M : List Int) (w : World) (hr : Rd w A n c L) (hs : Rd w B m d M) (h3 : 3 ≤ n) (hn : n ≤ 1000000) (hmn : m ≤ n) (hL : trim L = L) (hle : val M ≤ val L) :
    Calls Tryd.prog 61 #[.slice A n c, .slice B m d] w (LeadPost w n (val L) (val M)) := by
  obtain ⟨aa, rfl, haw, hcL⟩ := hr.at_ (by omega)
  have cL := hcL (n - 1) (by omega)
  have uL := hr.lims.getD (n - 1)
  have hne := last_ne hL (n - 1) (by rw [hr.len]; omega)
  obtain ⟨t, ht⟩ : ∃ t, L.getD (n - 1) 0 = t := ⟨_, rfl⟩
  rw [ht] at cL uL hne
  have hbl : Lib.bitLen t.toNat ≤ 32 := Lib.bitLen_le t.toNat 32 (by decide) (by omega)
  obtain ⟨s, hsE⟩ := Int.eq_ofNat_of_zero_le (show 0 ≤ 32 - (Lib.bitLen t.toNat : Int) by omega)
  obtain ⟨s31, t0, t1⟩ := top_shift (d := t) (s := s) (by omega) uL.2 hsE.symm
  have hlz := leading_any t w uL.1 uL.2
  rw [hsE] at hlz
  have HLZ := Lib.hid hlz
  have hV := top_fit hr.lims hr.len (by omega) ht s31 t1
  have tp : (0 : Int) < 2 ^ s := Int.pow_pos (by decide)
  have hV2 : val M * 2 ^ s < pw n := Int.lt_of_le_of_lt (le_mul hle (Int.le_of_lt tp)) hV
  have W1 := Lib.hid (window_any (some aa) n c n s L w hr (Nat.le_refl _) h3 hn s31 hV)
  obtain ⟨_, _, _, _, _, _, _, _, _, _, _, _, _, _, _, hTop, _⟩ := lead_word L n s h3 s31 (by have := hr.len; omega) hr.lims hV
  have HT := Lib.hid hTop
  have HV2 := Lib.hid hV2
  have hnt : ((n : Int) - 1).toNat = n - 1 := by omega
  clear hcL hbl hsE hlz hV hV2 hTop t0 t1 tp ht hne hL
  go_enter Tryd.func61, Tryd.ntmps61
  go_wp2_with fail
  refine HLZ.out.mono ?_
  rintro e w' ⟨rfl, rfl⟩
  go_wp2_with fail
  refine W1.out.mono ?_
  rintro e w1 ⟨rfl, hB1⟩
  have W2 := Lib.hid (window_any B m d n s M w1 (hs.below hB1) hmn h3 hn s31 HV2.out)
  go_wp2_with fail
  refine W2.out.mono ?_
  rintro e w2 ⟨rfl, hB2⟩
  go_wp2
  go_ret2
  exact ⟨s, rfl, s31, HT.out, nextB hB1 hB2⟩

end Go.Proofs.YtdimajnadmkhiaaDoor
