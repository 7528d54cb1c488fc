/-
  exactpplref01.shift: a product with a power of two, with one more limb.
  exactpplref01.unshift: a quotient by a power of two.
-/
import Derived.Test.YtebbnmjmjoklmaaGreatDoorRefSub
import Derived.Test.YtebbnmjmjoklmaaGreatDoorGcd7
namespace Go.Proofs.YtebbnmjmjoklmaaGreatDoor
open Go.RowKit
set_option maxRecDepth 20000

theorem refShift_step {S L : List Int} {k : Nat} {l c q z : Int} (hk : k < S.length) (hl : L.getD k 0 = l) (hz : z = l * q + c) (h : val (S.take k) + pw k * c = val (L.take k) * q) :
    val ((S.set k (z % 4294967296)).take (k + 1)) + pw (k + 1) * (z / 4294967296) = val (L.take (k + 1)) * q := by
  rw [val_set_take S k _ hk, val_take_getD, hl, pw_succ]
  have e := Int.emod_add_mul_ediv z 4294967296
  generalize z % 4294967296 = r at *
  generalize z / 4294967296 = t at *
  have e2 : pw k * r + 4294967296 * pw k * t = pw k * (l * q + c) := by rw [← hz, ← e]; grind
  grind

set_option maxHeartbeats 1000000 in
theorem refShift_any (A : Option Addr) (n c s : Nat) (L : List Int) (w : World) (hr : Rd w A n c L) (hn : n ≤ 900000) (hs : s ≤ 31) :
    Calls Tryz.prog 106 #[.slice A n c, .int .i64 (s : Int)] w (Halved w (n + 1) (val L * 2 ^ s)) := by
  obtain ⟨i0, hi, hz0, hz1, hz2⟩ := info_parts info_limb
  have HL := Lib.hid hr.len
  have hcap := hr.cap
  have hp : (0 : Int) < 2 ^ s := Int.pow_pos (by decide)
  go_enter Tryz.func106, Tryz.ntmps106
  go_wp2_with (at_make; refine wpList_make_full _ rfl _ _ 40 rfl w.heap.size 71 i0 (.int .u32 0) 1 Tryz.underlying40 hi hz0 hz1 _ _ _ _ (n + 1) rfl rfl ?b0 ?b1 ?b2 ?b3 (Nat.le_refl _) ?_)
  case b0 => go_num
  case b1 => go_num
  case b2 => rw [hz2]; omega
  case b3 => unfold maxLen; omega
  intro w0 hown hgrow
  have hM0 := Mine.zero hown
  have hB0 := below_of_grown hgrow
  clear hown hgrow
  go_wp2
  go_loopw [6, 7] (fun cv iv wr => ∃ (k : Nat) (cr : Int) (S : List Int), k ≤ n ∧ iv = .int .i64 k ∧ cv = .int .u64 cr ∧ (0 ≤ cr ∧ cr < 2 ^ s) ∧ Mine wr w.heap.size (some ⟨w.heap.size, 0, none⟩) (n + 1) (n + 1) S ∧
      Hid (val (S.take k) + pw k * cr = val (L.take k) * 2 ^ s) ∧ Below w.heap.size w wr) (fun _ iv _ => n - (intOf iv).toNat)
  case atStart => exact ⟨0, 0, _, Nat.zero_le _, rfl, rfl, ⟨by omega, hp⟩, hM0, by show _ = _; simp [val], hB0⟩
  case round =>
    obtain ⟨k, cr, S, hk, rfl, rfl, ⟨c0, c1⟩, hM, hV, hB⟩ := hrel
    clear hM0 hB0
    by_cases hkn : k < n
    · obtain ⟨ad, rfl, _, hc⟩ := (hr.below hB).at_ (by omega)
      have cL := hc k hkn
      have uL := hr.lims.getD k
      obtain ⟨l, hl⟩ : ∃ l, L.getD k 0 = l := ⟨_, rfl⟩
      rw [hl] at cL uL
      have cS := hM.cellAt (i := k) (by omega)
      have fS := hM.frozenAt k
      obtain ⟨p0, p1, q0, q1, p2, _, _⟩ := limb_shift l s hs uL
      have J := or_low64 l cr s p0 (by omega) c0 c1 hs
      have hlt : (l * 2 ^ s + cr) / 4294967296 < 2 ^ s := by
        apply Int.ediv_lt_of_lt_mul (by decide)
        have h1 : (l + 1) * 2 ^ s ≤ 4294967296 * 2 ^ s := le_mul (by omega) (by omega)
        rw [Int.add_mul] at h1
        omega
      have ST := Lib.hid (refShift_step (S := S) (L := L) (k := k) (q := 2 ^ s) (c := cr) (z := l * 2 ^ s + cr) (by rw [hM.len]; omega) hl rfl hV.out)
      have s0 : 0 ≤ (l * 2 ^ s + cr) % 4294967296 ∧ (l * 2 ^ s + cr) % 4294967296 < 4294967296 := by omega
      have s1 : 0 ≤ (l * 2 ^ s + cr) / 4294967296 := by omega
      clear hc hl
      go_wp2
      go_roundw
      case rel => exact ⟨k + 1, _, _, by omega, by go_num, rfl, ⟨s1, hlt⟩, hM.stored k s0.1 s0.2, ST.out, hB.setCell (Nat.le_refl _) _⟩
      case measure => simp [intOf] <;> omega
    · obtain rfl : k = n := by omega
      have e32 : (2 : Int) ^ s ≤ 2147483648 := by
        have h2 : (2 : Nat) ^ s ≤ 2 ^ 31 := Nat.pow_le_pow_right (by decide) hs
        have h3 : (2 : Int) ^ 31 = 2147483648 := by decide
        rw [← h3]; exact_mod_cast h2
      have cS := hM.cellAt (i := k) (by omega)
      have fS := hM.frozenAt k
      have hF : Hid (val (S.set k cr) = val L * 2 ^ s) := by
        refine (add_last (S := S) (p := k) (cr := cr) hM.len hV.out).trans ?_
        rw [List.take_of_length_le (l := L) (by have := HL.out; omega)]
      have hM2 := Lib.hid (hM.stored k c0 (by omega))
      clear hM hkn
      go_wp2
      go_ret
      exact ⟨_, _, _, rfl, hM2.out, hF.out, hB.setCell (Nat.le_refl _) _⟩

end Go.Proofs.YtebbnmjmjoklmaaGreatDoor

namespace Go.Proofs.YtebbnmjmjoklmaaGreatDoor
open Go.RowKit
set_option maxRecDepth 20000

theorem or_join' (x y : Int) (x0 : 0 ≤ x) (x1 : x < 4294967296) (y0 : 0 ≤ y) (y1 : y < 4294967296) : bits .or .u64 y (x * 4294967296) = y + x * 4294967296 := by
  have h := or_join x y x0 x1 y0 y1
  rw [u64_or _ _ (by omega) (by omega) (by omega) (by omega)] at h ⊢
  rw [Nat.or_comm, h]; omega

theorem drop_getD (L : List Int) (k : Nat) : val (L.drop k) = L.getD k 0 + 4294967296 * val (L.drop (k + 1)) := by
  rcases Nat.lt_or_ge k L.length with h | h
  · rw [List.drop_eq_getElem_cons h, val_cons, ← getD_of_lt]
  · rw [List.drop_eq_nil_of_le h, List.drop_eq_nil_of_le (by omega), getD_ge _ _ h]; rfl

/-- A limb of the quotient. -/
theorem unshift_limb {L : List Int} {k s : Nat} (hL : Lims L) (hs : s ≤ 31) (hk : k ≤ L.length) : val L / 2 ^ s / pw k % 4294967296 = (L.getD k 0 + L.getD (k + 1) 0 * 4294967296) / 2 ^ s % 4294967296 := by
  have hp : (0 : Int) < 2 ^ s := Int.pow_pos (by decide)
  have h1 := val_split L k
  rw [List.length_take_of_le hk] at h1
  have t0 := val_nonneg (hL.take k)
  have t1 := val_lt (hL.take k)
  rw [List.length_take_of_le hk] at t1
  have e1 : val L / pw k = val (L.drop k) := by
    rw [h1, Int.add_mul_ediv_left _ _ (by have := pw_pos k; omega), Int.ediv_eq_zero_of_lt t0 t1]; omega
  have e2 : val L / 2 ^ s / pw k = val (L.drop k) / 2 ^ s := by
    rw [← e1, Int.ediv_ediv_of_nonneg (by omega), Int.ediv_ediv_of_nonneg (by have := pw_pos k; omega), Int.mul_comm]
  rw [e2, drop_getD L k, drop_getD L (k + 1)]
  generalize L.getD k 0 = l
  generalize L.getD (k + 1) 0 = h
  generalize val (L.drop (k + 1 + 1)) = D
  have hm := two_split s hs
  have e3 : l + 4294967296 * (h + 4294967296 * D) = (l + h * 4294967296) + 2 ^ s * (2 ^ (32 - s) * 4294967296 * D) := by
    have : (2 : Int) ^ s * (2 ^ (32 - s) * 4294967296 * D) = (2 ^ s * 2 ^ (32 - s)) * 4294967296 * D := by grind
    rw [this, hm]; grind
  rw [e3, Int.add_mul_ediv_left _ _ (by omega), show (2 : Int) ^ (32 - s) * 4294967296 * D = 4294967296 * (2 ^ (32 - s) * D) by grind, Int.add_mul_emod_self_left]

theorem unshift_step {S L : List Int} {k s : Nat} {l h : Int} (hS : k < S.length) (hL : Lims L) (hs : s ≤ 31) (hk : k ≤ L.length) (hl : L.getD k 0 = l) (hh : L.getD (k + 1) 0 = h) (hV : val (S.take k) = val L / 2 ^ s % pw k) :
    val ((S.set k ((l + h * 4294967296) / 2 ^ s % 4294967296)).take (k + 1)) = val L / 2 ^ s % pw (k + 1) := by
  rw [val_set_take S k _ hS, ← hl, ← hh, ← unshift_limb hL hs hk, hV, pw_succ]
  generalize val L / 2 ^ s = x
  have h1 := pw_pos k
  rw [Int.mul_comm 4294967296 (pw k)]
  generalize pw k = P at *
  have a := Int.mul_ediv_add_emod x P
  have b := Int.mul_ediv_add_emod (x / P) 4294967296
  have r0 := Int.emod_nonneg x (show P ≠ 0 by omega)
  have r1 := Int.emod_lt_of_pos x h1
  have s0 := Int.emod_nonneg (x / P) (show (4294967296 : Int) ≠ 0 by decide)
  have s1 := Int.emod_lt_of_pos (x / P) (show (0 : Int) < 4294967296 by decide)
  have e : x = (x % P + P * (x / P % 4294967296)) + P * 4294967296 * (x / P / 4294967296) := by
    have : P * (x / P) = P * (4294967296 * (x / P / 4294967296)) + P * (x / P % 4294967296) := by rw [← Int.mul_add, b]
    have h3 : P * 4294967296 * (x / P / 4294967296) = P * (4294967296 * (x / P / 4294967296)) := by grind
    omega
  have hb : P * (x / P % 4294967296 + 1) ≤ P * 4294967296 := Int.mul_le_mul_of_nonneg_left (by omega) (by omega)
  have hb0 : 0 ≤ P * (x / P % 4294967296) := Int.mul_nonneg (by omega) s0
  rw [Int.mul_add] at hb
  have e4 : x % (P * 4294967296) = x % P + P * (x / P % 4294967296) := by
    have e5 : x % (P * 4294967296) = ((x % P + P * (x / P % 4294967296)) + P * 4294967296 * (x / P / 4294967296)) % (P * 4294967296) := by rw [← e]
    rw [e5, Int.add_mul_emod_self_left, Int.emod_eq_of_lt (by omega) (by omega)]
  exact e4.symm

set_option maxHeartbeats 1000000 in
theorem refUnshift_any (A : Option Addr) (n c s : Nat) (L : List Int) (w : World) (hr : Rd w A n c L) (hn : n ≤ 900000) (hs : s ≤ 31) :
    Calls Tryz.prog 108 #[.slice A n c, .int .i64 (s : Int)] w (Gives w (val L / 2 ^ s)) := by
  obtain ⟨i0, hi, hz0, hz1, hz2⟩ := info_parts info_limb
  have HL := Lib.hid hr.len
  have hcap := hr.cap
  have hp : (0 : Int) < 2 ^ s := Int.pow_pos (by decide)
  go_enter Tryz.func108, Tryz.ntmps108
  go_wp2_with (at_make; refine wpList_make_full _ rfl _ _ 40 rfl w.heap.size 71 i0 (.int .u32 0) 1 Tryz.underlying40 hi hz0 hz1 _ _ _ _ n rfl rfl ?b0 ?b1 ?b2 ?b3 (Nat.le_refl _) ?_)
  case b0 => rfl
  case b1 => rfl
  case b2 => rw [hz2]; omega
  case b3 => unfold maxLen; omega
  intro w0 hown hgrow
  have hM0 := Mine.zero hown
  have hB0 := below_of_grown hgrow
  clear hown hgrow
  go_wp2
  go_loopw [6] (fun iv wr => ∃ (k : Nat) (S : List Int), k ≤ n ∧ iv = .int .i64 k ∧ Mine wr w.heap.size (some ⟨w.heap.size, 0, none⟩) n n S ∧
      Hid (val (S.take k) = val L / 2 ^ s % pw k) ∧ Below w.heap.size w wr) (fun iv _ => n - (intOf iv).toNat)
  case atStart => exact ⟨0, _, Nat.zero_le _, rfl, hM0, by show _ = _; simp [val, pw], hB0⟩
  case round =>
    obtain ⟨k, S, hk, rfl, hM, hV, hB⟩ := hrel
    clear hM0 hB0
    by_cases hkn : k < n
    · obtain ⟨ad, rfl, _, hc⟩ := (hr.below hB).at_ (by omega)
      have cL := hc k hkn
      have uL := hr.lims.getD k
      have uH := hr.lims.getD (k + 1)
      obtain ⟨l, hl⟩ : ∃ l, L.getD k 0 = l := ⟨_, rfl⟩
      obtain ⟨h, hh⟩ : ∃ h, L.getD (k + 1) 0 = h := ⟨_, rfl⟩
      rw [hl] at cL uL
      rw [hh] at uH
      have cS := hM.cellAt (i := k) (by omega)
      have fS := hM.frozenAt k
      have st := unshift_step (S := S) (L := L) (k := k) (s := s) (by rw [hM.len]; omega) hr.lims hs (by have := HL.out; omega) hl hh hV.out
      have a0 : 0 ≤ l + h * 4294967296 ∧ l + h * 4294967296 < 18446744073709551616 := by omega
      have d0 : 0 ≤ (l + h * 4294967296) / 2 ^ s := Int.ediv_nonneg a0.1 (by omega)
      have d1 : (l + h * 4294967296) / 2 ^ s < 18446744073709551616 := Int.lt_of_le_of_lt (Int.ediv_le_self _ a0.1) a0.2
      have s0 : 0 ≤ (l + h * 4294967296) / 2 ^ s % 4294967296 ∧ (l + h * 4294967296) / 2 ^ s % 4294967296 < 4294967296 := by omega
      by_cases hk1 : k + 1 < n
      · have cH := hc (k + 1) hk1
        rw [hh] at cH
        have cH2 : wr.cell? ⟨ad.block, ad.off + (k + 1), none⟩ = some (.int .u32 h) := by
          rcases ad with ⟨b0, o0, q0⟩
          exact cH
        have J := or_join' h l uH.1 uH.2 uL.1 uL.2
        have ST := Lib.hid st
        have hat : ((k : Int) + 1).toNat = k + 1 := by omega
        clear st hc hl hh
        go_wp2
        go_roundw
        case rel => exact ⟨k + 1, _, by omega, by go_num, hM.stored k s0.1 s0.2, ST.out, hB.setCell (Nat.le_refl _) _⟩
        case measure => simp [intOf] <;> omega
      · obtain rfl : h = 0 := by rw [← hh, getD_ge _ _ (by have := HL.out; omega)]
        simp only [Int.zero_mul, Int.add_zero] at st s0 d0 d1
        have ST := Lib.hid st
        clear st hc hl hh
        go_wp2
        go_roundw
        case rel => exact ⟨k + 1, _, by omega, by go_num, hM.stored k s0.1 s0.2, ST.out, hB.setCell (Nat.le_refl _) _⟩
        case measure => simp [intOf] <;> omega
    · obtain rfl : k = n := by omega
      have hF : val S = val L / 2 ^ s := by
        have h1 := hV.out
        have v0 := val_nonneg hr.lims
        have v1 := val_lt hr.lims
        rw [HL.out] at v1
        rw [List.take_of_length_le (by rw [hM.len]; exact Nat.le_refl _), Int.emod_eq_of_lt (Int.ediv_nonneg v0 (by omega)) (Int.lt_of_le_of_lt (Int.ediv_le_self _ v0) v1)] at h1
        exact h1
      have HF := Lib.hid hF
      have TR := Lib.hid (refTrim_any _ _ _ _ wr hM.rd (by omega))
      have hsz := hB.size
      clear hF hM hkn
      go_wp2_with fail
      refine TR.out.mono ?_
      rintro e w4 ⟨A4, n4, c4, R, rfl, hR, IR, hB4⟩
      have HI := Lib.hid IR
      clear IR
      go_wp2
      go_ret
      exact ⟨A4, n4, c4, R, rfl, hR.more hsz, by rw [← HF.out]; exact HI.out, nextB hB hB4⟩

end Go.Proofs.YtebbnmjmjoklmaaGreatDoor
