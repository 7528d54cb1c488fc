/-
  natural.shiftLeft, shiftRight, subtractMultiple and addBack: what they return, and what they leave in the window that they write to.
-/
import Derived.Test.YtdimajnadmkhiaaDoorKnu
import Derived.Test.YtdimajnadmkhiaaDoorBase
import Derived.Test.YtdimajnadmkhiaaDoorLen
namespace Go.Proofs.YtdimajnadmkhiaaDoor
open Go.RowKit

theorem or_low (h p : Int) (s : Nat) (hs : s ≤ 31) (h0 : 0 ≤ h) (h1 : h < 2 ^ s) (p0 : 0 ≤ p) (p1 : p < 4294967296) (m : Int) (hp : p = m * 2 ^ s) : bits .or .u32 h p = h + p := by
  have e32 : (2 : Int) ^ s ≤ 2 ^ 31 := by
    have h2 : (2 : Nat) ^ s ≤ 2 ^ 31 := Nat.pow_le_pow_right (by decide) hs
    exact_mod_cast h2
  have e31 : (2 : Int) ^ 31 = 2147483648 := by decide
  rw [u32_or _ _ h0 (by omega) p0 p1, Nat.or_comm, nat_join s]
  · omega
  · obtain ⟨n, rfl⟩ := Int.eq_ofNat_of_zero_le p0
    rw [Int.toNat_natCast]
    have h3 : ((2 ^ s : Nat) : Int) ∣ (n : Int) := ⟨m, by rw [hp]; push_cast; rw [Int.mul_comm]⟩
    exact Nat.mod_eq_zero_of_dvd (Int.natCast_dvd_natCast.1 h3)
  · obtain ⟨n, rfl⟩ := Int.eq_ofNat_of_zero_le h0
    rw [Int.toNat_natCast]
    exact_mod_cast h1

/-- The product of a limb and a power of two: its halves. -/
theorem limb_shift (l : Int) (s : Nat) (hs : s ≤ 31) (l0 : 0 ≤ l ∧ l < 4294967296) :
    0 ≤ l * 2 ^ s ∧ l * 2 ^ s < 9223372036854775808 ∧ 0 ≤ l * 2 ^ s / 4294967296 ∧ l * 2 ^ s / 4294967296 < 2 ^ s ∧ (2 : Int) ^ s ≤ 2147483648 ∧ ∃ m, l * 2 ^ s % 4294967296 = m * 2 ^ s := by
  have e32 : (2 : Int) ^ s ≤ 2 ^ 31 := by
    have h2 : (2 : Nat) ^ s ≤ 2 ^ 31 := Nat.pow_le_pow_right (by decide) hs
    exact_mod_cast h2
  have e31 : (2 : Int) ^ 31 = 2147483648 := by decide
  have hp : (0 : Int) < 2 ^ s := Int.pow_pos (by decide)
  have e : (2 : Int) ^ s * 2 ^ (32 - s) = 4294967296 := by
    rw [← Int.pow_add, show s + (32 - s) = 32 from by omega]; decide
  have h1 : 0 ≤ l * 2 ^ s := Int.mul_nonneg l0.1 (Int.le_of_lt hp)
  have h2 : (l + 1) * 2 ^ s ≤ 4294967296 * 2 ^ s := le_mul (by omega) (Int.le_of_lt hp)
  rw [Int.add_mul] at h2
  refine ⟨h1, by omega, by omega, Int.ediv_lt_of_lt_mul (by decide) (by omega), by omega, l % 2 ^ (32 - s), ?_⟩
  rw [← e, Int.mul_comm l, Int.mul_emod_mul_of_pos _ _ hp, Int.mul_comm]

def Shifted (w : World) (n : Nat) (x : Int) (e : Ending) (w' : World) : Prop :=
  ∃ g S, e = .returned (.slice (some ⟨g, 0, none⟩) n n) ∧ Mine w' w.heap.size (some ⟨g, 0, none⟩) n n S ∧ val S = x ∧ Below w.heap.size w w'

set_option maxHeartbeats 1000000 in
theorem shiftLeft_any (A : Option Addr) (n c s : Nat) (L : List Int) (w : World) (hr : Rd w A n c L) (hn : n ≤ 1000000) (hs : s ≤ 31) :
    Calls Tryd.prog 66 #[.slice A n c, .int .i64 (s : Int)] w (Shifted w (n + 1) (val L * 2 ^ s)) := by
  obtain ⟨i0, hi, hz0, hz1, hz2⟩ := info_parts info_limb
  have HL := Lib.hid hr.len
  go_enter Tryd.func66, Tryd.ntmps66
  go_wp2_with (at_make; refine wpList_make_full _ rfl _ _ 22 rfl w.heap.size 42 i0 (.int .u32 0) 1 Tryd.underlying22 hi hz0 hz1 _ _ _ _ (n + 1) rfl rfl ?b0 ?b1 ?b2 ?b3 (Nat.le_refl _) ?_)
  case b0 => go_num
  case b1 => go_num
  case b2 => rw [hz2]; omega
  case b3 => unfold maxLen; omega
  intro w0 hown hgrow
  have hM0 := Mine.zero hown
  have hB0 := below_of_grown hgrow
  clear hown hgrow
  go_wp2
  go_loopw [15] (fun iv wr => ∃ (k : Nat) (S : List Int), k ≤ n ∧ iv = .int .i64 k ∧ Mine wr w.heap.size (some ⟨w.heap.size, 0, none⟩) (n + 1) (n + 1) S ∧
      Hid (val (S.take (k + 1)) = val (L.take k) * 2 ^ s) ∧ Hid (S.getD k 0 < 2 ^ s) ∧ Below w.heap.size w wr) (fun iv _ => n - (intOf iv).toNat)
  case atStart =>
    refine ⟨0, _, Nat.zero_le _, rfl, hM0, ?_, ?_, hB0⟩
    · show _ = _
      rw [List.take_replicate, val_replicate]; simp [val]
    · show _ < _
      rw [List.getD_eq_getElem?_getD, List.getElem?_replicate]
      have : (0 : Int) < 2 ^ s := Int.pow_pos (by decide)
      split <;> simpa using this
  case round =>
    obtain ⟨k, S, hk, rfl, hM, hV, hT, hB⟩ := hrel
    clear hM0 hB0
    by_cases hkn : k < n
    · obtain ⟨ad, rfl, _, hc⟩ := (hr.below hB).at_ (by omega)
      have cL := hc k hkn
      have uL := hr.lims.getD k
      have uS := hM.lims.getD k
      have uS2 := hM.lims.getD (k + 1)
      obtain ⟨l, hl⟩ : ∃ l, L.getD k 0 = l := ⟨_, rfl⟩
      obtain ⟨h, hh⟩ : ∃ h, S.getD k 0 = h := ⟨_, rfl⟩
      have cS := hM.cellAt (i := k) (by omega)
      have fS := hM.frozenAt k
      rw [hl] at cL uL
      rw [hh] at cS uS
      obtain ⟨p0, p1, q0, q1, p2, m, hm⟩ := limb_shift l s hs uL
      have hor := or_low h (l * 2 ^ s % 4294967296) s hs uS.1 (by have := hT.out; rwa [hh] at this) (by omega) (by omega) m hm
      have hsum : h + l * 2 ^ s % 4294967296 < 4294967296 := by
        have h3 := u32_bits_lt .or (.inr (.inl rfl)) h (l * 2 ^ s % 4294967296) uS.1 uS.2 (by omega) (by omega)
        rw [hor] at h3; exact h3.2
      have ST := Lib.hid (shl_step (S := S) (L := L) (k := k) (q := 2 ^ s) (by rw [hM.len]; omega) hl hh hV.out)
      have hM1 := hM.stored k (x := h + l * 2 ^ s % 4294967296) (by omega) hsum
      have cS1 := hM1.cellAt (i := k + 1) (by omega)
      have fS1 := hM1.frozenAt (k + 1)
      have hM2 := hM1.stored (k + 1) (x := l * 2 ^ s / 4294967296) q0 (by omega)
      have hget : Hid (((S.set k (h + l * 2 ^ s % 4294967296)).set (k + 1) (l * 2 ^ s / 4294967296)).getD (k + 1) 0 < 2 ^ s) := by
        show _ < _
        rw [getD_of_lt _ _ (by simp [hM.len]; omega), List.getElem_set_self]; exact q1
      clear hc hl hh hm
      generalize (S.set k (h + l * 2 ^ s % 4294967296)).getD (k + 1) 0 = y at *
      go_wp2
      go_roundw
      case rel => exact ⟨k + 1, _, by omega, by go_num, hM2, ST.out, hget, (hB.setCell (Nat.le_refl _) _).setCell (Nat.le_refl _) _⟩
      case measure => simp [intOf] <;> omega
    · obtain rfl : k = n := by omega
      have hF : Hid (val S = val L * 2 ^ s) := by
        have h1 := hV.out
        rw [List.take_of_length_le (l := S) (by rw [hM.len]; exact Nat.le_refl _), List.take_of_length_le (l := L) (by have := HL.out; omega)] at h1
        exact h1
      go_wp2
      go_ret
      exact ⟨_, S, rfl, hM, hF.out, hB⟩

theorem far_add {ad : Addr} {g i j : Nat} (h : ad.block < g) : ad.add i ≠ ⟨g, j, none⟩ := by
  intro e
  have h1 := congrArg Addr.block e
  rw [addr_block] at h1
  simp at h1
  omega

def Halved (w : World) (n : Nat) (x : Int) (e : Ending) (w' : World) : Prop :=
  ∃ A c S, e = .returned (.slice A n c) ∧ Mine w' w.heap.size A n c S ∧ val S = x ∧ Below w.heap.size w w'

theorem shr_word (a l : Int) (s : Nat) (a0 : 0 ≤ a ∧ a < 4294967296) (l0 : 0 ≤ l ∧ l < 4294967296) : 0 ≤ (a * 4294967296 + l) / 2 ^ s ∧ (a * 4294967296 + l) / 2 ^ s < 18446744073709551616 := by
  have hp : (0 : Int) < 2 ^ s := Int.pow_pos (by decide)
  have h1 := Int.ediv_nonneg (a := a * 4294967296 + l) (by omega) (Int.le_of_lt hp)
  have h2 := Int.ediv_le_self (2 ^ s) (show 0 ≤ a * 4294967296 + l by omega)
  omega

set_option maxHeartbeats 1000000 in
theorem shiftRight_any (A : Option Addr) (n c s : Nat) (L : List Int) (w : World) (hr : Rd w A n c L) (hn : n ≤ 1000000) (hs : s ≤ 31) :
    Calls Tryd.prog 70 #[.slice A n c, .int .i64 (s : Int)] w (Halved w n (val L / 2 ^ s)) := by
  obtain ⟨i0, hi, hz0, hz1, hz2⟩ := info_parts info_limb
  have HL := Lib.hid hr.len
  go_enter Tryd.func70, Tryd.ntmps70
  go_wp2_with (at_make; refine wpList_make_full _ rfl _ _ 22 rfl w.heap.size 42 i0 (.int .u32 0) 1 Tryd.underlying22 hi hz0 hz1 _ _ _ _ n rfl rfl ?b0 ?b1 ?b2 ?b3 (Nat.le_refl _) ?_)
  case b0 => rfl
  case b1 => rfl
  case b2 => rw [hz2]; omega
  case b3 => unfold maxLen; omega
  intro w0 hown hgrow
  have hM0 := Mine.zero hown
  have hB0 := below_of_grown hgrow
  clear hown hgrow
  go_wp2
  go_loopw [6, 7] (fun av iv wr => ∃ (k : Nat) (a : Int) (S : List Int), k ≤ n ∧ iv = .int .i64 ((k : Int) - 1) ∧ av = .int .u32 a ∧ (0 ≤ a ∧ a < 4294967296) ∧ Mine wr w.heap.size (some ⟨w.heap.size, 0, none⟩) n n S ∧
      Hid (a = val (L.drop k) % 4294967296) ∧ Hid (val (S.drop k) = val (L.drop k) / 2 ^ s) ∧ Below w.heap.size w wr) (fun _ iv _ => (intOf iv + 1).toNat)
  case atStart =>
    refine ⟨n, 0, _, Nat.le_refl _, rfl, rfl, by omega, hM0, ?_, ?_, hB0⟩
    · show _ = _
      rw [List.drop_eq_nil_of_le (by have := HL.out; omega)]; rfl
    · show _ = _
      rw [List.drop_eq_nil_of_le (by simp), List.drop_eq_nil_of_le (by have := HL.out; omega)]; simp [val]
  case round =>
    obtain ⟨k, a, S, hk, rfl, rfl, ⟨a0, a1⟩, hM, hA, hV, hB⟩ := hrel
    clear hM0 hB0
    by_cases h0 : k = 0
    · subst h0
      have hF : Hid (val S = val L / 2 ^ s) := by simpa using hV
      go_wp2
      go_ret
      exact ⟨_, _, S, rfl, hM, hF.out, hB⟩
    · obtain ⟨j, rfl⟩ : ∃ j, k = j + 1 := ⟨k - 1, by omega⟩
      obtain ⟨ad, rfl, hadB, hc0⟩ := hr.at_ (by omega)
      have cL := (hB.cell (p := ad.add j) (by rw [addr_block]; exact hadB)).trans (hc0 j (by omega))
      have uL := hr.lims.getD j
      have uS := hM.lims.getD j
      obtain ⟨l, hl⟩ : ∃ l, L.getD j 0 = l := ⟨_, rfl⟩
      have cS := hM.cellAt (i := j) (by omega)
      have fS := hM.frozenAt j
      rw [hl] at cL uL
      have J := or_join a l a0 a1 uL.1 uL.2
      have W := shr_word a l s ⟨a0, a1⟩ uL
      have hp : (0 : Int) < 2 ^ s := Int.pow_pos (by decide)
      have hm : (2 : Int) ^ s * 2 ^ (32 - s) = 4294967296 := by
        rw [← Int.pow_add, show s + (32 - s) = 32 from by omega]; decide
      have ST := Lib.hid (shr_step (S := S) (L := L) (j := j) (a := a) (q := 2 ^ s) (by rw [hM.len]; omega) (by have := HL.out; omega) hl uL hp _ hm hA.out hV.out)
      have hA2 : Hid (l = val (L.drop j) % 4294967296) := by
        show _ = _
        rw [List.drop_eq_getElem_cons (l := L) (i := j) (by have := HL.out; omega), val_cons, ← getD_of_lt, hl]; omega
      have s0 : 0 ≤ (a * 4294967296 + l) / 2 ^ s % 4294967296 ∧ (a * 4294967296 + l) / 2 ^ s % 4294967296 < 4294967296 := by omega
      have hM1 := hM.stored j s0.1 s0.2
      have cL2 := (World.cell?_setCell_other wr ⟨w.heap.size, j, none⟩ (ad.add j) (.int .u32 ((a * 4294967296 + l) / 2 ^ s % 4294967296)) (far_add hadB).symm).trans cL
      clear hc0 hl hm hp h0
      generalize S.getD j 0 = y at *
      go_wp2
      go_roundw
      case rel => exact ⟨j, l, _, by omega, by go_num, rfl, uL, hM1, hA2.out, ST.out, hB.setCell (Nat.le_refl _) _⟩
      case measure => simp [intOf] <;> omega

/-- The window of n + 1 limbs from place i on has become what it was less pt times D, plus b times the weight above it. -/
structure WinSub (g base N C i n : Nat) (R D : List Int) (pt b : Int) (w w' : World) (R' : List Int) : Prop where
  mine : Mine w' base (some ⟨g, 0, none⟩) N C R'
  low : R'.take i = R.take i
  high : R'.drop (i + n + 1) = R.drop (i + n + 1)
  value : val (R'.take (i + n + 1)) + pt * val D = val (R.take (i + n + 1)) + pw (i + n + 1) * b
  only : Only (some ⟨g, 0, none⟩) w w'

def SubMulPost (g base N C i n : Nat) (R D : List Int) (pt : Int) (w : World) (e : Ending) (w' : World) : Prop :=
  (∃ R', e = .returned (.bool false) ∧ WinSub g base N C i n R D pt 0 w w' R') ∨ (∃ R', e = .returned (.bool true) ∧ WinSub g base N C i n R D pt 1 w w' R')

theorem take_set_ge (S : List Int) (i j : Nat) (x : Int) (h : i ≤ j) : (S.set j x).take i = S.take i := List.take_set_of_le h

set_option maxHeartbeats 2000000 in
theorem subMul_any (g base N C i n wc dc : Nat) (dA : Option Addr) (R D : List Int) (w : World) (t : Int) (hR : Mine w base (some ⟨g, 0, none⟩) N C R) (hD : Rd w dA n dc D) (hfar : ∀ a, dA = some a → a.block ≠ g)
    (hN : i + n + 1 ≤ N) (hn : N ≤ 1000000) (hwc : n + 1 ≤ wc) (t0 : 0 ≤ t) (t1 : t < 4294967296) :
    Calls Tryd.prog 68 #[.slice (some ⟨g, i, none⟩) (n + 1) wc, .slice dA n dc, .int .u32 t] w (SubMulPost g base N C i n R D (pw i * t) w) := by
  have HD := Lib.hid hD.len
  obtain ⟨pt, hpt⟩ : ∃ pt, pt = pw i * t := ⟨_, rfl⟩
  rw [← hpt]
  have HP := Lib.hid hpt
  clear hpt
  go_enter Tryd.func68, Tryd.ntmps68
  go_wp2
  go_loopw [7, 8, 15] (fun cv bv kv wr => ∃ (k : Nat) (c b : Int) (Z : List Int), k ≤ n ∧ kv = .int .i64 k ∧ cv = .int .u32 c ∧ bv = .int .u32 b ∧ (0 ≤ c ∧ c < 4294967296) ∧ (0 ≤ b ∧ b < 2) ∧ Mine wr base (some ⟨g, 0, none⟩) N C Z ∧
      Hid (Z.take i = R.take i) ∧ Hid (Z.drop (i + k) = R.drop (i + k)) ∧ Hid (val (Z.take (i + k)) + pt * val (D.take k) = val (R.take (i + k)) + pw (i + k) * (c + b)) ∧ Only (some ⟨g, 0, none⟩) w wr) (fun _ _ kv _ => n - (intOf kv).toNat)
  case atStart => exact ⟨0, 0, 0, R, Nat.zero_le _, rfl, rfl, rfl, by omega, by omega, hR, rfl, rfl, by show _ = _; simp [val], Only.refl _ _⟩
  case round =>
    obtain ⟨k, c, b, Z, hk, rfl, rfl, rfl, ⟨c0, c1⟩, ⟨b0, b1⟩, hZ, hlow, hhigh, hV, hO⟩ := hrel
    by_cases hkn : k < n
    · obtain ⟨ad, rfl, _, hc⟩ := hD.at_ (by omega)
      have hne := hfar ad rfl
      have cD := hc k hkn
      have cD' : wr.cell? (ad.add k) = w.cell? (ad.add k) := hO.farCell (by rw [addr_block]; exact hne)
      rw [cD] at cD'
      have uD := hD.lims.getD k
      have uZ := hZ.lims.getD (i + k)
      have cZ := hZ.cellAt (i := i + k) (by omega)
      have fZ := hZ.frozenAt (i + k)
      obtain ⟨d, hd⟩ : ∃ d, D.getD k 0 = d := ⟨_, rfl⟩
      obtain ⟨z, hz⟩ : ∃ z, R.getD (i + k) 0 = z := ⟨_, rfl⟩
      rw [getD_of_drop hhigh.out, hz] at cZ uZ
      rw [hd] at cD' uD
      have ST := Lib.hid (subMul_step (Z := Z) (R := R) (D := D) (i := i) (k := k) (t := t) (c := c) (b := b) (by rw [hZ.len]; omega) hz hd uZ ⟨b0, b1⟩ pt HP.out hV.out)
      have hD2 : Hid ((Z.set (i + k) ((z - (d * t + 0 + c) % 4294967296 - b) % 4294967296)).drop (i + (k + 1)) = R.drop (i + (k + 1))) := by
        show _ = _
        rw [← Nat.add_assoc, drop_set]; exact drop_succ hhigh.out
      have hL2 : Hid ((Z.set (i + k) ((z - (d * t + 0 + c) % 4294967296 - b) % 4294967296)).take i = R.take i) := by
        show _ = _
        rw [take_set_ge _ _ _ _ (by omega)]; exact hlow.out
      have pr := mul_limbs d t uD ⟨t0, t1⟩
      have s1 : 0 ≤ (d * t + 0 + c) / 4294967296 ∧ (d * t + 0 + c) / 4294967296 < 4294967296 := by omega
      have s2 : 0 ≤ (d * t + 0 + c) % 4294967296 ∧ (d * t + 0 + c) % 4294967296 < 4294967296 := by omega
      have s3 := borrowOf_range z ((d * t + 0 + c) % 4294967296) b
      have s0 : 0 ≤ (z - (d * t + 0 + c) % 4294967296 - b) % 4294967296 ∧ (z - (d * t + 0 + c) % 4294967296 - b) % 4294967296 < 4294967296 := by omega
      have HA := Lib.hid (multiplyAdd_any d t 0 c)
      simp only [Int.add_zero] at ST hD2 hL2 s0 s1 s2 s3
      obtain ⟨lo, hlo⟩ : ∃ lo, (d * t + c) % 4294967296 = lo := ⟨_, rfl⟩
      obtain ⟨hi', hhi⟩ : ∃ hi', (d * t + c) / 4294967296 = hi' := ⟨_, rfl⟩
      rw [hlo] at ST hD2 hL2 s0 s2 s3
      rw [hhi] at ST s1
      clear hc cD hd hz pr
      go_wp2_with fail
      refine (HA.out _ uD ⟨t0, t1⟩ (by omega) ⟨c0, c1⟩).mono ?_
      rintro e w' ⟨rfl, rfl⟩
      go_wp2_with fail
      refine (sub32_any z lo b _ uZ s2 ⟨b0, b1⟩).mono ?_
      rintro e w' ⟨rfl, rfl⟩
      have hZ2 := hZ.stored (i + k) s0.1 s0.2
      go_wp2
      go_roundw
      case rel => exact ⟨k + 1, _, _, _, by omega, by go_num, rfl, rfl, s1, s3, hZ2, hL2.out, hD2.out, ST.out, hO.set (i + k) _⟩
      case measure => simp [intOf] <;> omega
    · obtain rfl : k = n := by omega
      have uZ := hZ.lims.getD (i + k)
      have cZ := hZ.cellAt (i := i + k) (by omega)
      have fZ := hZ.frozenAt (i + k)
      obtain ⟨z, hz⟩ : ∃ z, R.getD (i + k) 0 = z := ⟨_, rfl⟩
      rw [getD_of_drop hhigh.out, hz] at cZ uZ
      have ST := subMul_last (Z := Z) (R := R) (D := D) (i := i) (n := k) (c := c) (b := b) (pt := pt) (by rw [hZ.len]; omega) hz uZ ⟨c0, c1⟩ ⟨b0, b1⟩ HD.out hV.out
      have s0 : 0 ≤ (z - c - b) % 4294967296 ∧ (z - c - b) % 4294967296 < 4294967296 := by omega
      have s3 := borrowOf_range z c b
      have hA := sub32_any z c b wr uZ ⟨c0, c1⟩ ⟨b0, b1⟩
      have hZ2 := hZ.stored (i + k) s0.1 s0.2
      have hD2 : Hid ((Z.set (i + k) ((z - c - b) % 4294967296)).drop (i + k + 1) = R.drop (i + k + 1)) := by
        show _ = _
        rw [drop_set]; exact drop_succ hhigh.out
      have hL2 : Hid ((Z.set (i + k) ((z - c - b) % 4294967296)).take i = R.take i) := by
        show _ = _
        rw [take_set_ge _ _ _ _ (by omega)]; exact hlow.out
      obtain ⟨b', hb'⟩ : ∃ b', borrowOf z c b = b' := ⟨_, rfl⟩
      rw [hb'] at ST s3 hA
      clear hb' hz hkn
      have hO2 := hO.set (i + k) (.int .u32 ((z - c - b) % 4294967296))
      rcases (show b' = 0 ∨ b' = 1 by omega) with rfl | rfl
      all_goals
        have HS := Lib.hid ST
        have HA := Lib.hid hA
        clear ST hA
        go_wp2_with fail
        refine HA.out.mono ?_
        rintro e w' ⟨rfl, rfl⟩
        go_wp2
        go_ret
        first
          | exact .inl ⟨_, rfl, hZ2, hL2.out, hD2.out, HS.out, hO2⟩
          | exact .inr ⟨_, rfl, hZ2, hL2.out, hD2.out, HS.out, hO2⟩

def AddBackPost (g base N C i n : Nat) (R D : List Int) (w : World) (e : Ending) (w' : World) : Prop :=
  ∃ R' o, e = .returned (.tuple #[]) ∧ Mine w' base (some ⟨g, 0, none⟩) N C R' ∧ R'.take i = R.take i ∧ R'.drop (i + n + 1) = R.drop (i + n + 1) ∧
    val (R'.take (i + n + 1)) + pw (i + n + 1) * o = val (R.take (i + n + 1)) + pw i * val D ∧ (0 ≤ o ∧ o ≤ 1) ∧ Only (some ⟨g, 0, none⟩) w w'

set_option maxHeartbeats 2000000 in
theorem addBack_any (g base N C i n wc dc : Nat) (dA : Option Addr) (R D : List Int) (w : World) (hR : Mine w base (some ⟨g, 0, none⟩) N C R) (hD : Rd w dA n dc D) (hfar : ∀ a, dA = some a → a.block ≠ g)
    (hN : i + n + 1 ≤ N) (hn : N ≤ 1000000) (hwc : n + 1 ≤ wc) :
    Calls Tryd.prog 69 #[.slice (some ⟨g, i, none⟩) (n + 1) wc, .slice dA n dc] w (AddBackPost g base N C i n R D w) := by
  have HD := Lib.hid hD.len
  go_enter Tryd.func69, Tryd.ntmps69
  go_wp2
  go_loopw [4, 9] (fun cv kv wr => ∃ (k : Nat) (c : Int) (Z : List Int), k ≤ n ∧ kv = .int .i64 k ∧ cv = .int .u32 c ∧ (0 ≤ c ∧ c ≤ 1) ∧ Mine wr base (some ⟨g, 0, none⟩) N C Z ∧
      Hid (Z.take i = R.take i) ∧ Hid (Z.drop (i + k) = R.drop (i + k)) ∧ Hid (val (Z.take (i + k)) + pw (i + k) * c = val (R.take (i + k)) + pw i * val (D.take k)) ∧ Only (some ⟨g, 0, none⟩) w wr) (fun _ kv _ => n - (intOf kv).toNat)
  case atStart => exact ⟨0, 0, R, Nat.zero_le _, rfl, rfl, by omega, hR, rfl, rfl, by show _ = _; simp [val], Only.refl _ _⟩
  case round =>
    obtain ⟨k, c, Z, hk, rfl, rfl, ⟨c0, c1⟩, hZ, hlow, hhigh, hV, hO⟩ := hrel
    by_cases hkn : k < n
    · obtain ⟨ad, rfl, _, hc⟩ := hD.at_ (by omega)
      have hne := hfar ad rfl
      have cD := hc k hkn
      have cD' : wr.cell? (ad.add k) = w.cell? (ad.add k) := hO.farCell (by rw [addr_block]; exact hne)
      rw [cD] at cD'
      have uD := hD.lims.getD k
      have uZ := hZ.lims.getD (i + k)
      have cZ := hZ.cellAt (i := i + k) (by omega)
      have fZ := hZ.frozenAt (i + k)
      obtain ⟨d, hd⟩ : ∃ d, D.getD k 0 = d := ⟨_, rfl⟩
      obtain ⟨z, hz⟩ : ∃ z, R.getD (i + k) 0 = z := ⟨_, rfl⟩
      rw [getD_of_drop hhigh.out, hz] at cZ uZ
      rw [hd] at cD' uD
      have ST := Lib.hid (addBack_step (Z := Z) (R := R) (D := D) (i := i) (k := k) (c := c) (by rw [hZ.len]; omega) hz hd hV.out)
      have hD2 : Hid ((Z.set (i + k) ((z + d + c) % 4294967296)).drop (i + (k + 1)) = R.drop (i + (k + 1))) := by
        show _ = _
        rw [← Nat.add_assoc, drop_set]; exact drop_succ hhigh.out
      have hL2 : Hid ((Z.set (i + k) ((z + d + c) % 4294967296)).take i = R.take i) := by
        show _ = _
        rw [take_set_ge _ _ _ _ (by omega)]; exact hlow.out
      have s1 : 0 ≤ (z + d + c) / 4294967296 ∧ (z + d + c) / 4294967296 ≤ 1 := by omega
      have s0 : 0 ≤ (z + d + c) % 4294967296 ∧ (z + d + c) % 4294967296 < 4294967296 := by omega
      have hZ2 := hZ.stored (i + k) s0.1 s0.2
      clear hc cD hd hz
      go_wp2_with fail
      refine (add32_any z d c _ uZ uD (by omega)).mono ?_
      rintro e w' ⟨rfl, rfl⟩
      go_wp2
      go_roundw
      case rel => exact ⟨k + 1, _, _, by omega, by go_num, rfl, s1, hZ2, hL2.out, hD2.out, ST.out, hO.set (i + k) _⟩
      case measure => simp [intOf] <;> omega
    · obtain rfl : k = n := by omega
      have uZ := hZ.lims.getD (i + k)
      have cZ := hZ.cellAt (i := i + k) (by omega)
      have fZ := hZ.frozenAt (i + k)
      obtain ⟨z, hz⟩ : ∃ z, R.getD (i + k) 0 = z := ⟨_, rfl⟩
      rw [getD_of_drop hhigh.out, hz] at cZ uZ
      have ST := Lib.hid (addBack_last (Z := Z) (R := R) (D := D) (i := i) (n := k) (c := c) (by rw [hZ.len]; omega) hz HD.out hV.out)
      have s0 : 0 ≤ (z + c) % 4294967296 ∧ (z + c) % 4294967296 < 4294967296 := by omega
      have s1 : 0 ≤ (z + c) / 4294967296 ∧ (z + c) / 4294967296 ≤ 1 := by omega
      have hZ2 := hZ.stored (i + k) s0.1 s0.2
      have hD2 : Hid ((Z.set (i + k) ((z + c) % 4294967296)).drop (i + k + 1) = R.drop (i + k + 1)) := by
        show _ = _
        rw [drop_set]; exact drop_succ hhigh.out
      have hL2 : Hid ((Z.set (i + k) ((z + c) % 4294967296)).take i = R.take i) := by
        show _ = _
        rw [take_set_ge _ _ _ _ (by omega)]; exact hlow.out
      have hO2 := hO.set (i + k) (.int .u32 ((z + c) % 4294967296))
      clear hz hkn
      go_wp2
      go_end0
      exact ⟨_, _, rfl, hZ2, hL2.out, hD2.out, ST.out, s1, hO2⟩

end Go.Proofs.YtdimajnadmkhiaaDoor
