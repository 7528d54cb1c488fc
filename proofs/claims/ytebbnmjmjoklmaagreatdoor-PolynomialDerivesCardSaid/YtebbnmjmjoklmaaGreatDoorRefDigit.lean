/-
  exactpplref01.digit: one limb of the quotient, and what it leaves in the dividend.
-/
import Derived.Test.YtebbnmjmjoklmaaGreatDoorLong3
import Derived.Test.YtebbnmjmjoklmaaGreatDoorRefUnshift
import Derived.Deep.CutBlock
import Derived.Deep.DeepCutAuto
import Derived.Deep.LoopGhost
namespace Go.Proofs.YtebbnmjmjoklmaaGreatDoor
open Go.RowKit
set_option maxRecDepth 20000

theorem u64_and_mask (a : Int) (a0 : 0 ≤ a) (a1 : a < 18446744073709551616) : bits .and .u64 a 4294967295 = a % 4294967296 := by
  obtain ⟨n, rfl⟩ := Int.eq_ofNat_of_zero_le a0
  have h1 : ∀ x : Nat, x < 18446744073709551616 → (BitVec.ofInt 64 (x : Int)).toNat = x := by
    intro x hx
    rw [BitVec.ofInt_natCast, BitVec.toNat_ofNat]
    exact Nat.mod_eq_of_lt (by omega)
  have h2 : n &&& 4294967295 = n % 4294967296 := by rw [show (4294967295 : Nat) = 2 ^ 32 - 1 by decide, Nat.and_two_pow_sub_one_eq_mod]
  show IntKind.u64.wrap ((BitVec.ofInt 64 (n : Int) &&& BitVec.ofInt 64 ((4294967295 : Nat) : Int)).toNat : Int) = _
  rw [BitVec.toNat_and, h1 n (by omega), h1 4294967295 (by omega), h2, IntKind.wrap_u64]
  omega
theorem Mine.stored' {w : World} {base g n c i : Nat} {L : List Int} {x y : Int} (h : Mine w base (some ⟨g, 0, none⟩) n c L) (e : x = y) (y0 : 0 ≤ y) (y1 : y < 4294967296) : Mine (w.setCell ⟨g, i, none⟩ (.int .u32 x)) base (some ⟨g, 0, none⟩) n c (L.set i y) := by
  subst e
  exact h.stored i y0 y1

/-- A limb of the quotient comes back; the window has lost its multiple of the divisor and is less than the divisor. -/
def DigitPost (g base N C m j : Nat) (R : List Int) (V : Int) (w : World) (e : Ending) (w' : World) : Prop :=
  ∃ q R', e = .returned (.int .u32 q) ∧ (0 ≤ q ∧ q < 4294967296) ∧ Mine w' base (some ⟨g, 0, none⟩) N C R' ∧ R'.drop (j + (m + 3)) = R.drop (j + (m + 3)) ∧
    val (R.take (j + (m + 3))) = val (R'.take (j + (m + 3))) + V * (pw j * q) ∧ val (R'.take (j + (m + 3))) < V * pw j ∧ Only (some ⟨g, 0, none⟩) w w'
/-- The guess: the limb of the quotient of W by V, or one more. -/
def CutG (V W : Int) (w : World) (v : Value) (w' : World) : Prop := ∃ (q : Int) (k : Nat), v = .int .u64 q ∧ Near V W q ∧ w' = w.drewN k

set_option maxHeartbeats 4000000 in
set_option maxRecDepth 100000 in
theorem refDigit_any (g gd base N C m dc j : Nat) (R D : List Int) (w : World) (hR : Mine w base (some ⟨g, 0, none⟩) N C R) (hD : Rd w (some ⟨gd, 0, none⟩) (m + 2) dc D) (hfar : gd ≠ g) (hN : j + (m + 2) + 1 ≤ N) (hn : N ≤ 1000000)
    (hf : 2147483648 ≤ D.getD (m + 1) 0) (hlt : val ((R.drop j).take (m + 3)) < val D * 4294967296) :
    Calls Tryz.prog 107 #[.slice (some ⟨g, 0, none⟩) N C, .slice (some ⟨gd, 0, none⟩) (m + 2 : Nat) dc, .int .i64 (j : Int)] w (DigitPost g base N C m j R (val D) w) := by
  have hX := hR.window (i := j) (k := m + 3) (by omega) (by have := hR.rd.cap; omega)
  obtain ⟨X, eX⟩ : ∃ X, (R.drop j).take (m + 3) = X := ⟨_, rfl⟩
  rw [eX] at hX hlt
  have d1 := hD.cellAt (k := m + 1) (by omega)
  have d2 := hD.cellAt (k := m) (by omega)
  have x1 := hX.cellAt (k := m + 2) (by omega)
  have x2 := hX.cellAt (k := m + 1) (by omega)
  have x3 := hX.cellAt (k := m) (by omega)
  simp only [Nat.zero_add] at d1 d2
  have uf := hD.lims.getD (m + 1)
  have us := hD.lims.getD m
  have u1 := hX.lims.getD (m + 2)
  have u2 := hX.lims.getD (m + 1)
  have u3 := hX.lims.getD m
  have hV := top_two hD.len
  have hW := top_three hX.len
  have P0 := pw_pos m
  have dl0 := val_nonneg (hD.lims.take m)
  have dl1 := val_lt (hD.lims.take m)
  have wl0 := val_nonneg (hX.lims.take m)
  have wl1 := val_lt (hX.lims.take m)
  rw [List.length_take_of_le (by rw [hD.len]; omega)] at dl1
  rw [List.length_take_of_le (by rw [hX.len]; omega)] at wl1
  have V0 : 0 < val D := by
    have h1 : 1 * pw m ≤ (D.getD (m + 1) 0 * 4294967296 + D.getD m 0) * pw m := le_mul (by omega) (by omega)
    omega
  generalize val (D.take m) = dl at *
  generalize val (X.take m) = wl at *
  generalize D.getD (m + 1) 0 = f at *
  generalize D.getD m 0 = s at *
  generalize X.getD (m + 2) 0 = a at *
  generalize X.getD (m + 1) 0 = b at *
  generalize X.getD m 0 = u at *
  obtain ⟨V, eV⟩ : ∃ V, val D = V := ⟨_, rfl⟩
  obtain ⟨W, eW⟩ : ∃ W, val X = W := ⟨_, rfl⟩
  rw [eV] at hV hlt V0 ⊢
  rw [eW] at hW hlt
  have J1 := or_join a b u1.1 u1.2 u2.1 u2.2
  obtain ⟨t, et⟩ : ∃ t, a * 4294967296 + b = t := ⟨_, rfl⟩
  have t0 : 0 ≤ t := by omega
  have t64 : t < 18446744073709551616 := by omega
  rw [et] at J1 hW
  have htop : t < (f + 1) * 4294967296 := guess_top us.2 u3.1 P0 dl1 wl0 (by rw [← hW, ← hV]; exact hlt)
  have q0 := Int.ediv_nonneg t0 (show 0 ≤ f by omega)
  have q1 : t / f ≤ 4294967297 := by
    refine Int.le_of_lt_add_one (Int.ediv_lt_of_lt_mul (by omega) ?_)
    omega
  have r0 := Int.emod_nonneg t (show f ≠ 0 by omega)
  have r1 := Int.emod_lt_of_pos t (show 0 < f by omega)
  have hqr := Int.mul_ediv_add_emod t f
  have hgt : t < (t / f + 1) * f := by rw [Int.add_mul, Int.mul_comm]; omega
  have hst : Hid (W < (t / f + 1) * V) := by
    show _ < _
    have h1 : (t * 4294967296 + u + 1) * pw m ≤ ((t / f + 1) * f * 4294967296) * pw m := le_mul (by omega) (by omega)
    have e1 : (t * 4294967296 + u + 1) * pw m = (t * 4294967296 + u) * pw m + pw m := by grind
    have h2 : (t / f + 1) * ((f * 4294967296) * pw m) ≤ (t / f + 1) * V := by
      refine le_mul' ?_ (by omega)
      rw [hV]
      have h3 : (f * 4294967296) * pw m ≤ (f * 4294967296 + s) * pw m := le_mul (by omega) (by omega)
      omega
    have e2 : (t / f + 1) * f * 4294967296 * pw m = (t / f + 1) * ((f * 4294967296) * pw m) := by grind
    omega
  have hqr' : Hid (t / f * f + t % f = t) := by show _ = _; rw [Int.mul_comm]; exact hqr
  have HV := Lib.hid hV
  have HW := Lib.hid hW
  have HT := Lib.hid htop
  have HLT := Lib.hid hlt
  have HEV := Lib.hid eV
  have HEW := Lib.hid eW
  have HEX := Lib.hid eX
  clear hV hW eV eW et hqr hgt htop hlt eX
  have n1 : IntKind.i64.wrap ((m : Int) + 2 - 1) = (m : Int) + 1 := by rw [IntKind.wrap_i64]; omega
  have n2 : IntKind.i64.wrap ((m : Int) + 2 - 2) = (m : Int) := by rw [IntKind.wrap_i64]; omega
  have n3 : ((m : Int) + 1).toNat = m + 1 := by omega
  have k1 : IntKind.i64.wrap ((j : Int) + ((m : Int) + 2)) = (j : Int) + ((m : Int) + 2) := by rw [IntKind.wrap_i64]; omega
  have k2 : IntKind.i64.wrap ((j : Int) + ((m : Int) + 2) - 1) = (j : Int) + ((m : Int) + 1) := by rw [IntKind.wrap_i64]; omega
  have k3 : IntKind.i64.wrap ((j : Int) + ((m : Int) + 2) - 2) = (j : Int) + (m : Int) := by rw [IntKind.wrap_i64]; omega
  have k4 : ((j : Int) + ((m : Int) + 2)).toNat = j + (m + 2) := by omega
  have k5 : ((j : Int) + ((m : Int) + 1)).toNat = j + (m + 1) := by omega
  have k6 : ((j : Int) + (m : Int)).toNat = j + m := by omega
  have l1 : (0 : Int) ≤ (j : Int) + ((m : Int) + 2) := by omega
  have l2 : (j : Int) + ((m : Int) + 2) < (N : Int) := by omega
  have l3 : (0 : Int) ≤ (j : Int) + ((m : Int) + 1) := by omega
  have l4 : (j : Int) + ((m : Int) + 1) < (N : Int) := by omega
  have l5 : (0 : Int) ≤ (j : Int) + (m : Int) := by omega
  have l6 : (j : Int) + (m : Int) < (N : Int) := by omega
  have l7 : (0 : Int) ≤ (m : Int) + 1 := by omega
  have l8 : (m : Int) + 1 < (m : Int) + 2 := by omega
  have l9 : (m : Int) < (m : Int) + 2 := by omega
  generalize pw m = P at *
  go_enter Tryz.func107, Tryz.ntmps107
  go_wp2_with fail
  go_quiet (fail)
  go_wp2_with fail
  go_quiet (fail)
  clear k2 k4 k5 l1 l2 l3 l4 x1 x2 J1
  go_upto_block 0 with fail
  go_cut [9] (fun qv wx => CutG V W w qv wx)
  case first =>
    go_wp2_with fail
    go_loopw [9, 10] (fun gv rv wr => ∃ (g r : Int) (q : Nat), gv = .int .u64 g ∧ rv = .int .u64 r ∧ (0 ≤ g ∧ g ≤ 4294967297) ∧ (0 ≤ r ∧ r < 4294967296) ∧ Hid (g * f + r = t) ∧ Hid (W < (g + 1) * V) ∧ wr = w.drewN q) (fun gv _ _ => (intOf gv).toNat)
    case atStart => exact ⟨_, _, _, rfl, rfl, ⟨q0, q1⟩, ⟨r0, by omega⟩, hqr'.out, hst.out, by rw [World.drewN_drewN]⟩
    case round =>
      obtain ⟨g, r, q, rfl, rfl, ⟨g0, g1⟩, ⟨r0', r1'⟩, hG, hU, rfl⟩ := hrel
      clear q0 q1 r0 r1 hst hqr'
      have hgs0 := Int.mul_nonneg g0 us.1
      have hgs1 : g * s ≤ 4294967297 * s := le_mul g1 us.1
      have J2 := or_join r u r0' (by omega) u3.1 u3.2
      have hG2 : Hid ((g - 1) * f + (r + f) = t) := by show _ = _; have := hG.out; grind
      have rs0 : 0 ≤ r + f := by omega
      have rs1 : r + f < 18446744073709551616 := by omega
      by_cases hg : 4294967296 ≤ g
      · have hU2 : Hid (W < (g - 1 + 1) * V) := by
          show _ < _
          rw [Int.sub_add_cancel]; exact guess_over V0 HLT.out hg
        have hg1 : g - 1 < 4294967296 ∨ r + f < 4294967296 := by
          rcases Int.lt_or_le (g - 1) 4294967296 with h | h
          · exact .inl h
          · right
            have h1 : 4294967296 * f ≤ (g - 1) * f := le_mul h (by omega)
            have := hG2.out
            have := HT.out
            omega
        go_wp2_with fail
        go_quiet (fail)
        by_cases hr : 4294967296 ≤ r + f
        · have hEnd := guess_end (dl := dl) (wl := wl) (P := P) (g := g - 1) (r := r + f) (by omega) us.1 us.2 u3.1 P0 dl0 dl1 wl0 t0 (by omega) (by omega) hG2.out (.inl hr)
          rw [← HV.out, ← HW.out] at hEnd
          have HE := Lib.hid hEnd
          clear hEnd
          go_wp2
          go_meet
          exact ⟨g - 1, _, rfl, ⟨by omega, by omega, hU2.out, HE.out⟩, rfl⟩
        · go_wp2
          go_roundw
          case rel => exact ⟨g - 1, r + f, _, rfl, rfl, by omega, by omega, hG2.out, hU2.out, rfl⟩
          case measure => simp [intOf] <;> omega
      · have b0 : decide (4294967296 ≤ g) = false := decide_eq_false hg
        have b1 : decide (r < 4294967296) = true := decide_eq_true r1'
        have w1 : IntKind.u64.wrap (g * s) = g * s := by rw [IntKind.wrap_u64]; omega
        have w2 : IntKind.u64.wrap (r * 4294967296) = r * 4294967296 := by rw [IntKind.wrap_u64]; omega
        by_cases hc : r * 4294967296 + u < g * s
        · have b2 : decide (r * 4294967296 + u < g * s) = true := decide_eq_true hc
          have hg1 : 1 ≤ g := by
            rcases Int.lt_or_le g 1 with h | h
            · have : g = 0 := by omega
              subst this
              simp at hc
              omega
            · exact h
          have hU2 : Hid (W < (g - 1 + 1) * V) := by
            show _ < _
            rw [Int.sub_add_cancel, HW.out, HV.out]; exact guess_high g0 P0 dl0 wl1 hG.out hc
          go_wp2_with fail
          go_quiet (fail)
          by_cases hr : 4294967296 ≤ r + f
          · have hEnd := guess_end (dl := dl) (wl := wl) (P := P) (g := g - 1) (r := r + f) (by omega) us.1 us.2 u3.1 P0 dl0 dl1 wl0 t0 (by omega) (by omega) hG2.out (.inl hr)
            rw [← HV.out, ← HW.out] at hEnd
            have HE := Lib.hid hEnd
            clear hEnd
            go_wp2
            go_meet
            exact ⟨g - 1, _, rfl, ⟨by omega, by omega, hU2.out, HE.out⟩, rfl⟩
          · go_wp2
            go_roundw
            case rel => exact ⟨g - 1, r + f, _, rfl, rfl, by omega, by omega, hG2.out, hU2.out, rfl⟩
            case measure => simp [intOf] <;> omega
        · have b2 : decide (r * 4294967296 + u < g * s) = false := decide_eq_false hc
          have hEnd := guess_end (dl := dl) (wl := wl) (P := P) (by omega) us.1 us.2 u3.1 P0 dl0 dl1 wl0 t0 g0 (by omega) hG.out (.inr (by omega))
          rw [← HV.out, ← HW.out] at hEnd
          have HE := Lib.hid hEnd
          clear hEnd
          go_wp2_with fail
          go_quiet (fail)
          go_wp2
          go_meet
          exact ⟨g, _, rfl, ⟨g0, by omega, hU.out, HE.out⟩, World.drewN_drewN ..⟩
  case rest =>
    obtain ⟨t', kk, rfl, hnear, rfl⟩ := hcut
    obtain ⟨q0', q1', qlo, qhi⟩ := hnear
    have HLO := Lib.hid qlo
    have HHI := Lib.hid qhi
    have HDl := Lib.hid hD.len
    have hO0 : Only (some ⟨g, 0, none⟩) w (w.drewN kk) := (Only.refl _ _).drewN kk
    have hRd := hR.drewN kk
    have hT := val_window R j (m + 2) (by rw [hR.len]; omega)
    have HX' : Hid ((R.drop j).take (m + 2 + 1) = X) := HEX.out
    rw [HX'.out, HEW.out] at hT
    have hL0 := val_nonneg (hR.lims.take j)
    have hL1 := val_lt (hR.lims.take j)
    rw [List.length_take_of_le (by rw [hR.len]; omega)] at hL1
    have HWin := Lib.hid hT
    have HL0 := Lib.hid hL0
    have HL1 := Lib.hid hL1
    clear hT hL0 hL1
    have hR0 : Hid (Lims R) := hR.lims
    clear qlo qhi q0 q1 r0 r1 hst hqr' d1 d2 x3 hX hR n1 n2 k3 k6 l5 l6 l7 l8 l9 n3 hf
    generalize w.drewN kk = w1 at *
    obtain ⟨pt, hpt⟩ : ∃ pt, pt = pw j * t' := ⟨_, rfl⟩
    have HP := Lib.hid hpt
    clear hpt
    go_wp2_with fail
    go_loopw [11, 12, 13] (fun bv cv iv wr => ∃ (k : Nat) (c b : Int) (Z : List Int), k ≤ m + 3 ∧ iv = .int .i64 k ∧ cv = .int .u64 c ∧ bv = .int .u64 b ∧ (0 ≤ c ∧ c < 4294967296) ∧ (0 ≤ b ∧ b < 2) ∧ Mine wr base (some ⟨g, 0, none⟩) N C Z ∧ Hid (k = m + 3 → c = 0) ∧
      Hid (Z.drop (j + k) = R.drop (j + k)) ∧ Hid (val (Z.take (j + k)) + pt * val (D.take k) = val (R.take (j + k)) + pw (j + k) * (c + b)) ∧ Only (some ⟨g, 0, none⟩) w wr) (fun _ _ iv _ => m + 3 - (intOf iv).toNat)
    case atStart => exact ⟨0, 0, 0, R, by omega, rfl, rfl, rfl, by omega, by omega, hRd, fun _ => rfl, rfl, by show _ = _; simp [val], hO0⟩
    case round =>
      obtain ⟨k, c, b, Z, hk, rfl, rfl, rfl, ⟨c0, c1⟩, ⟨b0, b1⟩, hZ, hc0, hhigh, hV, hO⟩ := hrel
      by_cases hk3 : k < m + 3
      · have uZ := hZ.lims.getD (j + k)
        have cZ := hZ.cellAt (i := j + k) (by omega)
        have fZ := hZ.frozenAt (j + k)
        obtain ⟨z, hz⟩ : ∃ z, R.getD (j + k) 0 = z := ⟨_, rfl⟩
        rw [getD_of_drop hhigh.out, hz] at cZ uZ
        have uD := hD.lims.getD k
        obtain ⟨d, hd⟩ : ∃ d, D.getD k 0 = d := ⟨_, rfl⟩
        rw [hd] at uD
        have ST := subMul_step (Z := Z) (R := R) (D := D) (i := j) (k := k) (t := t') (c := c) (b := b) (by rw [hZ.len]; omega) hz hd uZ ⟨b0, b1⟩ pt HP.out hV.out
        have pr := mul_limbs d t' uD ⟨q0', q1'⟩
        by_cases hkn : k < m + 2
        · have cD : wr.cell? ⟨gd, 0 + k, none⟩ = some (.int .u32 d) := by
            rw [hO.farCell (p := ⟨gd, 0 + k, none⟩) hfar, ← hd]; exact hD.cellAt hkn
          rw [Nat.zero_add] at cD
          have e1 : d * t' + 0 + c = c + t' * d := by rw [Int.mul_comm d t']; omega
          rw [e1] at ST
          rw [Int.mul_comm d t'] at pr
          obtain ⟨pd, hpd⟩ : ∃ pd, t' * d = pd := ⟨_, rfl⟩
          rw [hpd] at ST pr
          have p0 : 0 ≤ c + pd := by omega
          have p1 : c + pd < 18446744073709551616 := by omega
          have AN := u64_and_mask (c + pd) p0 p1
          obtain ⟨p, hp⟩ : ∃ p, c + pd = p := ⟨_, rfl⟩
          rw [hp] at ST AN p0 p1
          have l0 : 0 ≤ p % 4294967296 := by omega
          have l1 : p % 4294967296 < 4294967296 := by omega
          have hh0 : p / 4294967296 < 4294967296 := by omega
          have hh1 : 0 ≤ p / 4294967296 := by omega
          have HST := Lib.hid ST
          have hD2 : Hid ((Z.set (j + k) ((z - p % 4294967296 - b) % 4294967296)).drop (j + (k + 1)) = R.drop (j + (k + 1))) := by
            show _ = _
            rw [← Nat.add_assoc, drop_set]; exact drop_succ hhigh.out
          clear hd hz ST e1
          by_cases hlt : z < p % 4294967296 + b
          · have hbo : Hid (borrowOf z (p % 4294967296) b = 1) := by show _ = _; unfold borrowOf; rw [if_pos hlt]
            go_wp2
            go_roundw
            case rel => exact ⟨k + 1, _, 1, _, by omega, by go_num, rfl, rfl, ⟨hh1, hh0⟩, by omega, hZ.stored' (y := (z - p % 4294967296 - b) % 4294967296) (by omega) (by omega) (by omega), fun h => by omega, hD2.out, by have h := HST.out; rw [hbo.out] at h; exact h, hO.set (j + k) _⟩
            case measure => simp [intOf] <;> omega
          · have hbo : Hid (borrowOf z (p % 4294967296) b = 0) := by show _ = _; unfold borrowOf; rw [if_neg hlt]
            go_wp2
            go_roundw
            case rel => exact ⟨k + 1, _, 0, _, by omega, by go_num, rfl, rfl, ⟨hh1, hh0⟩, by omega, hZ.stored' (y := (z - p % 4294967296 - b) % 4294967296) (by omega) (by omega) (by omega), fun h => by omega, hD2.out, by have h := HST.out; rw [hbo.out] at h; exact h, hO.set (j + k) _⟩
            case measure => simp [intOf] <;> omega
        · obtain rfl : k = m + 2 := by omega
          obtain rfl : d = 0 := by rw [← hd, getD_ge _ _ (by have := HDl.out; omega)]
          have e1 : 0 * t' + 0 + c = c := by omega
          rw [e1] at ST
          have AN := u64_and_mask c (by omega) (by omega)
          have l0 : 0 ≤ c % 4294967296 := by omega
          have l1 : c % 4294967296 < 4294967296 := by omega
          have hh0 : c / 4294967296 < 4294967296 := by omega
          have hh1 : 0 ≤ c / 4294967296 := by omega
          have hh2 : Hid (c / 4294967296 = 0) := by show _ = _; omega
          have HST := Lib.hid ST
          have hD2 : Hid ((Z.set (j + (m + 2)) ((z - c % 4294967296 - b) % 4294967296)).drop (j + (m + 2 + 1)) = R.drop (j + (m + 2 + 1))) := by
            show _ = _
            rw [← Nat.add_assoc, drop_set]; exact drop_succ hhigh.out
          clear hd hz ST e1 pr
          by_cases hlt : z < c % 4294967296 + b
          · have hbo : Hid (borrowOf z (c % 4294967296) b = 1) := by show _ = _; unfold borrowOf; rw [if_pos hlt]
            go_wp2
            go_roundw
            case rel => exact ⟨m + 3, _, 1, _, by omega, by go_num, rfl, rfl, ⟨hh1, hh0⟩, by omega, hZ.stored' (y := (z - c % 4294967296 - b) % 4294967296) (by omega) (by omega) (by omega), fun h => hh2.out, hD2.out, by have h := HST.out; rw [hbo.out] at h; exact h, hO.set (j + (m + 2)) _⟩
            case measure => simp [intOf] <;> omega
          · have hbo : Hid (borrowOf z (c % 4294967296) b = 0) := by show _ = _; unfold borrowOf; rw [if_neg hlt]
            go_wp2
            go_roundw
            case rel => exact ⟨m + 3, _, 0, _, by omega, by go_num, rfl, rfl, ⟨hh1, hh0⟩, by omega, hZ.stored' (y := (z - c % 4294967296 - b) % 4294967296) (by omega) (by omega) (by omega), fun h => hh2.out, hD2.out, by have h := HST.out; rw [hbo.out] at h; exact h, hO.set (j + (m + 2)) _⟩
            case measure => simp [intOf] <;> omega
      · obtain rfl : k = m + 3 := by omega
        obtain rfl : c = 0 := hc0.out rfl
        have hE := hV.out
        rw [List.take_of_length_le (l := D) (by have := HDl.out; omega), HEV.out, HP.out, Int.zero_add] at hE
        have hz1 := val_lt (hZ.lims.take (j + (m + 3)))
        rw [List.length_take_of_le (by rw [hZ.len]; omega)] at hz1
        have hz0 := val_nonneg (hZ.lims.take (j + (m + 3)))
        have hr0 := val_nonneg (hR0.out.take (j + (m + 3)))
        have hwin := HWin.out
        rw [show j + (m + 2) + 1 = j + (m + 3) by omega] at hwin
        rcases (show b = 0 ∨ b = 1 by omega) with rfl | rfl
        · have hfit := round_fit (T := val (R.take (j + (m + 3)))) (T' := val (Z.take (j + (m + 3)))) (q := 0) (pw_pos j) HL1.out hwin HLO.out (by rw [Int.mul_zero, Int.mul_zero, Int.add_zero]) (by omega)
          rw [Int.mul_zero, Int.add_zero] at hfit
          have HF := Lib.hid hfit
          have HH := Lib.hid hhigh.out
          clear hfit hE hz0 hz1 hr0 hwin hV hhigh hc0
          go_wp2
          go_ret
          exact ⟨t', Z, rfl, ⟨q0', q1'⟩, hZ, HH.out, HF.out.1, HF.out.2, hO⟩
        · have ht1 : 1 ≤ t' := by
            rcases Int.lt_or_le t' 1 with h | h
            · have : t' = 0 := by omega
              subst this
              simp at hE
              omega
            · exact h
          have HE := Lib.hid hE
          have HZ1 := Lib.hid hz1
          have HH := Lib.hid hhigh.out
          have HW2 := Lib.hid hwin
          clear hE hz1 hhigh hz0 hr0 hwin hV hc0 c0 c1 b0 b1 hk3 hk
          go_wp2_with fail
          go_loopw [12, 17] (fun cv iv wr => ∃ (k : Nat) (c : Int) (Y : List Int), k ≤ m + 3 ∧ iv = .int .i64 k ∧ cv = .int .u64 c ∧ (0 ≤ c ∧ c ≤ 1) ∧ Mine wr base (some ⟨g, 0, none⟩) N C Y ∧
            Hid (Y.drop (j + k) = Z.drop (j + k)) ∧ Hid (val (Y.take (j + k)) + pw (j + k) * c = val (Z.take (j + k)) + pw j * val (D.take k)) ∧ Only (some ⟨g, 0, none⟩) w wr) (fun _ iv _ => m + 3 - (intOf iv).toNat)
          case atStart => exact ⟨0, 0, Z, by omega, rfl, rfl, by omega, hZ, rfl, by show _ = _; simp [val], hO⟩
          case round =>
            obtain ⟨k, c, Y, hk, rfl, rfl, ⟨c0, c1⟩, hY, hhigh, hV, hO⟩ := hrel
            clear hZ
            by_cases hk3 : k < m + 3
            · have uZ := hY.lims.getD (j + k)
              have cZ := hY.cellAt (i := j + k) (by omega)
              have fZ := hY.frozenAt (j + k)
              obtain ⟨z, hz⟩ : ∃ z, Z.getD (j + k) 0 = z := ⟨_, rfl⟩
              rw [getD_of_drop hhigh.out, hz] at cZ uZ
              have uD := hD.lims.getD k
              obtain ⟨d, hd⟩ : ∃ d, D.getD k 0 = d := ⟨_, rfl⟩
              rw [hd] at uD
              have ST := addBack_step (Z := Y) (R := Z) (D := D) (i := j) (k := k) (c := c) (by rw [hY.len]; omega) hz hd hV.out
              have HST := Lib.hid ST
              have hD2 : Hid ((Y.set (j + k) ((z + d + c) % 4294967296)).drop (j + (k + 1)) = Z.drop (j + (k + 1))) := by
                show _ = _
                rw [← Nat.add_assoc, drop_set]; exact drop_succ hhigh.out
              by_cases hkn : k < m + 2
              · have cD : wr.cell? ⟨gd, 0 + k, none⟩ = some (.int .u32 d) := by
                  rw [hO.farCell (p := ⟨gd, 0 + k, none⟩) hfar, ← hd]; exact hD.cellAt hkn
                rw [Nat.zero_add] at cD
                have e1 : Hid ((z + c + d) / 4294967296 = (z + d + c) / 4294967296) := by show _ = _; omega
                clear hd hz ST
                go_wp2
                go_roundw
                case rel => exact ⟨k + 1, (z + d + c) / 4294967296, _, by omega, by go_num, congrArg _ e1.out, by omega, hY.stored' (y := (z + d + c) % 4294967296) (by omega) (by omega) (by omega), hD2.out, HST.out, hO.set (j + k) _⟩
                case measure => simp [intOf] <;> omega
              · obtain rfl : k = m + 2 := by omega
                obtain rfl : d = 0 := by rw [← hd, getD_ge _ _ (by have := HDl.out; omega)]
                have e1 : Hid ((z + c) / 4294967296 = (z + 0 + c) / 4294967296) := by show _ = _; omega
                clear hd hz ST
                go_wp2
                go_roundw
                case rel => exact ⟨m + 3, (z + 0 + c) / 4294967296, _, by omega, by go_num, congrArg _ e1.out, by omega, hY.stored' (y := (z + 0 + c) % 4294967296) (by omega) (by omega) (by omega), hD2.out, HST.out, hO.set (j + (m + 2)) _⟩
                case measure => simp [intOf] <;> omega
            · obtain rfl : k = m + 3 := by omega
              have h2 := hV.out
              rw [List.take_of_length_le (l := D) (by have := HDl.out; omega), HEV.out] at h2
              have hy1 := val_lt (hY.lims.take (j + (m + 3)))
              rw [List.length_take_of_le (by rw [hY.len]; omega)] at hy1
              have hback := round_back (T := val (R.take (j + (m + 3)))) (T' := val (Z.take (j + (m + 3)))) (T2 := val (Y.take (j + (m + 3)))) (q := 0) (P := pw (j + (m + 3))) (o := c) (pw_pos j) HL0.out HW2.out HHI.out (by rw [Int.mul_zero, Int.mul_zero, Int.add_zero]) (by have := HE.out; omega) HZ1.out h2 c0 c1 hy1
              rw [Int.mul_zero, Int.add_zero] at hback
              have HF := Lib.hid hback
              have HH2 : Hid (Y.drop (j + (m + 3)) = R.drop (j + (m + 3))) := hhigh.out.trans HH.out
              clear hback h2 hy1 hV hhigh
              go_wp2
              go_ret
              exact ⟨t' - 1, Y, rfl, by omega, hY, HH2.out, HF.out.1, HF.out.2, hO⟩
end Go.Proofs.YtebbnmjmjoklmaaGreatDoor
