/-
  natural.guessLimb: the limb of the quotient of a window by a divisor whose top bit is set, or one more than it.
-/
import Derived.Test.YtdimajnadmkhiaaDoorLong1
namespace Go.Proofs.YtdimajnadmkhiaaDoor
open Go.RowKit

theorem top_two {X : List Int} {m : Nat} (h : X.length = m + 2) : val X = (X.getD (m + 1) 0 * 4294967296 + X.getD m 0) * pw m + val (X.take m) := by
  have h1 := val_take_getD X (m + 1)
  rw [List.take_of_length_le (by omega), val_take_getD X m, pw_succ] at h1
  rw [h1]; grind
theorem top_three {X : List Int} {m : Nat} (h : X.length = m + 3) : val X = ((X.getD (m + 2) 0 * 4294967296 + X.getD (m + 1) 0) * 4294967296 + X.getD m 0) * pw m + val (X.take m) := by
  have h1 := val_take_getD X (m + 2)
  rw [List.take_of_length_le (by omega), val_take_getD X (m + 1), val_take_getD X m] at h1
  simp only [pw_succ] at h1
  rw [h1]; grind

/-- g is the limb of the quotient of W by V, or one more. -/
def Near (V W g : Int) : Prop := 0 ≤ g ∧ g < 4294967296 ∧ W < (g + 1) * V ∧ (g - 1) * V ≤ W
def GuessPost (V W : Int) (w : World) (e : Ending) (w' : World) : Prop := ∃ g, e = .returned (.int .u32 g) ∧ Near V W g ∧ ∃ k, w' = w.drewN k

set_option maxHeartbeats 2000000 in
theorem guess_any (gx i gd m wc dc : Nat) (X D : List Int) (w : World) (hX : Rd w (some ⟨gx, i, none⟩) (m + 3) wc X) (hD : Rd w (some ⟨gd, 0, none⟩) (m + 2) dc D) (hf : 2147483648 ≤ D.getD (m + 1) 0) (hlt : val X < val D * 4294967296) (hm : m ≤ 1000000) :
    Calls Tryd.prog 67 #[.slice (some ⟨gx, i, none⟩) (m + 3 : Nat) wc, .slice (some ⟨gd, 0, none⟩) (m + 2 : Nat) dc] w (GuessPost (val D) (val X) w) := by
  have d1 := hD.cellAt (k := m + 1) (by omega)
  have d2 := hD.cellAt (k := m) (by omega)
  have x1 := hX.cellAt (k := m + 2) (by omega)
  have x2 := hX.cellAt (k := m + 1) (by omega)
  have x3 := hX.cellAt (k := m) (by omega)
  simp only [Nat.zero_add] at d1 d2
  have uf := hD.lims.getD (m + 1)
  have us := hD.lims.getD m
  have u1 := hX.lims.getD (m + 2)
  have u2 := hX.lims.getD (m + 1)
  have u3 := hX.lims.getD m
  have hV := top_two hD.len
  have hW := top_three hX.len
  have P0 := pw_pos m
  have dl0 := val_nonneg (hD.lims.take m)
  have dl1 := val_lt (hD.lims.take m)
  have wl0 := val_nonneg (hX.lims.take m)
  have wl1 := val_lt (hX.lims.take m)
  rw [List.length_take_of_le (by rw [hD.len]; omega)] at dl1
  rw [List.length_take_of_le (by rw [hX.len]; omega)] at wl1
  have V0 : 0 < val D := by
    have h1 : 1 * pw m ≤ (D.getD (m + 1) 0 * 4294967296 + D.getD m 0) * pw m := le_mul (by omega) (by omega)
    omega
  generalize val (D.take m) = dl at *
  generalize val (X.take m) = wl at *
  generalize D.getD (m + 1) 0 = f at *
  generalize D.getD m 0 = s at *
  generalize X.getD (m + 2) 0 = a at *
  generalize X.getD (m + 1) 0 = b at *
  generalize X.getD m 0 = u at *
  obtain ⟨V, eV⟩ : ∃ V, val D = V := ⟨_, rfl⟩
  obtain ⟨W, eW⟩ : ∃ W, val X = W := ⟨_, rfl⟩
  rw [eV] at hV hlt V0 ⊢
  rw [eW] at hW hlt ⊢
  have J1 := or_join a b u1.1 u1.2 u2.1 u2.2
  obtain ⟨t, et⟩ : ∃ t, a * 4294967296 + b = t := ⟨_, rfl⟩
  have t0 : 0 ≤ t := by omega
  have t64 : t < 18446744073709551616 := by omega
  rw [et] at J1 hW
  have htop : t < (f + 1) * 4294967296 := guess_top us.2 u3.1 P0 dl1 wl0 (by rw [← hW, ← hV]; exact hlt)
  have q0 := Int.ediv_nonneg t0 (show 0 ≤ f by omega)
  have q1 : t / f ≤ 4294967297 := by
    refine Int.le_of_lt_add_one (Int.ediv_lt_of_lt_mul (by omega) ?_)
    omega
  have r0 := Int.emod_nonneg t (show f ≠ 0 by omega)
  have r1 := Int.emod_lt_of_pos t (show 0 < f by omega)
  have hqr := Int.mul_ediv_add_emod t f
  have hgt : t < (t / f + 1) * f := by rw [Int.add_mul, Int.mul_comm]; omega
  have hst : Hid (W < (t / f + 1) * V) := by
    show _ < _
    have h1 : (t * 4294967296 + u + 1) * pw m ≤ ((t / f + 1) * f * 4294967296) * pw m := le_mul (by omega) (by omega)
    have e1 : (t * 4294967296 + u + 1) * pw m = (t * 4294967296 + u) * pw m + pw m := by grind
    have h2 : (t / f + 1) * ((f * 4294967296) * pw m) ≤ (t / f + 1) * V := by
      refine le_mul' ?_ (by omega)
      rw [hV]
      have h3 : (f * 4294967296) * pw m ≤ (f * 4294967296 + s) * pw m := le_mul (by omega) (by omega)
      omega
    have e2 : (t / f + 1) * f * 4294967296 * pw m = (t / f + 1) * ((f * 4294967296) * pw m) := by grind
    omega
  have hqr' : Hid (t / f * f + t % f = t) := by show _ = _; rw [Int.mul_comm]; exact hqr
  have HV := Lib.hid hV
  have HW := Lib.hid hW
  have HT := Lib.hid htop
  have HLT := Lib.hid hlt
  clear hV hW eV eW et hqr hgt htop hlt
  have n1 : IntKind.i64.wrap ((m : Int) + 2 - 1) = (m : Int) + 1 := by rw [IntKind.wrap_i64]; omega
  have n2 : IntKind.i64.wrap ((m : Int) + 2 - 2) = (m : Int) := by rw [IntKind.wrap_i64]; omega
  have n3 : ((m : Int) + 1).toNat = m + 1 := by omega
  have n4 : ((m : Int) + 2).toNat = m + 2 := by omega
  have n5 : (0 : Int) ≤ (m : Int) + 1 := by omega
  have n6 : (m : Int) + 1 < (m : Int) + 2 := by omega
  have n7 : (m : Int) < (m : Int) + 2 := by omega
  have n8 : (m : Int) + 2 < (m : Int) + 3 := by omega
  have n9 : (m : Int) + 1 < (m : Int) + 3 := by omega
  have n10 : (m : Int) < (m : Int) + 3 := by omega
  generalize pw m = P at *
  go_enter Tryd.func67, Tryd.ntmps67
  go_wp2_with fail
  go_quiet (fail)
  go_wp2_with fail
  go_quiet (fail)
  go_wp2_with fail
  go_quiet (fail)
  go_wp2
  clear n1 n3 n4 n5 n6 n7 n8 n9 d1 d2 x1 x2 J1
  go_loopw [9, 10] (fun gv rv wr => ∃ (g r : Int) (q : Nat), gv = .int .u64 g ∧ rv = .int .u64 r ∧ (0 ≤ g ∧ g ≤ 4294967297) ∧ (0 ≤ r ∧ r < 8589934592) ∧ Hid (g * f + r = t) ∧ Hid (W < (g + 1) * V) ∧ wr = w.drewN q) (fun gv _ _ => (intOf gv).toNat)
  case atStart => exact ⟨_, _, _, rfl, rfl, ⟨q0, q1⟩, ⟨r0, by omega⟩, hqr'.out, hst.out, by rw [World.drewN_drewN, World.drewN_drewN]⟩
  case round =>
    obtain ⟨g, r, q, rfl, rfl, ⟨g0, g1⟩, ⟨r0', r1'⟩, hG, hU, rfl⟩ := hrel
    clear q0 q1 r0 r1 hst hqr'
    have hgs0 := Int.mul_nonneg g0 us.1
    have hgs1 : g * s ≤ 4294967297 * s := le_mul g1 us.1
    by_cases hr : 4294967296 ≤ r
    · have b1 : (r / 4294967296 == 0) = false := by simp; omega
      have hg : g < 4294967296 := by
        rcases Int.lt_or_le g 4294967296 with h | h
        · exact h
        · exfalso
          have h1 : 4294967296 * f ≤ g * f := le_mul h (by omega)
          have := hG.out
          have := HT.out
          omega
      have hEnd := guess_end (dl := dl) (wl := wl) (P := P) (by omega) us.1 us.2 u3.1 P0 dl0 dl1 wl0 t0 g0 hg hG.out (.inl hr)
      rw [← HV.out, ← HW.out] at hEnd
      have HE := Lib.hid hEnd
      clear hEnd
      go_wp2
      go_ret
      exact ⟨g, rfl, ⟨g0, hg, hU.out, HE.out⟩, q, rfl⟩
    · have b1 : (r / 4294967296 == 0) = true := by simp; omega
      have J2 := or_join r u r0' (by omega) u3.1 u3.2
      have hG2 : Hid ((g - 1) * f + (r + f) = t) := by show _ = _; have := hG.out; grind
      by_cases hg : 4294967296 ≤ g
      · have b2 : (g / 4294967296 != 0) = true := by simp; omega
        have hU2 : Hid (W < (g - 1 + 1) * V) := by
          show _ < _
          rw [Int.sub_add_cancel]; exact guess_over V0 HLT.out hg
        go_wp2
        go_roundw
        case rel => exact ⟨g - 1, r + f, q, rfl, rfl, by omega, by omega, hG2.out, hU2.out, rfl⟩
        case measure => simp [intOf] <;> omega
      · have b2 : (g / 4294967296 != 0) = false := by simp; omega
        by_cases hc : r * 4294967296 + u < g * s
        · have hg1 : 1 ≤ g := by
            rcases Int.lt_or_le g 1 with h | h
            · have : g = 0 := by omega
              subst this
              simp at hc
              omega
            · exact h
          have hU2 : Hid (W < (g - 1 + 1) * V) := by
            show _ < _
            rw [Int.sub_add_cancel, HW.out, HV.out]; exact guess_high g0 P0 dl0 wl1 hG.out hc
          go_wp2
          go_roundw
          case rel => exact ⟨g - 1, r + f, q, rfl, rfl, by omega, by omega, hG2.out, hU2.out, rfl⟩
          case measure => simp [intOf] <;> omega
        · have hEnd := guess_end (dl := dl) (wl := wl) (P := P) (by omega) us.1 us.2 u3.1 P0 dl0 dl1 wl0 t0 g0 (by omega) hG.out (.inr (by omega))
          rw [← HV.out, ← HW.out] at hEnd
          have HE := Lib.hid hEnd
          clear hEnd
          go_wp2
          go_ret
          exact ⟨g, rfl, ⟨g0, by omega, hU.out, HE.out⟩, q, rfl⟩

theorem guess_n (gx i gd n wc dc : Nat) (X D : List Int) (w : World) (h2 : 2 ≤ n) (hX : Rd w (some ⟨gx, i, none⟩) (n + 1) wc X) (hD : Rd w (some ⟨gd, 0, none⟩) n dc D) (hf : 2147483648 ≤ D.getD (n - 1) 0) (hlt : val X < val D * 4294967296) (hn : n ≤ 1000000) :
    Calls Tryd.prog 67 #[.slice (some ⟨gx, i, none⟩) (n + 1) wc, .slice (some ⟨gd, 0, none⟩) n dc] w (GuessPost (val D) (val X) w) := by
  obtain ⟨m, rfl⟩ : ∃ m, n = m + 2 := ⟨n - 2, by omega⟩
  exact guess_any gx i gd m wc dc X D w hX hD hf hlt (by omega)

end Go.Proofs.YtdimajnadmkhiaaDoor
