/-
  exactpplref01.DivMod for every divisor that is not zero; said of the numbers alone.
  exactpplref01.DivMod and GCD, by the numbers alone; their results lie in blocks of their own.
-/
import Derived.Test.YtebbnmjmjoklmaaGreatDoorRefDigit
import Derived.Test.YtebbnmjmjoklmaaGreatDoorRefDiv1
import Derived.Test.YtebbnmjmjoklmaaGreatDoorDivN
import Derived.Test.YtebbnmjmjoklmaaGreatDoorGcdN
import Derived.Deep.LoopGhost
namespace Go.Proofs.YtebbnmjmjoklmaaGreatDoor
open Go.RowKit
set_option maxRecDepth 20000

theorem refTop {M : List Int} {k s : Nat} {d : Int} (hM : Lims M) (hl : M.length = k + 1) (hd : M.getD k 0 = d) (s31 : s ≤ 31) (h1 : d * 2 ^ s < 4294967296) (h0 : 2147483648 ≤ d * 2 ^ s) :
    val M * 2 ^ s < pw (k + 1) ∧ 2147483648 * pw k ≤ val M * 2 ^ s := by
  have tp : (0 : Int) < 2 ^ s := Int.pow_pos (by decide)
  have hMv := val_take_getD M k
  rw [List.take_of_length_le (by omega), hd] at hMv
  have hM0 := val_nonneg (hM.take k)
  have hM1 := val_lt (hM.take k)
  rw [List.length_take_of_le (by omega)] at hM1
  constructor
  · have h2 : val M * 2 ^ s ≤ ((d + 1) * pw k - 1) * 2 ^ s := by
      refine le_mul ?_ (by omega)
      rw [hMv]
      have e : (d + 1) * pw k = pw k + pw k * d := by grind
      omega
    have h3 : pw k * ((d + 1) * 2 ^ s) ≤ pw k * 4294967296 := by
      refine le_mul' ?_ (Int.le_of_lt (pw_pos _))
      have e31 : (2 : Int) ^ s * 2 ^ (32 - s) = 4294967296 := by rw [← Int.pow_add, show s + (32 - s) = 32 from by omega]; decide
      have h3 : d * 2 ^ s < 2 ^ (32 - s) * 2 ^ s := by rw [Int.mul_comm (2 ^ (32 - s)), e31]; exact h1
      have h4 : d < 2 ^ (32 - s) := Int.lt_of_mul_lt_mul_right h3 (by omega)
      have h5 : (d + 1) * 2 ^ s ≤ 2 ^ (32 - s) * 2 ^ s := le_mul (by omega) (by omega)
      rw [Int.mul_comm (2 ^ (32 - s)), e31] at h5
      exact h5
    have e2 : ((d + 1) * pw k - 1) * 2 ^ s = pw k * ((d + 1) * 2 ^ s) - 2 ^ s := by grind
    rw [pw_succ]
    omega
  · have h2 : pw k * d * 2 ^ s ≤ val M * 2 ^ s := le_mul (by omega) (by omega)
    have h3 : pw k * 2147483648 ≤ pw k * (d * 2 ^ s) := le_mul' h0 (Int.le_of_lt (pw_pos _))
    have e : pw k * d * 2 ^ s = pw k * (d * 2 ^ s) := Int.mul_assoc ..
    omega

theorem refX_lt {L : List Int} {la k s : Nat} {V : Int} (hL : Lims L) (hl : L.length = la) (hle : k + 1 ≤ la) (s31 : s ≤ 31) (hV : 2147483648 * pw k ≤ V) : val L * 2 ^ s < V * pw (la - k) := by
  have tp : (0 : Int) < 2 ^ s := Int.pow_pos (by decide)
  have sp : (2 : Int) ^ s ≤ 2147483648 := by
    have h2 : (2 : Nat) ^ s ≤ 2 ^ 31 := Nat.pow_le_pow_right (by decide) s31
    have h3 : (2 : Int) ^ s ≤ 2 ^ 31 := by exact_mod_cast h2
    have e31 : (2 : Int) ^ 31 = 2147483648 := by decide
    omega
  have LT := val_lt hL
  rw [hl] at LT
  have h1 : (val L + 1) * 2 ^ s ≤ pw la * 2 ^ s := le_mul (by omega) (by omega)
  have h2 : pw la * 2 ^ s ≤ pw la * 2147483648 := le_mul' sp (Int.le_of_lt (pw_pos _))
  have h3 : 2147483648 * pw k * pw (la - k) ≤ V * pw (la - k) := le_mul hV (Int.le_of_lt (pw_pos _))
  have e : 2147483648 * pw k * pw (la - k) = pw la * 2147483648 := by
    rw [Int.mul_assoc, ← pw_add, show k + (la - k) = la from by omega, Int.mul_comm]
  rw [Int.add_mul] at h1
  omega

theorem Is.len_of {D : List Int} {V : Int} {k : Nat} (h : Is D V) (h1 : V < pw (k + 1)) (h0 : 2147483648 * pw k ≤ V) : D.length = k + 1 := by
  have p := pw_pos k
  have hlt := h.lt
  rcases Nat.lt_or_ge D.length (k + 1) with h2 | h2
  · exfalso
    have := pw_mono (m := D.length) (n := k) (by omega)
    omega
  · rcases Nat.lt_or_ge (k + 1) D.length with h3 | h3
    · exfalso
      obtain ⟨j, hj⟩ : ∃ j, D.length = j + 1 := ⟨D.length - 1, by omega⟩
      have h4 := h.ge hj
      have := pw_mono (m := k + 1) (n := j) (by omega)
      omega
    · omega

theorem digit_step {X rR rR' V p T T' q v : Int} (hX : X = rR + V * (4294967296 * p * v)) (hR : rR = T) (hR' : rR' = T') (hT : T = T' + V * (p * q)) : X = rR' + V * (p * (q + 4294967296 * v)) := by
  rw [hX, hR, hR', hT]; grind

set_option maxHeartbeats 4000000 in
theorem refDivMod_long (A B : Option Addr) (n c m d : Nat) (L M : List Int) (w : World) (hr : Rd w A n c L) (hs : Rd w B m d M) (hn : n ≤ 800000) (hm : m ≤ 800000) (m1 : 4294967296 ≤ val M) :
    Calls Tryz.prog 80 #[.slice A n c, .slice B m d] w (Gives2 w (val L / val M) (val L % val M)) := by
  have v0 := val_nonneg hr.lims
  obtain ⟨i0, hi, hz0, hz1, hz2⟩ := info_parts info_limb
  go_enter Tryz.func80, Tryz.ntmps80
  go_wp2_with fail
  refine (refTrim_any A n c L w hr (by omega)).mono ?_
  rintro e w1 ⟨A1, n1, c1, L1, rfl, hA1, hI, hB1⟩
  have HI := Lib.hid hI
  clear hI
  go_wp2_with fail
  refine (refTrim_any B m d M w1 (hs.below hB1) (by omega)).mono ?_
  rintro e w2 ⟨B1, k1, d1, M1, rfl, hA2, hJ, hB2⟩
  have hn1 : n1 ≤ 800000 := by
    have h2 := hA1.len
    have h3 := hr.len
    have h4 := HI.out.unique (Is.mk_trim hr.lims)
    have h5 := trim_length_le L
    rw [← h4] at h5
    omega
  have hm1 : k1 ≤ 800000 := by
    have h2 := hA2.len
    have h3 := hs.len
    have h4 := hJ.unique (Is.mk_trim hs.lims)
    have h5 := trim_length_le M
    rw [← h4] at h5
    omega
  have hk2 : 2 ≤ k1 := by
    have h1 := hJ.lt
    rw [hA2.len] at h1
    rcases Nat.lt_or_ge k1 2 with h | h
    · exfalso
      have h2 := pw_mono (m := k1) (n := 1) (by omega)
      have h3 : pw 1 = 4294967296 := by decide
      omega
    · exact h
  obtain ⟨k, rfl⟩ : ∃ k, k1 = k + 2 := ⟨k1 - 2, by omega⟩
  have HJ := Lib.hid hJ
  have HA1 := hA1.below hB2
  have hBB := nextB hB1 hB2
  have hs1 := hB1.size
  have CM := Lib.hid (refCmp_any _ _ _ _ _ _ _ _ w2 HA1.rd hA2.rd (by omega) (by omega))
  clear hJ hA1 hr hs
  go_wp2_with fail
  refine CM.out.mono ?_
  rintro e w3 ⟨rfl, hB3⟩
  rw [HI.out.eq, HJ.out.eq]
  have HA3 := HA1.below hB3
  have HB3 := (hA2.below hB3).more hs1
  have hB03 := nextB hBB hB3
  clear HA1 hA2 hB1 hB2 hBB hB3 CM
  by_cases hlt : val L < val M
  · have hE := cmpZ_lt hlt
    rw [hE]
    have HQ : Hid (0 = val L / val M) := (Int.ediv_eq_zero_of_lt v0 hlt).symm
    have HR : Hid (val L = val L % val M) := (Int.emod_eq_of_lt v0 hlt).symm
    clear hE
    go_wp2
    go_ret3
    refine ⟨none, 0, 0, [], A1, n1, c1, L1, rfl, Mine.nil _ _, ?_, HA3, ?_, hB03⟩
    · rw [← HQ.out]; exact Is.zero
    · rw [← HR.out]; exact HI.out
  · obtain ⟨z, hz, z0⟩ : ∃ z, cmpZ (val L) (val M) = z ∧ 0 ≤ z := by
      unfold cmpZ
      rw [if_neg hlt]
      split
      · exact ⟨1, rfl, by decide⟩
      · exact ⟨0, rfl, by decide⟩
    rw [hz]
    clear hz
    have hkn : k + 2 ≤ n1 := by
      rcases Nat.lt_or_ge n1 (k + 2) with h | h
      · exfalso
        have := HI.out.lt_of_length HJ.out (by rw [HA3.len, HB3.len]; exact h)
        omega
      · exact h
    obtain ⟨gA, rfl, gA0, gA1⟩ := HA3.form (by omega)
    obtain ⟨gB, rfl, gB0, gB1⟩ := HB3.form (by omega)
    have cB := HB3.cellAt (i := k + 1) (by omega)
    have uB := HB3.lims.getD (k + 1)
    have hne := last_ne HJ.out.nrm (k + 1) (by rw [HB3.len])
    obtain ⟨t, ht⟩ : ∃ t, M1.getD (k + 1) 0 = t := ⟨_, rfl⟩
    rw [ht] at cB uB hne
    have HT := Lib.hid ht
    have hne2 : 1 ≤ t := by omega
    clear ht hne
    have n1' : ((k : Int) + 1).toNat = k + 1 := by omega
    go_wp2_with fail
    go_loopw [9] (fun sv wr => ∃ s : Nat, s ≤ 31 ∧ sv = .int .i64 s ∧ t * 2 ^ s < 4294967296 ∧ wr = w3) (fun sv _ => 32 - (intOf sv).toNat)
    case atStart => exact ⟨0, by omega, rfl, by simpa using uB.2, rfl⟩
    case round =>
      obtain ⟨s, hs31, rfl, hts, rfl⟩ := hrel
      have htp : (0 : Int) < 2 ^ s := Int.pow_pos (by decide)
      have hts0 : 0 ≤ t * 2 ^ s := Int.mul_nonneg (by omega) (by omega)
      by_cases hgo : t * 2 ^ s < 2147483648
      · have hs30 : s < 31 := by
          rcases Nat.lt_or_ge s 31 with h | h
          · exact h
          · exfalso
            obtain rfl : s = 31 := by omega
            have : (2 : Int) ^ 31 = 2147483648 := by decide
            rw [this] at hgo
            omega
        have h2 : t * 2 ^ (s + 1) < 4294967296 := by rw [Int.pow_succ, ← Int.mul_assoc]; omega
        go_wp2
        go_roundw
        case rel => exact ⟨s + 1, by omega, by go_num, h2, by first | rfl | trivial⟩
        case measure => simp [intOf] <;> omega
      · obtain ⟨hVlt, hVge⟩ := refTop (M := M1) (k := k + 1) (s := s) (d := t) HB3.lims HB3.len HT.out hs31 hts (by omega)
        rw [HJ.out.eq] at hVlt hVge
        have hXlt := refX_lt (L := L1) (la := n1) (k := k + 1) (s := s) HA3.lims HA3.len hkn hs31 hVge
        rw [HI.out.eq] at hXlt
        have V0 : 0 < val M * 2 ^ s := by have := pw_pos (k + 1); omega
        have SL := Lib.hid (refShift_any _ _ _ s _ wr HA3.rd (by omega) hs31)
        rw [HI.out.eq] at SL
        have HVlt := Lib.hid hVlt
        have HVge := Lib.hid hVge
        have HXlt := Lib.hid hXlt
        have HB3' := Lib.hid HB3
        clear hVlt hVge hXlt hlt z0 HA3 HB3
        go_wp2_with fail
        refine SL.out.mono ?_
        rintro e w4 ⟨AR, cR, R0, rfl, hR0, hR0v, hB4⟩
        clear SL cB hgo hts hts0
        obtain ⟨gR, rfl, gR0, gR1⟩ := hR0.form (by omega)
        have SM := refShift_any _ _ _ s _ w4 (HB3'.out.below hB4).rd (by omega) hs31
        rw [HJ.out.eq] at SM
        have HSM := Lib.hid SM
        have HR0v := Lib.hid hR0v
        clear SM HB3' hR0v
        go_wp2_with fail
        refine HSM.out.mono ?_
        rintro e w5 ⟨AS, cS, S0, rfl, hS0, hS0v, hB5⟩
        have TS := Lib.hid (refTrim_any _ _ _ _ w5 hS0.rd (by omega))
        rw [hS0v] at TS
        have HR5 := hR0.below hB5
        have hB35 := nextB hB4 hB5
        clear HSM hS0v hR0
        have hs5 := hB5.size
        go_wp2_with fail
        refine TS.out.mono ?_
        rintro e w6 ⟨AD, nD, cD, D, rfl, hD, hID, hB6⟩
        have hDl := hID.len_of HVlt.out HVge.out
        obtain rfl : nD = k + 2 := by rw [← hD.len, hDl]
        obtain ⟨gD, rfl, gD0, gD1⟩ := hD.form (by omega)
        have hDt : Hid (2147483648 ≤ D.getD (k + 1) 0) := by
          show _ ≤ _
          have h1 := val_take_getD D (k + 1)
          rw [List.take_of_length_le (by rw [hDl]; omega), hID.eq] at h1
          have h2 := val_lt (hD.lims.take (k + 1))
          rw [List.length_take_of_le (by rw [hDl]; omega)] at h2
          have h3 := HVge.out
          rcases Int.lt_or_le (D.getD (k + 1) 0) 2147483648 with h4 | h4
          · exfalso
            have h5 : pw (k + 1) * (D.getD (k + 1) 0 + 1) ≤ pw (k + 1) * 2147483648 := le_mul' (by omega) (Int.le_of_lt (pw_pos _))
            rw [Int.mul_add] at h5
            omega
          · exact h4
        have hDv : Hid (val D = val M * 2 ^ s) := hID.eq
        have HR6 := (HR5.below hB6).more (show w.heap.size ≤ wr.heap.size from hB03.size)
        have hD6 := hD.more (show w.heap.size ≤ w5.heap.size by have := hB03.size; have := hB4.size; omega)
        have hB36 := nextB hB35 hB6
        have hB06 := nextB hB03 hB36
        have hs6 := hB6.size
        have hDR : gD ≠ gR := by omega
        clear HR5 hD hS0 hID hDl hB35 hB4 hB5 hB6 hB36 hB03 TS
        go_wp2_with (at_make; refine wpList_make_full _ rfl _ _ 40 rfl w6.heap.size 71 i0 (.int .u32 0) 1 Tryz.underlying40 hi hz0 hz1 _ _ _ _ (n1 - (k + 2) + 1) rfl rfl ?b0 ?b1 ?b2 ?b3 (Nat.le_refl _) ?_)
        case b0 => go_num
        case b1 => go_num
        case b2 => rw [hz2]; omega
        case b3 => unfold maxLen; omega
        intro w7 hown hgrow
        have hQ0 := (Mine.zero hown).more hB06.size
        have hB7 := below_of_grown hgrow
        have HR7 := HR6.below hB7
        have HD7 := hD6.below hB7
        have hB07 := nextB hB06 hB7
        obtain ⟨gQ, hgQ⟩ : ∃ gQ, gQ = w6.heap.size := ⟨_, rfl⟩
        have hRQ : gR ≠ gQ := by omega
        have hDQ : gD ≠ gQ := by omega
        have hgRw : w.heap.size ≤ gR := (HR7.lt _ rfl).1
        have hgDw : w.heap.size ≤ gD := (HD7.lt _ rfl).1
        have hgQw : w.heap.size ≤ gQ := by rw [hgQ]; exact hB06.size
        rw [← hgQ] at hQ0 ⊢
        have HGQ := Lib.hid hgQ
        obtain ⟨V, hV⟩ : ∃ V, V = val M * 2 ^ s := ⟨_, rfl⟩
        obtain ⟨X, hX⟩ : ∃ X, X = val L * 2 ^ s := ⟨_, rfl⟩
        rw [← hV] at HVlt HVge hDv V0
        rw [← hX] at HR0v
        rw [← hX, ← hV] at HXlt
        have HX := Lib.hid hX
        have HV := Lib.hid hV
        clear hown hgrow hgQ HR6 hD6 hB7 hB06 hX hV gA0 gA1 gB0 gB1 gR0 gR1 gD0 gD1 hs5 hs6 n1'
        go_wp2
        go_loopw [13] (fun iv wr => ∃ (j : Nat) (R Q : List Int), j ≤ n1 - (k + 2) + 1 ∧ iv = .int .i64 ((j : Int) - 1) ∧ Mine wr w.heap.size (some ⟨gR, 0, none⟩) (n1 + 1) cR R ∧ Mine wr w.heap.size (some ⟨gQ, 0, none⟩) (n1 - (k + 2) + 1) (n1 - (k + 2) + 1) Q ∧
          Mine wr w.heap.size (some ⟨gD, 0, none⟩) (k + 2) cD D ∧ Hid (X = val R + V * (pw j * val (Q.drop j))) ∧ Hid (val R < V * pw j) ∧ Below w.heap.size w wr) (fun iv _ => (intOf iv + 1).toNat)
        case atStart =>
          refine ⟨n1 - (k + 2) + 1, R0, _, Nat.le_refl _, by go_num, HR7, hQ0, HD7, ?_, ?_, hB07⟩
          · show _ = _
            rw [List.drop_eq_nil_of_le (by simp), HR0v.out]; simp [val]
          · show _ < _
            have h1 := HXlt.out
            rw [HR0v.out, show n1 - (k + 2) + 1 = n1 - (k + 1) from by omega]; exact h1
        case round =>
          obtain ⟨j, R, Q, hj, rfl, hR, hQ, hDw, hE, hlt, hB⟩ := hrel
          clear HR7 hQ0 HD7 hB07 HR0v
          by_cases h0 : j = 0
          · subst h0
            have tp : (0 : Int) < 2 ^ s := Int.pow_pos (by decide)
            have hend := long_end (a := val L) (b := val M) (q := val Q) (r := val R) tp (by
              have h1 := hE.out
              rw [HX.out, HV.out] at h1
              simp only [pw_zero, Int.one_mul, List.drop_zero] at h1
              exact h1) (val_nonneg hR.lims) (by
              have h1 := hlt.out
              rw [pw_zero, Int.mul_one, HV.out] at h1
              exact h1)
            have HE := Lib.hid hend
            have TQ := refTrim_any _ _ _ _ wr hQ.rd (by omega)
            have hv : val Q = val L / val M := hend.1
            rw [hv] at TQ
            have HTQ := Lib.hid TQ
            have hszw := hB.size
            clear hE hlt hDw hend TQ hv tp
            go_wp2_with fail
            refine HTQ.out.mono ?_
            rintro e w8 ⟨A8, n8, c8, Q8, rfl, hQ8, IQ8, hB8⟩
            have UR := refUnshift_any _ _ _ s _ w8 (hR.below hB8).rd (by omega) hs31
            rw [HE.out.2] at UR
            have HUR := Lib.hid UR
            have HIQ := Lib.hid IQ8
            have hs8 := hB8.size
            clear UR IQ8 HTQ hQ hR
            go_wp2_with fail
            refine HUR.out.mono ?_
            rintro e w9 ⟨A9, n9, c9, R9, rfl, hR9, IR9, hB9⟩
            have HIR := Lib.hid IR9
            have hB89 := nextB hB8 hB9
            have hQ9 := (hQ8.below hB9).more hszw
            have hR99 := hR9.more (show w.heap.size ≤ w8.heap.size by omega)
            clear IR9 hQ8 hR9 HUR hs8
            go_wp2
            go_ret3
            exact ⟨A8, n8, c8, Q8, A9, n9, c9, R9, rfl, hQ9, HIQ.out, hR99, HIR.out, nextB hB hB89⟩
          · obtain ⟨i, rfl⟩ : ∃ i, j = i + 1 := ⟨j - 1, by omega⟩
            have hin : i + (k + 2) + 1 ≤ n1 + 1 := by omega
            have hRl := hR.len
            have hhigh := val_high hR.lims (k := i + (k + 3)) (by omega) (by
              have h1 : V * pw (i + 1) ≤ pw (k + 1 + 1) * pw (i + 1) := le_mul (Int.le_of_lt HVlt.out) (Int.le_of_lt (pw_pos _))
              rw [← pw_add, show k + 1 + 1 + (i + 1) = i + (k + 3) from by omega] at h1
              have := hlt.out
              omega)
            have hwin := val_window R i (k + 2) (by omega)
            have hWlt : val ((R.drop i).take (k + 3)) < val D * 4294967296 := by
              refine cancel_lt (pw_pos i) ?_
              have h1 := val_nonneg (hR.lims.take i)
              have h2 := hlt.out
              rw [pw_succ] at h2
              have e : pw i * (val D * 4294967296) = V * (4294967296 * pw i) := by rw [hDv.out]; grind
              have e2 : i + (k + 2) + 1 = i + (k + 3) := by omega
              rw [e2, hhigh.2] at hwin
              have e3 : k + 2 + 1 = k + 3 := by omega
              rw [e3] at hwin
              omega
            have DG := refDigit_any gR gD w.heap.size (n1 + 1) cR k cD i R D wr hR hDw.rd hDR (by omega) (by omega) hDt.out hWlt
            rw [hDv.out] at DG
            have HDG := Lib.hid DG
            have HH := Lib.hid hhigh
            have HRl := Lib.hid hRl
            clear hhigh hwin hWlt hRl h0 DG hR
            go_wp2_with fail
            refine HDG.out.mono ?_
            rintro e w8 ⟨q, R', rfl, ⟨q0, q1⟩, hR', hdr, hT, hTl, hO⟩
            have hQ8 : Mine w8 w.heap.size (some ⟨gQ, 0, none⟩) (n1 - (k + 2) + 1) (n1 - (k + 2) + 1) Q := hQ.other hO (by rintro a a' h1 h2; injection h1 with h1; injection h2 with h2; rw [← h1, ← h2]; exact hRQ)
            have hD8 : Mine w8 w.heap.size (some ⟨gD, 0, none⟩) (k + 2) cD D := hDw.other hO (by rintro a a' h1 h2; injection h1 with h1; injection h2 with h2; rw [← h1, ← h2]; exact fun e => hDR e.symm)
            have hB8 := hB.trans (hO.below (B := w.heap.size) (by rintro a h1; injection h1 with h1; rw [← h1]; exact hgRw))
            have hval : val R' = val (R'.take (i + (k + 3))) := by
              have h1 := val_split R' (i + (k + 3))
              rw [hdr, HH.out.1] at h1
              omega
            have HE2 : Hid (X = val R' + V * (pw i * val ((Q.set i q).drop i))) := by
              show _ = _
              rw [drop_set_val (by rw [hQ.len]; omega)]
              have h1 := hE.out
              rw [pw_succ] at h1
              exact digit_step h1 HH.out.2.symm hval hT
            have HL2 : Hid (val R' < V * pw i) := by show _ < _; rw [hval]; exact hTl
            have cQ := hQ8.cellAt (i := i) (by omega)
            have fQ := hQ8.frozenAt i
            have hQ9 := hQ8.stored i q0 q1
            have hR9 := hR'.far (p := ⟨gQ, i, none⟩) (by rintro a h1; injection h1 with h1; rw [← h1]; exact hRQ) (.int .u32 q)
            have hD9 := hD8.far (p := ⟨gQ, i, none⟩) (by rintro a h1; injection h1 with h1; rw [← h1]; exact hDQ) (.int .u32 q)
            have hB9 := hB8.setCell (p := ⟨gQ, i, none⟩) hgQw (.int .u32 q)
            generalize Q.getD i 0 = y at *
            clear hval hT hTl hdr hO HDG hQ hDw hE hlt hB hQ8 hD8 hR'
            go_wp2
            go_roundw
            case rel => exact ⟨i, R', Q.set i q, by omega, by go_num, hR9, hQ9, hD9, HE2.out, HL2.out, hB9⟩
            case measure => simp [intOf] <;> omega

end Go.Proofs.YtebbnmjmjoklmaaGreatDoor

namespace Go.Proofs.YtebbnmjmjoklmaaGreatDoor
open Go.RowKit
set_option maxRecDepth 20000

theorem refDivMod_any (A B : Option Addr) (n c m d : Nat) (L M : List Int) (w : World) (hr : Rd w A n c L) (hs : Rd w B m d M) (hn : n ≤ 800000) (hm : m ≤ 800000) (m0 : 0 < val M) :
    Calls Tryz.prog 80 #[.slice A n c, .slice B m d] w (Gives2 w (val L / val M) (val L % val M)) := by
  by_cases h : val M < 4294967296
  · exact refDivMod_one A B n c m d L M w hr hs (by omega) (by omega) m0 h
  · exact refDivMod_long A B n c m d L M w hr hs hn hm (by omega)
theorem refDivMod_n {w : World} {A B : Option Addr} {n c m d : Nat} {x y : Int} (hx : Num w A n c x) (hy : Num w B m d y) (hn : n ≤ 800000) (hm : m ≤ 800000) (y0 : 0 < y) :
    Calls Tryz.prog 80 #[.slice A n c, .slice B m d] w (Gives2N w (x / y) (x % y)) := by
  obtain ⟨L, h1, rfl⟩ := hx
  obtain ⟨M, h2, rfl⟩ := hy
  refine (refDivMod_any A B n c m d L M w h1 h2 hn hm y0).mono fun e w' h => ?_
  obtain ⟨A, n, c, Q, B, m, d, R, he, hQ, iQ, hR, iR, hB⟩ := h
  exact ⟨A, n, c, B, m, d, he, Nrm.of_mine hQ iQ, Nrm.of_mine hR iR, hB⟩

theorem refDivMod_zero (A B : Option Addr) (n c m d : Nat) (L M : List Int) (w : World) (hr : Rd w A n c L) (hs : Rd w B m d M) (hn : n ≤ 800000) (hm : m ≤ 800000) (m0 : val M = 0) :
    Calls Tryz.prog 80 #[.slice A n c, .slice B m d] w fun e w' => e = .returned (.tuple #[.slice none 0 0, .slice none 0 0, .int .i64 3]) ∧ Below w.heap.size w w' := by
  go_enter Tryz.func80, Tryz.ntmps80
  go_wp2_with fail
  refine (refTrim_any A n c L w hr (by omega)).mono ?_
  rintro e w1 ⟨A1, n1, c1, L1, rfl, hA1, hI, hB1⟩
  clear hI hA1
  go_wp2_with fail
  refine (refTrim_any B m d M w1 (hs.below hB1) (by omega)).mono ?_
  rintro e w2 ⟨B1, k1, d1, M1, rfl, hA2, hJ, hB2⟩
  obtain rfl : k1 = 0 := by
    rw [m0] at hJ
    exact (Nrm.of_mine hA2 hJ).zero_len
  have hBB := nextB hB1 hB2
  clear hJ hA2 hr hs hB1 hB2
  go_wp2
  go_ret3
  exact ⟨rfl, hBB⟩

theorem gcd_step {x y G : Int} (h : (Int.gcd x y : Int) = G) : (Int.gcd y (x % y) : Int) = G := by
  rw [← h, gcd_rest]

theorem trim_len {L : List Int} {m : Nat} (h : L.length ≤ m) : (trim L).length ≤ m := Nat.le_trans (trim_length_le L) h

set_option maxHeartbeats 1000000 in
theorem refGcd_any (A B : Option Addr) (n c m d : Nat) (L M : List Int) (w : World) (hr : Rd w A n c L) (hs : Rd w B m d M) (hn : n ≤ 800000) (hm : m ≤ 800000) (G : Int) (hG : (Int.gcd (val L) (val M) : Int) = G) :
    Calls Tryz.prog 79 #[.slice A n c, .slice B m d] w (Gives w G) := by
  have HG := Lib.hid hG
  clear hG
  go_enter Tryz.func79, Tryz.ntmps79
  go_wp2_with fail
  refine (refTrim_any A n c L w hr (by omega)).mono ?_
  rintro e w1 ⟨A1, n1, c1, L1, rfl, hA1, hI, hB1⟩
  have HI := Lib.hid hI
  have hn1 : n1 ≤ 800000 := by
    have h2 := hA1.len
    have h3 := hr.len
    have h4 := hI.unique (Is.mk_trim hr.lims)
    have h5 := trim_length_le L
    rw [← h4] at h5
    omega
  clear hI
  go_wp2_with fail
  refine (refTrim_any B m d M w1 (hs.below hB1) (by omega)).mono ?_
  rintro e w2 ⟨B1, m1, d1, M1, rfl, hA2, hJ, hB2⟩
  have hm1 : m1 ≤ 800000 := by
    have h2 := hA2.len
    have h3 := hs.len
    have h4 := hJ.unique (Is.mk_trim hs.lims)
    have h5 := trim_length_le M
    rw [← h4] at h5
    omega
  obtain ⟨y, hy⟩ := Int.eq_ofNat_of_zero_le (val_nonneg hs.lims)
  have hJ' : Is M1 (y : Int) := by rw [← hy]; exact hJ
  have HJ := Lib.hid hJ'
  have hA3 := hA1.below hB2
  have hA4 := hA2.more hB1.size
  have hBB := nextB hB1 hB2
  have HG2 : Hid ((Int.gcd (val L) (y : Int) : Int) = G) := by show _ = _; rw [← hy]; exact HG.out
  clear hJ hJ' hA1 hA2 hB1 hB2 hr hs hy
  go_wp2
  go_loopg [0, 1] y (fun k av bv wr => ∃ (A : Option Addr) (n c : Nat) (L : List Int) (B : Option Addr) (m d : Nat) (M : List Int) (x : Int), av = .slice A n c ∧ bv = .slice B m d ∧ n ≤ 800000 ∧ m ≤ 800000 ∧ Mine wr w.heap.size A n c L ∧ Hid (Is L x) ∧ Mine wr w.heap.size B m d M ∧ Hid (Is M (k : Int)) ∧
    Hid ((Int.gcd x (k : Int) : Int) = G) ∧ Below w.heap.size w wr)
  case atStart => exact ⟨A1, n1, c1, L1, B1, m1, d1, M1, _, rfl, rfl, hn1, hm1, hA3, HI.out, hA4, HJ.out, HG2.out, hBB⟩
  case round =>
    obtain ⟨A2, n2, c2, L2, B2, m2, d2, M2, x, rfl, rfl, hn2, hm2, hL, hIL, hM, hIM, hE, hB⟩ := hrel
    clear hA3 hA4 hBB HI HJ HG2
    have hcap := hM.rd.cap
    by_cases h0 : m2 = 0
    · have hk : (gk : Int) = 0 := by
        subst h0
        have : M2 = [] := List.eq_nil_of_length_eq_zero hM.len
        rw [this] at hIM
        exact hIM.out.eq_of_nil
      have hx0 := hIL.out.nonneg
      have hF : Hid (Is L2 G) := by
        have h1 := hE.out
        rw [hk, Int.gcd_zero_right, Int.ofNat_natAbs_of_nonneg hx0] at h1
        rw [← h1]; exact hIL.out
      subst h0
      clear hk hM
      go_wp2
      go_ret
      exact ⟨A2, n2, c2, L2, rfl, hL, hF.out, hB⟩
    · have hkp : 0 < (gk : Int) := by
        obtain ⟨j, hj⟩ : ∃ j, M2.length = j + 1 := ⟨M2.length - 1, by have := hM.len; omega⟩
        have := hIM.out.ge hj
        have := pw_pos j
        omega
      have DM := refDivMod_any A2 B2 n2 c2 m2 d2 L2 M2 wr hL.rd hM.rd hn2 hm2 (by rw [hIM.out.eq]; exact hkp)
      rw [hIL.out.eq, hIM.out.eq] at DM
      have HDM := Lib.hid DM
      obtain ⟨r, hrr⟩ := Int.eq_ofNat_of_zero_le (Int.emod_nonneg x (show (gk : Int) ≠ 0 by omega))
      have hrlt := Int.emod_lt_of_pos x hkp
      have hlt2 := hIM.out.lt
      rw [hM.len] at hlt2
      have hstep := gcd_step hE.out
      rw [hrr] at hrlt hstep
      have HRR := Lib.hid hrr
      have HST := Lib.hid hstep
      have hrk : r < gk := by omega
      have hrp : (r : Int) < pw m2 := by omega
      have HRP := Lib.hid hrp
      have hbs := hB.size
      clear DM hrr hstep hrlt hlt2 hkp hL hIL hE hrp
      go_wp2_with fail
      refine HDM.out.mono ?_
      rintro e w3 ⟨A4, n4, c4, Q, B4, m4, d4, R, rfl, hQ, iQ, hR, iR, hB3⟩
      rw [HRR.out] at iR
      have hm4 : m4 ≤ m2 := (Nrm.of_mine hR iR).short HRP.out
      have HIR := Lib.hid iR
      have hM3 := hM.below hB3
      have hR3 := hR.more hbs
      have hB4 := nextB hB hB3
      clear iR iQ hQ hM hR HDM hB3 hB
      go_wp2
      go_roundg r
      case measure => omega
      case rel => exact ⟨B2, m2, d2, M2, B4, m4, d4, R, _, rfl, rfl, hm2, by omega, hM3, hIM.out, hR3, HIR.out, HST.out, hB4⟩

theorem refGcd_n {w : World} {A B : Option Addr} {n c m d : Nat} {x y : Int} (hx : Num w A n c x) (hy : Num w B m d y) (hn : n ≤ 800000) (hm : m ≤ 800000) :
    Calls Tryz.prog 79 #[.slice A n c, .slice B m d] w (GivesN w (Int.gcd x y : Int)) := by
  obtain ⟨L, h1, rfl⟩ := hx
  obtain ⟨M, h2, rfl⟩ := hy
  exact (refGcd_any A B n c m d L M w h1 h2 hn hm _ rfl).mono fun _ _ h => h.n

end Go.Proofs.YtebbnmjmjoklmaaGreatDoor
