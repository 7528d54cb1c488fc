/-
  natural.divideLong and natural.DivMod: for every two lists of limbs the quotient and the remainder.
-/
import Derived.Test.YtdimajnadmkhiaaDoorLong2
import Derived.Test.YtdimajnadmkhiaaDoorDiv2
import Derived.Deep.RegionWith
namespace Go.Proofs.YtdimajnadmkhiaaDoor
open Go.RowKit

theorem val_high {R : List Int} (hR : Lims R) {k : Nat} (hk : k ≤ R.length) (h : val R < pw k) : val (R.drop k) = 0 ∧ val (R.take k) = val R := by
  have h1 := val_split R k
  rw [List.length_take_of_le hk] at h1
  have h2 := val_nonneg (hR.take k)
  have h3 := val_nonneg (hR.drop k)
  have h4 : val (R.drop k) = 0 := by
    rcases Int.lt_or_le (val (R.drop k)) 1 with h5 | h5
    · omega
    · have : pw k * 1 ≤ pw k * val (R.drop k) := le_mul' h5 (Int.le_of_lt (pw_pos k))
      omega
  rw [h4] at h1
  exact ⟨h4, by omega⟩
theorem val_window (R : List Int) (i n : Nat) (h : i + n + 1 ≤ R.length) : val (R.take (i + n + 1)) = val (R.take i) + pw i * val ((R.drop i).take (n + 1)) := by
  have e : R.take (i + n + 1) = R.take i ++ (R.drop i).take (n + 1) := by rw [Nat.add_assoc, List.take_add]
  rw [e, val_append, List.length_take_of_le (by omega)]
theorem cancel_lt {p a b : Int} (hp : 0 < p) (h : p * a < p * b) : a < b := Int.lt_of_mul_lt_mul_left h (Int.le_of_lt hp)

section
variable {T T' low p W V g q X : Int}
/-- The window less the guessed multiple, nothing borrowed. -/
theorem round_fit (p0 : 0 < p) (l1 : low < p) (hT : T = low + p * W) (hW : W < (g + 1) * V) (hX : X = T + V * (4294967296 * p * q)) (h : T' + p * g * V = T) :
    X = T' + V * (p * (g + 4294967296 * q)) ∧ T' < V * p := by
  constructor
  · rw [hX, ← h]; grind
  · have h1 : p * (W + 1) ≤ p * ((g + 1) * V) := le_mul' (by omega) (by omega)
    rw [Int.mul_add] at h1
    have e : p * ((g + 1) * V) = p * g * V + V * p := by grind
    omega
/-- The window less one multiple too many, and added back. -/
theorem round_back {P o T2 : Int} (p0 : 0 < p) (l0 : 0 ≤ low) (hT : T = low + p * W) (hW : (g - 1) * V ≤ W) (hX : X = T + V * (4294967296 * p * q)) (h : T' + p * g * V = T + P) (hlt : T' < P)
    (h2 : T2 + P * o = T' + p * V) (o0 : 0 ≤ o) (o1 : o ≤ 1) (hlt2 : T2 < P) : X = T2 + V * (p * (g - 1 + 4294967296 * q)) ∧ T2 < V * p := by
  have h3 : p * ((g - 1) * V) ≤ p * W := le_mul' hW (by omega)
  have e : p * ((g - 1) * V) = p * g * V - p * V := by grind
  have ho : o = 1 := by
    rcases Int.lt_or_le o 1 with h4 | h4
    · have : o = 0 := by omega
      subst this
      omega
    · omega
  subst ho
  have hT2 : T2 = T - p * ((g - 1) * V) := by omega
  constructor
  · rw [hX, hT2]; grind
  · have e2 : V * p = p * V := Int.mul_comm ..
    omega
end
theorem drop_set_val {Q : List Int} {i : Nat} {g : Int} (h : i < Q.length) : val ((Q.set i g).drop i) = g + 4294967296 * val (Q.drop (i + 1)) := by
  rw [List.drop_eq_getElem_cons (l := Q.set i g) (by simpa using h), val_cons, List.getElem_set_self, drop_set]

/-- The quotient and the remainder, from what the loop leaves. -/
theorem long_end {a b q r t : Int} (t0 : 0 < t) (h : a * t = r + b * t * q) (r0 : 0 ≤ r) (r1 : r < b * t) : q = a / b ∧ r / t = a % b := by
  have e : r = t * (a - b * q) := by grind
  have b0 : 0 < b := by
    rcases Int.lt_or_le 0 b with h1 | h1
    · exact h1
    · exfalso
      have : b * t ≤ 0 * t := le_mul h1 (by omega)
      omega
  have h2 : 0 ≤ a - b * q := by
    rcases Int.lt_or_le (a - b * q) 0 with h3 | h3
    · exfalso
      have : t * (a - b * q) ≤ t * (-1) := le_mul' (by omega) (by omega)
      omega
    · exact h3
  have h4 : a - b * q < b := by
    refine cancel_lt t0 ?_
    rw [← e, Int.mul_comm t b]; exact r1
  have h5 : a = (a - b * q) + b * q := by omega
  have hq : q = a / b := by
    rw [h5, Int.add_mul_ediv_left _ _ (by omega), Int.ediv_eq_zero_of_lt h2 h4]; omega
  refine ⟨hq, ?_⟩
  rw [e, Int.mul_ediv_cancel_left _ (by omega)]
  have := Int.mul_ediv_add_emod a b
  rw [← hq] at this
  omega

theorem guess_w (gx i gd n wl wc dc : Nat) (X D : List Int) (w : World) (hwl : wl = n + 1) (h2 : 2 ≤ n) (hX : Rd w (some ⟨gx, i, none⟩) (n + 1) wc X) (hD : Rd w (some ⟨gd, 0, none⟩) n dc D) (hf : 2147483648 ≤ D.getD (n - 1) 0) (hlt : val X < val D * 4294967296) (hn : n ≤ 1000000) :
    Calls Tryd.prog 67 #[.slice (some ⟨gx, i, none⟩) wl wc, .slice (some ⟨gd, 0, none⟩) n dc] w (GuessPost (val D) (val X) w) := by
  subst hwl
  exact guess_n gx i gd n wc dc X D w h2 hX hD hf hlt hn
theorem subMul_w (g base N C i n wl wc dc : Nat) (dA : Option Addr) (R D : List Int) (w : World) (t : Int) (hwl : wl = n + 1) (hR : Mine w base (some ⟨g, 0, none⟩) N C R) (hD : Rd w dA n dc D) (hfar : ∀ a, dA = some a → a.block ≠ g)
    (hN : i + n + 1 ≤ N) (hn : N ≤ 1000000) (hwc : n + 1 ≤ wc) (t0 : 0 ≤ t) (t1 : t < 4294967296) :
    Calls Tryd.prog 68 #[.slice (some ⟨g, i, none⟩) wl wc, .slice dA n dc, .int .u32 t] w (SubMulPost g base N C i n R D (pw i * t) w) := by
  subst hwl
  exact subMul_any g base N C i n wc dc dA R D w t hR hD hfar hN hn hwc t0 t1
theorem addBack_w (g base N C i n wl wc dc : Nat) (dA : Option Addr) (R D : List Int) (w : World) (hwl : wl = n + 1) (hR : Mine w base (some ⟨g, 0, none⟩) N C R) (hD : Rd w dA n dc D) (hfar : ∀ a, dA = some a → a.block ≠ g)
    (hN : i + n + 1 ≤ N) (hn : N ≤ 1000000) (hwc : n + 1 ≤ wc) :
    Calls Tryd.prog 69 #[.slice (some ⟨g, i, none⟩) wl wc, .slice dA n dc] w (AddBackPost g base N C i n R D w) := by
  subst hwl
  exact addBack_any g base N C i n wc dc dA R D w hR hD hfar hN hn hwc

def GivesQR (w : World) (q r : Int) (e : Ending) (w' : World) : Prop :=
  ∃ A n c Q B m d R, e = .returned (.tuple #[.slice A n c, .slice B m d]) ∧ Mine w' w.heap.size A n c Q ∧ Is Q q ∧ Mine w' w.heap.size B m d R ∧ Is R r ∧ Below w.heap.size w w'

set_option maxHeartbeats 4000000 in
theorem divideLong_any (A B : Option Addr) (la ca n cb : Nat) (L M : List Int) (w : World) (hr : Rd w A la ca L) (hs : Rd w B n cb M) (h2n : 2 ≤ n) (hM : trim M = M) (hle : n ≤ la) (hn : la ≤ 900000) :
    Calls Tryd.prog 50 #[.slice A la ca, .slice B n cb] w (GivesQR w (val L / val M) (val L % val M)) := by
  obtain ⟨i0, hi, hz0, hz1, hz2⟩ := info_parts info_limb
  -- the top limb of the divisor, and the shift
  obtain ⟨ab, rfl, habw, hcM⟩ := hs.at_ (by omega)
  have en : n - 1 + 1 = n := by omega
  have hpn : pw n = 4294967296 * pw (n - 1) := by rw [← pw_succ, en]
  have cM := hcM (n - 1) (by omega)
  have uM := hs.lims.getD (n - 1)
  have hne := last_ne hM (n - 1) (by rw [hs.len]; omega)
  have hMv := val_take_getD M (n - 1)
  rw [List.take_of_length_le (by rw [hs.len]; omega)] at hMv
  have hM0 := val_nonneg (hs.lims.take (n - 1))
  have hM1 := val_lt (hs.lims.take (n - 1))
  rw [List.length_take_of_le (by rw [hs.len]; omega)] at hM1
  obtain ⟨d, hd⟩ : ∃ d, M.getD (n - 1) 0 = d := ⟨_, rfl⟩
  rw [hd] at cM uM hne hMv
  have hbl : Lib.bitLen d.toNat ≤ 32 := Lib.bitLen_le d.toNat 32 (by decide) (by omega)
  obtain ⟨s, hsE⟩ := Int.eq_ofNat_of_zero_le (show 0 ≤ 32 - (Lib.bitLen d.toNat : Int) by omega)
  obtain ⟨s31, t0, t1⟩ := top_shift (d := d) (s := s) (by omega) uM.2 hsE.symm
  have hlz := leading_any d w uM.1 uM.2
  rw [hsE] at hlz
  have HLZ := Lib.hid hlz
  have tp : (0 : Int) < 2 ^ s := Int.pow_pos (by decide)
  -- the shifted divisor fits into its own limbs, and its top bit is set
  have hVlt : val M * 2 ^ s < pw n := by
    have h1 : val M * 2 ^ s ≤ ((d + 1) * pw (n - 1) - 1) * 2 ^ s := by
      refine le_mul ?_ (by omega)
      rw [hMv]
      have e : (d + 1) * pw (n - 1) = pw (n - 1) + pw (n - 1) * d := by grind
      omega
    have h2 : pw (n - 1) * ((d + 1) * 2 ^ s) ≤ pw (n - 1) * 4294967296 := by
      refine le_mul' ?_ (Int.le_of_lt (pw_pos _))
      have e31 : (2 : Int) ^ s * 2 ^ (32 - s) = 4294967296 := by rw [← Int.pow_add, show s + (32 - s) = 32 from by omega]; decide
      have h3 : d * 2 ^ s < 2 ^ (32 - s) * 2 ^ s := by rw [Int.mul_comm (2 ^ (32 - s)), e31]; exact t1
      have h4 : d < 2 ^ (32 - s) := Int.lt_of_mul_lt_mul_right h3 (by omega)
      have h5 : (d + 1) * 2 ^ s ≤ 2 ^ (32 - s) * 2 ^ s := le_mul (by omega) (by omega)
      rw [Int.mul_comm (2 ^ (32 - s)), e31] at h5
      exact h5
    have e2 : ((d + 1) * pw (n - 1) - 1) * 2 ^ s = pw (n - 1) * ((d + 1) * 2 ^ s) - 2 ^ s := by grind
    rw [hpn]
    omega
  have hVge : 2147483648 * pw (n - 1) ≤ val M * 2 ^ s := by
    have h1 : pw (n - 1) * d * 2 ^ s ≤ val M * 2 ^ s := le_mul (by omega) (by omega)
    have h2 : pw (n - 1) * 2147483648 ≤ pw (n - 1) * (d * 2 ^ s) := le_mul' t0 (Int.le_of_lt (pw_pos _))
    have e : pw (n - 1) * d * 2 ^ s = pw (n - 1) * (d * 2 ^ s) := Int.mul_assoc ..
    omega
  have sp : (2 : Int) ^ s ≤ 2147483648 := by
    have h2 : (2 : Nat) ^ s ≤ 2 ^ 31 := Nat.pow_le_pow_right (by decide) s31
    have h3 : (2 : Int) ^ s ≤ 2 ^ 31 := by exact_mod_cast h2
    have e31 : (2 : Int) ^ 31 = 2147483648 := by decide
    omega
  have LT := val_lt hr.lims
  rw [hr.len] at LT
  have L0 := val_nonneg hr.lims
  obtain ⟨V, hV⟩ : ∃ V, V = val M * 2 ^ s := ⟨_, rfl⟩
  obtain ⟨X, hX⟩ : ∃ X, X = val L * 2 ^ s := ⟨_, rfl⟩
  rw [← hV] at hVlt hVge
  have hXlt : X < V * pw (la - (n - 1)) := by
    have h1 : (val L + 1) * 2 ^ s ≤ pw la * 2 ^ s := le_mul (by omega) (by omega)
    have h2 : pw la * 2 ^ s ≤ pw la * 2147483648 := le_mul' sp (Int.le_of_lt (pw_pos _))
    have h3 : 2147483648 * pw (n - 1) * pw (la - (n - 1)) ≤ V * pw (la - (n - 1)) := le_mul hVge (Int.le_of_lt (pw_pos _))
    have e : 2147483648 * pw (n - 1) * pw (la - (n - 1)) = pw la * 2147483648 := by
      rw [Int.mul_assoc, ← pw_add, show n - 1 + (la - (n - 1)) = la from by omega, Int.mul_comm]
    rw [Int.add_mul] at h1
    omega
  have V0 : 0 < V := by have := pw_pos (n - 1); omega
  have HV := Lib.hid hV
  have HX := Lib.hid hX
  have HVlt := Lib.hid hVlt
  have HVge := Lib.hid hVge
  have HXlt := Lib.hid hXlt
  have HMl := Lib.hid hs.len
  have HEN := Lib.hid en
  have HPN := Lib.hid hpn
  clear en hpn hlz hcM hd hsE hMv hM0 hM1 hVlt hVge hXlt hV hX t0 t1 sp LT hM hne hbl
  go_enter Tryd.func50, Tryd.ntmps50
  go_wp2_with fail
  refine HLZ.out.mono ?_
  rintro e w' ⟨rfl, rfl⟩
  go_wp2_with fail
  refine (shiftLeft_any _ _ _ s M w hs (by omega) s31).mono ?_
  rintro e w1 ⟨gD, S, rfl, hS, hSv, hB1⟩
  have hgD := hS.lt _ rfl
  rw [← HV.out] at hSv
  obtain ⟨D, hD⟩ : ∃ D, D = S.take n := ⟨_, rfl⟩
  have hDm := hS.take (k := n) (by omega) (by omega)
  rw [← hD] at hDm
  have hDv : Hid (val D = V) := by
    show _ = _
    rw [hD, (val_high hS.lims (by rw [hS.len]; omega) (by rw [hSv]; exact HVlt.out)).2, hSv]
  have hDt : Hid (2147483648 ≤ D.getD (n - 1) 0) := by
    show _ ≤ _
    have h1 := val_take_getD D (n - 1)
    rw [List.take_of_length_le (by rw [hDm.len]; omega), hDv.out] at h1
    have h2 := val_lt (hDm.lims.take (n - 1))
    rw [List.length_take_of_le (by rw [hDm.len]; omega)] at h2
    have h3 := HVge.out
    rcases Int.lt_or_le (D.getD (n - 1) 0) 2147483648 with h4 | h4
    · exfalso
      have h5 : pw (n - 1) * (D.getD (n - 1) 0 + 1) ≤ pw (n - 1) * 2147483648 := le_mul' (by omega) (Int.le_of_lt (pw_pos _))
      rw [Int.mul_add] at h5
      omega
    · exact h4
  clear hS hSv hD cM HLZ
  have hr1 := hr.below hB1
  go_wp2_with fail
  refine (shiftLeft_any _ _ _ s L w1 hr1 (by omega) s31).mono ?_
  rintro e w2 ⟨gR, R0, rfl, hR0, hR0v, hB2⟩
  have hgR := hR0.lt _ rfl
  have hDm2 := hDm.below hB2
  rw [← HX.out] at hR0v
  have hW2 := nextB hB1 hB2
  have HR0v := Lib.hid hR0v
  clear hr1 hDm hR0v
  go_wp2_with (at_make; refine wpList_make_full _ rfl _ _ 22 rfl w2.heap.size 42 i0 (.int .u32 0) 1 Tryd.underlying22 hi hz0 hz1 _ _ _ _ (la - n + 1) rfl rfl ?b0 ?b1 ?b2 ?b3 (Nat.le_refl _) ?_)
  case b0 => go_num
  case b1 => go_num
  case b2 => rw [hz2]; omega
  case b3 => unfold maxLen; omega
  intro w3 hown hgrow
  have hQ0 := (Mine.zero hown).more hW2.size
  have hB3 := below_of_grown hgrow
  have hR3 := (hR0.below hB3).more hB1.size
  have hD3 := hDm2.below hB3
  have hW3 := nextB hW2 hB3
  have hDR : gD ≠ gR := by omega
  have hRQ : gR ≠ w2.heap.size := by omega
  have hDQ : gD ≠ w2.heap.size := by have := hB2.size; omega
  obtain ⟨gQ, hgQ⟩ : ∃ gQ, gQ = w2.heap.size := ⟨_, rfl⟩
  have hgQw : w.heap.size ≤ gQ := by have := hW2.size; omega
  rw [← hgQ] at hQ0 hRQ hDQ ⊢
  have hgRw : w.heap.size ≤ gR := by have := hB1.size; omega
  clear hown hgrow hB1 hB2 hB3 hW2 hR0 hDm2 hgR hgD hgQ hi hz0 hz1 hz2
  go_wp2
  go_loopw [10] (fun iv wr => ∃ (k : Nat) (R Q : List Int), k ≤ la - n + 1 ∧ iv = .int .i64 ((k : Int) - 1) ∧ Mine wr w.heap.size (some ⟨gR, 0, none⟩) (la + 1) (la + 1) R ∧ Mine wr w.heap.size (some ⟨gQ, 0, none⟩) (la - n + 1) (la - n + 1) Q ∧
      Mine wr w.heap.size (some ⟨gD, 0, none⟩) n (n + 1) D ∧ Hid (X = val R + V * (pw k * val (Q.drop k))) ∧ Hid (val R < V * pw k) ∧ Below w.heap.size w wr) (fun iv _ => (intOf iv + 1).toNat)
  case atStart =>
    refine ⟨la - n + 1, R0, _, Nat.le_refl _, by go_num, hR3, hQ0, hD3, ?_, ?_, hW3⟩
    · show _ = _
      rw [List.drop_eq_nil_of_le (by simp), HR0v.out]; simp [val]
    · show _ < _
      have h1 := HXlt.out
      rw [HR0v.out, show la - n + 1 = la - (n - 1) from by omega]; exact h1
  case round =>
    obtain ⟨k, R, Q, hk, rfl, hR, hQ, hDw, hE, hlt, hB⟩ := hrel
    clear hR3 hQ0 hD3 hW3 HR0v
    by_cases h0 : k = 0
    · subst h0
      have hend := long_end (a := val L) (b := val M) (q := val Q) (r := val R) tp (by
        have h1 := hE.out
        rw [HX.out, HV.out] at h1
        simp only [pw_zero, Int.one_mul, List.drop_zero] at h1
        exact h1) (val_nonneg hR.lims) (by
        have h1 := hlt.out
        rw [pw_zero, Int.mul_one, HV.out] at h1
        exact h1)
      have hRt := (val_high hR.lims (k := n) (by rw [hR.len]; omega) (by
        have h1 := hlt.out
        have h2 := HVlt.out
        rw [pw_zero, Int.mul_one] at h1
        omega)).2
      have hQI : Is (trim Q) (val L / val M) := by
        have h1 := Is.mk_trim hQ.lims
        rw [hend.1] at h1
        exact h1
      have HE := Lib.hid hend
      have HR := Lib.hid hRt
      have HQI := Lib.hid hQI
      have HST := Lib.hid (strip_any _ _ _ _ wr.drew hQ.drew.rd)
      have hRn := hR.take (k := n) (by omega) (by omega)
      have HSH := Lib.hid (shiftRight_any _ _ _ s _ wr.drew hRn.drew.rd (by omega) s31)
      have hQd := hQ.drew
      have hBd := hB.drew
      clear hE hlt hDw hR hQ hB hRn hend hRt hQI
      go_wp2
      go_region_with (first
        | (go_at_call_of 42 gQ; refine HST.out.mono ?_; rintro e w' ⟨A1, n1, c1, rfl, hS1, rfl⟩)
        | (go_at_call 70; refine HSH.out.mono ?_; rintro e w5 ⟨A2, c2, S2, rfl, hS2, hv2, hB2⟩)
        | (go_at_call 42; refine (strip_any _ _ _ _ _ hS2.rd).mono ?_; rintro e w' ⟨A3, n3, c3, rfl, hS3, rfl⟩))
      all_goals
        have hI2 := Is.mk_trim hS2.lims
        rw [hv2, HR.out, HE.out.2] at hI2
        have HI2 := Lib.hid hI2
        have hM1 := (hS1.mine hQd).below hB2
        have hM3 := (hS3.mine hS2).more hBd.size
        have hB4 := hBd.trans (hB2.mono hBd.size)
        clear hI2 hv2 hS1 hS2 hS3
        go_wp2
        go_ret2
        exact ⟨A1, n1, c1, _, A3, n3, c3, _, rfl, hM1, HQI.out, hM3, HI2.out, hB4⟩
    · obtain ⟨i, rfl⟩ : ∃ i, k = i + 1 := ⟨k - 1, by omega⟩
      have hin : i + n + 1 ≤ la + 1 := by omega
      have hRl := hR.len
      have HRl := Lib.hid hRl
      have hhigh := val_high hR.lims (k := i + n + 1) (by omega) (by
        have h1 : V * pw (i + 1) ≤ pw n * pw (i + 1) := le_mul (Int.le_of_lt HVlt.out) (Int.le_of_lt (pw_pos _))
        rw [← pw_add, show n + (i + 1) = i + n + 1 from by omega] at h1
        have := hlt.out
        omega)
      have hwin := val_window R i n (by omega)
      have hwr := hR.window (i := i) (k := n + 1) (by omega) (by omega)
      have hWlt : val ((R.drop i).take (n + 1)) < val D * 4294967296 := by
        refine cancel_lt (pw_pos i) ?_
        have h1 := val_nonneg (hR.lims.take i)
        have h2 := hlt.out
        rw [pw_succ] at h2
        have e : pw i * (val D * 4294967296) = V * (4294967296 * pw i) := by rw [hDv.out]; grind
        rw [hhigh.2] at hwin
        omega
      have hg := guess_w gR i gD n (i + n + 1 - i) (la + 1 - i) (n + 1) _ D wr (by omega) h2n hwr hDw.rd hDt.out hWlt (by omega)
      rw [hDv.out] at hg
      have HG := Lib.hid hg
      have HH := Lib.hid hhigh
      have HWI := Lib.hid hwin
      clear hg hhigh hwin hwr hWlt hRl h0
      go_wp2_with fail
      refine HG.out.mono ?_
      rintro e w' ⟨q, rfl, hnear, kk, rfl⟩
      obtain ⟨q0, q1, qlo, qhi⟩ := hnear
      have HLO := Lib.hid qlo
      have HHI := Lib.hid qhi
      have hRd := hR.drewN kk
      have hQd := hQ.drewN kk
      have hDd := hDw.drewN kk
      have hBd := drewN_below hB kk
      have hlenQ := hQ.len
      have HQl := Lib.hid hlenQ
      clear qlo qhi HG hR hQ hDw hB hlenQ
      go_wp2_with fail
      refine (subMul_w gR w.heap.size (la + 1) (la + 1) i n _ (la + 1 - i) (n + 1) _ R D _ q (by omega) hRd hDd.rd (by intro a ha; injection ha with ha; rw [← ha]; exact hDR) hin (by omega) (by omega) q0 q1).mono ?_
      rintro e w4 hpost
      rcases hpost with ⟨R', rfl, hwin'⟩ | ⟨R', rfl, hwin'⟩
      · obtain ⟨hR4, hlow, hhi, hval, hO⟩ := hwin'
        have hQ4 := hQd.other hO (by intro a a' ha ha'; injection ha with ha; injection ha' with ha'; rw [← ha, ← ha']; exact hRQ)
        have hD4 := hDd.other hO (by intro a a' ha ha'; injection ha with ha; injection ha' with ha'; rw [← ha, ← ha']; exact fun e => hDR e.symm)
        have hB4 := hBd.trans (hO.below fun a ha => by injection ha with ha; rw [← ha]; exact hgRw)
        have cQ := hQ4.cellAt (i := i) (by omega)
        have fQ := hQ4.frozenAt i
        have hQ5 := hQ4.stored i q0 q1
        have hD5 := hD4.far (p := ⟨gQ, i, none⟩) (by intro a ha; injection ha with ha; rw [← ha]; exact hDQ) (.int .u32 q)
        have hR5 := hR4.far (p := ⟨gQ, i, none⟩) (by intro a ha; injection ha with ha; rw [← ha]; exact hRQ) (.int .u32 q)
        have hfin : Hid (X = val R' + V * (pw i * val ((Q.set i q).drop i)) ∧ val R' < V * pw i) := by
          show _ ∧ _
          have h1 : val R' = val (R'.take (i + n + 1)) := by
            have h2 := val_split R' (i + n + 1)
            rw [hhi, HH.out.1] at h2
            omega
          rw [drop_set_val (by rw [HQl.out]; omega), h1]
          refine round_fit (pw_pos i) ?_ HWI.out HLO.out ?_ ?_
          · have := val_lt (hRd.lims.take i)
            rwa [List.length_take_of_le (by rw [HRl.out]; omega)] at this
          · rw [HH.out.2, hE.out, pw_succ]
          · rw [hDv.out] at hval; omega
        clear hval hhi hlow hRd hQd hDd hBd
        generalize Q.getD i 0 = y at *
        go_wp2
        go_roundw
        case rel => exact ⟨i, R', _, by omega, by go_num, hR5, hQ5, hD5, hfin.out.1, hfin.out.2, hB4.setCell hgQw _⟩
        case measure => simp [intOf] <;> omega
      · obtain ⟨hR4, hlow, hhi, hval, hO⟩ := hwin'
        have hQ4 := hQd.other hO (by intro a a' ha ha'; injection ha with ha; injection ha' with ha'; rw [← ha, ← ha']; exact hRQ)
        have hD4 := hDd.other hO (by intro a a' ha ha'; injection ha with ha; injection ha' with ha'; rw [← ha, ← ha']; exact fun e => hDR e.symm)
        have hB4 := hBd.trans (hO.below fun a ha => by injection ha with ha; rw [← ha]; exact hgRw)
        have hlow2 := val_lt (hRd.lims.take i)
        rw [List.length_take_of_le (by rw [HRl.out]; omega)] at hlow2
        have hT1 := val_lt (hR4.lims.take (i + n + 1))
        rw [List.length_take_of_le (by rw [hR4.len]; omega)] at hT1
        have hlow0 := val_nonneg (hRd.lims.take i)
        have hT0 := val_nonneg (hRd.lims.take (i + n + 1))
        have q2 : 1 ≤ q := by
          rcases Int.lt_or_le q 1 with h | h
          · exfalso
            have : q = 0 := by omega
            subst this
            simp only [Int.mul_zero, Int.zero_mul, Int.add_zero, Int.mul_one] at hval
            omega
          · exact h
        have HVAL := Lib.hid hval
        have HT1 := Lib.hid hT1
        have HL2 := Lib.hid hlow2
        have HHI2 := Lib.hid hhi
        clear hval hT1 hlow2 hlow0 hT0 hhi hlow
        go_wp2_with fail
        refine (addBack_w gR w.heap.size (la + 1) (la + 1) i n _ (la + 1 - i) (n + 1) _ R' D _ (by omega) hR4 hD4.rd (by intro a ha; injection ha with ha; rw [← ha]; exact hDR) hin (by omega) (by omega)).mono ?_
        rintro e w5 ⟨R2, o, rfl, hR5, _, hhi3, hval3, ⟨o0, o1⟩, hO5⟩
        have hQ5 := hQ4.other hO5 (by intro a a' ha ha'; injection ha with ha; injection ha' with ha'; rw [← ha, ← ha']; exact hRQ)
        have hD5 := hD4.other hO5 (by intro a a' ha ha'; injection ha with ha; injection ha' with ha'; rw [← ha, ← ha']; exact fun e => hDR e.symm)
        have hB5 := hB4.trans (hO5.below fun a ha => by injection ha with ha; rw [← ha]; exact hgRw)
        have cQ := hQ5.cellAt (i := i) (by omega)
        have fQ := hQ5.frozenAt i
        have hQ6 := hQ5.stored i (x := q - 1) (by omega) (by omega)
        have hD6 := hD5.far (p := ⟨gQ, i, none⟩) (by intro a ha; injection ha with ha; rw [← ha]; exact hDQ) (.int .u32 (q - 1))
        have hR6 := hR5.far (p := ⟨gQ, i, none⟩) (by intro a ha; injection ha with ha; rw [← ha]; exact hRQ) (.int .u32 (q - 1))
        have hfin : Hid (X = val R2 + V * (pw i * val ((Q.set i (q - 1)).drop i)) ∧ val R2 < V * pw i) := by
          show _ ∧ _
          have h1 : val R2 = val (R2.take (i + n + 1)) := by
            have h2 := val_split R2 (i + n + 1)
            rw [hhi3, HHI2.out, HH.out.1] at h2
            omega
          have h3 := val_lt (hR5.lims.take (i + n + 1))
          rw [List.length_take_of_le (by rw [hR5.len]; omega)] at h3
          rw [drop_set_val (by rw [HQl.out]; omega), h1]
          refine round_back (P := pw (i + n + 1)) (o := o) (T' := val (R'.take (i + n + 1))) (pw_pos i) (val_nonneg (hRd.lims.take i)) HWI.out HHI.out ?_ ?_ HT1.out ?_ o0 o1 h3
          · rw [HH.out.2, hE.out, pw_succ]
          · have := HVAL.out
            rw [hDv.out] at this
            omega
          · rw [hDv.out] at hval3; exact hval3
        clear hval3 hhi3 hRd hQd hDd hBd hR4 hD4 hQ4
        generalize Q.getD i 0 = y at *
        go_wp2
        go_roundw
        case rel => exact ⟨i, R2, _, by omega, by go_num, hR6, hQ6, hD6, hfin.out.1, hfin.out.2, hB5.setCell hgQw _⟩
        case measure => simp [intOf] <;> omega

theorem divMod_long (A B : Option Addr) (n c m d : Nat) (L M : List Int) (w : World) (hr : Rd w A n c L) (hs : Rd w B m d M) (hn : n ≤ 900000) (h1 : 2 ≤ (trim M).length) (h2 : (trim M).length ≤ (trim L).length) :
    Calls Tryd.prog 24 #[.slice A n c, .slice B m d] w (Gives2 w (val L / val M) (val L % val M)) := by
  have y1 := trim_length_le L
  rw [hr.len] at y1
  go_enter Tryd.func24, Tryd.ntmps24
  go_wp2_with fail
  refine (strip_any A n c L w hr).mono ?_
  rintro e w' ⟨A', n', c', rfl, hS, rfl⟩
  have hr' := hS.rd hr
  have l1 := hr'.len
  clear hS
  go_wp2_with fail
  refine (strip_any B m d M w hs).mono ?_
  rintro e w' ⟨B', m', d', rfl, hS, rfl⟩
  have hs' := hS.rd hs
  have l2 := hs'.len
  have hcap := hr'.cap
  have htop := hr'.top
  unfold maxLen at htop
  have b1 : 2 ≤ m' := by omega
  have b2 : m' ≤ n' := by omega
  have b3 : n' ≤ 900000 := by omega
  have hz : ((m' : Int) == 0) = false := by simp; omega
  have hz1 : ((m' : Int) == 1) = false := by simp; omega
  have HD := divideLong_any A' B' n' c' m' d' (trim L) (trim M) w hr' hs' b1 (trim_trim M) b2 b3
  rw [val_trim, val_trim] at HD
  have HDH := Lib.hid HD
  clear HD hS l1 l2 h1 h2 y1
  go_wp2_with fail
  refine HDH.out.mono ?_
  rintro e w1 ⟨A1, n1, c1, Q, A2, n2, c2, R, rfl, hQ, iQ, hR, iR, hB⟩
  have IQ := Lib.hid iQ
  have IR := Lib.hid iR
  clear iQ iR
  go_wp2
  go_ret3
  exact ⟨A1, n1, c1, Q, A2, n2, c2, R, rfl, hQ, IQ.out, hR, IR.out, hB⟩

/-- natural.DivMod, whatever the divisor but zero. -/
theorem divMod_any (A B : Option Addr) (n c m d : Nat) (L M : List Int) (w : World) (hr : Rd w A n c L) (hs : Rd w B m d M) (hn : n ≤ 900000) (h0 : val M ≠ 0) :
    Calls Tryd.prog 24 #[.slice A n c, .slice B m d] w (Gives2 w (val L / val M) (val L % val M)) := by
  rcases Nat.lt_or_ge (trim L).length (trim M).length with h1 | h1
  · exact divMod_less A B n c m d L M w hr hs (by omega) h1
  · match h2 : (trim M).length with
    | 0 =>
      exfalso
      have h3 : trim M = [] := List.eq_nil_of_length_eq_zero h2
      have h4 := val_trim M
      rw [h3] at h4
      exact h0 h4.symm
    | 1 => exact divMod_one A B n c m d L M w hr hs (by omega) (by omega) h2
    | k + 2 => exact divMod_long A B n c m d L M w hr hs hn (by omega) h1

end Go.Proofs.YtdimajnadmkhiaaDoor
