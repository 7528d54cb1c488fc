/-
  natural.Sub: for every two lists of limbs it returns the limbs of the difference, in memory of its own, or ErrRange if the first number is less.
-/
import Derived.Test.YtdimajnadmkhiaaDoorCmp
namespace Go.Proofs.YtdimajnadmkhiaaDoor
open Go.RowKit

theorem sub_less (A B : Option Addr) (n c m d : Nat) (L M : List Int) (w : World) (hr : Rd w A n c L) (hs : Rd w B m d M) (hlt : val L < val M) :
    Calls Tryd.prog 29 #[.slice A n c, .slice B m d] w fun e w' => e = .returned (.tuple #[.slice none 0 0, .int .i64 1]) ∧ ∃ k, w' = w.drewN k := by
  have hC := cmp_any A B n c m d L M w hr hs
  unfold SameNum at hC
  rw [cmpZ_lt hlt] at hC
  have HC := Lib.hid hC
  clear hC
  go_enter Tryd.func29, Tryd.ntmps29
  go_wp2_with fail
  refine HC.out.mono ?_
  rintro e w' ⟨rfl, k0, rfl⟩
  go_wp2
  go_ret2
  exact ⟨rfl, _, rfl⟩

set_option maxHeartbeats 1000000 in
theorem sub_any (A B : Option Addr) (n c m d : Nat) (L M : List Int) (w : World) (hr : Rd w A n c L) (hs : Rd w B m d M) (hn : n ≤ 1000000) (hle : val M ≤ val L) :
    Calls Tryd.prog 29 #[.slice A n c, .slice B m d] w (GivesOk w (val L - val M)) := by
  have hz : 0 ≤ cmpZ (val L) (val M) := by unfold cmpZ; split <;> (try split) <;> omega
  have HC := Lib.hid (cmp_any A B n c m d L M w hr hs)
  obtain ⟨z, hz'⟩ : ∃ z, cmpZ (val L) (val M) = z := ⟨_, rfl⟩
  unfold SameNum at HC
  rw [hz'] at HC hz
  have hI := Is.mk_trim hs.lims
  have y1 := trim_length_le L
  rw [hr.len] at y1
  clear hz'
  go_enter Tryd.func29, Tryd.ntmps29
  go_wp2_with fail
  refine HC.out.mono ?_
  rintro e w' ⟨rfl, k0, rfl⟩
  go_wp2_with fail
  refine (strip_any B m d M _ (hs.drewN k0)).mono ?_
  rintro e w' ⟨B', m', d', rfl, hS, rfl⟩
  have hs' := hS.rd (hs.drewN k0)
  clear hS
  go_wp2_with fail
  refine (trim_any A n c L _ (hr.drewN k0) hn).mono ?_
  rintro e w1 ⟨A1, n1, c1, L1, rfl, hM1, hI1, hb1⟩
  have hB1 : Below w.heap.size w w1 := (drewN_below (Below.refl _ _) k0).trans hb1
  have hM : Mine w1 w.heap.size A1 n1 c1 L1 := hM1
  have hs1 : Rd w B' m' d' (trim M) := ⟨hs'.len, hs'.lims, hs'.cap, hs'.top, hs'.at_⟩
  have hLL : Hid (trim L = L1) := (Is.mk_trim hr.lims).unique hI1
  have hnm : m' ≤ n1 := by
    rcases Nat.lt_or_ge n1 m' with h | h
    · have := hI1.lt_of_length hI (by rw [hM.len, hs1.len]; exact h)
      omega
    · exact h
  have hcap := hM.rd.cap
  have htop := hM.rd.top
  unfold maxLen at htop
  have HI1 := Lib.hid hI1
  have HI := Lib.hid hI
  have hl1 := hM.len
  have hl2 := hs1.len
  have HL1 := Lib.hid hl1
  have HL2 := Lib.hid hl2
  clear hM1 hb1 hs' hI1 hI HC hr hs hl1 hl2 y1
  generalize trim M = M' at *
  go_wp2
  go_loopw [7, 20] (fun bv iv wr => ∃ (k : Nat) (b : Int) (S : List Int), k ≤ n1 ∧ iv = .int .i64 k ∧ bv = .int .u32 b ∧ (0 ≤ b ∧ b < 2) ∧ Mine wr w.heap.size A1 n1 c1 S ∧ Hid (S.drop k = L1.drop k) ∧
      Hid (val (S.take k) + val (M'.take k) = val (L1.take k) + pw k * b) ∧ Below w.heap.size w wr) (fun _ iv _ => n1 - (intOf iv).toNat)
  case atStart => exact ⟨0, 0, _, Nat.zero_le _, rfl, rfl, by omega, hM, rfl, rfl, hB1⟩
  case round =>
    obtain ⟨k, b, S, hk, rfl, rfl, ⟨b0, b1⟩, hMr, hD, hV, hB⟩ := hrel
    clear hM hB1
    by_cases hkn : k < n1
    · obtain ⟨g, rfl, hg, hg'⟩ := hMr.form (by omega)
      have uS := hMr.lims.getD k
      have hR := hs1.below hB
      have uM := hR.lims.getD k
      have hSl := hMr.len
      obtain ⟨u, hu⟩ : ∃ u, L1.getD k 0 = u := ⟨_, rfl⟩
      obtain ⟨v, hv⟩ : ∃ v, M'.getD k 0 = v := ⟨_, rfl⟩
      have cS := hMr.cellAt hkn
      rw [getD_of_drop hD.out, hu] at cS uS
      rw [hv] at uM
      have fS := hMr.frozenAt k
      have st := sub_step (S := S) (k := k) (b := b) (by omega) hu hv uS uM ⟨b0, b1⟩ hV.out
      have ST := Lib.hid st
      have hD2 : Hid ((S.set k ((u - v - b) % 4294967296)).drop (k + 1) = L1.drop (k + 1)) := by
        show _ = _
        rw [drop_set]; exact drop_succ hD.out
      have s0 : 0 ≤ (u - v - b) % 4294967296 ∧ (u - v - b) % 4294967296 < 4294967296 := by omega
      have s1 := borrowOf_range u v b
      have hA := sub32_any u v b
      clear st hu hSl
      by_cases hkm : k < m'
      · obtain ⟨ad, rfl, hb, hc⟩ := hR.at_ (by omega)
        have cM := hc k hkm
        rw [hv] at cM
        clear hc hv
        have HA := Lib.hid hA
        clear hA
        go_wp2_with (go_at_call 56; refine (HA.out _ uS uM ⟨b0, b1⟩).mono ?_; rintro e w' ⟨rfl, rfl⟩)
        go_roundw
        case rel => exact ⟨k + 1, _, _, by omega, by go_num, rfl, s1, hMr.stored k s0.1 s0.2, hD2, ST.out, hB.setCell hg _⟩
        case measure => simp [intOf] <;> omega
      · obtain rfl : v = 0 := by rw [← hv, getD_ge _ _ (by have := HL2.out; omega)]
        clear hv
        simp only [Int.sub_zero] at s0 ST hD2
        have HA := Lib.hid hA
        clear hA
        go_wp2_with (go_at_call 56; refine (HA.out _ uS uM ⟨b0, b1⟩).mono ?_; rintro e w' ⟨rfl, rfl⟩)
        go_roundw
        case rel => exact ⟨k + 1, _, _, by omega, by go_num, rfl, s1, hMr.stored k s0.1 s0.2, hD2, ST.out, hB.setCell hg _⟩
        case measure => simp [intOf] <;> omega
    · obtain rfl : k = n1 := by omega
      clear hkn
      have hF : Hid (val S = val L - val M) := by
        have e1 : val L1 = val L := HI1.out.eq
        have e2 : val M' = val M := HI.out.eq
        have := sub_last hMr.lims hMr.len HL1.out (by rw [HL2.out]; exact hnm) b0 (by rw [e1, e2]; exact hle) hV.out
        rw [e1, e2] at this
        exact this
      have hrd := hMr.rd
      go_wp2_with fail
      refine (strip_any _ _ _ _ _ hrd).mono ?_
      rintro e w' ⟨A2, n2, c2, rfl, hS2, rfl⟩
      have hm' := hS2.mine hMr
      have hI2 := Is.mk_trim hMr.lims
      rw [hF.out] at hI2
      have HI2 := Lib.hid hI2
      clear hS2 hI2
      go_wp2
      go_ret2
      exact ⟨_, _, _, _, rfl, hm', HI2.out, hB⟩

end Go.Proofs.YtdimajnadmkhiaaDoor
