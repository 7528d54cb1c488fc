/-
  exactpplref01.Sub: the difference, or ErrRange.
-/
import Derived.Test.YtnkfmbjpbfpfkaaGreatDoorRefPow
import Derived.Test.YtnkfmbjpbfpfkaaGreatDoorSame
import Derived.Test.YtnkfmbjpbfpfkaaGreatDoorGcd7
namespace Go.Proofs.YtnkfmbjpbfpfkaaGreatDoor
open Go.RowKit
set_option maxRecDepth 20000

theorem refSub_less (A B : Option Addr) (n c m d : Nat) (L M : List Int) (w : World) (hr : Rd w A n c L) (hs : Rd w B m d M) (hn : n ≤ 1000000) (hm : m ≤ 1000000) (hlt : val L < val M) :
    Calls Tryz.prog 103 #[.slice A n c, .slice B m d] w fun e w' => e = .returned (.tuple #[.slice none 0 0, .int .i64 1]) ∧ Below w.heap.size w w' := by
  have hc := refCmp_any A B n c m d L M w hr hs hn hm
  unfold CmpPost at hc
  rw [cmpZ_lt hlt] at hc
  have HC := Lib.hid hc
  clear hc
  go_enter Tryz.func103, Tryz.ntmps103
  go_wp2_with fail
  refine HC.out.mono ?_
  rintro e w' ⟨rfl, hB⟩
  go_wp2
  go_ret2
  exact ⟨rfl, hB⟩

set_option maxHeartbeats 1000000 in
theorem refSub_any (A B : Option Addr) (n c m d : Nat) (L M : List Int) (w : World) (hr : Rd w A n c L) (hs : Rd w B m d M) (hn : n ≤ 1000000) (hm : m ≤ 1000000) (hle : val M ≤ val L) :
    Calls Tryz.prog 103 #[.slice A n c, .slice B m d] w (GivesOk w (val L - val M)) := by
  have hz : 0 ≤ cmpZ (val L) (val M) := by unfold cmpZ; split <;> (try split) <;> omega
  have HC := Lib.hid (refCmp_any A B n c m d L M w hr hs hn hm)
  obtain ⟨z, hz'⟩ : ∃ z, cmpZ (val L) (val M) = z := ⟨_, rfl⟩
  unfold CmpPost at HC
  rw [hz'] at HC hz
  clear hz'
  go_enter Tryz.func103, Tryz.ntmps103
  go_wp2_with fail
  refine HC.out.mono ?_
  rintro e w0 ⟨rfl, hB0⟩
  go_wp2_with fail
  refine (refTrim_any A n c L _ (hr.below hB0) hn).mono ?_
  rintro e w1 ⟨A1, n1, c1, L1, rfl, hM1, hI1, hb1⟩
  have HI1 := Lib.hid hI1
  clear hI1
  have hB1 := nextB hB0 hb1
  go_wp2_with fail
  refine (refTrim_any B m d M _ (hs.below hB1) hm).mono ?_
  rintro e w2 ⟨B2, m2, d2, M', rfl, hM2, hI2, hb2⟩
  have hM := (hM1.below hb2).more (base' := w.heap.size) hB0.size
  have hs1 := hM2.rd
  have hnm : m2 ≤ n1 := by
    have h1 := len_of_le HI1.out.lims hI2.lims HI1.out.nrm hI2.nrm (by rw [HI1.out.eq, hI2.eq]; exact hle)
    have h2 := hM.len
    have h3 := hs1.len
    omega
  have hB2 := nextB hB1 hb2
  have hn1 : n1 ≤ 1000000 := by
    have h4 := HI1.out.unique (Is.mk_trim hr.lims)
    have h5 := trim_length_le L
    have h6 := hM.len
    have h7 := hr.len
    rw [← h4] at h5
    omega
  have HI2 := Lib.hid hI2
  have HL1 := Lib.hid hM.len
  have HL2 := Lib.hid hs1.len
  have hcap := hM.rd.cap
  have hcap2 := hs1.cap
  have hA1 := fun a (ha : A1 = some a) => (hM1.lt a ha).2
  have HA1 := Lib.hid hA1
  have hQ0 := hM2
  clear hM1 hb1 hb2 hB0 hB1 hI2 hM2 HC hr hs hA1
  go_wp2
  go_loopw [7, 8] (fun bv iv wr => ∃ (k : Nat) (b : Int) (S : List Int), k ≤ n1 ∧ iv = .int .i64 k ∧ bv = .int .u64 b ∧ (0 ≤ b ∧ b < 2) ∧ Mine wr w.heap.size A1 n1 c1 S ∧ Hid (S.drop k = L1.drop k) ∧
      Hid (val (S.take k) + val (M'.take k) = val (L1.take k) + pw k * b) ∧ Mine wr w1.heap.size B2 m2 d2 M' ∧ Below w.heap.size w wr) (fun _ iv _ => n1 - (intOf iv).toNat)
  case atStart => exact ⟨0, 0, _, Nat.zero_le _, rfl, rfl, by omega, hM, rfl, rfl, hQ0, hB2⟩
  case round =>
    obtain ⟨k, b, S, hk, rfl, rfl, ⟨b0, b1⟩, hMr, hD, hV, hQ, hB⟩ := hrel
    clear hM hs1 hQ0 hB2
    by_cases hkn : k < n1
    · obtain ⟨g, rfl, hg, hg'⟩ := hMr.form (by omega)
      have hgl : g < w1.heap.size := HA1.out _ rfl
      have hfar : ∀ a, B2 = some a → a.block ≠ (⟨g, k, none⟩ : Addr).block := by
        intro a ha
        have h1 := (hQ.lt a ha).1
        show _ ≠ g
        omega
      have uS := hMr.lims.getD k
      have uM := hQ.lims.getD k
      obtain ⟨u, hu⟩ : ∃ u, L1.getD k 0 = u := ⟨_, rfl⟩
      obtain ⟨v, hv⟩ : ∃ v, M'.getD k 0 = v := ⟨_, rfl⟩
      have cS := hMr.cellAt hkn
      rw [getD_of_drop hD.out, hu] at cS uS
      rw [hv] at uM
      have fS := hMr.frozenAt k
      have st := sub_step (S := S) (k := k) (b := b) (by rw [hMr.len]; omega) hu hv uS uM ⟨b0, b1⟩ hV.out
      have hD2 : (S.set k ((u - v - b) % 4294967296)).drop (k + 1) = L1.drop (k + 1) := by
        rw [drop_set]; exact drop_succ hD.out
      clear hu
      by_cases hkm : k < m2
      · by_cases hl : u < b + v
        · obtain ⟨ad, rfl, hb, hc⟩ := hQ.rd.at_ (by omega)
          have cM := hc k hkm
          rw [hv] at cM
          clear hc
          have e1 : (u - v - b) % 4294967296 = u + 4294967296 - (b + v) := by omega
          have e2 : borrowOf u v b = 1 := by unfold borrowOf; rw [if_pos (by omega)]
          rw [e1, e2] at st
          rw [e1] at hD2
          have ST := Lib.hid st
          have HD2 := Lib.hid hD2
          have s0 : 0 ≤ u + 4294967296 - (b + v) ∧ u + 4294967296 - (b + v) < 4294967296 := by omega
          have hQ2 := Lib.hid (hQ.far (p := ⟨g, k, none⟩) hfar (.int .u32 (u + 4294967296 - (b + v))))
          clear st hv e1 e2 hD2
          go_wp2
          go_roundw
          case rel => exact ⟨k + 1, _, _, by omega, by go_num, rfl, by omega, hMr.stored k s0.1 s0.2, HD2.out, ST.out, hQ2.out, hB.setCell hg _⟩
          case measure => simp [intOf] <;> omega

        · obtain ⟨ad, rfl, hb, hc⟩ := hQ.rd.at_ (by omega)
          have cM := hc k hkm
          rw [hv] at cM
          clear hc
          have e1 : (u - v - b) % 4294967296 = u - (b + v) := by omega
          have e2 : borrowOf u v b = 0 := by unfold borrowOf; rw [if_neg (by omega)]
          rw [e1, e2] at st
          rw [e1] at hD2
          have ST := Lib.hid st
          have HD2 := Lib.hid hD2
          have s0 : 0 ≤ u - (b + v) ∧ u - (b + v) < 4294967296 := by omega
          have hQ2 := Lib.hid (hQ.far (p := ⟨g, k, none⟩) hfar (.int .u32 (u - (b + v))))
          clear st hv e1 e2 hD2
          go_wp2
          go_roundw
          case rel => exact ⟨k + 1, _, _, by omega, by go_num, rfl, by omega, hMr.stored k s0.1 s0.2, HD2.out, ST.out, hQ2.out, hB.setCell hg _⟩
          case measure => simp [intOf] <;> omega

      · by_cases hl : u < b
        · obtain rfl : v = 0 := by rw [← hv, getD_ge _ _ (by have := HL2.out; omega)]
          have e1 : (u - 0 - b) % 4294967296 = u + 4294967296 - b := by omega
          have e2 : borrowOf u 0 b = 1 := by unfold borrowOf; rw [if_pos (by omega)]
          rw [e1, e2] at st
          rw [e1] at hD2
          have ST := Lib.hid st
          have HD2 := Lib.hid hD2
          have s0 : 0 ≤ u + 4294967296 - b ∧ u + 4294967296 - b < 4294967296 := by omega
          have hQ2 := Lib.hid (hQ.far (p := ⟨g, k, none⟩) hfar (.int .u32 (u + 4294967296 - b)))
          clear st hv e1 e2 hD2
          go_wp2
          go_roundw
          case rel => exact ⟨k + 1, _, _, by omega, by go_num, rfl, by omega, hMr.stored k s0.1 s0.2, HD2.out, ST.out, hQ2.out, hB.setCell hg _⟩
          case measure => simp [intOf] <;> omega

        · obtain rfl : v = 0 := by rw [← hv, getD_ge _ _ (by have := HL2.out; omega)]
          have e1 : (u - 0 - b) % 4294967296 = u - b := by omega
          have e2 : borrowOf u 0 b = 0 := by unfold borrowOf; rw [if_neg (by omega)]
          rw [e1, e2] at st
          rw [e1] at hD2
          have ST := Lib.hid st
          have HD2 := Lib.hid hD2
          have s0 : 0 ≤ u - b ∧ u - b < 4294967296 := by omega
          have hQ2 := Lib.hid (hQ.far (p := ⟨g, k, none⟩) hfar (.int .u32 (u - b)))
          clear st hv e1 e2 hD2
          go_wp2
          go_roundw
          case rel => exact ⟨k + 1, _, _, by omega, by go_num, rfl, by omega, hMr.stored k s0.1 s0.2, HD2.out, ST.out, hQ2.out, hB.setCell hg _⟩
          case measure => simp [intOf] <;> omega

    · obtain rfl : k = n1 := by omega
      have hF := sub_last (P := L1) (Q := M') hMr.lims hMr.len HL1.out (by rw [HL2.out]; exact hnm) b0 (by rw [HI1.out.eq, HI2.out.eq]; exact hle) hV.out
      rw [HI1.out.eq, HI2.out.eq] at hF
      have HF := Lib.hid hF
      have TR := Lib.hid (refTrim_any _ _ _ _ wr hMr.rd hn1)
      have hsz := hB.size
      clear hF hMr hkn hQ
      go_wp2_with fail
      refine TR.out.mono ?_
      rintro e w4 ⟨A4, n4, c4, R, rfl, hR, IR, hB4⟩
      have HI := Lib.hid IR
      clear IR
      go_wp2
      go_ret2
      exact ⟨A4, n4, c4, R, rfl, hR.more hsz, by rw [← HF.out]; exact HI.out, nextB hB hB4⟩

end Go.Proofs.YtnkfmbjpbfpfkaaGreatDoor
