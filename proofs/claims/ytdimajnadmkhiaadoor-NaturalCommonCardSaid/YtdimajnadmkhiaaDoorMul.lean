/-
  natural.Mul: for every two lists of limbs it returns the limbs of the product, in memory of its own.
-/
import Derived.Test.YtdimajnadmkhiaaDoorBase
namespace Go.Proofs.YtdimajnadmkhiaaDoor
open Go.RowKit

set_option maxHeartbeats 1000000 in
theorem mul_any (A B : Option Addr) (n c m d : Nat) (L M : List Int) (w : World) (hr : Rd w A n c L) (hs : Rd w B m d M) (hn : n ≤ 1000000) (hm : m ≤ 1000000) :
    Calls Tryd.prog 22 #[.slice A n c, .slice B m d] w (Gives w (val L * val M)) := by
  obtain ⟨i0, hi, hz0, hz1, hz2⟩ := info_parts info_limb
  have y1 := trim_length_le L
  have y2 := trim_length_le M
  rw [hr.len] at y1
  rw [hs.len] at y2
  go_enter Tryd.func22, Tryd.ntmps22
  go_wp2_with fail
  refine (strip_any A n c L w hr).mono ?_
  rintro e w' ⟨A', n', c', rfl, hS, rfl⟩
  have hr' := hS.rd hr
  clear hS
  go_wp2_with fail
  refine (strip_any B m d M w hs).mono ?_
  rintro e w' ⟨B', m', d', rfl, hS, rfl⟩
  have hs' := hS.rd hs
  clear hS
  have l1 := hr'.len
  have l2 := hs'.len
  have V : Hid (val (trim L) * val (trim M) = val L * val M) := by show _ = _; rw [val_trim, val_trim]
  have hn' : n' ≤ 1000000 := by omega
  have hm' : m' ≤ 1000000 := by omega
  clear hr hs y1 y2
  generalize trim L = L' at *
  generalize trim M = M' at *
  have HL := Lib.hid l1
  have HM := Lib.hid l2
  clear l1 l2
  go_wp2_with (at_make; refine wpList_make_full _ rfl _ _ 22 rfl w.heap.size 42 i0 (.int .u32 0) 1 Tryd.underlying22 hi hz0 hz1 _ _ _ _ (n' + m') rfl rfl ?b0 ?b1 ?b2 ?b3 (Nat.le_refl _) ?_)
  case b0 => go_num
  case b1 => go_num
  case b2 => rw [hz2]; omega
  case b3 => unfold maxLen; omega
  intro w0 hown hgrow
  have hM0 := Mine.zero hown
  have hB0 := below_of_grown hgrow
  clear hown hgrow
  go_wp2
  go_loopw [23] (fun iv wr => ∃ (i : Nat) (S : List Int), i ≤ n' ∧ iv = .int .i64 i ∧ Mine wr w.heap.size (some ⟨w.heap.size, 0, none⟩) (n' + m') (n' + m') S ∧
      Hid (val (S.take (i + m')) = val (L'.take i) * val M') ∧ Below w.heap.size w wr) (fun iv _ => n' - (intOf iv).toNat)
  case atStart => exact ⟨0, _, Nat.zero_le _, rfl, hM0, by show _ = _; rw [List.take_replicate, val_replicate]; simp [val], hB0⟩
  case round =>
    obtain ⟨i, S, hin, rfl, hM, hV, hB⟩ := hrel
    clear hM0 hB0
    by_cases hi' : i < n'
    · obtain ⟨ad, rfl, _, hc⟩ := (hr'.below hB).at_ (by omega)
      have cL := hc i hi'
      have uL := hr'.lims.getD i
      obtain ⟨x, hx⟩ : ∃ x, L'.getD i 0 = x := ⟨_, rfl⟩
      have HX := Lib.hid hx
      rw [hx] at cL uL
      clear hc hx
      obtain ⟨pv, hpv⟩ : ∃ pv, pv = pw i * x := ⟨_, rfl⟩
      have HP := Lib.hid hpv
      clear hpv
      go_wp2
      obtain ⟨wo, rfl⟩ : ∃ wo : World, wo = wr := ⟨_, rfl⟩
      go_loopw [8, 30] (fun cv jv wr => ∃ (j : Nat) (cr : Int) (Z : List Int), j ≤ m' ∧ jv = .int .i64 j ∧ cv = .int .u32 cr ∧ (0 ≤ cr ∧ cr < 4294967296) ∧ Mine wr w.heap.size (some ⟨w.heap.size, 0, none⟩) (n' + m') (n' + m') Z ∧
          Hid (Z.drop (i + j) = S.drop (i + j)) ∧ Hid (val (Z.take (i + j)) + pw (i + j) * cr = val (S.take (i + j)) + pv * val (M'.take j)) ∧ Below w.heap.size w wr) (fun _ jv _ => m' - (intOf jv).toNat)
      case atStart => exact ⟨0, 0, S, Nat.zero_le _, rfl, rfl, by omega, hM, rfl, by show _ = _; simp [val], hB⟩
      case round =>
        obtain ⟨j, cr, Z, hj, rfl, rfl, ⟨cr0, cr1⟩, hZ, hD, hE, hB2⟩ := hrel
        by_cases hj' : j < m'
        · obtain ⟨ad', rfl, _, hc⟩ := (hs'.below hB2).at_ (by omega)
          have cM := hc j hj'
          have uM := hs'.lims.getD j
          have uS := hZ.lims.getD (i + j)
          have cZ := hZ.cellAt (i := i + j) (by omega)
          have fZ := hZ.frozenAt (i + j)
          obtain ⟨y, hy⟩ : ∃ y, M'.getD j 0 = y := ⟨_, rfl⟩
          obtain ⟨t, ht⟩ : ∃ t, S.getD (i + j) 0 = t := ⟨_, rfl⟩
          rw [hy] at cM uM
          rw [getD_of_drop hD.out, ht] at cZ uS
          have ST := Lib.hid (mul_step (S := Z) (T := S) (Q := M') (i := i) (j := j) (x := x) (cr := cr) (by rw [hZ.len]; omega) ht hy hE.out HP.out)
          have hD2 : Hid ((Z.set (i + j) ((x * y + t + cr) % 4294967296)).drop (i + (j + 1)) = S.drop (i + (j + 1))) := by
            show _ = _
            rw [← Nat.add_assoc, drop_set]; exact drop_succ hD.out
          have HA := Lib.hid (multiplyAdd_any x y t cr)
          have pr := mul_limbs x y uL uM
          have s0 : 0 ≤ (x * y + t + cr) % 4294967296 ∧ (x * y + t + cr) % 4294967296 < 4294967296 := by omega
          have s1 : 0 ≤ (x * y + t + cr) / 4294967296 ∧ (x * y + t + cr) / 4294967296 < 4294967296 := by omega
          clear hc hy ht
          go_wp2_with (go_at_call 47; refine (HA.out _ uL uM uS ⟨cr0, cr1⟩).mono ?_; rintro e w' ⟨rfl, rfl⟩)
          go_roundw
          case rel => exact ⟨j + 1, _, _, by omega, by go_num, rfl, s1, hZ.stored (i + j) s0.1 s0.2, hD2, ST.out, hB2.setCell (Nat.le_refl _) _⟩
          case measure => simp [intOf] <;> omega
        · obtain rfl : j = m' := by omega
          clear hj'
          have cZ := hZ.cellAt (i := i + j) (by omega)
          have fZ := hZ.frozenAt (i + j)
          have hF : Hid (val ((Z.set (i + j) cr).take (i + 1 + j)) = val (L'.take (i + 1)) * val M') := by
            show _ = _
            have h1 := hE.out
            rw [hV.out, List.take_of_length_le (l := M') (by have := HM.out; omega)] at h1
            have e : i + 1 + j = i + j + 1 := by omega
            rw [e, mul_last (by rw [hZ.len]; omega) h1, val_take_getD, HX.out, HP.out]
            grind
          go_wp2
          go_roundw
          case rel => exact ⟨i + 1, _, by omega, by go_num, hZ.stored (i + j) cr0 cr1, hF, hB2.setCell (Nat.le_refl _) _⟩
          case measure => simp [intOf] <;> omega
    · obtain rfl : i = n' := by omega
      clear hi'
      have hF : Hid (val S = val L * val M) := by
        have h1 := hV.out
        rw [List.take_of_length_le (by rw [hM.len]; exact Nat.le_refl _), List.take_of_length_le (l := L') (by have := HL.out; omega), V.out] at h1
        exact h1
      go_wp2_with fail
      refine (strip_any _ _ _ _ _ hM.rd).mono ?_
      rintro e w' ⟨A2, n2, c2, rfl, hS2, rfl⟩
      have hm2 := hS2.mine hM
      have hI2 := Is.mk_trim hM.lims
      rw [hF.out] at hI2
      have HI2 := Lib.hid hI2
      clear hS2 hI2
      go_wp2
      go_ret
      exact ⟨_, _, _, _, rfl, hm2, HI2.out, hB⟩

end Go.Proofs.YtdimajnadmkhiaaDoor
