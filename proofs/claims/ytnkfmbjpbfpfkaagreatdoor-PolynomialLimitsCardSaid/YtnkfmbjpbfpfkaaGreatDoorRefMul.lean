/-
  exactpplref01.Mul: the limbs of the product, in memory of its own.
-/
import Derived.Test.YtnkfmbjpbfpfkaaGreatDoorRefAdd
namespace Go.Proofs.YtnkfmbjpbfpfkaaGreatDoor
open Go.RowKit
set_option maxRecDepth 20000

/-- A limb is stored with its carry taken off. -/
theorem carry_step {S : List Int} {p : Nat} {t z : Int} (hp : p < S.length) (ht : S.getD p 0 = t) : val (S.set p (z % 4294967296)) + pw (p + 1) * (z / 4294967296) = val S + pw p * (z - t) := by
  rw [val_set S p _ hp, ← getD_of_lt S p hp, ht, pw_succ]
  have e := Int.emod_add_mul_ediv z 4294967296
  generalize z % 4294967296 = r at *
  generalize z / 4294967296 = q at *
  rw [← e]; grind

theorem mul_arith {z pij pi pj x y t cr V T : Int} (h : pij = pi * pj) (e : z + pij * cr = V + pi * x * T) : z + pij * (x * y + t + cr - t) = V + pi * x * (T + pj * y) := by
  have h3 : pij * (x * y + t + cr - t) = pij * cr + pi * x * (pj * y) := by rw [h]; grind
  rw [h3]; grind

theorem take_prod_lt {L M : List Int} {i m : Nat} (hL : Lims L) (hM : Lims M) (lM : M.length = m) : val (L.take i) * val M < pw (i + m) := by
  have a0 := val_nonneg (hL.take i)
  have a1 := Int.lt_of_lt_of_le (val_lt (hL.take i)) (pw_mono (m := (L.take i).length) (n := i) (by rw [List.length_take]; omega))
  have b0 := val_nonneg hM
  have b1 := val_lt hM
  rw [lM] at b1
  exact pw_prod a0 b0 a1 b1

set_option maxHeartbeats 2000000 in
theorem refMul_any (A B : Option Addr) (n c m d : Nat) (L M : List Int) (w : World) (hr : Rd w A n c L) (hs : Rd w B m d M) (hn : n ≤ 400000) (hm : m ≤ 400000) :
    Calls Tryz.prog 102 #[.slice A n c, .slice B m d] w (Gives w (val L * val M)) := by
  obtain ⟨i0, hi, hz0, hz1, hz2⟩ := info_parts info_limb
  have HL := Lib.hid hr.len
  have HM := Lib.hid hs.len
  have hcA := hr.cap
  have hcB := hs.cap
  go_enter Tryz.func102, Tryz.ntmps102
  go_wp2_with (at_make; refine wpList_make_full _ rfl _ _ 51 rfl w.heap.size 81 i0 (.int .u32 0) 1 Tryz.underlying51 hi hz0 hz1 _ _ _ _ (n + m + 1) rfl rfl ?b0 ?b1 ?b2 ?b3 (Nat.le_refl _) ?_)
  case b0 => go_num
  case b1 => go_num
  case b2 => rw [hz2]; omega
  case b3 => unfold maxLen; omega
  intro w0 hown hgrow
  have hM0 := Mine.zero hown
  have hB0 := below_of_grown hgrow
  clear hown hgrow
  go_wp2
  go_loopw [6] (fun iv wr => ∃ (i : Nat) (S : List Int), i ≤ n ∧ iv = .int .i64 i ∧ Mine wr w.heap.size (some ⟨w.heap.size, 0, none⟩) (n + m + 1) (n + m + 1) S ∧
      Hid (val S = val (L.take i) * val M) ∧ Below w.heap.size w wr) (fun iv _ => n - (intOf iv).toNat)
  case atStart => exact ⟨0, _, Nat.zero_le _, rfl, hM0, by show _ = _; rw [val_replicate]; simp [val], hB0⟩
  case round =>
    obtain ⟨i, S, hin, rfl, hM, hV, hB⟩ := hrel
    clear hM0 hB0
    by_cases hi' : i < n
    · obtain ⟨ad, rfl, hadB, hc⟩ := hr.at_ (by omega)
      have cL0 := Lib.hid (hc i hi')
      have uL := hr.lims.getD i
      obtain ⟨x, hx⟩ : ∃ x, L.getD i 0 = x := ⟨_, rfl⟩
      have HX := Lib.hid hx
      rw [hx] at cL0 uL
      clear hc hx
      go_wp2
      obtain ⟨wo, rfl⟩ : ∃ wo : World, wo = wr := ⟨_, rfl⟩
      go_loopw [7, 8] (fun cv jv wr => ∃ (j : Nat) (cr : Int) (Z : List Int), j ≤ m ∧ jv = .int .i64 j ∧ cv = .int .u64 cr ∧ (0 ≤ cr ∧ cr < 4294967296) ∧ Mine wr w.heap.size (some ⟨w.heap.size, 0, none⟩) (n + m + 1) (n + m + 1) Z ∧
          Hid (val Z + pw (i + j) * cr = val (L.take i) * val M + pw i * x * val (M.take j)) ∧ Below w.heap.size w wr) (fun _ jv _ => m - (intOf jv).toNat)
      case atStart => exact ⟨0, 0, S, Nat.zero_le _, rfl, rfl, by omega, hM, by show _ = _; rw [hV.out]; simp [val], hB⟩
      case round =>
        obtain ⟨j, cr, Z, hj, rfl, rfl, ⟨cr0, cr1⟩, hZ, hE, hB2⟩ := hrel
        by_cases hj' : j < m
        · obtain ⟨ad', rfl, hadB', hc⟩ := hs.at_ (by omega)
          have cL := (hB2.cell (p := ad.add i) (by rw [addr_block]; exact hadB)).trans cL0.out
          have cM := (hB2.cell (p := ad'.add j) (by rw [addr_block]; exact hadB')).trans (hc j hj')
          have uM := hs.lims.getD j
          have uS := hZ.lims.getD (i + j)
          have cZ := hZ.cellAt (i := i + j) (by omega)
          have fZ := hZ.frozenAt (i + j)
          obtain ⟨y, hy⟩ : ∃ y, M.getD j 0 = y := ⟨_, rfl⟩
          obtain ⟨t, ht⟩ : ∃ t, Z.getD (i + j) 0 = t := ⟨_, rfl⟩
          rw [hy] at cM uM
          rw [ht] at cZ uS
          have hE2 : Hid (val (Z.set (i + j) ((x * y + t + cr) % 4294967296)) + pw (i + (j + 1)) * ((x * y + t + cr) / 4294967296) = val (L.take i) * val M + pw i * x * val (M.take (j + 1))) := by
            show _ = _
            rw [← Nat.add_assoc, carry_step (by rw [hZ.len]; omega) ht, val_take_getD, hy]
            exact mul_arith (pw_add i j) hE.out
          have pr := mul_limbs x y uL uM
          have s0 : 0 ≤ (x * y + t + cr) % 4294967296 ∧ (x * y + t + cr) % 4294967296 < 4294967296 := by omega
          have s1 : 0 ≤ (x * y + t + cr) / 4294967296 ∧ (x * y + t + cr) / 4294967296 < 4294967296 := by omega
          have hat : ((i : Int) + (j : Int)).toNat = i + j := by omega
          clear hc hy ht
          go_wp2_with fail
          go_quiet (fail)
          have hZ2 := (hZ.drewN nq).stored (i + j) s0.1 s0.2
          have hB3 := (drewN_below hB2 nq).setCell (p := ⟨w.heap.size, i + j, none⟩) (Nat.le_refl _) (.int .u32 ((x * y + t + cr) % 4294967296))
          go_wp2
          go_roundw
          case rel => exact ⟨j + 1, _, _, by omega, by go_num, rfl, s1, hZ2, hE2.out, hB3⟩
          case measure => simp [intOf] <;> omega
        · obtain rfl : j = m := by omega
          clear hj'
          have hE3 : Hid (val Z + pw (i + j) * cr = val (L.take (i + 1)) * val M) := by
            show _ = _
            rw [hE.out, List.take_of_length_le (l := M) (by have := HM.out; omega), val_take_getD, HX.out]; grind
          have HT := Lib.hid (take_prod_lt (L := L) (M := M) (i := i + 1) (m := j) hr.lims hs.lims HM.out)
          go_wp2
          obtain ⟨wp, rfl⟩ : ∃ wp : World, wp = wr := ⟨_, rfl⟩
          go_loopw [7, 10] (fun cv pv wr => ∃ (p : Nat) (cr : Int) (Y : List Int), p ≤ i + j + 1 ∧ pv = .int .i64 p ∧ cv = .int .u64 cr ∧ (0 ≤ cr ∧ cr < 4294967296) ∧ Mine wr w.heap.size (some ⟨w.heap.size, 0, none⟩) (n + j + 1) (n + j + 1) Y ∧
              Hid (val Y + pw p * cr = val (L.take (i + 1)) * val M) ∧ Below w.heap.size w wr) (fun _ pv _ => i + j + 2 - (intOf pv).toNat)
          case atStart => exact ⟨i + j, cr, Z, by omega, by go_num, rfl, ⟨cr0, cr1⟩, hZ, hE3.out, hB2⟩
          case round =>
            obtain ⟨p, cr', Y, hp, rfl, rfl, ⟨k0, k1⟩, hY, hF, hB4⟩ := hrel
            by_cases hc : cr' = 0
            · have hV2 : Hid (val Y = val (L.take (i + 1)) * val M) := by
                have h1 := hF.out
                rw [hc, Int.mul_zero, Int.add_zero] at h1
                exact h1
              subst hc
              go_wp2
              go_roundw
              case rel => exact ⟨i + 1, Y, by omega, by go_num, hY, hV2, hB4⟩
              case measure => simp [intOf] <;> omega
            · have hpos : 0 < cr' := by omega
              have hpl : p ≤ i + j := by
                rcases Nat.lt_or_ge (i + j) p with h | h
                · exfalso
                  have h5 : p = i + 1 + j := by omega
                  have h1 := hF.out
                  have h2 := HT.out
                  have h3 := val_nonneg hY.lims
                  rw [h5] at h1
                  have h4 : pw (i + 1 + j) * 1 ≤ pw (i + 1 + j) * cr' := Int.mul_le_mul_of_nonneg_left (by omega) (Int.le_of_lt (pw_pos _))
                  omega
                · exact h
              have uS := hY.lims.getD p
              have cZ := hY.cellAt (i := p) (by omega)
              have fZ := hY.frozenAt p
              obtain ⟨t, ht⟩ : ∃ t, Y.getD p 0 = t := ⟨_, rfl⟩
              rw [ht] at cZ uS
              have hF2 : Hid (val (Y.set p ((t + cr') % 4294967296)) + pw (p + 1) * ((t + cr') / 4294967296) = val (L.take (i + 1)) * val M) := by
                show _ = _
                rw [carry_step (by rw [hY.len]; omega) ht, ← hF.out, show t + cr' - t = cr' from by omega]
              have s0 : 0 ≤ (t + cr') % 4294967296 ∧ (t + cr') % 4294967296 < 4294967296 := by omega
              have s1 : 0 ≤ (t + cr') / 4294967296 ∧ (t + cr') / 4294967296 < 4294967296 := by omega
              clear ht hc
              go_wp2
              go_roundw
              case rel => exact ⟨p + 1, _, _, by omega, by go_num, rfl, s1, hY.stored p s0.1 s0.2, hF2.out, hB4.setCell (Nat.le_refl _) _⟩
              case measure => simp [intOf] <;> omega
    · obtain rfl : i = n := by omega
      clear hi'
      have hF : val S = val L * val M := by
        have h1 := hV.out
        rwa [List.take_of_length_le (l := L) (by have := HL.out; omega)] at h1
      have HF := Lib.hid hF
      have TR := Lib.hid (refTrim_any _ _ _ _ wr hM.rd (by omega))
      have hsz := hB.size
      clear hF hM
      go_wp2_with fail
      refine TR.out.mono ?_
      rintro e w4 ⟨A4, n4, c4, R, rfl, hR, IR, hB4⟩
      have HI := Lib.hid IR
      clear IR
      go_wp2
      go_ret
      exact ⟨A4, n4, c4, R, rfl, hR.more hsz, by rw [← HF.out]; exact HI.out, nextB hB hB4⟩

end Go.Proofs.YtnkfmbjpbfpfkaaGreatDoor
