/-
  exactpplref01.Cmp and short: the order of two numbers, and division by one limb.
  exactpplref01.short: division by one limb.
  exactpplref01.DivMod, where the divisor fits into one limb.
-/
import Derived.Test.YtebbnmjmjoklmaaGreatDoorDivN
import Derived.Test.YtebbnmjmjoklmaaGreatDoorSame
namespace Go.Proofs.YtebbnmjmjoklmaaGreatDoor
open Go.RowKit
set_option maxRecDepth 20000

def CmpPost (w : World) (x y : Int) (e : Ending) (w' : World) : Prop := e = .returned (.int .i64 (cmpZ x y)) ∧ Below w.heap.size w w'

set_option maxHeartbeats 1000000 in
theorem refCmp_any (A B : Option Addr) (n c m d : Nat) (L M : List Int) (w : World) (hr : Rd w A n c L) (hs : Rd w B m d M) (hn : n ≤ 1000000) (hm : m ≤ 1000000) :
    Calls Tryz.prog 104 #[.slice A n c, .slice B m d] w (CmpPost w (val L) (val M)) := by
  go_enter Tryz.func104, Tryz.ntmps104
  go_wp2_with fail
  refine (refTrim_any A n c L w hr hn).mono ?_
  rintro e w1 ⟨A', n', c', L', rfl, hA1, hI, hB1⟩
  have HI0 := Lib.hid hI
  clear hI
  go_wp2_with fail
  refine (refTrim_any B m d M w1 (hs.below hB1) hm).mono ?_
  rintro e w2 ⟨B', m', d', M', rfl, hA2, hJ, hB2⟩
  have hr' := (hA1.below hB2).rd
  have hs' := hA2.rd
  have hB := Lib.hid (nextB hB1 hB2)
  have hI := HI0.out
  clear HI0 hA1 hA2 hB1 hB2 hr hs
  generalize val L = x at *
  generalize val M = y at *
  have l1 := hr'.len
  have l2 := hs'.len
  have t1 := hr'.top
  have t2 := hs'.top
  have c1 := hr'.cap
  have c2 := hs'.cap
  unfold maxLen at t1 t2
  by_cases h1 : n' < m'
  · have hlt := hI.lt_of_length hJ (by omega)
    have HE := Lib.hid (cmpZ_lt hlt)
    clear hlt l1 l2 hI hJ
    go_wp2
    go_ret
    exact ⟨by rw [HE.out]; rfl, hB.out⟩
  by_cases h2 : m' < n'
  · have hlt := hJ.lt_of_length hI (by omega)
    have HE := Lib.hid (cmpZ_gt hlt)
    clear hlt l1 l2 hI hJ
    go_wp2
    go_ret
    exact ⟨by rw [HE.out]; rfl, hB.out⟩
  obtain rfl : n' = m' := by omega
  have L1 := Lib.hid l1
  have L2 := Lib.hid l2
  have HI := Lib.hid hI
  have HJ := Lib.hid hJ
  clear l1 l2 hI hJ h1 h2
  go_wp2
  go_loopw [5] (fun i wr => ∃ k q : Nat, k ≤ n' ∧ i = .int .i64 ((k : Int) - 1) ∧ Hid (val (L'.drop k) = val (M'.drop k)) ∧ wr = w2.drewN q) (fun i _ => (intOf i + 1).toNat)
  case atStart => exact ⟨n', 0, Nat.le_refl _, rfl, by show val _ = val _; rw [List.drop_eq_nil_of_le (by have := L1.out; omega), List.drop_eq_nil_of_le (by have := L2.out; omega)], rfl⟩
  case round =>
    obtain ⟨k, q, hk, rfl, hD, rfl⟩ := hrel
    by_cases h0 : k = 0
    · subst h0
      go_wp2
      go_ret
      refine ⟨ret_int ?_, drewN_below hB.out _⟩
      rw [cmpZ_eq]
      have := hD.out
      rw [List.drop_zero, List.drop_zero, HI.out.eq, HJ.out.eq] at this
      exact this
    · obtain ⟨j, rfl⟩ : ∃ j, k = j + 1 := ⟨k - 1, by omega⟩
      obtain ⟨ad, rfl, hb, hc⟩ := hr'.at_ (by omega)
      obtain ⟨ad', rfl, hb', hc'⟩ := hs'.at_ (by omega)
      have h1 := hc j (by omega)
      have h2 := hc' j (by omega)
      have X1 := Lib.hid (drop_val L' j (by have := L1.out; omega))
      clear hc hc'
      obtain ⟨x1, e1⟩ : ∃ x1, L'.getD j 0 = x1 := ⟨_, rfl⟩
      obtain ⟨x2, e2⟩ : ∃ x2, M'.getD j 0 = x2 := ⟨_, rfl⟩
      have E1 := Lib.hid e1
      have E2 := Lib.hid e2
      rw [e1] at h1
      rw [e2] at h2
      clear e1 e2
      rcases Int.lt_trichotomy x1 x2 with hlt | heq | hgt
      · have HE : Hid (cmpZ x y = -1) := by
          refine cmpZ_lt ?_
          rw [← HI.out.eq, ← HJ.out.eq]
          exact val_lt_at HI.out.lims HJ.out.lims j (by have := L1.out; omega) (by have := L2.out; omega) hD.out (by rw [E1.out, E2.out]; exact hlt)
        go_wp2_with fail
        go_quiet (fail)
        go_wp2
        go_ret
        exact ⟨by rw [HE.out]; rfl, drewN_below (drewN_below hB.out _) _⟩
      · subst heq
        have hD' : Hid (val (L'.drop j) = val (M'.drop j)) := by
          show _ = _
          rw [List.drop_eq_getElem_cons (l := L') (i := j) (by have := L1.out; omega), List.drop_eq_getElem_cons (l := M') (i := j) (by have := L2.out; omega), val_cons, val_cons, hD.out, ← getD_of_lt, ← getD_of_lt, E1.out, E2.out]
        go_wp2_with fail
        go_quiet (fail)
        go_wp2_with fail
        go_quiet (fail)
        go_wp2
        go_roundw
        case rel => exact ⟨j, _, by omega, by go_num, hD', rfl⟩
        case measure => simp [intOf] <;> omega
      · have HE : Hid (cmpZ x y = 1) := by
          refine cmpZ_gt ?_
          rw [← HI.out.eq, ← HJ.out.eq]
          exact val_lt_at HJ.out.lims HI.out.lims j (by have := L2.out; omega) (by have := L1.out; omega) hD.out.symm (by rw [E1.out, E2.out]; exact hgt)
        go_wp2_with fail
        go_quiet (fail)
        go_wp2_with fail
        go_quiet (fail)
        go_wp2
        go_ret
        exact ⟨by rw [HE.out]; rfl, drewN_below (drewN_below (drewN_below hB.out _) _) _⟩

end Go.Proofs.YtebbnmjmjoklmaaGreatDoor

namespace Go.Proofs.YtebbnmjmjoklmaaGreatDoor
open Go.RowKit
set_option maxRecDepth 20000

def ShortPost (w : World) (q r : Int) (e : Ending) (w' : World) : Prop :=
  ∃ A n c Q, e = .returned (.tuple #[.slice A n c, .int .u32 r]) ∧ Mine w' w.heap.size A n c Q ∧ Is Q q ∧ Below w.heap.size w w'

theorem short_step {S L : List Int} {j : Nat} {r l d : Int} (hS : j < S.length) (hL : j < L.length) (hl : L.getD j 0 = l) (h : val (S.drop (j + 1)) * d + r = val (L.drop (j + 1))) :
    val ((S.set j ((r * 4294967296 + l) / d)).drop j) * d + (r * 4294967296 + l) % d = val (L.drop j) := by
  rw [drop_set_val hS, List.drop_eq_getElem_cons hL, val_cons, ← getD_of_lt, hl, ← h]
  have e := Int.mul_ediv_add_emod (r * 4294967296 + l) d
  generalize (r * 4294967296 + l) / d = q at *
  generalize (r * 4294967296 + l) % d = s at *
  grind

theorem short_fit {r l d : Int} (r0 : 0 ≤ r) (r1 : r < d) (hl : 0 ≤ l ∧ l < 4294967296) : 0 ≤ (r * 4294967296 + l) / d ∧ (r * 4294967296 + l) / d < 4294967296 ∧ 0 ≤ (r * 4294967296 + l) % d ∧ (r * 4294967296 + l) % d < d := by
  have hd : 0 < d := by omega
  refine ⟨Int.ediv_nonneg (by omega) (by omega), Int.ediv_lt_of_lt_mul hd ?_, Int.emod_nonneg _ (by omega), Int.emod_lt_of_pos _ hd⟩
  have h1 : (r + 1) * 4294967296 ≤ d * 4294967296 := le_mul (by omega) (by decide)
  omega

set_option maxHeartbeats 1000000 in
theorem refShort_any (A : Option Addr) (n c : Nat) (d : Int) (L : List Int) (w : World) (hr : Rd w A n c L) (hn : n ≤ 1000000) (d0 : 0 < d) (d1 : d < 4294967296) :
    Calls Tryz.prog 105 #[.slice A n c, .int .u32 d] w (ShortPost w (val L / d) (val L % d)) := by
  obtain ⟨i0, hi, hz0, hz1, hz2⟩ := info_parts info_limb
  have HL := Lib.hid hr.len
  have hcap := hr.cap
  go_enter Tryz.func105, Tryz.ntmps105
  go_wp2_with (at_make; refine wpList_make_full _ rfl _ _ 40 rfl w.heap.size 71 i0 (.int .u32 0) 1 Tryz.underlying40 hi hz0 hz1 _ _ _ _ n rfl rfl ?b0 ?b1 ?b2 ?b3 (Nat.le_refl _) ?_)
  case b0 => rfl
  case b1 => rfl
  case b2 => rw [hz2]; omega
  case b3 => unfold maxLen; omega
  intro w0 hown hgrow
  have hM0 := Mine.zero hown
  have hB0 := below_of_grown hgrow
  clear hown hgrow
  go_wp2
  go_loopw [7, 8] (fun rv iv wr => ∃ (k : Nat) (r : Int) (S : List Int), k ≤ n ∧ iv = .int .i64 ((k : Int) - 1) ∧ rv = .int .u64 r ∧ (0 ≤ r ∧ r < d) ∧ Mine wr w.heap.size (some ⟨w.heap.size, 0, none⟩) n n S ∧
      Hid (val (S.drop k) * d + r = val (L.drop k)) ∧ Below w.heap.size w wr) (fun _ iv _ => (intOf iv + 1).toNat)
  case atStart =>
    refine ⟨n, 0, _, Nat.le_refl _, rfl, rfl, by omega, hM0, ?_, hB0⟩
    show _ = _
    rw [List.drop_eq_nil_of_le (by simp), List.drop_eq_nil_of_le (by have := HL.out; omega)]; simp [val]
  case round =>
    obtain ⟨k, r, S, hk, rfl, rfl, ⟨r0, r1⟩, hM, hV, hB⟩ := hrel
    clear hM0 hB0
    by_cases h0 : k = 0
    · subst h0
      have hF := hV.out
      rw [List.drop_zero, List.drop_zero] at hF
      have hq : val L / d = val S := by rw [← hF, Int.add_comm, Int.add_mul_ediv_right _ _ (by omega), Int.ediv_eq_zero_of_lt r0 r1]; omega
      have hm : val L % d = r := by rw [← hF, Int.add_comm, Int.add_mul_emod_self_right, Int.emod_eq_of_lt r0 r1]
      have HQ := Lib.hid hq
      have HM := Lib.hid hm
      have TR := Lib.hid (refTrim_any _ _ _ _ wr hM.rd hn)
      have hs := hB.size
      have HMs := Lib.hid hM
      clear hF hq hm hM hV
      go_wp2_with fail
      refine TR.out.mono ?_
      rintro e w4 ⟨A4, n4, c4, R, rfl, hR, IR, hB4⟩
      have HI := Lib.hid IR
      clear IR
      go_wp2
      go_ret2
      refine ⟨A4, n4, c4, R, ?_, hR.more hs, ?_, nextB hB hB4⟩
      · rw [HM.out]; rfl
      · rw [HQ.out]; exact HI.out
    · obtain ⟨j, rfl⟩ : ∃ j, k = j + 1 := ⟨k - 1, by omega⟩
      obtain ⟨ad, rfl, hadB, hc0⟩ := hr.at_ (by omega)
      have cL := (hB.cell (p := ad.add j) (by rw [addr_block]; exact hadB)).trans (hc0 j (by omega))
      have uL := hr.lims.getD j
      obtain ⟨l, hl⟩ : ∃ l, L.getD j 0 = l := ⟨_, rfl⟩
      have cS := hM.cellAt (i := j) (by omega)
      have fS := hM.frozenAt j
      rw [hl] at cL uL
      have J := or_join r l r0 (by omega) uL.1 uL.2
      obtain ⟨f0, f1, f2, f3⟩ := short_fit r0 r1 uL
      have ST := Lib.hid (short_step (S := S) (L := L) (j := j) (r := r) (d := d) (by rw [hM.len]; omega) (by have := HL.out; omega) hl hV.out)
      have hM1 := hM.stored j f0 f1
      clear hc0 hl h0
      generalize S.getD j 0 = y at *
      go_wp2
      go_roundw
      case rel => exact ⟨j, _, _, by omega, by go_num, rfl, ⟨f2, f3⟩, hM1, ST, hB.setCell (Nat.le_refl _) _⟩
      case measure => simp [intOf] <;> omega

end Go.Proofs.YtebbnmjmjoklmaaGreatDoor

namespace Go.Proofs.YtebbnmjmjoklmaaGreatDoor
open Go.RowKit
set_option maxRecDepth 20000

set_option maxHeartbeats 1000000 in
theorem refDivMod_one (A B : Option Addr) (n c m d : Nat) (L M : List Int) (w : World) (hr : Rd w A n c L) (hs : Rd w B m d M) (hn : n ≤ 1000000) (hm : m ≤ 1000000) (m0 : 0 < val M) (m1 : val M < 4294967296) :
    Calls Tryz.prog 80 #[.slice A n c, .slice B m d] w (Gives2 w (val L / val M) (val L % val M)) := by
  have v0 := val_nonneg hr.lims
  go_enter Tryz.func80, Tryz.ntmps80
  go_wp2_with fail
  refine (refTrim_any A n c L w hr hn).mono ?_
  rintro e w1 ⟨A1, n1, c1, L1, rfl, hA1, hI, hB1⟩
  have HI := Lib.hid hI
  clear hI
  go_wp2_with fail
  refine (refTrim_any B m d M w1 (hs.below hB1) hm).mono ?_
  rintro e w2 ⟨B1, k1, d1, M1, rfl, hA2, hJ, hB2⟩
  have hM1 : M1 = [val M] := hJ.unique (is_one m0 m1)
  subst hM1
  obtain rfl : k1 = 1 := by have := hA2.len; simpa using this.symm
  obtain ⟨gb, rfl, hgb, hgb'⟩ := hA2.form (by omega)
  have cB := hA2.cellAt (i := 0) (by omega)
  have hn1 : n1 ≤ 1000000 := by
    have h1 := HI.out
    have h2 := hA1.len
    have h3 := hr.len
    have h4 := HI.out.unique (Is.mk_trim hr.lims)
    have h5 := trim_length_le L
    rw [← h4] at h5
    omega
  have CM := Lib.hid (refCmp_any _ _ _ _ _ _ _ _ w2 (hA1.below hB2).rd hA2.rd hn1 (by omega))
  have HA1 := Lib.hid (hA1.below hB2)
  have HA2 := Lib.hid hA2
  have hBB := nextB hB1 hB2
  have hs1 := hB1.size
  clear hJ hA1 hA2 hr hs
  simp only [List.getD_cons_zero] at cB
  go_wp2_with fail
  refine CM.out.mono ?_
  rintro e w3 ⟨rfl, hB3⟩
  have cB3 := (hB3.cell (p := ⟨gb, 0, none⟩) hgb').trans cB
  have hv : val [val M] = val M := by simp [val]
  rw [hv, HI.out.eq]
  by_cases hlt : val L < val M
  · have hE := cmpZ_lt hlt
    rw [hE]
    have HQ : Hid (0 = val L / val M) := (Int.ediv_eq_zero_of_lt v0 hlt).symm
    have HR : Hid (val L = val L % val M) := (Int.emod_eq_of_lt v0 hlt).symm
    clear hE hv
    go_wp2
    go_ret3
    refine ⟨none, 0, 0, [], A1, n1, c1, L1, rfl, Mine.nil _ _, ?_, HA1.out.below hB3, ?_, nextB hBB hB3⟩
    · rw [← HQ.out]; exact Is.zero
    · rw [← HR.out]; exact HI.out
  · obtain ⟨z, hz, z0⟩ : ∃ z, cmpZ (val L) (val M) = z ∧ 0 ≤ z := by
      unfold cmpZ
      rw [if_neg hlt]
      split
      · exact ⟨1, rfl, by decide⟩
      · exact ⟨0, rfl, by decide⟩
    rw [hz]
    have SH := Lib.hid (refShort_any _ _ _ (val M) _ w3 (HA1.out.below hB3).rd hn1 m0 m1)
    clear hz hv
    go_wp2_with fail
    refine SH.out.mono ?_
    rintro e w4 ⟨A4, n4, c4, Q, rfl, hQ, IQ, hB4⟩
    rw [HI.out.eq] at IQ
    rw [HI.out.eq]
    have HQ := Lib.hid (And.intro hQ IQ)
    have r0 := Int.emod_nonneg (val L) (show val M ≠ 0 by omega)
    have r1 := Int.emod_lt_of_pos (val L) m0
    clear hQ IQ SH
    generalize hrr : val L % val M = r at *
    have TR := Lib.hid (refTrim_any _ _ _ _ _ (lit1 w4 r r0 (by omega)) (by omega))
    have hB34 := nextB hBB (nextB hB3 hB4)
    have hB5 := hB34.alloc hB34.size (.cells #[.int .u32 r] 71)
    have hs3 := hB3.size
    have hs4 := hB4.size
    have hQ5 := Lib.hid ((HQ.out.1.more (base' := w.heap.size) (by have := hBB.size; omega)).alloc (.cells #[.int .u32 r] 71))
    go_wp2_with fail
    refine TR.out.mono ?_
    rintro e w6 ⟨A6, n6, c6, R, rfl, hR, IR, hB6⟩
    have HR := Lib.hid (And.intro hR IR)
    clear hR IR
    go_wp2
    go_ret3
    refine ⟨A4, n4, c4, Q, A6, n6, c6, R, rfl, hQ5.out.below hB6, HQ.out.2, HR.out.1.more hB5.size, ?_, nextB hB5 hB6⟩
    have := HR.out.2
    simpa [val] using this

end Go.Proofs.YtebbnmjmjoklmaaGreatDoor
