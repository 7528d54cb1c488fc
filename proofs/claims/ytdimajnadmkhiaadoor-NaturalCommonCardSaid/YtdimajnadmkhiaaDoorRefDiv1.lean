/-
  exactpplref01.DivMod, where the divisor fits into one limb.
-/
import Derived.Test.YtdimajnadmkhiaaDoorRefShort
import Derived.Test.YtdimajnadmkhiaaDoorAwake
namespace Go.Proofs.YtdimajnadmkhiaaDoor
open Go.RowKit

set_option maxHeartbeats 1000000 in
theorem refDivMod_one (A B : Option Addr) (n c m d : Nat) (L M : List Int) (w : World) (hr : Rd w A n c L) (hs : Rd w B m d M) (hn : n ≤ 1000000) (hm : m ≤ 1000000) (m0 : 0 < val M) (m1 : val M < 4294967296) :
    Calls Tryd.prog 25 #[.slice A n c, .slice B m d] w (Gives2 w (val L / val M) (val L % val M)) := by
  have v0 := val_nonneg hr.lims
  go_enter Tryd.func25, Tryd.ntmps25
  go_wp2_with fail
  refine (refTrim_any A n c L w hr hn).mono ?_
  rintro e w1 ⟨A1, n1, c1, L1, rfl, hA1, hI, hB1⟩
  have HI := Lib.hid hI
  clear hI
  go_wp2_with fail
  refine (refTrim_any B m d M w1 (hs.below hB1) hm).mono ?_
  rintro e w2 ⟨B1, k1, d1, M1, rfl, hA2, hJ, hB2⟩
  have hM1 : M1 = [val M] := hJ.unique (is_one m0 m1)
  subst hM1
  obtain rfl : k1 = 1 := by have := hA2.len; simpa using this.symm
  obtain ⟨gb, rfl, hgb, hgb'⟩ := hA2.form (by omega)
  have cB := hA2.cellAt (i := 0) (by omega)
  have hn1 : n1 ≤ 1000000 := by
    have h1 := HI.out
    have h2 := hA1.len
    have h3 := hr.len
    have h4 := HI.out.unique (Is.mk_trim hr.lims)
    have h5 := trim_length_le L
    rw [← h4] at h5
    omega
  have CM := Lib.hid (refCmp_any _ _ _ _ _ _ _ _ w2 (hA1.below hB2).rd hA2.rd hn1 (by omega))
  have HA1 := Lib.hid (hA1.below hB2)
  have HA2 := Lib.hid hA2
  have hBB := nextB hB1 hB2
  have hs1 := hB1.size
  clear hJ hA1 hA2 hr hs
  simp only [List.getD_cons_zero] at cB
  go_wp2_with fail
  refine CM.out.mono ?_
  rintro e w3 ⟨rfl, hB3⟩
  have cB3 := (hB3.cell (p := ⟨gb, 0, none⟩) hgb').trans cB
  have hv : val [val M] = val M := by simp [val]
  rw [hv, HI.out.eq]
  by_cases hlt : val L < val M
  · have hE := cmpZ_lt hlt
    rw [hE]
    have HQ : Hid (0 = val L / val M) := (Int.ediv_eq_zero_of_lt v0 hlt).symm
    have HR : Hid (val L = val L % val M) := (Int.emod_eq_of_lt v0 hlt).symm
    clear hE hv
    go_wp2
    go_ret3
    refine ⟨none, 0, 0, [], A1, n1, c1, L1, rfl, Mine.nil _ _, ?_, HA1.out.below hB3, ?_, nextB hBB hB3⟩
    · rw [← HQ.out]; exact Is.zero
    · rw [← HR.out]; exact HI.out
  · obtain ⟨z, hz, z0⟩ : ∃ z, cmpZ (val L) (val M) = z ∧ 0 ≤ z := by
      unfold cmpZ
      rw [if_neg hlt]
      split
      · exact ⟨1, rfl, by decide⟩
      · exact ⟨0, rfl, by decide⟩
    rw [hz]
    have SH := Lib.hid (refShort_any _ _ _ (val M) _ w3 (HA1.out.below hB3).rd hn1 m0 m1)
    clear hz hv
    go_wp2_with fail
    refine SH.out.mono ?_
    rintro e w4 ⟨A4, n4, c4, Q, rfl, hQ, IQ, hB4⟩
    rw [HI.out.eq] at IQ
    rw [HI.out.eq]
    have HQ := Lib.hid (And.intro hQ IQ)
    have r0 := Int.emod_nonneg (val L) (show val M ≠ 0 by omega)
    have r1 := Int.emod_lt_of_pos (val L) m0
    clear hQ IQ SH
    generalize hrr : val L % val M = r at *
    have TR := Lib.hid (refTrim_any _ _ _ _ _ (lit1 w4 r r0 (by omega)) (by omega))
    have hB34 := nextB hBB (nextB hB3 hB4)
    have hB5 := hB34.alloc hB34.size (.cells #[.int .u32 r] 42)
    have hs3 := hB3.size
    have hs4 := hB4.size
    have hQ5 := Lib.hid ((HQ.out.1.more (base' := w.heap.size) (by have := hBB.size; omega)).alloc (.cells #[.int .u32 r] 42))
    go_wp2_with fail
    refine TR.out.mono ?_
    rintro e w6 ⟨A6, n6, c6, R, rfl, hR, IR, hB6⟩
    have HR := Lib.hid (And.intro hR IR)
    clear hR IR
    go_wp2
    go_ret3
    refine ⟨A4, n4, c4, Q, A6, n6, c6, R, rfl, hQ5.out.below hB6, HQ.out.2, HR.out.1.more hB5.size, ?_, nextB hB5 hB6⟩
    have := HR.out.2
    simpa [val] using this

end Go.Proofs.YtdimajnadmkhiaaDoor
