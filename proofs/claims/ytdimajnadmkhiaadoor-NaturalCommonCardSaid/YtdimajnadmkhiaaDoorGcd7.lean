/-
  natural.GCD: the greatest common divisor of two numbers.
-/
import Derived.Test.YtdimajnadmkhiaaDoorGcd6
namespace Go.Proofs.YtdimajnadmkhiaaDoor
open Go.RowKit

theorem Gives.after {w w3 w' : World} {x : Int} {e : Ending} (h : Gives w3 x e w') (hb : Below w.heap.size w w3) : Gives w x e w' := by
  obtain ⟨A, n, c, L, rfl, hm, hI, hB⟩ := h
  exact ⟨A, n, c, L, rfl, hm.more hb.size, hI, nextB hb hB⟩
theorem Gives.cast {w w' : World} {x y : Int} {e : Ending} (h : Gives w x e w') (hxy : x = y) : Gives w y e w' := by subst hxy; exact h
theorem word_fit {w : World} {A : Option Addr} {n c : Nat} {L : List Int} (h : Rd w A n c L) (hn : n ≤ 2) : 0 ≤ val L ∧ val L < 18446744073709551616 := by
  have h1 := val_nonneg h.lims
  have h2 := val_lt h.lims
  have h3 := pw_mono (m := L.length) (n := 2) (by rw [h.len]; exact hn)
  have h4 : pw 2 = 18446744073709551616 := by decide
  omega
theorem rem_fit {w w' : World} {A B : Option Addr} {n c m d : Nat} {R M : List Int} {x : Int} (hb : Rd w B m d M) (hr : Rd w' A n c R) (hI : Is R (x % val M)) (tM : trim M = M) (h2 : m ≤ 2) (h0 : val M ≠ 0) :
    n ≤ 2 ∧ 0 ≤ val R ∧ val R < 18446744073709551616 := by
  have hM0 := val_nonneg hb.lims
  have r0 := Int.emod_nonneg x h0
  have r1 := Int.emod_lt_of_pos x (show 0 < val M by omega)
  have h1 := len_of_le hb.lims hI.lims tM hI.nrm (by rw [hI.eq]; omega)
  have h3 := hr.len
  have h4 := hb.len
  exact ⟨by omega, word_fit hr (by omega)⟩
theorem gcd_fit {x y : Int} (h0 : x ≠ 0) (hx : 0 ≤ x ∧ x < 18446744073709551616) : (Int.gcd x y : Int) < 18446744073709551616 := by
  have h1 : ((Int.gcd x y : Nat) : Int) ∣ x := Int.gcd_dvd_left ..
  have h2 := Int.le_of_dvd (by omega) h1
  omega

set_option maxHeartbeats 4000000 in
set_option maxRecDepth 4000 in
theorem gcd_any (A B : Option Addr) (n c m d : Nat) (L M : List Int) (w : World) (hr : Rd w A n c L) (hs : Rd w B m d M) (hn : n ≤ 900000) (hm : m ≤ 900000) (hl : Laid w) :
    Calls Tryd.prog 21 #[.slice A n c, .slice B m d] w (Gives w (Int.gcd (val L) (val M) : Int)) := by
  have y1 := trim_length_le L
  have y2 := trim_length_le M
  rw [hr.len] at y1
  rw [hs.len] at y2
  have v0 := val_nonneg hr.lims
  have v1 := val_nonneg hs.lims
  go_enter Tryd.func21, Tryd.ntmps21
  go_wp2_with fail
  refine (strip_any A n c L w hr).mono ?_
  rintro e w' ⟨Aa, na, ca, rfl, hSa, rfl⟩
  have hra := hSa.rd hr
  clear hSa
  go_wp2_with fail
  refine (strip_any B m d M w hs).mono ?_
  rintro e w' ⟨Ab, nb, cb, rfl, hSb, rfl⟩
  have hrb := hSb.rd hs
  clear hSb
  have la := hra.len
  have lb := hrb.len
  have ca1 := hra.cap
  have cb1 := hrb.cap
  have CMP := Lib.hid (cmp_any _ _ _ _ _ _ _ _ w hra hrb)
  have HRA := Lib.hid hra
  have HRB0 := Lib.hid hrb
  clear hra hrb hr hs
  by_cases hlt : val L < val M
  · have hcz : Hid (cmpZ (val (trim L)) (val (trim M)) = -1) := by show _ = _; rw [val_trim, val_trim]; exact cmpZ_lt hlt
    have CMP2 := CMP.out
    unfold SameNum at CMP2
    rw [hcz.out] at CMP2
    have CM := Lib.hid CMP2
    clear CMP CMP2 hcz
    go_wp2_with fail
    refine CM.out.mono ?_
    rintro e w' ⟨rfl, k, rfl⟩
    have hra := HRA.out.drewN k
    have hrb := HRB0.out.drewN k
    have hle : val L ≤ val M := by omega
    have hwk := drewN_below (Below.refl w.heap.size w) k
    have HG : Hid (Int.gcd (val (trim M)) (val (trim L)) = Int.gcd (val L) (val M)) := by show _ = _; rw [val_trim, val_trim, Int.gcd_comm]
    clear HRA HRB0 CM
    generalize w.drewN k = wk at *
    by_cases h2m : na ≤ 2
    · have HTY := Lib.hid (trim_trim L)
      have hw0 := hwk
      clear hwk
      by_cases h0 : na = 0
      · have hyz : Hid (val (trim M) = (Int.gcd (val L) (val M) : Int)) := by
          show _ = _
          have h1 := hra.len
          rw [h0] at h1
          have h2 : (trim L) = [] := List.eq_nil_of_length_eq_zero h1
          have h3 := HG.out
          rw [h2] at h3
          rw [← h3]
          have h4 := val_nonneg hrb.lims
          simp [val]; omega
        subst h0
        have TR := Lib.hid (trim_any _ _ _ _ _ hrb (by omega))
        go_wp2_with fail
        refine TR.out.mono ?_
        rintro e wf hGf
        have hEnd := (hGf.after hw0).cast hyz.out
        obtain ⟨Af, nf, cf, Lf, rfl, hMf, hIf, hBf⟩ := hEnd
        have HIf := Lib.hid hIf
        clear hIf hGf
        go_wp2
        go_ret
        exact ⟨Af, nf, cf, Lf, rfl, hMf, HIf.out, hBf⟩
      · have hbne : Hid (val (trim L) ≠ 0) := by
          show _ ≠ _
          intro hz
          have h1 := trim_of_zero hra.lims hz
          rw [HTY.out] at h1
          have h2 := hra.len
          rw [h1] at h2
          exact h0 h2.symm
        have hb0 : (na : Int) ≠ 0 := by omega
        have hy2 := word_fit hra h2m
        have hcB := hra.cap
        rcases Nat.lt_or_ge 2 nb with h2n | h2n
        · have REM := Lib.hid (remainder_any _ _ _ _ _ _ _ _ _ hrb hra (by omega) hbne.out)
          go_wp2_with fail
          refine REM.out.mono ?_
          rintro e wr ⟨Ar, nr, cr, Xr, rfl, hXr, hIr, hBr⟩
          have hrr := hXr.rd
          have hrest := rem_fit hra hrr hIr HTY.out h2m hbne.out
          have HX := Lib.hid (And.intro hrr (And.intro hIr (And.intro hrest.1 hrest.2)))
          have hfit := gcd_fit (x := val (trim L)) (y := val Xr) hbne.out hy2
          have HF := Lib.hid hfit
          have HGr : Hid ((Int.gcd (val (trim L)) (val Xr) : Int) = (Int.gcd (val L) (val M) : Int)) := by
            show _ = _
            rw [hIr.eq, gcd_rest, HG.out]
          have hbb := Lib.hid (nextB (hw0) hBr)
          have HRB := Lib.hid ((hra).below hBr)
          clear hXr hIr hrr hrest hfit
          go_wp2_with fail
          refine (toWord_any _ _ _ _ _ HRB.out h2m).mono ?_
          rintro e w' ⟨rfl, rfl⟩
          go_wp2_with fail
          refine (toWord_any _ _ _ _ _ HX.out.1 HX.out.2.2.1).mono ?_
          rintro e w' ⟨rfl, rfl⟩
          go_wp2_with fail
          refine (gcdWords_any _ _ _ hy2 HX.out.2.2.2).mono ?_
          rintro e wg ⟨rfl, hBg⟩
          go_wp2_with fail
          refine (fromWord_any _ _ (by omega) HF.out).mono ?_
          rintro e wf hGf
          have hEnd := (hGf.after (nextB hbb.out hBg)).cast HGr.out
          obtain ⟨Af, nf, cf, Lf, rfl, hMf, hIf, hBf⟩ := hEnd
          have HIf := Lib.hid hIf
          clear hIf hGf
          go_wp2
          go_ret
          exact ⟨Af, nf, cf, Lf, rfl, hMf, HIf.out, hBf⟩
        · have hx2 := Lib.hid (word_fit hrb (by omega))
          go_wp2_with fail
          refine (toWord_any _ _ _ _ _ hra h2m).mono ?_
          rintro e w' ⟨rfl, rfl⟩
          go_wp2_with fail
          refine (toWord_any _ _ _ _ _ hrb h2n).mono ?_
          rintro e w' ⟨rfl, rfl⟩
          go_wp2_with fail
          refine (gcdWords_any _ _ _ hy2 hx2.out).mono ?_
          rintro e wg ⟨rfl, hBg⟩
          go_wp2_with fail
          refine (fromWord_any _ _ (by omega) (gcd_fit hbne.out hy2)).mono ?_
          rintro e wf hGf
          have hEnd := (hGf.after (nextB (hw0) hBg)).cast (by rw [Int.gcd_comm, HG.out])
          obtain ⟨Af, nf, cf, Lf, rfl, hMf, hIf, hBf⟩ := hEnd
          have HIf := Lib.hid hIf
          clear hIf hGf
          go_wp2
          go_ret
          exact ⟨Af, nf, cf, Lf, rfl, hMf, HIf.out, hBf⟩
    · have T1 := Lib.hid (trim_any _ _ _ _ _ hrb (by omega))
      go_wp2_with fail
      refine T1.out.mono ?_
      rintro e w1 ⟨A1, n1, c1, L1, rfl, hM1, hI1, hB1⟩
      have HI1 := Lib.hid hI1
      clear hI1
      have T2 := Lib.hid (trim_any _ _ _ _ w1 (hra.below hB1) (by omega))
      go_wp2_with fail
      refine T2.out.mono ?_
      rintro e w2 ⟨A2, n2, c2, L2, rfl, hM2, hI2, hB2⟩
      have HI2 := Lib.hid hI2
      clear hI2
      have hs1 := hB1.size
      have hs0 := hwk.size
      have hn1 : n1 ≤ 900000 := by
        have h1 := hM1.len
        have h2 := len_of_le hrb.lims HI1.out.lims (trim_trim _) HI1.out.nrm (by rw [HI1.out.eq]; omega)
        have h3 := hrb.len
        omega
      have hM1b := (hM1.below hB2).more (base' := w.heap.size) (by omega)
      have hM2b := hM2.more (base' := w.heap.size) (by omega)
      have hdis : ∀ a b, A1 = some a → A2 = some b → a.block ≠ b.block := by
        intro a b ha hb
        have h1 := (hM1.lt a ha).2
        have h2 := (hM2.lt b hb).1
        omega
      have hw2 := hwk.trans ((nextB hB1 hB2).mono hs0)
      have hlaid := hl.under hw2 hl.size
      have RED := Lib.hid (reduce_any w.heap.size n1 c1 n2 c2 A1 A2 L1 L2 w2 hM1b HI1.out.nrm hM2b HI2.out.nrm hn1 (by rw [HI1.out.eq, HI2.out.eq, val_trim, val_trim]; exact hle) hdis hlaid (by have := hw2.size; omega) hl.size)
      have HM1 := Lib.hid hM1b
      have HM2 := Lib.hid hM2b
      clear hM1 hM2 hM1b hM2b hdis
      go_wp2_with fail
      refine RED.out.mono ?_
      rintro e w3 ⟨A3, n3, c3, L3, B3, m3, d3, M3, rfl, hA3, tL3, hB3, tM3, h2m3, hn3, hle3, hG3, hw3⟩
      have HG3 : Hid (Int.gcd (val L3) (val M3) = Int.gcd (val L) (val M)) := by
        show _ = _
        rw [hG3, HI1.out.eq, HI2.out.eq]; exact HG.out
      have hw4 := hw2.trans hw3
      have HTY := Lib.hid tM3
      have hra := hA3.rd
      have hrb := hB3.rd
      clear hA3 hB3 tL3 tM3 hG3 T1 T2 RED HG h2m
      have HG := HG3
      have h2m := h2m3
      have hcA3 := hra.cap
      clear HG3 h2m3
      by_cases h0 : m3 = 0
      · have hyz : Hid (val L3 = (Int.gcd (val L) (val M) : Int)) := by
          show _ = _
          have h1 := hrb.len
          rw [h0] at h1
          have h2 : M3 = [] := List.eq_nil_of_length_eq_zero h1
          have h3 := HG.out
          rw [h2] at h3
          rw [← h3]
          have h4 := val_nonneg hra.lims
          simp [val]; omega
        subst h0
        have TR := Lib.hid (trim_any _ _ _ _ _ hra (by omega))
        go_wp2_with fail
        refine TR.out.mono ?_
        rintro e wf hGf
        have hEnd := (hGf.after hw4).cast hyz.out
        obtain ⟨Af, nf, cf, Lf, rfl, hMf, hIf, hBf⟩ := hEnd
        have HIf := Lib.hid hIf
        clear hIf hGf
        go_wp2
        go_ret
        exact ⟨Af, nf, cf, Lf, rfl, hMf, HIf.out, hBf⟩
      · have hbne : Hid (val M3 ≠ 0) := by
          show _ ≠ _
          intro hz
          have h1 := trim_of_zero hrb.lims hz
          rw [HTY.out] at h1
          have h2 := hrb.len
          rw [h1] at h2
          exact h0 h2.symm
        have hb0 : (m3 : Int) ≠ 0 := by omega
        have hy2 := word_fit hrb h2m
        have hcB := hrb.cap
        rcases Nat.lt_or_ge 2 n3 with h2n | h2n
        · have REM := Lib.hid (remainder_any _ _ _ _ _ _ _ _ _ hra hrb (by omega) hbne.out)
          go_wp2_with fail
          refine REM.out.mono ?_
          rintro e wr ⟨Ar, nr, cr, Xr, rfl, hXr, hIr, hBr⟩
          have hrr := hXr.rd
          have hrest := rem_fit hrb hrr hIr HTY.out h2m hbne.out
          have HX := Lib.hid (And.intro hrr (And.intro hIr (And.intro hrest.1 hrest.2)))
          have hfit := gcd_fit (x := val M3) (y := val Xr) hbne.out hy2
          have HF := Lib.hid hfit
          have HGr : Hid ((Int.gcd (val M3) (val Xr) : Int) = (Int.gcd (val L) (val M) : Int)) := by
            show _ = _
            rw [hIr.eq, gcd_rest, HG.out]
          have hbb := Lib.hid (nextB (hw4) hBr)
          have HRB := Lib.hid ((hrb).below hBr)
          clear hXr hIr hrr hrest hfit
          go_wp2_with fail
          refine (toWord_any _ _ _ _ _ HRB.out h2m).mono ?_
          rintro e w' ⟨rfl, rfl⟩
          go_wp2_with fail
          refine (toWord_any _ _ _ _ _ HX.out.1 HX.out.2.2.1).mono ?_
          rintro e w' ⟨rfl, rfl⟩
          go_wp2_with fail
          refine (gcdWords_any _ _ _ hy2 HX.out.2.2.2).mono ?_
          rintro e wg ⟨rfl, hBg⟩
          go_wp2_with fail
          refine (fromWord_any _ _ (by omega) HF.out).mono ?_
          rintro e wf hGf
          have hEnd := (hGf.after (nextB hbb.out hBg)).cast HGr.out
          obtain ⟨Af, nf, cf, Lf, rfl, hMf, hIf, hBf⟩ := hEnd
          have HIf := Lib.hid hIf
          clear hIf hGf
          go_wp2
          go_ret
          exact ⟨Af, nf, cf, Lf, rfl, hMf, HIf.out, hBf⟩
        · have hx2 := Lib.hid (word_fit hra (by omega))
          go_wp2_with fail
          refine (toWord_any _ _ _ _ _ hrb h2m).mono ?_
          rintro e w' ⟨rfl, rfl⟩
          go_wp2_with fail
          refine (toWord_any _ _ _ _ _ hra h2n).mono ?_
          rintro e w' ⟨rfl, rfl⟩
          go_wp2_with fail
          refine (gcdWords_any _ _ _ hy2 hx2.out).mono ?_
          rintro e wg ⟨rfl, hBg⟩
          go_wp2_with fail
          refine (fromWord_any _ _ (by omega) (gcd_fit hbne.out hy2)).mono ?_
          rintro e wf hGf
          have hEnd := (hGf.after (nextB (hw4) hBg)).cast (by rw [Int.gcd_comm, HG.out])
          obtain ⟨Af, nf, cf, Lf, rfl, hMf, hIf, hBf⟩ := hEnd
          have HIf := Lib.hid hIf
          clear hIf hGf
          go_wp2
          go_ret
          exact ⟨Af, nf, cf, Lf, rfl, hMf, HIf.out, hBf⟩
  · have hcz : ∃ z, cmpZ (val (trim L)) (val (trim M)) = z ∧ 0 ≤ z := by
      rw [val_trim, val_trim]
      unfold cmpZ
      rw [if_neg hlt]
      split
      · exact ⟨1, rfl, by decide⟩
      · exact ⟨0, rfl, by decide⟩
    obtain ⟨z, hz, z0⟩ := hcz
    have CMP2 := CMP.out
    unfold SameNum at CMP2
    rw [hz] at CMP2
    have CM := Lib.hid CMP2
    clear CMP CMP2 hz
    go_wp2_with fail
    refine CM.out.mono ?_
    rintro e w' ⟨rfl, k, rfl⟩
    have hra := HRA.out.drewN k
    have hrb := HRB0.out.drewN k
    have hle : val M ≤ val L := by omega
    have hwk := drewN_below (Below.refl w.heap.size w) k
    have HG : Hid (Int.gcd (val (trim L)) (val (trim M)) = Int.gcd (val L) (val M)) := by show _ = _; rw [val_trim, val_trim]
    clear HRA HRB0 CM
    generalize w.drewN k = wk at *
    by_cases h2m : nb ≤ 2
    · have HTY := Lib.hid (trim_trim M)
      have hw0 := hwk
      clear hwk
      by_cases h0 : nb = 0
      · have hyz : Hid (val (trim L) = (Int.gcd (val L) (val M) : Int)) := by
          show _ = _
          have h1 := hrb.len
          rw [h0] at h1
          have h2 : (trim M) = [] := List.eq_nil_of_length_eq_zero h1
          have h3 := HG.out
          rw [h2] at h3
          rw [← h3]
          have h4 := val_nonneg hra.lims
          simp [val]; omega
        subst h0
        have TR := Lib.hid (trim_any _ _ _ _ _ hra (by omega))
        go_wp2_with fail
        refine TR.out.mono ?_
        rintro e wf hGf
        have hEnd := (hGf.after hw0).cast hyz.out
        obtain ⟨Af, nf, cf, Lf, rfl, hMf, hIf, hBf⟩ := hEnd
        have HIf := Lib.hid hIf
        clear hIf hGf
        go_wp2
        go_ret
        exact ⟨Af, nf, cf, Lf, rfl, hMf, HIf.out, hBf⟩
      · have hbne : Hid (val (trim M) ≠ 0) := by
          show _ ≠ _
          intro hz
          have h1 := trim_of_zero hrb.lims hz
          rw [HTY.out] at h1
          have h2 := hrb.len
          rw [h1] at h2
          exact h0 h2.symm
        have hb0 : (nb : Int) ≠ 0 := by omega
        have hy2 := word_fit hrb h2m
        have hcB := hrb.cap
        rcases Nat.lt_or_ge 2 na with h2n | h2n
        · have REM := Lib.hid (remainder_any _ _ _ _ _ _ _ _ _ hra hrb (by omega) hbne.out)
          go_wp2_with fail
          refine REM.out.mono ?_
          rintro e wr ⟨Ar, nr, cr, Xr, rfl, hXr, hIr, hBr⟩
          have hrr := hXr.rd
          have hrest := rem_fit hrb hrr hIr HTY.out h2m hbne.out
          have HX := Lib.hid (And.intro hrr (And.intro hIr (And.intro hrest.1 hrest.2)))
          have hfit := gcd_fit (x := val (trim M)) (y := val Xr) hbne.out hy2
          have HF := Lib.hid hfit
          have HGr : Hid ((Int.gcd (val (trim M)) (val Xr) : Int) = (Int.gcd (val L) (val M) : Int)) := by
            show _ = _
            rw [hIr.eq, gcd_rest, HG.out]
          have hbb := Lib.hid (nextB (hw0) hBr)
          have HRB := Lib.hid ((hrb).below hBr)
          clear hXr hIr hrr hrest hfit
          go_wp2_with fail
          refine (toWord_any _ _ _ _ _ HRB.out h2m).mono ?_
          rintro e w' ⟨rfl, rfl⟩
          go_wp2_with fail
          refine (toWord_any _ _ _ _ _ HX.out.1 HX.out.2.2.1).mono ?_
          rintro e w' ⟨rfl, rfl⟩
          go_wp2_with fail
          refine (gcdWords_any _ _ _ hy2 HX.out.2.2.2).mono ?_
          rintro e wg ⟨rfl, hBg⟩
          go_wp2_with fail
          refine (fromWord_any _ _ (by omega) HF.out).mono ?_
          rintro e wf hGf
          have hEnd := (hGf.after (nextB hbb.out hBg)).cast HGr.out
          obtain ⟨Af, nf, cf, Lf, rfl, hMf, hIf, hBf⟩ := hEnd
          have HIf := Lib.hid hIf
          clear hIf hGf
          go_wp2
          go_ret
          exact ⟨Af, nf, cf, Lf, rfl, hMf, HIf.out, hBf⟩
        · have hx2 := Lib.hid (word_fit hra (by omega))
          go_wp2_with fail
          refine (toWord_any _ _ _ _ _ hrb h2m).mono ?_
          rintro e w' ⟨rfl, rfl⟩
          go_wp2_with fail
          refine (toWord_any _ _ _ _ _ hra h2n).mono ?_
          rintro e w' ⟨rfl, rfl⟩
          go_wp2_with fail
          refine (gcdWords_any _ _ _ hy2 hx2.out).mono ?_
          rintro e wg ⟨rfl, hBg⟩
          go_wp2_with fail
          refine (fromWord_any _ _ (by omega) (gcd_fit hbne.out hy2)).mono ?_
          rintro e wf hGf
          have hEnd := (hGf.after (nextB (hw0) hBg)).cast (by rw [Int.gcd_comm, HG.out])
          obtain ⟨Af, nf, cf, Lf, rfl, hMf, hIf, hBf⟩ := hEnd
          have HIf := Lib.hid hIf
          clear hIf hGf
          go_wp2
          go_ret
          exact ⟨Af, nf, cf, Lf, rfl, hMf, HIf.out, hBf⟩
    · have T1 := Lib.hid (trim_any _ _ _ _ _ hra (by omega))
      go_wp2_with fail
      refine T1.out.mono ?_
      rintro e w1 ⟨A1, n1, c1, L1, rfl, hM1, hI1, hB1⟩
      have HI1 := Lib.hid hI1
      clear hI1
      have T2 := Lib.hid (trim_any _ _ _ _ w1 (hrb.below hB1) (by omega))
      go_wp2_with fail
      refine T2.out.mono ?_
      rintro e w2 ⟨A2, n2, c2, L2, rfl, hM2, hI2, hB2⟩
      have HI2 := Lib.hid hI2
      clear hI2
      have hs1 := hB1.size
      have hs0 := hwk.size
      have hn1 : n1 ≤ 900000 := by
        have h1 := hM1.len
        have h2 := len_of_le hra.lims HI1.out.lims (trim_trim _) HI1.out.nrm (by rw [HI1.out.eq]; omega)
        have h3 := hra.len
        omega
      have hM1b := (hM1.below hB2).more (base' := w.heap.size) (by omega)
      have hM2b := hM2.more (base' := w.heap.size) (by omega)
      have hdis : ∀ a b, A1 = some a → A2 = some b → a.block ≠ b.block := by
        intro a b ha hb
        have h1 := (hM1.lt a ha).2
        have h2 := (hM2.lt b hb).1
        omega
      have hw2 := hwk.trans ((nextB hB1 hB2).mono hs0)
      have hlaid := hl.under hw2 hl.size
      have RED := Lib.hid (reduce_any w.heap.size n1 c1 n2 c2 A1 A2 L1 L2 w2 hM1b HI1.out.nrm hM2b HI2.out.nrm hn1 (by rw [HI1.out.eq, HI2.out.eq, val_trim, val_trim]; exact hle) hdis hlaid (by have := hw2.size; omega) hl.size)
      have HM1 := Lib.hid hM1b
      have HM2 := Lib.hid hM2b
      clear hM1 hM2 hM1b hM2b hdis
      go_wp2_with fail
      refine RED.out.mono ?_
      rintro e w3 ⟨A3, n3, c3, L3, B3, m3, d3, M3, rfl, hA3, tL3, hB3, tM3, h2m3, hn3, hle3, hG3, hw3⟩
      have HG3 : Hid (Int.gcd (val L3) (val M3) = Int.gcd (val L) (val M)) := by
        show _ = _
        rw [hG3, HI1.out.eq, HI2.out.eq]; exact HG.out
      have hw4 := hw2.trans hw3
      have HTY := Lib.hid tM3
      have hra := hA3.rd
      have hrb := hB3.rd
      clear hA3 hB3 tL3 tM3 hG3 T1 T2 RED HG h2m
      have HG := HG3
      have h2m := h2m3
      have hcA3 := hra.cap
      clear HG3 h2m3
      by_cases h0 : m3 = 0
      · have hyz : Hid (val L3 = (Int.gcd (val L) (val M) : Int)) := by
          show _ = _
          have h1 := hrb.len
          rw [h0] at h1
          have h2 : M3 = [] := List.eq_nil_of_length_eq_zero h1
          have h3 := HG.out
          rw [h2] at h3
          rw [← h3]
          have h4 := val_nonneg hra.lims
          simp [val]; omega
        subst h0
        have TR := Lib.hid (trim_any _ _ _ _ _ hra (by omega))
        go_wp2_with fail
        refine TR.out.mono ?_
        rintro e wf hGf
        have hEnd := (hGf.after hw4).cast hyz.out
        obtain ⟨Af, nf, cf, Lf, rfl, hMf, hIf, hBf⟩ := hEnd
        have HIf := Lib.hid hIf
        clear hIf hGf
        go_wp2
        go_ret
        exact ⟨Af, nf, cf, Lf, rfl, hMf, HIf.out, hBf⟩
      · have hbne : Hid (val M3 ≠ 0) := by
          show _ ≠ _
          intro hz
          have h1 := trim_of_zero hrb.lims hz
          rw [HTY.out] at h1
          have h2 := hrb.len
          rw [h1] at h2
          exact h0 h2.symm
        have hb0 : (m3 : Int) ≠ 0 := by omega
        have hy2 := word_fit hrb h2m
        have hcB := hrb.cap
        rcases Nat.lt_or_ge 2 n3 with h2n | h2n
        · have REM := Lib.hid (remainder_any _ _ _ _ _ _ _ _ _ hra hrb (by omega) hbne.out)
          go_wp2_with fail
          refine REM.out.mono ?_
          rintro e wr ⟨Ar, nr, cr, Xr, rfl, hXr, hIr, hBr⟩
          have hrr := hXr.rd
          have hrest := rem_fit hrb hrr hIr HTY.out h2m hbne.out
          have HX := Lib.hid (And.intro hrr (And.intro hIr (And.intro hrest.1 hrest.2)))
          have hfit := gcd_fit (x := val M3) (y := val Xr) hbne.out hy2
          have HF := Lib.hid hfit
          have HGr : Hid ((Int.gcd (val M3) (val Xr) : Int) = (Int.gcd (val L) (val M) : Int)) := by
            show _ = _
            rw [hIr.eq, gcd_rest, HG.out]
          have hbb := Lib.hid (nextB (hw4) hBr)
          have HRB := Lib.hid ((hrb).below hBr)
          clear hXr hIr hrr hrest hfit
          go_wp2_with fail
          refine (toWord_any _ _ _ _ _ HRB.out h2m).mono ?_
          rintro e w' ⟨rfl, rfl⟩
          go_wp2_with fail
          refine (toWord_any _ _ _ _ _ HX.out.1 HX.out.2.2.1).mono ?_
          rintro e w' ⟨rfl, rfl⟩
          go_wp2_with fail
          refine (gcdWords_any _ _ _ hy2 HX.out.2.2.2).mono ?_
          rintro e wg ⟨rfl, hBg⟩
          go_wp2_with fail
          refine (fromWord_any _ _ (by omega) HF.out).mono ?_
          rintro e wf hGf
          have hEnd := (hGf.after (nextB hbb.out hBg)).cast HGr.out
          obtain ⟨Af, nf, cf, Lf, rfl, hMf, hIf, hBf⟩ := hEnd
          have HIf := Lib.hid hIf
          clear hIf hGf
          go_wp2
          go_ret
          exact ⟨Af, nf, cf, Lf, rfl, hMf, HIf.out, hBf⟩
        · have hx2 := Lib.hid (word_fit hra (by omega))
          go_wp2_with fail
          refine (toWord_any _ _ _ _ _ hrb h2m).mono ?_
          rintro e w' ⟨rfl, rfl⟩
          go_wp2_with fail
          refine (toWord_any _ _ _ _ _ hra h2n).mono ?_
          rintro e w' ⟨rfl, rfl⟩
          go_wp2_with fail
          refine (gcdWords_any _ _ _ hy2 hx2.out).mono ?_
          rintro e wg ⟨rfl, hBg⟩
          go_wp2_with fail
          refine (fromWord_any _ _ (by omega) (gcd_fit hbne.out hy2)).mono ?_
          rintro e wf hGf
          have hEnd := (hGf.after (nextB (hw4) hBg)).cast (by rw [Int.gcd_comm, HG.out])
          obtain ⟨Af, nf, cf, Lf, rfl, hMf, hIf, hBf⟩ := hEnd
          have HIf := Lib.hid hIf
          clear hIf hGf
          go_wp2
          go_ret
          exact ⟨Af, nf, cf, Lf, rfl, hMf, HIf.out, hBf⟩

end Go.Proofs.YtdimajnadmkhiaaDoor
