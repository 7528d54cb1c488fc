/-
  Degree of polynomials with few terms.
-/
import Derived.Test.YtnkfmbjpbfpfkaaGreatDoorMulP
namespace Go.Proofs.YtnkfmbjpbfpfkaaGreatDoor
open Go Go.RowKit Go.WideMaps
set_option maxRecDepth 20000

set_option maxHeartbeats 4000000 in
theorem normFor_x {w : World} {A : Option Addr} {n c k v : Nat} {E : Int} {ds : List Tq} (hl : Laid w) (hd : PolyRd w A n c ds k E) (hE : E ≤ 1000000000) (k0 : 1 ≤ k) (hk8 : k ≤ 300000) (hbig : 1 + n * (k + 1) ≤ 300000) (h12 : n ≤ 12) (hin : inLim ds) (hv : v < 8) :
    Calls Tryz.prog 41 #[.slice A n c, .int .i64 (v : Int)] w fun e w' => ∃ P r q rs, e = Two P r q 0 ∧ PolyNf w' P r q rs (1 + n * (k + 1)) E ∧ Eqv (trms rs) (trms ds) ∧ rs.length ≤ n ∧ Below w.heap.size w w' := by
  have H := Lib.hid (norm_x hl hd hE k0 hk8 hbig h12 hin)
  have HV := Lib.hid (fun w1 => isVar_x (v : Int) w1 (by omega) (by omega))
  clear hl hd hin hbig
  go_enter Tryz.func41, Tryz.ntmps41
  go_wp2_with fail
  refine H.out.mono ?_
  rintro e w1 ⟨P, r, q, rs, rfl, h1, h2, h3, h4⟩
  have H1 := Lib.hid h1
  have H2 := Lib.hid h2
  have H3 := Lib.hid h3
  clear h1 h2 h3 H
  unfold Two
  go_wp2_with fail
  refine (HV.out w1).mono ?_
  rintro e w2 ⟨rfl, rfl⟩
  go_wp2
  go_ret2
  exact ⟨_, _, _, _, rfl, H1.out, H2.out, H3.out, h4⟩
set_option maxHeartbeats 4000000 in
theorem degree_x {w : World} {A : Option Addr} {n c k v : Nat} {E : Int} {ds : List Tq} (hl : Laid w) (hd : PolyRd w A n c ds k E) (hE : E ≤ 1000000000) (k0 : 1 ≤ k) (hk8 : k ≤ 300000) (hbig : 1 + n * (k + 1) ≤ 300000) (h12 : n ≤ 12) (hin : inLim ds) (hv : v < 8) :
    Calls Tryz.prog 17 #[.slice A n c, .int .i64 (v : Int)] w fun e w' => ∃ rs, Norml (trms rs) ∧ Eqv (trms rs) (trms ds) ∧ e = .returned (.tuple #[.int .i64 (if rs = [] then -1 else (degs rs).getD v 0), .int .i64 0]) ∧ Below w.heap.size w w' := by
  have H := Lib.hid (normFor_x hl hd hE k0 hk8 hbig h12 hin hv)
  clear hl hd hin hbig
  go_enter Tryz.func17, Tryz.ntmps17
  go_wp2_with fail
  refine H.out.mono ?_
  rintro e w1 ⟨P, r, q, rs, rfl, h1, h2, h3, h4⟩
  have H1 := Lib.hid h1
  have H2 := Lib.hid h2
  have hr := h1.rd.len
  have HD := Lib.hid (degrees_x h1.rd)
  obtain ⟨m0, m1, m2, m3, m4, m5, m6, m7, hM⟩ := eight (degs_8 (ds := rs) fun x hx => (h1.rd.mono x hx).1)
  have HD2 : Hid (Calls Tryz.prog 45 #[.slice P r q] w1 fun e w' => e = .returned (.agg #[.int .i64 m0, .int .i64 m1, .int .i64 m2, .int .i64 m3, .int .i64 m4, .int .i64 m5, .int .i64 m6, .int .i64 m7]) ∧ Below w1.heap.size w1 w') := by
    have h := HD.out
    rw [hM] at h
    exact h
  have HMM := Lib.hid hM
  have HR := Lib.hid hr
  clear h1 h2 h3 H hM HD hr
  unfold Two
  by_cases hr0 : r = 0
  · subst hr0
    have hrs : Hid (rs = []) := List.eq_nil_of_length_eq_zero HR.out.symm
    go_wp2
    refine bodyPost_ret (v := .tuple #[.int .i64 (-1), .int .i64 0]) (by simp [results, Tryz.results17, go_sem]) rfl ⟨rs, H1.out.norml, H2.out, by rw [if_pos hrs.out], h4⟩
  · have hri : ¬ (r : Int) = 0 := by omega
    have hrs : Hid (rs ≠ []) := fun e => hr0 (by rw [HR.out, e]; rfl)
    go_wp2_with fail
    refine HD2.out.mono ?_
    rintro e w2 ⟨rfl, hb2⟩
    have hix := fun w => mono_ix (x0 := m0) (x1 := m1) (x2 := m2) (x3 := m3) (x4 := m4) (x5 := m5) (x6 := m6) (x7 := m7) hv w
    have hB := nextB h4 hb2
    rw [← HMM.out] at hix
    obtain ⟨z, hz⟩ : ∃ z, (degs rs).getD v 0 = z := ⟨_, rfl⟩
    rw [hz] at hix
    have HZ := Lib.hid hz
    clear hz
    go_wp2
    refine bodyPost_ret (v := .tuple #[.int .i64 z, .int .i64 0]) (by simp [results, Tryz.results17, go_sem]) rfl ⟨rs, H1.out.norml, H2.out, by rw [if_neg hrs.out, HZ.out], hB⟩
end Go.Proofs.YtnkfmbjpbfpfkaaGreatDoor
