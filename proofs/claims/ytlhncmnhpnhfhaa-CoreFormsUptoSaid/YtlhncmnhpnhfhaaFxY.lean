/-
  The reference's Eval.
-/
import Derived.Test.YtlhncmnhpnhfhaaFxX
namespace Go.Proofs.Ytlhncmnhpnhfhaa
open Go Go.RowKit Go.Shelf
set_option maxRecDepth 20000
namespace Fx

set_option maxHeartbeats 4000000 in
theorem eval_ref {nv c : Nat} {s : Nat → Int} {A : Option Addr} {w : World} {f : Fm} {v : Array Value} {S : Nat → Prop} (hnv : nv ≤ 9223372036854775807) (hd : Deep 200 f) (hf : FV S w f v) (hs : St w nv s A) :
    Calls Try.prog 13 #[.agg v, .slice A nv c] w fun e w' => e = .returned (ePair nv s f) ∧ Below w.heap.size w w' := by
  obtain ⟨va, vb, vc, B, d, rfl, hr⟩ := hf
  obtain ⟨v, hv⟩ : ∃ v, w.alloc (.cells #[.int .i64 f.op, .int .i64 f.num, va, vb, vc, .slice B f.args.length d] 27) = v := ⟨_, rfl⟩
  obtain ⟨hvs, hwv, hbx⟩ := box6 w _ _ _ _ _ _ _ v hv
  have hF : ∀ W, Below v.heap.size v W → FV S W f #[.int .i64 f.op, .int .i64 f.num, va, vb, vc, .slice B f.args.length d] := fun W hW => ⟨va, vb, vc, B, d, rfl, rd_nb hr (nextB hwv hW)⟩
  have hSt : ∀ W, Below v.heap.size v W → St W nv s A := fun W hW => hs.below (nextB hwv hW)
  obtain ⟨p0, p1, p2, p3, p4, p5⟩ := hbx v (Below.refl _ _)
  have HBX := Lib.hid hbx
  have HVV := Lib.hid hv
  have HWV := Lib.hid hwv
  have HF := Lib.hid hF
  have HS := Lib.hid hSt
  have HE := Lib.hid (ferr_al (n := nv) hd)
  have hD := depth_ref (S := S) 200 201 (by omega) (by omega) f hd _ v (hF v (Below.refl _ _))
  simp only [show ((201 : Nat) : Int) = 201 from rfl] at hD
  have hEv : ferr nv f = 0 → Fine nv f := fun h => (ferr_zero.1 h).1
  have HV := Lib.hid hEv
  clear hr hv hwv hbx hF hSt hs hd hEv
  go_enter Try.func13, Try.ntmps13
  go_wp2_with fail
  rw [HVV.out]
  go_wp2_with fail
  refine hD.mono ?_
  clear hD
  rintro e w1 ⟨x, rfl, ⟨hx1, hx2⟩, hb1⟩
  have HB1 := Lib.hid hb1
  have hx : ¬ (200 < (x : Int)) := by omega
  clear hb1 p0 p1 p2 p3 p4 p5
  obtain ⟨p0, p1, p2, p3, p4, p5⟩ := HBX.out w1 HB1.out
  have hA := arities_ref (S := S) f _ w1 (HF.out w1 HB1.out)
  go_wp2_with fail
  refine hA.mono ?_
  clear hA
  rintro e w2 ⟨rfl, hb2⟩
  have HB2 := Lib.hid (HB1.out.trans (hb2.mono HB1.out.size))
  clear hb2 p0 p1 p2 p3 p4 p5
  obtain ⟨p0, p1, p2, p3, p4, p5⟩ := HBX.out w2 HB2.out
  cases h1 : al (fun x => !broken x) f with
  | false =>
    have H1 := Lib.hid h1
    clear h1
    go_wp2
    go_ret2
    refine ⟨?_, nextB HWV.out HB2.out⟩
    unfold ePair
    rw [HE.out, H1.out]
    rfl
  | true =>
  have H1 := Lib.hid h1
  clear h1
  have hX := extremes_ref (S := S) f _ w2 (HF.out w2 HB2.out)
  go_wp2_with fail
  refine hX.mono ?_
  clear hX
  rintro e w3 ⟨M, L, rfl, hML, hb3⟩
  have HB3 := Lib.hid (HB2.out.trans (hb3.mono HB2.out.size))
  have hn := hML nv
  clear hb3 p0 p1 p2 p3 p4 p5 hML
  obtain ⟨p0, p1, p2, p3, p4, p5⟩ := HBX.out w3 HB3.out
  cases h2 : al (fun x => !decide (x.op = 2)) f with
  | false =>
    have H2 := Lib.hid h2
    clear h2 hn
    go_wp2
    go_ret2
    refine ⟨?_, nextB HWV.out HB3.out⟩
    unfold ePair
    rw [HE.out, H1.out, H2.out]
    rfl
  | true =>
  have H2 := Lib.hid h2
  clear h2
  by_cases h3 : 0 ≤ L ∧ M < nv
  · have H3 := Lib.hid (hn.1 h3)
    obtain ⟨h4, h5⟩ := h3
    have h4' : ¬ L < 0 := by omega
    have h5' : ¬ (nv : Int) ≤ M := by omega
    have h0 : ferr nv f = 0 := by rw [HE.out, H1.out, H2.out, H3.out]; rfl
    have hV := value_ref (S := S) (c := c) hnv f (HV.out h0) _ w3 (HF.out w3 HB3.out) (HS.out w3 HB3.out)
    have H0 := Lib.hid h0
    clear hn h0
    go_wp2_with (refine hV.mono ?_; clear hV; rintro e w4 ⟨rfl, hb4⟩)
    go_ret2
    refine ⟨?_, nextB HWV.out (HB3.out.trans (hb4.mono HB3.out.size))⟩
    unfold ePair
    rw [H0.out]
    rfl
  · have H3 := Lib.hid (show al (fun x => !unknown nv x) f = false by cases h : al (fun x => !unknown nv x) f; rfl; exact absurd (hn.2 h) h3)
    clear hn
    by_cases h4 : L < 0
    · clear h3
      go_wp2
      go_ret2
      refine ⟨?_, nextB HWV.out HB3.out⟩
      unfold ePair
      rw [HE.out, H1.out, H2.out, H3.out]
      rfl
    · have h5 : (nv : Int) ≤ M := by omega
      clear h3
      go_wp2
      go_ret2
      refine ⟨?_, nextB HWV.out HB3.out⟩
      unfold ePair
      rw [HE.out, H1.out, H2.out, H3.out]
      rfl
end Fx
end Go.Proofs.Ytlhncmnhpnhfhaa
