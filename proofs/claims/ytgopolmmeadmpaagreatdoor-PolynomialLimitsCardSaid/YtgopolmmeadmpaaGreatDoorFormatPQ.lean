/-
  Format of a polynomial that denotes p^2 - q^2.
-/
import Derived.Test.YtgopolmmeadmpaaGreatDoorFormat
namespace Go.Proofs.YtgopolmmeadmpaaGreatDoor
open Go Go.RowKit Go.WideMaps
set_option maxRecDepth 100000

set_option maxHeartbeats 1000000 in
theorem sign_first (w : World) : Calls Tryz.prog 60 #[.bool true, .bool false] w fun e w' => e = .returned (.string ⟨#[]⟩) ∧ w = w' := by
  go_enter Tryz.func60, Tryz.ntmps60
  go_wp2
  go_ret
  exact ⟨rfl, rfl⟩
set_option maxHeartbeats 1000000 in
theorem sign_minus (w : World) : Calls Tryz.prog 60 #[.bool false, .bool true] w fun e w' => e = .returned (.string ⟨#[32, 45, 32]⟩) ∧ w = w' := by
  go_enter Tryz.func60, Tryz.ntmps60
  go_wp2
  go_ret
  exact ⟨rfl, rfl⟩
theorem Bld.below {B b : Nat} {t : ByteArray} {w w' : World} (h : Bld B b t w) (hb : Below w.heap.size w w') : Bld B b t w' := by
  have key : ∀ p, Lib.BuilderAt 98 5 B b p (Lib.strCells t) w → Lib.BuilderAt 98 5 B b p (Lib.strCells t) w' := by
    rintro p ⟨h1, v, h2, h3, h4⟩
    have hlt : b < w.heap.size := by
      rcases Nat.lt_or_ge b w.heap.size with h' | h'
      · exact h'
      · simp [Array.getElem?_eq_none h'] at h2
    exact ⟨h1, v, (hb.block b hlt).trans h2, ownsRow_below h3 hb, h4⟩
  exact h.imp (key _) (key _)
theorem Bld.fresh (w : World) : Bld w.heap.size w.heap.size ⟨#[]⟩ (w.alloc (.cells #[.pointer none, .slice none 0 0] 98)) :=
  .inl ⟨Nat.le_refl _, .slice none 0 0, heap_alloc_new w _, World.ownsRow_nil _ _ _ _, by simp [Value.ownBlock]⟩
/-- The two terms of p^2 - q^2. -/
def pq : List Trm := [([2, 0, 0, 0, 0, 0, 0, 0], 1), ([0, 2, 0, 0, 0, 0, 0, 0], -1)]
theorem pq_norml : Norml pq := ⟨by simp [pq, mlt], by intro t ht; simp only [pq, List.mem_cons, List.not_mem_nil, or_false] at ht; rcases ht with rfl | rfl <;> decide⟩

set_option maxHeartbeats 8000000 in
theorem formatPQ {w : World} {A : Option Addr} {n c k h : Nat} {E : Int} {ds : List Tq} (hl : Laid w) (hd : PolyRd w A n c ds k E) (hE : E ≤ 1000000000) (k0 : 1 ≤ k) (hk8 : k ≤ 300000) (hbig : 1 + n * (k + 1) ≤ 300000) (h12 : n ≤ 12) (hin : inLim ds) (heq : Eqv (trms ds) pq) (g0 : w.cell? ⟨h, 0, none⟩ = some (.string ⟨#[112]⟩)) (g1 : w.cell? ⟨h, 1, none⟩ = some (.string ⟨#[113]⟩)) (hh : h < w.heap.size) :
    Calls Tryz.prog 32 #[.slice A n c, .slice (some ⟨h, 0, none⟩) 2 2] w fun e w' => e = .returned (.tuple #[.string ⟨#[112, 94, 50, 32, 45, 32, 113, 94, 50]⟩, .int .i64 0]) ∧ Below w.heap.size w w' := by
  have H := Lib.hid (norm_x hl hd hE k0 hk8 hbig h12 hin)
  have HL := Lib.hid hl
  have HEQ := Lib.hid heq
  have G0 := Lib.hid g0
  have G1 := Lib.hid g1
  obtain ⟨K, hK⟩ : ∃ K, 1 + n * (k + 1) = K := ⟨_, rfl⟩
  rw [hK] at H
  have hK0 : 1 ≤ K := by omega
  have hK8 : K ≤ 300000 := by omega
  clear hl hd hin hbig heq g0 g1 hK
  go_enter Tryz.func32, Tryz.ntmps32
  go_wp2_with fail
  refine H.out.mono ?_
  rintro e w1 ⟨P, r, q, rs, rfl, hnf, hqe, _, hb1⟩
  have htr : trms rs = pq := Norml.unique hnf.norml pq_norml (hqe.trans HEQ.out)
  have hl2 : (trms rs).length = 2 := by rw [htr]; rfl
  have hr2 : r = 2 := by rw [hnf.rd.len]; simpa [trms] using hl2
  clear hl2
  subst hr2
  obtain ⟨x, y, hxy⟩ : ∃ x y, rs = [x, y] := by
    have := hnf.rd.len
    match rs, this with
    | [x, y], _ => exact ⟨x, y, rfl⟩
  subst hxy
  simp only [trms, pq, List.map_cons, List.map_nil, List.cons.injEq, Prod.mk.injEq, and_true] at htr
  obtain ⟨⟨hxL, hxq⟩, ⟨hyL, hyq⟩⟩ := htr
  have rx : x.1.rn w1 1 K := hxq ▸ hnf.rn x (by simp)
  have ry : y.1.rn w1 (-1) K := hyq ▸ hnf.rn y (by simp)
  have sx : x.1.s = false := rx.1.trans (by decide)
  have sy : y.1.s = true := ry.1.trans (by decide)
  obtain ⟨g, hP, hrow⟩ := hnf.rd.row (by omega)
  subst hP
  have h8 : ∀ u ∈ tms [x, y], u.L.length = 8 := fun u hu => by
    obtain ⟨z, hz, rfl⟩ := List.mem_map.1 hu
    exact (hnf.rd.mono z hz).1
  obtain ⟨w0, hw0⟩ : ∃ w0, w1.alloc (.cells #[.pointer none, .slice none 0 0] 98) = w0 := ⟨_, rfl⟩
  obtain ⟨b, hbn⟩ : ∃ b, w1.heap.size = b := ⟨_, rfl⟩
  have hbd : Bld b b ⟨#[]⟩ w0 := by rw [← hw0, ← hbn]; exact Bld.fresh w1
  have hb0 : Below w1.heap.size w1 w0 := hw0 ▸ (Below.refl _ w1).alloc (Nat.le_refl _) _
  have hs0 : w0.heap.size = w1.heap.size + 1 := (alloc_facts hw0).2.2.2
  obtain ⟨c0, c1, c2, c3, c4, c5, c6, c7, c8, c9, c10⟩ := row_cells (i := 0) (ownsRow_below hrow hb0) h8 rfl rfl hxL
  simp only [Nat.zero_mul, Nat.zero_add] at c0 c1 c2 c3 c4 c5 c6 c7 c8 c9 c10
  have SG0 : Hid (∀ w, Calls Tryz.prog 60 #[.bool true, .bool x.1.s] w fun e w' => e = .returned (.string ⟨#[]⟩) ∧ w = w') := fun w => by rw [sx]; exact sign_first w
  have SG1 : Hid (∀ w, Calls Tryz.prog 60 #[.bool false, .bool y.1.s] w fun e w' => e = .returned (.string ⟨#[32, 45, 32]⟩) ∧ w = w') := fun w => by rw [sy]; exact sign_minus w
  have HW0 := Lib.hid hw0
  have HBN := Lib.hid hbn
  have HROW := Lib.hid hrow
  have RX := Lib.hid rx
  have RY := Lib.hid ry
  have HXL := Lib.hid hxL
  have HYL := Lib.hid hyL
  have SX := Lib.hid sx
  have SY := Lib.hid sy
  have hwb : Below w.heap.size w w0 := nextB hb1 hb0
  have w0b : b ≤ w0.heap.size := by omega
  have w0X : Below b w1 w0 := hb0.mono (by omega)
  have w0B := hb0
  have w0W := hwb
  clear hs0 hnf hqe hxL hxq hyL hyq rx ry sx sy hrow hw0 hbn H
  unfold Two
  go_wp2_with fail
  rw [HW0.out, HBN.out]
  refine wp_loop_rounds 3 ?_
  obtain ⟨v0, hv0⟩ : ∃ v, w0.alloc (.cells #[.int .i64 2, .int .i64 0, .int .i64 0, .int .i64 0, .int .i64 0, .int .i64 0, .int .i64 0, .int .i64 0, .bool x.1.s, .slice x.1.A x.1.n x.1.c, .slice x.1.B x.1.m x.1.d] 43) = v := ⟨_, rfl⟩
  have hbv0 : Below w0.heap.size w0 v0 := hv0 ▸ (Below.refl _ w0).alloc (Nat.le_refl _) _
  have hvs0 : v0.heap.size = w0.heap.size + 1 := (alloc_facts hv0).2.2.2
  have HBX0 : Hid (∀ W, Below v0.heap.size v0 W → W.cell? ⟨w0.heap.size, 8, none⟩ = some (.bool x.1.s)) := fun W hW => (hW.cell (p := ⟨w0.heap.size, 8, none⟩) (by rw [hvs0]; exact Nat.lt_succ_self _)).trans (TermBox.mk (t := x.1) hv0).2.2.2.2.2.2.2.2.1
  obtain ⟨d0, d1, d2, d3, d4, d5, d6, d7, d8, d9, d10⟩ := TermBox.mk (t := x.1) hv0
  have wv0 : Below w.heap.size w v0 := w0W.trans (hbv0.mono w0W.size)
  have HFM0 := Lib.hid (formatP (h := h) (HL.out.below wv0) (RX.out.below (w0B.trans (hbv0.mono w0B.size))) (.inl rfl) hK0 hK8 ((wv0.cell (p := ⟨h, 0, none⟩) hh).trans G0.out) ((wv0.cell (p := ⟨h, 1, none⟩) hh).trans G1.out) (Nat.lt_of_lt_of_le hh wv0.size))
  have HV0 := Lib.hid hv0
  clear hv0 hvs0
  rw [rounds_succ]
  go_wp2_with fail
  rw [HV0.out]
  refine HFM0.out.mono ?_
  rintro e wf0 ⟨rfl, hbf0⟩
  have e8 := HBX0.out wf0 hbf0
  clear c0 c1 c2 c3 c4 c5 c6 c7 c8 c9 c10 d0 d1 d2 d3 d4 d5 d6 d7 d8 d9 d10
  go_wp2_with fail
  refine (SG0.out wf0).mono ?_
  rintro e ws0 ⟨rfl, rfl⟩
  clear e8
  have hbd0 := (hbd.below hbv0).below hbf0
  have hbw0 : b ≤ wf0.heap.size := Nat.le_trans (Nat.le_trans w0b hbv0.size) hbf0.size
  have HWA0 := Lib.hid (writeText_x hbd0 ⟨#[]⟩ (by decide) hbw0)
  go_wp2_with fail
  refine HWA0.out.mono ?_
  rintro e wa0 ⟨rfl, hba0, hbl0⟩
  have hbwa0 : b ≤ wa0.heap.size := Nat.le_trans hbw0 hbl0.size
  have HWB0 := Lib.hid (writeText_x hba0 ⟨#[112, 94, 50]⟩ (by decide) hbwa0)
  clear hbd0 hba0 HWA0
  go_wp2_with fail
  refine HWB0.out.mono ?_
  rintro e wn0 ⟨rfl, wn0D, hbm0⟩
  have wn0b : b ≤ wn0.heap.size := Nat.le_trans hbwa0 hbm0.size
  have wn0X : Below b w1 wn0 := ((w0X.trans (hbv0.mono w0b)).trans (hbf0.mono (Nat.le_trans w0b hbv0.size))).trans (hbl0.trans hbm0)
  have wn0B : Below w1.heap.size w1 wn0 := by rw [HBN.out]; exact wn0X
  have wn0W : Below w.heap.size w wn0 := nextB hb1 wn0B
  have wn0R := ownsRow_below HROW.out wn0B
  clear HWB0 HFM0
  go_wp2

  obtain ⟨c0, c1, c2, c3, c4, c5, c6, c7, c8, c9, c10⟩ := row_cells (i := 1) (wn0R) h8 rfl rfl HYL.out
  simp only [Nat.one_mul, Nat.reduceAdd] at c0 c1 c2 c3 c4 c5 c6 c7 c8 c9 c10
  obtain ⟨v1, hv1⟩ : ∃ v, wn0.alloc (.cells #[.int .i64 0, .int .i64 2, .int .i64 0, .int .i64 0, .int .i64 0, .int .i64 0, .int .i64 0, .int .i64 0, .bool y.1.s, .slice y.1.A y.1.n y.1.c, .slice y.1.B y.1.m y.1.d] 43) = v := ⟨_, rfl⟩
  have hbv1 : Below wn0.heap.size wn0 v1 := hv1 ▸ (Below.refl _ wn0).alloc (Nat.le_refl _) _
  have hvs1 : v1.heap.size = wn0.heap.size + 1 := (alloc_facts hv1).2.2.2
  have HBX1 : Hid (∀ W, Below v1.heap.size v1 W → W.cell? ⟨wn0.heap.size, 8, none⟩ = some (.bool y.1.s)) := fun W hW => (hW.cell (p := ⟨wn0.heap.size, 8, none⟩) (by rw [hvs1]; exact Nat.lt_succ_self _)).trans (TermBox.mk (t := y.1) hv1).2.2.2.2.2.2.2.2.1
  obtain ⟨d0, d1, d2, d3, d4, d5, d6, d7, d8, d9, d10⟩ := TermBox.mk (t := y.1) hv1
  have wv1 : Below w.heap.size w v1 := wn0W.trans (hbv1.mono wn0W.size)
  have HFM1 := Lib.hid (formatQ (h := h) (HL.out.below wv1) (RY.out.below (wn0B.trans (hbv1.mono wn0B.size))) (.inr rfl) hK0 hK8 ((wv1.cell (p := ⟨h, 0, none⟩) hh).trans G0.out) ((wv1.cell (p := ⟨h, 1, none⟩) hh).trans G1.out) (Nat.lt_of_lt_of_le hh wv1.size))
  have HV1 := Lib.hid hv1
  clear hv1 hvs1
  rw [rounds_succ]
  go_wp2_with fail
  rw [HV1.out]
  refine HFM1.out.mono ?_
  rintro e wf1 ⟨rfl, hbf1⟩
  have e8 := HBX1.out wf1 hbf1
  clear c0 c1 c2 c3 c4 c5 c6 c7 c8 c9 c10 d0 d1 d2 d3 d4 d5 d6 d7 d8 d9 d10
  go_wp2_with fail
  refine (SG1.out wf1).mono ?_
  rintro e ws1 ⟨rfl, rfl⟩
  clear e8
  have hbd1 := (wn0D.below hbv1).below hbf1
  have hbw1 : b ≤ wf1.heap.size := Nat.le_trans (Nat.le_trans wn0b hbv1.size) hbf1.size
  have HWA1 := Lib.hid (writeText_x hbd1 ⟨#[32, 45, 32]⟩ (by decide) hbw1)
  go_wp2_with fail
  refine HWA1.out.mono ?_
  rintro e wa1 ⟨rfl, hba1, hbl1⟩
  have hbwa1 : b ≤ wa1.heap.size := Nat.le_trans hbw1 hbl1.size
  have HWB1 := Lib.hid (writeText_x hba1 ⟨#[113, 94, 50]⟩ (by decide) hbwa1)
  clear hbd1 hba1 HWA1
  go_wp2_with fail
  refine HWB1.out.mono ?_
  rintro e wn1 ⟨rfl, wn1D, hbm1⟩
  have wn1b : b ≤ wn1.heap.size := Nat.le_trans hbwa1 hbm1.size
  have wn1X : Below b w1 wn1 := ((wn0X.trans (hbv1.mono wn0b)).trans (hbf1.mono (Nat.le_trans wn0b hbv1.size))).trans (hbl1.trans hbm1)
  have wn1B : Below w1.heap.size w1 wn1 := by rw [HBN.out]; exact wn1X
  have wn1W : Below w.heap.size w wn1 := nextB hb1 wn1B
  have wn1R := ownsRow_below HROW.out wn1B
  clear HWB1 HFM1
  go_wp2

  rw [rounds_succ]
  go_wp2_with fail
  have htext : ((((⟨#[]⟩ : ByteArray) ++ (⟨#[]⟩ : ByteArray)) ++ (⟨#[112, 94, 50]⟩ : ByteArray)) ++ (⟨#[32, 45, 32]⟩ : ByteArray)) ++ (⟨#[113, 94, 50]⟩ : ByteArray) = ⟨([112, 94, 50, 32, 45, 32, 113, 94, 50] : List UInt8).toArray⟩ := by rfl
  rw [htext] at wn1D
  refine (string_x wn1D (by decide)).mono ?_
  rintro e wz ⟨rfl, hbz⟩
  have hB : Below w.heap.size w wz := wn1W.trans (hbz.mono (Nat.le_trans hb1.size (by rw [HBN.out]; exact Nat.le_refl _)))
  clear htext wn1D
  go_wp2
  go_ret2
  exact ⟨rfl, hB⟩
end Go.Proofs.YtgopolmmeadmpaaGreatDoor
