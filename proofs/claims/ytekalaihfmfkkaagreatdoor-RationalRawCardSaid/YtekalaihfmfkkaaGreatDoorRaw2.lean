/-
  exactppllaw02.RationalRaw returns true whatever the arguments.
-/
import Derived.Test.YtekalaihfmfkkaaGreatDoorAgree2
import Derived.Test.YtekalaihfmfkkaaGreatDoorShort2
namespace Go.Proofs.YtekalaihfmfkkaaGreatDoor
open Go.RowKit
set_option maxRecDepth 100000

set_option maxHeartbeats 1000000 in
theorem new_zero {w : World} {n d : Int} (n0 : -9223372036854775808 ≤ n) (n1 : n ≤ 9223372036854775807) (hd : d = 0) :
    Calls Tryz.prog 15 #[.int .i64 n, .int .i64 d] w (DivErr w) := by
  have HD := Lib.hid hd
  have d0 : -9223372036854775808 ≤ d := by omega
  have d1 : d ≤ 9223372036854775807 := by omega
  clear hd
  obtain ⟨v1, hv1⟩ : ∃ v1, w.alloc (.cells #[.bool false, .slice none 0 0, .slice none 0 0] 24) = v1 := ⟨_, rfl⟩
  obtain ⟨g, hg, hsz, hb1, hZ, hF⟩ := boxes0 w _ _ _ _ v1 hv1
  have HG := Lib.hid hg
  have HSZ := Lib.hid hsz
  have HZ := Lib.hid hZ
  have HF := Lib.hid hF
  have HV := Lib.hid hv1
  clear hZ hF hv1 hsz hg
  go_enter Tryz.func15, Tryz.ntmps15
  go_wp2_with fail
  rw [HV.out, ← HG.out]
  refine (magnitude_any n v1 n0 n1).mono ?_
  rintro e w5 ⟨A5, rfl, h5, o5, b5⟩
  go_wp2_with fail
  refine (magnitude_any d w5 d0 d1).mono ?_
  rintro e w6 ⟨A6, rfl, h6, o6, b6⟩
  have hk := nextB b5 b6
  have h60 : Num w6 A6 2 2 0 := by have h := h6; rw [HD.out] at h; exact h
  have HN := Lib.hid (make_zero (w := w6) (s := (decide (n < 0) != decide (d < 0))) (A := A5) (n := 2) (c := 2) h60)
  clear h5 h6 h60
  go_wp2_with fail
  refine HN.out.mono ?_
  rintro e w7 ⟨rfl, b7⟩
  replace hk := nextB hk b7
  obtain ⟨o0, o1, o2⟩ := HZ.out _ hk
  obtain ⟨f0, f1, f2⟩ := HF.out _ hk
  go_wp2
  exact bodyPost_ret (v := .tuple #[.agg #[.bool false, .slice none 0 0, .slice none 0 0], .int .i64 3]) (by simp [results, Tryz.results15, go_sem, o0, o1, o2]) rfl ⟨rfl, blank_end HG.out hb1 hk _ _ _⟩

set_option maxHeartbeats 1000000 in
theorem refNew_zero {w : World} {n : Int} :
    Calls Tryz.prog 16 #[.int .i64 n, .int .i64 0] w (DivErr w) := by
  obtain ⟨v1, hv1⟩ : ∃ v1, w.alloc (.cells #[.bool false, .slice none 0 0, .slice none 0 0] 24) = v1 := ⟨_, rfl⟩
  obtain ⟨g, hg, hsz, hb1, hZ, hF⟩ := boxes0 w _ _ _ _ v1 hv1
  have HG := Lib.hid hg
  have HZ := Lib.hid hZ
  have HF := Lib.hid hF
  have HV := Lib.hid hv1
  clear hZ hF hv1 hsz hg
  go_enter Tryz.func16, Tryz.ntmps16
  go_upto_region 2 with fail
  rw [HV.out, ← HG.out]
  obtain ⟨o0, o1, o2⟩ := HZ.out _ (Below.refl _ _)
  obtain ⟨f0, f1, f2⟩ := HF.out _ (Below.refl _ _)
  go_wp2
  exact bodyPost_ret (v := .tuple #[.agg #[.bool false, .slice none 0 0, .slice none 0 0], .int .i64 3]) (by simp [results, Tryz.results16, go_sem, o0, o1, o2]) rfl ⟨rfl, blank_end HG.out hb1 (Below.refl _ _) _ _ _⟩

theorem news_both {w : World} (hl : Laid w) {n d : Int} (n0 : -9223372036854775808 ≤ n) (n1 : n ≤ 9223372036854775807) (d0 : -9223372036854775808 ≤ d) (d1 : d ≤ 9223372036854775807) :
    ∃ b x y er, (∀ W, Below w.heap.size w W → Calls Tryz.prog 15 #[.int .i64 n, .int .i64 d] W (TriE W b x y er)) ∧ (∀ W, Below w.heap.size w W → Calls Tryz.prog 16 #[.int .i64 n, .int .i64 d] W (TriE W b x y er)) := by
  by_cases hd : d = 0
  · refine ⟨false, 0, 0, 3, fun W _ => (new_zero n0 n1 hd).mono fun _ _ h => h.tri, fun W _ => ?_⟩
    rw [hd]
    exact refNew_zero.mono fun _ _ h => h.tri
  · exact ⟨_, _, _, 0, fun W hW => (new_r (hl.below hW) n0 n1 d0 d1 hd).mono fun _ _ h => h.tri, fun W hW => (refNew_r n0 n1 d0 d1 hd).mono fun _ _ h => h.tri⟩
theorem GivesQ.tri {ng : Bool} {v1 e1 v2 e2 : Int} (c1 : e1 = 0 ∨ e1 = 9 ∨ e1 = 4) (c2 : e2 = 0 ∨ e2 = 9 ∨ e2 = 4) : ∃ b x y er, ∀ {w w' : World} {e : Ending}, GivesQ w ng v1 e1 v2 e2 e w' → TriE w b x y er e w' := by
  by_cases h4 : e1 = 4 ∨ e2 = 4
  · exact ⟨_, _, _, _, fun h => (h.1 h4).tri⟩
  · by_cases h9 : e1 = 9 ∨ e2 = 9
    · exact ⟨_, _, _, _, fun h => (h.2.1 (by omega) (by omega) h9).tri⟩
    · by_cases h0 : v2 = 0
      · exact ⟨_, _, _, _, fun h => (h.2.2.1 (by omega) (by omega) h0).tri⟩
      · exact ⟨_, _, _, _, fun h => (h.2.2.2 (by omega) (by omega) h0).tri⟩
theorem texts_both {w : World} (hl : Laid w) (s : ByteArray) (hs : s.size ≤ 1000000) :
    ∃ b x y er, (∀ W, Below w.heap.size w W → Calls Tryz.prog 17 #[.string s] W (TriE W b x y er)) ∧ (∀ W, Below w.heap.size w W → Calls Tryz.prog 18 #[.string s] W (TriE W b x y er)) := by
  obtain ⟨i, hi⟩ := cutAt_ex (unsigned s)
  obtain ⟨v1, e1, h1⟩ := readsAs_ex ((unsigned s).extract 0 i)
  obtain ⟨v2, e2, h2⟩ := readsAs_ex (second (unsigned s) i)
  obtain ⟨b, x, y, er, hT⟩ := GivesQ.tri (ng := signed s) (v1 := v1) (v2 := v2) h1.code h2.code
  exact ⟨b, x, y, er, fun W hW => (ratParse_g s i W (hl.below hW) hs hi h1 h2).mono fun _ _ h => hT h, fun W hW => (refParse_g s i W hs hi h1 h2).mono fun _ _ h => hT h⟩
theorem makes_both {w : World} (hl : Laid w) {s : Bool} {A B : Option Addr} {n c m d : Nat} {x y : Int} (hx : Num w A n c x) (hy : Num w B m d y) (hn : n ≤ 100) (hm : m ≤ 100) :
    ∃ b x y er, (∀ W, Below w.heap.size w W → Calls Tryz.prog 19 #[.bool s, .slice A n c, .slice B m d] W (TriE W b x y er)) ∧ (∀ W, Below w.heap.size w W → Calls Tryz.prog 20 #[.bool s, .slice A n c, .slice B m d] W (TriE W b x y er)) := by
  by_cases h0 : y = 0
  · subst h0
    exact ⟨false, 0, 0, 3, fun W hW => (make_zero (hy.below hW)).mono fun _ _ h => h.tri, fun W hW => (refMake_zero (hy.below hW) (by omega)).mono fun _ _ h => h.tri⟩
  · have y0 := hy.nonneg
    have hf : ∀ W, Below w.heap.size w W → Frac W s A n c B m d (rat s x y) 100 := fun W hW => ⟨x, y, hx.below hW, hy.below hW, by omega, rfl, hn, hm⟩
    exact ⟨_, _, _, 0, fun W hW => (make_r (hl.below hW) (hf W hW) (by decide)).mono fun _ _ h => h.tri, fun W hW => (refMake_r (hf W hW) (by decide)).mono fun _ _ h => h.tri⟩


set_option maxHeartbeats 40000000 in
theorem rationalRaw.walk {A B A' B' : Option Addr} {n c m d n' c' m' d' : Nat} {s s' : Bool} {x y x' y' nu de nn : Int} {tx : ByteArray} {w : World} (hl : Laid w) (gx : Num w A n c x) (gy : Num w B m d y) (gx' : Num w A' n' c' x') (gy' : Num w B' m' d' y')
    (w2 : (Lit.int .i64 nu).wf = true) (w3 : (Lit.int .i64 de).wf = true) (w4 : (Lit.int .i64 nn).wf = true) (w5 : tx.size ≤ maxLen) :
    Calls Tryz.prog 3 #[.agg #[.bool s, .slice A n c, .slice B m d], .agg #[.bool s', .slice A' n' c', .slice B' m' d'], .int .i64 nu, .int .i64 de, .int .i64 nn, .string tx] w (True1 w) := by
  obtain ⟨nu0, nu1⟩ := bounds_i64 w2
  obtain ⟨de0, de1⟩ := bounds_i64 w3
  obtain ⟨nn0, nn1⟩ := bounds_i64 w4
  unfold maxLen at w5
  obtain ⟨v, hv⟩ : ∃ v, (w.alloc (.cells #[.bool s, .slice A n c, .slice B m d] 24)).alloc (.cells #[.bool s', .slice A' n' c', .slice B' m' d'] 24) = v := ⟨_, rfl⟩
  obtain ⟨g, hg, hsz, bv, h_a, h_b, _⟩ := boxes1 w _ _ _ _ _ _ _ _ v hv
  have HA := Lib.hid h_a
  have HB := Lib.hid h_b
  have HG0 := Lib.hid hg
  have HV0 := Lib.hid hv
  replace gx := gx.below bv
  replace gy := gy.below bv
  replace gx' := gx'.below bv
  replace gy' := gy'.below bv
  replace hl := hl.below bv
  have NU : Hid (-9223372036854775808 ≤ nu ∧ nu ≤ 9223372036854775807) := ⟨nu0, nu1⟩
  have DE : Hid (-9223372036854775808 ≤ de ∧ de ≤ 9223372036854775807) := ⟨de0, de1⟩
  have NN : Hid (-9223372036854775808 ≤ nn ∧ nn ≤ 9223372036854775807) := ⟨nn0, nn1⟩
  clear h_a h_b hg hv hsz w2 w3 w4 nu0 nu1 de0 de1 nn0 nn1
  go_enter Tryz.func3, Tryz.ntmps3
  obtain ⟨a0, a1, a2⟩ := HA.out _ (Below.refl _ _)
  obtain ⟨b0, b1, b2⟩ := HB.out _ (Below.refl _ _)
  rw [← HV0.out, HG0.out] at a0 a1 a2 b0 b1 b2
  go_wp2_with fail
  rw [HV0.out, ← HG0.out]
  clear a0 a1 a2 b0 b1 b2
  by_cases h1 : 12 < n ∨ 12 < m
  · refine (short2_no s v h1).mono ?_
    rintro e w1 ⟨rfl, k1⟩
    go_wp2_with fail
    refine (awake2_any w1 (hl.below k1)).mono ?_
    rintro e w2 ⟨rfl, k2⟩
    go_wp2
    go_ret
    exact ⟨rfl, nextB bv (nextB k1 k2)⟩
  refine (short2_yes s v (by omega) (by omega)).mono ?_
  rintro e w1 ⟨rfl, k1⟩
  obtain ⟨b0, b1, b2⟩ := HB.out _ k1
  go_wp2_with fail
  clear b0 b1 b2
  by_cases h2 : 12 < n' ∨ 12 < m'
  · refine (short2_no s' w1 h2).mono ?_
    rintro e w2 ⟨rfl, k2⟩
    go_wp2_with fail
    refine (awake2_any w2 (hl.below (nextB k1 k2))).mono ?_
    rintro e w3 ⟨rfl, k3⟩
    go_wp2
    go_ret
    exact ⟨rfl, nextB bv (nextB (nextB k1 k2) k3)⟩
  refine (short2_yes s' w1 (by omega) (by omega)).mono ?_
  rintro e w2 ⟨rfl, k2⟩
  by_cases h3 : 200 < tx.size
  · have h4 : (200 : Int) < tx.size := by omega
    go_wp2_with fail
    refine (awake2_any w2 (hl.below (nextB k1 k2))).mono ?_
    rintro e w3 ⟨rfl, k3⟩
    go_wp2
    go_ret
    exact ⟨rfl, nextB bv (nextB (nextB k1 k2) k3)⟩
  have k12 := nextB k1 k2
  replace gx := gx.below k12
  replace gy := gy.below k12
  replace gx' := gx'.below k12
  replace gy' := gy'.below k12
  replace hl := hl.below k12
  replace HA := Lib.hid (fun W (hW : Below w2.heap.size w2 W) => HA.out W (nextB k12 hW))
  replace HB := Lib.hid (fun W (hW : Below w2.heap.size w2 W) => HB.out W (nextB k12 hW))
  have bw := nextB bv k12
  obtain ⟨bn, xn, yn, en, hN1, hN2⟩ := news_both hl NU.out.1 NU.out.2 DE.out.1 DE.out.2
  obtain ⟨bp, xp, yp, ep, hP1, hP2⟩ := texts_both hl tx (by omega)
  obtain ⟨bm, xm, ym, em, hM1, hM2⟩ := makes_both (s := s) hl gx gx' (by omega) (by omega)
  have N1 := Lib.hid hN1
  have N2 := Lib.hid hN2
  have P1 := Lib.hid hP1
  have P2 := Lib.hid hP2
  have M1 := Lib.hid hM1
  have M2 := Lib.hid hM2
  obtain ⟨q, hq⟩ : ∃ q, rat s x y = q := ⟨_, rfl⟩
  obtain ⟨q', hq'⟩ : ∃ q', rat s' x' y' = q' := ⟨_, rfl⟩
  have la : Loose w2 s A n c B m d q 12 := ⟨x, y, gx, gy, hq, by omega, by omega⟩
  have lb : Loose w2 s' A' n' c' B' m' d' q' 12 := ⟨x', y', gx', gy', hq', by omega, by omega⟩
  have h5 : ¬ (200 : Int) < tx.size := by omega
  clear hN1 hN2 hP1 hP2 hM1 hM2 hq hq' gx gy gx' gy' k1 k2 k12 bv h1 h2 h3 NU DE
  have hk := Below.refl w2.heap.size w2
  go_wp2_with fail
  refine (N1.out _ hk).mono ?_
  rintro e w11 ⟨t11, A11, n11, c11, B11, m11, d11, rfl, r11, e11⟩
  obtain ⟨v11, hv⟩ : ∃ v, w11.alloc (.cells #[.bool t11, .slice A11 n11 c11, .slice B11 m11 d11] 24) = v := ⟨_, rfl⟩
  obtain ⟨g11, hg, hs, hb, hX, _⟩ := boxes0 w11 _ _ _ _ v11 hv
  have X11 := Lib.hid hX
  have HG11 := Lib.hid hg
  have HV11 := Lib.hid hv
  have R11 := Lib.hid (r11.below hb)
  have st := nextB e11 hb
  replace hk := nextB hk st
  clear hX hg hs hv hb r11 e11 st N1
  go_wp2_with fail
  rw [HV11.out, ← HG11.out]
  refine (N2.out _ hk).mono ?_
  rintro e w12 ⟨t12, A12, n12, c12, B12, m12, d12, rfl, r12, e12⟩
  obtain ⟨v12, hv⟩ : ∃ v, w12.alloc (.cells #[.bool t12, .slice A12 n12 c12, .slice B12 m12 d12] 24) = v := ⟨_, rfl⟩
  obtain ⟨g12, hg, hs, hb, hX, _⟩ := boxes0 w12 _ _ _ _ v12 hv
  have X12 := Lib.hid hX
  have HG12 := Lib.hid hg
  have HV12 := Lib.hid hv
  have R12 := Lib.hid (r12.below hb)
  have st := nextB e12 hb
  replace hk := nextB hk st
  replace X11 := Lib.hid (fun W (hW : Below v12.heap.size v12 W) => X11.out W (nextB st hW))
  replace R11 := Lib.hid (R11.out.below st)
  clear hX hg hs hv hb r12 e12 st N2
  go_wp2_with fail
  rw [HV12.out, ← HG12.out]
  refine (P1.out _ hk).mono ?_
  rintro e w13 ⟨t13, A13, n13, c13, B13, m13, d13, rfl, r13, e13⟩
  obtain ⟨v13, hv⟩ : ∃ v, w13.alloc (.cells #[.bool t13, .slice A13 n13 c13, .slice B13 m13 d13] 24) = v := ⟨_, rfl⟩
  obtain ⟨g13, hg, hs, hb, hX, _⟩ := boxes0 w13 _ _ _ _ v13 hv
  have X13 := Lib.hid hX
  have HG13 := Lib.hid hg
  have HV13 := Lib.hid hv
  have R13 := Lib.hid (r13.below hb)
  have st := nextB e13 hb
  replace hk := nextB hk st
  replace X11 := Lib.hid (fun W (hW : Below v13.heap.size v13 W) => X11.out W (nextB st hW))
  replace R11 := Lib.hid (R11.out.below st)
  replace X12 := Lib.hid (fun W (hW : Below v13.heap.size v13 W) => X12.out W (nextB st hW))
  replace R12 := Lib.hid (R12.out.below st)
  clear hX hg hs hv hb r13 e13 st P1
  go_wp2_with fail
  rw [HV13.out, ← HG13.out]
  refine (P2.out _ hk).mono ?_
  rintro e w14 ⟨t14, A14, n14, c14, B14, m14, d14, rfl, r14, e14⟩
  obtain ⟨v14, hv⟩ : ∃ v, w14.alloc (.cells #[.bool t14, .slice A14 n14 c14, .slice B14 m14 d14] 24) = v := ⟨_, rfl⟩
  obtain ⟨g14, hg, hs, hb, hX, _⟩ := boxes0 w14 _ _ _ _ v14 hv
  have X14 := Lib.hid hX
  have HG14 := Lib.hid hg
  have HV14 := Lib.hid hv
  have R14 := Lib.hid (r14.below hb)
  have st := nextB e14 hb
  replace hk := nextB hk st
  replace X11 := Lib.hid (fun W (hW : Below v14.heap.size v14 W) => X11.out W (nextB st hW))
  replace R11 := Lib.hid (R11.out.below st)
  replace X12 := Lib.hid (fun W (hW : Below v14.heap.size v14 W) => X12.out W (nextB st hW))
  replace R12 := Lib.hid (R12.out.below st)
  replace X13 := Lib.hid (fun W (hW : Below v14.heap.size v14 W) => X13.out W (nextB st hW))
  replace R13 := Lib.hid (R13.out.below st)
  clear hX hg hs hv hb r14 e14 st P2
  obtain ⟨a0, a1, a2⟩ := HA.out _ hk
  obtain ⟨b0, b1, b2⟩ := HB.out _ hk
  rw [← HV14.out] at a0 a1 a2 b0 b1 b2
  go_wp2_with fail
  rw [HV14.out, ← HG14.out]
  clear a0 a1 a2 b0 b1 b2
  refine (M1.out _ hk).mono ?_
  rintro e w15 ⟨t15, A15, n15, c15, B15, m15, d15, rfl, r15, e15⟩
  obtain ⟨v15, hv⟩ : ∃ v, w15.alloc (.cells #[.bool t15, .slice A15 n15 c15, .slice B15 m15 d15] 24) = v := ⟨_, rfl⟩
  obtain ⟨g15, hg, hs, hb, hX, _⟩ := boxes0 w15 _ _ _ _ v15 hv
  have X15 := Lib.hid hX
  have HG15 := Lib.hid hg
  have HV15 := Lib.hid hv
  have R15 := Lib.hid (r15.below hb)
  have st := nextB e15 hb
  replace hk := nextB hk st
  replace X11 := Lib.hid (fun W (hW : Below v15.heap.size v15 W) => X11.out W (nextB st hW))
  replace R11 := Lib.hid (R11.out.below st)
  replace X12 := Lib.hid (fun W (hW : Below v15.heap.size v15 W) => X12.out W (nextB st hW))
  replace R12 := Lib.hid (R12.out.below st)
  replace X13 := Lib.hid (fun W (hW : Below v15.heap.size v15 W) => X13.out W (nextB st hW))
  replace R13 := Lib.hid (R13.out.below st)
  replace X14 := Lib.hid (fun W (hW : Below v15.heap.size v15 W) => X14.out W (nextB st hW))
  replace R14 := Lib.hid (R14.out.below st)
  clear hX hg hs hv hb r15 e15 st M1
  obtain ⟨a0, a1, a2⟩ := HA.out _ hk
  obtain ⟨b0, b1, b2⟩ := HB.out _ hk
  rw [← HV15.out] at a0 a1 a2 b0 b1 b2
  go_wp2_with fail
  rw [HV15.out, ← HG15.out]
  clear a0 a1 a2 b0 b1 b2
  refine (M2.out _ hk).mono ?_
  rintro e w16 ⟨t16, A16, n16, c16, B16, m16, d16, rfl, r16, e16⟩
  obtain ⟨v16, hv⟩ : ∃ v, w16.alloc (.cells #[.bool t16, .slice A16 n16 c16, .slice B16 m16 d16] 24) = v := ⟨_, rfl⟩
  obtain ⟨g16, hg, hs, hb, hX, _⟩ := boxes0 w16 _ _ _ _ v16 hv
  have X16 := Lib.hid hX
  have HG16 := Lib.hid hg
  have HV16 := Lib.hid hv
  have R16 := Lib.hid (r16.below hb)
  have st := nextB e16 hb
  replace hk := nextB hk st
  replace X11 := Lib.hid (fun W (hW : Below v16.heap.size v16 W) => X11.out W (nextB st hW))
  replace R11 := Lib.hid (R11.out.below st)
  replace X12 := Lib.hid (fun W (hW : Below v16.heap.size v16 W) => X12.out W (nextB st hW))
  replace R12 := Lib.hid (R12.out.below st)
  replace X13 := Lib.hid (fun W (hW : Below v16.heap.size v16 W) => X13.out W (nextB st hW))
  replace R13 := Lib.hid (R13.out.below st)
  replace X14 := Lib.hid (fun W (hW : Below v16.heap.size v16 W) => X14.out W (nextB st hW))
  replace R14 := Lib.hid (R14.out.below st)
  replace X15 := Lib.hid (fun W (hW : Below v16.heap.size v16 W) => X15.out W (nextB st hW))
  replace R15 := Lib.hid (R15.out.below st)
  clear hX hg hs hv hb r16 e16 st M2
  replace la := la.below hk
  replace lb := lb.below hk
  replace hl := hl.below hk
  replace HA := Lib.hid (fun W (hW : Below v16.heap.size v16 W) => HA.out W (nextB hk hW))
  replace HB := Lib.hid (fun W (hW : Below v16.heap.size v16 W) => HB.out W (nextB hk hW))
  replace bw := nextB bw hk
  clear hk
  have hk := Below.refl v16.heap.size v16
  obtain ⟨x0, x1, x2⟩ := X11.out _ hk
  obtain ⟨y0, y1, y2⟩ := X12.out _ hk
  rw [← HV16.out] at x0 x1 x2 y0 y1 y2
  go_wp2_with fail
  rw [HV16.out, ← HG16.out]
  clear x0 x1 x2 y0 y1 y2
  refine (sameT (R11.out.below hk) (R12.out.below hk)).mono ?_
  rintro e w21 ⟨rfl, e21⟩
  replace hk := nextB hk e21
  clear e21 X11 X12 R11 R12
  obtain ⟨x0, x1, x2⟩ := X13.out _ hk
  obtain ⟨y0, y1, y2⟩ := X14.out _ hk
  go_wp2_with fail
  clear x0 x1 x2 y0 y1 y2
  refine (sameT (R13.out.below hk) (R14.out.below hk)).mono ?_
  rintro e w22 ⟨rfl, e22⟩
  replace hk := nextB hk e22
  clear e22 X13 X14 R13 R14
  obtain ⟨x0, x1, x2⟩ := X15.out _ hk
  obtain ⟨y0, y1, y2⟩ := X16.out _ hk
  go_wp2_with fail
  clear x0 x1 x2 y0 y1 y2
  refine (sameT (R15.out.below hk) (R16.out.below hk)).mono ?_
  rintro e w23 ⟨rfl, e23⟩
  replace hk := nextB hk e23
  clear e23 X15 X16 R15 R16
  go_wp2_with fail
  refine (int_r (hl.below hk) NN.out.1 NN.out.2).mono ?_
  rintro e w24 ⟨s24, A24, n24, c24, B24, m24, d24, rfl, r24, _, _, e24⟩
  replace hk := nextB hk e24
  go_wp2_with fail
  refine (refIntR NN.out.1 NN.out.2).mono ?_
  rintro e w25 ⟨s25, A25, n25, c25, B25, m25, d25, rfl, r25, _, _, e25⟩
  replace hk := nextB hk e25
  go_wp2_with fail
  refine (sameT (r24.below e25).tri r25.tri).mono ?_
  rintro e w26 ⟨rfl, e26⟩
  replace hk := nextB hk e26
  clear e24 e25 e26 r24 r25
  obtain ⟨a0, a1, a2⟩ := HA.out _ hk
  obtain ⟨b0, b1, b2⟩ := HB.out _ hk
  go_wp2_with fail
  clear a0 a1 a2 b0 b1 b2
  refine (agrees_r (hl.below hk) (la.below hk) (lb.below hk) (by decide) (by decide) (by decide) (by decide)).mono ?_
  rintro e w27 ⟨rfl, e27⟩
  replace hk := nextB hk e27
  go_wp2_with fail
  refine (awake2_any w27 (hl.below hk)).mono ?_
  rintro e w28 ⟨rfl, e28⟩
  go_wp2
  go_ret
  exact ⟨rfl, nextB bw (nextB hk e28)⟩
end Go.Proofs.YtekalaihfmfkkaaGreatDoor
