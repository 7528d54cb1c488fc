/-
  exactppllaw02.agrees: the functions of two fractions agree with the reference.
-/
import Derived.Test.YtekalaihfmfkkaaGreatDoorRefP
import Derived.Test.YtekalaihfmfkkaaGreatDoorRefPw
namespace Go.Proofs.YtekalaihfmfkkaaGreatDoor
open Go.RowKit
set_option maxRecDepth 100000

/-- The three parts of a fraction as it lies in memory. -/
def Tri (w : World) (s : Bool) (A : Option Addr) (n c : Nat) (B : Option Addr) (m d : Nat) (b : Bool) (x y : Int) : Prop := s = b ∧ Nrm w A n c x ∧ Nrm w B m d y
/-- A fraction and an error code. -/
def TriE (w : World) (b : Bool) (x y er : Int) (e : Ending) (w' : World) : Prop :=
  ∃ s A n c B m d, e = .returned (.tuple #[.agg #[.bool s, .slice A n c, .slice B m d], .int .i64 er]) ∧ Tri w' s A n c B m d b x y ∧ Below w.heap.size w w'
section
variable {w w' : World} {s s' : Bool} {A B A' B' : Option Addr} {n c m d n' c' m' d' k k' : Nat} {q q' : Rat} {b : Bool} {x y er : Int} {e : Ending}
theorem Tri.below (h : Tri w s A n c B m d b x y) (hb : Below w.heap.size w w') : Tri w' s A n c B m d b x y := ⟨h.1, h.2.1.below hb, h.2.2.below hb⟩
theorem RN.tri (h : RN w s A n c B m d q k) : Tri w s A n c B m d (decide (q.num < 0)) (q.num.natAbs : Int) (q.den : Int) := ⟨h.1, h.2.1, h.2.2.1⟩
theorem GivesROk.tri (h : GivesROk w q k e w') : TriE w (decide (q.num < 0)) (q.num.natAbs : Int) (q.den : Int) 0 e w' := by
  obtain ⟨s, A, n, c, B, m, d, he, h1, _, _, hb⟩ := h
  exact ⟨s, A, n, c, B, m, d, he, h1.tri, hb⟩
theorem BlankE.tri (h : BlankE w er e w') : TriE w false 0 0 er e w' := ⟨_, _, _, _, _, _, _, h.1, ⟨rfl, nrm_nil _, nrm_nil _⟩, h.2⟩
theorem DivErr.tri (h : DivErr w e w') : TriE w false 0 0 3 e w' := ⟨_, _, _, _, _, _, _, h.1, ⟨rfl, nrm_nil _, nrm_nil _⟩, h.2⟩
theorem sameT (h : Tri w s A n c B m d b x y) (h' : Tri w s' A' n' c' B' m' d' b x y) :
    Calls Tryz.prog 21 #[.agg #[.bool s, .slice A n c, .slice B m d], .agg #[.bool s', .slice A' n' c', .slice B' m' d']] w (BoolB w true) := by
  obtain ⟨hs1, h1, h2⟩ := h
  obtain ⟨hs2, h1', h2'⟩ := h'
  rw [hs1, hs2]
  clear hs1 hs2
  have hb2 := ((Below.refl w.heap.size w).alloc (Nat.le_refl _) (.cells #[.bool b, .slice A n c, .slice B m d] 24)).alloc (by simp) (.cells #[.bool b, .slice A' n' c', .slice B' m' d'] 24)
  have S1 := Lib.hid (same_n (h1.below hb2) (h1'.below hb2) rfl)
  go_enter Tryz.func21, Tryz.ntmps21
  cases b
  all_goals
    go_wp2_with fail
    refine S1.out.mono ?_
    rintro e w5 ⟨rfl, kk, rfl⟩
    have S2 := Lib.hid (same_n (h2.below (drewN_below hb2 kk)) (h2'.below (drewN_below hb2 kk)) rfl)
    go_wp2_with fail
    refine S2.out.mono ?_
    rintro e w6 ⟨rfl, kk', rfl⟩
    go_wp2
    go_ret
    exact ⟨rfl, drewN_below hb2 (kk + kk')⟩
theorem divs_both (hl : Laid w) (h : Loose w s A n c B m d q k) (h' : Loose w s' A' n' c' B' m' d' q' k') (k0 : 1 ≤ k) (k1 : 1 ≤ k') (hk8 : k ≤ 10000) (hk9 : k' ≤ 10000) :
    ∃ b x y er, (∀ W, Below w.heap.size w W → Calls Tryz.prog 81 #[.agg #[.bool s, .slice A n c, .slice B m d], .agg #[.bool s', .slice A' n' c', .slice B' m' d']] W (TriE W b x y er)) ∧
      (∀ W, Below w.heap.size w W → Calls Tryz.prog 82 #[.agg #[.bool s, .slice A n c, .slice B m d], .agg #[.bool s', .slice A' n' c', .slice B' m' d']] W (TriE W b x y er)) := by
  by_cases hq : q' = 0
  · exact ⟨false, 0, 0, 3, fun W hW => (div_zero (h.below hW) (h'.below hW) k1 hq).mono fun _ _ h => h.tri, fun W hW => (refDivZ (h.below hW) (h'.below hW) k0 k1 (by omega) (by omega) hq).mono fun _ _ h => h.tri⟩
  · exact ⟨_, _, _, 0, fun W hW => (div_r (hl.below hW) (h.below hW) (h'.below hW) k0 k1 (by omega) (by omega) hq).mono fun _ _ h => h.tri, fun W hW => (refDivR (h.below hW) (h'.below hW) k0 k1 (by omega) (by omega) hq).mono fun _ _ h => h.tri⟩

set_option maxHeartbeats 40000000 in
theorem agrees_r (hl : Laid w) (h : Loose w s A n c B m d q k) (h' : Loose w s' A' n' c' B' m' d' q' k') (k0 : 1 ≤ k) (k1 : 1 ≤ k') (hk8 : k ≤ 1000) (hk9 : k' ≤ 1000) :
    Calls Tryz.prog 24 #[.agg #[.bool s, .slice A n c, .slice B m d], .agg #[.bool s', .slice A' n' c', .slice B' m' d']] w (True1 w) := by
  obtain ⟨v, hv⟩ : ∃ v, (w.alloc (.cells #[.bool s, .slice A n c, .slice B m d] 24)).alloc (.cells #[.bool s', .slice A' n' c', .slice B' m' d'] 24) = v := ⟨_, rfl⟩
  obtain ⟨g, hg, hsz, bv, h_a, h_b, _⟩ := boxes1 w _ _ _ _ _ _ _ _ v hv
  have HA := Lib.hid h_a
  have HB := Lib.hid h_b
  have HG := Lib.hid hg
  have HV := Lib.hid hv
  replace h := h.below bv
  replace h' := h'.below bv
  replace hl := hl.below bv
  obtain ⟨bd, xd, yd, ed, hD1, hD2⟩ := divs_both hl h h' k0 k1 (by omega) (by omega)
  have D1 := Lib.hid hD1
  have D2 := Lib.hid hD2
  clear h_a h_b hg hv hsz hD1 hD2
  go_enter Tryz.func24, Tryz.ntmps24
  obtain ⟨a0, a1, a2⟩ := HA.out _ (Below.refl _ _)
  obtain ⟨b0, b1, b2⟩ := HB.out _ (Below.refl _ _)
  rw [← HV.out, HG.out] at a0 a1 a2 b0 b1 b2
  go_wp2_with fail
  rw [HV.out, ← HG.out]
  clear a0 a1 a2 b0 b1 b2
  refine (D1.out _ (Below.refl _ _)).mono ?_
  rintro e w1 ⟨t1, A1, n1, c1, B1, m1, d1, rfl, r1, e1⟩
  obtain ⟨v1, hv1⟩ : ∃ v1, w1.alloc (.cells #[.bool t1, .slice A1 n1 c1, .slice B1 m1 d1] 24) = v1 := ⟨_, rfl⟩
  obtain ⟨gx, hgx, hsx, hbx, hX, _⟩ := boxes0 w1 _ _ _ _ v1 hv1
  have HX := Lib.hid hX
  have HGX := Lib.hid hgx
  have HVX := Lib.hid hv1
  have k11 := nextB e1 hbx
  replace r1 := r1.below hbx
  clear hX hgx hsx hv1 D1
  obtain ⟨a0, a1, a2⟩ := HA.out _ k11
  obtain ⟨b0, b1, b2⟩ := HB.out _ k11
  rw [← HVX.out] at a0 a1 a2 b0 b1 b2
  go_wp2_with fail
  rw [HVX.out, ← HGX.out]
  clear a0 a1 a2 b0 b1 b2
  refine (D2.out _ k11).mono ?_
  rintro e w2 ⟨t2, A2, n2, c2, B2, m2, d2, rfl, r2, e2⟩
  obtain ⟨u, hu⟩ : ∃ u, w2.alloc (.cells #[.bool t2, .slice A2 n2 c2, .slice B2 m2 d2] 24) = u := ⟨_, rfl⟩
  obtain ⟨gy, hgy, hsy, hby, hY, _⟩ := boxes0 w2 _ _ _ _ u hu
  have HY := Lib.hid hY
  have HGY := Lib.hid hgy
  have HVY := Lib.hid hu
  have kvu := nextB k11 (nextB e2 hby)
  have HX2 := Lib.hid (fun W (hW : Below u.heap.size u W) => HX.out W (nextB (nextB e2 hby) hW))
  have HA2 := Lib.hid (fun W (hW : Below u.heap.size u W) => HA.out W (nextB kvu hW))
  have HB2 := Lib.hid (fun W (hW : Below u.heap.size u W) => HB.out W (nextB kvu hW))
  replace r1 := r1.below (nextB e2 hby)
  replace r2 := r2.below hby
  have R1 := Lib.hid r1
  have R2 := Lib.hid r2
  replace h := h.below kvu
  replace h' := h'.below kvu
  replace hl := hl.below kvu
  have bwu := nextB bv kvu
  have hk := Below.refl u.heap.size u
  clear hY hgy hsy hu D2 HX HA HB e1 hbx k11 e2 hby kvu bv r1 r2
  obtain ⟨a0, a1, a2⟩ := HA2.out _ hk
  obtain ⟨b0, b1, b2⟩ := HB2.out _ hk
  rw [← HVY.out] at a0 a1 a2 b0 b1 b2
  go_upto_region 3 with fail
  rw [HVY.out, ← HGY.out]
  clear a0 a1 a2 b0 b1 b2
  try dsimp only [List.append]
  replace hk : Below u.heap.size u u.drew := (Below.refl _ _).drew
  refine wp_region_held_drew (S := (fun W => (W.cell? ⟨g, 0, none⟩ = some (.bool s) ∧ W.cell? ⟨g, 1, none⟩ = some (.slice A n c) ∧ W.cell? ⟨g, 2, none⟩ = some (.slice B m d)) ∧ (W.cell? ⟨g + 1, 0, none⟩ = some (.bool s') ∧ W.cell? ⟨g + 1, 1, none⟩ = some (.slice A' n' c') ∧ W.cell? ⟨g + 1, 2, none⟩ = some (.slice B' m' d')) ∧ (W.cell? ⟨gx, 0, none⟩ = some (.bool t1) ∧ W.cell? ⟨gx, 1, none⟩ = some (.slice A1 n1 c1) ∧ W.cell? ⟨gx, 2, none⟩ = some (.slice B1 m1 d1)) ∧ (W.cell? ⟨gy, 0, none⟩ = some (.bool t2) ∧ W.cell? ⟨gy, 1, none⟩ = some (.slice A2 n2 c2) ∧ W.cell? ⟨gy, 2, none⟩ = some (.slice B2 m2 d2)))) (by kernel_rfl) ?_ (fun hHeld => ?_)
  · exact ⟨HA2.out _ hk, HB2.out _ hk, HX2.out _ hk, HY.out _ hk⟩
  refine wpAnyH_take (i := 0) (oi := ⟨some 21, _, _, _, _, _⟩) (v := ?_) rfl (by kernel_rfl) (by kernel_rfl) (by kernel_rfl) (fun _ _ _ h => h) (Or.inl ⟨by rfl, ?_⟩) (by assumption) ?_
  rotate_left
  · intro w hSw
    (try dsimp only at hSw)
    go_simp
    try with_reducible rfl
  try simp only [Act.put, List.setIfInBounds_toArray, List.set_cons_zero, List.set_cons_succ]
  refine wpAnyH_take (i := 2) (oi := ⟨some 23, _, _, _, _, _⟩) (v := ?_) rfl (by kernel_rfl) (by kernel_rfl) (by kernel_rfl) (fun _ _ _ h => h) (Or.inl ⟨by rfl, ?_⟩) (by assumption) ?_
  rotate_left
  · intro w hSw
    (try dsimp only at hSw)
    go_simp
    try with_reducible rfl
  try simp only [Act.put, List.setIfInBounds_toArray, List.set_cons_zero, List.set_cons_succ]
  refine wpAnyH_ready (rs := [1]) (by kernel_rfl) (by simp) ?_
  refine AllReadyH.cons (o := ⟨some 22, _, _, _, _, _⟩) rfl (fun K hK => ?_) AllReadyH.nil
  go_simp
  go_at_call 83
  refine (norm_r (hl.below hk) (h.below hk) k0 (by omega)).mono ?_
  rintro e w11 ⟨s11, A11, n11, c11, B11, m11, d11, rfl, r11, _, _, e11⟩
  replace hk := nextB hk e11
  go_wp2_with fail
  refine hK.out _ _ ⟨HA2.out _ hk, HB2.out _ hk, HX2.out _ hk, HY.out _ hk⟩ (fun hHeld => ?_)
  clear hK K
  try simp only [Act.put, List.setIfInBounds_toArray, List.set_cons_zero, List.set_cons_succ]
  refine wpAnyH_ready (rs := [3]) (by kernel_rfl) (by simp) ?_
  refine AllReadyH.cons (o := ⟨some 24, _, _, _, _, _⟩) rfl (fun K hK => ?_) AllReadyH.nil
  go_simp
  go_at_call 84
  refine (refNorm_of (h.below hk) (Below.refl _ _) k0 (by omega)).mono ?_
  rintro e w12 ⟨s12, A12, n12, c12, B12, m12, d12, rfl, r12, _, _, e12⟩
  replace hk := nextB hk e12
  go_wp2_with fail
  refine hK.out _ _ ⟨HA2.out _ hk, HB2.out _ hk, HX2.out _ hk, HY.out _ hk⟩ (fun hHeld => ?_)
  clear hK K
  try simp only [Act.put, List.setIfInBounds_toArray, List.set_cons_zero, List.set_cons_succ]
  refine wpAnyH_ready (rs := [4]) (by kernel_rfl) (by simp) ?_
  refine AllReadyH.cons (o := ⟨some 25, _, _, _, _, _⟩) rfl (fun K hK => ?_) AllReadyH.nil
  go_simp
  go_at_call 21
  refine (sameT (r11.below e12).tri r12.tri).mono ?_
  rintro e w13 ⟨rfl, e13⟩
  replace hk := nextB hk e13
  clear r11 r12 e11 e12 e13
  go_wp2_with fail
  refine hK.out _ _ ⟨HA2.out _ hk, HB2.out _ hk, HX2.out _ hk, HY.out _ hk⟩ (fun hHeld => ?_)
  clear hK K
  try simp only [Act.put, List.setIfInBounds_toArray, List.set_cons_zero, List.set_cons_succ]
  refine wpAnyH_take (i := 5) (oi := ⟨some 26, _, _, _, _, _⟩) (v := ?_) rfl (by kernel_rfl) (by kernel_rfl) (by kernel_rfl) (fun _ _ _ h => h) (Or.inl ⟨by rfl, ?_⟩) (by assumption) ?_
  rotate_left
  · intro w hSw
    (try dsimp only at hSw)
    go_simp
    try with_reducible rfl
  try simp only [Act.put, List.setIfInBounds_toArray, List.set_cons_zero, List.set_cons_succ]
  refine wpAnyH_take (i := 6) (oi := ⟨some 27, _, _, _, _, _⟩) (v := ?_) rfl (by kernel_rfl) (by kernel_rfl) (by kernel_rfl) (fun _ _ _ h => h) (Or.inl ⟨by rfl, ?_⟩) (by assumption) ?_
  rotate_left
  · intro w hSw
    (try dsimp only at hSw)
    go_simp
    try with_reducible rfl
  try simp only [Act.put, List.setIfInBounds_toArray, List.set_cons_zero, List.set_cons_succ]
  refine wpAnyH_take (i := 7) (oi := ⟨some 28, _, _, _, _, _⟩) (v := ?_) rfl (by kernel_rfl) (by kernel_rfl) (by kernel_rfl) (fun _ _ _ h => h) (Or.inl ⟨by rfl, ?_⟩) (by assumption) ?_
  rotate_left
  · intro w hSw
    (try dsimp only at hSw)
    go_simp
    try with_reducible rfl
  try simp only [Act.put, List.setIfInBounds_toArray, List.set_cons_zero, List.set_cons_succ]
  refine wpAnyH_take (i := 9) (oi := ⟨some 30, _, _, _, _, _⟩) (v := ?_) rfl (by kernel_rfl) (by kernel_rfl) (by kernel_rfl) (fun _ _ _ h => h) (Or.inl ⟨by rfl, ?_⟩) (by assumption) ?_
  rotate_left
  · intro w hSw
    (try dsimp only at hSw)
    go_simp
    try with_reducible rfl
  try simp only [Act.put, List.setIfInBounds_toArray, List.set_cons_zero, List.set_cons_succ]
  refine wpAnyH_take (i := 10) (oi := ⟨some 31, _, _, _, _, _⟩) (v := ?_) rfl (by kernel_rfl) (by kernel_rfl) (by kernel_rfl) (fun _ _ _ h => h) (Or.inl ⟨by rfl, ?_⟩) (by assumption) ?_
  rotate_left
  · intro w hSw
    (try dsimp only at hSw)
    go_simp
    try with_reducible rfl
  try simp only [Act.put, List.setIfInBounds_toArray, List.set_cons_zero, List.set_cons_succ]
  refine wpAnyH_ready (rs := [8]) (by kernel_rfl) (by simp) ?_
  refine AllReadyH.cons (o := ⟨some 29, _, _, _, _, _⟩) rfl (fun K hK => ?_) AllReadyH.nil
  go_simp
  go_at_call 68
  refine (add_r (hl.below hk) (h.below hk) (h'.below hk) k0 k1 (by omega) (by omega)).mono ?_
  rintro e w14 ⟨s14, A14, n14, c14, B14, m14, d14, rfl, r14, _, _, e14⟩
  replace hk := nextB hk e14
  go_wp2_with fail
  refine hK.out _ _ ⟨HA2.out _ hk, HB2.out _ hk, HX2.out _ hk, HY.out _ hk⟩ (fun hHeld => ?_)
  clear hK K
  try simp only [Act.put, List.setIfInBounds_toArray, List.set_cons_zero, List.set_cons_succ]
  refine wpAnyH_ready (rs := [11]) (by kernel_rfl) (by simp) ?_
  refine AllReadyH.cons (o := ⟨some 32, _, _, _, _, _⟩) rfl (fun K hK => ?_) AllReadyH.nil
  go_simp
  go_at_call 53
  refine (refAddR (h.below hk) (h'.below hk) k0 k1 (by omega) (by omega)).mono ?_
  rintro e w15 ⟨s15, A15, n15, c15, B15, m15, d15, rfl, r15, _, _, e15⟩
  replace hk := nextB hk e15
  go_wp2_with fail
  refine hK.out _ _ ⟨HA2.out _ hk, HB2.out _ hk, HX2.out _ hk, HY.out _ hk⟩ (fun hHeld => ?_)
  clear hK K
  try simp only [Act.put, List.setIfInBounds_toArray, List.set_cons_zero, List.set_cons_succ]
  refine wpAnyH_ready (rs := [12]) (by kernel_rfl) (by simp) ?_
  refine AllReadyH.cons (o := ⟨some 33, _, _, _, _, _⟩) rfl (fun K hK => ?_) AllReadyH.nil
  go_simp
  go_at_call 21
  refine (sameT (r14.below e15).tri r15.tri).mono ?_
  rintro e w16 ⟨rfl, e16⟩
  replace hk := nextB hk e16
  clear r14 r15 e14 e15 e16
  go_wp2_with fail
  refine hK.out _ _ ⟨HA2.out _ hk, HB2.out _ hk, HX2.out _ hk, HY.out _ hk⟩ (fun hHeld => ?_)
  clear hK K
  try simp only [Act.put, List.setIfInBounds_toArray, List.set_cons_zero, List.set_cons_succ]
  refine wpAnyH_take (i := 13) (oi := ⟨some 34, _, _, _, _, _⟩) (v := ?_) rfl (by kernel_rfl) (by kernel_rfl) (by kernel_rfl) (fun _ _ _ h => h) (Or.inl ⟨by rfl, ?_⟩) (by assumption) ?_
  rotate_left
  · intro w hSw
    (try dsimp only at hSw)
    go_simp
    try with_reducible rfl
  try simp only [Act.put, List.setIfInBounds_toArray, List.set_cons_zero, List.set_cons_succ]
  refine wpAnyH_take (i := 14) (oi := ⟨some 35, _, _, _, _, _⟩) (v := ?_) rfl (by kernel_rfl) (by kernel_rfl) (by kernel_rfl) (fun _ _ _ h => h) (Or.inl ⟨by rfl, ?_⟩) (by assumption) ?_
  rotate_left
  · intro w hSw
    (try dsimp only at hSw)
    go_simp
    try with_reducible rfl
  try simp only [Act.put, List.setIfInBounds_toArray, List.set_cons_zero, List.set_cons_succ]
  refine wpAnyH_take (i := 15) (oi := ⟨some 36, _, _, _, _, _⟩) (v := ?_) rfl (by kernel_rfl) (by kernel_rfl) (by kernel_rfl) (fun _ _ _ h => h) (Or.inl ⟨by rfl, ?_⟩) (by assumption) ?_
  rotate_left
  · intro w hSw
    (try dsimp only at hSw)
    go_simp
    try with_reducible rfl
  try simp only [Act.put, List.setIfInBounds_toArray, List.set_cons_zero, List.set_cons_succ]
  refine wpAnyH_take (i := 16) (oi := ⟨some 37, _, _, _, _, _⟩) (v := ?_) rfl (by kernel_rfl) (by kernel_rfl) (by kernel_rfl) (fun _ _ _ h => h) (Or.inl ⟨by rfl, ?_⟩) (by assumption) ?_
  rotate_left
  · intro w hSw
    (try dsimp only at hSw)
    go_simp
    try with_reducible rfl
  try simp only [Act.put, List.setIfInBounds_toArray, List.set_cons_zero, List.set_cons_succ]
  refine wpAnyH_take (i := 18) (oi := ⟨some 39, _, _, _, _, _⟩) (v := ?_) rfl (by kernel_rfl) (by kernel_rfl) (by kernel_rfl) (fun _ _ _ h => h) (Or.inl ⟨by rfl, ?_⟩) (by assumption) ?_
  rotate_left
  · intro w hSw
    (try dsimp only at hSw)
    go_simp
    try with_reducible rfl
  try simp only [Act.put, List.setIfInBounds_toArray, List.set_cons_zero, List.set_cons_succ]
  refine wpAnyH_take (i := 19) (oi := ⟨some 40, _, _, _, _, _⟩) (v := ?_) rfl (by kernel_rfl) (by kernel_rfl) (by kernel_rfl) (fun _ _ _ h => h) (Or.inl ⟨by rfl, ?_⟩) (by assumption) ?_
  rotate_left
  · intro w hSw
    (try dsimp only at hSw)
    go_simp
    try with_reducible rfl
  try simp only [Act.put, List.setIfInBounds_toArray, List.set_cons_zero, List.set_cons_succ]
  refine wpAnyH_ready (rs := [17]) (by kernel_rfl) (by simp) ?_
  refine AllReadyH.cons (o := ⟨some 38, _, _, _, _, _⟩) rfl (fun K hK => ?_) AllReadyH.nil
  go_simp
  go_at_call 85
  refine (sub_r (hl.below hk) (h.below hk) (h'.below hk) k0 k1 (by omega) (by omega)).mono ?_
  rintro e w17 ⟨s17, A17, n17, c17, B17, m17, d17, rfl, r17, _, _, e17⟩
  replace hk := nextB hk e17
  go_wp2_with fail
  refine hK.out _ _ ⟨HA2.out _ hk, HB2.out _ hk, HX2.out _ hk, HY.out _ hk⟩ (fun hHeld => ?_)
  clear hK K
  try simp only [Act.put, List.setIfInBounds_toArray, List.set_cons_zero, List.set_cons_succ]
  refine wpAnyH_ready (rs := [20]) (by kernel_rfl) (by simp) ?_
  refine AllReadyH.cons (o := ⟨some 41, _, _, _, _, _⟩) rfl (fun K hK => ?_) AllReadyH.nil
  go_simp
  go_at_call 86
  refine (refSubR (h.below hk) (h'.below hk) k0 k1 (by omega) (by omega)).mono ?_
  rintro e w18 ⟨s18, A18, n18, c18, B18, m18, d18, rfl, r18, _, _, e18⟩
  replace hk := nextB hk e18
  go_wp2_with fail
  refine hK.out _ _ ⟨HA2.out _ hk, HB2.out _ hk, HX2.out _ hk, HY.out _ hk⟩ (fun hHeld => ?_)
  clear hK K
  try simp only [Act.put, List.setIfInBounds_toArray, List.set_cons_zero, List.set_cons_succ]
  refine wpAnyH_ready (rs := [21]) (by kernel_rfl) (by simp) ?_
  refine AllReadyH.cons (o := ⟨some 42, _, _, _, _, _⟩) rfl (fun K hK => ?_) AllReadyH.nil
  go_simp
  go_at_call 21
  refine (sameT (r17.below e18).tri r18.tri).mono ?_
  rintro e w19 ⟨rfl, e19⟩
  replace hk := nextB hk e19
  clear r17 r18 e17 e18 e19
  go_wp2_with fail
  refine hK.out _ _ ⟨HA2.out _ hk, HB2.out _ hk, HX2.out _ hk, HY.out _ hk⟩ (fun hHeld => ?_)
  clear hK K
  try simp only [Act.put, List.setIfInBounds_toArray, List.set_cons_zero, List.set_cons_succ]
  refine wpAnyH_take (i := 22) (oi := ⟨some 43, _, _, _, _, _⟩) (v := ?_) rfl (by kernel_rfl) (by kernel_rfl) (by kernel_rfl) (fun _ _ _ h => h) (Or.inl ⟨by rfl, ?_⟩) (by assumption) ?_
  rotate_left
  · intro w hSw
    (try dsimp only at hSw)
    go_simp
    try with_reducible rfl
  try simp only [Act.put, List.setIfInBounds_toArray, List.set_cons_zero, List.set_cons_succ]
  refine wpAnyH_take (i := 23) (oi := ⟨some 44, _, _, _, _, _⟩) (v := ?_) rfl (by kernel_rfl) (by kernel_rfl) (by kernel_rfl) (fun _ _ _ h => h) (Or.inl ⟨by rfl, ?_⟩) (by assumption) ?_
  rotate_left
  · intro w hSw
    (try dsimp only at hSw)
    go_simp
    try with_reducible rfl
  try simp only [Act.put, List.setIfInBounds_toArray, List.set_cons_zero, List.set_cons_succ]
  refine wpAnyH_take (i := 24) (oi := ⟨some 45, _, _, _, _, _⟩) (v := ?_) rfl (by kernel_rfl) (by kernel_rfl) (by kernel_rfl) (fun _ _ _ h => h) (Or.inl ⟨by rfl, ?_⟩) (by assumption) ?_
  rotate_left
  · intro w hSw
    (try dsimp only at hSw)
    go_simp
    try with_reducible rfl
  try simp only [Act.put, List.setIfInBounds_toArray, List.set_cons_zero, List.set_cons_succ]
  refine wpAnyH_take (i := 25) (oi := ⟨some 46, _, _, _, _, _⟩) (v := ?_) rfl (by kernel_rfl) (by kernel_rfl) (by kernel_rfl) (fun _ _ _ h => h) (Or.inl ⟨by rfl, ?_⟩) (by assumption) ?_
  rotate_left
  · intro w hSw
    (try dsimp only at hSw)
    go_simp
    try with_reducible rfl
  try simp only [Act.put, List.setIfInBounds_toArray, List.set_cons_zero, List.set_cons_succ]
  refine wpAnyH_take (i := 27) (oi := ⟨some 48, _, _, _, _, _⟩) (v := ?_) rfl (by kernel_rfl) (by kernel_rfl) (by kernel_rfl) (fun _ _ _ h => h) (Or.inl ⟨by rfl, ?_⟩) (by assumption) ?_
  rotate_left
  · intro w hSw
    (try dsimp only at hSw)
    go_simp
    try with_reducible rfl
  try simp only [Act.put, List.setIfInBounds_toArray, List.set_cons_zero, List.set_cons_succ]
  refine wpAnyH_take (i := 28) (oi := ⟨some 49, _, _, _, _, _⟩) (v := ?_) rfl (by kernel_rfl) (by kernel_rfl) (by kernel_rfl) (fun _ _ _ h => h) (Or.inl ⟨by rfl, ?_⟩) (by assumption) ?_
  rotate_left
  · intro w hSw
    (try dsimp only at hSw)
    go_simp
    try with_reducible rfl
  try simp only [Act.put, List.setIfInBounds_toArray, List.set_cons_zero, List.set_cons_succ]
  refine wpAnyH_ready (rs := [26]) (by kernel_rfl) (by simp) ?_
  refine AllReadyH.cons (o := ⟨some 47, _, _, _, _, _⟩) rfl (fun K hK => ?_) AllReadyH.nil
  go_simp
  go_at_call 87
  refine (mul_r (hl.below hk) (h.below hk) (h'.below hk) k0 k1 (by omega) (by omega)).mono ?_
  rintro e w20 ⟨s20, A20, n20, c20, B20, m20, d20, rfl, r20, _, _, e20⟩
  replace hk := nextB hk e20
  go_wp2_with fail
  refine hK.out _ _ ⟨HA2.out _ hk, HB2.out _ hk, HX2.out _ hk, HY.out _ hk⟩ (fun hHeld => ?_)
  clear hK K
  try simp only [Act.put, List.setIfInBounds_toArray, List.set_cons_zero, List.set_cons_succ]
  refine wpAnyH_ready (rs := [29]) (by kernel_rfl) (by simp) ?_
  refine AllReadyH.cons (o := ⟨some 50, _, _, _, _, _⟩) rfl (fun K hK => ?_) AllReadyH.nil
  go_simp
  go_at_call 54
  refine (refMulR (h.below hk) (h'.below hk) k0 k1 (by omega) (by omega)).mono ?_
  rintro e w21 ⟨s21, A21, n21, c21, B21, m21, d21, rfl, r21, _, _, e21⟩
  replace hk := nextB hk e21
  go_wp2_with fail
  refine hK.out _ _ ⟨HA2.out _ hk, HB2.out _ hk, HX2.out _ hk, HY.out _ hk⟩ (fun hHeld => ?_)
  clear hK K
  try simp only [Act.put, List.setIfInBounds_toArray, List.set_cons_zero, List.set_cons_succ]
  refine wpAnyH_ready (rs := [30]) (by kernel_rfl) (by simp) ?_
  refine AllReadyH.cons (o := ⟨some 51, _, _, _, _, _⟩) rfl (fun K hK => ?_) AllReadyH.nil
  go_simp
  go_at_call 21
  refine (sameT (r20.below e21).tri r21.tri).mono ?_
  rintro e w22 ⟨rfl, e22⟩
  replace hk := nextB hk e22
  clear r20 r21 e20 e21 e22
  go_wp2_with fail
  refine hK.out _ _ ⟨HA2.out _ hk, HB2.out _ hk, HX2.out _ hk, HY.out _ hk⟩ (fun hHeld => ?_)
  clear hK K
  try simp only [Act.put, List.setIfInBounds_toArray, List.set_cons_zero, List.set_cons_succ]
  refine wpAnyH_take (i := 31) (oi := ⟨some 52, _, _, _, _, _⟩) (v := ?_) rfl (by kernel_rfl) (by kernel_rfl) (by kernel_rfl) (fun _ _ _ h => h) (Or.inl ⟨by rfl, ?_⟩) (by assumption) ?_
  rotate_left
  · intro w hSw
    (try dsimp only at hSw)
    go_simp
    try with_reducible rfl
  try simp only [Act.put, List.setIfInBounds_toArray, List.set_cons_zero, List.set_cons_succ]
  refine wpAnyH_take (i := 32) (oi := ⟨some 53, _, _, _, _, _⟩) (v := ?_) rfl (by kernel_rfl) (by kernel_rfl) (by kernel_rfl) (fun _ _ _ h => h) (Or.inl ⟨by rfl, ?_⟩) (by assumption) ?_
  rotate_left
  · intro w hSw
    (try dsimp only at hSw)
    go_simp
    try with_reducible rfl
  try simp only [Act.put, List.setIfInBounds_toArray, List.set_cons_zero, List.set_cons_succ]
  refine wpAnyH_take (i := 33) (oi := ⟨some 54, _, _, _, _, _⟩) (v := ?_) rfl (by kernel_rfl) (by kernel_rfl) (by kernel_rfl) (fun _ _ _ h => h) (Or.inl ⟨by rfl, ?_⟩) (by assumption) ?_
  rotate_left
  · intro w hSw
    (try dsimp only at hSw)
    go_simp
    try with_reducible rfl
  try simp only [Act.put, List.setIfInBounds_toArray, List.set_cons_zero, List.set_cons_succ]
  refine wpAnyH_take (i := 34) (oi := ⟨some 55, _, _, _, _, _⟩) (v := ?_) rfl (by kernel_rfl) (by kernel_rfl) (by kernel_rfl) (fun _ _ _ h => h) (Or.inl ⟨by rfl, ?_⟩) (by assumption) ?_
  rotate_left
  · intro w hSw
    (try dsimp only at hSw)
    go_simp
    try with_reducible rfl
  try simp only [Act.put, List.setIfInBounds_toArray, List.set_cons_zero, List.set_cons_succ]
  refine wpAnyH_take (i := 35) (oi := ⟨some 56, _, _, _, _, _⟩) (v := ?_) rfl (by kernel_rfl) (by kernel_rfl) (by kernel_rfl) (fun _ _ _ h => h) (Or.inl ⟨by rfl, ?_⟩) (by assumption) ?_
  rotate_left
  · intro w hSw
    (try dsimp only at hSw)
    go_simp
    try with_reducible rfl
  try simp only [Act.put, List.setIfInBounds_toArray, List.set_cons_zero, List.set_cons_succ]
  refine wpAnyH_take (i := 36) (oi := ⟨some 57, _, _, _, _, _⟩) (v := ?_) rfl (by kernel_rfl) (by kernel_rfl) (by kernel_rfl) (fun _ _ _ h => h) (Or.inl ⟨by rfl, ?_⟩) (by assumption) ?_
  rotate_left
  · intro w hSw
    (try dsimp only at hSw)
    go_simp
    try with_reducible rfl
  try simp only [Act.put, List.setIfInBounds_toArray, List.set_cons_zero, List.set_cons_succ]
  refine wpAnyH_take (i := 37) (oi := ⟨some 58, _, _, _, _, _⟩) (v := ?_) rfl (by kernel_rfl) (by kernel_rfl) (by kernel_rfl) (fun _ _ _ h => h) (Or.inl ⟨by rfl, ?_⟩) (by assumption) ?_
  rotate_left
  · intro w hSw
    (try dsimp only at hSw)
    go_simp
    try with_reducible rfl
  try simp only [Act.put, List.setIfInBounds_toArray, List.set_cons_zero, List.set_cons_succ]
  refine wpAnyH_take (i := 38) (oi := ⟨some 59, _, _, _, _, _⟩) (v := ?_) rfl (by kernel_rfl) (by kernel_rfl) (by kernel_rfl) (fun _ _ _ h => h) (Or.inl ⟨by rfl, ?_⟩) (by assumption) ?_
  rotate_left
  · intro w hSw
    (try dsimp only at hSw)
    go_simp
    try with_reducible rfl
  try simp only [Act.put, List.setIfInBounds_toArray, List.set_cons_zero, List.set_cons_succ]
  refine wpAnyH_take (i := 39) (oi := ⟨some 60, _, _, _, _, _⟩) (v := ?_) rfl (by kernel_rfl) (by kernel_rfl) (by kernel_rfl) (fun _ _ _ h => h) (Or.inl ⟨by rfl, ?_⟩) (by assumption) ?_
  rotate_left
  · intro w hSw
    (try dsimp only at hSw)
    go_simp
    try with_reducible rfl
  try simp only [Act.put, List.setIfInBounds_toArray, List.set_cons_zero, List.set_cons_succ]
  refine wpAnyH_ready (rs := [40]) (by kernel_rfl) (by simp) ?_
  refine AllReadyH.cons (o := ⟨some 61, _, _, _, _, _⟩) rfl (fun K hK => ?_) AllReadyH.nil
  go_simp
  go_at_call 21
  refine (sameT (R1.out.below hk) (R2.out.below hk)).mono ?_
  rintro e w23 ⟨rfl, e23⟩
  replace hk := nextB hk e23
  clear e23
  go_wp2_with fail
  refine hK.out _ _ ⟨HA2.out _ hk, HB2.out _ hk, HX2.out _ hk, HY.out _ hk⟩ (fun hHeld => ?_)
  clear hK K
  try simp only [Act.put, List.setIfInBounds_toArray, List.set_cons_zero, List.set_cons_succ]
  refine wpAnyH_take (i := 41) (oi := ⟨some 62, _, _, _, _, _⟩) (v := ?_) rfl (by kernel_rfl) (by kernel_rfl) (by kernel_rfl) (fun _ _ _ h => h) (Or.inl ⟨by rfl, ?_⟩) (by assumption) ?_
  rotate_left
  · intro w hSw
    (try dsimp only at hSw)
    go_simp
    try with_reducible rfl
  try simp only [Act.put, List.setIfInBounds_toArray, List.set_cons_zero, List.set_cons_succ]
  refine wpAnyH_take (i := 42) (oi := ⟨some 63, _, _, _, _, _⟩) (v := ?_) rfl (by kernel_rfl) (by kernel_rfl) (by kernel_rfl) (fun _ _ _ h => h) (Or.inl ⟨by rfl, ?_⟩) (by assumption) ?_
  rotate_left
  · intro w hSw
    (try dsimp only at hSw)
    go_simp
    try with_reducible rfl
  try simp only [Act.put, List.setIfInBounds_toArray, List.set_cons_zero, List.set_cons_succ]
  refine wpAnyH_take (i := 43) (oi := ⟨some 64, _, _, _, _, _⟩) (v := ?_) rfl (by kernel_rfl) (by kernel_rfl) (by kernel_rfl) (fun _ _ _ h => h) (Or.inl ⟨by rfl, ?_⟩) (by assumption) ?_
  rotate_left
  · intro w hSw
    (try dsimp only at hSw)
    go_simp
    try with_reducible rfl
  try simp only [Act.put, List.setIfInBounds_toArray, List.set_cons_zero, List.set_cons_succ]
  refine wpAnyH_take (i := 45) (oi := ⟨some 66, _, _, _, _, _⟩) (v := ?_) rfl (by kernel_rfl) (by kernel_rfl) (by kernel_rfl) (fun _ _ _ h => h) (Or.inl ⟨by rfl, ?_⟩) (by assumption) ?_
  rotate_left
  · intro w hSw
    (try dsimp only at hSw)
    go_simp
    try with_reducible rfl
  try simp only [Act.put, List.setIfInBounds_toArray, List.set_cons_zero, List.set_cons_succ]
  refine wpAnyH_ready (rs := [44]) (by kernel_rfl) (by simp) ?_
  refine AllReadyH.cons (o := ⟨some 65, _, _, _, _, _⟩) rfl (fun K hK => ?_) AllReadyH.nil
  go_simp
  go_at_call 88
  refine (neg_r (hl.below hk) (h.below hk) k0 (by omega)).mono ?_
  rintro e w24 ⟨s24, A24, n24, c24, B24, m24, d24, rfl, r24, _, _, e24⟩
  replace hk := nextB hk e24
  go_wp2_with fail
  refine hK.out _ _ ⟨HA2.out _ hk, HB2.out _ hk, HX2.out _ hk, HY.out _ hk⟩ (fun hHeld => ?_)
  clear hK K
  try simp only [Act.put, List.setIfInBounds_toArray, List.set_cons_zero, List.set_cons_succ]
  refine wpAnyH_ready (rs := [46]) (by kernel_rfl) (by simp) ?_
  refine AllReadyH.cons (o := ⟨some 67, _, _, _, _, _⟩) rfl (fun K hK => ?_) AllReadyH.nil
  go_simp
  go_at_call 89
  refine (refNegR (h.below hk) k0 (by omega)).mono ?_
  rintro e w25 ⟨s25, A25, n25, c25, B25, m25, d25, rfl, r25, _, _, e25⟩
  replace hk := nextB hk e25
  go_wp2_with fail
  refine hK.out _ _ ⟨HA2.out _ hk, HB2.out _ hk, HX2.out _ hk, HY.out _ hk⟩ (fun hHeld => ?_)
  clear hK K
  try simp only [Act.put, List.setIfInBounds_toArray, List.set_cons_zero, List.set_cons_succ]
  refine wpAnyH_ready (rs := [47]) (by kernel_rfl) (by simp) ?_
  refine AllReadyH.cons (o := ⟨some 68, _, _, _, _, _⟩) rfl (fun K hK => ?_) AllReadyH.nil
  go_simp
  go_at_call 21
  refine (sameT (r24.below e25).tri r25.tri).mono ?_
  rintro e w26 ⟨rfl, e26⟩
  replace hk := nextB hk e26
  clear r24 r25 e24 e25 e26
  go_wp2_with fail
  refine hK.out _ _ ⟨HA2.out _ hk, HB2.out _ hk, HX2.out _ hk, HY.out _ hk⟩ (fun hHeld => ?_)
  clear hK K
  try simp only [Act.put, List.setIfInBounds_toArray, List.set_cons_zero, List.set_cons_succ]
  refine wpAnyH_take (i := 48) (oi := ⟨some 69, _, _, _, _, _⟩) (v := ?_) rfl (by kernel_rfl) (by kernel_rfl) (by kernel_rfl) (fun _ _ _ h => h) (Or.inl ⟨by rfl, ?_⟩) (by assumption) ?_
  rotate_left
  · intro w hSw
    (try dsimp only at hSw)
    go_simp
    try with_reducible rfl
  try simp only [Act.put, List.setIfInBounds_toArray, List.set_cons_zero, List.set_cons_succ]
  refine wpAnyH_take (i := 49) (oi := ⟨some 70, _, _, _, _, _⟩) (v := ?_) rfl (by kernel_rfl) (by kernel_rfl) (by kernel_rfl) (fun _ _ _ h => h) (Or.inl ⟨by rfl, ?_⟩) (by assumption) ?_
  rotate_left
  · intro w hSw
    (try dsimp only at hSw)
    go_simp
    try with_reducible rfl
  try simp only [Act.put, List.setIfInBounds_toArray, List.set_cons_zero, List.set_cons_succ]
  refine wpAnyH_take (i := 50) (oi := ⟨some 71, _, _, _, _, _⟩) (v := ?_) rfl (by kernel_rfl) (by kernel_rfl) (by kernel_rfl) (fun _ _ _ h => h) (Or.inl ⟨by rfl, ?_⟩) (by assumption) ?_
  rotate_left
  · intro w hSw
    (try dsimp only at hSw)
    go_simp
    try with_reducible rfl
  try simp only [Act.put, List.setIfInBounds_toArray, List.set_cons_zero, List.set_cons_succ]
  refine wpAnyH_take (i := 51) (oi := ⟨some 72, _, _, _, _, _⟩) (v := ?_) rfl (by kernel_rfl) (by kernel_rfl) (by kernel_rfl) (fun _ _ _ h => h) (Or.inl ⟨by rfl, ?_⟩) (by assumption) ?_
  rotate_left
  · intro w hSw
    (try dsimp only at hSw)
    go_simp
    try with_reducible rfl
  try simp only [Act.put, List.setIfInBounds_toArray, List.set_cons_zero, List.set_cons_succ]
  refine wpAnyH_take (i := 53) (oi := ⟨some 74, _, _, _, _, _⟩) (v := ?_) rfl (by kernel_rfl) (by kernel_rfl) (by kernel_rfl) (fun _ _ _ h => h) (Or.inl ⟨by rfl, ?_⟩) (by assumption) ?_
  rotate_left
  · intro w hSw
    (try dsimp only at hSw)
    go_simp
    try with_reducible rfl
  try simp only [Act.put, List.setIfInBounds_toArray, List.set_cons_zero, List.set_cons_succ]
  refine wpAnyH_take (i := 54) (oi := ⟨some 75, _, _, _, _, _⟩) (v := ?_) rfl (by kernel_rfl) (by kernel_rfl) (by kernel_rfl) (fun _ _ _ h => h) (Or.inl ⟨by rfl, ?_⟩) (by assumption) ?_
  rotate_left
  · intro w hSw
    (try dsimp only at hSw)
    go_simp
    try with_reducible rfl
  try simp only [Act.put, List.setIfInBounds_toArray, List.set_cons_zero, List.set_cons_succ]
  refine wpAnyH_ready (rs := [52]) (by kernel_rfl) (by simp) ?_
  refine AllReadyH.cons (o := ⟨some 73, _, _, _, _, _⟩) rfl (fun K hK => ?_) AllReadyH.nil
  go_simp
  go_at_call 90
  refine (ratCmp_r (h.below hk) (h'.below hk) k0 k1 (by omega) (by omega)).mono ?_
  rintro e w27 ⟨rfl, e27⟩
  replace hk := nextB hk e27
  clear e27
  go_wp2_with fail
  refine hK.out _ _ ⟨HA2.out _ hk, HB2.out _ hk, HX2.out _ hk, HY.out _ hk⟩ (fun hHeld => ?_)
  clear hK K
  try simp only [Act.put, List.setIfInBounds_toArray, List.set_cons_zero, List.set_cons_succ]
  refine wpAnyH_ready (rs := [55]) (by kernel_rfl) (by simp) ?_
  refine AllReadyH.cons (o := ⟨some 76, _, _, _, _, _⟩) rfl (fun K hK => ?_) AllReadyH.nil
  go_simp
  go_at_call 91
  refine (refCmpR (h.below hk) (h'.below hk) k0 k1 (by omega) (by omega)).mono ?_
  rintro e w28 ⟨rfl, e28⟩
  replace hk := nextB hk e28
  clear e28
  go_wp2_with fail
  refine hK.out _ _ ⟨HA2.out _ hk, HB2.out _ hk, HX2.out _ hk, HY.out _ hk⟩ (fun hHeld => ?_)
  clear hK K
  try simp only [Act.put, List.setIfInBounds_toArray, List.set_cons_zero, List.set_cons_succ]
  refine wpAnyH_take (i := 56) (oi := ⟨some 77, _, _, _, _, _⟩) (v := ?_) rfl (by kernel_rfl) (by kernel_rfl) (by kernel_rfl) (fun _ _ _ h => h) (Or.inl ⟨by rfl, ?_⟩) (by assumption) ?_
  rotate_left
  · intro w hSw
    (try dsimp only at hSw)
    go_simp
    try with_reducible rfl
  try simp only [Act.put, List.setIfInBounds_toArray, List.set_cons_zero, List.set_cons_succ]
  refine wpAnyH_take (i := 57) (oi := ⟨some 78, _, _, _, _, _⟩) (v := ?_) rfl (by kernel_rfl) (by kernel_rfl) (by kernel_rfl) (fun _ _ _ h => h) (Or.inl ⟨by rfl, ?_⟩) (by assumption) ?_
  rotate_left
  · intro w hSw
    (try dsimp only at hSw)
    go_simp
    try with_reducible rfl
  try simp only [Act.put, List.setIfInBounds_toArray, List.set_cons_zero, List.set_cons_succ]
  refine wpAnyH_take (i := 58) (oi := ⟨some 79, _, _, _, _, _⟩) (v := ?_) rfl (by kernel_rfl) (by kernel_rfl) (by kernel_rfl) (fun _ _ _ h => h) (Or.inl ⟨by rfl, ?_⟩) (by assumption) ?_
  rotate_left
  · intro w hSw
    (try dsimp only at hSw)
    go_simp
    try with_reducible rfl
  try simp only [Act.put, List.setIfInBounds_toArray, List.set_cons_zero, List.set_cons_succ]
  refine wpAnyH_take (i := 59) (oi := ⟨some 80, _, _, _, _, _⟩) (v := ?_) rfl (by kernel_rfl) (by kernel_rfl) (by kernel_rfl) (fun _ _ _ h => h) (Or.inl ⟨by rfl, ?_⟩) (by assumption) ?_
  rotate_left
  · intro w hSw
    (try dsimp only at hSw)
    go_simp
    try with_reducible rfl
  try simp only [Act.put, List.setIfInBounds_toArray, List.set_cons_zero, List.set_cons_succ]
  refine wpAnyH_take (i := 61) (oi := ⟨some 82, _, _, _, _, _⟩) (v := ?_) rfl (by kernel_rfl) (by kernel_rfl) (by kernel_rfl) (fun _ _ _ h => h) (Or.inl ⟨by rfl, ?_⟩) (by assumption) ?_
  rotate_left
  · intro w hSw
    (try dsimp only at hSw)
    go_simp
    try with_reducible rfl
  try simp only [Act.put, List.setIfInBounds_toArray, List.set_cons_zero, List.set_cons_succ]
  refine wpAnyH_ready (rs := [60]) (by kernel_rfl) (by simp) ?_
  refine AllReadyH.cons (o := ⟨some 81, _, _, _, _, _⟩) rfl (fun K hK => ?_) AllReadyH.nil
  go_simp
  go_at_call 92
  refine (signOf_r (h.below hk) k0).mono ?_
  rintro e w29 ⟨rfl, e29⟩
  replace hk := nextB hk e29
  clear e29
  go_wp2_with fail
  refine hK.out _ _ ⟨HA2.out _ hk, HB2.out _ hk, HX2.out _ hk, HY.out _ hk⟩ (fun hHeld => ?_)
  clear hK K
  try simp only [Act.put, List.setIfInBounds_toArray, List.set_cons_zero, List.set_cons_succ]
  refine wpAnyH_ready (rs := [62]) (by kernel_rfl) (by simp) ?_
  refine AllReadyH.cons (o := ⟨some 83, _, _, _, _, _⟩) rfl (fun K hK => ?_) AllReadyH.nil
  go_simp
  go_at_call 93
  refine (refSign_r (h.below hk) k0 (by omega)).mono ?_
  rintro e w30 ⟨rfl, e30⟩
  replace hk := nextB hk e30
  clear e30
  go_wp2_with fail
  refine hK.out _ _ ⟨HA2.out _ hk, HB2.out _ hk, HX2.out _ hk, HY.out _ hk⟩ (fun hHeld => ?_)
  clear hK K
  try simp only [Act.put, List.setIfInBounds_toArray, List.set_cons_zero, List.set_cons_succ]
  refine wpAnyH_take (i := 63) (oi := ⟨some 84, _, _, _, _, _⟩) (v := ?_) rfl (by kernel_rfl) (by kernel_rfl) (by kernel_rfl) (fun _ _ _ h => h) (Or.inl ⟨by rfl, ?_⟩) (by assumption) ?_
  rotate_left
  · intro w hSw
    (try dsimp only at hSw)
    go_simp
    try with_reducible rfl
  try simp only [Act.put, List.setIfInBounds_toArray, List.set_cons_zero, List.set_cons_succ]
  refine wpAnyH_take (i := 64) (oi := ⟨some 85, _, _, _, _, _⟩) (v := ?_) rfl (by kernel_rfl) (by kernel_rfl) (by kernel_rfl) (fun _ _ _ h => h) (Or.inl ⟨by rfl, ?_⟩) (by assumption) ?_
  rotate_left
  · intro w hSw
    (try dsimp only at hSw)
    go_simp
    try with_reducible rfl
  try simp only [Act.put, List.setIfInBounds_toArray, List.set_cons_zero, List.set_cons_succ]
  refine wpAnyH_take (i := 65) (oi := ⟨some 86, _, _, _, _, _⟩) (v := ?_) rfl (by kernel_rfl) (by kernel_rfl) (by kernel_rfl) (fun _ _ _ h => h) (Or.inl ⟨by rfl, ?_⟩) (by assumption) ?_
  rotate_left
  · intro w hSw
    (try dsimp only at hSw)
    go_simp
    try with_reducible rfl
  try simp only [Act.put, List.setIfInBounds_toArray, List.set_cons_zero, List.set_cons_succ]
  refine wpAnyH_take (i := 66) (oi := ⟨some 87, _, _, _, _, _⟩) (v := ?_) rfl (by kernel_rfl) (by kernel_rfl) (by kernel_rfl) (fun _ _ _ h => h) (Or.inl ⟨by rfl, ?_⟩) (by assumption) ?_
  rotate_left
  · intro w hSw
    (try dsimp only at hSw)
    go_simp
    try with_reducible rfl
  try simp only [Act.put, List.setIfInBounds_toArray, List.set_cons_zero, List.set_cons_succ]
  refine wpAnyH_take (i := 67) (oi := ⟨some 88, _, _, _, _, _⟩) (v := ?_) rfl (by kernel_rfl) (by kernel_rfl) (by kernel_rfl) (fun _ _ _ h => h) (Or.inl ⟨by rfl, ?_⟩) (by assumption) ?_
  rotate_left
  · intro w hSw
    (try dsimp only at hSw)
    go_simp
    try with_reducible rfl
  try simp only [Act.put, List.setIfInBounds_toArray, List.set_cons_zero, List.set_cons_succ]
  refine wpAnyH_take (i := 69) (oi := ⟨some 90, _, _, _, _, _⟩) (v := ?_) rfl (by kernel_rfl) (by kernel_rfl) (by kernel_rfl) (fun _ _ _ h => h) (Or.inl ⟨by rfl, ?_⟩) (by assumption) ?_
  rotate_left
  · intro w hSw
    (try dsimp only at hSw)
    go_simp
    try with_reducible rfl
  try simp only [Act.put, List.setIfInBounds_toArray, List.set_cons_zero, List.set_cons_succ]
  refine wpAnyH_take (i := 70) (oi := ⟨some 91, _, _, _, _, _⟩) (v := ?_) rfl (by kernel_rfl) (by kernel_rfl) (by kernel_rfl) (fun _ _ _ h => h) (Or.inl ⟨by rfl, ?_⟩) (by assumption) ?_
  rotate_left
  · intro w hSw
    (try dsimp only at hSw)
    go_simp
    try with_reducible rfl
  try simp only [Act.put, List.setIfInBounds_toArray, List.set_cons_zero, List.set_cons_succ]
  refine wpAnyH_ready (rs := [68]) (by kernel_rfl) (by simp) ?_
  refine AllReadyH.cons (o := ⟨some 89, _, _, _, _, _⟩) rfl (fun K hK => ?_) AllReadyH.nil
  go_simp
  go_at_call 94
  refine (ratEqual_r (h.below hk) (h'.below hk) k0 k1 (by omega) (by omega)).mono ?_
  rintro e w31 ⟨rfl, e31⟩
  replace hk := nextB hk e31
  clear e31
  go_wp2_with fail
  refine hK.out _ _ ⟨HA2.out _ hk, HB2.out _ hk, HX2.out _ hk, HY.out _ hk⟩ (fun hHeld => ?_)
  clear hK K
  try simp only [Act.put, List.setIfInBounds_toArray, List.set_cons_zero, List.set_cons_succ]
  refine wpAnyH_ready (rs := [71]) (by kernel_rfl) (by simp) ?_
  refine AllReadyH.cons (o := ⟨some 92, _, _, _, _, _⟩) rfl (fun K hK => ?_) AllReadyH.nil
  go_simp
  go_at_call 52
  refine (refEqualR (h.below hk) (h'.below hk) k0 k1 (by omega) (by omega)).mono ?_
  rintro e w32 ⟨rfl, e32⟩
  replace hk := nextB hk e32
  clear e32
  go_wp2_with fail
  refine hK.out _ _ ⟨HA2.out _ hk, HB2.out _ hk, HX2.out _ hk, HY.out _ hk⟩ (fun hHeld => ?_)
  clear hK K
  try simp only [Act.put, List.setIfInBounds_toArray, List.set_cons_zero, List.set_cons_succ]
  refine wpAnyH_take (i := 72) (oi := ⟨some 93, _, _, _, _, _⟩) (v := ?_) rfl (by kernel_rfl) (by kernel_rfl) (by kernel_rfl) (fun _ _ _ h => h) (Or.inl ⟨by rfl, ?_⟩) (by assumption) ?_
  rotate_left
  · intro w hSw
    (try dsimp only at hSw)
    go_simp
    try with_reducible rfl
  try simp only [Act.put, List.setIfInBounds_toArray, List.set_cons_zero, List.set_cons_succ]
  refine wpAnyH_take (i := 73) (oi := ⟨some 94, _, _, _, _, _⟩) (v := ?_) rfl (by kernel_rfl) (by kernel_rfl) (by kernel_rfl) (fun _ _ _ h => h) (Or.inl ⟨by rfl, ?_⟩) (by assumption) ?_
  rotate_left
  · intro w hSw
    (try dsimp only at hSw)
    go_simp
    try with_reducible rfl
  try simp only [Act.put, List.setIfInBounds_toArray, List.set_cons_zero, List.set_cons_succ]
  refine wpAnyH_take (i := 74) (oi := ⟨some 95, _, _, _, _, _⟩) (v := ?_) rfl (by kernel_rfl) (by kernel_rfl) (by kernel_rfl) (fun _ _ _ h => h) (Or.inl ⟨by rfl, ?_⟩) (by assumption) ?_
  rotate_left
  · intro w hSw
    (try dsimp only at hSw)
    go_simp
    try with_reducible rfl
  try simp only [Act.put, List.setIfInBounds_toArray, List.set_cons_zero, List.set_cons_succ]
  refine wpAnyH_take (i := 75) (oi := ⟨some 96, _, _, _, _, _⟩) (v := ?_) rfl (by kernel_rfl) (by kernel_rfl) (by kernel_rfl) (fun _ _ _ h => h) (Or.inl ⟨by rfl, ?_⟩) (by assumption) ?_
  rotate_left
  · intro w hSw
    (try dsimp only at hSw)
    go_simp
    try with_reducible rfl
  try simp only [Act.put, List.setIfInBounds_toArray, List.set_cons_zero, List.set_cons_succ]
  refine wpAnyH_take (i := 77) (oi := ⟨some 98, _, _, _, _, _⟩) (v := ?_) rfl (by kernel_rfl) (by kernel_rfl) (by kernel_rfl) (fun _ _ _ h => h) (Or.inl ⟨by rfl, ?_⟩) (by assumption) ?_
  rotate_left
  · intro w hSw
    (try dsimp only at hSw)
    go_simp
    try with_reducible rfl
  try simp only [Act.put, List.setIfInBounds_toArray, List.set_cons_zero, List.set_cons_succ]
  refine wpAnyH_ready (rs := [76]) (by kernel_rfl) (by simp) ?_
  refine AllReadyH.cons (o := ⟨some 97, _, _, _, _, _⟩) rfl (fun K hK => ?_) AllReadyH.nil
  go_simp
  go_at_call 67
  refine (ratFormat_r (hl.below hk) (h.below hk) k0 (by omega)).mono ?_
  rintro e w33 ⟨rfl, e33⟩
  replace hk := nextB hk e33
  clear e33
  go_wp2_with fail
  refine hK.out _ _ ⟨HA2.out _ hk, HB2.out _ hk, HX2.out _ hk, HY.out _ hk⟩ (fun hHeld => ?_)
  clear hK K
  try simp only [Act.put, List.setIfInBounds_toArray, List.set_cons_zero, List.set_cons_succ]
  refine wpAnyH_ready (rs := [78]) (by kernel_rfl) (by simp) ?_
  refine AllReadyH.cons (o := ⟨some 99, _, _, _, _, _⟩) rfl (fun K hK => ?_) AllReadyH.nil
  go_simp
  go_at_call 29
  refine (refFormatR (h.below hk) k0 (by omega)).mono ?_
  rintro e w34 ⟨rfl, e34⟩
  replace hk := nextB hk e34
  clear e34
  go_wp2_with fail
  refine hK.out _ _ ⟨HA2.out _ hk, HB2.out _ hk, HX2.out _ hk, HY.out _ hk⟩ (fun hHeld => ?_)
  clear hK K
  try simp only [Act.put, List.setIfInBounds_toArray, List.set_cons_zero, List.set_cons_succ]
  refine wpAnyH_take (i := 79) (oi := ⟨some 100, _, _, _, _, _⟩) (v := ?_) rfl (by kernel_rfl) (by kernel_rfl) (by kernel_rfl) (fun _ _ _ h => h) (Or.inl ⟨by rfl, ?_⟩) (by assumption) ?_
  rotate_left
  · intro w hSw
    (try dsimp only at hSw)
    go_simp
    try with_reducible rfl
  try simp only [Act.put, List.setIfInBounds_toArray, List.set_cons_zero, List.set_cons_succ]
  refine wpAnyH_take (i := 80) (oi := ⟨some 101, _, _, _, _, _⟩) (v := ?_) rfl (by kernel_rfl) (by kernel_rfl) (by kernel_rfl) (fun _ _ _ h => h) (Or.inl ⟨by rfl, ?_⟩) (by assumption) ?_
  rotate_left
  · intro w hSw
    (try dsimp only at hSw)
    go_simp
    try with_reducible rfl
  try simp only [Act.put, List.setIfInBounds_toArray, List.set_cons_zero, List.set_cons_succ]
  refine wpAnyH_take (i := 81) (oi := ⟨some 4, _, _, _, _, _⟩) (v := ?_) rfl (by kernel_rfl) (by kernel_rfl) (by kernel_rfl) (fun _ _ _ h => h) (Or.inl ⟨by rfl, ?_⟩) (by assumption) ?_
  rotate_left
  · intro w hSw
    (try dsimp only at hSw)
    go_simp
    try with_reducible rfl
  try simp only [Act.put, List.setIfInBounds_toArray, List.set_cons_zero, List.set_cons_succ]
  refine wpAnyH_done (by kernel_rfl) ?_ _
  go_wp2
  go_ret
  exact ⟨rfl, nextB bwu hk⟩
end
end Go.Proofs.YtekalaihfmfkkaaGreatDoor
