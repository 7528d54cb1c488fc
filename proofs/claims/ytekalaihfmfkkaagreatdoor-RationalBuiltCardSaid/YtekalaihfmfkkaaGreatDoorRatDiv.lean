/-
  rational.Div: the quotient, or ErrDivide.
-/
import Derived.Test.YtekalaihfmfkkaaGreatDoorRatD
namespace Go.Proofs.YtekalaihfmfkkaaGreatDoor
open Go.RowKit
set_option maxRecDepth 20000

theorem sgnR_zero : sgnR 0 = 0 := cmpR_eq rfl
theorem sgnR_ne {q : Rat} (h : q ≠ 0) : sgnR q = 1 ∨ sgnR q = -1 := by
  rcases (Rat.le_total (a := q) (b := 0)) with h1 | h1
  · exact .inr (cmpR_lt (Rat.lt_of_le_of_ne h1 h))
  · exact .inl (cmpR_gt (Rat.lt_of_le_of_ne h1 (fun e => h e.symm)))


set_option maxHeartbeats 1000000 in
theorem div_zero {w : World} {s s' : Bool} {A B A' B' : Option Addr} {n c m d n' c' m' d' k k' : Nat} {q q' : Rat} (h : Loose w s A n c B m d q k) (h' : Loose w s' A' n' c' B' m' d' q' k') (k1 : 1 ≤ k') (q0 : q' = 0) :
    Calls Tryz.prog 81 #[.agg #[.bool s, .slice A n c, .slice B m d], .agg #[.bool s', .slice A' n' c', .slice B' m' d']] w (DivErr w) := by
  have HQ0 := Lib.hid q0
  clear q0
  obtain ⟨v1, hv1⟩ : ∃ v1, ((w.alloc (.cells #[.bool s, .slice A n c, .slice B m d] 24)).alloc (.cells #[.bool s', .slice A' n' c', .slice B' m' d'] 24)).alloc (.cells #[.bool false, .slice none 0 0, .slice none 0 0] 24) = v1 := ⟨_, rfl⟩
  obtain ⟨g, hg, hsz, hb1, hA, hB, hZ, hF⟩ := boxes2 w _ _ _ _ _ _ _ _ _ _ _ _ v1 hv1
  have HG := Lib.hid hg
  have HSZ := Lib.hid hsz
  have HA := Lib.hid hA
  have HB := Lib.hid hB
  have HZ := Lib.hid hZ
  have HF := Lib.hid hF
  have HV := Lib.hid hv1
  clear hA hB hZ hF hv1 hsz hg
  have h1 := h.below hb1
  have h1' := h'.below hb1
  have hk := Below.refl v1.heap.size v1
  go_enter Tryz.func81, Tryz.ntmps81
  go_wp2_with fail
  rw [HV.out, ← HG.out]
  refine (view_any h1' k1).mono ?_
  rintro e w5 ⟨s5, A5, n5, c5, B5, m5, d5, rfl, f5, b5⟩
  have ba := (Below.refl w5.heap.size w5).alloc (Nat.le_refl _) (.cells #[.bool s5, .slice A5 n5 c5, .slice B5 m5 d5] 95)
  have f6 := f5.below ba
  have hk5 := nextB b5 ba
  have HS := Lib.hid (sign_any f6)
  rw [HQ0.out, sgnR_zero] at HS
  go_wp2_with fail
  refine HS.out.mono ?_
  rintro e w6 ⟨rfl, b6⟩
  have hk6 := nextB hk5 b6
  obtain ⟨o0, o1, o2⟩ := HZ.out _ hk6
  obtain ⟨r0, r1, r2⟩ := HF.out _ hk6
  go_wp2
  refine bodyPost_ret (v := .tuple #[.agg #[.bool false, .slice none 0 0, .slice none 0 0], .int .i64 3]) (by simp [results, Tryz.results81, go_sem, o0, o1, o2]) rfl ⟨rfl, ?_⟩
  have hz : w.heap.size ≤ g + 2 := by rw [HG.out]; omega
  exact (((nextB hb1 hk6).setCell (p := ⟨g + 2, 0, none⟩) hz _).setCell (p := ⟨g + 2, 1, none⟩) hz _).setCell (p := ⟨g + 2, 2, none⟩) hz _


set_option maxHeartbeats 4000000 in
theorem div_r {w : World} {s s' : Bool} {A B A' B' : Option Addr} {n c m d n' c' m' d' k k' : Nat} {q q' : Rat} (hl : Laid w) (h : Loose w s A n c B m d q k) (h' : Loose w s' A' n' c' B' m' d' q' k') (k0 : 1 ≤ k) (k1 : 1 ≤ k') (hk8 : k ≤ 300000) (hk9 : k' ≤ 300000) (q0 : q' ≠ 0) :
    Calls Tryz.prog 81 #[.agg #[.bool s, .slice A n c, .slice B m d], .agg #[.bool s', .slice A' n' c', .slice B' m' d']] w (GivesROk w (q * q'⁻¹) (k + k')) := by
  have HQ0 : Hid (q' ≠ 0) := q0
  clear q0
  obtain ⟨v1, hv1⟩ : ∃ v1, ((w.alloc (.cells #[.bool s, .slice A n c, .slice B m d] 24)).alloc (.cells #[.bool s', .slice A' n' c', .slice B' m' d'] 24)).alloc (.cells #[.bool false, .slice none 0 0, .slice none 0 0] 24) = v1 := ⟨_, rfl⟩
  obtain ⟨g, hg, hsz, hb1, hA, hB, hZ, hF⟩ := boxes2 w _ _ _ _ _ _ _ _ _ _ _ _ v1 hv1
  have HG := Lib.hid hg
  have HSZ := Lib.hid hsz
  have HA := Lib.hid hA
  have HB := Lib.hid hB
  have HZ := Lib.hid hZ
  have HF := Lib.hid hF
  have HV := Lib.hid hv1
  clear hA hB hZ hF hv1 hsz hg
  have h1 := h.below hb1
  have h1' := h'.below hb1
  have hl1 := hl.below hb1
  have hk := Below.refl v1.heap.size v1
  go_enter Tryz.func81, Tryz.ntmps81
  go_wp2_with fail
  rw [HV.out, ← HG.out]
  refine (view_any h1' k1).mono ?_
  rintro e w5 ⟨s5, A5, n5, c5, B5, m5, d5, rfl, f5, b5⟩
  have ba := (Below.refl w5.heap.size w5).alloc (Nat.le_refl _) (.cells #[.bool s5, .slice A5 n5 c5, .slice B5 m5 d5] 95)
  have f6 := f5.below ba
  have hk5 := nextB b5 ba
  obtain ⟨z, hz, z0⟩ : ∃ z, sgnR q' = z ∧ (z == 0) = false := by
    rcases sgnR_ne HQ0.out with h | h
    · exact ⟨1, h, rfl⟩
    · exact ⟨-1, h, rfl⟩
  have HS := Lib.hid (sign_any f6)
  rw [hz] at HS
  clear hz
  have hgb : w5.heap.size < (w5.alloc (.cells #[.bool s5, .slice A5 n5 c5, .slice B5 m5 d5] 95)).heap.size := by rw [World.size_alloc]; exact Nat.lt_succ_self _
  have HC := Lib.hid (three_cells hgb ((World.cell?_alloc_new ..).trans rfl) ((World.cell?_alloc_new ..).trans rfl) ((World.cell?_alloc_new ..).trans rfl))
  go_wp2_with fail
  refine HS.out.mono ?_
  rintro e w6 ⟨rfl, b6⟩
  obtain ⟨gb, hgbe⟩ : ∃ gb, gb = w5.heap.size := ⟨_, rfl⟩
  rw [← hgbe] at HC ⊢
  have HC6 := three_cells (v := w6) (g := gb) (Nat.lt_of_lt_of_le (by rw [hgbe]; exact hgb) b6.size) (HC.out w6 b6).1 (HC.out w6 b6).2.1 (HC.out w6 b6).2.2
  have HC' := Lib.hid HC6
  have hl6 := hl1.below (nextB hk5 b6)
  have h6 := h1.below (nextB hk5 b6)
  have f7 := f6.below b6
  have hk6 := nextB hk5 b6
  have hgv : v1.heap.size ≤ gb := by rw [hgbe]; exact b5.size
  have hg3 : g + 3 ≤ v1.heap.size := Nat.le_of_eq HSZ.out.symm
  clear HC HC6 hgb hgbe HS b5 ba f5 f6
  go_upto_region 4 with fail
  have hk := hk6.drew
  have hj : Below w6.heap.size w6 w6.drew := (Below.refl _ _).drew

  refine wp_region_held_drew (S := (fun W => (W.cell? ⟨g, 0, none⟩ = some (.bool s) ∧ W.cell? ⟨g, 1, none⟩ = some (.slice A n c) ∧ W.cell? ⟨g, 2, none⟩ = some (.slice B m d)) ∧ (W.cell? ⟨gb, 0, none⟩ = some (.bool s5) ∧ W.cell? ⟨gb, 1, none⟩ = some (.slice A5 n5 c5) ∧ W.cell? ⟨gb, 2, none⟩ = some (.slice B5 m5 d5)))) (by kernel_rfl) ?_ (fun hHeld => ?_)
  · exact ⟨HA.out _ hk, HC'.out _ hj⟩
  refine wpAnyH_take (i := 0) (oi := ⟨some 13, _, _, _, _, _⟩) (v := ?_) rfl (by kernel_rfl) (by kernel_rfl) (by kernel_rfl) (fun _ _ _ h => h) (Or.inl ⟨by rfl, ?_⟩) (by assumption) ?_
  rotate_left
  · intro w hSw
    (try dsimp only at hSw)
    go_simp
    try with_reducible rfl
  try simp only [Act.put, List.setIfInBounds_toArray, List.set_cons_zero, List.set_cons_succ]
  refine wpAnyH_take (i := 2) (oi := ⟨some 15, _, _, _, _, _⟩) (v := ?_) rfl (by kernel_rfl) (by kernel_rfl) (by kernel_rfl) (fun _ _ _ h => h) (Or.inl ⟨by rfl, ?_⟩) (by assumption) ?_
  rotate_left
  · intro w hSw
    (try dsimp only at hSw)
    go_simp
    try with_reducible rfl
  try simp only [Act.put, List.setIfInBounds_toArray, List.set_cons_zero, List.set_cons_succ]
  refine wpAnyH_ready (rs := [1]) (by kernel_rfl) (by simp) ?_
  refine AllReadyH.cons (o := ⟨some 14, _, _, _, _, _⟩) rfl (fun K hK => ?_) AllReadyH.nil
  go_simp
  go_at_call 137
  refine (view_any (h6.below hj) k0).mono ?_
  rintro e w' ⟨s8, A8, n8, c8, B8, m8, d8, rfl, f8, b8⟩
  have hz_b8 := hk.size
  replace hk := nextB hk b8
  replace hj := nextB hj b8
  go_wp2_with fail
  refine hK.out _ _ ⟨HA.out _ hk, HC'.out _ hj⟩ (fun hHeld => ?_)
  clear hK K
  try simp only [Act.put, List.setIfInBounds_toArray, List.set_cons_zero, List.set_cons_succ]
  refine wpAnyH_ready (rs := [3]) (by kernel_rfl) (by simp) ?_
  refine AllReadyH.cons (o := ⟨some 16, _, _, _, _, _⟩) rfl (fun K hK => ?_) AllReadyH.nil
  go_simp
  go_at_call 149
  refine (inverse_any (f7.below hj) HQ0.out).mono ?_
  rintro e w' ⟨sA, AA, nA, cA, BA, mA, dA, rfl, fA, bA⟩
  have hz_bA := hk.size
  replace hk := nextB hk bA
  replace hj := nextB hj bA
  go_wp2_with fail
  refine hK.out _ _ ⟨HA.out _ hk, HC'.out _ hj⟩ (fun hHeld => ?_)
  clear hK K
  try simp only [Act.put, List.setIfInBounds_toArray, List.set_cons_zero, List.set_cons_succ]
  refine wpAnyH_ready (rs := [4]) (by kernel_rfl) (by simp) ?_
  refine AllReadyH.cons (o := ⟨some 17, _, _, _, _, _⟩) rfl (fun K hK => ?_) AllReadyH.nil
  go_simp
  go_at_call 148
  refine (times_any (f8.below bA) fA (by omega) (by omega)).mono ?_
  rintro e w' ⟨sC, AC, nC, cC, BC, mC, dC, rfl, fC, bC⟩
  have hz_bC := hk.size
  replace hk := nextB hk bC
  replace hj := nextB hj bC
  go_wp2_with fail
  refine hK.out _ _ ⟨HA.out _ hk, HC'.out _ hj⟩ (fun hHeld => ?_)
  clear hK K
  try simp only [Act.put, List.setIfInBounds_toArray, List.set_cons_zero, List.set_cons_succ]
  refine wpAnyH_ready (rs := [5]) (by kernel_rfl) (by simp) ?_
  refine AllReadyH.cons (o := ⟨some 18, _, _, _, _, _⟩) rfl (fun K hK => ?_) AllReadyH.nil
  go_simp
  go_at_call 76
  refine (normal_any (hl6.below hj) fC (by omega)).mono ?_
  rintro e w' ⟨t9, A9, n9, c9, B9, m9, d9, rfl, r9, oA9, oB9, b9⟩
  have hz_b9 := hk.size
  replace hk := nextB hk b9
  replace hj := nextB hj b9
  obtain ⟨o0, o1, o2⟩ := HZ.out _ hk
  obtain ⟨f0, f1, f2⟩ := HF.out _ hk
  go_wp2_with fail
  refine hK.out _ _ ⟨HA.out _ hk, HC'.out _ hj⟩ (fun hHeld => ?_)
  clear hK K
  try simp only [Act.put, List.setIfInBounds_toArray, List.set_cons_zero, List.set_cons_succ]
  refine wpAnyH_ready (rs := [6]) (by kernel_rfl) (by simp) ?_
  refine AllReadyH.cons (o := ⟨none, _, _, _, _, _⟩) rfl (fun K hK => ?_) AllReadyH.nil
  go_simp
  refine hK.out _ _ ⟨kept3 (by omega) (HA.out _ hk), kept3 (by omega) (HC'.out _ hj)⟩ (fun hHeld => ?_)
  clear hK K
  try simp only [Act.put, List.setIfInBounds_toArray, List.set_cons_zero, List.set_cons_succ]
  refine wpAnyH_take (i := 7) (oi := ⟨some 5, _, _, _, _, _⟩) (v := ?_) rfl (by kernel_rfl) (by kernel_rfl) (by kernel_rfl) (fun _ _ _ h => h) (Or.inl ⟨by rfl, ?_⟩) (by assumption) ?_
  rotate_left
  · intro w hSw
    (try dsimp only at hSw)
    go_simp
    try with_reducible rfl
  try simp only [Act.put, List.setIfInBounds_toArray, List.set_cons_zero, List.set_cons_succ]
  refine wpAnyH_done (by kernel_rfl) ?_ _
  go_wp2
  exact bodyPost_ret (v := .tuple #[.agg #[.bool t9, .slice A9 n9 c9, .slice B9 m9 d9], .int .i64 0]) (by simp [results, Tryz.results81, go_sem, o0, o1, o2]) rfl ⟨_, _, _, _, _, _, _, rfl,
    store_end r9 oA9 oB9 (by have := HSZ.out; omega) (by rw [HG.out]; omega) (nextB hb1 hk) _ _ _⟩
end Go.Proofs.YtekalaihfmfkkaaGreatDoor
