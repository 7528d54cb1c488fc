/-
  rational.Norm, Add, Sub, Mul, Div, Neg, Int, Make, New, Cmp, Sign, Equal: by the rational numbers that the arguments denote.
-/
import Derived.Test.YtekalaihfmfkkaaDoorRatB
namespace Go.Proofs.YtekalaihfmfkkaaDoor
open Go.RowKit
set_option maxRecDepth 20000


set_option maxHeartbeats 4000000 in
theorem add_r {w : World} {s s' : Bool} {A B A' B' : Option Addr} {n c m d n' c' m' d' k k' : Nat} {q q' : Rat} (hl : Laid w) (h : Loose w s A n c B m d q k) (h' : Loose w s' A' n' c' B' m' d' q' k') (k0 : 1 ≤ k) (k1 : 1 ≤ k') (hk8 : k ≤ 300000) (hk9 : k' ≤ 300000) :
    Calls Tryd.prog 12 #[.agg #[.bool s, .slice A n c, .slice B m d], .agg #[.bool s', .slice A' n' c', .slice B' m' d']] w (GivesR w (q + q') (k + k' + 1)) := by
  obtain ⟨v1, hv1⟩ : ∃ v1, ((w.alloc (.cells #[.bool s, .slice A n c, .slice B m d] 24)).alloc (.cells #[.bool s', .slice A' n' c', .slice B' m' d'] 24)).alloc (.cells #[.bool false, .slice none 0 0, .slice none 0 0] 24) = v1 := ⟨_, rfl⟩
  obtain ⟨g, hg, hsz, hb1, hA, hB, hZ, hF⟩ := boxes2 w _ _ _ _ _ _ _ _ _ _ _ _ v1 hv1
  have HG := Lib.hid hg
  have HSZ := Lib.hid hsz
  have HA := Lib.hid hA
  have HB := Lib.hid hB
  have HZ := Lib.hid hZ
  have HF := Lib.hid hF
  have HV := Lib.hid hv1
  clear hA hB hZ hF hv1 hsz hg
  have h1 := h.below hb1
  have h1' := h'.below hb1
  have hl1 := hl.below hb1
  go_enter Tryd.func12, Tryd.ntmps12
  go_wp2_with fail
  rw [HV.out, ← HG.out]
  have hk : Below v1.heap.size v1 v1.drew := (Below.refl _ _).drew
  refine wp_region_held_drew (S := (fun W => (W.cell? ⟨g, 0, none⟩ = some (.bool s) ∧ W.cell? ⟨g, 1, none⟩ = some (.slice A n c) ∧ W.cell? ⟨g, 2, none⟩ = some (.slice B m d)) ∧ (W.cell? ⟨g + 1, 0, none⟩ = some (.bool s') ∧ W.cell? ⟨g + 1, 1, none⟩ = some (.slice A' n' c') ∧ W.cell? ⟨g + 1, 2, none⟩ = some (.slice B' m' d')))) (by kernel_rfl) ?_ (fun hHeld => ?_)
  · exact ⟨HA.out _ hk, HB.out _ hk⟩
  refine wpAnyH_take (i := 0) (oi := ⟨some 5, _, _, _, _, _⟩) (v := ?_) rfl (by kernel_rfl) (by kernel_rfl) (by kernel_rfl) (fun _ _ _ h => h) (Or.inl ⟨by rfl, ?_⟩) (by assumption) ?_
  rotate_left
  · intro w hSw
    (try dsimp only at hSw)
    go_simp
    try with_reducible rfl
  try simp only [Act.put, List.setIfInBounds_toArray, List.set_cons_zero, List.set_cons_succ]
  refine wpAnyH_take (i := 2) (oi := ⟨some 7, _, _, _, _, _⟩) (v := ?_) rfl (by kernel_rfl) (by kernel_rfl) (by kernel_rfl) (fun _ _ _ h => h) (Or.inl ⟨by rfl, ?_⟩) (by assumption) ?_
  rotate_left
  · intro w hSw
    (try dsimp only at hSw)
    go_simp
    try with_reducible rfl
  try simp only [Act.put, List.setIfInBounds_toArray, List.set_cons_zero, List.set_cons_succ]
  refine wpAnyH_ready (rs := [1]) (by kernel_rfl) (by simp) ?_
  refine AllReadyH.cons (o := ⟨some 6, _, _, _, _, _⟩) rfl (fun K hK => ?_) AllReadyH.nil
  go_simp
  go_at_call 24
  refine (view_any (h1.below hk) k0).mono ?_
  rintro e w' ⟨s5, A5, n5, c5, B5, m5, d5, rfl, f5, b5⟩
  have hz_b5 := hk.size
  replace hk := nextB hk b5
  go_wp2_with fail
  refine hK.out _ _ ⟨HA.out _ hk, HB.out _ hk⟩ (fun hHeld => ?_)
  clear hK K
  try simp only [Act.put, List.setIfInBounds_toArray, List.set_cons_zero, List.set_cons_succ]
  refine wpAnyH_ready (rs := [3]) (by kernel_rfl) (by simp) ?_
  refine AllReadyH.cons (o := ⟨some 8, _, _, _, _, _⟩) rfl (fun K hK => ?_) AllReadyH.nil
  go_simp
  go_at_call 24
  refine (view_any (h1'.below hk) k1).mono ?_
  rintro e w' ⟨s6, A6, n6, c6, B6, m6, d6, rfl, f6, b6⟩
  have hz_b6 := hk.size
  replace hk := nextB hk b6
  go_wp2_with fail
  refine hK.out _ _ ⟨HA.out _ hk, HB.out _ hk⟩ (fun hHeld => ?_)
  clear hK K
  try simp only [Act.put, List.setIfInBounds_toArray, List.set_cons_zero, List.set_cons_succ]
  refine wpAnyH_ready (rs := [4]) (by kernel_rfl) (by simp) ?_
  refine AllReadyH.cons (o := ⟨some 9, _, _, _, _, _⟩) rfl (fun K hK => ?_) AllReadyH.nil
  go_simp
  go_at_call 25
  refine (plus_any (f5.below b6) f6 (by omega) (by omega)).mono ?_
  rintro e w' ⟨s7, A7, n7, c7, B7, m7, d7, rfl, f7, b7⟩
  have hz_b7 := hk.size
  replace hk := nextB hk b7
  go_wp2_with fail
  refine hK.out _ _ ⟨HA.out _ hk, HB.out _ hk⟩ (fun hHeld => ?_)
  clear hK K
  try simp only [Act.put, List.setIfInBounds_toArray, List.set_cons_zero, List.set_cons_succ]
  refine wpAnyH_ready (rs := [5]) (by kernel_rfl) (by simp) ?_
  refine AllReadyH.cons (o := ⟨some 10, _, _, _, _, _⟩) rfl (fun K hK => ?_) AllReadyH.nil
  go_simp
  go_at_call 26
  refine (normal_any (hl1.below hk) f7 (by omega)).mono ?_
  rintro e w' ⟨t9, A9, n9, c9, B9, m9, d9, rfl, r9, oA9, oB9, b9⟩
  have hz_b9 := hk.size
  replace hk := nextB hk b9
  obtain ⟨o0, o1, o2⟩ := HZ.out _ hk
  obtain ⟨f0, f1, f2⟩ := HF.out _ hk
  go_wp2_with fail
  refine hK.out _ _ ⟨HA.out _ hk, HB.out _ hk⟩ (fun hHeld => ?_)
  clear hK K
  try simp only [Act.put, List.setIfInBounds_toArray, List.set_cons_zero, List.set_cons_succ]
  refine wpAnyH_ready (rs := [6]) (by kernel_rfl) (by simp) ?_
  refine AllReadyH.cons (o := ⟨none, _, _, _, _, _⟩) rfl (fun K hK => ?_) AllReadyH.nil
  go_simp
  refine hK.out _ _ ⟨kept3 (by omega) (HA.out _ hk), kept3 (by omega) (HB.out _ hk)⟩ (fun hHeld => ?_)
  clear hK K
  try simp only [Act.put, List.setIfInBounds_toArray, List.set_cons_zero, List.set_cons_succ]
  refine wpAnyH_done (by kernel_rfl) ?_ _
  go_wp2
  exact bodyPost_ret (v := .agg #[.bool t9, .slice A9 n9 c9, .slice B9 m9 d9]) (by simp [results, Tryd.results12, go_sem, o0, o1, o2]) rfl ⟨_, _, _, _, _, _, _, rfl,
    store_end r9 oA9 oB9 (by have := HSZ.out; omega) (by rw [HG.out]; omega) (nextB hb1 hk) _ _ _⟩


set_option maxHeartbeats 4000000 in
theorem norm_r {w : World} {s : Bool} {A B : Option Addr} {n c m d k : Nat} {q : Rat} (hl : Laid w) (h : Loose w s A n c B m d q k) (k0 : 1 ≤ k) (hk8 : k ≤ 800000) :
    Calls Tryd.prog 13 #[.agg #[.bool s, .slice A n c, .slice B m d]] w (GivesR w (q) (k)) := by
  obtain ⟨v1, hv1⟩ : ∃ v1, (w.alloc (.cells #[.bool s, .slice A n c, .slice B m d] 24)).alloc (.cells #[.bool false, .slice none 0 0, .slice none 0 0] 24) = v1 := ⟨_, rfl⟩
  obtain ⟨g, hg, hsz, hb1, hA, hZ, hF⟩ := boxes1 w _ _ _ _ _ _ _ _ v1 hv1
  have HG := Lib.hid hg
  have HSZ := Lib.hid hsz
  have HA := Lib.hid hA
  have HZ := Lib.hid hZ
  have HF := Lib.hid hF
  have HV := Lib.hid hv1
  clear hA hZ hF hv1 hsz hg
  have h1 := h.below hb1
  have hl1 := hl.below hb1
  have hk := Below.refl v1.heap.size v1
  go_enter Tryd.func13, Tryd.ntmps13
  go_wp2_with fail
  rw [HV.out, ← HG.out]
  refine (view_any h1 k0).mono ?_
  rintro e w' ⟨s5, A5, n5, c5, B5, m5, d5, rfl, f5, b5⟩
  have hz_b5 := hk.size
  replace hk := nextB hk b5
  go_wp2_with fail
  refine (normal_any (hl1.below hk) f5 (by omega)).mono ?_
  rintro e w' ⟨t9, A9, n9, c9, B9, m9, d9, rfl, r9, oA9, oB9, b9⟩
  have hz_b9 := hk.size
  replace hk := nextB hk b9
  obtain ⟨o0, o1, o2⟩ := HZ.out _ hk
  obtain ⟨f0, f1, f2⟩ := HF.out _ hk
  go_wp2_with fail
  go_wp2
  exact bodyPost_ret (v := .agg #[.bool t9, .slice A9 n9 c9, .slice B9 m9 d9]) (by simp [results, Tryd.results13, go_sem, o0, o1, o2]) rfl ⟨_, _, _, _, _, _, _, rfl,
    store_end r9 oA9 oB9 (by have := HSZ.out; omega) (by rw [HG.out]; omega) (nextB hb1 hk) _ _ _⟩


/-- A box for the result alone. -/
theorem boxes0 (w : World) (z0 z1 z2 : Value) (T3 : TypeId) (v : World) (hv : w.alloc (.cells #[z0, z1, z2] T3) = v) :
    ∃ g, g = w.heap.size ∧ v.heap.size = g + 1 ∧ Below w.heap.size w v ∧
      (∀ W, Below v.heap.size v W → W.cell? ⟨g, 0, none⟩ = some z0 ∧ W.cell? ⟨g, 1, none⟩ = some z1 ∧ W.cell? ⟨g, 2, none⟩ = some z2) ∧
      (∀ W, Below v.heap.size v W → W.frozen? ⟨g, 0, none⟩ = false ∧ W.frozen? ⟨g, 1, none⟩ = false ∧ W.frozen? ⟨g, 2, none⟩ = false) := by
  subst hv
  have hs : (w.alloc (.cells #[z0, z1, z2] T3)).heap.size = w.heap.size + 1 := by rw [World.size_alloc]
  refine ⟨w.heap.size, rfl, hs, (Below.refl _ _).alloc (Nat.le_refl _) _, ?_, ?_⟩
  · exact three_cells (by rw [hs]; omega) ((World.cell?_alloc_new ..).trans rfl) ((World.cell?_alloc_new ..).trans rfl) ((World.cell?_alloc_new ..).trans rfl)
  · exact three_free (by rw [hs]; omega) (fun i => World.frozen?_alloc_new ..)

theorem rat_int (n : Int) : rat (decide (n < 0)) (n.natAbs : Int) 1 = (n : Rat) := by
  have h : sg (decide (n < 0)) (n.natAbs : Int) = n := by
    by_cases hq : n < 0
    · rw [decide_eq_true hq, sg_true]; omega
    · rw [decide_eq_false hq, sg_false]; omega
  unfold rat
  rw [h]
  have := Rat.num_divInt_den (n : Rat)
  simpa using this

end Go.Proofs.YtekalaihfmfkkaaDoor
