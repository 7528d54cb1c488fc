/-
  rational.Norm, Add, Sub, Mul, Div, Neg, Int, Make, New, Cmp, Sign, Equal: by the rational numbers that the arguments denote.
-/
import Derived.Test.YtekalaihfmfkkaaGreatDoorRatB
namespace Go.Proofs.YtekalaihfmfkkaaGreatDoor
open Go.RowKit
set_option maxRecDepth 20000


set_option maxHeartbeats 4000000 in
theorem add_r {w : World} {s s' : Bool} {A B A' B' : Option Addr} {n c m d n' c' m' d' k k' : Nat} {q q' : Rat} (hl : Laid w) (h : Loose w s A n c B m d q k) (h' : Loose w s' A' n' c' B' m' d' q' k') (k0 : 1 ≤ k) (k1 : 1 ≤ k') (hk8 : k ≤ 300000) (hk9 : k' ≤ 300000) :
    Calls Tryz.prog 68 #[.agg #[.bool s, .slice A n c, .slice B m d], .agg #[.bool s', .slice A' n' c', .slice B' m' d']] w (GivesR w (q + q') (k + k' + 1)) := by
  obtain ⟨v1, hv1⟩ : ∃ v1, ((w.alloc (.cells #[.bool s, .slice A n c, .slice B m d] 24)).alloc (.cells #[.bool s', .slice A' n' c', .slice B' m' d'] 24)).alloc (.cells #[.bool false, .slice none 0 0, .slice none 0 0] 24) = v1 := ⟨_, rfl⟩
  obtain ⟨g, hg, hsz, hb1, hA, hB, hZ, hF⟩ := boxes2 w _ _ _ _ _ _ _ _ _ _ _ _ v1 hv1
  have HG := Lib.hid hg
  have HSZ := Lib.hid hsz
  have HA := Lib.hid hA
  have HB := Lib.hid hB
  have HZ := Lib.hid hZ
  have HF := Lib.hid hF
  have HV := Lib.hid hv1
  clear hA hB hZ hF hv1 hsz hg
  have h1 := h.below hb1
  have h1' := h'.below hb1
  have hl1 := hl.below hb1
  go_enter Tryz.func68, Tryz.ntmps68
  go_wp2_with fail
  rw [HV.out, ← HG.out]
  have hk : Below v1.heap.size v1 v1.drew := (Below.refl _ _).drew
  refine wp_region_held_drew (S := (fun W => (W.cell? ⟨g, 0, none⟩ = some (.bool s) ∧ W.cell? ⟨g, 1, none⟩ = some (.slice A n c) ∧ W.cell? ⟨g, 2, none⟩ = some (.slice B m d)) ∧ (W.cell? ⟨g + 1, 0, none⟩ = some (.bool s') ∧ W.cell? ⟨g + 1, 1, none⟩ = some (.slice A' n' c') ∧ W.cell? ⟨g + 1, 2, none⟩ = some (.slice B' m' d')))) (by kernel_rfl) ?_ (fun hHeld => ?_)
  · exact ⟨HA.out _ hk, HB.out _ hk⟩
  refine wpAnyH_take (i := 0) (oi := ⟨some 5, _, _, _, _, _⟩) (v := ?_) rfl (by kernel_rfl) (by kernel_rfl) (by kernel_rfl) (fun _ _ _ h => h) (Or.inl ⟨by rfl, ?_⟩) (by assumption) ?_
  rotate_left
  · intro w hSw
    (try dsimp only at hSw)
    go_simp
    try with_reducible rfl
  try simp only [Act.put, List.setIfInBounds_toArray, List.set_cons_zero, List.set_cons_succ]
  refine wpAnyH_take (i := 2) (oi := ⟨some 7, _, _, _, _, _⟩) (v := ?_) rfl (by kernel_rfl) (by kernel_rfl) (by kernel_rfl) (fun _ _ _ h => h) (Or.inl ⟨by rfl, ?_⟩) (by assumption) ?_
  rotate_left
  · intro w hSw
    (try dsimp only at hSw)
    go_simp
    try with_reducible rfl
  try simp only [Act.put, List.setIfInBounds_toArray, List.set_cons_zero, List.set_cons_succ]
  refine wpAnyH_ready (rs := [1]) (by kernel_rfl) (by simp) ?_
  refine AllReadyH.cons (o := ⟨some 6, _, _, _, _, _⟩) rfl (fun K hK => ?_) AllReadyH.nil
  go_simp
  go_at_call 137
  refine (view_any (h1.below hk) k0).mono ?_
  rintro e w' ⟨s5, A5, n5, c5, B5, m5, d5, rfl, f5, b5⟩
  have hz_b5 := hk.size
  replace hk := nextB hk b5
  go_wp2_with fail
  refine hK.out _ _ ⟨HA.out _ hk, HB.out _ hk⟩ (fun hHeld => ?_)
  clear hK K
  try simp only [Act.put, List.setIfInBounds_toArray, List.set_cons_zero, List.set_cons_succ]
  refine wpAnyH_ready (rs := [3]) (by kernel_rfl) (by simp) ?_
  refine AllReadyH.cons (o := ⟨some 8, _, _, _, _, _⟩) rfl (fun K hK => ?_) AllReadyH.nil
  go_simp
  go_at_call 137
  refine (view_any (h1'.below hk) k1).mono ?_
  rintro e w' ⟨s6, A6, n6, c6, B6, m6, d6, rfl, f6, b6⟩
  have hz_b6 := hk.size
  replace hk := nextB hk b6
  go_wp2_with fail
  refine hK.out _ _ ⟨HA.out _ hk, HB.out _ hk⟩ (fun hHeld => ?_)
  clear hK K
  try simp only [Act.put, List.setIfInBounds_toArray, List.set_cons_zero, List.set_cons_succ]
  refine wpAnyH_ready (rs := [4]) (by kernel_rfl) (by simp) ?_
  refine AllReadyH.cons (o := ⟨some 9, _, _, _, _, _⟩) rfl (fun K hK => ?_) AllReadyH.nil
  go_simp
  go_at_call 138
  refine (plus_any (f5.below b6) f6 (by omega) (by omega)).mono ?_
  rintro e w' ⟨s7, A7, n7, c7, B7, m7, d7, rfl, f7, b7⟩
  have hz_b7 := hk.size
  replace hk := nextB hk b7
  go_wp2_with fail
  refine hK.out _ _ ⟨HA.out _ hk, HB.out _ hk⟩ (fun hHeld => ?_)
  clear hK K
  try simp only [Act.put, List.setIfInBounds_toArray, List.set_cons_zero, List.set_cons_succ]
  refine wpAnyH_ready (rs := [5]) (by kernel_rfl) (by simp) ?_
  refine AllReadyH.cons (o := ⟨some 10, _, _, _, _, _⟩) rfl (fun K hK => ?_) AllReadyH.nil
  go_simp
  go_at_call 76
  refine (normal_any (hl1.below hk) f7 (by omega)).mono ?_
  rintro e w' ⟨t9, A9, n9, c9, B9, m9, d9, rfl, r9, oA9, oB9, b9⟩
  have hz_b9 := hk.size
  replace hk := nextB hk b9
  obtain ⟨o0, o1, o2⟩ := HZ.out _ hk
  obtain ⟨f0, f1, f2⟩ := HF.out _ hk
  go_wp2_with fail
  refine hK.out _ _ ⟨HA.out _ hk, HB.out _ hk⟩ (fun hHeld => ?_)
  clear hK K
  try simp only [Act.put, List.setIfInBounds_toArray, List.set_cons_zero, List.set_cons_succ]
  refine wpAnyH_ready (rs := [6]) (by kernel_rfl) (by simp) ?_
  refine AllReadyH.cons (o := ⟨none, _, _, _, _, _⟩) rfl (fun K hK => ?_) AllReadyH.nil
  go_simp
  refine hK.out _ _ ⟨kept3 (by omega) (HA.out _ hk), kept3 (by omega) (HB.out _ hk)⟩ (fun hHeld => ?_)
  clear hK K
  try simp only [Act.put, List.setIfInBounds_toArray, List.set_cons_zero, List.set_cons_succ]
  refine wpAnyH_done (by kernel_rfl) ?_ _
  go_wp2
  exact bodyPost_ret (v := .agg #[.bool t9, .slice A9 n9 c9, .slice B9 m9 d9]) (by simp [results, Tryz.results68, go_sem, o0, o1, o2]) rfl ⟨_, _, _, _, _, _, _, rfl,
    store_end r9 oA9 oB9 (by have := HSZ.out; omega) (by rw [HG.out]; omega) (nextB hb1 hk) _ _ _⟩


set_option maxHeartbeats 4000000 in
theorem mul_r {w : World} {s s' : Bool} {A B A' B' : Option Addr} {n c m d n' c' m' d' k k' : Nat} {q q' : Rat} (hl : Laid w) (h : Loose w s A n c B m d q k) (h' : Loose w s' A' n' c' B' m' d' q' k') (k0 : 1 ≤ k) (k1 : 1 ≤ k') (hk8 : k ≤ 300000) (hk9 : k' ≤ 300000) :
    Calls Tryz.prog 87 #[.agg #[.bool s, .slice A n c, .slice B m d], .agg #[.bool s', .slice A' n' c', .slice B' m' d']] w (GivesR w (q * q') (k + k')) := by
  obtain ⟨v1, hv1⟩ : ∃ v1, ((w.alloc (.cells #[.bool s, .slice A n c, .slice B m d] 24)).alloc (.cells #[.bool s', .slice A' n' c', .slice B' m' d'] 24)).alloc (.cells #[.bool false, .slice none 0 0, .slice none 0 0] 24) = v1 := ⟨_, rfl⟩
  obtain ⟨g, hg, hsz, hb1, hA, hB, hZ, hF⟩ := boxes2 w _ _ _ _ _ _ _ _ _ _ _ _ v1 hv1
  have HG := Lib.hid hg
  have HSZ := Lib.hid hsz
  have HA := Lib.hid hA
  have HB := Lib.hid hB
  have HZ := Lib.hid hZ
  have HF := Lib.hid hF
  have HV := Lib.hid hv1
  clear hA hB hZ hF hv1 hsz hg
  have h1 := h.below hb1
  have h1' := h'.below hb1
  have hl1 := hl.below hb1
  go_enter Tryz.func87, Tryz.ntmps87
  go_wp2_with fail
  rw [HV.out, ← HG.out]
  have hk : Below v1.heap.size v1 v1.drew := (Below.refl _ _).drew
  refine wp_region_held_drew (S := (fun W => (W.cell? ⟨g, 0, none⟩ = some (.bool s) ∧ W.cell? ⟨g, 1, none⟩ = some (.slice A n c) ∧ W.cell? ⟨g, 2, none⟩ = some (.slice B m d)) ∧ (W.cell? ⟨g + 1, 0, none⟩ = some (.bool s') ∧ W.cell? ⟨g + 1, 1, none⟩ = some (.slice A' n' c') ∧ W.cell? ⟨g + 1, 2, none⟩ = some (.slice B' m' d')))) (by kernel_rfl) ?_ (fun hHeld => ?_)
  · exact ⟨HA.out _ hk, HB.out _ hk⟩
  refine wpAnyH_take (i := 0) (oi := ⟨some 5, _, _, _, _, _⟩) (v := ?_) rfl (by kernel_rfl) (by kernel_rfl) (by kernel_rfl) (fun _ _ _ h => h) (Or.inl ⟨by rfl, ?_⟩) (by assumption) ?_
  rotate_left
  · intro w hSw
    (try dsimp only at hSw)
    go_simp
    try with_reducible rfl
  try simp only [Act.put, List.setIfInBounds_toArray, List.set_cons_zero, List.set_cons_succ]
  refine wpAnyH_take (i := 2) (oi := ⟨some 7, _, _, _, _, _⟩) (v := ?_) rfl (by kernel_rfl) (by kernel_rfl) (by kernel_rfl) (fun _ _ _ h => h) (Or.inl ⟨by rfl, ?_⟩) (by assumption) ?_
  rotate_left
  · intro w hSw
    (try dsimp only at hSw)
    go_simp
    try with_reducible rfl
  try simp only [Act.put, List.setIfInBounds_toArray, List.set_cons_zero, List.set_cons_succ]
  refine wpAnyH_ready (rs := [1]) (by kernel_rfl) (by simp) ?_
  refine AllReadyH.cons (o := ⟨some 6, _, _, _, _, _⟩) rfl (fun K hK => ?_) AllReadyH.nil
  go_simp
  go_at_call 137
  refine (view_any (h1.below hk) k0).mono ?_
  rintro e w' ⟨s5, A5, n5, c5, B5, m5, d5, rfl, f5, b5⟩
  have hz_b5 := hk.size
  replace hk := nextB hk b5
  go_wp2_with fail
  refine hK.out _ _ ⟨HA.out _ hk, HB.out _ hk⟩ (fun hHeld => ?_)
  clear hK K
  try simp only [Act.put, List.setIfInBounds_toArray, List.set_cons_zero, List.set_cons_succ]
  refine wpAnyH_ready (rs := [3]) (by kernel_rfl) (by simp) ?_
  refine AllReadyH.cons (o := ⟨some 8, _, _, _, _, _⟩) rfl (fun K hK => ?_) AllReadyH.nil
  go_simp
  go_at_call 137
  refine (view_any (h1'.below hk) k1).mono ?_
  rintro e w' ⟨s6, A6, n6, c6, B6, m6, d6, rfl, f6, b6⟩
  have hz_b6 := hk.size
  replace hk := nextB hk b6
  go_wp2_with fail
  refine hK.out _ _ ⟨HA.out _ hk, HB.out _ hk⟩ (fun hHeld => ?_)
  clear hK K
  try simp only [Act.put, List.setIfInBounds_toArray, List.set_cons_zero, List.set_cons_succ]
  refine wpAnyH_ready (rs := [4]) (by kernel_rfl) (by simp) ?_
  refine AllReadyH.cons (o := ⟨some 9, _, _, _, _, _⟩) rfl (fun K hK => ?_) AllReadyH.nil
  go_simp
  go_at_call 148
  refine (times_any (f5.below b6) f6 (by omega) (by omega)).mono ?_
  rintro e w' ⟨s7, A7, n7, c7, B7, m7, d7, rfl, f7, b7⟩
  have hz_b7 := hk.size
  replace hk := nextB hk b7
  go_wp2_with fail
  refine hK.out _ _ ⟨HA.out _ hk, HB.out _ hk⟩ (fun hHeld => ?_)
  clear hK K
  try simp only [Act.put, List.setIfInBounds_toArray, List.set_cons_zero, List.set_cons_succ]
  refine wpAnyH_ready (rs := [5]) (by kernel_rfl) (by simp) ?_
  refine AllReadyH.cons (o := ⟨some 10, _, _, _, _, _⟩) rfl (fun K hK => ?_) AllReadyH.nil
  go_simp
  go_at_call 76
  refine (normal_any (hl1.below hk) f7 (by omega)).mono ?_
  rintro e w' ⟨t9, A9, n9, c9, B9, m9, d9, rfl, r9, oA9, oB9, b9⟩
  have hz_b9 := hk.size
  replace hk := nextB hk b9
  obtain ⟨o0, o1, o2⟩ := HZ.out _ hk
  obtain ⟨f0, f1, f2⟩ := HF.out _ hk
  go_wp2_with fail
  refine hK.out _ _ ⟨HA.out _ hk, HB.out _ hk⟩ (fun hHeld => ?_)
  clear hK K
  try simp only [Act.put, List.setIfInBounds_toArray, List.set_cons_zero, List.set_cons_succ]
  refine wpAnyH_ready (rs := [6]) (by kernel_rfl) (by simp) ?_
  refine AllReadyH.cons (o := ⟨none, _, _, _, _, _⟩) rfl (fun K hK => ?_) AllReadyH.nil
  go_simp
  refine hK.out _ _ ⟨kept3 (by omega) (HA.out _ hk), kept3 (by omega) (HB.out _ hk)⟩ (fun hHeld => ?_)
  clear hK K
  try simp only [Act.put, List.setIfInBounds_toArray, List.set_cons_zero, List.set_cons_succ]
  refine wpAnyH_done (by kernel_rfl) ?_ _
  go_wp2
  exact bodyPost_ret (v := .agg #[.bool t9, .slice A9 n9 c9, .slice B9 m9 d9]) (by simp [results, Tryz.results87, go_sem, o0, o1, o2]) rfl ⟨_, _, _, _, _, _, _, rfl,
    store_end r9 oA9 oB9 (by have := HSZ.out; omega) (by rw [HG.out]; omega) (nextB hb1 hk) _ _ _⟩


set_option maxHeartbeats 4000000 in
theorem sub_r {w : World} {s s' : Bool} {A B A' B' : Option Addr} {n c m d n' c' m' d' k k' : Nat} {q q' : Rat} (hl : Laid w) (h : Loose w s A n c B m d q k) (h' : Loose w s' A' n' c' B' m' d' q' k') (k0 : 1 ≤ k) (k1 : 1 ≤ k') (hk8 : k ≤ 300000) (hk9 : k' ≤ 300000) :
    Calls Tryz.prog 85 #[.agg #[.bool s, .slice A n c, .slice B m d], .agg #[.bool s', .slice A' n' c', .slice B' m' d']] w (GivesR w (q + -q') (k + k' + 1)) := by
  obtain ⟨v1, hv1⟩ : ∃ v1, ((w.alloc (.cells #[.bool s, .slice A n c, .slice B m d] 24)).alloc (.cells #[.bool s', .slice A' n' c', .slice B' m' d'] 24)).alloc (.cells #[.bool false, .slice none 0 0, .slice none 0 0] 24) = v1 := ⟨_, rfl⟩
  obtain ⟨g, hg, hsz, hb1, hA, hB, hZ, hF⟩ := boxes2 w _ _ _ _ _ _ _ _ _ _ _ _ v1 hv1
  have HG := Lib.hid hg
  have HSZ := Lib.hid hsz
  have HA := Lib.hid hA
  have HB := Lib.hid hB
  have HZ := Lib.hid hZ
  have HF := Lib.hid hF
  have HV := Lib.hid hv1
  clear hA hB hZ hF hv1 hsz hg
  have h1 := h.below hb1
  have h1' := h'.below hb1
  have hl1 := hl.below hb1
  go_enter Tryz.func85, Tryz.ntmps85
  go_wp2_with fail
  rw [HV.out, ← HG.out]
  have hk : Below v1.heap.size v1 v1.drew := (Below.refl _ _).drew
  refine wp_region_held_drew (S := (fun W => (W.cell? ⟨g, 0, none⟩ = some (.bool s) ∧ W.cell? ⟨g, 1, none⟩ = some (.slice A n c) ∧ W.cell? ⟨g, 2, none⟩ = some (.slice B m d)) ∧ (W.cell? ⟨g + 1, 0, none⟩ = some (.bool s') ∧ W.cell? ⟨g + 1, 1, none⟩ = some (.slice A' n' c') ∧ W.cell? ⟨g + 1, 2, none⟩ = some (.slice B' m' d')))) (by kernel_rfl) ?_ (fun hHeld => ?_)
  · exact ⟨HA.out _ hk, HB.out _ hk⟩
  refine wpAnyH_take (i := 0) (oi := ⟨some 5, _, _, _, _, _⟩) (v := ?_) rfl (by kernel_rfl) (by kernel_rfl) (by kernel_rfl) (fun _ _ _ h => h) (Or.inl ⟨by rfl, ?_⟩) (by assumption) ?_
  rotate_left
  · intro w hSw
    (try dsimp only at hSw)
    go_simp
    try with_reducible rfl
  try simp only [Act.put, List.setIfInBounds_toArray, List.set_cons_zero, List.set_cons_succ]
  refine wpAnyH_take (i := 2) (oi := ⟨some 7, _, _, _, _, _⟩) (v := ?_) rfl (by kernel_rfl) (by kernel_rfl) (by kernel_rfl) (fun _ _ _ h => h) (Or.inl ⟨by rfl, ?_⟩) (by assumption) ?_
  rotate_left
  · intro w hSw
    (try dsimp only at hSw)
    go_simp
    try with_reducible rfl
  try simp only [Act.put, List.setIfInBounds_toArray, List.set_cons_zero, List.set_cons_succ]
  refine wpAnyH_ready (rs := [1]) (by kernel_rfl) (by simp) ?_
  refine AllReadyH.cons (o := ⟨some 6, _, _, _, _, _⟩) rfl (fun K hK => ?_) AllReadyH.nil
  go_simp
  go_at_call 137
  refine (view_any (h1.below hk) k0).mono ?_
  rintro e w' ⟨s5, A5, n5, c5, B5, m5, d5, rfl, f5, b5⟩
  have hz_b5 := hk.size
  replace hk := nextB hk b5
  go_wp2_with fail
  refine hK.out _ _ ⟨HA.out _ hk, HB.out _ hk⟩ (fun hHeld => ?_)
  clear hK K
  try simp only [Act.put, List.setIfInBounds_toArray, List.set_cons_zero, List.set_cons_succ]
  refine wpAnyH_ready (rs := [3]) (by kernel_rfl) (by simp) ?_
  refine AllReadyH.cons (o := ⟨some 8, _, _, _, _, _⟩) rfl (fun K hK => ?_) AllReadyH.nil
  go_simp
  go_at_call 137
  refine (view_any (h1'.below hk) k1).mono ?_
  rintro e w' ⟨s6, A6, n6, c6, B6, m6, d6, rfl, f6, b6⟩
  have hz_b6 := hk.size
  replace hk := nextB hk b6
  go_wp2_with fail
  refine hK.out _ _ ⟨HA.out _ hk, HB.out _ hk⟩ (fun hHeld => ?_)
  clear hK K
  try simp only [Act.put, List.setIfInBounds_toArray, List.set_cons_zero, List.set_cons_succ]
  refine wpAnyH_ready (rs := [4]) (by kernel_rfl) (by simp) ?_
  refine AllReadyH.cons (o := ⟨some 9, _, _, _, _, _⟩) rfl (fun K hK => ?_) AllReadyH.nil
  go_simp
  go_at_call 150
  refine (negated_any f6).mono ?_
  rintro e w' ⟨s7, A7, n7, c7, B7, m7, d7, rfl, f7, b7⟩
  have hz_b7 := hk.size
  replace hk := nextB hk b7
  go_wp2_with fail
  refine hK.out _ _ ⟨HA.out _ hk, HB.out _ hk⟩ (fun hHeld => ?_)
  clear hK K
  try simp only [Act.put, List.setIfInBounds_toArray, List.set_cons_zero, List.set_cons_succ]
  refine wpAnyH_ready (rs := [5]) (by kernel_rfl) (by simp) ?_
  refine AllReadyH.cons (o := ⟨some 10, _, _, _, _, _⟩) rfl (fun K hK => ?_) AllReadyH.nil
  go_simp
  go_at_call 138
  refine (plus_any ((f5.below b6).below b7) f7 (by omega) (by omega)).mono ?_
  rintro e w' ⟨s8, A8, n8, c8, B8, m8, d8, rfl, f8, b8⟩
  have hz_b8 := hk.size
  replace hk := nextB hk b8
  go_wp2_with fail
  refine hK.out _ _ ⟨HA.out _ hk, HB.out _ hk⟩ (fun hHeld => ?_)
  clear hK K
  try simp only [Act.put, List.setIfInBounds_toArray, List.set_cons_zero, List.set_cons_succ]
  refine wpAnyH_ready (rs := [6]) (by kernel_rfl) (by simp) ?_
  refine AllReadyH.cons (o := ⟨some 11, _, _, _, _, _⟩) rfl (fun K hK => ?_) AllReadyH.nil
  go_simp
  go_at_call 76
  refine (normal_any (hl1.below hk) f8 (by omega)).mono ?_
  rintro e w' ⟨t9, A9, n9, c9, B9, m9, d9, rfl, r9, oA9, oB9, b9⟩
  have hz_b9 := hk.size
  replace hk := nextB hk b9
  obtain ⟨o0, o1, o2⟩ := HZ.out _ hk
  obtain ⟨f0, f1, f2⟩ := HF.out _ hk
  go_wp2_with fail
  refine hK.out _ _ ⟨HA.out _ hk, HB.out _ hk⟩ (fun hHeld => ?_)
  clear hK K
  try simp only [Act.put, List.setIfInBounds_toArray, List.set_cons_zero, List.set_cons_succ]
  refine wpAnyH_ready (rs := [7]) (by kernel_rfl) (by simp) ?_
  refine AllReadyH.cons (o := ⟨none, _, _, _, _, _⟩) rfl (fun K hK => ?_) AllReadyH.nil
  go_simp
  refine hK.out _ _ ⟨kept3 (by omega) (HA.out _ hk), kept3 (by omega) (HB.out _ hk)⟩ (fun hHeld => ?_)
  clear hK K
  try simp only [Act.put, List.setIfInBounds_toArray, List.set_cons_zero, List.set_cons_succ]
  refine wpAnyH_done (by kernel_rfl) ?_ _
  go_wp2
  exact bodyPost_ret (v := .agg #[.bool t9, .slice A9 n9 c9, .slice B9 m9 d9]) (by simp [results, Tryz.results85, go_sem, o0, o1, o2]) rfl ⟨_, _, _, _, _, _, _, rfl,
    store_end r9 oA9 oB9 (by have := HSZ.out; omega) (by rw [HG.out]; omega) (nextB hb1 hk) _ _ _⟩


set_option maxHeartbeats 4000000 in
theorem norm_r {w : World} {s : Bool} {A B : Option Addr} {n c m d k : Nat} {q : Rat} (hl : Laid w) (h : Loose w s A n c B m d q k) (k0 : 1 ≤ k) (hk8 : k ≤ 800000) :
    Calls Tryz.prog 83 #[.agg #[.bool s, .slice A n c, .slice B m d]] w (GivesR w (q) (k)) := by
  obtain ⟨v1, hv1⟩ : ∃ v1, (w.alloc (.cells #[.bool s, .slice A n c, .slice B m d] 24)).alloc (.cells #[.bool false, .slice none 0 0, .slice none 0 0] 24) = v1 := ⟨_, rfl⟩
  obtain ⟨g, hg, hsz, hb1, hA, hZ, hF⟩ := boxes1 w _ _ _ _ _ _ _ _ v1 hv1
  have HG := Lib.hid hg
  have HSZ := Lib.hid hsz
  have HA := Lib.hid hA
  have HZ := Lib.hid hZ
  have HF := Lib.hid hF
  have HV := Lib.hid hv1
  clear hA hZ hF hv1 hsz hg
  have h1 := h.below hb1
  have hl1 := hl.below hb1
  have hk := Below.refl v1.heap.size v1
  go_enter Tryz.func83, Tryz.ntmps83
  go_wp2_with fail
  rw [HV.out, ← HG.out]
  refine (view_any h1 k0).mono ?_
  rintro e w' ⟨s5, A5, n5, c5, B5, m5, d5, rfl, f5, b5⟩
  have hz_b5 := hk.size
  replace hk := nextB hk b5
  go_wp2_with fail
  refine (normal_any (hl1.below hk) f5 (by omega)).mono ?_
  rintro e w' ⟨t9, A9, n9, c9, B9, m9, d9, rfl, r9, oA9, oB9, b9⟩
  have hz_b9 := hk.size
  replace hk := nextB hk b9
  obtain ⟨o0, o1, o2⟩ := HZ.out _ hk
  obtain ⟨f0, f1, f2⟩ := HF.out _ hk
  go_wp2_with fail
  go_wp2
  exact bodyPost_ret (v := .agg #[.bool t9, .slice A9 n9 c9, .slice B9 m9 d9]) (by simp [results, Tryz.results83, go_sem, o0, o1, o2]) rfl ⟨_, _, _, _, _, _, _, rfl,
    store_end r9 oA9 oB9 (by have := HSZ.out; omega) (by rw [HG.out]; omega) (nextB hb1 hk) _ _ _⟩


set_option maxHeartbeats 4000000 in
theorem neg_r {w : World} {s : Bool} {A B : Option Addr} {n c m d k : Nat} {q : Rat} (hl : Laid w) (h : Loose w s A n c B m d q k) (k0 : 1 ≤ k) (hk8 : k ≤ 800000) :
    Calls Tryz.prog 88 #[.agg #[.bool s, .slice A n c, .slice B m d]] w (GivesR w (-q) (k)) := by
  obtain ⟨v1, hv1⟩ : ∃ v1, (w.alloc (.cells #[.bool s, .slice A n c, .slice B m d] 24)).alloc (.cells #[.bool false, .slice none 0 0, .slice none 0 0] 24) = v1 := ⟨_, rfl⟩
  obtain ⟨g, hg, hsz, hb1, hA, hZ, hF⟩ := boxes1 w _ _ _ _ _ _ _ _ v1 hv1
  have HG := Lib.hid hg
  have HSZ := Lib.hid hsz
  have HA := Lib.hid hA
  have HZ := Lib.hid hZ
  have HF := Lib.hid hF
  have HV := Lib.hid hv1
  clear hA hZ hF hv1 hsz hg
  have h1 := h.below hb1
  have hl1 := hl.below hb1
  have hk := Below.refl v1.heap.size v1
  go_enter Tryz.func88, Tryz.ntmps88
  go_wp2_with fail
  rw [HV.out, ← HG.out]
  refine (view_any h1 k0).mono ?_
  rintro e w' ⟨s5, A5, n5, c5, B5, m5, d5, rfl, f5, b5⟩
  have hz_b5 := hk.size
  replace hk := nextB hk b5
  go_wp2_with fail
  refine (negated_any f5).mono ?_
  rintro e w' ⟨s6, A6, n6, c6, B6, m6, d6, rfl, f6, b6⟩
  have hz_b6 := hk.size
  replace hk := nextB hk b6
  go_wp2_with fail
  refine (normal_any (hl1.below hk) f6 (by omega)).mono ?_
  rintro e w' ⟨t9, A9, n9, c9, B9, m9, d9, rfl, r9, oA9, oB9, b9⟩
  have hz_b9 := hk.size
  replace hk := nextB hk b9
  obtain ⟨o0, o1, o2⟩ := HZ.out _ hk
  obtain ⟨f0, f1, f2⟩ := HF.out _ hk
  go_wp2_with fail
  go_wp2
  exact bodyPost_ret (v := .agg #[.bool t9, .slice A9 n9 c9, .slice B9 m9 d9]) (by simp [results, Tryz.results88, go_sem, o0, o1, o2]) rfl ⟨_, _, _, _, _, _, _, rfl,
    store_end r9 oA9 oB9 (by have := HSZ.out; omega) (by rw [HG.out]; omega) (nextB hb1 hk) _ _ _⟩


theorem signOf_r {w : World} {s : Bool} {A B : Option Addr} {n c m d k : Nat} {q : Rat} (h : Loose w s A n c B m d q k) (k0 : 1 ≤ k) :
    Calls Tryz.prog 92 #[.agg #[.bool s, .slice A n c, .slice B m d]] w (IntB w (sgnR q)) := by
  have hb1 := (Below.refl w.heap.size w).alloc (Nat.le_refl _) (.cells #[.bool s, .slice A n c, .slice B m d] 24)
  have h1 := h.below hb1
  go_enter Tryz.func92, Tryz.ntmps92
  go_wp2_with fail
  refine (view_any h1 k0).mono ?_
  rintro e w5 ⟨s5, A5, n5, c5, B5, m5, d5, rfl, f5, b5⟩
  go_wp2_with fail
  refine (sign_any f5).mono ?_
  rintro e w6 ⟨rfl, b6⟩
  go_wp2
  go_ret
  exact ⟨rfl, nextB (nextB hb1 b5) b6⟩


/-- A box for the result alone. -/
theorem boxes0 (w : World) (z0 z1 z2 : Value) (T3 : TypeId) (v : World) (hv : w.alloc (.cells #[z0, z1, z2] T3) = v) :
    ∃ g, g = w.heap.size ∧ v.heap.size = g + 1 ∧ Below w.heap.size w v ∧
      (∀ W, Below v.heap.size v W → W.cell? ⟨g, 0, none⟩ = some z0 ∧ W.cell? ⟨g, 1, none⟩ = some z1 ∧ W.cell? ⟨g, 2, none⟩ = some z2) ∧
      (∀ W, Below v.heap.size v W → W.frozen? ⟨g, 0, none⟩ = false ∧ W.frozen? ⟨g, 1, none⟩ = false ∧ W.frozen? ⟨g, 2, none⟩ = false) := by
  subst hv
  have hs : (w.alloc (.cells #[z0, z1, z2] T3)).heap.size = w.heap.size + 1 := by rw [World.size_alloc]
  refine ⟨w.heap.size, rfl, hs, (Below.refl _ _).alloc (Nat.le_refl _) _, ?_, ?_⟩
  · exact three_cells (by rw [hs]; omega) ((World.cell?_alloc_new ..).trans rfl) ((World.cell?_alloc_new ..).trans rfl) ((World.cell?_alloc_new ..).trans rfl)
  · exact three_free (by rw [hs]; omega) (fun i => World.frozen?_alloc_new ..)

theorem rat_int (n : Int) : rat (decide (n < 0)) (n.natAbs : Int) 1 = (n : Rat) := by
  have h : sg (decide (n < 0)) (n.natAbs : Int) = n := by
    by_cases hq : n < 0
    · rw [decide_eq_true hq, sg_true]; omega
    · rw [decide_eq_false hq, sg_false]; omega
  unfold rat
  rw [h]
  have := Rat.num_divInt_den (n : Rat)
  simpa using this

set_option maxHeartbeats 1000000 in
theorem int_r {w : World} {n : Int} (hl : Laid w) (n0 : -9223372036854775808 ≤ n) (n1 : n ≤ 9223372036854775807) : Calls Tryz.prog 22 #[.int .i64 n] w (GivesR w (n : Rat) 2) := by
  obtain ⟨v1, hv1⟩ : ∃ v1, w.alloc (.cells #[.bool false, .slice none 0 0, .slice none 0 0] 24) = v1 := ⟨_, rfl⟩
  obtain ⟨g, hg, hsz, hb1, hZ, hF⟩ := boxes0 w _ _ _ _ v1 hv1
  have HG := Lib.hid hg
  have HSZ := Lib.hid hsz
  have HZ := Lib.hid hZ
  have HF := Lib.hid hF
  have HV := Lib.hid hv1
  clear hZ hF hv1 hsz hg
  have hl1 := hl.below hb1
  go_enter Tryz.func22, Tryz.ntmps22
  go_wp2_with fail
  rw [HV.out, ← HG.out]
  refine (magnitude_any n v1 n0 n1).mono ?_
  rintro e w5 ⟨A5, rfl, h5, o5, b5⟩
  have ba := (Below.refl w5.heap.size w5).alloc (Nat.le_refl _) (.cells #[.int .u32 1] 92)
  have hf : Frac (w5.alloc (.cells #[.int .u32 1] 92)) (decide (n < 0)) A5 2 2 (some ⟨w5.heap.size, 0, none⟩) 1 1 (n : Rat) 2 := ⟨_, 1, h5.below ba, one_at rfl, by decide, rat_int n, by omega, by omega⟩
  have hk := nextB b5 ba
  have HN := Lib.hid (normal_any (hl1.below hk) hf (by omega))
  clear hf h5 n0 n1
  go_wp2_with fail
  refine HN.out.mono ?_
  rintro e w' ⟨t9, A9, n9, c9, B9, m9, d9, rfl, r9, oA9, oB9, b9⟩
  have hz9 := hk.size
  replace hk := nextB hk b9
  obtain ⟨o0, o1, o2⟩ := HZ.out _ hk
  obtain ⟨f0, f1, f2⟩ := HF.out _ hk
  go_wp2
  exact bodyPost_ret (v := .agg #[.bool t9, .slice A9 n9 c9, .slice B9 m9 d9]) (by simp [results, Tryz.results22, go_sem, o0, o1, o2]) rfl ⟨_, _, _, _, _, _, _, rfl,
    store_end r9 oA9 oB9 (by have := HSZ.out; omega) (by rw [HG.out]; omega) (nextB hb1 hk) _ _ _⟩

end Go.Proofs.YtekalaihfmfkkaaGreatDoor
