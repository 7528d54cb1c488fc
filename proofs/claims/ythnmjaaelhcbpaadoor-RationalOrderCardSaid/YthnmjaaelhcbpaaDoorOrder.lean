/-
  exactppllaw02.RationalOrder returns true for every list of ints, whatever the memory, if noStep holds what the program's text lays.
-/
import Derived.Test.YthnmjaaelhcbpaaDoorRatCmp
import Derived.Test.YthnmjaaelhcbpaaDoorField
namespace Go.Proofs.YthnmjaaelhcbpaaDoor
open Go.RowKit
set_option maxRecDepth 100000

theorem cmpR_range (a b : Rat) : -1 ≤ cmpR a b ∧ cmpR a b ≤ 1 := by
  unfold cmpR; split
  · decide
  · split <;> decide
theorem cmpR_tri (a b : Rat) : (a < b ∧ cmpR a b = -1) ∨ (a = b ∧ cmpR a b = 0) ∨ (b < a ∧ cmpR a b = 1) := by
  rcases Rat.le_total (a := a) (b := b) with h | h
  · by_cases e : a = b
    · exact .inr (.inl ⟨e, cmpR_eq e⟩)
    · have := Rat.lt_of_le_of_ne h e
      exact .inl ⟨this, cmpR_lt this⟩
  · by_cases e : a = b
    · exact .inr (.inl ⟨e, cmpR_eq e⟩)
    · have := Rat.lt_of_le_of_ne h (fun x => e x.symm)
      exact .inr (.inr ⟨this, cmpR_gt this⟩)
theorem cmpR_swap (a b : Rat) : cmpR b a = -cmpR a b := by
  rcases cmpR_tri a b with ⟨h, e⟩ | ⟨h, e⟩ | ⟨h, e⟩ <;> rw [e]
  · exact cmpR_gt h
  · rw [cmpR_eq h.symm]; rfl
  · exact cmpR_lt h
theorem cmpR_add (a b c : Rat) : cmpR (a + c) (b + c) = cmpR a b := by
  rcases cmpR_tri a b with ⟨h, e⟩ | ⟨h, e⟩ | ⟨h, e⟩ <;> rw [e]
  · exact cmpR_lt (Rat.add_lt_add_right.2 h)
  · rw [h]; exact cmpR_eq rfl
  · exact cmpR_gt (Rat.add_lt_add_right.2 h)
theorem mul_neg_lt {a b c : Rat} (h : a < b) (hc : c < 0) : b * c < a * c := by
  have h1 : 0 < -c := by
    have := Rat.neg_lt_neg hc
    rwa [Rat.neg_zero] at this
  have h2 := Rat.mul_lt_mul_of_pos_right h h1
  rw [Rat.mul_neg, Rat.mul_neg] at h2
  exact Rat.neg_lt_neg_iff.1 h2
theorem cmpR_mul (a b c : Rat) : cmpR (a * c) (b * c) = cmpR a b * sgnR c := by
  rcases sgnR_cases c with ⟨hc, ec⟩ | ⟨hc, ec⟩ | ⟨hc, ec⟩ <;> rcases cmpR_tri a b with ⟨h, e⟩ | ⟨h, e⟩ | ⟨h, e⟩ <;> rw [e, ec]
  · exact cmpR_gt (mul_neg_lt h hc)
  · rw [h]; exact cmpR_eq rfl
  · exact cmpR_lt (mul_neg_lt h hc)
  · rw [hc, Rat.mul_zero, Rat.mul_zero]; exact cmpR_eq rfl
  · rw [hc, Rat.mul_zero, Rat.mul_zero]; exact cmpR_eq rfl
  · rw [hc, Rat.mul_zero, Rat.mul_zero]; exact cmpR_eq rfl
  · exact cmpR_lt (Rat.mul_lt_mul_of_pos_right h hc)
  · rw [h]; exact cmpR_eq rfl
  · exact cmpR_gt (Rat.mul_lt_mul_of_pos_right h hc)
theorem cmpR_sub (a b : Rat) : sgnR (a + -b) = cmpR a b := by
  have h := cmpR_add a b (-b)
  rw [Rat.add_neg_cancel] at h
  exact h
theorem cmpR_trans {a b c : Rat} (h1 : ¬ 0 < cmpR a b) (h2 : ¬ 0 < cmpR b c) : cmpR a c ≤ 0 := by
  have le : ∀ a b : Rat, ¬ 0 < cmpR a b → a ≤ b := fun a b h => by
    rcases cmpR_tri a b with ⟨h3, e⟩ | ⟨h3, e⟩ | ⟨h3, e⟩
    · exact Rat.le_of_lt h3
    · rw [h3]; exact Rat.le_refl
    · rw [e] at h; exact absurd (by decide) h
  have h3 := Rat.le_trans (le a b h1) (le b c h2)
  rcases cmpR_tri a c with ⟨h4, e⟩ | ⟨h4, e⟩ | ⟨h4, e⟩
  · rw [e]; decide
  · rw [e]; decide
  · exact absurd h4 (Rat.not_lt.2 h3)

set_option maxHeartbeats 40000000 in
theorem rationalOrder.walk {A : Option Addr} {n c : Nat} {w : World} (hl : Laid w) (hcap : n ≤ c) (htop : c ≤ maxLen) (hI : 0 < n → ∃ ad, A = some ad ∧ IntsAt w ad n (-9223372036854775808) 9223372036854775807) :
    Calls Tryd.prog 7 #[.slice A n c] w (True1 w) := by
  have HNW := Lib.hid (new_any A n c w hcap htop hI)
  clear hI hcap htop
  go_enter Tryd.func7, Tryd.ntmps7
  go_wp2_with fail
  refine HNW.out.mono ?_
  rintro e w1 ⟨g, rfl, hg, hs1, bw1⟩
  clear HNW
  go_wp2_with fail
  refine (srcLoose_r g w1 hs1).mono ?_
  rintro e w2 ⟨sa, Aa, na, ca, Ba, ma, da, qa, rfl, la, oa, oa', hs2, hb2⟩
  go_wp2_with fail
  refine (srcLoose_r g w2 hs2).mono ?_
  rintro e w3 ⟨sb, Ab, nb, cb, Bb, mb, db, qb, rfl, lb, ob, ob', hs3, hb3⟩
  go_wp2_with fail
  refine (srcLoose_r g w3 hs3).mono ?_
  rintro e w4 ⟨sc, Ac, nc, cc, Bc, mc, dc, qc, rfl, lc, oc, oc', hs4, hb4⟩
  replace la := la.but oa oa' hs1.size (hb3.trans hb4)
  replace lb := lb.but ob ob' hs2.size hb4
  have bw4 : Below w.heap.size w w4 := bw1.trans (((hb2.trans hb3).trans hb4).below hg bw1.size)
  clear oa oa' ob ob' oc oc' hs1 hs2 hs3 hs4 hb2 hb3 hb4 bw1
  obtain ⟨v, hv⟩ : ∃ v, ((w4.alloc (.cells #[.bool sa, .slice Aa na ca, .slice Ba ma da] 40)).alloc (.cells #[.bool sb, .slice Ab nb cb, .slice Bb mb db] 40)).alloc (.cells #[.bool sc, .slice Ac nc cc, .slice Bc mc dc] 40) = v := ⟨_, rfl⟩
  obtain ⟨p, hp, bv, h_a, h_b, h_c⟩ := boxes3 w4 _ _ _ _ _ _ _ _ _ _ _ _ v hv
  have HCA := Lib.hid h_a
  have HCB := Lib.hid h_b
  have HCC := Lib.hid h_c
  have HP := Lib.hid hp
  have HV := Lib.hid hv
  replace la := la.below bv
  replace lb := lb.below bv
  replace lc := lc.below bv
  have bwv := bw4.trans (bv.mono bw4.size)
  have hlv := hl.below bwv
  clear h_a h_b h_c hp hv hl bv bw4
  obtain ⟨X, hX⟩ : ∃ X, cmpR qa qb = X := ⟨_, rfl⟩
  obtain ⟨Sg, hSg⟩ : ∃ Sg, sgnR qc = Sg := ⟨_, rfl⟩
  have x1 := cmpR_range qa qb
  have s1 := cmpR_range qc 0
  rw [hX] at x1
  rw [show cmpR qc 0 = Sg from hSg] at s1
  have E1 : Hid (cmpR qb qa = -X) := by show _ = _; rw [cmpR_swap, hX]
  have E2 : Hid (cmpR (qa + qc) (qb + qc) = X) := by show _ = _; rw [cmpR_add, hX]
  have E3 : Hid (cmpR (qa * qc) (qb * qc) = X * Sg) := by show _ = _; rw [cmpR_mul, hX, hSg]
  have E4 : Hid (sgnR (qa + -qb) = X) := by show _ = _; rw [cmpR_sub, hX]
  have E5 : Hid (¬ 0 < X → ¬ 0 < cmpR qb qc → cmpR qa qc ≤ 0) := by
    intro h1 h2
    rw [← hX] at h1
    exact cmpR_trans h1 h2
  have m0 : IntKind.i64.wrap X = X := by rw [IntKind.wrap_i64]; omega
  have m1 : IntKind.i64.wrap (-(-X)) = X := by rw [IntKind.wrap_i64]; omega
  have m2 : IntKind.i64.wrap (X * Sg) = X * Sg := by
    have : -1 ≤ X * Sg ∧ X * Sg ≤ 1 := by
      rcases (show X = -1 ∨ X = 0 ∨ X = 1 by omega) with rfl | rfl | rfl <;> omega
    rw [IntKind.wrap_i64]; omega
  have HX := Lib.hid hX
  have HS := Lib.hid hSg
  clear hX hSg
  have hk := Below.refl v.heap.size v
  have hlu := hlv
  obtain ⟨a0, a1, a2⟩ := HCA.out _ hk
  obtain ⟨b0, b1, b2⟩ := HCB.out _ hk
  rw [← HV.out, HP.out] at a0 a1 a2 b0 b1 b2
  go_wp2_with fail
  rw [HV.out, ← HP.out]
  refine (ratCmp_r la lb (by omega) (by omega) (by omega) (by omega)).mono ?_
  rintro e v3 ⟨rfl, e0⟩
  rw [HX.out]
  replace hk := nextB hk e0
  clear a0 a1 a2 b0 b1 b2
  go_upto_region 4 with fail
  replace hk := hk.drew
  refine wp_region_held_drew (S := (fun W => (W.cell? ⟨p, 0, none⟩ = some (.bool sa) ∧ W.cell? ⟨p, 1, none⟩ = some (.slice Aa na ca) ∧ W.cell? ⟨p, 2, none⟩ = some (.slice Ba ma da)) ∧ (W.cell? ⟨p + 1, 0, none⟩ = some (.bool sb) ∧ W.cell? ⟨p + 1, 1, none⟩ = some (.slice Ab nb cb) ∧ W.cell? ⟨p + 1, 2, none⟩ = some (.slice Bb mb db)) ∧ (W.cell? ⟨p + 2, 0, none⟩ = some (.bool sc) ∧ W.cell? ⟨p + 2, 1, none⟩ = some (.slice Ac nc cc) ∧ W.cell? ⟨p + 2, 2, none⟩ = some (.slice Bc mc dc)))) (by kernel_rfl) ?_ (fun hHeld => ?_)
  · exact ⟨HCA.out _ hk, HCB.out _ hk, HCC.out _ hk⟩
  refine wpAnyH_take (i := 0) (oi := ⟨some 19, _, _, _, _, _⟩) (v := ?_) rfl (by kernel_rfl) (by kernel_rfl) (by kernel_rfl) (fun _ _ _ h => h) (Or.inl ⟨by rfl, ?_⟩) (by assumption) ?_
  rotate_left
  · intro w hSw
    (try dsimp only at hSw)
    go_simp
    try with_reducible rfl
  try simp only [Act.put, List.setIfInBounds_toArray, List.set_cons_zero, List.set_cons_succ]
  refine wpAnyH_take (i := 1) (oi := ⟨some 20, _, _, _, _, _⟩) (v := ?_) rfl (by kernel_rfl) (by kernel_rfl) (by kernel_rfl) (fun _ _ _ h => h) (Or.inl ⟨by rfl, ?_⟩) (by assumption) ?_
  rotate_left
  · intro w hSw
    (try dsimp only at hSw)
    go_simp
    try with_reducible rfl
  try simp only [Act.put, List.setIfInBounds_toArray, List.set_cons_zero, List.set_cons_succ]
  refine wpAnyH_take (i := 2) (oi := ⟨some 21, _, _, _, _, _⟩) (v := ?_) rfl (by kernel_rfl) (by kernel_rfl) (by kernel_rfl) (fun _ _ _ h => h) (Or.inl ⟨by rfl, ?_⟩) (by assumption) ?_
  rotate_left
  · intro w hSw
    (try dsimp only at hSw)
    go_simp
    try with_reducible rfl
  try simp only [Act.put, List.setIfInBounds_toArray, List.set_cons_zero, List.set_cons_succ]
  refine wpAnyH_ready (rs := [3]) (by kernel_rfl) (by simp) ?_
  refine AllReadyH.cons (o := ⟨some 22, _, _, _, _, _⟩) rfl (fun K hK => ?_) AllReadyH.nil
  go_simp
  go_at_call 39
  refine (ratCmp_r (lb.below hk) (la.below hk) (by omega) (by omega) (by omega) (by omega)).mono ?_
  rintro e w' ⟨rfl, e1⟩
  replace hk := nextB hk e1
  rw [E1.out]
  go_wp2_with fail
  refine hK.out _ _ ⟨HCA.out _ hk, HCB.out _ hk, HCC.out _ hk⟩ (fun hHeld => ?_)
  clear hK K
  try simp only [Act.put, List.setIfInBounds_toArray, List.set_cons_zero, List.set_cons_succ]
  refine wpAnyH_take (i := 4) (oi := ⟨some 23, _, _, _, _, _⟩) (v := ?_) rfl (by kernel_rfl) (by kernel_rfl) (by kernel_rfl) (fun _ _ _ h => h) (Or.inl ⟨by rfl, ?_⟩) (by assumption) ?_
  rotate_left
  · intro w hSw
    (try dsimp only at hSw)
    go_simp
    try with_reducible rfl
  try simp only [Act.put, List.setIfInBounds_toArray, List.set_cons_zero, List.set_cons_succ]
  refine wpAnyH_take (i := 5) (oi := ⟨some 24, _, _, _, _, _⟩) (v := ?_) rfl (by kernel_rfl) (by kernel_rfl) (by kernel_rfl) (fun _ _ _ h => h) (Or.inl ⟨by rfl, ?_⟩) (by assumption) ?_
  rotate_left
  · intro w hSw
    (try dsimp only at hSw)
    go_simp
    try with_reducible rfl
  try simp only [Act.put, List.setIfInBounds_toArray, List.set_cons_zero, List.set_cons_succ]
  refine wpAnyH_take (i := 6) (oi := ⟨some 25, _, _, _, _, _⟩) (v := ?_) rfl (by kernel_rfl) (by kernel_rfl) (by kernel_rfl) (fun _ _ _ h => h) (Or.inl ⟨by rfl, ?_⟩) (by assumption) ?_
  rotate_left
  · intro w hSw
    (try dsimp only at hSw)
    go_simp
    try with_reducible rfl
  try simp only [Act.put, List.setIfInBounds_toArray, List.set_cons_zero, List.set_cons_succ]
  refine wpAnyH_take (i := 7) (oi := ⟨some 26, _, _, _, _, _⟩) (v := ?_) rfl (by kernel_rfl) (by kernel_rfl) (by kernel_rfl) (fun _ _ _ h => h) (Or.inl ⟨by rfl, ?_⟩) (by assumption) ?_
  rotate_left
  · intro w hSw
    (try dsimp only at hSw)
    go_simp
    try with_reducible rfl
  try simp only [Act.put, List.setIfInBounds_toArray, List.set_cons_zero, List.set_cons_succ]
  refine wpAnyH_take (i := 8) (oi := ⟨some 27, _, _, _, _, _⟩) (v := ?_) rfl (by kernel_rfl) (by kernel_rfl) (by kernel_rfl) (fun _ _ _ h => h) (Or.inl ⟨by rfl, ?_⟩) (by assumption) ?_
  rotate_left
  · intro w hSw
    (try dsimp only at hSw)
    go_simp
    try with_reducible rfl
  try simp only [Act.put, List.setIfInBounds_toArray, List.set_cons_zero, List.set_cons_succ]
  refine wpAnyH_take (i := 9) (oi := ⟨some 28, _, _, _, _, _⟩) (v := ?_) rfl (by kernel_rfl) (by kernel_rfl) (by kernel_rfl) (fun _ _ _ h => h) (Or.inl ⟨by rfl, ?_⟩) (by assumption) ?_
  rotate_left
  · intro w hSw
    (try dsimp only at hSw)
    go_simp
    try with_reducible rfl
  try simp only [Act.put, List.setIfInBounds_toArray, List.set_cons_zero, List.set_cons_succ]
  refine wpAnyH_take (i := 10) (oi := ⟨some 29, _, _, _, _, _⟩) (v := ?_) rfl (by kernel_rfl) (by kernel_rfl) (by kernel_rfl) (fun _ _ _ h => h) (Or.inl ⟨by rfl, ?_⟩) (by assumption) ?_
  rotate_left
  · intro w hSw
    (try dsimp only at hSw)
    go_simp
    try with_reducible rfl
  try simp only [Act.put, List.setIfInBounds_toArray, List.set_cons_zero, List.set_cons_succ]
  refine wpAnyH_ready (rs := [11]) (by kernel_rfl) (by simp) ?_
  refine AllReadyH.cons (o := ⟨some 30, _, _, _, _, _⟩) rfl (fun K hK => ?_) AllReadyH.nil
  go_simp
  go_at_call 40
  refine (ratEqual_r (la.below hk) (lb.below hk) (by omega) (by omega) (by omega) (by omega)).mono ?_
  rintro e w' ⟨rfl, e2⟩
  replace hk := nextB hk e2
  rw [HX.out]
  go_wp2_with fail
  refine hK.out _ _ ⟨HCA.out _ hk, HCB.out _ hk, HCC.out _ hk⟩ (fun hHeld => ?_)
  clear hK K
  try simp only [Act.put, List.setIfInBounds_toArray, List.set_cons_zero, List.set_cons_succ]
  refine wpAnyH_take (i := 12) (oi := ⟨some 31, _, _, _, _, _⟩) (v := ?_) rfl (by kernel_rfl) (by kernel_rfl) (by kernel_rfl) (fun _ _ _ h => h) (Or.inl ⟨by rfl, ?_⟩) (by assumption) ?_
  rotate_left
  · intro w hSw
    (try dsimp only at hSw)
    go_simp
    try with_reducible rfl
  try simp only [Act.put, List.setIfInBounds_toArray, List.set_cons_zero, List.set_cons_succ]
  refine wpAnyH_take (i := 13) (oi := ⟨some 32, _, _, _, _, _⟩) (v := ?_) rfl (by kernel_rfl) (by kernel_rfl) (by kernel_rfl) (fun _ _ _ h => h) (Or.inl ⟨by rfl, ?_⟩) (by assumption) ?_
  rotate_left
  · intro w hSw
    (try dsimp only at hSw)
    go_simp
    try with_reducible rfl
  try simp only [Act.put, List.setIfInBounds_toArray, List.set_cons_zero, List.set_cons_succ]
  refine wpAnyH_take (i := 14) (oi := ⟨some 33, _, _, _, _, _⟩) (v := ?_) rfl (by kernel_rfl) (by kernel_rfl) (by kernel_rfl) (fun _ _ _ h => h) (Or.inl ⟨by rfl, ?_⟩) (by assumption) ?_
  rotate_left
  · intro w hSw
    (try dsimp only at hSw)
    go_simp
    try with_reducible rfl
  try simp only [Act.put, List.setIfInBounds_toArray, List.set_cons_zero, List.set_cons_succ]
  refine wpAnyH_take (i := 15) (oi := ⟨some 34, _, _, _, _, _⟩) (v := ?_) rfl (by kernel_rfl) (by kernel_rfl) (by kernel_rfl) (fun _ _ _ h => h) (Or.inl ⟨by rfl, ?_⟩) (by assumption) ?_
  rotate_left
  · intro w hSw
    (try dsimp only at hSw)
    go_simp
    try with_reducible rfl
  try simp only [Act.put, List.setIfInBounds_toArray, List.set_cons_zero, List.set_cons_succ]
  refine wpAnyH_take (i := 16) (oi := ⟨some 35, _, _, _, _, _⟩) (v := ?_) rfl (by kernel_rfl) (by kernel_rfl) (by kernel_rfl) (fun _ _ _ h => h) (Or.inl ⟨by rfl, ?_⟩) (by assumption) ?_
  rotate_left
  · intro w hSw
    (try dsimp only at hSw)
    go_simp
    try with_reducible rfl
  try simp only [Act.put, List.setIfInBounds_toArray, List.set_cons_zero, List.set_cons_succ]
  refine wpAnyH_take (i := 18) (oi := ⟨some 37, _, _, _, _, _⟩) (v := ?_) rfl (by kernel_rfl) (by kernel_rfl) (by kernel_rfl) (fun _ _ _ h => h) (Or.inl ⟨by rfl, ?_⟩) (by assumption) ?_
  rotate_left
  · intro w hSw
    (try dsimp only at hSw)
    go_simp
    try with_reducible rfl
  try simp only [Act.put, List.setIfInBounds_toArray, List.set_cons_zero, List.set_cons_succ]
  refine wpAnyH_take (i := 19) (oi := ⟨some 38, _, _, _, _, _⟩) (v := ?_) rfl (by kernel_rfl) (by kernel_rfl) (by kernel_rfl) (fun _ _ _ h => h) (Or.inl ⟨by rfl, ?_⟩) (by assumption) ?_
  rotate_left
  · intro w hSw
    (try dsimp only at hSw)
    go_simp
    try with_reducible rfl
  try simp only [Act.put, List.setIfInBounds_toArray, List.set_cons_zero, List.set_cons_succ]
  refine wpAnyH_take (i := 22) (oi := ⟨some 41, _, _, _, _, _⟩) (v := ?_) rfl (by kernel_rfl) (by kernel_rfl) (by kernel_rfl) (fun _ _ _ h => h) (Or.inl ⟨by rfl, ?_⟩) (by assumption) ?_
  rotate_left
  · intro w hSw
    (try dsimp only at hSw)
    go_simp
    try with_reducible rfl
  try simp only [Act.put, List.setIfInBounds_toArray, List.set_cons_zero, List.set_cons_succ]
  refine wpAnyH_ready (rs := [17]) (by kernel_rfl) (by simp) ?_
  refine AllReadyH.cons (o := ⟨some 36, _, _, _, _, _⟩) rfl (fun K hK => ?_) AllReadyH.nil
  go_simp
  go_at_call 28
  refine (add_r (hlu.below hk) (la.below hk) (lc.below hk) (by omega) (by omega) (by omega) (by omega)).mono ?_
  rintro e w' ⟨s3, A3, n3, c3, B3, m3, d3, rfl, r3, _, _, e3⟩
  replace hk := nextB hk e3
  go_wp2_with fail
  refine hK.out _ _ ⟨HCA.out _ hk, HCB.out _ hk, HCC.out _ hk⟩ (fun hHeld => ?_)
  clear hK K
  try simp only [Act.put, List.setIfInBounds_toArray, List.set_cons_zero, List.set_cons_succ]
  refine wpAnyH_ready (rs := [20]) (by kernel_rfl) (by simp) ?_
  refine AllReadyH.cons (o := ⟨some 39, _, _, _, _, _⟩) rfl (fun K hK => ?_) AllReadyH.nil
  go_simp
  go_at_call 28
  refine (add_r (hlu.below hk) (lb.below hk) (lc.below hk) (by omega) (by omega) (by omega) (by omega)).mono ?_
  rintro e w' ⟨s4, A4, n4, c4, B4, m4, d4, rfl, r4, _, _, e4⟩
  replace hk := nextB hk e4
  go_wp2_with fail
  refine hK.out _ _ ⟨HCA.out _ hk, HCB.out _ hk, HCC.out _ hk⟩ (fun hHeld => ?_)
  clear hK K
  try simp only [Act.put, List.setIfInBounds_toArray, List.set_cons_zero, List.set_cons_succ]
  refine wpAnyH_ready (rs := [21]) (by kernel_rfl) (by simp) ?_
  refine AllReadyH.cons (o := ⟨some 40, _, _, _, _, _⟩) rfl (fun K hK => ?_) AllReadyH.nil
  go_simp
  go_at_call 39
  refine (ratCmp_r (r3.below e4).loose r4.loose (by omega) (by omega) (by omega) (by omega)).mono ?_
  rintro e w' ⟨rfl, e5⟩
  replace hk := nextB hk e5
  rw [E2.out]
  go_wp2_with fail
  refine hK.out _ _ ⟨HCA.out _ hk, HCB.out _ hk, HCC.out _ hk⟩ (fun hHeld => ?_)
  clear hK K
  try simp only [Act.put, List.setIfInBounds_toArray, List.set_cons_zero, List.set_cons_succ]
  refine wpAnyH_take (i := 23) (oi := ⟨some 42, _, _, _, _, _⟩) (v := ?_) rfl (by kernel_rfl) (by kernel_rfl) (by kernel_rfl) (fun _ _ _ h => h) (Or.inl ⟨by rfl, ?_⟩) (by assumption) ?_
  rotate_left
  · intro w hSw
    (try dsimp only at hSw)
    go_simp
    try with_reducible rfl
  try simp only [Act.put, List.setIfInBounds_toArray, List.set_cons_zero, List.set_cons_succ]
  refine wpAnyH_take (i := 24) (oi := ⟨some 43, _, _, _, _, _⟩) (v := ?_) rfl (by kernel_rfl) (by kernel_rfl) (by kernel_rfl) (fun _ _ _ h => h) (Or.inl ⟨by rfl, ?_⟩) (by assumption) ?_
  rotate_left
  · intro w hSw
    (try dsimp only at hSw)
    go_simp
    try with_reducible rfl
  try simp only [Act.put, List.setIfInBounds_toArray, List.set_cons_zero, List.set_cons_succ]
  refine wpAnyH_take (i := 25) (oi := ⟨some 44, _, _, _, _, _⟩) (v := ?_) rfl (by kernel_rfl) (by kernel_rfl) (by kernel_rfl) (fun _ _ _ h => h) (Or.inl ⟨by rfl, ?_⟩) (by assumption) ?_
  rotate_left
  · intro w hSw
    (try dsimp only at hSw)
    go_simp
    try with_reducible rfl
  try simp only [Act.put, List.setIfInBounds_toArray, List.set_cons_zero, List.set_cons_succ]
  refine wpAnyH_take (i := 26) (oi := ⟨some 45, _, _, _, _, _⟩) (v := ?_) rfl (by kernel_rfl) (by kernel_rfl) (by kernel_rfl) (fun _ _ _ h => h) (Or.inl ⟨by rfl, ?_⟩) (by assumption) ?_
  rotate_left
  · intro w hSw
    (try dsimp only at hSw)
    go_simp
    try with_reducible rfl
  try simp only [Act.put, List.setIfInBounds_toArray, List.set_cons_zero, List.set_cons_succ]
  refine wpAnyH_take (i := 27) (oi := ⟨some 46, _, _, _, _, _⟩) (v := ?_) rfl (by kernel_rfl) (by kernel_rfl) (by kernel_rfl) (fun _ _ _ h => h) (Or.inl ⟨by rfl, ?_⟩) (by assumption) ?_
  rotate_left
  · intro w hSw
    (try dsimp only at hSw)
    go_simp
    try with_reducible rfl
  try simp only [Act.put, List.setIfInBounds_toArray, List.set_cons_zero, List.set_cons_succ]
  refine wpAnyH_take (i := 29) (oi := ⟨some 48, _, _, _, _, _⟩) (v := ?_) rfl (by kernel_rfl) (by kernel_rfl) (by kernel_rfl) (fun _ _ _ h => h) (Or.inl ⟨by rfl, ?_⟩) (by assumption) ?_
  rotate_left
  · intro w hSw
    (try dsimp only at hSw)
    go_simp
    try with_reducible rfl
  try simp only [Act.put, List.setIfInBounds_toArray, List.set_cons_zero, List.set_cons_succ]
  refine wpAnyH_take (i := 30) (oi := ⟨some 49, _, _, _, _, _⟩) (v := ?_) rfl (by kernel_rfl) (by kernel_rfl) (by kernel_rfl) (fun _ _ _ h => h) (Or.inl ⟨by rfl, ?_⟩) (by assumption) ?_
  rotate_left
  · intro w hSw
    (try dsimp only at hSw)
    go_simp
    try with_reducible rfl
  try simp only [Act.put, List.setIfInBounds_toArray, List.set_cons_zero, List.set_cons_succ]
  refine wpAnyH_take (i := 33) (oi := ⟨some 52, _, _, _, _, _⟩) (v := ?_) rfl (by kernel_rfl) (by kernel_rfl) (by kernel_rfl) (fun _ _ _ h => h) (Or.inl ⟨by rfl, ?_⟩) (by assumption) ?_
  rotate_left
  · intro w hSw
    (try dsimp only at hSw)
    go_simp
    try with_reducible rfl
  try simp only [Act.put, List.setIfInBounds_toArray, List.set_cons_zero, List.set_cons_succ]
  refine wpAnyH_take (i := 34) (oi := ⟨some 53, _, _, _, _, _⟩) (v := ?_) rfl (by kernel_rfl) (by kernel_rfl) (by kernel_rfl) (fun _ _ _ h => h) (Or.inl ⟨by rfl, ?_⟩) (by assumption) ?_
  rotate_left
  · intro w hSw
    (try dsimp only at hSw)
    go_simp
    try with_reducible rfl
  try simp only [Act.put, List.setIfInBounds_toArray, List.set_cons_zero, List.set_cons_succ]
  refine wpAnyH_ready (rs := [28]) (by kernel_rfl) (by simp) ?_
  refine AllReadyH.cons (o := ⟨some 47, _, _, _, _, _⟩) rfl (fun K hK => ?_) AllReadyH.nil
  go_simp
  go_at_call 30
  refine (mul_r (hlu.below hk) (la.below hk) (lc.below hk) (by omega) (by omega) (by omega) (by omega)).mono ?_
  rintro e w' ⟨s6, A6, n6, c6, B6, m6, d6, rfl, r6, _, _, e6⟩
  replace hk := nextB hk e6
  go_wp2_with fail
  refine hK.out _ _ ⟨HCA.out _ hk, HCB.out _ hk, HCC.out _ hk⟩ (fun hHeld => ?_)
  clear hK K
  try simp only [Act.put, List.setIfInBounds_toArray, List.set_cons_zero, List.set_cons_succ]
  refine wpAnyH_ready (rs := [31]) (by kernel_rfl) (by simp) ?_
  refine AllReadyH.cons (o := ⟨some 50, _, _, _, _, _⟩) rfl (fun K hK => ?_) AllReadyH.nil
  go_simp
  go_at_call 30
  refine (mul_r (hlu.below hk) (lb.below hk) (lc.below hk) (by omega) (by omega) (by omega) (by omega)).mono ?_
  rintro e w' ⟨s7, A7, n7, c7, B7, m7, d7, rfl, r7, _, _, e7⟩
  replace hk := nextB hk e7
  go_wp2_with fail
  refine hK.out _ _ ⟨HCA.out _ hk, HCB.out _ hk, HCC.out _ hk⟩ (fun hHeld => ?_)
  clear hK K
  try simp only [Act.put, List.setIfInBounds_toArray, List.set_cons_zero, List.set_cons_succ]
  refine wpAnyH_ready (rs := [32]) (by kernel_rfl) (by simp) ?_
  refine AllReadyH.cons (o := ⟨some 51, _, _, _, _, _⟩) rfl (fun K hK => ?_) AllReadyH.nil
  go_simp
  go_at_call 39
  refine (ratCmp_r (r6.below e7).loose r7.loose (by omega) (by omega) (by omega) (by omega)).mono ?_
  rintro e w' ⟨rfl, e8⟩
  replace hk := nextB hk e8
  rw [E3.out]
  go_wp2_with fail
  refine hK.out _ _ ⟨HCA.out _ hk, HCB.out _ hk, HCC.out _ hk⟩ (fun hHeld => ?_)
  clear hK K
  try simp only [Act.put, List.setIfInBounds_toArray, List.set_cons_zero, List.set_cons_succ]
  refine wpAnyH_ready (rs := [35]) (by kernel_rfl) (by simp) ?_
  refine AllReadyH.cons (o := ⟨some 54, _, _, _, _, _⟩) rfl (fun K hK => ?_) AllReadyH.nil
  go_simp
  go_at_call 38
  refine (signOf_r (lc.below hk) (by omega)).mono ?_
  rintro e w' ⟨rfl, e9⟩
  replace hk := nextB hk e9
  rw [HS.out]
  go_wp2_with fail
  refine hK.out _ _ ⟨HCA.out _ hk, HCB.out _ hk, HCC.out _ hk⟩ (fun hHeld => ?_)
  clear hK K
  try simp only [Act.put, List.setIfInBounds_toArray, List.set_cons_zero, List.set_cons_succ]
  refine wpAnyH_take (i := 36) (oi := ⟨some 55, _, _, _, _, _⟩) (v := ?_) rfl (by kernel_rfl) (by kernel_rfl) (by kernel_rfl) (fun _ _ _ h => h) (Or.inl ⟨by rfl, ?_⟩) (by assumption) ?_
  rotate_left
  · intro w hSw
    (try dsimp only at hSw)
    go_simp
    try with_reducible rfl
  try simp only [Act.put, List.setIfInBounds_toArray, List.set_cons_zero, List.set_cons_succ]
  refine wpAnyH_take (i := 37) (oi := ⟨some 56, _, _, _, _, _⟩) (v := ?_) rfl (by kernel_rfl) (by kernel_rfl) (by kernel_rfl) (fun _ _ _ h => h) (Or.inl ⟨by rfl, ?_⟩) (by assumption) ?_
  rotate_left
  · intro w hSw
    (try dsimp only at hSw)
    go_simp
    try with_reducible rfl
  try simp only [Act.put, List.setIfInBounds_toArray, List.set_cons_zero, List.set_cons_succ]
  refine wpAnyH_take (i := 38) (oi := ⟨some 57, _, _, _, _, _⟩) (v := ?_) rfl (by kernel_rfl) (by kernel_rfl) (by kernel_rfl) (fun _ _ _ h => h) (Or.inl ⟨by rfl, ?_⟩) (by assumption) ?_
  rotate_left
  · intro w hSw
    (try dsimp only at hSw)
    go_simp
    try with_reducible rfl
  try simp only [Act.put, List.setIfInBounds_toArray, List.set_cons_zero, List.set_cons_succ]
  refine wpAnyH_done (by kernel_rfl) ?_ _
  obtain ⟨xa0, xa1, xa2⟩ := HCA.out _ hk
  obtain ⟨xb0, xb1, xb2⟩ := HCB.out _ hk
  obtain ⟨xc0, xc1, xc2⟩ := HCC.out _ hk
  by_cases hx : 0 < X
  · have t1 : decide (0 < X) = true := decide_eq_true hx
    go_wp2_with fail
    refine (sub_r (hlu.below hk) (la.below hk) (lb.below hk) (by omega) (by omega) (by omega) (by omega)).mono ?_
    rintro e w' ⟨s1, A1, n1, c1, B1, m1, d1, rfl, r1, _, _, e1⟩
    replace hk := nextB hk e1
    clear xa0 xa1 xa2 xb0 xb1 xb2 xc0 xc1 xc2
    obtain ⟨xa0, xa1, xa2⟩ := HCA.out _ hk
    obtain ⟨xb0, xb1, xb2⟩ := HCB.out _ hk
    obtain ⟨xc0, xc1, xc2⟩ := HCC.out _ hk
    go_wp2_with fail
    refine (signOf_r r1.loose (by omega)).mono ?_
    rintro e w' ⟨rfl, e2⟩
    replace hk := nextB hk e2
    rw [E4.out]
    clear xa0 xa1 xa2 xb0 xb1 xb2 xc0 xc1 xc2
    obtain ⟨xa0, xa1, xa2⟩ := HCA.out _ hk
    obtain ⟨xb0, xb1, xb2⟩ := HCB.out _ hk
    obtain ⟨xc0, xc1, xc2⟩ := HCC.out _ hk
    go_wp2_with fail
    refine (awake2_any _ (hlu.below hk)).mono ?_
    rintro e w' ⟨rfl, e3⟩
    replace hk := nextB hk e3
    clear xa0 xa1 xa2 xb0 xb1 xb2 xc0 xc1 xc2
    obtain ⟨xa0, xa1, xa2⟩ := HCA.out _ hk
    obtain ⟨xb0, xb1, xb2⟩ := HCB.out _ hk
    obtain ⟨xc0, xc1, xc2⟩ := HCC.out _ hk
    go_wp2
    go_ret
    exact ⟨rfl, bwv.trans (hk.mono bwv.size)⟩
  · have t1 : decide (0 < X) = false := decide_eq_false hx
    by_cases hy : 0 < cmpR qb qc
    · have t2 : decide (0 < cmpR qb qc) = true := decide_eq_true hy
      go_wp2_with fail
      refine (ratCmp_r (lb.below hk) (lc.below hk) (by omega) (by omega) (by omega) (by omega)).mono ?_
      rintro e w' ⟨rfl, e1⟩
      replace hk := nextB hk e1
      clear xa0 xa1 xa2 xb0 xb1 xb2 xc0 xc1 xc2
      obtain ⟨xa0, xa1, xa2⟩ := HCA.out _ hk
      obtain ⟨xb0, xb1, xb2⟩ := HCB.out _ hk
      obtain ⟨xc0, xc1, xc2⟩ := HCC.out _ hk
      go_wp2_with fail
      refine (sub_r (hlu.below hk) (la.below hk) (lb.below hk) (by omega) (by omega) (by omega) (by omega)).mono ?_
      rintro e w' ⟨s2, A2, n2, c2, B2, m2, d2, rfl, r2, _, _, e2⟩
      replace hk := nextB hk e2
      clear xa0 xa1 xa2 xb0 xb1 xb2 xc0 xc1 xc2
      obtain ⟨xa0, xa1, xa2⟩ := HCA.out _ hk
      obtain ⟨xb0, xb1, xb2⟩ := HCB.out _ hk
      obtain ⟨xc0, xc1, xc2⟩ := HCC.out _ hk
      go_wp2_with fail
      refine (signOf_r r2.loose (by omega)).mono ?_
      rintro e w' ⟨rfl, e3⟩
      replace hk := nextB hk e3
      rw [E4.out]
      clear xa0 xa1 xa2 xb0 xb1 xb2 xc0 xc1 xc2
      obtain ⟨xa0, xa1, xa2⟩ := HCA.out _ hk
      obtain ⟨xb0, xb1, xb2⟩ := HCB.out _ hk
      obtain ⟨xc0, xc1, xc2⟩ := HCC.out _ hk
      go_wp2_with fail
      refine (awake2_any _ (hlu.below hk)).mono ?_
      rintro e w' ⟨rfl, e4⟩
      replace hk := nextB hk e4
      clear xa0 xa1 xa2 xb0 xb1 xb2 xc0 xc1 xc2
      obtain ⟨xa0, xa1, xa2⟩ := HCA.out _ hk
      obtain ⟨xb0, xb1, xb2⟩ := HCB.out _ hk
      obtain ⟨xc0, xc1, xc2⟩ := HCC.out _ hk
      go_wp2
      go_ret
      exact ⟨rfl, bwv.trans (hk.mono bwv.size)⟩
    · have t2 : decide (0 < cmpR qb qc) = false := decide_eq_false hy
      have t3 : cmpR qa qc ≤ 0 := E5.out (by omega) (by omega)
      go_wp2_with fail
      refine (ratCmp_r (lb.below hk) (lc.below hk) (by omega) (by omega) (by omega) (by omega)).mono ?_
      rintro e w' ⟨rfl, e1⟩
      replace hk := nextB hk e1
      clear xa0 xa1 xa2 xb0 xb1 xb2 xc0 xc1 xc2
      obtain ⟨xa0, xa1, xa2⟩ := HCA.out _ hk
      obtain ⟨xb0, xb1, xb2⟩ := HCB.out _ hk
      obtain ⟨xc0, xc1, xc2⟩ := HCC.out _ hk
      go_wp2_with fail
      refine (ratCmp_r (la.below hk) (lc.below hk) (by omega) (by omega) (by omega) (by omega)).mono ?_
      rintro e w' ⟨rfl, e2⟩
      replace hk := nextB hk e2
      clear xa0 xa1 xa2 xb0 xb1 xb2 xc0 xc1 xc2
      obtain ⟨xa0, xa1, xa2⟩ := HCA.out _ hk
      obtain ⟨xb0, xb1, xb2⟩ := HCB.out _ hk
      obtain ⟨xc0, xc1, xc2⟩ := HCC.out _ hk
      go_wp2_with fail
      refine (sub_r (hlu.below hk) (la.below hk) (lb.below hk) (by omega) (by omega) (by omega) (by omega)).mono ?_
      rintro e w' ⟨s3, A3, n3, c3, B3, m3, d3, rfl, r3, _, _, e3⟩
      replace hk := nextB hk e3
      clear xa0 xa1 xa2 xb0 xb1 xb2 xc0 xc1 xc2
      obtain ⟨xa0, xa1, xa2⟩ := HCA.out _ hk
      obtain ⟨xb0, xb1, xb2⟩ := HCB.out _ hk
      obtain ⟨xc0, xc1, xc2⟩ := HCC.out _ hk
      go_wp2_with fail
      refine (signOf_r r3.loose (by omega)).mono ?_
      rintro e w' ⟨rfl, e4⟩
      replace hk := nextB hk e4
      rw [E4.out]
      clear xa0 xa1 xa2 xb0 xb1 xb2 xc0 xc1 xc2
      obtain ⟨xa0, xa1, xa2⟩ := HCA.out _ hk
      obtain ⟨xb0, xb1, xb2⟩ := HCB.out _ hk
      obtain ⟨xc0, xc1, xc2⟩ := HCC.out _ hk
      go_wp2_with fail
      refine (awake2_any _ (hlu.below hk)).mono ?_
      rintro e w' ⟨rfl, e5⟩
      replace hk := nextB hk e5
      clear xa0 xa1 xa2 xb0 xb1 xb2 xc0 xc1 xc2
      obtain ⟨xa0, xa1, xa2⟩ := HCA.out _ hk
      obtain ⟨xb0, xb1, xb2⟩ := HCB.out _ hk
      obtain ⟨xc0, xc1, xc2⟩ := HCC.out _ hk
      go_wp2
      go_ret
      exact ⟨rfl, bwv.trans (hk.mono bwv.size)⟩

end Go.Proofs.YthnmjaaelhcbpaaDoor
