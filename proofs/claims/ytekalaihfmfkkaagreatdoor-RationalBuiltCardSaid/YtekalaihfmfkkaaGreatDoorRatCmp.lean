/-
  rational.Cmp and Equal: how two fractions compare.
-/
import Derived.Test.YtekalaihfmfkkaaGreatDoorRatF
namespace Go.Proofs.YtekalaihfmfkkaaGreatDoor
open Go.RowKit
set_option maxRecDepth 20000

/-- The slice lies below lo or from hi on. -/
def Skip (lo hi : Nat) (A : Option Addr) (n : Nat) : Prop := 0 < n → ∀ a, A = some a → a.block < lo ∨ hi ≤ a.block
theorem skip_ne {lo hi top g n : Nat} {A : Option Addr} (sk : Skip lo hi A n) (old : 0 < n → ∀ a, A = some a → a.block < top) (h : (lo ≤ g ∧ g < hi) ∨ top ≤ g) : 0 < n → ∀ a, A = some a → a.block ≠ g := by
  intro h0 a ha
  have h1 := sk h0 a ha
  have h2 := old h0 a ha
  omega
def GivesFS (lo : Nat) (w : World) (q : Rat) (k : Nat) (e : Ending) (w' : World) : Prop :=
  ∃ s A n c B m d, e = .returned (.agg #[.bool s, .slice A n c, .slice B m d]) ∧ Frac w' s A n c B m d q k ∧ Skip lo w.heap.size A n ∧ Skip lo w.heap.size B m ∧ Below w.heap.size w w'
theorem view_s {v w : World} {s : Bool} {A B : Option Addr} {n c m d k : Nat} {q : Rat} (hb : Below v.heap.size v w) (h : Loose v s A n c B m d q k) (hk : 1 ≤ k) :
    Calls Tryz.prog 137 #[.agg #[.bool s, .slice A n c, .slice B m d]] w (GivesFS v.heap.size w q k) := by
  obtain ⟨x, y, hx0, hy0, hq, hn, hm⟩ := h
  have hx := hx0.below hb
  have hy := hy0.below hb
  have y0 := hy.nonneg
  have hb2 := ((Below.refl w.heap.size w).alloc (Nat.le_refl _) (.cells #[.bool s, .slice A n c, .slice B m d] 24)).alloc (by simp) (.cells #[.bool false, .slice none 0 0, .slice none 0 0] 95)
  have HZ := isZero_any (hy.below hb2)
  by_cases h0 : y = 0
  · subst h0
    rw [rat_over_zero] at hq
    have HZ' := Lib.hid HZ
    have HQ := Lib.hid hq
    clear hq HZ
    go_enter Tryz.func137, Tryz.ntmps137
    go_wp2_with fail
    refine HZ'.out.mono ?_
    rintro e w' ⟨rfl, kk, rfl⟩
    go_wp2
    refine bodyPost_ret (v := .agg #[.bool false, .slice none 0 0, .slice (some ⟨w.heap.size + 1 + 1, 0, none⟩) 1 1]) (by simp [results, Tryz.results137, go_sem]) rfl ⟨_, _, _, _, _, _, _, rfl, ⟨0, 1, num_nil _, one_at (by simp), by decide, ?_, by omega, hk⟩, fun h => absurd h (by decide), fun _ a e => .inr (by injection e with e; rw [← e]; show w.heap.size ≤ w.heap.size + 1 + 1; omega), ?_⟩
    · rw [rat_zero, HQ.out]
    · exact (((drewN_below hb2 kk).setCell (by simp) _).setCell (by simp) _).setCell (by simp) _ |>.alloc (by simp; omega) _
  · rw [show decide (y = 0) = false from decide_eq_false h0] at HZ
    have HZ' := Lib.hid HZ
    have HQ := Lib.hid hq
    have ox := hx0.old
    have oy := hy0.old
    clear hq HZ
    go_enter Tryz.func137, Tryz.ntmps137
    go_wp2_with fail
    refine HZ'.out.mono ?_
    rintro e w' ⟨rfl, kk, rfl⟩
    go_wp2
    have hb3 := (((drewN_below hb2 kk).setCell (p := ⟨w.heap.size + 1, 0, none⟩) (by simp) (.bool s)).setCell (p := ⟨w.heap.size + 1, 1, none⟩) (by simp) (.slice A n c)).setCell (p := ⟨w.heap.size + 1, 2, none⟩) (by simp) (.slice B m d)
    refine bodyPost_ret (v := .agg #[.bool s, .slice A n c, .slice B m d]) (by simp [results, Tryz.results137, go_sem]) rfl ⟨_, _, _, _, _, _, _, rfl, ⟨x, y, hx.below hb3, hy.below hb3, by omega, HQ.out, hn, hm⟩, fun h0 a e => .inl (ox h0 a e), fun h0 a e => .inl (oy h0 a e), hb3⟩

theorem Frac.far3 {w : World} {s : Bool} {A B : Option Addr} {n c m d k g : Nat} {q : Rat} (h : Frac w s A n c B m d q k) (hA : 0 < n → ∀ a, A = some a → a.block ≠ g) (hB : 0 < m → ∀ a, B = some a → a.block ≠ g) (i j l : Nat) (u v z : Value) :
    Frac (((w.setCell ⟨g, i, none⟩ u).setCell ⟨g, j, none⟩ v).setCell ⟨g, l, none⟩ z) s A n c B m d q k := by
  obtain ⟨x, y, hx, hy, h3⟩ := h
  exact ⟨x, y, hx.far3 hA _ _ _ _ _ _, hy.far3 hB _ _ _ _ _ _, h3⟩
theorem Frac.oldA {w : World} {s : Bool} {A B : Option Addr} {n c m d k : Nat} {q : Rat} (h : Frac w s A n c B m d q k) : 0 < n → ∀ a, A = some a → a.block < w.heap.size := by
  obtain ⟨x, y, hx, hy, h3⟩ := h
  exact hx.old
theorem Frac.oldB {w : World} {s : Bool} {A B : Option Addr} {n c m d k : Nat} {q : Rat} (h : Frac w s A n c B m d q k) : 0 < m → ∀ a, B = some a → a.block < w.heap.size := by
  obtain ⟨x, y, hx, hy, h3⟩ := h
  exact hy.old
/-- Three stores: what the block holds. -/
theorem set3 {w : World} {g : Nat} {a b c x y z : Value} (H : w.cell? ⟨g, 0, none⟩ = some a ∧ w.cell? ⟨g, 1, none⟩ = some b ∧ w.cell? ⟨g, 2, none⟩ = some c) :
    (((w.setCell ⟨g, 0, none⟩ x).setCell ⟨g, 1, none⟩ y).setCell ⟨g, 2, none⟩ z).cell? ⟨g, 0, none⟩ = some x ∧ (((w.setCell ⟨g, 0, none⟩ x).setCell ⟨g, 1, none⟩ y).setCell ⟨g, 2, none⟩ z).cell? ⟨g, 1, none⟩ = some y ∧
      (((w.setCell ⟨g, 0, none⟩ x).setCell ⟨g, 1, none⟩ y).setCell ⟨g, 2, none⟩ z).cell? ⟨g, 2, none⟩ = some z := by
  refine ⟨?_, ?_, ?_⟩
  · rw [World.cell?_setCell_other _ _ _ _ (by simp), World.cell?_setCell_other _ _ _ _ (by simp)]
    exact World.cell?_setCell_same _ _ _ H.1
  · rw [World.cell?_setCell_other _ _ _ _ (by simp)]
    refine World.cell?_setCell_same _ _ _ (u := b) ?_
    rw [World.cell?_setCell_other _ _ _ _ (by simp)]; exact H.2.1
  · refine World.cell?_setCell_same _ _ _ (u := c) ?_
    rw [World.cell?_setCell_other _ _ _ _ (by simp), World.cell?_setCell_other _ _ _ _ (by simp)]; exact H.2.2

/-- Both fractions stand in boxes. -/
def CmpCut (v1 : World) (q q' : Rat) (k k' : Nat) (s5 s6 : Value) (wx : World) : Prop :=
  ∃ s A n c B m d ga s' A' n' c' B' m' d' gb, s5 = .pointer (some ⟨ga, 0, none⟩) ∧ s6 = .pointer (some ⟨gb, 0, none⟩) ∧
    (wx.cell? ⟨ga, 0, none⟩ = some (.bool s) ∧ wx.cell? ⟨ga, 1, none⟩ = some (.slice A n c) ∧ wx.cell? ⟨ga, 2, none⟩ = some (.slice B m d)) ∧
    (wx.cell? ⟨gb, 0, none⟩ = some (.bool s') ∧ wx.cell? ⟨gb, 1, none⟩ = some (.slice A' n' c') ∧ wx.cell? ⟨gb, 2, none⟩ = some (.slice B' m' d')) ∧
    Frac wx s A n c B m d q k ∧ Frac wx s' A' n' c' B' m' d' q' k' ∧ Below v1.heap.size v1 wx
theorem cmpCut_mk {v1 W : World} {q q' : Rat} {k k' : Nat} {s s' : Bool} {A B A' B' : Option Addr} {n c m d n' c' m' d' ga gb : Nat} {z0 z1 z2 y0 y1 y2 : Value} (hk : Below v1.heap.size v1 W) (ha : v1.heap.size ≤ ga) (hb : v1.heap.size ≤ gb) (hab : ga ≠ gb)
    (ca : W.cell? ⟨ga, 0, none⟩ = some z0 ∧ W.cell? ⟨ga, 1, none⟩ = some z1 ∧ W.cell? ⟨ga, 2, none⟩ = some z2) (cb : W.cell? ⟨gb, 0, none⟩ = some y0 ∧ W.cell? ⟨gb, 1, none⟩ = some y1 ∧ W.cell? ⟨gb, 2, none⟩ = some y2)
    (f : Frac W s A n c B m d q k) (f' : Frac W s' A' n' c' B' m' d' q' k')
    (a1 : 0 < n → ∀ a, A = some a → a.block ≠ ga) (a2 : 0 < n → ∀ a, A = some a → a.block ≠ gb) (b1 : 0 < m → ∀ a, B = some a → a.block ≠ ga) (b2 : 0 < m → ∀ a, B = some a → a.block ≠ gb)
    (a1' : 0 < n' → ∀ a, A' = some a → a.block ≠ ga) (a2' : 0 < n' → ∀ a, A' = some a → a.block ≠ gb) (b1' : 0 < m' → ∀ a, B' = some a → a.block ≠ ga) (b2' : 0 < m' → ∀ a, B' = some a → a.block ≠ gb) :
    CmpCut v1 q q' k k' (.pointer (some ⟨ga, 0, none⟩)) (.pointer (some ⟨gb, 0, none⟩)) ((((((W.setCell ⟨ga, 0, none⟩ (.bool s)).setCell ⟨ga, 1, none⟩ (.slice A n c)).setCell ⟨ga, 2, none⟩ (.slice B m d)).setCell ⟨gb, 0, none⟩ (.bool s')).setCell ⟨gb, 1, none⟩ (.slice A' n' c')).setCell ⟨gb, 2, none⟩ (.slice B' m' d')) :=
  ⟨s, A, n, c, B, m, d, ga, s', A', n', c', B', m', d', gb, rfl, rfl, kept3 (fun e => hab e.symm) (set3 ca), set3 (kept3 hab cb), (f.far3 a1 b1 _ _ _ _ _ _).far3 a2 b2 _ _ _ _ _ _, (f'.far3 a1' b1' _ _ _ _ _ _).far3 a2' b2' _ _ _ _ _ _,
    (((((hk.setCell ha _).setCell ha _).setCell ha _).setCell hb _).setCell hb _).setCell hb _⟩



theorem compare_any (x y : Int) (w : World) : Calls Tryz.prog 151 #[.int .i64 x, .int .i64 y] w fun e w' => e = .returned (.int .i64 (cmpZ x y)) ∧ w = w' := by
  by_cases h1 : x < y
  · have HC := Lib.hid (cmpZ_lt h1)
    go_enter Tryz.func151, Tryz.ntmps151
    go_wp2
    go_ret
    exact ⟨ret_int HC.out.symm, rfl⟩
  · by_cases h2 : y < x
    · have HC := Lib.hid (cmpZ_gt h2)
      go_enter Tryz.func151, Tryz.ntmps151
      go_wp2
      go_ret
      exact ⟨ret_int HC.out.symm, rfl⟩
    · have HC := Lib.hid (cmpZ_eq (a := x) (b := y) (by omega))
      go_enter Tryz.func151, Tryz.ntmps151
      go_wp2
      go_ret
      exact ⟨ret_int HC.out.symm, rfl⟩

theorem rat_lt_trans {a b c : Rat} (h1 : a < b) (h2 : b < c) : a < c := Rat.not_le.1 (fun h => Rat.not_le.2 h1 (Rat.le_trans (Rat.le_of_lt h2) h))
theorem sgnR_cases (q : Rat) : (q < 0 ∧ sgnR q = -1) ∨ (q = 0 ∧ sgnR q = 0) ∨ (0 < q ∧ sgnR q = 1) := by
  rcases (Rat.le_total (a := q) (b := 0)) with h | h
  · by_cases h0 : q = 0
    · exact .inr (.inl ⟨h0, by rw [h0]; exact sgnR_zero⟩)
    · have h1 := Rat.lt_of_le_of_ne h h0
      exact .inl ⟨h1, cmpR_lt h1⟩
  · by_cases h0 : q = 0
    · exact .inr (.inl ⟨h0, by rw [h0]; exact sgnR_zero⟩)
    · have h1 := Rat.lt_of_le_of_ne h (fun e => h0 e.symm)
      exact .inr (.inr ⟨h1, cmpR_gt h1⟩)
theorem sgnR_diff {q q' : Rat} (h : cmpZ (sgnR q) (sgnR q') ≠ 0) : cmpR q q' = cmpZ (sgnR q) (sgnR q') := by
  rcases sgnR_cases q with ⟨h1, e1⟩ | ⟨h1, e1⟩ | ⟨h1, e1⟩ <;> rcases sgnR_cases q' with ⟨h2, e2⟩ | ⟨h2, e2⟩ | ⟨h2, e2⟩ <;> rw [e1, e2] at h ⊢
  · exact absurd rfl h
  · subst h2; exact cmpR_lt h1
  · exact cmpR_lt (rat_lt_trans h1 h2)
  · subst h1; exact cmpR_gt h2
  · exact absurd rfl h
  · subst h1; exact cmpR_lt h2
  · exact cmpR_gt (rat_lt_trans h2 h1)
  · subst h2; exact cmpR_gt h1
  · exact absurd rfl h
theorem cmpZ_neg (a b : Int) : cmpZ (-a) (-b) = -cmpZ a b := by
  unfold cmpZ
  by_cases h1 : a < b
  · rw [if_neg (by omega), if_pos (by omega), if_pos h1]; rfl
  · by_cases h2 : b < a
    · rw [if_pos (by omega), if_neg h1, if_pos h2]
    · rw [if_neg (by omega), if_neg (by omega), if_neg h1, if_neg h2]; rfl
theorem cmp_equal {s s' : Bool} {x y u v : Int} {q q' : Rat} (hq : rat s x y = q) (hq' : rat s' u v = q') (x0 : 0 ≤ x) (y0 : 0 < y) (u0 : 0 ≤ u) (v0 : 0 < v) (h : cmpZ (sgnR q) (sgnR q') = 0) : sgnR q * cmpZ (x * v) (u * y) = cmpR q q' := by
  have he : sgnR q = sgnR q' := by
    unfold cmpZ at h
    split at h
    · cases h
    · split at h
      · cases h
      · omega
  have hc := rat_cmp s s' (x := x) (u := u) y0 v0
  rw [hq, hq'] at hc
  have hn := rat_neg_iff s x0 y0
  have hp := rat_pos_iff s x0 y0
  have hn' := rat_neg_iff s' u0 v0
  have hp' := rat_pos_iff s' u0 v0
  rw [hq] at hn hp
  rw [hq'] at hn' hp'
  rcases sgnR_cases q with ⟨h1, e1⟩ | ⟨h1, e1⟩ | ⟨h1, e1⟩ <;> rcases sgnR_cases q' with ⟨h2, e2⟩ | ⟨h2, e2⟩ | ⟨h2, e2⟩ <;> rw [e1, e2] at he <;> try (exact absurd he (by decide))
  · obtain ⟨rfl, _⟩ := hn.1 h1
    obtain ⟨rfl, _⟩ := hn'.1 h2
    rw [hc, e1, sg_true, sg_true, cmpZ_neg]; omega
  · subst h1 h2
    rw [e1, Int.zero_mul]; exact (cmpR_eq rfl).symm
  · obtain ⟨rfl, _⟩ := hp.1 h1
    obtain ⟨rfl, _⟩ := hp'.1 h2
    rw [hc, e1, sg_false, sg_false, Int.one_mul]


set_option maxHeartbeats 40000000 in
theorem ratCmp_r {w : World} {s s' : Bool} {A B A' B' : Option Addr} {n c m d n' c' m' d' k k' : Nat} {q q' : Rat} (h : Loose w s A n c B m d q k) (h' : Loose w s' A' n' c' B' m' d' q' k') (k0 : 1 ≤ k) (k1 : 1 ≤ k') (hk8 : k ≤ 300000) (hk9 : k' ≤ 300000) :
    Calls Tryz.prog 90 #[.agg #[.bool s, .slice A n c, .slice B m d], .agg #[.bool s', .slice A' n' c', .slice B' m' d']] w (IntB w (cmpR q q')) := by
  obtain ⟨v1, hv1⟩ : ∃ v1, (w.alloc (.cells #[.bool s, .slice A n c, .slice B m d] 24)).alloc (.cells #[.bool s', .slice A' n' c', .slice B' m' d'] 24) = v1 := ⟨_, rfl⟩
  obtain ⟨g, hg, hsz, hb1, hA, hB, _⟩ := boxes1 w _ _ _ _ _ _ _ _ v1 hv1
  have HG := Lib.hid hg
  have HSZ := Lib.hid hsz
  have HA := Lib.hid hA
  have HB := Lib.hid hB
  have HV := Lib.hid hv1
  clear hA hB hv1 hsz hg
  have h1 := h.below hb1
  have h1' := h'.below hb1
  go_enter Tryz.func90, Tryz.ntmps90
  go_upto_region 1 with fail
  rw [HV.out, ← HG.out]
  have hk0' : Below v1.heap.size v1 v1.drew := (Below.refl _ _).drew
  go_cut [5, 6] (fun u5 u6 wx => CmpCut v1 q q' k k' u5 u6 wx)
  case first =>
    refine wp_region_held_drew (S := (fun W => (W.cell? ⟨g, 0, none⟩ = some (.bool s) ∧ W.cell? ⟨g, 1, none⟩ = some (.slice A n c) ∧ W.cell? ⟨g, 2, none⟩ = some (.slice B m d)) ∧ (W.cell? ⟨g + 1, 0, none⟩ = some (.bool s') ∧ W.cell? ⟨g + 1, 1, none⟩ = some (.slice A' n' c') ∧ W.cell? ⟨g + 1, 2, none⟩ = some (.slice B' m' d')))) (by kernel_rfl) ?_ (fun hHeld => ?_)
    · exact ⟨HA.out _ hk0', HB.out _ hk0'⟩
    obtain ⟨w0, hw0⟩ : ∃ w0, w0 = v1.drew := ⟨_, rfl⟩
    rw [← hw0] at hk0' hHeld ⊢
    have hk0 := hk0'
    clear hw0 hk0'
    refine wpAnyH_take (i := 0) (oi := ⟨some 9, _, _, _, _, _⟩) (v := ?_) rfl (by kernel_rfl) (by kernel_rfl) (by kernel_rfl) (fun _ _ _ h => h) (Or.inl ⟨by rfl, ?_⟩) (by assumption) ?_
    rotate_left
    · intro w hSw
      (try dsimp only at hSw)
      go_simp
      try with_reducible rfl
    try simp only [Act.put, List.setIfInBounds_toArray, List.set_cons_zero, List.set_cons_succ]
    refine wpAnyH_take (i := 2) (oi := ⟨some 11, _, _, _, _, _⟩) (v := ?_) rfl (by kernel_rfl) (by kernel_rfl) (by kernel_rfl) (fun _ _ _ h => h) (Or.inl ⟨by rfl, ?_⟩) (by assumption) ?_
    rotate_left
    · intro w hSw
      (try dsimp only at hSw)
      go_simp
      try with_reducible rfl
    try simp only [Act.put, List.setIfInBounds_toArray, List.set_cons_zero, List.set_cons_succ]
    refine wpAnyH_ready (rs := [1, 4, 5]) (by kernel_rfl) (by simp) ?_
    refine AllReadyH.cons (o := ⟨some 10, _, _, _, _, _⟩) rfl (fun K hK => ?_) ?_
    · go_simp
      go_at_call 137
      refine (view_s hk0 h1 k0).mono ?_
      rintro e w1 ⟨s5, A5, n5, c5, B5, m5, d5, rfl, f5, ka5, kb5, bc1⟩
      have hk1 := nextB hk0 bc1
      go_wp2_with fail
      refine hK.out _ _ ⟨HA.out _ hk1, HB.out _ hk1⟩ (fun hHeld => ?_)
      clear hK K
      try simp only [Act.put, List.setIfInBounds_toArray, List.set_cons_zero, List.set_cons_succ]
      refine wpAnyH_ready (rs := [3, 4, 5]) (by kernel_rfl) (by simp) ?_
      refine AllReadyH.cons (o := ⟨some 12, _, _, _, _, _⟩) rfl (fun K hK => ?_) ?_
      · go_simp
        go_at_call 137
        refine (view_s hk1 h1' k1).mono ?_
        rintro e w2 ⟨s6, A6, n6, c6, B6, m6, d6, rfl, f6, ka6, kb6, bc2⟩
        have hk2 := nextB hk1 bc2
        go_wp2_with fail
        refine hK.out _ _ ⟨HA.out _ hk2, HB.out _ hk2⟩ (fun hHeld => ?_)
        clear hK K
        try simp only [Act.put, List.setIfInBounds_toArray, List.set_cons_zero, List.set_cons_succ]
        refine wpAnyH_ready (rs := [4, 5]) (by kernel_rfl) (by simp) ?_
        refine AllReadyH.cons (o := ⟨some 5, _, _, _, _, _⟩) rfl (fun K hK => ?_) ?_
        · go_simp
          refine hK.out _ _ ⟨HA.out _ (hk2.alloc hk2.size _), HB.out _ (hk2.alloc hk2.size _)⟩ (fun hHeld => ?_)
          clear hK K
          try simp only [Act.put, List.setIfInBounds_toArray, List.set_cons_zero, List.set_cons_succ]
          obtain ⟨w3, hv⟩ : ∃ v, w2.alloc (.cells #[.bool false, .slice none 0 0, .slice none 0 0] 95) = v := ⟨_, rfl⟩
          obtain ⟨g5, hg, hs, bc3, hc, hf⟩ := boxes0 w2 _ _ _ _ w3 hv
          rw [hv] at hHeld ⊢
          rw [← hg]
          have HG5 := Lib.hid (And.intro hg hs)
          have HC5 := Lib.hid hc
          have HF5 := Lib.hid hf
          have hk3 := nextB hk2 bc3
          clear hv hg hs hc hf
          refine wpAnyH_ready (rs := [5]) (by kernel_rfl) (by simp) ?_
          refine AllReadyH.cons (o := ⟨some 6, _, _, _, _, _⟩) rfl (fun K hK => ?_) ?_
          · go_simp
            refine hK.out _ _ ⟨HA.out _ (hk3.alloc hk3.size _), HB.out _ (hk3.alloc hk3.size _)⟩ (fun hHeld => ?_)
            clear hK K
            try simp only [Act.put, List.setIfInBounds_toArray, List.set_cons_zero, List.set_cons_succ]
            obtain ⟨w4, hv⟩ : ∃ v, w3.alloc (.cells #[.bool false, .slice none 0 0, .slice none 0 0] 95) = v := ⟨_, rfl⟩
            obtain ⟨g6, hg, hs, bc4, hc, hf⟩ := boxes0 w3 _ _ _ _ w4 hv
            rw [hv] at hHeld ⊢
            rw [← hg]
            have HG6 := Lib.hid (And.intro hg hs)
            have HC6 := Lib.hid hc
            have HF6 := Lib.hid hf
            have hk4 := nextB hk3 bc4
            clear hv hg hs hc hf
            have e56 : g5 ≠ g6 := by have y1 := HG5.out; have y2 := HG6.out; have y3 := bc1.size; have y4 := bc2.size; have y5 := bc3.size; have y6 := bc4.size; have y7 := hk0.size; have y8 := HSZ.out; omega
            have v5 : v1.heap.size ≤ g5 := by have y1 := HG5.out; have y2 := HG6.out; have y3 := bc1.size; have y4 := bc2.size; have y5 := bc3.size; have y6 := bc4.size; have y7 := hk0.size; have y8 := HSZ.out; omega
            have v6 : v1.heap.size ≤ g6 := by have y1 := HG5.out; have y2 := HG6.out; have y3 := bc1.size; have y4 := bc2.size; have y5 := bc3.size; have y6 := bc4.size; have y7 := hk0.size; have y8 := HSZ.out; omega
            have e5a : g5 ≠ g := by have y1 := HG5.out; have y2 := HG6.out; have y3 := bc1.size; have y4 := bc2.size; have y5 := bc3.size; have y6 := bc4.size; have y7 := hk0.size; have y8 := HSZ.out; omega
            have e5b : g5 ≠ g + 1 := by have y1 := HG5.out; have y2 := HG6.out; have y3 := bc1.size; have y4 := bc2.size; have y5 := bc3.size; have y6 := bc4.size; have y7 := hk0.size; have y8 := HSZ.out; omega
            have e6a : g6 ≠ g := by have y1 := HG5.out; have y2 := HG6.out; have y3 := bc1.size; have y4 := bc2.size; have y5 := bc3.size; have y6 := bc4.size; have y7 := hk0.size; have y8 := HSZ.out; omega
            have e6b : g6 ≠ g + 1 := by have y1 := HG5.out; have y2 := HG6.out; have y3 := bc1.size; have y4 := bc2.size; have y5 := bc3.size; have y6 := bc4.size; have y7 := hk0.size; have y8 := HSZ.out; omega
            have X5 := HC5.out w4 bc4
            have X6 := HC6.out w4 (Below.refl _ _)
            obtain ⟨p0, p1, p2⟩ := X5
            obtain ⟨q0, q1, q2⟩ := HF5.out w4 bc4
            obtain ⟨r0, r1, r2⟩ := HF6.out w4 (Below.refl _ _)
            refine wpAnyH_ready (rs := [6]) (by kernel_rfl) (by simp) ?_
            refine AllReadyH.cons (o := ⟨none, _, _, _, _, _⟩) rfl (fun K hK => ?_) AllReadyH.nil
            go_simp
            refine hK.out _ _ ⟨kept3 e5a (HA.out _ hk4), kept3 e5b (HB.out _ hk4)⟩ (fun hHeld => ?_)
            clear hK K
            try simp only [Act.put, List.setIfInBounds_toArray, List.set_cons_zero, List.set_cons_succ]
            obtain ⟨t0, t1, t2⟩ := kept3 (i := 0) (j := 1) (k := 2) (x := .bool s5) (y := .slice A5 n5 c5) (z := .slice B5 m5 d5) e56 X6
            refine wpAnyH_ready (rs := [7]) (by kernel_rfl) (by simp) ?_
            refine AllReadyH.cons (o := ⟨none, _, _, _, _, _⟩) rfl (fun K hK => ?_) AllReadyH.nil
            go_simp
            refine hK.out _ _ ⟨kept3 e6a (kept3 e5a (HA.out _ hk4)), kept3 e6b (kept3 e5b (HB.out _ hk4))⟩ (fun hHeld => ?_)
            clear hK K
            try simp only [Act.put, List.setIfInBounds_toArray, List.set_cons_zero, List.set_cons_succ]
            refine wpAnyH_done (by kernel_rfl) ?_ _
            go_wp2_with fail
            go_meet
            have y1 := HG5.out
            have y2 := HG6.out
            have y3 := bc1.size
            have y4 := bc2.size
            have y5 := bc3.size
            have y6 := bc4.size
            have y7 := hk0.size
            have y8 := HSZ.out
            exact cmpCut_mk hk4 v5 v6 e56 ⟨p0, p1, p2⟩ X6 (f5.below (nextB (nextB bc2 bc3) bc4)) (f6.below (nextB bc3 bc4)) (skip_ne ka5 f5.oldA (by omega)) (skip_ne ka5 f5.oldA (by omega)) (skip_ne kb5 f5.oldB (by omega)) (skip_ne kb5 f5.oldB (by omega)) (skip_ne ka6 f6.oldA (by omega)) (skip_ne ka6 f6.oldA (by omega)) (skip_ne kb6 f6.oldB (by omega)) (skip_ne kb6 f6.oldB (by omega))
          exact AllReadyH.nil
        refine AllReadyH.cons (o := ⟨some 6, _, _, _, _, _⟩) rfl (fun K hK => ?_) ?_
        · go_simp
          refine hK.out _ _ ⟨HA.out _ (hk2.alloc hk2.size _), HB.out _ (hk2.alloc hk2.size _)⟩ (fun hHeld => ?_)
          clear hK K
          try simp only [Act.put, List.setIfInBounds_toArray, List.set_cons_zero, List.set_cons_succ]
          obtain ⟨w3, hv⟩ : ∃ v, w2.alloc (.cells #[.bool false, .slice none 0 0, .slice none 0 0] 95) = v := ⟨_, rfl⟩
          obtain ⟨g6, hg, hs, bc3, hc, hf⟩ := boxes0 w2 _ _ _ _ w3 hv
          rw [hv] at hHeld ⊢
          rw [← hg]
          have HG6 := Lib.hid (And.intro hg hs)
          have HC6 := Lib.hid hc
          have HF6 := Lib.hid hf
          have hk3 := nextB hk2 bc3
          clear hv hg hs hc hf
          refine wpAnyH_ready (rs := [4]) (by kernel_rfl) (by simp) ?_
          refine AllReadyH.cons (o := ⟨some 5, _, _, _, _, _⟩) rfl (fun K hK => ?_) ?_
          · go_simp
            refine hK.out _ _ ⟨HA.out _ (hk3.alloc hk3.size _), HB.out _ (hk3.alloc hk3.size _)⟩ (fun hHeld => ?_)
            clear hK K
            try simp only [Act.put, List.setIfInBounds_toArray, List.set_cons_zero, List.set_cons_succ]
            obtain ⟨w4, hv⟩ : ∃ v, w3.alloc (.cells #[.bool false, .slice none 0 0, .slice none 0 0] 95) = v := ⟨_, rfl⟩
            obtain ⟨g5, hg, hs, bc4, hc, hf⟩ := boxes0 w3 _ _ _ _ w4 hv
            rw [hv] at hHeld ⊢
            rw [← hg]
            have HG5 := Lib.hid (And.intro hg hs)
            have HC5 := Lib.hid hc
            have HF5 := Lib.hid hf
            have hk4 := nextB hk3 bc4
            clear hv hg hs hc hf
            have e56 : g5 ≠ g6 := by have y1 := HG5.out; have y2 := HG6.out; have y3 := bc1.size; have y4 := bc2.size; have y5 := bc3.size; have y6 := bc4.size; have y7 := hk0.size; have y8 := HSZ.out; omega
            have v5 : v1.heap.size ≤ g5 := by have y1 := HG5.out; have y2 := HG6.out; have y3 := bc1.size; have y4 := bc2.size; have y5 := bc3.size; have y6 := bc4.size; have y7 := hk0.size; have y8 := HSZ.out; omega
            have v6 : v1.heap.size ≤ g6 := by have y1 := HG5.out; have y2 := HG6.out; have y3 := bc1.size; have y4 := bc2.size; have y5 := bc3.size; have y6 := bc4.size; have y7 := hk0.size; have y8 := HSZ.out; omega
            have e5a : g5 ≠ g := by have y1 := HG5.out; have y2 := HG6.out; have y3 := bc1.size; have y4 := bc2.size; have y5 := bc3.size; have y6 := bc4.size; have y7 := hk0.size; have y8 := HSZ.out; omega
            have e5b : g5 ≠ g + 1 := by have y1 := HG5.out; have y2 := HG6.out; have y3 := bc1.size; have y4 := bc2.size; have y5 := bc3.size; have y6 := bc4.size; have y7 := hk0.size; have y8 := HSZ.out; omega
            have e6a : g6 ≠ g := by have y1 := HG5.out; have y2 := HG6.out; have y3 := bc1.size; have y4 := bc2.size; have y5 := bc3.size; have y6 := bc4.size; have y7 := hk0.size; have y8 := HSZ.out; omega
            have e6b : g6 ≠ g + 1 := by have y1 := HG5.out; have y2 := HG6.out; have y3 := bc1.size; have y4 := bc2.size; have y5 := bc3.size; have y6 := bc4.size; have y7 := hk0.size; have y8 := HSZ.out; omega
            have X5 := HC5.out w4 (Below.refl _ _)
            have X6 := HC6.out w4 bc4
            obtain ⟨p0, p1, p2⟩ := X5
            obtain ⟨q0, q1, q2⟩ := HF5.out w4 (Below.refl _ _)
            obtain ⟨r0, r1, r2⟩ := HF6.out w4 bc4
            refine wpAnyH_ready (rs := [6]) (by kernel_rfl) (by simp) ?_
            refine AllReadyH.cons (o := ⟨none, _, _, _, _, _⟩) rfl (fun K hK => ?_) AllReadyH.nil
            go_simp
            refine hK.out _ _ ⟨kept3 e5a (HA.out _ hk4), kept3 e5b (HB.out _ hk4)⟩ (fun hHeld => ?_)
            clear hK K
            try simp only [Act.put, List.setIfInBounds_toArray, List.set_cons_zero, List.set_cons_succ]
            obtain ⟨t0, t1, t2⟩ := kept3 (i := 0) (j := 1) (k := 2) (x := .bool s5) (y := .slice A5 n5 c5) (z := .slice B5 m5 d5) e56 X6
            refine wpAnyH_ready (rs := [7]) (by kernel_rfl) (by simp) ?_
            refine AllReadyH.cons (o := ⟨none, _, _, _, _, _⟩) rfl (fun K hK => ?_) AllReadyH.nil
            go_simp
            refine hK.out _ _ ⟨kept3 e6a (kept3 e5a (HA.out _ hk4)), kept3 e6b (kept3 e5b (HB.out _ hk4))⟩ (fun hHeld => ?_)
            clear hK K
            try simp only [Act.put, List.setIfInBounds_toArray, List.set_cons_zero, List.set_cons_succ]
            refine wpAnyH_done (by kernel_rfl) ?_ _
            go_wp2_with fail
            go_meet
            have y1 := HG5.out
            have y2 := HG6.out
            have y3 := bc1.size
            have y4 := bc2.size
            have y5 := bc3.size
            have y6 := bc4.size
            have y7 := hk0.size
            have y8 := HSZ.out
            exact cmpCut_mk hk4 v5 v6 e56 ⟨p0, p1, p2⟩ X6 (f5.below (nextB (nextB bc2 bc3) bc4)) (f6.below (nextB bc3 bc4)) (skip_ne ka5 f5.oldA (by omega)) (skip_ne ka5 f5.oldA (by omega)) (skip_ne kb5 f5.oldB (by omega)) (skip_ne kb5 f5.oldB (by omega)) (skip_ne ka6 f6.oldA (by omega)) (skip_ne ka6 f6.oldA (by omega)) (skip_ne kb6 f6.oldB (by omega)) (skip_ne kb6 f6.oldB (by omega))
          exact AllReadyH.nil
        exact AllReadyH.nil
      refine AllReadyH.cons (o := ⟨some 5, _, _, _, _, _⟩) rfl (fun K hK => ?_) ?_
      · go_simp
        refine hK.out _ _ ⟨HA.out _ (hk1.alloc hk1.size _), HB.out _ (hk1.alloc hk1.size _)⟩ (fun hHeld => ?_)
        clear hK K
        try simp only [Act.put, List.setIfInBounds_toArray, List.set_cons_zero, List.set_cons_succ]
        obtain ⟨w2, hv⟩ : ∃ v, w1.alloc (.cells #[.bool false, .slice none 0 0, .slice none 0 0] 95) = v := ⟨_, rfl⟩
        obtain ⟨g5, hg, hs, bc2, hc, hf⟩ := boxes0 w1 _ _ _ _ w2 hv
        rw [hv] at hHeld ⊢
        rw [← hg]
        have HG5 := Lib.hid (And.intro hg hs)
        have HC5 := Lib.hid hc
        have HF5 := Lib.hid hf
        have hk2 := nextB hk1 bc2
        clear hv hg hs hc hf
        refine wpAnyH_ready (rs := [3, 5]) (by kernel_rfl) (by simp) ?_
        refine AllReadyH.cons (o := ⟨some 12, _, _, _, _, _⟩) rfl (fun K hK => ?_) ?_
        · go_simp
          go_at_call 137
          refine (view_s hk2 h1' k1).mono ?_
          rintro e w3 ⟨s6, A6, n6, c6, B6, m6, d6, rfl, f6, ka6, kb6, bc3⟩
          have hk3 := nextB hk2 bc3
          go_wp2_with fail
          refine hK.out _ _ ⟨HA.out _ hk3, HB.out _ hk3⟩ (fun hHeld => ?_)
          clear hK K
          try simp only [Act.put, List.setIfInBounds_toArray, List.set_cons_zero, List.set_cons_succ]
          refine wpAnyH_ready (rs := [5]) (by kernel_rfl) (by simp) ?_
          refine AllReadyH.cons (o := ⟨some 6, _, _, _, _, _⟩) rfl (fun K hK => ?_) ?_
          · go_simp
            refine hK.out _ _ ⟨HA.out _ (hk3.alloc hk3.size _), HB.out _ (hk3.alloc hk3.size _)⟩ (fun hHeld => ?_)
            clear hK K
            try simp only [Act.put, List.setIfInBounds_toArray, List.set_cons_zero, List.set_cons_succ]
            obtain ⟨w4, hv⟩ : ∃ v, w3.alloc (.cells #[.bool false, .slice none 0 0, .slice none 0 0] 95) = v := ⟨_, rfl⟩
            obtain ⟨g6, hg, hs, bc4, hc, hf⟩ := boxes0 w3 _ _ _ _ w4 hv
            rw [hv] at hHeld ⊢
            rw [← hg]
            have HG6 := Lib.hid (And.intro hg hs)
            have HC6 := Lib.hid hc
            have HF6 := Lib.hid hf
            have hk4 := nextB hk3 bc4
            clear hv hg hs hc hf
            have e56 : g5 ≠ g6 := by have y1 := HG5.out; have y2 := HG6.out; have y3 := bc1.size; have y4 := bc2.size; have y5 := bc3.size; have y6 := bc4.size; have y7 := hk0.size; have y8 := HSZ.out; omega
            have v5 : v1.heap.size ≤ g5 := by have y1 := HG5.out; have y2 := HG6.out; have y3 := bc1.size; have y4 := bc2.size; have y5 := bc3.size; have y6 := bc4.size; have y7 := hk0.size; have y8 := HSZ.out; omega
            have v6 : v1.heap.size ≤ g6 := by have y1 := HG5.out; have y2 := HG6.out; have y3 := bc1.size; have y4 := bc2.size; have y5 := bc3.size; have y6 := bc4.size; have y7 := hk0.size; have y8 := HSZ.out; omega
            have e5a : g5 ≠ g := by have y1 := HG5.out; have y2 := HG6.out; have y3 := bc1.size; have y4 := bc2.size; have y5 := bc3.size; have y6 := bc4.size; have y7 := hk0.size; have y8 := HSZ.out; omega
            have e5b : g5 ≠ g + 1 := by have y1 := HG5.out; have y2 := HG6.out; have y3 := bc1.size; have y4 := bc2.size; have y5 := bc3.size; have y6 := bc4.size; have y7 := hk0.size; have y8 := HSZ.out; omega
            have e6a : g6 ≠ g := by have y1 := HG5.out; have y2 := HG6.out; have y3 := bc1.size; have y4 := bc2.size; have y5 := bc3.size; have y6 := bc4.size; have y7 := hk0.size; have y8 := HSZ.out; omega
            have e6b : g6 ≠ g + 1 := by have y1 := HG5.out; have y2 := HG6.out; have y3 := bc1.size; have y4 := bc2.size; have y5 := bc3.size; have y6 := bc4.size; have y7 := hk0.size; have y8 := HSZ.out; omega
            have X5 := HC5.out w4 (nextB bc3 bc4)
            have X6 := HC6.out w4 (Below.refl _ _)
            obtain ⟨p0, p1, p2⟩ := X5
            obtain ⟨q0, q1, q2⟩ := HF5.out w4 (nextB bc3 bc4)
            obtain ⟨r0, r1, r2⟩ := HF6.out w4 (Below.refl _ _)
            refine wpAnyH_ready (rs := [6]) (by kernel_rfl) (by simp) ?_
            refine AllReadyH.cons (o := ⟨none, _, _, _, _, _⟩) rfl (fun K hK => ?_) AllReadyH.nil
            go_simp
            refine hK.out _ _ ⟨kept3 e5a (HA.out _ hk4), kept3 e5b (HB.out _ hk4)⟩ (fun hHeld => ?_)
            clear hK K
            try simp only [Act.put, List.setIfInBounds_toArray, List.set_cons_zero, List.set_cons_succ]
            obtain ⟨t0, t1, t2⟩ := kept3 (i := 0) (j := 1) (k := 2) (x := .bool s5) (y := .slice A5 n5 c5) (z := .slice B5 m5 d5) e56 X6
            refine wpAnyH_ready (rs := [7]) (by kernel_rfl) (by simp) ?_
            refine AllReadyH.cons (o := ⟨none, _, _, _, _, _⟩) rfl (fun K hK => ?_) AllReadyH.nil
            go_simp
            refine hK.out _ _ ⟨kept3 e6a (kept3 e5a (HA.out _ hk4)), kept3 e6b (kept3 e5b (HB.out _ hk4))⟩ (fun hHeld => ?_)
            clear hK K
            try simp only [Act.put, List.setIfInBounds_toArray, List.set_cons_zero, List.set_cons_succ]
            refine wpAnyH_done (by kernel_rfl) ?_ _
            go_wp2_with fail
            go_meet
            have y1 := HG5.out
            have y2 := HG6.out
            have y3 := bc1.size
            have y4 := bc2.size
            have y5 := bc3.size
            have y6 := bc4.size
            have y7 := hk0.size
            have y8 := HSZ.out
            exact cmpCut_mk hk4 v5 v6 e56 ⟨p0, p1, p2⟩ X6 (f5.below (nextB (nextB bc2 bc3) bc4)) (f6.below bc4) (skip_ne ka5 f5.oldA (by omega)) (skip_ne ka5 f5.oldA (by omega)) (skip_ne kb5 f5.oldB (by omega)) (skip_ne kb5 f5.oldB (by omega)) (skip_ne ka6 f6.oldA (by omega)) (skip_ne ka6 f6.oldA (by omega)) (skip_ne kb6 f6.oldB (by omega)) (skip_ne kb6 f6.oldB (by omega))
          exact AllReadyH.nil
        refine AllReadyH.cons (o := ⟨some 6, _, _, _, _, _⟩) rfl (fun K hK => ?_) ?_
        · go_simp
          refine hK.out _ _ ⟨HA.out _ (hk2.alloc hk2.size _), HB.out _ (hk2.alloc hk2.size _)⟩ (fun hHeld => ?_)
          clear hK K
          try simp only [Act.put, List.setIfInBounds_toArray, List.set_cons_zero, List.set_cons_succ]
          obtain ⟨w3, hv⟩ : ∃ v, w2.alloc (.cells #[.bool false, .slice none 0 0, .slice none 0 0] 95) = v := ⟨_, rfl⟩
          obtain ⟨g6, hg, hs, bc3, hc, hf⟩ := boxes0 w2 _ _ _ _ w3 hv
          rw [hv] at hHeld ⊢
          rw [← hg]
          have HG6 := Lib.hid (And.intro hg hs)
          have HC6 := Lib.hid hc
          have HF6 := Lib.hid hf
          have hk3 := nextB hk2 bc3
          clear hv hg hs hc hf
          refine wpAnyH_ready (rs := [3]) (by kernel_rfl) (by simp) ?_
          refine AllReadyH.cons (o := ⟨some 12, _, _, _, _, _⟩) rfl (fun K hK => ?_) ?_
          · go_simp
            go_at_call 137
            refine (view_s hk3 h1' k1).mono ?_
            rintro e w4 ⟨s6, A6, n6, c6, B6, m6, d6, rfl, f6, ka6, kb6, bc4⟩
            have hk4 := nextB hk3 bc4
            go_wp2_with fail
            refine hK.out _ _ ⟨HA.out _ hk4, HB.out _ hk4⟩ (fun hHeld => ?_)
            clear hK K
            try simp only [Act.put, List.setIfInBounds_toArray, List.set_cons_zero, List.set_cons_succ]
            have e56 : g5 ≠ g6 := by have y1 := HG5.out; have y2 := HG6.out; have y3 := bc1.size; have y4 := bc2.size; have y5 := bc3.size; have y6 := bc4.size; have y7 := hk0.size; have y8 := HSZ.out; omega
            have v5 : v1.heap.size ≤ g5 := by have y1 := HG5.out; have y2 := HG6.out; have y3 := bc1.size; have y4 := bc2.size; have y5 := bc3.size; have y6 := bc4.size; have y7 := hk0.size; have y8 := HSZ.out; omega
            have v6 : v1.heap.size ≤ g6 := by have y1 := HG5.out; have y2 := HG6.out; have y3 := bc1.size; have y4 := bc2.size; have y5 := bc3.size; have y6 := bc4.size; have y7 := hk0.size; have y8 := HSZ.out; omega
            have e5a : g5 ≠ g := by have y1 := HG5.out; have y2 := HG6.out; have y3 := bc1.size; have y4 := bc2.size; have y5 := bc3.size; have y6 := bc4.size; have y7 := hk0.size; have y8 := HSZ.out; omega
            have e5b : g5 ≠ g + 1 := by have y1 := HG5.out; have y2 := HG6.out; have y3 := bc1.size; have y4 := bc2.size; have y5 := bc3.size; have y6 := bc4.size; have y7 := hk0.size; have y8 := HSZ.out; omega
            have e6a : g6 ≠ g := by have y1 := HG5.out; have y2 := HG6.out; have y3 := bc1.size; have y4 := bc2.size; have y5 := bc3.size; have y6 := bc4.size; have y7 := hk0.size; have y8 := HSZ.out; omega
            have e6b : g6 ≠ g + 1 := by have y1 := HG5.out; have y2 := HG6.out; have y3 := bc1.size; have y4 := bc2.size; have y5 := bc3.size; have y6 := bc4.size; have y7 := hk0.size; have y8 := HSZ.out; omega
            have X5 := HC5.out w4 (nextB bc3 bc4)
            have X6 := HC6.out w4 bc4
            obtain ⟨p0, p1, p2⟩ := X5
            obtain ⟨q0, q1, q2⟩ := HF5.out w4 (nextB bc3 bc4)
            obtain ⟨r0, r1, r2⟩ := HF6.out w4 bc4
            refine wpAnyH_ready (rs := [6]) (by kernel_rfl) (by simp) ?_
            refine AllReadyH.cons (o := ⟨none, _, _, _, _, _⟩) rfl (fun K hK => ?_) AllReadyH.nil
            go_simp
            refine hK.out _ _ ⟨kept3 e5a (HA.out _ hk4), kept3 e5b (HB.out _ hk4)⟩ (fun hHeld => ?_)
            clear hK K
            try simp only [Act.put, List.setIfInBounds_toArray, List.set_cons_zero, List.set_cons_succ]
            obtain ⟨t0, t1, t2⟩ := kept3 (i := 0) (j := 1) (k := 2) (x := .bool s5) (y := .slice A5 n5 c5) (z := .slice B5 m5 d5) e56 X6
            refine wpAnyH_ready (rs := [7]) (by kernel_rfl) (by simp) ?_
            refine AllReadyH.cons (o := ⟨none, _, _, _, _, _⟩) rfl (fun K hK => ?_) AllReadyH.nil
            go_simp
            refine hK.out _ _ ⟨kept3 e6a (kept3 e5a (HA.out _ hk4)), kept3 e6b (kept3 e5b (HB.out _ hk4))⟩ (fun hHeld => ?_)
            clear hK K
            try simp only [Act.put, List.setIfInBounds_toArray, List.set_cons_zero, List.set_cons_succ]
            refine wpAnyH_done (by kernel_rfl) ?_ _
            go_wp2_with fail
            go_meet
            have y1 := HG5.out
            have y2 := HG6.out
            have y3 := bc1.size
            have y4 := bc2.size
            have y5 := bc3.size
            have y6 := bc4.size
            have y7 := hk0.size
            have y8 := HSZ.out
            exact cmpCut_mk hk4 v5 v6 e56 ⟨p0, p1, p2⟩ X6 (f5.below (nextB (nextB bc2 bc3) bc4)) (f6.below (Below.refl _ _)) (skip_ne ka5 f5.oldA (by omega)) (skip_ne ka5 f5.oldA (by omega)) (skip_ne kb5 f5.oldB (by omega)) (skip_ne kb5 f5.oldB (by omega)) (skip_ne ka6 f6.oldA (by omega)) (skip_ne ka6 f6.oldA (by omega)) (skip_ne kb6 f6.oldB (by omega)) (skip_ne kb6 f6.oldB (by omega))
          exact AllReadyH.nil
        exact AllReadyH.nil
      refine AllReadyH.cons (o := ⟨some 6, _, _, _, _, _⟩) rfl (fun K hK => ?_) ?_
      · go_simp
        refine hK.out _ _ ⟨HA.out _ (hk1.alloc hk1.size _), HB.out _ (hk1.alloc hk1.size _)⟩ (fun hHeld => ?_)
        clear hK K
        try simp only [Act.put, List.setIfInBounds_toArray, List.set_cons_zero, List.set_cons_succ]
        obtain ⟨w2, hv⟩ : ∃ v, w1.alloc (.cells #[.bool false, .slice none 0 0, .slice none 0 0] 95) = v := ⟨_, rfl⟩
        obtain ⟨g6, hg, hs, bc2, hc, hf⟩ := boxes0 w1 _ _ _ _ w2 hv
        rw [hv] at hHeld ⊢
        rw [← hg]
        have HG6 := Lib.hid (And.intro hg hs)
        have HC6 := Lib.hid hc
        have HF6 := Lib.hid hf
        have hk2 := nextB hk1 bc2
        clear hv hg hs hc hf
        refine wpAnyH_ready (rs := [3, 4]) (by kernel_rfl) (by simp) ?_
        refine AllReadyH.cons (o := ⟨some 12, _, _, _, _, _⟩) rfl (fun K hK => ?_) ?_
        · go_simp
          go_at_call 137
          refine (view_s hk2 h1' k1).mono ?_
          rintro e w3 ⟨s6, A6, n6, c6, B6, m6, d6, rfl, f6, ka6, kb6, bc3⟩
          have hk3 := nextB hk2 bc3
          go_wp2_with fail
          refine hK.out _ _ ⟨HA.out _ hk3, HB.out _ hk3⟩ (fun hHeld => ?_)
          clear hK K
          try simp only [Act.put, List.setIfInBounds_toArray, List.set_cons_zero, List.set_cons_succ]
          refine wpAnyH_ready (rs := [4]) (by kernel_rfl) (by simp) ?_
          refine AllReadyH.cons (o := ⟨some 5, _, _, _, _, _⟩) rfl (fun K hK => ?_) ?_
          · go_simp
            refine hK.out _ _ ⟨HA.out _ (hk3.alloc hk3.size _), HB.out _ (hk3.alloc hk3.size _)⟩ (fun hHeld => ?_)
            clear hK K
            try simp only [Act.put, List.setIfInBounds_toArray, List.set_cons_zero, List.set_cons_succ]
            obtain ⟨w4, hv⟩ : ∃ v, w3.alloc (.cells #[.bool false, .slice none 0 0, .slice none 0 0] 95) = v := ⟨_, rfl⟩
            obtain ⟨g5, hg, hs, bc4, hc, hf⟩ := boxes0 w3 _ _ _ _ w4 hv
            rw [hv] at hHeld ⊢
            rw [← hg]
            have HG5 := Lib.hid (And.intro hg hs)
            have HC5 := Lib.hid hc
            have HF5 := Lib.hid hf
            have hk4 := nextB hk3 bc4
            clear hv hg hs hc hf
            have e56 : g5 ≠ g6 := by have y1 := HG5.out; have y2 := HG6.out; have y3 := bc1.size; have y4 := bc2.size; have y5 := bc3.size; have y6 := bc4.size; have y7 := hk0.size; have y8 := HSZ.out; omega
            have v5 : v1.heap.size ≤ g5 := by have y1 := HG5.out; have y2 := HG6.out; have y3 := bc1.size; have y4 := bc2.size; have y5 := bc3.size; have y6 := bc4.size; have y7 := hk0.size; have y8 := HSZ.out; omega
            have v6 : v1.heap.size ≤ g6 := by have y1 := HG5.out; have y2 := HG6.out; have y3 := bc1.size; have y4 := bc2.size; have y5 := bc3.size; have y6 := bc4.size; have y7 := hk0.size; have y8 := HSZ.out; omega
            have e5a : g5 ≠ g := by have y1 := HG5.out; have y2 := HG6.out; have y3 := bc1.size; have y4 := bc2.size; have y5 := bc3.size; have y6 := bc4.size; have y7 := hk0.size; have y8 := HSZ.out; omega
            have e5b : g5 ≠ g + 1 := by have y1 := HG5.out; have y2 := HG6.out; have y3 := bc1.size; have y4 := bc2.size; have y5 := bc3.size; have y6 := bc4.size; have y7 := hk0.size; have y8 := HSZ.out; omega
            have e6a : g6 ≠ g := by have y1 := HG5.out; have y2 := HG6.out; have y3 := bc1.size; have y4 := bc2.size; have y5 := bc3.size; have y6 := bc4.size; have y7 := hk0.size; have y8 := HSZ.out; omega
            have e6b : g6 ≠ g + 1 := by have y1 := HG5.out; have y2 := HG6.out; have y3 := bc1.size; have y4 := bc2.size; have y5 := bc3.size; have y6 := bc4.size; have y7 := hk0.size; have y8 := HSZ.out; omega
            have X5 := HC5.out w4 (Below.refl _ _)
            have X6 := HC6.out w4 (nextB bc3 bc4)
            obtain ⟨p0, p1, p2⟩ := X5
            obtain ⟨q0, q1, q2⟩ := HF5.out w4 (Below.refl _ _)
            obtain ⟨r0, r1, r2⟩ := HF6.out w4 (nextB bc3 bc4)
            refine wpAnyH_ready (rs := [6]) (by kernel_rfl) (by simp) ?_
            refine AllReadyH.cons (o := ⟨none, _, _, _, _, _⟩) rfl (fun K hK => ?_) AllReadyH.nil
            go_simp
            refine hK.out _ _ ⟨kept3 e5a (HA.out _ hk4), kept3 e5b (HB.out _ hk4)⟩ (fun hHeld => ?_)
            clear hK K
            try simp only [Act.put, List.setIfInBounds_toArray, List.set_cons_zero, List.set_cons_succ]
            obtain ⟨t0, t1, t2⟩ := kept3 (i := 0) (j := 1) (k := 2) (x := .bool s5) (y := .slice A5 n5 c5) (z := .slice B5 m5 d5) e56 X6
            refine wpAnyH_ready (rs := [7]) (by kernel_rfl) (by simp) ?_
            refine AllReadyH.cons (o := ⟨none, _, _, _, _, _⟩) rfl (fun K hK => ?_) AllReadyH.nil
            go_simp
            refine hK.out _ _ ⟨kept3 e6a (kept3 e5a (HA.out _ hk4)), kept3 e6b (kept3 e5b (HB.out _ hk4))⟩ (fun hHeld => ?_)
            clear hK K
            try simp only [Act.put, List.setIfInBounds_toArray, List.set_cons_zero, List.set_cons_succ]
            refine wpAnyH_done (by kernel_rfl) ?_ _
            go_wp2_with fail
            go_meet
            have y1 := HG5.out
            have y2 := HG6.out
            have y3 := bc1.size
            have y4 := bc2.size
            have y5 := bc3.size
            have y6 := bc4.size
            have y7 := hk0.size
            have y8 := HSZ.out
            exact cmpCut_mk hk4 v5 v6 e56 ⟨p0, p1, p2⟩ X6 (f5.below (nextB (nextB bc2 bc3) bc4)) (f6.below bc4) (skip_ne ka5 f5.oldA (by omega)) (skip_ne ka5 f5.oldA (by omega)) (skip_ne kb5 f5.oldB (by omega)) (skip_ne kb5 f5.oldB (by omega)) (skip_ne ka6 f6.oldA (by omega)) (skip_ne ka6 f6.oldA (by omega)) (skip_ne kb6 f6.oldB (by omega)) (skip_ne kb6 f6.oldB (by omega))
          exact AllReadyH.nil
        refine AllReadyH.cons (o := ⟨some 5, _, _, _, _, _⟩) rfl (fun K hK => ?_) ?_
        · go_simp
          refine hK.out _ _ ⟨HA.out _ (hk2.alloc hk2.size _), HB.out _ (hk2.alloc hk2.size _)⟩ (fun hHeld => ?_)
          clear hK K
          try simp only [Act.put, List.setIfInBounds_toArray, List.set_cons_zero, List.set_cons_succ]
          obtain ⟨w3, hv⟩ : ∃ v, w2.alloc (.cells #[.bool false, .slice none 0 0, .slice none 0 0] 95) = v := ⟨_, rfl⟩
          obtain ⟨g5, hg, hs, bc3, hc, hf⟩ := boxes0 w2 _ _ _ _ w3 hv
          rw [hv] at hHeld ⊢
          rw [← hg]
          have HG5 := Lib.hid (And.intro hg hs)
          have HC5 := Lib.hid hc
          have HF5 := Lib.hid hf
          have hk3 := nextB hk2 bc3
          clear hv hg hs hc hf
          refine wpAnyH_ready (rs := [3]) (by kernel_rfl) (by simp) ?_
          refine AllReadyH.cons (o := ⟨some 12, _, _, _, _, _⟩) rfl (fun K hK => ?_) ?_
          · go_simp
            go_at_call 137
            refine (view_s hk3 h1' k1).mono ?_
            rintro e w4 ⟨s6, A6, n6, c6, B6, m6, d6, rfl, f6, ka6, kb6, bc4⟩
            have hk4 := nextB hk3 bc4
            go_wp2_with fail
            refine hK.out _ _ ⟨HA.out _ hk4, HB.out _ hk4⟩ (fun hHeld => ?_)
            clear hK K
            try simp only [Act.put, List.setIfInBounds_toArray, List.set_cons_zero, List.set_cons_succ]
            have e56 : g5 ≠ g6 := by have y1 := HG5.out; have y2 := HG6.out; have y3 := bc1.size; have y4 := bc2.size; have y5 := bc3.size; have y6 := bc4.size; have y7 := hk0.size; have y8 := HSZ.out; omega
            have v5 : v1.heap.size ≤ g5 := by have y1 := HG5.out; have y2 := HG6.out; have y3 := bc1.size; have y4 := bc2.size; have y5 := bc3.size; have y6 := bc4.size; have y7 := hk0.size; have y8 := HSZ.out; omega
            have v6 : v1.heap.size ≤ g6 := by have y1 := HG5.out; have y2 := HG6.out; have y3 := bc1.size; have y4 := bc2.size; have y5 := bc3.size; have y6 := bc4.size; have y7 := hk0.size; have y8 := HSZ.out; omega
            have e5a : g5 ≠ g := by have y1 := HG5.out; have y2 := HG6.out; have y3 := bc1.size; have y4 := bc2.size; have y5 := bc3.size; have y6 := bc4.size; have y7 := hk0.size; have y8 := HSZ.out; omega
            have e5b : g5 ≠ g + 1 := by have y1 := HG5.out; have y2 := HG6.out; have y3 := bc1.size; have y4 := bc2.size; have y5 := bc3.size; have y6 := bc4.size; have y7 := hk0.size; have y8 := HSZ.out; omega
            have e6a : g6 ≠ g := by have y1 := HG5.out; have y2 := HG6.out; have y3 := bc1.size; have y4 := bc2.size; have y5 := bc3.size; have y6 := bc4.size; have y7 := hk0.size; have y8 := HSZ.out; omega
            have e6b : g6 ≠ g + 1 := by have y1 := HG5.out; have y2 := HG6.out; have y3 := bc1.size; have y4 := bc2.size; have y5 := bc3.size; have y6 := bc4.size; have y7 := hk0.size; have y8 := HSZ.out; omega
            have X5 := HC5.out w4 bc4
            have X6 := HC6.out w4 (nextB bc3 bc4)
            obtain ⟨p0, p1, p2⟩ := X5
            obtain ⟨q0, q1, q2⟩ := HF5.out w4 bc4
            obtain ⟨r0, r1, r2⟩ := HF6.out w4 (nextB bc3 bc4)
            refine wpAnyH_ready (rs := [6]) (by kernel_rfl) (by simp) ?_
            refine AllReadyH.cons (o := ⟨none, _, _, _, _, _⟩) rfl (fun K hK => ?_) AllReadyH.nil
            go_simp
            refine hK.out _ _ ⟨kept3 e5a (HA.out _ hk4), kept3 e5b (HB.out _ hk4)⟩ (fun hHeld => ?_)
            clear hK K
            try simp only [Act.put, List.setIfInBounds_toArray, List.set_cons_zero, List.set_cons_succ]
            obtain ⟨t0, t1, t2⟩ := kept3 (i := 0) (j := 1) (k := 2) (x := .bool s5) (y := .slice A5 n5 c5) (z := .slice B5 m5 d5) e56 X6
            refine wpAnyH_ready (rs := [7]) (by kernel_rfl) (by simp) ?_
            refine AllReadyH.cons (o := ⟨none, _, _, _, _, _⟩) rfl (fun K hK => ?_) AllReadyH.nil
            go_simp
            refine hK.out _ _ ⟨kept3 e6a (kept3 e5a (HA.out _ hk4)), kept3 e6b (kept3 e5b (HB.out _ hk4))⟩ (fun hHeld => ?_)
            clear hK K
            try simp only [Act.put, List.setIfInBounds_toArray, List.set_cons_zero, List.set_cons_succ]
            refine wpAnyH_done (by kernel_rfl) ?_ _
            go_wp2_with fail
            go_meet
            have y1 := HG5.out
            have y2 := HG6.out
            have y3 := bc1.size
            have y4 := bc2.size
            have y5 := bc3.size
            have y6 := bc4.size
            have y7 := hk0.size
            have y8 := HSZ.out
            exact cmpCut_mk hk4 v5 v6 e56 ⟨p0, p1, p2⟩ X6 (f5.below (nextB (nextB bc2 bc3) bc4)) (f6.below (Below.refl _ _)) (skip_ne ka5 f5.oldA (by omega)) (skip_ne ka5 f5.oldA (by omega)) (skip_ne kb5 f5.oldB (by omega)) (skip_ne kb5 f5.oldB (by omega)) (skip_ne ka6 f6.oldA (by omega)) (skip_ne ka6 f6.oldA (by omega)) (skip_ne kb6 f6.oldB (by omega)) (skip_ne kb6 f6.oldB (by omega))
          exact AllReadyH.nil
        exact AllReadyH.nil
      exact AllReadyH.nil
    refine AllReadyH.cons (o := ⟨some 5, _, _, _, _, _⟩) rfl (fun K hK => ?_) ?_
    · go_simp
      refine hK.out _ _ ⟨HA.out _ (hk0.alloc hk0.size _), HB.out _ (hk0.alloc hk0.size _)⟩ (fun hHeld => ?_)
      clear hK K
      try simp only [Act.put, List.setIfInBounds_toArray, List.set_cons_zero, List.set_cons_succ]
      obtain ⟨w1, hv⟩ : ∃ v, w0.alloc (.cells #[.bool false, .slice none 0 0, .slice none 0 0] 95) = v := ⟨_, rfl⟩
      obtain ⟨g5, hg, hs, bc1, hc, hf⟩ := boxes0 w0 _ _ _ _ w1 hv
      rw [hv] at hHeld ⊢
      rw [← hg]
      have HG5 := Lib.hid (And.intro hg hs)
      have HC5 := Lib.hid hc
      have HF5 := Lib.hid hf
      have hk1 := nextB hk0 bc1
      clear hv hg hs hc hf
      refine wpAnyH_ready (rs := [1, 5]) (by kernel_rfl) (by simp) ?_
      refine AllReadyH.cons (o := ⟨some 10, _, _, _, _, _⟩) rfl (fun K hK => ?_) ?_
      · go_simp
        go_at_call 137
        refine (view_s hk1 h1 k0).mono ?_
        rintro e w2 ⟨s5, A5, n5, c5, B5, m5, d5, rfl, f5, ka5, kb5, bc2⟩
        have hk2 := nextB hk1 bc2
        go_wp2_with fail
        refine hK.out _ _ ⟨HA.out _ hk2, HB.out _ hk2⟩ (fun hHeld => ?_)
        clear hK K
        try simp only [Act.put, List.setIfInBounds_toArray, List.set_cons_zero, List.set_cons_succ]
        refine wpAnyH_ready (rs := [3, 5]) (by kernel_rfl) (by simp) ?_
        refine AllReadyH.cons (o := ⟨some 12, _, _, _, _, _⟩) rfl (fun K hK => ?_) ?_
        · go_simp
          go_at_call 137
          refine (view_s hk2 h1' k1).mono ?_
          rintro e w3 ⟨s6, A6, n6, c6, B6, m6, d6, rfl, f6, ka6, kb6, bc3⟩
          have hk3 := nextB hk2 bc3
          go_wp2_with fail
          refine hK.out _ _ ⟨HA.out _ hk3, HB.out _ hk3⟩ (fun hHeld => ?_)
          clear hK K
          try simp only [Act.put, List.setIfInBounds_toArray, List.set_cons_zero, List.set_cons_succ]
          refine wpAnyH_ready (rs := [5]) (by kernel_rfl) (by simp) ?_
          refine AllReadyH.cons (o := ⟨some 6, _, _, _, _, _⟩) rfl (fun K hK => ?_) ?_
          · go_simp
            refine hK.out _ _ ⟨HA.out _ (hk3.alloc hk3.size _), HB.out _ (hk3.alloc hk3.size _)⟩ (fun hHeld => ?_)
            clear hK K
            try simp only [Act.put, List.setIfInBounds_toArray, List.set_cons_zero, List.set_cons_succ]
            obtain ⟨w4, hv⟩ : ∃ v, w3.alloc (.cells #[.bool false, .slice none 0 0, .slice none 0 0] 95) = v := ⟨_, rfl⟩
            obtain ⟨g6, hg, hs, bc4, hc, hf⟩ := boxes0 w3 _ _ _ _ w4 hv
            rw [hv] at hHeld ⊢
            rw [← hg]
            have HG6 := Lib.hid (And.intro hg hs)
            have HC6 := Lib.hid hc
            have HF6 := Lib.hid hf
            have hk4 := nextB hk3 bc4
            clear hv hg hs hc hf
            have e56 : g5 ≠ g6 := by have y1 := HG5.out; have y2 := HG6.out; have y3 := bc1.size; have y4 := bc2.size; have y5 := bc3.size; have y6 := bc4.size; have y7 := hk0.size; have y8 := HSZ.out; omega
            have v5 : v1.heap.size ≤ g5 := by have y1 := HG5.out; have y2 := HG6.out; have y3 := bc1.size; have y4 := bc2.size; have y5 := bc3.size; have y6 := bc4.size; have y7 := hk0.size; have y8 := HSZ.out; omega
            have v6 : v1.heap.size ≤ g6 := by have y1 := HG5.out; have y2 := HG6.out; have y3 := bc1.size; have y4 := bc2.size; have y5 := bc3.size; have y6 := bc4.size; have y7 := hk0.size; have y8 := HSZ.out; omega
            have e5a : g5 ≠ g := by have y1 := HG5.out; have y2 := HG6.out; have y3 := bc1.size; have y4 := bc2.size; have y5 := bc3.size; have y6 := bc4.size; have y7 := hk0.size; have y8 := HSZ.out; omega
            have e5b : g5 ≠ g + 1 := by have y1 := HG5.out; have y2 := HG6.out; have y3 := bc1.size; have y4 := bc2.size; have y5 := bc3.size; have y6 := bc4.size; have y7 := hk0.size; have y8 := HSZ.out; omega
            have e6a : g6 ≠ g := by have y1 := HG5.out; have y2 := HG6.out; have y3 := bc1.size; have y4 := bc2.size; have y5 := bc3.size; have y6 := bc4.size; have y7 := hk0.size; have y8 := HSZ.out; omega
            have e6b : g6 ≠ g + 1 := by have y1 := HG5.out; have y2 := HG6.out; have y3 := bc1.size; have y4 := bc2.size; have y5 := bc3.size; have y6 := bc4.size; have y7 := hk0.size; have y8 := HSZ.out; omega
            have X5 := HC5.out w4 (nextB (nextB bc2 bc3) bc4)
            have X6 := HC6.out w4 (Below.refl _ _)
            obtain ⟨p0, p1, p2⟩ := X5
            obtain ⟨q0, q1, q2⟩ := HF5.out w4 (nextB (nextB bc2 bc3) bc4)
            obtain ⟨r0, r1, r2⟩ := HF6.out w4 (Below.refl _ _)
            refine wpAnyH_ready (rs := [6]) (by kernel_rfl) (by simp) ?_
            refine AllReadyH.cons (o := ⟨none, _, _, _, _, _⟩) rfl (fun K hK => ?_) AllReadyH.nil
            go_simp
            refine hK.out _ _ ⟨kept3 e5a (HA.out _ hk4), kept3 e5b (HB.out _ hk4)⟩ (fun hHeld => ?_)
            clear hK K
            try simp only [Act.put, List.setIfInBounds_toArray, List.set_cons_zero, List.set_cons_succ]
            obtain ⟨t0, t1, t2⟩ := kept3 (i := 0) (j := 1) (k := 2) (x := .bool s5) (y := .slice A5 n5 c5) (z := .slice B5 m5 d5) e56 X6
            refine wpAnyH_ready (rs := [7]) (by kernel_rfl) (by simp) ?_
            refine AllReadyH.cons (o := ⟨none, _, _, _, _, _⟩) rfl (fun K hK => ?_) AllReadyH.nil
            go_simp
            refine hK.out _ _ ⟨kept3 e6a (kept3 e5a (HA.out _ hk4)), kept3 e6b (kept3 e5b (HB.out _ hk4))⟩ (fun hHeld => ?_)
            clear hK K
            try simp only [Act.put, List.setIfInBounds_toArray, List.set_cons_zero, List.set_cons_succ]
            refine wpAnyH_done (by kernel_rfl) ?_ _
            go_wp2_with fail
            go_meet
            have y1 := HG5.out
            have y2 := HG6.out
            have y3 := bc1.size
            have y4 := bc2.size
            have y5 := bc3.size
            have y6 := bc4.size
            have y7 := hk0.size
            have y8 := HSZ.out
            exact cmpCut_mk hk4 v5 v6 e56 ⟨p0, p1, p2⟩ X6 (f5.below (nextB bc3 bc4)) (f6.below bc4) (skip_ne ka5 f5.oldA (by omega)) (skip_ne ka5 f5.oldA (by omega)) (skip_ne kb5 f5.oldB (by omega)) (skip_ne kb5 f5.oldB (by omega)) (skip_ne ka6 f6.oldA (by omega)) (skip_ne ka6 f6.oldA (by omega)) (skip_ne kb6 f6.oldB (by omega)) (skip_ne kb6 f6.oldB (by omega))
          exact AllReadyH.nil
        refine AllReadyH.cons (o := ⟨some 6, _, _, _, _, _⟩) rfl (fun K hK => ?_) ?_
        · go_simp
          refine hK.out _ _ ⟨HA.out _ (hk2.alloc hk2.size _), HB.out _ (hk2.alloc hk2.size _)⟩ (fun hHeld => ?_)
          clear hK K
          try simp only [Act.put, List.setIfInBounds_toArray, List.set_cons_zero, List.set_cons_succ]
          obtain ⟨w3, hv⟩ : ∃ v, w2.alloc (.cells #[.bool false, .slice none 0 0, .slice none 0 0] 95) = v := ⟨_, rfl⟩
          obtain ⟨g6, hg, hs, bc3, hc, hf⟩ := boxes0 w2 _ _ _ _ w3 hv
          rw [hv] at hHeld ⊢
          rw [← hg]
          have HG6 := Lib.hid (And.intro hg hs)
          have HC6 := Lib.hid hc
          have HF6 := Lib.hid hf
          have hk3 := nextB hk2 bc3
          clear hv hg hs hc hf
          refine wpAnyH_ready (rs := [3]) (by kernel_rfl) (by simp) ?_
          refine AllReadyH.cons (o := ⟨some 12, _, _, _, _, _⟩) rfl (fun K hK => ?_) ?_
          · go_simp
            go_at_call 137
            refine (view_s hk3 h1' k1).mono ?_
            rintro e w4 ⟨s6, A6, n6, c6, B6, m6, d6, rfl, f6, ka6, kb6, bc4⟩
            have hk4 := nextB hk3 bc4
            go_wp2_with fail
            refine hK.out _ _ ⟨HA.out _ hk4, HB.out _ hk4⟩ (fun hHeld => ?_)
            clear hK K
            try simp only [Act.put, List.setIfInBounds_toArray, List.set_cons_zero, List.set_cons_succ]
            have e56 : g5 ≠ g6 := by have y1 := HG5.out; have y2 := HG6.out; have y3 := bc1.size; have y4 := bc2.size; have y5 := bc3.size; have y6 := bc4.size; have y7 := hk0.size; have y8 := HSZ.out; omega
            have v5 : v1.heap.size ≤ g5 := by have y1 := HG5.out; have y2 := HG6.out; have y3 := bc1.size; have y4 := bc2.size; have y5 := bc3.size; have y6 := bc4.size; have y7 := hk0.size; have y8 := HSZ.out; omega
            have v6 : v1.heap.size ≤ g6 := by have y1 := HG5.out; have y2 := HG6.out; have y3 := bc1.size; have y4 := bc2.size; have y5 := bc3.size; have y6 := bc4.size; have y7 := hk0.size; have y8 := HSZ.out; omega
            have e5a : g5 ≠ g := by have y1 := HG5.out; have y2 := HG6.out; have y3 := bc1.size; have y4 := bc2.size; have y5 := bc3.size; have y6 := bc4.size; have y7 := hk0.size; have y8 := HSZ.out; omega
            have e5b : g5 ≠ g + 1 := by have y1 := HG5.out; have y2 := HG6.out; have y3 := bc1.size; have y4 := bc2.size; have y5 := bc3.size; have y6 := bc4.size; have y7 := hk0.size; have y8 := HSZ.out; omega
            have e6a : g6 ≠ g := by have y1 := HG5.out; have y2 := HG6.out; have y3 := bc1.size; have y4 := bc2.size; have y5 := bc3.size; have y6 := bc4.size; have y7 := hk0.size; have y8 := HSZ.out; omega
            have e6b : g6 ≠ g + 1 := by have y1 := HG5.out; have y2 := HG6.out; have y3 := bc1.size; have y4 := bc2.size; have y5 := bc3.size; have y6 := bc4.size; have y7 := hk0.size; have y8 := HSZ.out; omega
            have X5 := HC5.out w4 (nextB (nextB bc2 bc3) bc4)
            have X6 := HC6.out w4 bc4
            obtain ⟨p0, p1, p2⟩ := X5
            obtain ⟨q0, q1, q2⟩ := HF5.out w4 (nextB (nextB bc2 bc3) bc4)
            obtain ⟨r0, r1, r2⟩ := HF6.out w4 bc4
            refine wpAnyH_ready (rs := [6]) (by kernel_rfl) (by simp) ?_
            refine AllReadyH.cons (o := ⟨none, _, _, _, _, _⟩) rfl (fun K hK => ?_) AllReadyH.nil
            go_simp
            refine hK.out _ _ ⟨kept3 e5a (HA.out _ hk4), kept3 e5b (HB.out _ hk4)⟩ (fun hHeld => ?_)
            clear hK K
            try simp only [Act.put, List.setIfInBounds_toArray, List.set_cons_zero, List.set_cons_succ]
            obtain ⟨t0, t1, t2⟩ := kept3 (i := 0) (j := 1) (k := 2) (x := .bool s5) (y := .slice A5 n5 c5) (z := .slice B5 m5 d5) e56 X6
            refine wpAnyH_ready (rs := [7]) (by kernel_rfl) (by simp) ?_
            refine AllReadyH.cons (o := ⟨none, _, _, _, _, _⟩) rfl (fun K hK => ?_) AllReadyH.nil
            go_simp
            refine hK.out _ _ ⟨kept3 e6a (kept3 e5a (HA.out _ hk4)), kept3 e6b (kept3 e5b (HB.out _ hk4))⟩ (fun hHeld => ?_)
            clear hK K
            try simp only [Act.put, List.setIfInBounds_toArray, List.set_cons_zero, List.set_cons_succ]
            refine wpAnyH_done (by kernel_rfl) ?_ _
            go_wp2_with fail
            go_meet
            have y1 := HG5.out
            have y2 := HG6.out
            have y3 := bc1.size
            have y4 := bc2.size
            have y5 := bc3.size
            have y6 := bc4.size
            have y7 := hk0.size
            have y8 := HSZ.out
            exact cmpCut_mk hk4 v5 v6 e56 ⟨p0, p1, p2⟩ X6 (f5.below (nextB bc3 bc4)) (f6.below (Below.refl _ _)) (skip_ne ka5 f5.oldA (by omega)) (skip_ne ka5 f5.oldA (by omega)) (skip_ne kb5 f5.oldB (by omega)) (skip_ne kb5 f5.oldB (by omega)) (skip_ne ka6 f6.oldA (by omega)) (skip_ne ka6 f6.oldA (by omega)) (skip_ne kb6 f6.oldB (by omega)) (skip_ne kb6 f6.oldB (by omega))
          exact AllReadyH.nil
        exact AllReadyH.nil
      refine AllReadyH.cons (o := ⟨some 6, _, _, _, _, _⟩) rfl (fun K hK => ?_) ?_
      · go_simp
        refine hK.out _ _ ⟨HA.out _ (hk1.alloc hk1.size _), HB.out _ (hk1.alloc hk1.size _)⟩ (fun hHeld => ?_)
        clear hK K
        try simp only [Act.put, List.setIfInBounds_toArray, List.set_cons_zero, List.set_cons_succ]
        obtain ⟨w2, hv⟩ : ∃ v, w1.alloc (.cells #[.bool false, .slice none 0 0, .slice none 0 0] 95) = v := ⟨_, rfl⟩
        obtain ⟨g6, hg, hs, bc2, hc, hf⟩ := boxes0 w1 _ _ _ _ w2 hv
        rw [hv] at hHeld ⊢
        rw [← hg]
        have HG6 := Lib.hid (And.intro hg hs)
        have HC6 := Lib.hid hc
        have HF6 := Lib.hid hf
        have hk2 := nextB hk1 bc2
        clear hv hg hs hc hf
        refine wpAnyH_ready (rs := [1]) (by kernel_rfl) (by simp) ?_
        refine AllReadyH.cons (o := ⟨some 10, _, _, _, _, _⟩) rfl (fun K hK => ?_) ?_
        · go_simp
          go_at_call 137
          refine (view_s hk2 h1 k0).mono ?_
          rintro e w3 ⟨s5, A5, n5, c5, B5, m5, d5, rfl, f5, ka5, kb5, bc3⟩
          have hk3 := nextB hk2 bc3
          go_wp2_with fail
          refine hK.out _ _ ⟨HA.out _ hk3, HB.out _ hk3⟩ (fun hHeld => ?_)
          clear hK K
          try simp only [Act.put, List.setIfInBounds_toArray, List.set_cons_zero, List.set_cons_succ]
          refine wpAnyH_ready (rs := [3]) (by kernel_rfl) (by simp) ?_
          refine AllReadyH.cons (o := ⟨some 12, _, _, _, _, _⟩) rfl (fun K hK => ?_) ?_
          · go_simp
            go_at_call 137
            refine (view_s hk3 h1' k1).mono ?_
            rintro e w4 ⟨s6, A6, n6, c6, B6, m6, d6, rfl, f6, ka6, kb6, bc4⟩
            have hk4 := nextB hk3 bc4
            go_wp2_with fail
            refine hK.out _ _ ⟨HA.out _ hk4, HB.out _ hk4⟩ (fun hHeld => ?_)
            clear hK K
            try simp only [Act.put, List.setIfInBounds_toArray, List.set_cons_zero, List.set_cons_succ]
            have e56 : g5 ≠ g6 := by have y1 := HG5.out; have y2 := HG6.out; have y3 := bc1.size; have y4 := bc2.size; have y5 := bc3.size; have y6 := bc4.size; have y7 := hk0.size; have y8 := HSZ.out; omega
            have v5 : v1.heap.size ≤ g5 := by have y1 := HG5.out; have y2 := HG6.out; have y3 := bc1.size; have y4 := bc2.size; have y5 := bc3.size; have y6 := bc4.size; have y7 := hk0.size; have y8 := HSZ.out; omega
            have v6 : v1.heap.size ≤ g6 := by have y1 := HG5.out; have y2 := HG6.out; have y3 := bc1.size; have y4 := bc2.size; have y5 := bc3.size; have y6 := bc4.size; have y7 := hk0.size; have y8 := HSZ.out; omega
            have e5a : g5 ≠ g := by have y1 := HG5.out; have y2 := HG6.out; have y3 := bc1.size; have y4 := bc2.size; have y5 := bc3.size; have y6 := bc4.size; have y7 := hk0.size; have y8 := HSZ.out; omega
            have e5b : g5 ≠ g + 1 := by have y1 := HG5.out; have y2 := HG6.out; have y3 := bc1.size; have y4 := bc2.size; have y5 := bc3.size; have y6 := bc4.size; have y7 := hk0.size; have y8 := HSZ.out; omega
            have e6a : g6 ≠ g := by have y1 := HG5.out; have y2 := HG6.out; have y3 := bc1.size; have y4 := bc2.size; have y5 := bc3.size; have y6 := bc4.size; have y7 := hk0.size; have y8 := HSZ.out; omega
            have e6b : g6 ≠ g + 1 := by have y1 := HG5.out; have y2 := HG6.out; have y3 := bc1.size; have y4 := bc2.size; have y5 := bc3.size; have y6 := bc4.size; have y7 := hk0.size; have y8 := HSZ.out; omega
            have X5 := HC5.out w4 (nextB (nextB bc2 bc3) bc4)
            have X6 := HC6.out w4 (nextB bc3 bc4)
            obtain ⟨p0, p1, p2⟩ := X5
            obtain ⟨q0, q1, q2⟩ := HF5.out w4 (nextB (nextB bc2 bc3) bc4)
            obtain ⟨r0, r1, r2⟩ := HF6.out w4 (nextB bc3 bc4)
            refine wpAnyH_ready (rs := [6]) (by kernel_rfl) (by simp) ?_
            refine AllReadyH.cons (o := ⟨none, _, _, _, _, _⟩) rfl (fun K hK => ?_) AllReadyH.nil
            go_simp
            refine hK.out _ _ ⟨kept3 e5a (HA.out _ hk4), kept3 e5b (HB.out _ hk4)⟩ (fun hHeld => ?_)
            clear hK K
            try simp only [Act.put, List.setIfInBounds_toArray, List.set_cons_zero, List.set_cons_succ]
            obtain ⟨t0, t1, t2⟩ := kept3 (i := 0) (j := 1) (k := 2) (x := .bool s5) (y := .slice A5 n5 c5) (z := .slice B5 m5 d5) e56 X6
            refine wpAnyH_ready (rs := [7]) (by kernel_rfl) (by simp) ?_
            refine AllReadyH.cons (o := ⟨none, _, _, _, _, _⟩) rfl (fun K hK => ?_) AllReadyH.nil
            go_simp
            refine hK.out _ _ ⟨kept3 e6a (kept3 e5a (HA.out _ hk4)), kept3 e6b (kept3 e5b (HB.out _ hk4))⟩ (fun hHeld => ?_)
            clear hK K
            try simp only [Act.put, List.setIfInBounds_toArray, List.set_cons_zero, List.set_cons_succ]
            refine wpAnyH_done (by kernel_rfl) ?_ _
            go_wp2_with fail
            go_meet
            have y1 := HG5.out
            have y2 := HG6.out
            have y3 := bc1.size
            have y4 := bc2.size
            have y5 := bc3.size
            have y6 := bc4.size
            have y7 := hk0.size
            have y8 := HSZ.out
            exact cmpCut_mk hk4 v5 v6 e56 ⟨p0, p1, p2⟩ X6 (f5.below bc4) (f6.below (Below.refl _ _)) (skip_ne ka5 f5.oldA (by omega)) (skip_ne ka5 f5.oldA (by omega)) (skip_ne kb5 f5.oldB (by omega)) (skip_ne kb5 f5.oldB (by omega)) (skip_ne ka6 f6.oldA (by omega)) (skip_ne ka6 f6.oldA (by omega)) (skip_ne kb6 f6.oldB (by omega)) (skip_ne kb6 f6.oldB (by omega))
          exact AllReadyH.nil
        exact AllReadyH.nil
      exact AllReadyH.nil
    refine AllReadyH.cons (o := ⟨some 6, _, _, _, _, _⟩) rfl (fun K hK => ?_) ?_
    · go_simp
      refine hK.out _ _ ⟨HA.out _ (hk0.alloc hk0.size _), HB.out _ (hk0.alloc hk0.size _)⟩ (fun hHeld => ?_)
      clear hK K
      try simp only [Act.put, List.setIfInBounds_toArray, List.set_cons_zero, List.set_cons_succ]
      obtain ⟨w1, hv⟩ : ∃ v, w0.alloc (.cells #[.bool false, .slice none 0 0, .slice none 0 0] 95) = v := ⟨_, rfl⟩
      obtain ⟨g6, hg, hs, bc1, hc, hf⟩ := boxes0 w0 _ _ _ _ w1 hv
      rw [hv] at hHeld ⊢
      rw [← hg]
      have HG6 := Lib.hid (And.intro hg hs)
      have HC6 := Lib.hid hc
      have HF6 := Lib.hid hf
      have hk1 := nextB hk0 bc1
      clear hv hg hs hc hf
      refine wpAnyH_ready (rs := [1, 4]) (by kernel_rfl) (by simp) ?_
      refine AllReadyH.cons (o := ⟨some 10, _, _, _, _, _⟩) rfl (fun K hK => ?_) ?_
      · go_simp
        go_at_call 137
        refine (view_s hk1 h1 k0).mono ?_
        rintro e w2 ⟨s5, A5, n5, c5, B5, m5, d5, rfl, f5, ka5, kb5, bc2⟩
        have hk2 := nextB hk1 bc2
        go_wp2_with fail
        refine hK.out _ _ ⟨HA.out _ hk2, HB.out _ hk2⟩ (fun hHeld => ?_)
        clear hK K
        try simp only [Act.put, List.setIfInBounds_toArray, List.set_cons_zero, List.set_cons_succ]
        refine wpAnyH_ready (rs := [3, 4]) (by kernel_rfl) (by simp) ?_
        refine AllReadyH.cons (o := ⟨some 12, _, _, _, _, _⟩) rfl (fun K hK => ?_) ?_
        · go_simp
          go_at_call 137
          refine (view_s hk2 h1' k1).mono ?_
          rintro e w3 ⟨s6, A6, n6, c6, B6, m6, d6, rfl, f6, ka6, kb6, bc3⟩
          have hk3 := nextB hk2 bc3
          go_wp2_with fail
          refine hK.out _ _ ⟨HA.out _ hk3, HB.out _ hk3⟩ (fun hHeld => ?_)
          clear hK K
          try simp only [Act.put, List.setIfInBounds_toArray, List.set_cons_zero, List.set_cons_succ]
          refine wpAnyH_ready (rs := [4]) (by kernel_rfl) (by simp) ?_
          refine AllReadyH.cons (o := ⟨some 5, _, _, _, _, _⟩) rfl (fun K hK => ?_) ?_
          · go_simp
            refine hK.out _ _ ⟨HA.out _ (hk3.alloc hk3.size _), HB.out _ (hk3.alloc hk3.size _)⟩ (fun hHeld => ?_)
            clear hK K
            try simp only [Act.put, List.setIfInBounds_toArray, List.set_cons_zero, List.set_cons_succ]
            obtain ⟨w4, hv⟩ : ∃ v, w3.alloc (.cells #[.bool false, .slice none 0 0, .slice none 0 0] 95) = v := ⟨_, rfl⟩
            obtain ⟨g5, hg, hs, bc4, hc, hf⟩ := boxes0 w3 _ _ _ _ w4 hv
            rw [hv] at hHeld ⊢
            rw [← hg]
            have HG5 := Lib.hid (And.intro hg hs)
            have HC5 := Lib.hid hc
            have HF5 := Lib.hid hf
            have hk4 := nextB hk3 bc4
            clear hv hg hs hc hf
            have e56 : g5 ≠ g6 := by have y1 := HG5.out; have y2 := HG6.out; have y3 := bc1.size; have y4 := bc2.size; have y5 := bc3.size; have y6 := bc4.size; have y7 := hk0.size; have y8 := HSZ.out; omega
            have v5 : v1.heap.size ≤ g5 := by have y1 := HG5.out; have y2 := HG6.out; have y3 := bc1.size; have y4 := bc2.size; have y5 := bc3.size; have y6 := bc4.size; have y7 := hk0.size; have y8 := HSZ.out; omega
            have v6 : v1.heap.size ≤ g6 := by have y1 := HG5.out; have y2 := HG6.out; have y3 := bc1.size; have y4 := bc2.size; have y5 := bc3.size; have y6 := bc4.size; have y7 := hk0.size; have y8 := HSZ.out; omega
            have e5a : g5 ≠ g := by have y1 := HG5.out; have y2 := HG6.out; have y3 := bc1.size; have y4 := bc2.size; have y5 := bc3.size; have y6 := bc4.size; have y7 := hk0.size; have y8 := HSZ.out; omega
            have e5b : g5 ≠ g + 1 := by have y1 := HG5.out; have y2 := HG6.out; have y3 := bc1.size; have y4 := bc2.size; have y5 := bc3.size; have y6 := bc4.size; have y7 := hk0.size; have y8 := HSZ.out; omega
            have e6a : g6 ≠ g := by have y1 := HG5.out; have y2 := HG6.out; have y3 := bc1.size; have y4 := bc2.size; have y5 := bc3.size; have y6 := bc4.size; have y7 := hk0.size; have y8 := HSZ.out; omega
            have e6b : g6 ≠ g + 1 := by have y1 := HG5.out; have y2 := HG6.out; have y3 := bc1.size; have y4 := bc2.size; have y5 := bc3.size; have y6 := bc4.size; have y7 := hk0.size; have y8 := HSZ.out; omega
            have X5 := HC5.out w4 (Below.refl _ _)
            have X6 := HC6.out w4 (nextB (nextB bc2 bc3) bc4)
            obtain ⟨p0, p1, p2⟩ := X5
            obtain ⟨q0, q1, q2⟩ := HF5.out w4 (Below.refl _ _)
            obtain ⟨r0, r1, r2⟩ := HF6.out w4 (nextB (nextB bc2 bc3) bc4)
            refine wpAnyH_ready (rs := [6]) (by kernel_rfl) (by simp) ?_
            refine AllReadyH.cons (o := ⟨none, _, _, _, _, _⟩) rfl (fun K hK => ?_) AllReadyH.nil
            go_simp
            refine hK.out _ _ ⟨kept3 e5a (HA.out _ hk4), kept3 e5b (HB.out _ hk4)⟩ (fun hHeld => ?_)
            clear hK K
            try simp only [Act.put, List.setIfInBounds_toArray, List.set_cons_zero, List.set_cons_succ]
            obtain ⟨t0, t1, t2⟩ := kept3 (i := 0) (j := 1) (k := 2) (x := .bool s5) (y := .slice A5 n5 c5) (z := .slice B5 m5 d5) e56 X6
            refine wpAnyH_ready (rs := [7]) (by kernel_rfl) (by simp) ?_
            refine AllReadyH.cons (o := ⟨none, _, _, _, _, _⟩) rfl (fun K hK => ?_) AllReadyH.nil
            go_simp
            refine hK.out _ _ ⟨kept3 e6a (kept3 e5a (HA.out _ hk4)), kept3 e6b (kept3 e5b (HB.out _ hk4))⟩ (fun hHeld => ?_)
            clear hK K
            try simp only [Act.put, List.setIfInBounds_toArray, List.set_cons_zero, List.set_cons_succ]
            refine wpAnyH_done (by kernel_rfl) ?_ _
            go_wp2_with fail
            go_meet
            have y1 := HG5.out
            have y2 := HG6.out
            have y3 := bc1.size
            have y4 := bc2.size
            have y5 := bc3.size
            have y6 := bc4.size
            have y7 := hk0.size
            have y8 := HSZ.out
            exact cmpCut_mk hk4 v5 v6 e56 ⟨p0, p1, p2⟩ X6 (f5.below (nextB bc3 bc4)) (f6.below bc4) (skip_ne ka5 f5.oldA (by omega)) (skip_ne ka5 f5.oldA (by omega)) (skip_ne kb5 f5.oldB (by omega)) (skip_ne kb5 f5.oldB (by omega)) (skip_ne ka6 f6.oldA (by omega)) (skip_ne ka6 f6.oldA (by omega)) (skip_ne kb6 f6.oldB (by omega)) (skip_ne kb6 f6.oldB (by omega))
          exact AllReadyH.nil
        refine AllReadyH.cons (o := ⟨some 5, _, _, _, _, _⟩) rfl (fun K hK => ?_) ?_
        · go_simp
          refine hK.out _ _ ⟨HA.out _ (hk2.alloc hk2.size _), HB.out _ (hk2.alloc hk2.size _)⟩ (fun hHeld => ?_)
          clear hK K
          try simp only [Act.put, List.setIfInBounds_toArray, List.set_cons_zero, List.set_cons_succ]
          obtain ⟨w3, hv⟩ : ∃ v, w2.alloc (.cells #[.bool false, .slice none 0 0, .slice none 0 0] 95) = v := ⟨_, rfl⟩
          obtain ⟨g5, hg, hs, bc3, hc, hf⟩ := boxes0 w2 _ _ _ _ w3 hv
          rw [hv] at hHeld ⊢
          rw [← hg]
          have HG5 := Lib.hid (And.intro hg hs)
          have HC5 := Lib.hid hc
          have HF5 := Lib.hid hf
          have hk3 := nextB hk2 bc3
          clear hv hg hs hc hf
          refine wpAnyH_ready (rs := [3]) (by kernel_rfl) (by simp) ?_
          refine AllReadyH.cons (o := ⟨some 12, _, _, _, _, _⟩) rfl (fun K hK => ?_) ?_
          · go_simp
            go_at_call 137
            refine (view_s hk3 h1' k1).mono ?_
            rintro e w4 ⟨s6, A6, n6, c6, B6, m6, d6, rfl, f6, ka6, kb6, bc4⟩
            have hk4 := nextB hk3 bc4
            go_wp2_with fail
            refine hK.out _ _ ⟨HA.out _ hk4, HB.out _ hk4⟩ (fun hHeld => ?_)
            clear hK K
            try simp only [Act.put, List.setIfInBounds_toArray, List.set_cons_zero, List.set_cons_succ]
            have e56 : g5 ≠ g6 := by have y1 := HG5.out; have y2 := HG6.out; have y3 := bc1.size; have y4 := bc2.size; have y5 := bc3.size; have y6 := bc4.size; have y7 := hk0.size; have y8 := HSZ.out; omega
            have v5 : v1.heap.size ≤ g5 := by have y1 := HG5.out; have y2 := HG6.out; have y3 := bc1.size; have y4 := bc2.size; have y5 := bc3.size; have y6 := bc4.size; have y7 := hk0.size; have y8 := HSZ.out; omega
            have v6 : v1.heap.size ≤ g6 := by have y1 := HG5.out; have y2 := HG6.out; have y3 := bc1.size; have y4 := bc2.size; have y5 := bc3.size; have y6 := bc4.size; have y7 := hk0.size; have y8 := HSZ.out; omega
            have e5a : g5 ≠ g := by have y1 := HG5.out; have y2 := HG6.out; have y3 := bc1.size; have y4 := bc2.size; have y5 := bc3.size; have y6 := bc4.size; have y7 := hk0.size; have y8 := HSZ.out; omega
            have e5b : g5 ≠ g + 1 := by have y1 := HG5.out; have y2 := HG6.out; have y3 := bc1.size; have y4 := bc2.size; have y5 := bc3.size; have y6 := bc4.size; have y7 := hk0.size; have y8 := HSZ.out; omega
            have e6a : g6 ≠ g := by have y1 := HG5.out; have y2 := HG6.out; have y3 := bc1.size; have y4 := bc2.size; have y5 := bc3.size; have y6 := bc4.size; have y7 := hk0.size; have y8 := HSZ.out; omega
            have e6b : g6 ≠ g + 1 := by have y1 := HG5.out; have y2 := HG6.out; have y3 := bc1.size; have y4 := bc2.size; have y5 := bc3.size; have y6 := bc4.size; have y7 := hk0.size; have y8 := HSZ.out; omega
            have X5 := HC5.out w4 bc4
            have X6 := HC6.out w4 (nextB (nextB bc2 bc3) bc4)
            obtain ⟨p0, p1, p2⟩ := X5
            obtain ⟨q0, q1, q2⟩ := HF5.out w4 bc4
            obtain ⟨r0, r1, r2⟩ := HF6.out w4 (nextB (nextB bc2 bc3) bc4)
            refine wpAnyH_ready (rs := [6]) (by kernel_rfl) (by simp) ?_
            refine AllReadyH.cons (o := ⟨none, _, _, _, _, _⟩) rfl (fun K hK => ?_) AllReadyH.nil
            go_simp
            refine hK.out _ _ ⟨kept3 e5a (HA.out _ hk4), kept3 e5b (HB.out _ hk4)⟩ (fun hHeld => ?_)
            clear hK K
            try simp only [Act.put, List.setIfInBounds_toArray, List.set_cons_zero, List.set_cons_succ]
            obtain ⟨t0, t1, t2⟩ := kept3 (i := 0) (j := 1) (k := 2) (x := .bool s5) (y := .slice A5 n5 c5) (z := .slice B5 m5 d5) e56 X6
            refine wpAnyH_ready (rs := [7]) (by kernel_rfl) (by simp) ?_
            refine AllReadyH.cons (o := ⟨none, _, _, _, _, _⟩) rfl (fun K hK => ?_) AllReadyH.nil
            go_simp
            refine hK.out _ _ ⟨kept3 e6a (kept3 e5a (HA.out _ hk4)), kept3 e6b (kept3 e5b (HB.out _ hk4))⟩ (fun hHeld => ?_)
            clear hK K
            try simp only [Act.put, List.setIfInBounds_toArray, List.set_cons_zero, List.set_cons_succ]
            refine wpAnyH_done (by kernel_rfl) ?_ _
            go_wp2_with fail
            go_meet
            have y1 := HG5.out
            have y2 := HG6.out
            have y3 := bc1.size
            have y4 := bc2.size
            have y5 := bc3.size
            have y6 := bc4.size
            have y7 := hk0.size
            have y8 := HSZ.out
            exact cmpCut_mk hk4 v5 v6 e56 ⟨p0, p1, p2⟩ X6 (f5.below (nextB bc3 bc4)) (f6.below (Below.refl _ _)) (skip_ne ka5 f5.oldA (by omega)) (skip_ne ka5 f5.oldA (by omega)) (skip_ne kb5 f5.oldB (by omega)) (skip_ne kb5 f5.oldB (by omega)) (skip_ne ka6 f6.oldA (by omega)) (skip_ne ka6 f6.oldA (by omega)) (skip_ne kb6 f6.oldB (by omega)) (skip_ne kb6 f6.oldB (by omega))
          exact AllReadyH.nil
        exact AllReadyH.nil
      refine AllReadyH.cons (o := ⟨some 5, _, _, _, _, _⟩) rfl (fun K hK => ?_) ?_
      · go_simp
        refine hK.out _ _ ⟨HA.out _ (hk1.alloc hk1.size _), HB.out _ (hk1.alloc hk1.size _)⟩ (fun hHeld => ?_)
        clear hK K
        try simp only [Act.put, List.setIfInBounds_toArray, List.set_cons_zero, List.set_cons_succ]
        obtain ⟨w2, hv⟩ : ∃ v, w1.alloc (.cells #[.bool false, .slice none 0 0, .slice none 0 0] 95) = v := ⟨_, rfl⟩
        obtain ⟨g5, hg, hs, bc2, hc, hf⟩ := boxes0 w1 _ _ _ _ w2 hv
        rw [hv] at hHeld ⊢
        rw [← hg]
        have HG5 := Lib.hid (And.intro hg hs)
        have HC5 := Lib.hid hc
        have HF5 := Lib.hid hf
        have hk2 := nextB hk1 bc2
        clear hv hg hs hc hf
        refine wpAnyH_ready (rs := [1]) (by kernel_rfl) (by simp) ?_
        refine AllReadyH.cons (o := ⟨some 10, _, _, _, _, _⟩) rfl (fun K hK => ?_) ?_
        · go_simp
          go_at_call 137
          refine (view_s hk2 h1 k0).mono ?_
          rintro e w3 ⟨s5, A5, n5, c5, B5, m5, d5, rfl, f5, ka5, kb5, bc3⟩
          have hk3 := nextB hk2 bc3
          go_wp2_with fail
          refine hK.out _ _ ⟨HA.out _ hk3, HB.out _ hk3⟩ (fun hHeld => ?_)
          clear hK K
          try simp only [Act.put, List.setIfInBounds_toArray, List.set_cons_zero, List.set_cons_succ]
          refine wpAnyH_ready (rs := [3]) (by kernel_rfl) (by simp) ?_
          refine AllReadyH.cons (o := ⟨some 12, _, _, _, _, _⟩) rfl (fun K hK => ?_) ?_
          · go_simp
            go_at_call 137
            refine (view_s hk3 h1' k1).mono ?_
            rintro e w4 ⟨s6, A6, n6, c6, B6, m6, d6, rfl, f6, ka6, kb6, bc4⟩
            have hk4 := nextB hk3 bc4
            go_wp2_with fail
            refine hK.out _ _ ⟨HA.out _ hk4, HB.out _ hk4⟩ (fun hHeld => ?_)
            clear hK K
            try simp only [Act.put, List.setIfInBounds_toArray, List.set_cons_zero, List.set_cons_succ]
            have e56 : g5 ≠ g6 := by have y1 := HG5.out; have y2 := HG6.out; have y3 := bc1.size; have y4 := bc2.size; have y5 := bc3.size; have y6 := bc4.size; have y7 := hk0.size; have y8 := HSZ.out; omega
            have v5 : v1.heap.size ≤ g5 := by have y1 := HG5.out; have y2 := HG6.out; have y3 := bc1.size; have y4 := bc2.size; have y5 := bc3.size; have y6 := bc4.size; have y7 := hk0.size; have y8 := HSZ.out; omega
            have v6 : v1.heap.size ≤ g6 := by have y1 := HG5.out; have y2 := HG6.out; have y3 := bc1.size; have y4 := bc2.size; have y5 := bc3.size; have y6 := bc4.size; have y7 := hk0.size; have y8 := HSZ.out; omega
            have e5a : g5 ≠ g := by have y1 := HG5.out; have y2 := HG6.out; have y3 := bc1.size; have y4 := bc2.size; have y5 := bc3.size; have y6 := bc4.size; have y7 := hk0.size; have y8 := HSZ.out; omega
            have e5b : g5 ≠ g + 1 := by have y1 := HG5.out; have y2 := HG6.out; have y3 := bc1.size; have y4 := bc2.size; have y5 := bc3.size; have y6 := bc4.size; have y7 := hk0.size; have y8 := HSZ.out; omega
            have e6a : g6 ≠ g := by have y1 := HG5.out; have y2 := HG6.out; have y3 := bc1.size; have y4 := bc2.size; have y5 := bc3.size; have y6 := bc4.size; have y7 := hk0.size; have y8 := HSZ.out; omega
            have e6b : g6 ≠ g + 1 := by have y1 := HG5.out; have y2 := HG6.out; have y3 := bc1.size; have y4 := bc2.size; have y5 := bc3.size; have y6 := bc4.size; have y7 := hk0.size; have y8 := HSZ.out; omega
            have X5 := HC5.out w4 (nextB bc3 bc4)
            have X6 := HC6.out w4 (nextB (nextB bc2 bc3) bc4)
            obtain ⟨p0, p1, p2⟩ := X5
            obtain ⟨q0, q1, q2⟩ := HF5.out w4 (nextB bc3 bc4)
            obtain ⟨r0, r1, r2⟩ := HF6.out w4 (nextB (nextB bc2 bc3) bc4)
            refine wpAnyH_ready (rs := [6]) (by kernel_rfl) (by simp) ?_
            refine AllReadyH.cons (o := ⟨none, _, _, _, _, _⟩) rfl (fun K hK => ?_) AllReadyH.nil
            go_simp
            refine hK.out _ _ ⟨kept3 e5a (HA.out _ hk4), kept3 e5b (HB.out _ hk4)⟩ (fun hHeld => ?_)
            clear hK K
            try simp only [Act.put, List.setIfInBounds_toArray, List.set_cons_zero, List.set_cons_succ]
            obtain ⟨t0, t1, t2⟩ := kept3 (i := 0) (j := 1) (k := 2) (x := .bool s5) (y := .slice A5 n5 c5) (z := .slice B5 m5 d5) e56 X6
            refine wpAnyH_ready (rs := [7]) (by kernel_rfl) (by simp) ?_
            refine AllReadyH.cons (o := ⟨none, _, _, _, _, _⟩) rfl (fun K hK => ?_) AllReadyH.nil
            go_simp
            refine hK.out _ _ ⟨kept3 e6a (kept3 e5a (HA.out _ hk4)), kept3 e6b (kept3 e5b (HB.out _ hk4))⟩ (fun hHeld => ?_)
            clear hK K
            try simp only [Act.put, List.setIfInBounds_toArray, List.set_cons_zero, List.set_cons_succ]
            refine wpAnyH_done (by kernel_rfl) ?_ _
            go_wp2_with fail
            go_meet
            have y1 := HG5.out
            have y2 := HG6.out
            have y3 := bc1.size
            have y4 := bc2.size
            have y5 := bc3.size
            have y6 := bc4.size
            have y7 := hk0.size
            have y8 := HSZ.out
            exact cmpCut_mk hk4 v5 v6 e56 ⟨p0, p1, p2⟩ X6 (f5.below bc4) (f6.below (Below.refl _ _)) (skip_ne ka5 f5.oldA (by omega)) (skip_ne ka5 f5.oldA (by omega)) (skip_ne kb5 f5.oldB (by omega)) (skip_ne kb5 f5.oldB (by omega)) (skip_ne ka6 f6.oldA (by omega)) (skip_ne ka6 f6.oldA (by omega)) (skip_ne kb6 f6.oldB (by omega)) (skip_ne kb6 f6.oldB (by omega))
          exact AllReadyH.nil
        exact AllReadyH.nil
      exact AllReadyH.nil
    exact AllReadyH.nil
  case rest =>
    obtain ⟨sa, Aa, na, ca, Ba, ma, da, ga, sb, Ab, nb, cb, Bb, mb, db, gb, rfl, rfl, xa, xb, fa, fb, hkx⟩ := hcut
    obtain ⟨a0, a1, a2⟩ := xa
    obtain ⟨b0, b1, b2⟩ := xb
    have HCA := Lib.hid (three_cells (World.block_lt_of_cell? wc _ a0) a0 a1 a2)
    have HCB := Lib.hid (three_cells (World.block_lt_of_cell? wc _ b0) b0 b1 b2)
    go_wp2_with fail
    refine (sign_any fa).mono ?_
    rintro e w5 ⟨rfl, b5⟩
    clear a0 a1 a2 b0 b1 b2
    obtain ⟨b0, b1, b2⟩ := HCB.out _ b5
    go_wp2_with fail
    refine (sign_any (fb.below b5)).mono ?_
    rintro e w6 ⟨rfl, b6⟩
    go_wp2_with fail
    refine (compare_any _ _ _).mono ?_
    rintro e w' ⟨rfl, rfl⟩
    have b56 := nextB b5 b6
    clear b0 b1 b2
    obtain ⟨z, hz⟩ : ∃ z, cmpZ (sgnR q) (sgnR q') = z := ⟨_, rfl⟩
    rw [hz]
    by_cases hz0 : z = 0
    · subst hz0
      obtain ⟨x, y, hx, hy, y0, hq, hn, hm⟩ := fa
      obtain ⟨u, v, hu, hv, v0, hq', hn', hm'⟩ := fb
      have HE := Lib.hid (cmp_equal hq hq' hx.nonneg y0 hu.nonneg v0 hz)
      have HCR : Hid (cmpZ (x * v) (u * y) = -1 ∨ cmpZ (x * v) (u * y) = 0 ∨ cmpZ (x * v) (u * y) = 1) := by
        show _ ∨ _
        unfold cmpZ
        split
        · exact .inl rfl
        · split
          · exact .inr (.inr rfl)
          · exact .inr (.inl rfl)
      have HSR : Hid (sgnR q = -1 ∨ sgnR q = 0 ∨ sgnR q = 1) := by
        rcases sgnR_cases q with ⟨_, e⟩ | ⟨_, e⟩ | ⟨_, e⟩
        · exact .inl e
        · exact .inr (.inl e)
        · exact .inr (.inr e)
      clear hq hq' hz
      go_upto_region 6 with fail
      have hk := b56.drew
      refine wp_region_held_drew (S := (fun W => (W.cell? ⟨ga, 0, none⟩ = some (.bool sa) ∧ W.cell? ⟨ga, 1, none⟩ = some (.slice Aa na ca) ∧ W.cell? ⟨ga, 2, none⟩ = some (.slice Ba ma da)) ∧ (W.cell? ⟨gb, 0, none⟩ = some (.bool sb) ∧ W.cell? ⟨gb, 1, none⟩ = some (.slice Ab nb cb) ∧ W.cell? ⟨gb, 2, none⟩ = some (.slice Bb mb db)))) (by kernel_rfl) ?_ (fun hHeld => ?_)
      · exact ⟨HCA.out _ hk, HCB.out _ hk⟩
      refine wpAnyH_take (i := 0) (oi := ⟨some 22, _, _, _, _, _⟩) (v := ?_) rfl (by kernel_rfl) (by kernel_rfl) (by kernel_rfl) (fun _ _ _ h => h) (Or.inl ⟨by rfl, ?_⟩) (by assumption) ?_
      rotate_left
      · intro w hSw
        (try dsimp only at hSw)
        go_simp
        try with_reducible rfl
      try simp only [Act.put, List.setIfInBounds_toArray, List.set_cons_zero, List.set_cons_succ]
      refine wpAnyH_take (i := 1) (oi := ⟨some 23, _, _, _, _, _⟩) (v := ?_) rfl (by kernel_rfl) (by kernel_rfl) (by kernel_rfl) (fun _ _ _ h => h) (Or.inl ⟨by rfl, ?_⟩) (by assumption) ?_
      rotate_left
      · intro w hSw
        (try dsimp only at hSw)
        go_simp
        try with_reducible rfl
      try simp only [Act.put, List.setIfInBounds_toArray, List.set_cons_zero, List.set_cons_succ]
      refine wpAnyH_take (i := 2) (oi := ⟨some 24, _, _, _, _, _⟩) (v := ?_) rfl (by kernel_rfl) (by kernel_rfl) (by kernel_rfl) (fun _ _ _ h => h) (Or.inl ⟨by rfl, ?_⟩) (by assumption) ?_
      rotate_left
      · intro w hSw
        (try dsimp only at hSw)
        go_simp
        try with_reducible rfl
      try simp only [Act.put, List.setIfInBounds_toArray, List.set_cons_zero, List.set_cons_succ]
      refine wpAnyH_take (i := 3) (oi := ⟨some 25, _, _, _, _, _⟩) (v := ?_) rfl (by kernel_rfl) (by kernel_rfl) (by kernel_rfl) (fun _ _ _ h => h) (Or.inl ⟨by rfl, ?_⟩) (by assumption) ?_
      rotate_left
      · intro w hSw
        (try dsimp only at hSw)
        go_simp
        try with_reducible rfl
      try simp only [Act.put, List.setIfInBounds_toArray, List.set_cons_zero, List.set_cons_succ]
      refine wpAnyH_take (i := 4) (oi := ⟨some 26, _, _, _, _, _⟩) (v := ?_) rfl (by kernel_rfl) (by kernel_rfl) (by kernel_rfl) (fun _ _ _ h => h) (Or.inl ⟨by rfl, ?_⟩) (by assumption) ?_
      rotate_left
      · intro w hSw
        (try dsimp only at hSw)
        go_simp
        try with_reducible rfl
      try simp only [Act.put, List.setIfInBounds_toArray, List.set_cons_zero, List.set_cons_succ]
      refine wpAnyH_take (i := 5) (oi := ⟨some 27, _, _, _, _, _⟩) (v := ?_) rfl (by kernel_rfl) (by kernel_rfl) (by kernel_rfl) (fun _ _ _ h => h) (Or.inl ⟨by rfl, ?_⟩) (by assumption) ?_
      rotate_left
      · intro w hSw
        (try dsimp only at hSw)
        go_simp
        try with_reducible rfl
      try simp only [Act.put, List.setIfInBounds_toArray, List.set_cons_zero, List.set_cons_succ]
      refine wpAnyH_take (i := 6) (oi := ⟨some 28, _, _, _, _, _⟩) (v := ?_) rfl (by kernel_rfl) (by kernel_rfl) (by kernel_rfl) (fun _ _ _ h => h) (Or.inl ⟨by rfl, ?_⟩) (by assumption) ?_
      rotate_left
      · intro w hSw
        (try dsimp only at hSw)
        go_simp
        try with_reducible rfl
      try simp only [Act.put, List.setIfInBounds_toArray, List.set_cons_zero, List.set_cons_succ]
      refine wpAnyH_take (i := 8) (oi := ⟨some 30, _, _, _, _, _⟩) (v := ?_) rfl (by kernel_rfl) (by kernel_rfl) (by kernel_rfl) (fun _ _ _ h => h) (Or.inl ⟨by rfl, ?_⟩) (by assumption) ?_
      rotate_left
      · intro w hSw
        (try dsimp only at hSw)
        go_simp
        try with_reducible rfl
      try simp only [Act.put, List.setIfInBounds_toArray, List.set_cons_zero, List.set_cons_succ]
      refine wpAnyH_take (i := 9) (oi := ⟨some 31, _, _, _, _, _⟩) (v := ?_) rfl (by kernel_rfl) (by kernel_rfl) (by kernel_rfl) (fun _ _ _ h => h) (Or.inl ⟨by rfl, ?_⟩) (by assumption) ?_
      rotate_left
      · intro w hSw
        (try dsimp only at hSw)
        go_simp
        try with_reducible rfl
      try simp only [Act.put, List.setIfInBounds_toArray, List.set_cons_zero, List.set_cons_succ]
      refine wpAnyH_take (i := 10) (oi := ⟨some 32, _, _, _, _, _⟩) (v := ?_) rfl (by kernel_rfl) (by kernel_rfl) (by kernel_rfl) (fun _ _ _ h => h) (Or.inl ⟨by rfl, ?_⟩) (by assumption) ?_
      rotate_left
      · intro w hSw
        (try dsimp only at hSw)
        go_simp
        try with_reducible rfl
      try simp only [Act.put, List.setIfInBounds_toArray, List.set_cons_zero, List.set_cons_succ]
      refine wpAnyH_take (i := 11) (oi := ⟨some 33, _, _, _, _, _⟩) (v := ?_) rfl (by kernel_rfl) (by kernel_rfl) (by kernel_rfl) (fun _ _ _ h => h) (Or.inl ⟨by rfl, ?_⟩) (by assumption) ?_
      rotate_left
      · intro w hSw
        (try dsimp only at hSw)
        go_simp
        try with_reducible rfl
      try simp only [Act.put, List.setIfInBounds_toArray, List.set_cons_zero, List.set_cons_succ]
      refine wpAnyH_take (i := 12) (oi := ⟨some 34, _, _, _, _, _⟩) (v := ?_) rfl (by kernel_rfl) (by kernel_rfl) (by kernel_rfl) (fun _ _ _ h => h) (Or.inl ⟨by rfl, ?_⟩) (by assumption) ?_
      rotate_left
      · intro w hSw
        (try dsimp only at hSw)
        go_simp
        try with_reducible rfl
      try simp only [Act.put, List.setIfInBounds_toArray, List.set_cons_zero, List.set_cons_succ]
      refine wpAnyH_take (i := 13) (oi := ⟨some 35, _, _, _, _, _⟩) (v := ?_) rfl (by kernel_rfl) (by kernel_rfl) (by kernel_rfl) (fun _ _ _ h => h) (Or.inl ⟨by rfl, ?_⟩) (by assumption) ?_
      rotate_left
      · intro w hSw
        (try dsimp only at hSw)
        go_simp
        try with_reducible rfl
      try simp only [Act.put, List.setIfInBounds_toArray, List.set_cons_zero, List.set_cons_succ]
      refine wpAnyH_ready (rs := [7]) (by kernel_rfl) (by simp) ?_
      refine AllReadyH.cons (o := ⟨some 29, _, _, _, _, _⟩) rfl (fun K hK => ?_) AllReadyH.nil
      go_simp
      go_at_call 152
      refine (mul_o (hx.below hk) (hv.below hk) (by omega) (by omega)).mono ?_
      rintro e w' ⟨A7, n7, c7, rfl, h7, o7, b7⟩
      replace hk := nextB hk b7
      go_wp2_with fail
      refine hK.out _ _ ⟨HCA.out _ hk, HCB.out _ hk⟩ (fun hHeld => ?_)
      clear hK K
      try simp only [Act.put, List.setIfInBounds_toArray, List.set_cons_zero, List.set_cons_succ]
      refine wpAnyH_ready (rs := [14]) (by kernel_rfl) (by simp) ?_
      refine AllReadyH.cons (o := ⟨some 36, _, _, _, _, _⟩) rfl (fun K hK => ?_) AllReadyH.nil
      go_simp
      go_at_call 152
      refine (mul_o (hu.below hk) (hy.below hk) (by omega) (by omega)).mono ?_
      rintro e w' ⟨A8, n8, c8, rfl, h8, o8, b8⟩
      replace hk := nextB hk b8
      go_wp2_with fail
      refine hK.out _ _ ⟨HCA.out _ hk, HCB.out _ hk⟩ (fun hHeld => ?_)
      clear hK K
      try simp only [Act.put, List.setIfInBounds_toArray, List.set_cons_zero, List.set_cons_succ]
      refine wpAnyH_ready (rs := [15]) (by kernel_rfl) (by simp) ?_
      refine AllReadyH.cons (o := ⟨some 37, _, _, _, _, _⟩) rfl (fun K hK => ?_) AllReadyH.nil
      go_simp
      go_at_call 144
      refine (cmp_b (h7.below b8).num h8.num).mono ?_
      rintro e w' ⟨rfl, b9⟩
      replace hk := nextB hk b9
      go_wp2_with fail
      refine hK.out _ _ ⟨HCA.out _ hk, HCB.out _ hk⟩ (fun hHeld => ?_)
      clear hK K
      try simp only [Act.put, List.setIfInBounds_toArray, List.set_cons_zero, List.set_cons_succ]

      obtain ⟨rr, hrr⟩ : ∃ rr, cmpZ (x * v) (u * y) = rr := ⟨_, rfl⟩
      obtain ⟨sq, hsq⟩ : ∃ sq, sgnR q = sq := ⟨_, rfl⟩
      have HCR' := HCR.out
      have HSR' := HSR.out
      have HE' := HE.out
      rw [hrr] at HCR' HE' ⊢
      rw [hsq] at HSR' HE' ⊢
      have HW : IntKind.i64.wrap (sq * rr) = sq * rr := by
        rcases HSR' with rfl | rfl | rfl <;> rcases HCR' with rfl | rfl | rfl <;> decide
      have HEE := Lib.hid HE'
      clear hrr hsq HE' HCR' HSR'
      refine wpAnyH_take (i := 16) (oi := ⟨some 38, _, _, _, _, _⟩) (v := ?_) rfl (by kernel_rfl) (by kernel_rfl) (by kernel_rfl) (fun _ _ _ h => h) (Or.inl ⟨by rfl, ?_⟩) (by assumption) ?_
      rotate_left
      · intro w hSw
        (try dsimp only at hSw)
        go_simp
        try with_reducible rfl
      try simp only [Act.put, List.setIfInBounds_toArray, List.set_cons_zero, List.set_cons_succ]
      refine wpAnyH_take (i := 17) (oi := ⟨some 4, _, _, _, _, _⟩) (v := ?_) rfl (by kernel_rfl) (by kernel_rfl) (by kernel_rfl) (fun _ _ _ h => h) (Or.inl ⟨by rfl, ?_⟩) (by assumption) ?_
      rotate_left
      · intro w hSw
        (try dsimp only at hSw)
        go_simp
        try with_reducible rfl
      try simp only [Act.put, List.setIfInBounds_toArray, List.set_cons_zero, List.set_cons_succ]
      refine wpAnyH_done (by kernel_rfl) ?_ _
      go_wp2
      go_ret
      exact ⟨ret_int HEE.out, nextB hb1 (nextB hkx (hk))⟩
    · have HD := Lib.hid (sgnR_diff (q := q) (q' := q') (by rw [hz]; exact hz0))
      have HZ := Lib.hid hz
      have hb : (z != 0) = true := by simpa using hz0
      clear hz hz0
      go_wp2
      go_ret
      exact ⟨ret_int (by rw [HD.out, HZ.out]), nextB hb1 (nextB hkx b56)⟩

theorem ratEqual_r {w : World} {s s' : Bool} {A B A' B' : Option Addr} {n c m d n' c' m' d' k k' : Nat} {q q' : Rat} (h : Loose w s A n c B m d q k) (h' : Loose w s' A' n' c' B' m' d' q' k') (k0 : 1 ≤ k) (k1 : 1 ≤ k') (hk8 : k ≤ 300000) (hk9 : k' ≤ 300000) :
    Calls Tryz.prog 94 #[.agg #[.bool s, .slice A n c, .slice B m d], .agg #[.bool s', .slice A' n' c', .slice B' m' d']] w (BoolB w (cmpR q q' == 0)) := by
  have hb2 := ((Below.refl w.heap.size w).alloc (Nat.le_refl _) (.cells #[.bool s, .slice A n c, .slice B m d] 24)).alloc (by simp) (.cells #[.bool s', .slice A' n' c', .slice B' m' d'] 24)
  have HC := Lib.hid (ratCmp_r (h.below hb2) (h'.below hb2) k0 k1 hk8 hk9)
  clear h h'
  go_enter Tryz.func94, Tryz.ntmps94
  go_wp2_with fail
  refine HC.out.mono ?_
  rintro e w5 ⟨rfl, b5⟩
  go_wp2
  go_ret
  exact ⟨rfl, nextB hb2 b5⟩

end Go.Proofs.YtekalaihfmfkkaaGreatDoor
