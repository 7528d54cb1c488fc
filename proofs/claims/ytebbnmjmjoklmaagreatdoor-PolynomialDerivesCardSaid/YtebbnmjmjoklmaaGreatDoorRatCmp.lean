/-
  rational.Cmp and Equal: how two fractions compare.
-/
import Derived.Test.YtebbnmjmjoklmaaGreatDoorRatF
namespace Go.Proofs.YtebbnmjmjoklmaaGreatDoor
open Go.RowKit
set_option maxRecDepth 20000

/-- The slice lies below lo or from hi on. -/
def Skip (lo hi : Nat) (A : Option Addr) (n : Nat) : Prop := 0 < n → ∀ a, A = some a → a.block < lo ∨ hi ≤ a.block
theorem skip_ne {lo hi top g n : Nat} {A : Option Addr} (sk : Skip lo hi A n) (old : 0 < n → ∀ a, A = some a → a.block < top) (h : (lo ≤ g ∧ g < hi) ∨ top ≤ g) : 0 < n → ∀ a, A = some a → a.block ≠ g := by
  intro h0 a ha
  have h1 := sk h0 a ha
  have h2 := old h0 a ha
  omega
def GivesFS (lo : Nat) (w : World) (q : Rat) (k : Nat) (e : Ending) (w' : World) : Prop :=
  ∃ s A n c B m d, e = .returned (.agg #[.bool s, .slice A n c, .slice B m d]) ∧ Frac w' s A n c B m d q k ∧ Skip lo w.heap.size A n ∧ Skip lo w.heap.size B m ∧ Below w.heap.size w w'
theorem view_s {v w : World} {s : Bool} {A B : Option Addr} {n c m d k : Nat} {q : Rat} (hb : Below v.heap.size v w) (h : Loose v s A n c B m d q k) (hk : 1 ≤ k) :
    Calls Tryz.prog 55 #[.agg #[.bool s, .slice A n c, .slice B m d]] w (GivesFS v.heap.size w q k) := by
  obtain ⟨x, y, hx0, hy0, hq, hn, hm⟩ := h
  have hx := hx0.below hb
  have hy := hy0.below hb
  have y0 := hy.nonneg
  have hb2 := ((Below.refl w.heap.size w).alloc (Nat.le_refl _) (.cells #[.bool s, .slice A n c, .slice B m d] 42)).alloc (by simp) (.cells #[.bool false, .slice none 0 0, .slice none 0 0] 101)
  have HZ := isZero_any (hy.below hb2)
  by_cases h0 : y = 0
  · subst h0
    rw [rat_over_zero] at hq
    have HZ' := Lib.hid HZ
    have HQ := Lib.hid hq
    clear hq HZ
    go_enter Tryz.func55, Tryz.ntmps55
    go_wp2_with fail
    refine HZ'.out.mono ?_
    rintro e w' ⟨rfl, kk, rfl⟩
    go_wp2
    refine bodyPost_ret (v := .agg #[.bool false, .slice none 0 0, .slice (some ⟨w.heap.size + 1 + 1, 0, none⟩) 1 1]) (by simp [results, Tryz.results55, go_sem]) rfl ⟨_, _, _, _, _, _, _, rfl, ⟨0, 1, num_nil _, one_at (by simp), by decide, ?_, by omega, hk⟩, fun h => absurd h (by decide), fun _ a e => .inr (by injection e with e; rw [← e]; show w.heap.size ≤ w.heap.size + 1 + 1; omega), ?_⟩
    · rw [rat_zero, HQ.out]
    · exact (((drewN_below hb2 kk).setCell (by simp) _).setCell (by simp) _).setCell (by simp) _ |>.alloc (by simp; omega) _
  · rw [show decide (y = 0) = false from decide_eq_false h0] at HZ
    have HZ' := Lib.hid HZ
    have HQ := Lib.hid hq
    have ox := hx0.old
    have oy := hy0.old
    clear hq HZ
    go_enter Tryz.func55, Tryz.ntmps55
    go_wp2_with fail
    refine HZ'.out.mono ?_
    rintro e w' ⟨rfl, kk, rfl⟩
    go_wp2
    have hb3 := (((drewN_below hb2 kk).setCell (p := ⟨w.heap.size + 1, 0, none⟩) (by simp) (.bool s)).setCell (p := ⟨w.heap.size + 1, 1, none⟩) (by simp) (.slice A n c)).setCell (p := ⟨w.heap.size + 1, 2, none⟩) (by simp) (.slice B m d)
    refine bodyPost_ret (v := .agg #[.bool s, .slice A n c, .slice B m d]) (by simp [results, Tryz.results55, go_sem]) rfl ⟨_, _, _, _, _, _, _, rfl, ⟨x, y, hx.below hb3, hy.below hb3, by omega, HQ.out, hn, hm⟩, fun h0 a e => .inl (ox h0 a e), fun h0 a e => .inl (oy h0 a e), hb3⟩

theorem Frac.far3 {w : World} {s : Bool} {A B : Option Addr} {n c m d k g : Nat} {q : Rat} (h : Frac w s A n c B m d q k) (hA : 0 < n → ∀ a, A = some a → a.block ≠ g) (hB : 0 < m → ∀ a, B = some a → a.block ≠ g) (i j l : Nat) (u v z : Value) :
    Frac (((w.setCell ⟨g, i, none⟩ u).setCell ⟨g, j, none⟩ v).setCell ⟨g, l, none⟩ z) s A n c B m d q k := by
  obtain ⟨x, y, hx, hy, h3⟩ := h
  exact ⟨x, y, hx.far3 hA _ _ _ _ _ _, hy.far3 hB _ _ _ _ _ _, h3⟩
theorem Frac.oldA {w : World} {s : Bool} {A B : Option Addr} {n c m d k : Nat} {q : Rat} (h : Frac w s A n c B m d q k) : 0 < n → ∀ a, A = some a → a.block < w.heap.size := by
  obtain ⟨x, y, hx, hy, h3⟩ := h
  exact hx.old
theorem Frac.oldB {w : World} {s : Bool} {A B : Option Addr} {n c m d k : Nat} {q : Rat} (h : Frac w s A n c B m d q k) : 0 < m → ∀ a, B = some a → a.block < w.heap.size := by
  obtain ⟨x, y, hx, hy, h3⟩ := h
  exact hy.old
/-- Three stores: what the block holds. -/
theorem set3 {w : World} {g : Nat} {a b c x y z : Value} (H : w.cell? ⟨g, 0, none⟩ = some a ∧ w.cell? ⟨g, 1, none⟩ = some b ∧ w.cell? ⟨g, 2, none⟩ = some c) :
    (((w.setCell ⟨g, 0, none⟩ x).setCell ⟨g, 1, none⟩ y).setCell ⟨g, 2, none⟩ z).cell? ⟨g, 0, none⟩ = some x ∧ (((w.setCell ⟨g, 0, none⟩ x).setCell ⟨g, 1, none⟩ y).setCell ⟨g, 2, none⟩ z).cell? ⟨g, 1, none⟩ = some y ∧
      (((w.setCell ⟨g, 0, none⟩ x).setCell ⟨g, 1, none⟩ y).setCell ⟨g, 2, none⟩ z).cell? ⟨g, 2, none⟩ = some z := by
  refine ⟨?_, ?_, ?_⟩
  · rw [World.cell?_setCell_other _ _ _ _ (by simp), World.cell?_setCell_other _ _ _ _ (by simp)]
    exact World.cell?_setCell_same _ _ _ H.1
  · rw [World.cell?_setCell_other _ _ _ _ (by simp)]
    refine World.cell?_setCell_same _ _ _ (u := b) ?_
    rw [World.cell?_setCell_other _ _ _ _ (by simp)]; exact H.2.1
  · refine World.cell?_setCell_same _ _ _ (u := c) ?_
    rw [World.cell?_setCell_other _ _ _ _ (by simp), World.cell?_setCell_other _ _ _ _ (by simp)]; exact H.2.2

/-- Both fractions stand in boxes. -/
def CmpCut (v1 : World) (q q' : Rat) (k k' : Nat) (s5 s6 : Value) (wx : World) : Prop :=
  ∃ s A n c B m d ga s' A' n' c' B' m' d' gb, s5 = .pointer (some ⟨ga, 0, none⟩) ∧ s6 = .pointer (some ⟨gb, 0, none⟩) ∧
    (wx.cell? ⟨ga, 0, none⟩ = some (.bool s) ∧ wx.cell? ⟨ga, 1, none⟩ = some (.slice A n c) ∧ wx.cell? ⟨ga, 2, none⟩ = some (.slice B m d)) ∧
    (wx.cell? ⟨gb, 0, none⟩ = some (.bool s') ∧ wx.cell? ⟨gb, 1, none⟩ = some (.slice A' n' c') ∧ wx.cell? ⟨gb, 2, none⟩ = some (.slice B' m' d')) ∧
    Frac wx s A n c B m d q k ∧ Frac wx s' A' n' c' B' m' d' q' k' ∧ Below v1.heap.size v1 wx
theorem cmpCut_mk {v1 W : World} {q q' : Rat} {k k' : Nat} {s s' : Bool} {A B A' B' : Option Addr} {n c m d n' c' m' d' ga gb : Nat} {z0 z1 z2 y0 y1 y2 : Value} (hk : Below v1.heap.size v1 W) (ha : v1.heap.size ≤ ga) (hb : v1.heap.size ≤ gb) (hab : ga ≠ gb)
    (ca : W.cell? ⟨ga, 0, none⟩ = some z0 ∧ W.cell? ⟨ga, 1, none⟩ = some z1 ∧ W.cell? ⟨ga, 2, none⟩ = some z2) (cb : W.cell? ⟨gb, 0, none⟩ = some y0 ∧ W.cell? ⟨gb, 1, none⟩ = some y1 ∧ W.cell? ⟨gb, 2, none⟩ = some y2)
    (f : Frac W s A n c B m d q k) (f' : Frac W s' A' n' c' B' m' d' q' k')
    (a1 : 0 < n → ∀ a, A = some a → a.block ≠ ga) (a2 : 0 < n → ∀ a, A = some a → a.block ≠ gb) (b1 : 0 < m → ∀ a, B = some a → a.block ≠ ga) (b2 : 0 < m → ∀ a, B = some a → a.block ≠ gb)
    (a1' : 0 < n' → ∀ a, A' = some a → a.block ≠ ga) (a2' : 0 < n' → ∀ a, A' = some a → a.block ≠ gb) (b1' : 0 < m' → ∀ a, B' = some a → a.block ≠ ga) (b2' : 0 < m' → ∀ a, B' = some a → a.block ≠ gb) :
    CmpCut v1 q q' k k' (.pointer (some ⟨ga, 0, none⟩)) (.pointer (some ⟨gb, 0, none⟩)) ((((((W.setCell ⟨ga, 0, none⟩ (.bool s)).setCell ⟨ga, 1, none⟩ (.slice A n c)).setCell ⟨ga, 2, none⟩ (.slice B m d)).setCell ⟨gb, 0, none⟩ (.bool s')).setCell ⟨gb, 1, none⟩ (.slice A' n' c')).setCell ⟨gb, 2, none⟩ (.slice B' m' d')) :=
  ⟨s, A, n, c, B, m, d, ga, s', A', n', c', B', m', d', gb, rfl, rfl, kept3 (fun e => hab e.symm) (set3 ca), set3 (kept3 hab cb), (f.far3 a1 b1 _ _ _ _ _ _).far3 a2 b2 _ _ _ _ _ _, (f'.far3 a1' b1' _ _ _ _ _ _).far3 a2' b2' _ _ _ _ _ _,
    (((((hk.setCell ha _).setCell ha _).setCell ha _).setCell hb _).setCell hb _).setCell hb _⟩



theorem compare_any (x y : Int) (w : World) : Calls Tryz.prog 121 #[.int .i64 x, .int .i64 y] w fun e w' => e = .returned (.int .i64 (cmpZ x y)) ∧ w = w' := by
  by_cases h1 : x < y
  · have HC := Lib.hid (cmpZ_lt h1)
    go_enter Tryz.func121, Tryz.ntmps121
    go_wp2
    go_ret
    exact ⟨ret_int HC.out.symm, rfl⟩
  · by_cases h2 : y < x
    · have HC := Lib.hid (cmpZ_gt h2)
      go_enter Tryz.func121, Tryz.ntmps121
      go_wp2
      go_ret
      exact ⟨ret_int HC.out.symm, rfl⟩
    · have HC := Lib.hid (cmpZ_eq (a := x) (b := y) (by omega))
      go_enter Tryz.func121, Tryz.ntmps121
      go_wp2
      go_ret
      exact ⟨ret_int HC.out.symm, rfl⟩

theorem rat_lt_trans {a b c : Rat} (h1 : a < b) (h2 : b < c) : a < c := Rat.not_le.1 (fun h => Rat.not_le.2 h1 (Rat.le_trans (Rat.le_of_lt h2) h))
theorem sgnR_cases (q : Rat) : (q < 0 ∧ sgnR q = -1) ∨ (q = 0 ∧ sgnR q = 0) ∨ (0 < q ∧ sgnR q = 1) := by
  rcases (Rat.le_total (a := q) (b := 0)) with h | h
  · by_cases h0 : q = 0
    · exact .inr (.inl ⟨h0, by rw [h0]; exact sgnR_zero⟩)
    · have h1 := Rat.lt_of_le_of_ne h h0
      exact .inl ⟨h1, cmpR_lt h1⟩
  · by_cases h0 : q = 0
    · exact .inr (.inl ⟨h0, by rw [h0]; exact sgnR_zero⟩)
    · have h1 := Rat.lt_of_le_of_ne h (fun e => h0 e.symm)
      exact .inr (.inr ⟨h1, cmpR_gt h1⟩)
theorem sgnR_diff {q q' : Rat} (h : cmpZ (sgnR q) (sgnR q') ≠ 0) : cmpR q q' = cmpZ (sgnR q) (sgnR q') := by
  rcases sgnR_cases q with ⟨h1, e1⟩ | ⟨h1, e1⟩ | ⟨h1, e1⟩ <;> rcases sgnR_cases q' with ⟨h2, e2⟩ | ⟨h2, e2⟩ | ⟨h2, e2⟩ <;> rw [e1, e2] at h ⊢
  · exact absurd rfl h
  · subst h2; exact cmpR_lt h1
  · exact cmpR_lt (rat_lt_trans h1 h2)
  · subst h1; exact cmpR_gt h2
  · exact absurd rfl h
  · subst h1; exact cmpR_lt h2
  · exact cmpR_gt (rat_lt_trans h2 h1)
  · subst h2; exact cmpR_gt h1
  · exact absurd rfl h
theorem cmpZ_neg (a b : Int) : cmpZ (-a) (-b) = -cmpZ a b := by
  unfold cmpZ
  by_cases h1 : a < b
  · rw [if_neg (by omega), if_pos (by omega), if_pos h1]; rfl
  · by_cases h2 : b < a
    · rw [if_pos (by omega), if_neg h1, if_pos h2]
    · rw [if_neg (by omega), if_neg (by omega), if_neg h1, if_neg h2]; rfl
theorem cmp_equal {s s' : Bool} {x y u v : Int} {q q' : Rat} (hq : rat s x y = q) (hq' : rat s' u v = q') (x0 : 0 ≤ x) (y0 : 0 < y) (u0 : 0 ≤ u) (v0 : 0 < v) (h : cmpZ (sgnR q) (sgnR q') = 0) : sgnR q * cmpZ (x * v) (u * y) = cmpR q q' := by
  have he : sgnR q = sgnR q' := by
    unfold cmpZ at h
    split at h
    · cases h
    · split at h
      · cases h
      · omega
  have hc := rat_cmp s s' (x := x) (u := u) y0 v0
  rw [hq, hq'] at hc
  have hn := rat_neg_iff s x0 y0
  have hp := rat_pos_iff s x0 y0
  have hn' := rat_neg_iff s' u0 v0
  have hp' := rat_pos_iff s' u0 v0
  rw [hq] at hn hp
  rw [hq'] at hn' hp'
  rcases sgnR_cases q with ⟨h1, e1⟩ | ⟨h1, e1⟩ | ⟨h1, e1⟩ <;> rcases sgnR_cases q' with ⟨h2, e2⟩ | ⟨h2, e2⟩ | ⟨h2, e2⟩ <;> rw [e1, e2] at he <;> try (exact absurd he (by decide))
  · obtain ⟨rfl, _⟩ := hn.1 h1
    obtain ⟨rfl, _⟩ := hn'.1 h2
    rw [hc, e1, sg_true, sg_true, cmpZ_neg]; omega
  · subst h1 h2
    rw [e1, Int.zero_mul]; exact (cmpR_eq rfl).symm
  · obtain ⟨rfl, _⟩ := hp.1 h1
    obtain ⟨rfl, _⟩ := hp'.1 h2
    rw [hc, e1, sg_false, sg_false, Int.one_mul]


end Go.Proofs.YtebbnmjmjoklmaaGreatDoor
