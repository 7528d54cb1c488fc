/-
  rational's times, plus, negated, inverse, sign on fractions, and the exported Norm, Add, Sub, Mul, Div, Neg, Cmp, Sign, Equal: each by the rational number that it denotes.
-/
import Derived.Test.YtebbnmjmjoklmaaGreatDoorFrac
namespace Go.Proofs.YtebbnmjmjoklmaaGreatDoor
open Go.RowKit
set_option maxRecDepth 20000

/-- Two arguments in boxes, and a box for the result. -/
theorem boxes2 (w : World) (a0 a1 a2 b0 b1 b2 z0 z1 z2 : Value) (T1 T2 T3 : TypeId) (v : World) (hv : ((w.alloc (.cells #[a0, a1, a2] T1)).alloc (.cells #[b0, b1, b2] T2)).alloc (.cells #[z0, z1, z2] T3) = v) :
    ∃ g, g = w.heap.size ∧ v.heap.size = g + 3 ∧ Below w.heap.size w v ∧
      (∀ W, Below v.heap.size v W → W.cell? ⟨g, 0, none⟩ = some a0 ∧ W.cell? ⟨g, 1, none⟩ = some a1 ∧ W.cell? ⟨g, 2, none⟩ = some a2) ∧
      (∀ W, Below v.heap.size v W → W.cell? ⟨g + 1, 0, none⟩ = some b0 ∧ W.cell? ⟨g + 1, 1, none⟩ = some b1 ∧ W.cell? ⟨g + 1, 2, none⟩ = some b2) ∧
      (∀ W, Below v.heap.size v W → W.cell? ⟨g + 2, 0, none⟩ = some z0 ∧ W.cell? ⟨g + 2, 1, none⟩ = some z1 ∧ W.cell? ⟨g + 2, 2, none⟩ = some z2) ∧
      (∀ W, Below v.heap.size v W → W.frozen? ⟨g + 2, 0, none⟩ = false ∧ W.frozen? ⟨g + 2, 1, none⟩ = false ∧ W.frozen? ⟨g + 2, 2, none⟩ = false) := by
  subst hv
  have hs : (((w.alloc (.cells #[a0, a1, a2] T1)).alloc (.cells #[b0, b1, b2] T2)).alloc (.cells #[z0, z1, z2] T3)).heap.size = w.heap.size + 3 := by simp
  refine ⟨w.heap.size, rfl, hs, (((Below.refl _ _).alloc (Nat.le_refl _) _).alloc (by simp) _).alloc (by simp; omega) _, ?_, ?_, ?_, ?_⟩
  · have e : ∀ i, (((w.alloc (.cells #[a0, a1, a2] T1)).alloc (.cells #[b0, b1, b2] T2)).alloc (.cells #[z0, z1, z2] T3)).cell? ⟨w.heap.size, i, none⟩ = #[a0, a1, a2][i]? := fun i => by
      rw [World.cell?_alloc_lt _ _ _ (by simp; omega), World.cell?_alloc_lt _ _ _ (by simp), World.cell?_alloc_new]
    exact three_cells (by rw [hs]; omega) ((e 0).trans rfl) ((e 1).trans rfl) ((e 2).trans rfl)
  · have e : ∀ i, (((w.alloc (.cells #[a0, a1, a2] T1)).alloc (.cells #[b0, b1, b2] T2)).alloc (.cells #[z0, z1, z2] T3)).cell? ⟨w.heap.size + 1, i, none⟩ = #[b0, b1, b2][i]? := fun i => by
      rw [World.cell?_alloc_lt _ _ _ (by simp)]
      have := World.cell?_alloc_new (w := w.alloc (.cells #[a0, a1, a2] T1)) #[b0, b1, b2] T2 i
      rw [World.size_alloc] at this
      exact this
    exact three_cells (by rw [hs]; omega) ((e 0).trans rfl) ((e 1).trans rfl) ((e 2).trans rfl)
  · have e : ∀ i, (((w.alloc (.cells #[a0, a1, a2] T1)).alloc (.cells #[b0, b1, b2] T2)).alloc (.cells #[z0, z1, z2] T3)).cell? ⟨w.heap.size + 2, i, none⟩ = #[z0, z1, z2][i]? := fun i => by
      have := World.cell?_alloc_new (w := (w.alloc (.cells #[a0, a1, a2] T1)).alloc (.cells #[b0, b1, b2] T2)) #[z0, z1, z2] T3 i
      rw [World.size_alloc, World.size_alloc] at this
      exact this
    exact three_cells (by rw [hs]; omega) ((e 0).trans rfl) ((e 1).trans rfl) ((e 2).trans rfl)
  · have e : ∀ i, (((w.alloc (.cells #[a0, a1, a2] T1)).alloc (.cells #[b0, b1, b2] T2)).alloc (.cells #[z0, z1, z2] T3)).frozen? ⟨w.heap.size + 2, i, none⟩ = false := fun i => by
      have := World.frozen?_alloc_new (w := (w.alloc (.cells #[a0, a1, a2] T1)).alloc (.cells #[b0, b1, b2] T2)) #[z0, z1, z2] T3 i
      rw [World.size_alloc, World.size_alloc] at this
      exact this
    exact three_free (by rw [hs]; omega) e
/-- One argument in a box, and a box for the result. -/
theorem boxes1 (w : World) (a0 a1 a2 z0 z1 z2 : Value) (T1 T3 : TypeId) (v : World) (hv : (w.alloc (.cells #[a0, a1, a2] T1)).alloc (.cells #[z0, z1, z2] T3) = v) :
    ∃ g, g = w.heap.size ∧ v.heap.size = g + 2 ∧ Below w.heap.size w v ∧
      (∀ W, Below v.heap.size v W → W.cell? ⟨g, 0, none⟩ = some a0 ∧ W.cell? ⟨g, 1, none⟩ = some a1 ∧ W.cell? ⟨g, 2, none⟩ = some a2) ∧
      (∀ W, Below v.heap.size v W → W.cell? ⟨g + 1, 0, none⟩ = some z0 ∧ W.cell? ⟨g + 1, 1, none⟩ = some z1 ∧ W.cell? ⟨g + 1, 2, none⟩ = some z2) ∧
      (∀ W, Below v.heap.size v W → W.frozen? ⟨g + 1, 0, none⟩ = false ∧ W.frozen? ⟨g + 1, 1, none⟩ = false ∧ W.frozen? ⟨g + 1, 2, none⟩ = false) := by
  subst hv
  have hs : ((w.alloc (.cells #[a0, a1, a2] T1)).alloc (.cells #[z0, z1, z2] T3)).heap.size = w.heap.size + 2 := by simp
  refine ⟨w.heap.size, rfl, hs, ((Below.refl _ _).alloc (Nat.le_refl _) _).alloc (by simp) _, ?_, ?_, ?_⟩
  · have e : ∀ i, ((w.alloc (.cells #[a0, a1, a2] T1)).alloc (.cells #[z0, z1, z2] T3)).cell? ⟨w.heap.size, i, none⟩ = #[a0, a1, a2][i]? := fun i => by
      rw [World.cell?_alloc_lt _ _ _ (by simp), World.cell?_alloc_new]
    exact three_cells (by rw [hs]; omega) ((e 0).trans rfl) ((e 1).trans rfl) ((e 2).trans rfl)
  · have e : ∀ i, ((w.alloc (.cells #[a0, a1, a2] T1)).alloc (.cells #[z0, z1, z2] T3)).cell? ⟨w.heap.size + 1, i, none⟩ = #[z0, z1, z2][i]? := fun i => by
      have := World.cell?_alloc_new (w := w.alloc (.cells #[a0, a1, a2] T1)) #[z0, z1, z2] T3 i
      rw [World.size_alloc] at this
      exact this
    exact three_cells (by rw [hs]; omega) ((e 0).trans rfl) ((e 1).trans rfl) ((e 2).trans rfl)
  · have e : ∀ i, ((w.alloc (.cells #[a0, a1, a2] T1)).alloc (.cells #[z0, z1, z2] T3)).frozen? ⟨w.heap.size + 1, i, none⟩ = false := fun i => by
      have := World.frozen?_alloc_new (w := w.alloc (.cells #[a0, a1, a2] T1)) #[z0, z1, z2] T3 i
      rw [World.size_alloc] at this
      exact this
    exact three_free (by rw [hs]; omega) e

/-- Three stores into another block leave three cells as they were. -/
theorem kept3 {w : World} {g h : Nat} (hne : h ≠ g) {a b c x y z : Value} {i j k : Nat} (H : w.cell? ⟨g, 0, none⟩ = some a ∧ w.cell? ⟨g, 1, none⟩ = some b ∧ w.cell? ⟨g, 2, none⟩ = some c) :
    (((w.setCell ⟨h, i, none⟩ x).setCell ⟨h, j, none⟩ y).setCell ⟨h, k, none⟩ z).cell? ⟨g, 0, none⟩ = some a ∧ (((w.setCell ⟨h, i, none⟩ x).setCell ⟨h, j, none⟩ y).setCell ⟨h, k, none⟩ z).cell? ⟨g, 1, none⟩ = some b ∧
      (((w.setCell ⟨h, i, none⟩ x).setCell ⟨h, j, none⟩ y).setCell ⟨h, k, none⟩ z).cell? ⟨g, 2, none⟩ = some c := by
  have e : ∀ o, (((w.setCell ⟨h, i, none⟩ x).setCell ⟨h, j, none⟩ y).setCell ⟨h, k, none⟩ z).cell? ⟨g, o, none⟩ = w.cell? ⟨g, o, none⟩ := fun o => by
    rw [World.cell?_setCell_other _ _ _ _ (fun e => hne (by injection e)), World.cell?_setCell_other _ _ _ _ (fun e => hne (by injection e)), World.cell?_setCell_other _ _ _ _ (fun e => hne (by injection e))]
  rw [e, e, e]; exact H

theorem mul_o {w : World} {A B : Option Addr} {n c m d : Nat} {x y : Int} (hx : Num w A n c x) (hy : Num w B m d y) (hn : n ≤ 1000000) (hm : m ≤ 1000000) : Calls Tryz.prog 74 #[.slice A n c, .slice B m d] w (GivesO w (x * y)) := by
  obtain ⟨L, h1, rfl⟩ := hx
  obtain ⟨M, h2, rfl⟩ := hy
  exact (mul_any A B n c m d L M w h1 h2 hn hm).mono fun _ _ h => h.o
theorem add_o {w : World} {A B : Option Addr} {n c m d : Nat} {x y : Int} (hx : Num w A n c x) (hy : Num w B m d y) (hn : n ≤ 1000000) (hm : m ≤ 1000000) : Calls Tryz.prog 134 #[.slice A n c, .slice B m d] w (GivesO w (x + y)) := by
  obtain ⟨L, h1, rfl⟩ := hx
  obtain ⟨M, h2, rfl⟩ := hy
  exact (add_any A B n c m d L M w h1 h2 hn hm).mono fun _ _ h => h.o
/-- The like, with no error beside it. -/
def GivesOOk (w : World) (x : Int) (e : Ending) (w' : World) : Prop := ∃ A n c, e = .returned (.tuple #[.slice A n c, .int .i64 0]) ∧ Nrm w' A n c x ∧ Off w.heap.size A ∧ Below w.heap.size w w'
theorem sub_o {w : World} {A B : Option Addr} {n c m d : Nat} {x y : Int} (hx : Num w A n c x) (hy : Num w B m d y) (hn : n ≤ 1000000) (hle : y ≤ x) : Calls Tryz.prog 135 #[.slice A n c, .slice B m d] w (GivesOOk w (x - y)) := by
  obtain ⟨L, h1, rfl⟩ := hx
  obtain ⟨M, h2, rfl⟩ := hy
  refine (sub_any A B n c m d L M w h1 h2 hn hle).mono fun _ _ h => ?_
  obtain ⟨A, n, c, L, h1, h2, h3, h4⟩ := h
  exact ⟨A, n, c, h1, Nrm.of_mine h2 h3, Off.of_mine h2, h4⟩


theorem times_end {w v1 wp wq w' : World} {g n5 c5 n6 c6 i j : Nat} {A5 A6 : Option Addr} {x y u v : Int} {s t : Bool} (hb1 : Below w.heap.size w v1) (hg : g = w.heap.size) (hsz : v1.heap.size = g + 3)
    (x0 : 0 ≤ x) (y0 : 0 < y) (u0 : 0 ≤ u) (v0 : 0 < v) (hx : x < pw i) (hy : y < pw i) (hu : u < pw j) (hv : v < pw j)
    (h5 : Nrm wq A5 n5 c5 (x * u)) (ho5 : Off wp.heap.size A5) (hs5 : v1.heap.size ≤ wp.heap.size) (h56 : Below wq.heap.size wq w') (h6 : Nrm w' A6 n6 c6 (y * v)) (ho6 : Off wq.heap.size A6) (hs6 : v1.heap.size ≤ wq.heap.size) (hk : Below v1.heap.size v1 w') (z0 z1 z2 : Value) :
    Frac (((w'.setCell ⟨g + 2, 0, none⟩ z0).setCell ⟨g + 2, 1, none⟩ z1).setCell ⟨g + 2, 2, none⟩ z2) (s != t) A5 n5 c5 A6 n6 c6 (rat s x y * rat t u v) (i + j) ∧
      Below w.heap.size w (((w'.setCell ⟨g + 2, 0, none⟩ z0).setCell ⟨g + 2, 1, none⟩ z1).setCell ⟨g + 2, 2, none⟩ z2) := by
  have l5 := h5.short (pw_prod x0 u0 hx hu)
  have l6 := h6.short (pw_prod (Int.le_of_lt y0) (Int.le_of_lt v0) hy hv)
  have hb0 := hb1.size
  refine ⟨⟨_, _, ((h5.below h56).far3 (fun _ a e => by have := ho5 a e; omega) _ _ _ _ _ _).num, (h6.far3 (fun _ a e => by have := ho6 a e; omega) _ _ _ _ _ _).num, Int.mul_pos y0 v0, (rat_mul s t x y u v).symm, l5, l6⟩, ?_⟩
  exact (((nextB hb1 hk).setCell (by simp; omega) _).setCell (by simp; omega) _).setCell (by simp; omega) _

set_option maxHeartbeats 4000000 in
theorem times_any {w : World} {s s' : Bool} {A B A' B' : Option Addr} {n c m d n' c' m' d' k k' : Nat} {q q' : Rat} (h : Frac w s A n c B m d q k) (h' : Frac w s' A' n' c' B' m' d' q' k') (hk8 : k ≤ 400000) (hk9 : k' ≤ 400000) :
    Calls Tryz.prog 56 #[.agg #[.bool s, .slice A n c, .slice B m d], .agg #[.bool s', .slice A' n' c', .slice B' m' d']] w (GivesF w (q * q') (k + k')) := by
  obtain ⟨x, y, hx, hy, y0, hq, hn, hm⟩ := h
  obtain ⟨u, v, hu, hv, v0, hq', hn', hm'⟩ := h'
  have HQ := Lib.hid hq
  have HQ' := Lib.hid hq'
  clear hq hq'
  obtain ⟨v1, hv1⟩ : ∃ v1, ((w.alloc (.cells #[.bool s, .slice A n c, .slice B m d] 101)).alloc (.cells #[.bool s', .slice A' n' c', .slice B' m' d'] 101)).alloc (.cells #[.bool false, .slice none 0 0, .slice none 0 0] 101) = v1 := ⟨_, rfl⟩
  obtain ⟨g, hg, hsz, hb1, hA, hB, hZ, hF⟩ := boxes2 w _ _ _ _ _ _ _ _ _ _ _ _ v1 hv1
  have HG := Lib.hid hg
  have HSZ := Lib.hid hsz
  have HA := Lib.hid hA
  have HB := Lib.hid hB
  have HZ := Lib.hid hZ
  have HF := Lib.hid hF
  have HV := Lib.hid hv1
  clear hA hB hZ hF hv1 hsz hg
  have hx1 := hx.below hb1
  have hy1 := hy.below hb1
  have hu1 := hu.below hb1
  have hv1 := hv.below hb1
  go_enter Tryz.func56, Tryz.ntmps56
  go_wp2_with fail
  rw [HV.out, ← HG.out]
  have hk : Below v1.heap.size v1 v1.drew := (Below.refl _ _).drew
  refine wp_region_held_drew (S := (fun W => (W.cell? ⟨g, 0, none⟩ = some (.bool s) ∧ W.cell? ⟨g, 1, none⟩ = some (.slice A n c) ∧ W.cell? ⟨g, 2, none⟩ = some (.slice B m d)) ∧ (W.cell? ⟨g + 1, 0, none⟩ = some (.bool s') ∧ W.cell? ⟨g + 1, 1, none⟩ = some (.slice A' n' c') ∧ W.cell? ⟨g + 1, 2, none⟩ = some (.slice B' m' d')))) (by kernel_rfl) ?_ (fun hHeld => ?_)
  · exact ⟨HA.out _ hk, HB.out _ hk⟩
  refine wpAnyH_take (i := 0) (oi := ⟨some 5, _, _, _, _, _⟩) (v := ?_) rfl (by kernel_rfl) (by kernel_rfl) (by kernel_rfl) (fun _ _ _ h => h) (Or.inl ⟨by rfl, ?_⟩) (by assumption) ?_
  rotate_left
  · intro w hSw
    (try dsimp only at hSw)
    go_simp
    try with_reducible rfl
  try simp only [Act.put, List.setIfInBounds_toArray, List.set_cons_zero, List.set_cons_succ]
  refine wpAnyH_take (i := 1) (oi := ⟨some 6, _, _, _, _, _⟩) (v := ?_) rfl (by kernel_rfl) (by kernel_rfl) (by kernel_rfl) (fun _ _ _ h => h) (Or.inl ⟨by rfl, ?_⟩) (by assumption) ?_
  rotate_left
  · intro w hSw
    (try dsimp only at hSw)
    go_simp
    try with_reducible rfl
  try simp only [Act.put, List.setIfInBounds_toArray, List.set_cons_zero, List.set_cons_succ]
  refine wpAnyH_take (i := 2) (oi := ⟨some 7, _, _, _, _, _⟩) (v := ?_) rfl (by kernel_rfl) (by kernel_rfl) (by kernel_rfl) (fun _ _ _ h => h) (Or.inl ⟨by rfl, ?_⟩) (by assumption) ?_
  rotate_left
  · intro w hSw
    (try dsimp only at hSw)
    go_simp
    try with_reducible rfl
  try simp only [Act.put, List.setIfInBounds_toArray, List.set_cons_zero, List.set_cons_succ]
  refine wpAnyH_take (i := 3) (oi := ⟨some 8, _, _, _, _, _⟩) (v := ?_) rfl (by kernel_rfl) (by kernel_rfl) (by kernel_rfl) (fun _ _ _ h => h) (Or.inl ⟨by rfl, ?_⟩) (by assumption) ?_
  rotate_left
  · intro w hSw
    (try dsimp only at hSw)
    go_simp
    try with_reducible rfl
  try simp only [Act.put, List.setIfInBounds_toArray, List.set_cons_zero, List.set_cons_succ]
  refine wpAnyH_take (i := 4) (oi := ⟨some 9, _, _, _, _, _⟩) (v := ?_) rfl (by kernel_rfl) (by kernel_rfl) (by kernel_rfl) (fun _ _ _ h => h) (Or.inl ⟨by rfl, ?_⟩) (by assumption) ?_
  rotate_left
  · intro w hSw
    (try dsimp only at hSw)
    go_simp
    try with_reducible rfl
  try simp only [Act.put, List.setIfInBounds_toArray, List.set_cons_zero, List.set_cons_succ]
  refine wpAnyH_take (i := 5) (oi := ⟨some 10, _, _, _, _, _⟩) (v := ?_) rfl (by kernel_rfl) (by kernel_rfl) (by kernel_rfl) (fun _ _ _ h => h) (Or.inl ⟨by rfl, ?_⟩) (by assumption) ?_
  rotate_left
  · intro w hSw
    (try dsimp only at hSw)
    go_simp
    try with_reducible rfl
  try simp only [Act.put, List.setIfInBounds_toArray, List.set_cons_zero, List.set_cons_succ]
  refine wpAnyH_take (i := 6) (oi := ⟨some 11, _, _, _, _, _⟩) (v := ?_) rfl (by kernel_rfl) (by kernel_rfl) (by kernel_rfl) (fun _ _ _ h => h) (Or.inl ⟨by rfl, ?_⟩) (by assumption) ?_
  rotate_left
  · intro w hSw
    (try dsimp only at hSw)
    go_simp
    try with_reducible rfl
  try simp only [Act.put, List.setIfInBounds_toArray, List.set_cons_zero, List.set_cons_succ]
  refine wpAnyH_take (i := 7) (oi := ⟨some 12, _, _, _, _, _⟩) (v := ?_) rfl (by kernel_rfl) (by kernel_rfl) (by kernel_rfl) (fun _ _ _ h => h) (Or.inl ⟨by rfl, ?_⟩) (by assumption) ?_
  rotate_left
  · intro w hSw
    (try dsimp only at hSw)
    go_simp
    try with_reducible rfl
  try simp only [Act.put, List.setIfInBounds_toArray, List.set_cons_zero, List.set_cons_succ]
  refine wpAnyH_take (i := 8) (oi := ⟨some 13, _, _, _, _, _⟩) (v := ?_) rfl (by kernel_rfl) (by kernel_rfl) (by kernel_rfl) (fun _ _ _ h => h) (Or.inl ⟨by rfl, ?_⟩) (by assumption) ?_
  rotate_left
  · intro w hSw
    (try dsimp only at hSw)
    go_simp
    try with_reducible rfl
  try simp only [Act.put, List.setIfInBounds_toArray, List.set_cons_zero, List.set_cons_succ]
  refine wpAnyH_take (i := 9) (oi := ⟨some 14, _, _, _, _, _⟩) (v := ?_) rfl (by kernel_rfl) (by kernel_rfl) (by kernel_rfl) (fun _ _ _ h => h) (Or.inl ⟨by rfl, ?_⟩) (by assumption) ?_
  rotate_left
  · intro w hSw
    (try dsimp only at hSw)
    go_simp
    try with_reducible rfl
  try simp only [Act.put, List.setIfInBounds_toArray, List.set_cons_zero, List.set_cons_succ]
  refine wpAnyH_take (i := 10) (oi := ⟨some 15, _, _, _, _, _⟩) (v := ?_) rfl (by kernel_rfl) (by kernel_rfl) (by kernel_rfl) (fun _ _ _ h => h) (Or.inl ⟨by rfl, ?_⟩) (by assumption) ?_
  rotate_left
  · intro w hSw
    (try dsimp only at hSw)
    go_simp
    try with_reducible rfl
  try simp only [Act.put, List.setIfInBounds_toArray, List.set_cons_zero, List.set_cons_succ]
  refine wpAnyH_take (i := 11) (oi := ⟨some 16, _, _, _, _, _⟩) (v := ?_) rfl (by kernel_rfl) (by kernel_rfl) (by kernel_rfl) (fun _ _ _ h => h) (Or.inl ⟨by rfl, ?_⟩) (by assumption) ?_
  rotate_left
  · intro w hSw
    (try dsimp only at hSw)
    go_simp
    try with_reducible rfl
  try simp only [Act.put, List.setIfInBounds_toArray, List.set_cons_zero, List.set_cons_succ]
  refine wpAnyH_take (i := 12) (oi := ⟨some 17, _, _, _, _, _⟩) (v := ?_) rfl (by kernel_rfl) (by kernel_rfl) (by kernel_rfl) (fun _ _ _ h => h) (Or.inl ⟨by rfl, ?_⟩) (by assumption) ?_
  rotate_left
  · intro w hSw
    (try dsimp only at hSw)
    go_simp
    try with_reducible rfl
  try simp only [Act.put, List.setIfInBounds_toArray, List.set_cons_zero, List.set_cons_succ]
  refine wpAnyH_take (i := 14) (oi := ⟨some 19, _, _, _, _, _⟩) (v := ?_) rfl (by kernel_rfl) (by kernel_rfl) (by kernel_rfl) (fun _ _ _ h => h) (Or.inl ⟨by rfl, ?_⟩) (by assumption) ?_
  rotate_left
  · intro w hSw
    (try dsimp only at hSw)
    go_simp
    try with_reducible rfl
  try simp only [Act.put, List.setIfInBounds_toArray, List.set_cons_zero, List.set_cons_succ]
  refine wpAnyH_take (i := 15) (oi := ⟨some 20, _, _, _, _, _⟩) (v := ?_) rfl (by kernel_rfl) (by kernel_rfl) (by kernel_rfl) (fun _ _ _ h => h) (Or.inl ⟨by rfl, ?_⟩) (by assumption) ?_
  rotate_left
  · intro w hSw
    (try dsimp only at hSw)
    go_simp
    try with_reducible rfl
  try simp only [Act.put, List.setIfInBounds_toArray, List.set_cons_zero, List.set_cons_succ]
  refine wpAnyH_take (i := 16) (oi := ⟨some 21, _, _, _, _, _⟩) (v := ?_) rfl (by kernel_rfl) (by kernel_rfl) (by kernel_rfl) (fun _ _ _ h => h) (Or.inl ⟨by rfl, ?_⟩) (by assumption) ?_
  rotate_left
  · intro w hSw
    (try dsimp only at hSw)
    go_simp
    try with_reducible rfl
  try simp only [Act.put, List.setIfInBounds_toArray, List.set_cons_zero, List.set_cons_succ]
  refine wpAnyH_take (i := 17) (oi := ⟨some 22, _, _, _, _, _⟩) (v := ?_) rfl (by kernel_rfl) (by kernel_rfl) (by kernel_rfl) (fun _ _ _ h => h) (Or.inl ⟨by rfl, ?_⟩) (by assumption) ?_
  rotate_left
  · intro w hSw
    (try dsimp only at hSw)
    go_simp
    try with_reducible rfl
  try simp only [Act.put, List.setIfInBounds_toArray, List.set_cons_zero, List.set_cons_succ]
  refine wpAnyH_take (i := 18) (oi := ⟨some 23, _, _, _, _, _⟩) (v := ?_) rfl (by kernel_rfl) (by kernel_rfl) (by kernel_rfl) (fun _ _ _ h => h) (Or.inl ⟨by rfl, ?_⟩) (by assumption) ?_
  rotate_left
  · intro w hSw
    (try dsimp only at hSw)
    go_simp
    try with_reducible rfl
  try simp only [Act.put, List.setIfInBounds_toArray, List.set_cons_zero, List.set_cons_succ]
  refine wpAnyH_take (i := 19) (oi := ⟨some 24, _, _, _, _, _⟩) (v := ?_) rfl (by kernel_rfl) (by kernel_rfl) (by kernel_rfl) (fun _ _ _ h => h) (Or.inl ⟨by rfl, ?_⟩) (by assumption) ?_
  rotate_left
  · intro w hSw
    (try dsimp only at hSw)
    go_simp
    try with_reducible rfl
  try simp only [Act.put, List.setIfInBounds_toArray, List.set_cons_zero, List.set_cons_succ]
  refine wpAnyH_ready (rs := [13]) (by kernel_rfl) (by simp) ?_
  refine AllReadyH.cons (o := ⟨some 18, _, _, _, _, _⟩) rfl (fun K hK => ?_) AllReadyH.nil
  go_simp
  go_at_call 74
  refine (mul_o (hx1.below hk) (hu1.below hk) (by omega) (by omega)).mono ?_
  rintro e w' ⟨A5, n5, c5, rfl, h5, o5, b5⟩
  have hz_b5 := hk.size
  replace hk := nextB hk b5
  go_wp2_with fail
  refine hK.out _ _ ⟨HA.out _ hk, HB.out _ hk⟩ (fun hHeld => ?_)
  clear hK K
  try simp only [Act.put, List.setIfInBounds_toArray, List.set_cons_zero, List.set_cons_succ]
  refine wpAnyH_ready (rs := [20]) (by kernel_rfl) (by simp) ?_
  refine AllReadyH.cons (o := ⟨some 25, _, _, _, _, _⟩) rfl (fun K hK => ?_) AllReadyH.nil
  go_simp
  go_at_call 74
  refine (mul_o (hy1.below hk) (hv1.below hk) (by omega) (by omega)).mono ?_
  rintro e w' ⟨A6, n6, c6, rfl, h6, o6, b6⟩
  have hz_b6 := hk.size
  replace hk := nextB hk b6
  obtain ⟨o0, o1, o2⟩ := HZ.out _ hk
  obtain ⟨f0, f1, f2⟩ := HF.out _ hk
  go_wp2_with fail
  refine hK.out _ _ ⟨HA.out _ hk, HB.out _ hk⟩ (fun hHeld => ?_)
  clear hK K
  try simp only [Act.put, List.setIfInBounds_toArray, List.set_cons_zero, List.set_cons_succ]
  refine wpAnyH_take (i := 21) (oi := ⟨some 26, _, _, _, _, _⟩) (v := ?_) rfl (by kernel_rfl) (by kernel_rfl) (by kernel_rfl) (fun _ _ _ h => h) (Or.inl ⟨by rfl, ?_⟩) (by assumption) ?_
  rotate_left
  · intro w hSw
    (try dsimp only at hSw)
    go_simp
    try with_reducible rfl
  try simp only [Act.put, List.setIfInBounds_toArray, List.set_cons_zero, List.set_cons_succ]
  refine wpAnyH_take (i := 22) (oi := ⟨some 27, _, _, _, _, _⟩) (v := ?_) rfl (by kernel_rfl) (by kernel_rfl) (by kernel_rfl) (fun _ _ _ h => h) (Or.inl ⟨by rfl, ?_⟩) (by assumption) ?_
  rotate_left
  · intro w hSw
    (try dsimp only at hSw)
    go_simp
    try with_reducible rfl
  try simp only [Act.put, List.setIfInBounds_toArray, List.set_cons_zero, List.set_cons_succ]
  refine wpAnyH_ready (rs := [23]) (by kernel_rfl) (by simp) ?_
  refine AllReadyH.cons (o := ⟨none, _, _, _, _, _⟩) rfl (fun K hK => ?_) AllReadyH.nil
  go_simp
  refine hK.out _ _ ⟨kept3 (by omega) (HA.out _ hk), kept3 (by omega) (HB.out _ hk)⟩ (fun hHeld => ?_)
  clear hK K
  try simp only [Act.put, List.setIfInBounds_toArray, List.set_cons_zero, List.set_cons_succ]
  refine wpAnyH_done (by kernel_rfl) ?_ _
  go_wp2
  exact bodyPost_ret (v := .agg #[.bool (!(s == s')), .slice A5 n5 c5, .slice A6 n6 c6]) (by simp [results, Tryz.results56, go_sem, o0, o1, o2]) rfl ⟨_, _, _, _, _, _, _, rfl, by
    rw [← HQ.out, ← HQ'.out]
    exact times_end hb1 HG.out HSZ.out hx.nonneg y0 hu.nonneg v0 (pw_up hx.lt hn) (pw_up hy.lt hm) (pw_up hu.lt hn') (pw_up hv.lt hm') h5 o5 hz_b5 b6 h6 o6 hz_b6 hk _ _ _⟩


/-- A box that was made before the call reads as it was laid. -/
theorem new_box {v w' : World} {z0 z1 z2 : Value} {T : TypeId} (b : Below (v.drew.alloc (.cells #[z0, z1, z2] T)).heap.size (v.drew.alloc (.cells #[z0, z1, z2] T)) w') :
    w'.cell? ⟨v.heap.size, 0, none⟩ = some z0 ∧ w'.cell? ⟨v.heap.size, 1, none⟩ = some z1 ∧ w'.cell? ⟨v.heap.size, 2, none⟩ = some z2 ∧ w'.frozen? ⟨v.heap.size, 0, none⟩ = false ∧ w'.frozen? ⟨v.heap.size, 1, none⟩ = false ∧ w'.frozen? ⟨v.heap.size, 2, none⟩ = false := by
  have hl : v.heap.size < (v.drew.alloc (.cells #[z0, z1, z2] T)).heap.size := by rw [World.size_alloc]; exact Nat.lt_succ_self _
  have e : ∀ i, w'.cell? ⟨v.heap.size, i, none⟩ = #[z0, z1, z2][i]? := fun i => (b.cell (p := ⟨v.heap.size, i, none⟩) hl).trans (World.cell?_alloc_new (w := v.drew) #[z0, z1, z2] T i)
  have f : ∀ i, w'.frozen? ⟨v.heap.size, i, none⟩ = false := fun i => (b.frozen (p := ⟨v.heap.size, i, none⟩) hl).trans (World.frozen?_alloc_new (w := v.drew) #[z0, z1, z2] T i)
  exact ⟨(e 0).trans rfl, (e 1).trans rfl, (e 2).trans rfl, f 0, f 1, f 2⟩

/-- Both products, the product of the denominators, and the sum's box. -/
def PlusCut (v1 : World) (s : Bool) (p r d : Int) (s5 s6 s7 : Value) (wx : World) : Prop :=
  ∃ X nx cx Y ny cy D nd cd gb, s5 = .slice X nx cx ∧ s6 = .slice Y ny cy ∧ s7 = .pointer (some ⟨gb, 0, none⟩) ∧ Nrm wx X nx cx p ∧ Nrm wx Y ny cy r ∧ Nrm wx D nd cd d ∧ Off v1.heap.size D ∧ (0 < nd → ∀ a, D = some a → a.block ≠ gb) ∧ (0 < nx → ∀ a, X = some a → a.block ≠ gb) ∧ (0 < ny → ∀ a, Y = some a → a.block ≠ gb) ∧
    wx.cell? ⟨gb, 0, none⟩ = some (.bool s) ∧ wx.cell? ⟨gb, 1, none⟩ = some (.slice none 0 0) ∧ wx.cell? ⟨gb, 2, none⟩ = some (.slice D nd cd) ∧ (∀ i, wx.frozen? ⟨gb, i, none⟩ = false) ∧ v1.heap.size ≤ gb ∧ Below v1.heap.size v1 wx

theorem plusCut_a {v1 w6 w' : World} {s : Bool} {p r d : Int} {A5 A6 A7 : Option Addr} {n5 c5 n6 c6 n7 c7 : Nat} {T : TypeId} (h5 : Nrm w6 A5 n5 c5 p) (h6 : Nrm w6 A6 n6 c6 r) (b7' : Below w6.drew.heap.size w6.drew w') (h7 : Nrm w' A7 n7 c7 d) (o7 : Off w6.heap.size A7)
    (hs : v1.heap.size ≤ w6.heap.size) (hk : Below v1.heap.size v1 w') :
    PlusCut v1 s p r d (.slice A5 n5 c5) (.slice A6 n6 c6) (.pointer (some ⟨w'.heap.size, 0, none⟩)) (w'.alloc (.cells #[.bool s, .slice none 0 0, .slice A7 n7 c7] T)) := by
  have b7 : Below w6.heap.size w6 w' := ((Below.refl _ w6).drew).trans b7'
  have ba := (Below.refl w'.heap.size w').alloc (Nat.le_refl _) (.cells #[.bool s, .slice none 0 0, .slice A7 n7 c7] T)
  refine ⟨A5, n5, c5, A6, n6, c6, A7, n7, c7, _, rfl, rfl, rfl, (h5.below b7).below ba, (h6.below b7).below ba, h7.below ba, o7.mono hs, fun h0 a e => Nat.ne_of_lt (h7.old h0 a e), fun h0 a e => Nat.ne_of_lt ((h5.below b7).old h0 a e), fun h0 a e => Nat.ne_of_lt ((h6.below b7).old h0 a e), ?_, ?_, ?_, fun i => World.frozen?_alloc_new .., hk.size, nextB hk ba⟩
  · exact (World.cell?_alloc_new ..).trans rfl
  · exact (World.cell?_alloc_new ..).trans rfl
  · exact (World.cell?_alloc_new ..).trans rfl
theorem plusCut_b {v1 w6 w' : World} {s : Bool} {p r d : Int} {A5 A6 A7 : Option Addr} {n5 c5 n6 c6 n7 c7 : Nat} {T : TypeId} {z0 z1 z2 : Value} (h5 : Nrm w6 A5 n5 c5 p) (h6 : Nrm w6 A6 n6 c6 r) (b7 : Below (w6.drew.alloc (.cells #[z0, z1, z2] T)).heap.size (w6.drew.alloc (.cells #[z0, z1, z2] T)) w') (h7 : Nrm w' A7 n7 c7 d)
    (o7 : Off (w6.drew.alloc (.cells #[z0, z1, z2] T)).heap.size A7) (hs : v1.heap.size ≤ w6.heap.size) (hk : Below v1.heap.size v1 w') :
    PlusCut v1 s p r d (.slice A5 n5 c5) (.slice A6 n6 c6) (.pointer (some ⟨w6.heap.size, 0, none⟩)) (((w'.setCell ⟨w6.heap.size, 0, none⟩ (.bool s)).setCell ⟨w6.heap.size, 1, none⟩ (.slice none 0 0)).setCell ⟨w6.heap.size, 2, none⟩ (.slice A7 n7 c7)) := by
  have hsz : (w6.drew.alloc (.cells #[z0, z1, z2] T)).heap.size = w6.heap.size + 1 := by rw [World.size_alloc]; rfl
  have b7' : Below w6.heap.size w6 w' := (((Below.refl _ w6).drew).alloc (Nat.le_refl _) _).trans (b7.mono (show w6.heap.size ≤ _ by rw [hsz]; omega))
  obtain ⟨p0, p1, p2, q0, q1, q2⟩ := new_box b7
  have fz : ∀ i, w'.frozen? ⟨w6.heap.size, i, none⟩ = false := fun i => (b7.frozen (p := ⟨w6.heap.size, i, none⟩) (by rw [hsz]; exact Nat.lt_succ_self _)).trans (World.frozen?_alloc_new (w := w6.drew) #[z0, z1, z2] T i)
  refine ⟨A5, n5, c5, A6, n6, c6, A7, n7, c7, _, rfl, rfl, rfl, (h5.below b7').far3 (fun h0 a e => Nat.ne_of_lt (h5.old h0 a e)) _ _ _ _ _ _, (h6.below b7').far3 (fun h0 a e => Nat.ne_of_lt (h6.old h0 a e)) _ _ _ _ _ _,
    h7.far3 (fun _ a e => by have := o7 a e; rw [hsz] at this; omega) _ _ _ _ _ _, o7.mono (by rw [hsz]; omega), fun _ a e => by have := o7 a e; rw [hsz] at this; omega, fun h0 a e => Nat.ne_of_lt (h5.old h0 a e), fun h0 a e => Nat.ne_of_lt (h6.old h0 a e), ?_, ?_, ?_, fun i => by rw [World.frozen?_setCell, World.frozen?_setCell, World.frozen?_setCell]; exact fz i, hs,
    ((hk.setCell (by simpa using hs) _).setCell (by simpa using hs) _).setCell (by simpa using hs) _⟩
  · rw [World.cell?_setCell_other _ _ _ _ (by simp), World.cell?_setCell_other _ _ _ _ (by simp)]
    exact World.cell?_setCell_same _ _ _ p0
  · rw [World.cell?_setCell_other _ _ _ _ (by simp)]
    refine World.cell?_setCell_same _ _ _ (u := z1) ?_
    rw [World.cell?_setCell_other _ _ _ _ (by simp)]; exact p1
  · refine World.cell?_setCell_same _ _ _ (u := z2) ?_
    rw [World.cell?_setCell_other _ _ _ _ (by simp), World.cell?_setCell_other _ _ _ _ (by simp)]; exact p2

theorem plus_end {w v1 w0 w8 : World} {g gb n8 c8 nd cd K : Nat} {A8 D : Option Addr} {N dd : Int} {sgn : Bool} {q : Rat} {z1 u0 u1 u2 : Value} (_hb1 : Below w.heap.size w v1) (hg : g = w.heap.size) (hsz : v1.heap.size = g + 3) (h8 : Nrm w8 A8 n8 c8 N) (o8 : Off w0.heap.size A8) (hgb0 : gb < w0.heap.size)
    (hgb : v1.heap.size ≤ gb) (hD : Nrm w8 D nd cd dd) (aD : 0 < nd → ∀ a, D = some a → a.block ≠ gb) (oD : Off v1.heap.size D) (hd : 0 < dd) (hq : rat sgn N dd = q) (l8 : n8 ≤ K) (ld : nd ≤ K) (hk : Below w.heap.size w w8) :
    Frac ((((w8.setCell ⟨gb, 1, none⟩ z1).setCell ⟨g + 2, 0, none⟩ u0).setCell ⟨g + 2, 1, none⟩ u1).setCell ⟨g + 2, 2, none⟩ u2) sgn A8 n8 c8 D nd cd q K ∧
      Below w.heap.size w ((((w8.setCell ⟨gb, 1, none⟩ z1).setCell ⟨g + 2, 0, none⟩ u0).setCell ⟨g + 2, 1, none⟩ u1).setCell ⟨g + 2, 2, none⟩ u2) := by
  refine ⟨⟨N, dd, ?_, ?_, hd, hq, l8, ld⟩, ?_⟩
  · exact ((h8.far (p := ⟨gb, 1, none⟩) (fun _ a e => by have := o8 a e; simp; omega) z1).far3 (fun _ a e => by have := o8 a e; omega) _ _ _ _ _ _).num
  · exact ((hD.far (p := ⟨gb, 1, none⟩) (fun h0 a e => aD h0 a e) z1).far3 (fun _ a e => by have := oD a e; omega) _ _ _ _ _ _).num
  · exact (((hk.setCell (by simp; omega) _).setCell (by simp; omega) _).setCell (by simp; omega) _).setCell (by simp; omega) _
/-- natural.Cmp, of the memory alone. -/
def CmpB (w : World) (z : Int) (e : Ending) (w' : World) : Prop := e = .returned (.int .i64 z) ∧ Below w.heap.size w w'
theorem cmp_b {w : World} {A B : Option Addr} {n c m d : Nat} {x y : Int} (hx : Num w A n c x) (hy : Num w B m d y) : Calls Tryz.prog 93 #[.slice A n c, .slice B m d] w (CmpB w (cmpZ x y)) :=
  (cmp_n hx hy).mono fun _ _ ⟨he, k, hw⟩ => ⟨he, by rw [hw]; exact drewN_below (Below.refl _ _) k⟩

set_option maxHeartbeats 4000000 in
theorem plus_any {w : World} {s s' : Bool} {A B A' B' : Option Addr} {n c m d n' c' m' d' k k' : Nat} {q q' : Rat} (h : Frac w s A n c B m d q k) (h' : Frac w s' A' n' c' B' m' d' q' k') (hk8 : k ≤ 400000) (hk9 : k' ≤ 400000) :
    Calls Tryz.prog 109 #[.agg #[.bool s, .slice A n c, .slice B m d], .agg #[.bool s', .slice A' n' c', .slice B' m' d']] w (GivesF w (q + q') (k + k' + 1)) := by
  obtain ⟨x, y, hx, hy, y0, hq, hn, hm⟩ := h
  obtain ⟨u, v, hu, hv, v0, hq', hn', hm'⟩ := h'
  have HQ := Lib.hid hq
  have HQ' := Lib.hid hq'
  clear hq hq'
  obtain ⟨v1, hv1⟩ : ∃ v1, ((w.alloc (.cells #[.bool s, .slice A n c, .slice B m d] 101)).alloc (.cells #[.bool s', .slice A' n' c', .slice B' m' d'] 101)).alloc (.cells #[.bool false, .slice none 0 0, .slice none 0 0] 101) = v1 := ⟨_, rfl⟩
  obtain ⟨g, hg, hsz, hb1, hA, hB, hZ, hF⟩ := boxes2 w _ _ _ _ _ _ _ _ _ _ _ _ v1 hv1
  have HG := Lib.hid hg
  have HSZ := Lib.hid hsz
  have HA := Lib.hid hA
  have HB := Lib.hid hB
  have HZ := Lib.hid hZ
  have HF := Lib.hid hF
  have HV := Lib.hid hv1
  clear hA hB hZ hF hv1 hsz hg
  have hx1 := hx.below hb1
  have hy1 := hy.below hb1
  have hu1 := hu.below hb1
  have hv1 := hv.below hb1
  go_enter Tryz.func109, Tryz.ntmps109
  go_wp2_with fail
  rw [HV.out, ← HG.out]
  have hk : Below v1.heap.size v1 v1.drew := (Below.refl _ _).drew
  refine wp_region_held_drew (S := (fun W => (W.cell? ⟨g, 0, none⟩ = some (.bool s) ∧ W.cell? ⟨g, 1, none⟩ = some (.slice A n c) ∧ W.cell? ⟨g, 2, none⟩ = some (.slice B m d)) ∧ (W.cell? ⟨g + 1, 0, none⟩ = some (.bool s') ∧ W.cell? ⟨g + 1, 1, none⟩ = some (.slice A' n' c') ∧ W.cell? ⟨g + 1, 2, none⟩ = some (.slice B' m' d')))) (by kernel_rfl) ?_ (fun hHeld => ?_)
  · exact ⟨HA.out _ hk, HB.out _ hk⟩
  refine wpAnyH_take (i := 0) (oi := ⟨some 8, _, _, _, _, _⟩) (v := ?_) rfl (by kernel_rfl) (by kernel_rfl) (by kernel_rfl) (fun _ _ _ h => h) (Or.inl ⟨by rfl, ?_⟩) (by assumption) ?_
  rotate_left
  · intro w hSw
    (try dsimp only at hSw)
    go_simp
    try with_reducible rfl
  try simp only [Act.put, List.setIfInBounds_toArray, List.set_cons_zero, List.set_cons_succ]
  refine wpAnyH_take (i := 1) (oi := ⟨some 9, _, _, _, _, _⟩) (v := ?_) rfl (by kernel_rfl) (by kernel_rfl) (by kernel_rfl) (fun _ _ _ h => h) (Or.inl ⟨by rfl, ?_⟩) (by assumption) ?_
  rotate_left
  · intro w hSw
    (try dsimp only at hSw)
    go_simp
    try with_reducible rfl
  try simp only [Act.put, List.setIfInBounds_toArray, List.set_cons_zero, List.set_cons_succ]
  refine wpAnyH_take (i := 2) (oi := ⟨some 10, _, _, _, _, _⟩) (v := ?_) rfl (by kernel_rfl) (by kernel_rfl) (by kernel_rfl) (fun _ _ _ h => h) (Or.inl ⟨by rfl, ?_⟩) (by assumption) ?_
  rotate_left
  · intro w hSw
    (try dsimp only at hSw)
    go_simp
    try with_reducible rfl
  try simp only [Act.put, List.setIfInBounds_toArray, List.set_cons_zero, List.set_cons_succ]
  refine wpAnyH_take (i := 3) (oi := ⟨some 11, _, _, _, _, _⟩) (v := ?_) rfl (by kernel_rfl) (by kernel_rfl) (by kernel_rfl) (fun _ _ _ h => h) (Or.inl ⟨by rfl, ?_⟩) (by assumption) ?_
  rotate_left
  · intro w hSw
    (try dsimp only at hSw)
    go_simp
    try with_reducible rfl
  try simp only [Act.put, List.setIfInBounds_toArray, List.set_cons_zero, List.set_cons_succ]
  refine wpAnyH_take (i := 4) (oi := ⟨some 12, _, _, _, _, _⟩) (v := ?_) rfl (by kernel_rfl) (by kernel_rfl) (by kernel_rfl) (fun _ _ _ h => h) (Or.inl ⟨by rfl, ?_⟩) (by assumption) ?_
  rotate_left
  · intro w hSw
    (try dsimp only at hSw)
    go_simp
    try with_reducible rfl
  try simp only [Act.put, List.setIfInBounds_toArray, List.set_cons_zero, List.set_cons_succ]
  refine wpAnyH_take (i := 5) (oi := ⟨some 13, _, _, _, _, _⟩) (v := ?_) rfl (by kernel_rfl) (by kernel_rfl) (by kernel_rfl) (fun _ _ _ h => h) (Or.inl ⟨by rfl, ?_⟩) (by assumption) ?_
  rotate_left
  · intro w hSw
    (try dsimp only at hSw)
    go_simp
    try with_reducible rfl
  try simp only [Act.put, List.setIfInBounds_toArray, List.set_cons_zero, List.set_cons_succ]
  refine wpAnyH_take (i := 7) (oi := ⟨some 15, _, _, _, _, _⟩) (v := ?_) rfl (by kernel_rfl) (by kernel_rfl) (by kernel_rfl) (fun _ _ _ h => h) (Or.inl ⟨by rfl, ?_⟩) (by assumption) ?_
  rotate_left
  · intro w hSw
    (try dsimp only at hSw)
    go_simp
    try with_reducible rfl
  try simp only [Act.put, List.setIfInBounds_toArray, List.set_cons_zero, List.set_cons_succ]
  refine wpAnyH_take (i := 8) (oi := ⟨some 16, _, _, _, _, _⟩) (v := ?_) rfl (by kernel_rfl) (by kernel_rfl) (by kernel_rfl) (fun _ _ _ h => h) (Or.inl ⟨by rfl, ?_⟩) (by assumption) ?_
  rotate_left
  · intro w hSw
    (try dsimp only at hSw)
    go_simp
    try with_reducible rfl
  try simp only [Act.put, List.setIfInBounds_toArray, List.set_cons_zero, List.set_cons_succ]
  refine wpAnyH_take (i := 9) (oi := ⟨some 17, _, _, _, _, _⟩) (v := ?_) rfl (by kernel_rfl) (by kernel_rfl) (by kernel_rfl) (fun _ _ _ h => h) (Or.inl ⟨by rfl, ?_⟩) (by assumption) ?_
  rotate_left
  · intro w hSw
    (try dsimp only at hSw)
    go_simp
    try with_reducible rfl
  try simp only [Act.put, List.setIfInBounds_toArray, List.set_cons_zero, List.set_cons_succ]
  refine wpAnyH_take (i := 10) (oi := ⟨some 18, _, _, _, _, _⟩) (v := ?_) rfl (by kernel_rfl) (by kernel_rfl) (by kernel_rfl) (fun _ _ _ h => h) (Or.inl ⟨by rfl, ?_⟩) (by assumption) ?_
  rotate_left
  · intro w hSw
    (try dsimp only at hSw)
    go_simp
    try with_reducible rfl
  try simp only [Act.put, List.setIfInBounds_toArray, List.set_cons_zero, List.set_cons_succ]
  refine wpAnyH_take (i := 11) (oi := ⟨some 19, _, _, _, _, _⟩) (v := ?_) rfl (by kernel_rfl) (by kernel_rfl) (by kernel_rfl) (fun _ _ _ h => h) (Or.inl ⟨by rfl, ?_⟩) (by assumption) ?_
  rotate_left
  · intro w hSw
    (try dsimp only at hSw)
    go_simp
    try with_reducible rfl
  try simp only [Act.put, List.setIfInBounds_toArray, List.set_cons_zero, List.set_cons_succ]
  refine wpAnyH_take (i := 12) (oi := ⟨some 20, _, _, _, _, _⟩) (v := ?_) rfl (by kernel_rfl) (by kernel_rfl) (by kernel_rfl) (fun _ _ _ h => h) (Or.inl ⟨by rfl, ?_⟩) (by assumption) ?_
  rotate_left
  · intro w hSw
    (try dsimp only at hSw)
    go_simp
    try with_reducible rfl
  try simp only [Act.put, List.setIfInBounds_toArray, List.set_cons_zero, List.set_cons_succ]
  refine wpAnyH_ready (rs := [6]) (by kernel_rfl) (by simp) ?_
  refine AllReadyH.cons (o := ⟨some 14, _, _, _, _, _⟩) rfl (fun K hK => ?_) AllReadyH.nil
  go_simp
  go_at_call 74
  refine (mul_o (hx1.below hk) (hv1.below hk) (by omega) (by omega)).mono ?_
  rintro e w' ⟨A5, n5, c5, rfl, h5, o5, b5⟩
  have hz_b5 := hk.size
  replace hk := nextB hk b5
  go_wp2_with fail
  refine hK.out _ _ ⟨HA.out _ hk, HB.out _ hk⟩ (fun hHeld => ?_)
  clear hK K
  try simp only [Act.put, List.setIfInBounds_toArray, List.set_cons_zero, List.set_cons_succ]
  refine wpAnyH_ready (rs := [13]) (by kernel_rfl) (by simp) ?_
  refine AllReadyH.cons (o := ⟨some 21, _, _, _, _, _⟩) rfl (fun K hK => ?_) AllReadyH.nil
  go_simp
  go_at_call 74
  refine (mul_o (hu1.below hk) (hy1.below hk) (by omega) (by omega)).mono ?_
  rintro e w' ⟨A6, n6, c6, rfl, h6, o6, b6⟩
  have hz_b6 := hk.size
  replace hk := nextB hk b6
  go_wp2_with fail
  refine hK.out _ _ ⟨HA.out _ hk, HB.out _ hk⟩ (fun hHeld => ?_)
  clear hK K
  try simp only [Act.put, List.setIfInBounds_toArray, List.set_cons_zero, List.set_cons_succ]
  refine wpAnyH_take (i := 14) (oi := ⟨some 5, _, _, _, _, _⟩) (v := ?_) rfl (by kernel_rfl) (by kernel_rfl) (by kernel_rfl) (fun _ _ _ h => h) (Or.inl ⟨by rfl, ?_⟩) (by assumption) ?_
  rotate_left
  · intro w hSw
    (try dsimp only at hSw)
    go_simp
    try with_reducible rfl
  try simp only [Act.put, List.setIfInBounds_toArray, List.set_cons_zero, List.set_cons_succ]
  refine wpAnyH_take (i := 15) (oi := ⟨some 6, _, _, _, _, _⟩) (v := ?_) rfl (by kernel_rfl) (by kernel_rfl) (by kernel_rfl) (fun _ _ _ h => h) (Or.inl ⟨by rfl, ?_⟩) (by assumption) ?_
  rotate_left
  · intro w hSw
    (try dsimp only at hSw)
    go_simp
    try with_reducible rfl
  try simp only [Act.put, List.setIfInBounds_toArray, List.set_cons_zero, List.set_cons_succ]
  refine wpAnyH_done (by kernel_rfl) ?_ _
  replace h5 := h5.below b6
  go_upto_region 2 with fail
  have hk6 := hk
  replace hk := hk.drew
  have hz1 : g + 3 ≤ v1.heap.size := Nat.le_of_eq HSZ.out.symm
  have hz6 := hk6.size
  go_cut [5, 6, 7] (fun s5 s6 s7 wx => PlusCut v1 s (x * v) (u * y) (y * v) s5 s6 s7 wx)
  case first =>
    go_region_held3 (fun W => (W.cell? ⟨g, 0, none⟩ = some (.bool s) ∧ W.cell? ⟨g, 1, none⟩ = some (.slice A n c) ∧ W.cell? ⟨g, 2, none⟩ = some (.slice B m d)) ∧ (W.cell? ⟨g + 1, 0, none⟩ = some (.bool s') ∧ W.cell? ⟨g + 1, 1, none⟩ = some (.slice A' n' c') ∧ W.cell? ⟨g + 1, 2, none⟩ = some (.slice B' m' d'))) (first | exact ⟨HA.out _ hk, HB.out _ hk⟩ | exact ⟨HA.out _ (hk.alloc hk.size _), HB.out _ (hk.alloc hk.size _)⟩ | exact ⟨kept3 (by omega) (HA.out _ hk), kept3 (by omega) (HB.out _ hk)⟩)
      (first
        | (go_at_call 74; refine (mul_o (hy1.below (by first | exact hk | exact hk.alloc hk.size _)) (hv1.below (by first | exact hk | exact hk.alloc hk.size _)) (by omega) (by omega)).mono ?_; rintro e w' ⟨A7, n7, c7, rfl, h7, o7, b7⟩; have hk7 := hk; (first | (have hp := new_box b7; obtain ⟨p0, p1, p2, p3, p4, p5⟩ := hp) | skip); have hk := nextB (show Below v1.heap.size v1 _ by first | exact hk | exact hk.alloc hk.size _) b7))
    all_goals
      go_wp2_with fail
      go_meet
      first
        | exact plusCut_a h5 h6 b7 h7 o7 hz6 hk
        | exact plusCut_b h5 h6 b7 h7 o7 hz6 hk
  case rest =>
    obtain ⟨X, nx, cx, Y, ny, cy, D, nd, cd, gb, rfl, rfl, rfl, hX, hY, hD, oD, aD, aX, aY, c0, c1, c2, hfr, hgb, hkx⟩ := hcut
    have hgs := World.block_lt_of_cell? wc _ c0
    have hz1 : g + 3 ≤ v1.heap.size := Nat.le_of_eq HSZ.out.symm
    have lx : nx ≤ k + k' := hX.short (pw_prod hx.nonneg (Int.le_of_lt v0) (pw_up hx.lt hn) (pw_up hv.lt hm'))
    have ld : nd ≤ k + k' := hD.short (pw_prod (Int.le_of_lt y0) (Int.le_of_lt v0) (pw_up hy.lt hm) (pw_up hv.lt hm'))
    have px := pw_prod hx.nonneg (Int.le_of_lt v0) (pw_up hx.lt hn) (pw_up hv.lt hm')
    have py : u * y < pw (k + k') := by rw [Nat.add_comm]; exact pw_prod hu.nonneg (Int.le_of_lt y0) (pw_up hu.lt hn') (pw_up hy.lt hm)
    have ly := hY.short py
    have p0 := Int.mul_nonneg hx.nonneg (Int.le_of_lt v0)
    have q0 := Int.mul_nonneg hu.nonneg (Int.le_of_lt y0)
    have yv := Int.mul_pos y0 v0
    have HY0 : Hid (y ≠ 0) := Int.ne_of_gt y0
    have HV0 : Hid (v ≠ 0) := Int.ne_of_gt v0
    have HPX := Lib.hid px
    have HPY := Lib.hid py
    clear px py hx hy hu hv hx1 hy1 hu1 hv1
    obtain ⟨a0, a1, a2⟩ := HA.out _ hkx
    obtain ⟨b0, b1, b2⟩ := HB.out _ hkx
    by_cases hss : s = s'
    · subst hss
      have HCB := Lib.hid (three_cells hgs c0 c1 c2)
      have HCF := Lib.hid (three_free hgs hfr)
      go_wp2_with fail
      refine (add_o hX.num hY.num (by omega) (by omega)).mono ?_
      rintro e w8 ⟨A8, n8, c8, rfl, h8, o8, b8⟩
      obtain ⟨d0, d1, d2⟩ := HCB.out _ b8
      obtain ⟨f0, f1, f2⟩ := HCF.out _ b8
      have hk8' := nextB hkx b8
      obtain ⟨o0, o1, o2⟩ := HZ.out _ hk8'
      obtain ⟨r0, r1, r2⟩ := HF.out _ hk8'
      have hD8 := hD.below b8
      have hb8 := b8.size
      have hkz := hkx.size
      clear c0 c1 c2 hfr a0 a1 a2 b0 b1 b2
      go_wp2
      exact bodyPost_ret (v := .agg #[.bool s, .slice A8 n8 c8, .slice D nd cd]) (by simp [results, Tryz.results109, go_sem, o0, o1, o2]) rfl ⟨_, _, _, _, _, _, _, rfl,
        plus_end hb1 HG.out HSZ.out h8 o8 hgs hgb hD8 aD oD yv (by rw [← HQ.out, ← HQ'.out, rat_add_same s HY0.out HV0.out]) (h8.short (pw_sum HPX.out HPY.out)) (by omega) (nextB hb1 hk8')⟩
    · have hsb : (s == s') = false := by simp [hss]
      have HSS := Lib.hid hss
      clear hss
      have HCB0 := Lib.hid (three_cells hgs c0 c1 c2)
      go_wp2_with fail
      refine (cmp_b hX.num hY.num).mono ?_
      rintro e w7 ⟨rfl, b7⟩
      replace hX := hX.below b7
      replace hY := hY.below b7
      replace hD := hD.below b7
      obtain ⟨e0, e1, e2⟩ := HCB0.out _ b7
      have hfr7 : ∀ i, w7.frozen? ⟨gb, i, none⟩ = false := fun i => (b7.frozen (p := ⟨gb, i, none⟩) hgs).trans (hfr i)
      replace hkx := nextB hkx b7
      have hgs7 : gb < w7.heap.size := Nat.lt_of_lt_of_le hgs b7.size
      clear c0 c1 c2 hfr a0 a1 a2 b0 b1 b2 b7 HCB0 hgs
      obtain ⟨a0, a1, a2⟩ := HA.out _ hkx
      obtain ⟨b0, b1, b2⟩ := HB.out _ hkx
      by_cases hge : u * y ≤ x * v
      · obtain ⟨z, hz, z0⟩ : ∃ z, cmpZ (x * v) (u * y) = z ∧ 0 ≤ z := by
          unfold cmpZ
          rw [if_neg (by omega)]
          split
          · exact ⟨1, rfl, by decide⟩
          · exact ⟨0, rfl, by decide⟩
        rw [hz]
        clear hz
        have HCB := Lib.hid (three_cells hgs7 e0 e1 e2)
        have HCF := Lib.hid (three_free hgs7 hfr7)
        go_wp2_with fail
        refine (sub_o hX.num hY.num (by omega) hge).mono ?_
        rintro e w8 ⟨A8, n8, c8, rfl, h8, o8, b8⟩
        obtain ⟨d0, d1, d2⟩ := HCB.out _ b8
        obtain ⟨f0, f1, f2⟩ := HCF.out _ b8
        have hk8' := nextB hkx b8
        obtain ⟨o0, o1, o2⟩ := HZ.out _ hk8'
        obtain ⟨r0, r1, r2⟩ := HF.out _ hk8'
        have hD8 := hD.below b8
        clear e0 e1 e2 hfr7 a0 a1 a2 b0 b1 b2
        go_wp2
        exact bodyPost_ret (v := .agg #[.bool s, .slice A8 n8 c8, .slice D nd cd]) (by simp [results, Tryz.results109, go_sem, o0, o1, o2]) rfl ⟨_, _, _, _, _, _, _, rfl,
          plus_end hb1 HG.out HSZ.out h8 o8 hgs7 hgb hD8 aD oD yv (by rw [← HQ.out, ← HQ'.out, rat_add_left HSS.out HY0.out HV0.out]) (h8.short (pw_up (show x * v - u * y < pw (k + k') by have := HPX.out; omega) (Nat.le_succ _))) (by omega) (nextB hb1 hk8')⟩
      · rw [cmpZ_lt (by omega)]
        have hX' := hX.far (p := ⟨gb, 0, none⟩) aX (.bool s')
        have hY' := hY.far (p := ⟨gb, 0, none⟩) aY (.bool s')
        have hD' := hD.far (p := ⟨gb, 0, none⟩) aD (.bool s')
        have e0' : (w7.setCell ⟨gb, 0, none⟩ (.bool s')).cell? ⟨gb, 0, none⟩ = some (.bool s') := World.cell?_setCell_same _ _ _ e0
        have e1' : (w7.setCell ⟨gb, 0, none⟩ (.bool s')).cell? ⟨gb, 1, none⟩ = some (.slice none 0 0) := by rw [World.cell?_setCell_other _ _ _ _ (by simp)]; exact e1
        have e2' : (w7.setCell ⟨gb, 0, none⟩ (.bool s')).cell? ⟨gb, 2, none⟩ = some (.slice D nd cd) := by rw [World.cell?_setCell_other _ _ _ _ (by simp)]; exact e2
        have hfr8 : ∀ i, (w7.setCell ⟨gb, 0, none⟩ (.bool s')).frozen? ⟨gb, i, none⟩ = false := fun i => by rw [World.frozen?_setCell]; exact hfr7 i
        have hgs8 : gb < (w7.setCell ⟨gb, 0, none⟩ (.bool s')).heap.size := by simp [World.setCell]; exact hgs7
        have hkx' : Below v1.heap.size v1 (w7.setCell ⟨gb, 0, none⟩ (.bool s')) := hkx.setCell (p := ⟨gb, 0, none⟩) hgb _
        have HCB := Lib.hid (three_cells hgs8 e0' e1' e2')
        have HCF := Lib.hid (three_free hgs8 hfr8)
        have hf0 := hfr7 0
        clear hX hY hD e0' e1' e2' hfr7 hfr8
        go_wp2_with fail
        refine (sub_o hY'.num hX'.num (by omega) (by omega)).mono ?_
        rintro e w8 ⟨A8, n8, c8, rfl, h8, o8, b8⟩
        obtain ⟨d0, d1, d2⟩ := HCB.out _ b8
        obtain ⟨f0, f1, f2⟩ := HCF.out _ b8
        have hk8' := nextB hkx' b8
        obtain ⟨o0, o1, o2⟩ := HZ.out _ hk8'
        obtain ⟨r0, r1, r2⟩ := HF.out _ hk8'
        have hD8 := hD'.below b8
        clear e0 e1 e2 a0 a1 a2 b0 b1 b2 hf0
        go_wp2
        exact bodyPost_ret (v := .agg #[.bool s', .slice A8 n8 c8, .slice D nd cd]) (by simp [results, Tryz.results109, go_sem, o0, o1, o2]) rfl ⟨_, _, _, _, _, _, _, rfl,
          plus_end hb1 HG.out HSZ.out h8 o8 hgs8 hgb hD8 aD oD yv (by rw [← HQ.out, ← HQ'.out, rat_add_right HSS.out HY0.out HV0.out]) (h8.short (pw_up (show u * y - x * v < pw (k + k') by have := HPY.out; omega) (Nat.le_succ _))) (by omega) (nextB hb1 hk8')⟩


end Go.Proofs.YtebbnmjmjoklmaaGreatDoor
