/-
  slices.Min and slices.Max over eight exponents; valid, degrees, highest, limited.
  wide.Degrees.
  A term in a box that may be written.
-/
import Derived.Test.YtebbnmjmjoklmaaGreatDoorAddTerms
namespace Go.Proofs.YtebbnmjmjoklmaaGreatDoor
open Go Go.RowKit Go.WideMaps
set_option maxRecDepth 20000

set_option maxHeartbeats 4000000 in
theorem sMin_x (x0 x1 x2 x3 x4 x5 x6 x7 : Int) (b : Nat) (w : World) (h0 : w.cell? ⟨b, 0, none⟩ = some (.int .i64 x0)) (h1 : w.cell? ⟨b, 1, none⟩ = some (.int .i64 x1)) (h2 : w.cell? ⟨b, 2, none⟩ = some (.int .i64 x2)) (h3 : w.cell? ⟨b, 3, none⟩ = some (.int .i64 x3)) (h4 : w.cell? ⟨b, 4, none⟩ = some (.int .i64 x4)) (h5 : w.cell? ⟨b, 5, none⟩ = some (.int .i64 x5)) (h6 : w.cell? ⟨b, 6, none⟩ = some (.int .i64 x6)) (h7 : w.cell? ⟨b, 7, none⟩ = some (.int .i64 x7)) :
    Calls Tryz.prog 43 #[.slice (some ⟨b, 0, none⟩) 8 8] w fun e w' => e = .returned (.int .i64 (min (min (min (min (min (min (min x0 x1) x2) x3) x4) x5) x6) x7)) ∧ w' = w := by
  go_enter Tryz.func43, Tryz.ntmps43
  go_wp2
  refine wp_loop_rounds 8 ?_
  rw [rounds_succ]
  go_wp2
  rw [rounds_succ]
  go_wp2
  rw [rounds_succ]
  go_wp2
  rw [rounds_succ]
  go_wp2
  rw [rounds_succ]
  go_wp2
  rw [rounds_succ]
  go_wp2
  rw [rounds_succ]
  go_wp2
  rw [rounds_succ]
  go_wp2
  exact bodyPost_ret (v := .int .i64 (min (min (min (min (min (min (min x0 x1) x2) x3) x4) x5) x6) x7)) (by simp [results, Tryz.results43, go_sem]) rfl ⟨rfl, rfl⟩

set_option maxHeartbeats 4000000 in
theorem sMax_x (x0 x1 x2 x3 x4 x5 x6 x7 : Int) (b : Nat) (w : World) (h0 : w.cell? ⟨b, 0, none⟩ = some (.int .i64 x0)) (h1 : w.cell? ⟨b, 1, none⟩ = some (.int .i64 x1)) (h2 : w.cell? ⟨b, 2, none⟩ = some (.int .i64 x2)) (h3 : w.cell? ⟨b, 3, none⟩ = some (.int .i64 x3)) (h4 : w.cell? ⟨b, 4, none⟩ = some (.int .i64 x4)) (h5 : w.cell? ⟨b, 5, none⟩ = some (.int .i64 x5)) (h6 : w.cell? ⟨b, 6, none⟩ = some (.int .i64 x6)) (h7 : w.cell? ⟨b, 7, none⟩ = some (.int .i64 x7)) :
    Calls Tryz.prog 44 #[.slice (some ⟨b, 0, none⟩) 8 8] w fun e w' => e = .returned (.int .i64 (max (max (max (max (max (max (max x0 x1) x2) x3) x4) x5) x6) x7)) ∧ w' = w := by
  go_enter Tryz.func44, Tryz.ntmps44
  go_wp2
  refine wp_loop_rounds 8 ?_
  rw [rounds_succ]
  go_wp2
  rw [rounds_succ]
  go_wp2
  rw [rounds_succ]
  go_wp2
  rw [rounds_succ]
  go_wp2
  rw [rounds_succ]
  go_wp2
  rw [rounds_succ]
  go_wp2
  rw [rounds_succ]
  go_wp2
  rw [rounds_succ]
  go_wp2
  exact bodyPost_ret (v := .int .i64 (max (max (max (max (max (max (max x0 x1) x2) x3) x4) x5) x6) x7)) (by simp [results, Tryz.results44, go_sem]) rfl ⟨rfl, rfl⟩

/-- All exponents are at most 1024. -/
def inLim (ds : List Tq) : Prop := ∀ x ∈ ds, ∀ e ∈ x.1.L, e ≤ 1024
instance (ds : List Tq) : Decidable (inLim ds) := by unfold inLim; infer_instance

set_option maxHeartbeats 8000000 in
theorem valid_x {w : World} {A : Option Addr} {n c k : Nat} {E : Int} {ds : List Tq} (hd : PolyRd w A n c ds k E) :
    Calls Tryz.prog 23 #[.slice A n c] w fun e w' => e = .returned (.bool (decide (inLim ds))) ∧ Below w.heap.size w w' := by
  have HD := Lib.hid hd
  have HLD := Lib.hid hd.len
  have hbn := hd.big
  obtain ⟨R, hR⟩ : ∃ R, decide (inLim ds) = R := ⟨_, rfl⟩
  rw [hR]
  have HR := Lib.hid hR
  clear hd hR
  go_enter Tryz.func23, Tryz.ntmps23
  go_wp2
  go_loopw [7] (fun iv wr => ∃ i : Nat, i ≤ n ∧ iv = .int .i64 i ∧ Below w.heap.size w wr ∧ Hid (inLim (ds.take i))) (fun iv _ => n - (intOf iv).toNat)
  case atStart => exact ⟨0, Nat.zero_le _, rfl, Below.refl _ _, fun x hx => by simp at hx⟩
  case round =>
    obtain ⟨i, hi, rfl, hB, HI⟩ := hrel
    by_cases hlt : i < n
    · have hi2 : (i : Int) < n := by omega
      have hi3 : (0 : Int) ≤ i := by omega
      obtain ⟨g, x, rfl, hgl, hx, hM, hlo, hxt, hrow, h8⟩ := (HD.out.below hB).get hlt
      obtain ⟨x0, x1, x2, x3, x4, x5, x6, x7, hL⟩ := eight hM.1
      obtain ⟨c0, c1, c2, c3, c4, c5, c6, c7, c8, c9, c10⟩ := row_cells hrow h8 (by rw [tms_length, HLD.out]) hxt hL
      obtain ⟨v, hv⟩ : ∃ v, wr.alloc (.cells #[.int .i64 x0, .int .i64 x1, .int .i64 x2, .int .i64 x3, .int .i64 x4, .int .i64 x5, .int .i64 x6, .int .i64 x7, .bool x.1.s, .slice x.1.A x.1.n x.1.c, .slice x.1.B x.1.m x.1.d] 47) = v := ⟨_, rfl⟩
      have hbv : Below wr.heap.size wr v := hv ▸ (Below.refl _ wr).alloc (Nat.le_refl _) _
      obtain ⟨d0, d1, d2, d3, d4, d5, d6, d7, _, _, _⟩ := TermBox.mk hv
      have HMIN := Lib.hid (sMin_x x0 x1 x2 x3 x4 x5 x6 x7 wr.heap.size v d0 d1 d2 d3 d4 d5 d6 d7)
      have HMAX := Lib.hid (sMax_x x0 x1 x2 x3 x4 x5 x6 x7 wr.heap.size v d0 d1 d2 d3 d4 d5 d6 d7)
      have hB5 : Below w.heap.size w v := nextB hB hbv
      have hx0 := hM.2
      rw [hL] at hx0
      simp only [List.mem_cons, List.not_mem_nil, or_false, forall_eq_or_imp, forall_eq] at hx0
      obtain ⟨mn, hmn⟩ : ∃ z, min (min (min (min (min (min (min x0 x1) x2) x3) x4) x5) x6) x7 = z := ⟨_, rfl⟩
      obtain ⟨mx, hmx⟩ : ∃ z, max (max (max (max (max (max (max x0 x1) x2) x3) x4) x5) x6) x7 = z := ⟨_, rfl⟩
      have hmn0 : ¬ mn < 0 := by omega
      rw [hmn] at HMIN
      rw [hmx] at HMAX
      have HX1 : Hid (1024 < mx ↔ ¬ ∀ e ∈ x.1.L, e ≤ 1024) := by
        show _ ↔ _
        rw [hL]
        simp only [List.mem_cons, List.not_mem_nil, or_false, forall_eq_or_imp, forall_eq]
        omega
      have HV := Lib.hid hv
      have HX := Lib.hid hx
      clear hx hv hrow h8 hxt hlo hL hM hx0 hmn hmx d0 d1 d2 d3 d4 d5 d6 d7
      by_cases hbig : 1024 < mx
      · have hf : R = false := by
          rw [← HR.out, decide_eq_false_iff_not]
          intro h
          exact HX1.out.1 hbig (h x (List.mem_of_getElem? HX.out))
        subst hf
        go_wp2_with fail
        rw [HV.out]
        refine HMIN.out.mono ?_
        rintro e w' ⟨rfl, rfl⟩
        clear c0 c1 c2 c3 c4 c5 c6 c7 c8 c9 c10
        go_wp2_with fail
        refine HMAX.out.mono ?_
        rintro e w' ⟨rfl, rfl⟩
        go_wp2
        go_ret
        exact ⟨rfl, hB5⟩
      · have HN : Hid (inLim (ds.take (i + 1))) := fun y hy => by
          rw [List.take_add_one, HX.out] at hy
          rcases List.mem_append.1 hy with hy | hy
          · exact HI.out y hy
          · simp only [Option.toList_some, List.mem_singleton] at hy
            subst hy
            exact Classical.byContradiction fun h => hbig (HX1.out.2 h)
        go_wp2_with fail
        rw [HV.out]
        refine HMIN.out.mono ?_
        rintro e w' ⟨rfl, rfl⟩
        clear c0 c1 c2 c3 c4 c5 c6 c7 c8 c9 c10
        go_wp2_with fail
        refine HMAX.out.mono ?_
        rintro e w' ⟨rfl, rfl⟩
        clear HI
        go_wp2
        go_roundw
        case rel => exact ⟨i + 1, by omega, by go_num, hB5, HN⟩
        case measure => simp [intOf] <;> omega
    · obtain rfl : i = n := by omega
      have hf : R = true := by
        rw [← HR.out, decide_eq_true_eq]
        have := HI.out
        rwa [List.take_of_length_le (by rw [← HLD.out]; exact Nat.le_refl _)] at this
      subst hf
      clear HI
      go_wp2
      go_ret
      exact ⟨rfl, hB⟩
end Go.Proofs.YtebbnmjmjoklmaaGreatDoor

namespace Go.Proofs.YtebbnmjmjoklmaaGreatDoor
open Go Go.RowKit Go.WideMaps
set_option maxRecDepth 20000

/-- The greater exponents of two monomials; the greatest ones of a polynomial. -/
def mmax (a b : List Int) : List Int := List.zipWith max a b
def degs (ds : List Tq) : List Int := ds.foldl (fun m x => mmax m x.1.L) [0, 0, 0, 0, 0, 0, 0, 0]
theorem degs_step {ds : List Tq} {i : Nat} {x : Tq} (hx : ds[i]? = some x) : degs (ds.take (i + 1)) = mmax (degs (ds.take i)) x.1.L := by
  unfold degs
  rw [List.take_add_one, hx, List.foldl_append]; rfl
theorem mmax_8 {a b : List Int} (ha : a.length = 8) (hb : b.length = 8) : (mmax a b).length = 8 := by simp [mmax, ha, hb]
theorem degs_8 {ds : List Tq} (h8 : ∀ x ∈ ds, x.1.L.length = 8) : (degs ds).length = 8 := by
  have key : ∀ (l : List Tq) (m : List Int), (∀ x ∈ l, x.1.L.length = 8) → m.length = 8 → (l.foldl (fun m x => mmax m x.1.L) m).length = 8 := by
    intro l
    induction l with
    | nil => intro m _ h; exact h
    | cons x l ih => intro m hl hm; exact ih _ (fun y hy => hl y (List.mem_cons_of_mem _ hy)) (mmax_8 hm (hl x (List.mem_cons_self)))
  exact key ds _ h8 rfl
theorem mmax_le {a b : List Int} (ha : a.length = 8) (hb : b.length = 8) (z : Int) : (∀ e ∈ mmax a b, e ≤ z) ↔ (∀ e ∈ a, e ≤ z) ∧ ∀ e ∈ b, e ≤ z := by
  obtain ⟨x0, x1, x2, x3, x4, x5, x6, x7, rfl⟩ := eight ha
  obtain ⟨y0, y1, y2, y3, y4, y5, y6, y7, rfl⟩ := eight hb
  show (∀ e ∈ [max x0 y0, max x1 y1, max x2 y2, max x3 y3, max x4 y4, max x5 y5, max x6 y6, max x7 y7], e ≤ z) ↔ _
  simp only [List.mem_cons, List.not_mem_nil, or_false, forall_eq_or_imp, forall_eq, Int.max_le]
  exact ⟨fun ⟨⟨a0, b0⟩, ⟨a1, b1⟩, ⟨a2, b2⟩, ⟨a3, b3⟩, ⟨a4, b4⟩, ⟨a5, b5⟩, ⟨a6, b6⟩, ⟨a7, b7⟩⟩ => ⟨⟨a0, a1, a2, a3, a4, a5, a6, a7⟩, ⟨b0, b1, b2, b3, b4, b5, b6, b7⟩⟩, fun ⟨⟨a0, a1, a2, a3, a4, a5, a6, a7⟩, ⟨b0, b1, b2, b3, b4, b5, b6, b7⟩⟩ => ⟨⟨a0, b0⟩, ⟨a1, b1⟩, ⟨a2, b2⟩, ⟨a3, b3⟩, ⟨a4, b4⟩, ⟨a5, b5⟩, ⟨a6, b6⟩, ⟨a7, b7⟩⟩⟩
theorem degs_lim {ds : List Tq} (h8 : ∀ x ∈ ds, x.1.L.length = 8) : (∀ e ∈ degs ds, e ≤ 1024) ↔ inLim ds := by
  have key : ∀ (l : List Tq) (m : List Int), (∀ x ∈ l, x.1.L.length = 8) → m.length = 8 → ((∀ e ∈ l.foldl (fun m x => mmax m x.1.L) m, e ≤ 1024) ↔ (∀ e ∈ m, e ≤ 1024) ∧ inLim l) := by
    intro l
    induction l with
    | nil => intro m _ _; exact ⟨fun h => ⟨h, fun x hx => by cases hx⟩, fun h => h.1⟩
    | cons x l ih =>
      intro m hl hm
      have h8x := hl x (List.mem_cons_self)
      have h1 := ih (mmax m x.1.L) (fun y hy => hl y (List.mem_cons_of_mem _ hy)) (mmax_8 hm h8x)
      rw [mmax_le hm h8x] at h1
      rw [List.foldl_cons, h1]
      constructor
      · rintro ⟨⟨a, b⟩, c⟩
        refine ⟨a, fun y hy => ?_⟩
        rcases List.mem_cons.1 hy with rfl | hy
        · exact b
        · exact c y hy
      · rintro ⟨a, b⟩
        exact ⟨⟨a, b x (List.mem_cons_self)⟩, fun y hy => b y (List.mem_cons_of_mem _ hy)⟩
  have h := key ds [0, 0, 0, 0, 0, 0, 0, 0] h8 rfl
  unfold degs
  rw [h]
  exact ⟨fun h => h.2, fun h => ⟨by simp, h⟩⟩
/-- Eight exponents in a box that may be written. -/
def MonoAt (b : Nat) (L : List Int) (W : World) : Prop := (∀ i, i < 8 → W.cell? ⟨b, i, none⟩ = some (.int .i64 (L.getD i 0))) ∧ ∀ j, W.frozen? ⟨b, j, none⟩ = false
theorem MonoAt.far {b : Nat} {L : List Int} {W W' : World} (h : MonoAt b L W) (hf : W'.heap[b]? = W.heap[b]?) : MonoAt b L W' :=
  ⟨fun i hi => (World.cell?_of_block (w := W) (a := ⟨b, i, none⟩) hf).trans (h.1 i hi), fun j => (World.frozen?_of_block (w := W) (a := ⟨b, j, none⟩) hf).trans (h.2 j)⟩
theorem MonoAt.cells {b : Nat} {x0 x1 x2 x3 x4 x5 x6 x7 : Int} {W : World} (h : MonoAt b [x0, x1, x2, x3, x4, x5, x6, x7] W) : W.cell? ⟨b, 0, none⟩ = some (.int .i64 x0) ∧ W.cell? ⟨b, 1, none⟩ = some (.int .i64 x1) ∧ W.cell? ⟨b, 2, none⟩ = some (.int .i64 x2) ∧ W.cell? ⟨b, 3, none⟩ = some (.int .i64 x3) ∧ W.cell? ⟨b, 4, none⟩ = some (.int .i64 x4) ∧ W.cell? ⟨b, 5, none⟩ = some (.int .i64 x5) ∧ W.cell? ⟨b, 6, none⟩ = some (.int .i64 x6) ∧ W.cell? ⟨b, 7, none⟩ = some (.int .i64 x7) :=
  ⟨h.1 0 (by decide), h.1 1 (by decide), h.1 2 (by decide), h.1 3 (by decide), h.1 4 (by decide), h.1 5 (by decide), h.1 6 (by decide), h.1 7 (by decide)⟩
theorem MonoAt.lit (w : World) (x0 x1 x2 x3 x4 x5 x6 x7 : Int) : MonoAt w.heap.size [x0, x1, x2, x3, x4, x5, x6, x7] (w.alloc (.cells #[.int .i64 x0, .int .i64 x1, .int .i64 x2, .int .i64 x3, .int .i64 x4, .int .i64 x5, .int .i64 x6, .int .i64 x7] 45)) := by
  constructor
  · intro i hi
    rw [World.cell?_alloc_new]
    match i, hi with
    | 0, _ | 1, _ | 2, _ | 3, _ | 4, _ | 5, _ | 6, _ | 7, _ => rfl
  · intro j
    exact frozen_of_row _ _ j _ _ (heap_alloc_new w _)

/-- Eight stores, one behind the other. -/
abbrev put8 (w : World) (b : Nat) (z0 z1 z2 z3 z4 z5 z6 z7 : Int) : World := ((((((((w).setCell ⟨b, 0, none⟩ (.int .i64 z0)).setCell ⟨b, 1, none⟩ (.int .i64 z1)).setCell ⟨b, 2, none⟩ (.int .i64 z2)).setCell ⟨b, 3, none⟩ (.int .i64 z3)).setCell ⟨b, 4, none⟩ (.int .i64 z4)).setCell ⟨b, 5, none⟩ (.int .i64 z5)).setCell ⟨b, 6, none⟩ (.int .i64 z6)).setCell ⟨b, 7, none⟩ (.int .i64 z7)
theorem put8_heap (w : World) (b : Nat) (z0 z1 z2 z3 z4 z5 z6 z7 : Int) (k : Nat) (h : k ≠ b) : (put8 w b z0 z1 z2 z3 z4 z5 z6 z7).heap[k]? = w.heap[k]? := by
  unfold put8
  rw [Below.heap_setCell _ _ _ _ h, Below.heap_setCell _ _ _ _ h, Below.heap_setCell _ _ _ _ h, Below.heap_setCell _ _ _ _ h, Below.heap_setCell _ _ _ _ h, Below.heap_setCell _ _ _ _ h, Below.heap_setCell _ _ _ _ h, Below.heap_setCell _ _ _ _ h]
theorem put8_mono {w : World} {b : Nat} {m0 m1 m2 m3 m4 m5 m6 m7 : Int} (h : MonoAt b [m0, m1, m2, m3, m4, m5, m6, m7] w) (z0 z1 z2 z3 z4 z5 z6 z7 : Int) : MonoAt b [z0, z1, z2, z3, z4, z5, z6, z7] (put8 w b z0 z1 z2 z3 z4 z5 z6 z7) := by
  obtain ⟨e0, e1, e2, e3, e4, e5, e6, e7⟩ := h.cells
  unfold put8
  refine ⟨fun i hi => ?_, fun j => ?_⟩
  · match i, hi with
    | 0, _ | 1, _ | 2, _ | 3, _ | 4, _ | 5, _ | 6, _ | 7, _ => clear h; go_simp
  · have := h.2 j
    simp only [World.frozen?_setCell]
    exact this
theorem put8_below {w v : World} {B b : Nat} (h : Below B w v) (hb : B ≤ b) (z0 z1 z2 z3 z4 z5 z6 z7 : Int) : Below B w (put8 v b z0 z1 z2 z3 z4 z5 z6 z7) :=
  (((((((h.setCell hb _).setCell hb _).setCell hb _).setCell hb _).setCell hb _).setCell hb _).setCell hb _).setCell hb _
set_option maxHeartbeats 20000000 in
theorem degrees_x {w : World} {A : Option Addr} {n c k : Nat} {E : Int} {ds : List Tq} (hd : PolyRd w A n c ds k E) :
    Calls Tryz.prog 37 #[.slice A n c] w fun e w' => e = .returned (monV (degs ds)) ∧ Below w.heap.size w w' := by
  have HD := Lib.hid hd
  have HLD := Lib.hid hd.len
  have hbn := hd.big
  clear hd
  obtain ⟨R, hR⟩ : ∃ R, w.heap.size = R := ⟨_, rfl⟩
  obtain ⟨u, hu⟩ : ∃ u, (w.alloc (.cells #[.int .i64 0, .int .i64 0, .int .i64 0, .int .i64 0, .int .i64 0, .int .i64 0, .int .i64 0, .int .i64 0] 45)).alloc (.cells #[.int .i64 0, .int .i64 0, .int .i64 0, .int .i64 0, .int .i64 0, .int .i64 0, .int .i64 0, .int .i64 0] 45) = u := ⟨_, rfl⟩
  have hbu : Below w.heap.size w u := hu ▸ ((Below.refl _ w).alloc (Nat.le_refl _) _).alloc (by simp) _
  have hus : u.heap.size = R + 2 := by rw [← hu, ← hR]; simp
  have M1 : MonoAt (R + 1) [0, 0, 0, 0, 0, 0, 0, 0] u := by
    have h := MonoAt.lit (w.alloc (.cells #[.int .i64 0, .int .i64 0, .int .i64 0, .int .i64 0, .int .i64 0, .int .i64 0, .int .i64 0, .int .i64 0] 45)) 0 0 0 0 0 0 0 0
    rw [World.size_alloc, hu, hR] at h
    exact h
  have M0 : MonoAt R [0, 0, 0, 0, 0, 0, 0, 0] u := by
    have h := MonoAt.lit w 0 0 0 0 0 0 0 0
    rw [hR] at h
    refine h.far ?_
    rw [← hu]
    exact Below.heap_alloc _ _ _ (by simp; omega)
  have HU := Lib.hid hu
  have HRR := Lib.hid hR
  have HM1 := Lib.hid M1
  have HM0 := Lib.hid M0
  have hRw : R ≤ w.heap.size := by omega
  clear hu hR M1 M0
  go_enter Tryz.func37, Tryz.ntmps37
  go_wp2_with fail
  rw [HU.out, HRR.out]
  go_loopw [10] (fun iv wr => ∃ i : Nat, i ≤ n ∧ iv = .int .i64 i ∧ Below R w wr ∧ R + 2 ≤ wr.heap.size ∧ Hid (MonoAt (R + 1) (degs (ds.take i)) wr) ∧ Hid (MonoAt R [0, 0, 0, 0, 0, 0, 0, 0] wr)) (fun iv _ => n - (intOf iv).toNat)
  case atStart => exact ⟨0, Nat.zero_le _, rfl, hbu.mono hRw, by omega, HM1.out, HM0.out⟩
  case round =>
    obtain ⟨i, hi, rfl, hB, hsz, H1, H0⟩ := hrel
    by_cases hlt : i < n
    · have hi2 : (i : Int) < n := by omega
      have hi3 : (0 : Int) ≤ i := by omega
      obtain ⟨g, x, rfl, hgl, hx, hM, hlo, hxt, hrow, h8⟩ := (HD.out.below (hB.mono (by rw [HRR.out]; exact Nat.le_refl _))).get hlt
      have hdx : ∀ y ∈ ds.take i, y.1.L.length = 8 := fun y hy => (HD.out.mono y (List.mem_of_mem_take hy)).1
      obtain ⟨x0, x1, x2, x3, x4, x5, x6, x7, hL⟩ := eight hM.1
      obtain ⟨m0, m1, m2, m3, m4, m5, m6, m7, hMM⟩ := eight (degs_8 hdx)
      have HST : Hid (degs (ds.take (i + 1)) = [max m0 x0, max m1 x1, max m2 x2, max m3 x3, max m4 x4, max m5 x5, max m6 x6, max m7 x7]) := by
        show _ = _
        rw [degs_step hx, hMM, hL]; rfl
      obtain ⟨c0, c1, c2, c3, c4, c5, c6, c7, c8, c9, c10⟩ := row_cells hrow h8 (by rw [tms_length, HLD.out]) hxt hL
      obtain ⟨v, hv⟩ : ∃ v, wr.alloc (.cells #[.int .i64 x0, .int .i64 x1, .int .i64 x2, .int .i64 x3, .int .i64 x4, .int .i64 x5, .int .i64 x6, .int .i64 x7, .bool x.1.s, .slice x.1.A x.1.n x.1.c, .slice x.1.B x.1.m x.1.d] 47) = v := ⟨_, rfl⟩
      have hbv : Below wr.heap.size wr v := hv ▸ (Below.refl _ wr).alloc (Nat.le_refl _) _
      have hvs : v.heap.size = wr.heap.size + 1 := (alloc_facts hv).2.2.2
      obtain ⟨d0, d1, d2, d3, d4, d5, d6, d7, _, _, _⟩ := TermBox.mk hv
      have N1 : MonoAt (R + 1) [m0, m1, m2, m3, m4, m5, m6, m7] v := hMM ▸ H1.out.far (hbv.block _ (by omega))
      have N0 : MonoAt R [0, 0, 0, 0, 0, 0, 0, 0] v := H0.out.far (hbv.block _ (by omega))
      obtain ⟨e0, e1, e2, e3, e4, e5, e6, e7⟩ := N1.cells
      have f0 := N1.2 0
      have f1 := N1.2 1
      have f2 := N1.2 2
      have f3 := N1.2 3
      have f4 := N1.2 4
      have f5 := N1.2 5
      have f6 := N1.2 6
      have f7 := N1.2 7
      have i0 := mix0 (.int .i64 x0) (.int .i64 x1) (.int .i64 x2) (.int .i64 x3) (.int .i64 x4) (.int .i64 x5) (.int .i64 x6) (.int .i64 x7)
      have i1 := mix1 (.int .i64 x0) (.int .i64 x1) (.int .i64 x2) (.int .i64 x3) (.int .i64 x4) (.int .i64 x5) (.int .i64 x6) (.int .i64 x7)
      have i2 := mix2 (.int .i64 x0) (.int .i64 x1) (.int .i64 x2) (.int .i64 x3) (.int .i64 x4) (.int .i64 x5) (.int .i64 x6) (.int .i64 x7)
      have i3 := mix3 (.int .i64 x0) (.int .i64 x1) (.int .i64 x2) (.int .i64 x3) (.int .i64 x4) (.int .i64 x5) (.int .i64 x6) (.int .i64 x7)
      have i4 := mix4 (.int .i64 x0) (.int .i64 x1) (.int .i64 x2) (.int .i64 x3) (.int .i64 x4) (.int .i64 x5) (.int .i64 x6) (.int .i64 x7)
      have i5 := mix5 (.int .i64 x0) (.int .i64 x1) (.int .i64 x2) (.int .i64 x3) (.int .i64 x4) (.int .i64 x5) (.int .i64 x6) (.int .i64 x7)
      have i6 := mix6 (.int .i64 x0) (.int .i64 x1) (.int .i64 x2) (.int .i64 x3) (.int .i64 x4) (.int .i64 x5) (.int .i64 x6) (.int .i64 x7)
      have i7 := mix7 (.int .i64 x0) (.int .i64 x1) (.int .i64 x2) (.int .i64 x3) (.int .i64 x4) (.int .i64 x5) (.int .i64 x6) (.int .i64 x7)
      have HN1 := Lib.hid N1
      have HN0 := Lib.hid N0
      have HV := Lib.hid hv
      have hBv : Below R w v := hB.trans (hbv.mono (by omega))
      have hsv : R + 2 ≤ v.heap.size := by omega
      clear hL hx hv hrow h8 hM hxt hlo hMM N1 N0 H1 H0 hB hbv hdx hvs hsz
      go_wp2_with fail
      rw [HV.out]
      have HP : Hid (MonoAt (R + 1) (degs (ds.take (i + 1))) (put8 v (R + 1) (max m0 x0) (max m1 x1) (max m2 x2) (max m3 x3) (max m4 x4) (max m5 x5) (max m6 x6) (max m7 x7))) := by
        show MonoAt _ _ _
        rw [HST.out]
        exact put8_mono HN1.out _ _ _ _ _ _ _ _
      have HP0 : Hid (MonoAt R [0, 0, 0, 0, 0, 0, 0, 0] (put8 v (R + 1) (max m0 x0) (max m1 x1) (max m2 x2) (max m3 x3) (max m4 x4) (max m5 x5) (max m6 x6) (max m7 x7))) := HN0.out.far (put8_heap _ _ _ _ _ _ _ _ _ _ _ (by omega))
      have HPB : Hid (Below R w (put8 v (R + 1) (max m0 x0) (max m1 x1) (max m2 x2) (max m3 x3) (max m4 x4) (max m5 x5) (max m6 x6) (max m7 x7))) := put8_below hBv (by omega) _ _ _ _ _ _ _ _
      have HPS : Hid (R + 2 ≤ (put8 v (R + 1) (max m0 x0) (max m1 x1) (max m2 x2) (max m3 x3) (max m4 x4) (max m5 x5) (max m6 x6) (max m7 x7)).heap.size) := by show _ ≤ _; simp; exact hsv
      clear c0 c1 c2 c3 c4 c5 c6 c7 c8 c9 c10 HN1 HN0 hBv hsv
      refine wp_loop_rounds 9 ?_
      rw [rounds_succ]
      go_wp2
      rw [rounds_succ]
      go_wp2
      rw [rounds_succ]
      go_wp2
      rw [rounds_succ]
      go_wp2
      rw [rounds_succ]
      go_wp2
      rw [rounds_succ]
      go_wp2
      rw [rounds_succ]
      go_wp2
      rw [rounds_succ]
      go_wp2
      rw [rounds_succ]
      go_wp2
      go_roundw
      case rel => exact ⟨i + 1, by omega, by go_num, HPB.out, HPS.out, HP.out, HP0.out⟩
      case measure => simp [intOf] <;> omega
    · obtain rfl : i = n := by omega
      rw [List.take_of_length_le (by rw [← HLD.out]; exact Nat.le_refl _)] at H1
      obtain ⟨m0, m1, m2, m3, m4, m5, m6, m7, hMM⟩ := eight (degs_8 (ds := ds) (fun y hy => (HD.out.mono y hy).1))
      have H1' : MonoAt (R + 1) [m0, m1, m2, m3, m4, m5, m6, m7] wr := hMM ▸ H1.out
      obtain ⟨e0, e1, e2, e3, e4, e5, e6, e7⟩ := H1'.cells
      obtain ⟨z0, z1, z2, z3, z4, z5, z6, z7⟩ := H0.out.cells
      have f0 := H0.out.2 0
      have f1 := H0.out.2 1
      have f2 := H0.out.2 2
      have f3 := H0.out.2 3
      have f4 := H0.out.2 4
      have f5 := H0.out.2 5
      have f6 := H0.out.2 6
      have f7 := H0.out.2 7
      have HPB : Hid (Below w.heap.size w (put8 wr R m0 m1 m2 m3 m4 m5 m6 m7)) := by rw [HRR.out]; exact put8_below hB (Nat.le_refl _) _ _ _ _ _ _ _ _
      have HMM := Lib.hid hMM
      have HZF : Hid (∀ j, wr.frozen? ⟨R, j, none⟩ = false) := H0.out.2
      clear hMM H1 H1' H0
      go_wp2
      refine bodyPost_ret (v := .agg #[.int .i64 m0, .int .i64 m1, .int .i64 m2, .int .i64 m3, .int .i64 m4, .int .i64 m5, .int .i64 m6, .int .i64 m7]) ?_ rfl ⟨?_, HPB.out⟩
      · have hw := put8_mono (b := R) (w := wr) (h := ⟨fun q hq => by match q, hq with | 0, _ => exact z0 | 1, _ => exact z1 | 2, _ => exact z2 | 3, _ => exact z3 | 4, _ => exact z4 | 5, _ => exact z5 | 6, _ => exact z6 | 7, _ => exact z7, fun j => HZF.out j⟩) m0 m1 m2 m3 m4 m5 m6 m7
        obtain ⟨r0, r1, r2, r3, r4, r5, r6, r7⟩ := hw.cells
        simp only [put8] at r0 r1 r2 r3 r4 r5 r6 r7
        simp [results, Tryz.results37, go_sem, r0, r1, r2, r3, r4, r5, r6, r7]
      · rw [HMM.out]; rfl

end Go.Proofs.YtebbnmjmjoklmaaGreatDoor

namespace Go.Proofs.YtebbnmjmjoklmaaGreatDoor
open Go Go.RowKit Go.WideMaps
set_option maxRecDepth 100000

/-- A term in a box that may be written. -/
structure TmAt (b : Nat) (t : Tm) (W : World) : Prop where
  len : t.L.length = 8
  cell : ∀ j, j < 11 → W.cell? ⟨b, j, none⟩ = t.cells[j]?
  free : ∀ j, W.frozen? ⟨b, j, none⟩ = false
theorem TmAt.far {b : Nat} {t : Tm} {W W' : World} (h : TmAt b t W) (hf : W'.heap[b]? = W.heap[b]?) : TmAt b t W' :=
  ⟨h.len, fun j hj => (World.cell?_of_block (w := W) (a := ⟨b, j, none⟩) hf).trans (h.cell j hj), fun j => (World.frozen?_of_block (w := W) (a := ⟨b, j, none⟩) hf).trans (h.free j)⟩
theorem TmAt.box {b : Nat} {t : Tm} {W : World} {x0 x1 x2 x3 x4 x5 x6 x7 : Int} (h : TmAt b t W) (hL : t.L = [x0, x1, x2, x3, x4, x5, x6, x7]) : TermBox b x0 x1 x2 x3 x4 x5 x6 x7 t W := by
  have hc : t.cells = [.int .i64 x0, .int .i64 x1, .int .i64 x2, .int .i64 x3, .int .i64 x4, .int .i64 x5, .int .i64 x6, .int .i64 x7, .bool t.s, .slice t.A t.n t.c, .slice t.B t.m t.d] := by unfold Tm.cells; rw [hL]; rfl
  have key := h.cell
  rw [hc] at key
  exact ⟨key 0 (by decide), key 1 (by decide), key 2 (by decide), key 3 (by decide), key 4 (by decide), key 5 (by decide), key 6 (by decide), key 7 (by decide), key 8 (by decide), key 9 (by decide), key 10 (by decide)⟩
theorem TmAt.new (w : World) (t : Tm) (h : t.L.length = 8) : TmAt w.heap.size t (w.alloc (.cells t.cells.toArray 47)) :=
  ⟨h, fun j _ => by rw [World.cell?_alloc_new]; simp, fun j => frozen_of_row _ _ j _ _ (heap_alloc_new w _)⟩
theorem cells_set {t : Tm} (h : t.L.length = 8) {i : Nat} (hi : i < 8) (e : Int) : t.cells.set i (.int .i64 e) = ({ t with L := t.L.set i e } : Tm).cells := by
  unfold Tm.cells
  rw [List.set_append_left _ _ (by rw [List.length_map]; omega), List.map_set]
theorem setCell_same {w : World} {b j : Nat} {u v : Value} (h : w.cell? ⟨b, j, none⟩ = some u) : (w.setCell ⟨b, j, none⟩ v).cell? ⟨b, j, none⟩ = some v := by
  go_simp
theorem TmAt.one {b : Nat} {t t' : Tm} {W : World} (h : TmAt b t W) {i : Nat} (hi : i < 11) (v : Value) (ht : t.cells.set i v = t'.cells) (h' : t'.L.length = 8) : TmAt b t' (W.setCell ⟨b, i, none⟩ v) := by
  have hl := Tm.length h.len
  refine ⟨h', fun j hj => ?_, fun j => by rw [World.frozen?_setCell]; exact h.free j⟩
  rw [← ht]
  by_cases e : j = i
  · subst e
    have hc := h.cell j hj
    rw [List.getElem?_eq_getElem (by omega)] at hc
    rw [setCell_same hc, List.getElem?_set_self (by omega)]
  · rw [World.cell?_setCell_other _ _ _ _ (by intro h; injection h with _ h; exact e h.symm), List.getElem?_set_ne (fun h => e h.symm)]
    exact h.cell j hj
end Go.Proofs.YtebbnmjmjoklmaaGreatDoor
