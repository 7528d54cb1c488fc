/-
  evalError: the error of a form, and value: its value; Eval.
-/
import Derived.RangeFuncFrom
import Derived.Sort.CutIn
import Derived.Test.YtlhncmnhpnhfhaaFxR
namespace Go.Proofs.Ytlhncmnhpnhfhaa
open Go Go.RowKit Go.Shelf
set_option maxRecDepth 20000
attribute [local go_sem] Oper.semAt_some
namespace Fx

theorem Boxed.new' {W : World} {B : Nat} {t : TypeId} {v : Value} (h : W.heap.size = B) : Boxed (W.alloc (.cells #[v] t)) B t v := h ▸ Boxed.new W t v

theorem bne_broken (f : Fm) : ((f.args.length : Int) != arity f.op) = broken f := by
  rw [broken]
  by_cases h : (f.args.length : Int) = arity f.op <;> simp [h]
theorem beq_dec (a b : Int) : (a == b) = decide (a = b) := by
  by_cases h : a = b <;> simp [h]
theorem Below.drew {n : Nat} {w w' : World} (h : Below n w w') : Below n w w'.drew := ⟨h.os, h.tape, h.output, h.size, h.block⟩
/-- The boxes of evalError's variables. -/
structure EW (s nv : Nat) (v2 v3 v4 : Bool) (W : World) : Prop where
  b0 : Boxed W s 3 (.int .i64 nv)
  b1 : Boxed W (s + 1) 37 (.int .i64 0)
  b2 : Boxed W (s + 1 + 1) 4 (.bool v2)
  b3 : Boxed W (s + 1 + 1 + 1) 4 (.bool v3)
  b4 : Boxed W (s + 1 + 1 + 1 + 1) 4 (.bool v4)
theorem EW.set2 {s nv : Nat} {v2 v3 v4 : Bool} {W : World} (h : EW s nv v2 v3 v4 W) (b : Bool) : EW s nv b v3 v4 (W.setCell ⟨s + 1 + 1, 0, none⟩ (.bool b)) :=
  ⟨h.b0.other (by omega) _, h.b1.other (by omega) _, h.b2.set _, h.b3.other (by omega) _, h.b4.other (by omega) _⟩
theorem EW.set3 {s nv : Nat} {v2 v3 v4 : Bool} {W : World} (h : EW s nv v2 v3 v4 W) (b : Bool) : EW s nv v2 b v4 (W.setCell ⟨s + 1 + 1 + 1, 0, none⟩ (.bool b)) :=
  ⟨h.b0.other (by omega) _, h.b1.other (by omega) _, h.b2.other (by omega) _, h.b3.set _, h.b4.other (by omega) _⟩
theorem EW.set4 {s nv : Nat} {v2 v3 v4 : Bool} {W : World} (h : EW s nv v2 v3 v4 W) (b : Bool) : EW s nv v2 v3 b (W.setCell ⟨s + 1 + 1 + 1 + 1, 0, none⟩ (.bool b)) :=
  ⟨h.b0.other (by omega) _, h.b1.other (by omega) _, h.b2.other (by omega) _, h.b3.other (by omega) _, h.b4.set _⟩
theorem EW.drew {s nv : Nat} {v2 v3 v4 : Bool} {W : World} (h : EW s nv v2 v3 v4 W) : EW s nv v2 v3 v4 W.drew := ⟨h.b0, h.b1, h.b2, h.b3, h.b4⟩

set_option maxHeartbeats 2000000 in
theorem evalError_in (n g o nv : Nat) (hn : 3 ≤ n) (f : Fm) (w : World) (hf : FAt (Lo w.heap.size) w f g o) :
    CallsIn Fence.wide n Try.prog 21 #[.pointer (some ⟨g, o, none⟩), .int .i64 nv] w fun e w' => e = .returned (.int .i64 (ferr nv f)) ∧ Below w.heap.size w w' := by
  have h1 : 1 ≤ n := by omega
  have hd : 1 ≤ n - 1 - 1 := by omega
  have hfp : Fence.wide.fn 32 := trivial
  have hmx : Try.prog.follows .mixedOrders = true := by kernel_rfl
  refine callsIn_of_wp_marks Try.func21 rfl trivial ?_ rfl
  simp only [Try.ntmps21, List.size_toArray, List.length_cons, List.length_nil, Nat.reduceAdd, Nat.reduceSub, Array.replicate_succ, Array.replicate_zero, List.push_toArray, List.append_toArray, List.nil_append, List.cons_append]
  gi_wp2_with (gi_at_call 32; refine (callsIn_wide.2 (parts_x _ _ _)).mono ?_; rintro e w' ⟨rfl, rfl⟩)
  obtain ⟨W0, hW0⟩ : ∃ W0, (((((((w.alloc (.cells #[.int .i64 nv] 3)).alloc (.cells #[.int .i64 0] 37)).alloc (.cells #[.bool false] 4)).alloc (.cells #[.bool false] 4)).alloc (.cells #[.bool false] 4)).alloc (.cells #[.pointer (some ⟨g, o, none⟩)] 53)).alloc (.cells #[.int .i64 201] 3)) = W0 := ⟨_, rfl⟩
  have hs0 : W0.heap.size = w.heap.size + 7 := by rw [← hW0]; simp
  have hB0 : Below w.heap.size w W0 := by
    rw [← hW0]
    exact ((((((((Below.refl _ w).alloc (Nat.le_refl _) _).alloc (by simp) _).alloc (by simp; omega) _).alloc (by simp; omega) _).alloc (by simp; omega) _).alloc (by simp; omega) _).alloc (by simp; omega) _)
  have x0 : Boxed W0 w.heap.size 3 (.int .i64 nv) := by rw [← hW0]; exact ((((((Boxed.new' rfl).alloc _).alloc _).alloc _).alloc _).alloc _).alloc _
  have x1 : Boxed W0 (w.heap.size + 1) 37 (.int .i64 0) := by rw [← hW0]; exact (((((Boxed.new' (by simp)).alloc _).alloc _).alloc _).alloc _).alloc _
  have x2 : Boxed W0 (w.heap.size + 1 + 1) 4 (.bool false) := by rw [← hW0]; exact ((((Boxed.new' (by simp)).alloc _).alloc _).alloc _).alloc _
  have x3 : Boxed W0 (w.heap.size + 1 + 1 + 1) 4 (.bool false) := by rw [← hW0]; exact (((Boxed.new' (by simp)).alloc _).alloc _).alloc _
  have x4 : Boxed W0 (w.heap.size + 1 + 1 + 1 + 1) 4 (.bool false) := by rw [← hW0]; exact ((Boxed.new' (by simp)).alloc _).alloc _
  have x5 : Boxed W0 (w.heap.size + 1 + 1 + 1 + 1 + 1) 53 (.pointer (some ⟨g, o, none⟩)) := by rw [← hW0]; exact (Boxed.new' (by simp)).alloc _
  have x6 : Boxed W0 (w.heap.size + 1 + 1 + 1 + 1 + 1 + 1) 3 (.int .i64 201) := by rw [← hW0]; exact Boxed.new' (by simp)
  rw [hW0]
  clear hW0
  refine wpIn_rangeFunc_ownF rfl h1 (gf := 44) (lb := #[.pointer (some ⟨w.heap.size + 1 + 1 + 1 + 1 + 1, 0, none⟩), .pointer (some ⟨w.heap.size + 1 + 1 + 1 + 1 + 1 + 1, 0, none⟩)]) rfl trivial (enters_of Try.func44 (by kernel_rfl) rfl)
    (parts_stops (deepest := 201) (by omega) hf hB0 (by omega) (by omega) (by omega) x5.cell x6.cell) belowK_t (belowK_b (by omega)) (Below.refl _ _) (fun _ => rfl)
    (fun pre W => (Boxed W w.heap.size 3 (.int .i64 nv) ∧ Boxed W (w.heap.size + 1) 37 (.int .i64 0) ∧ Boxed W (w.heap.size + 1 + 1) 4 (.bool (pre.any fun p => broken p.f)) ∧ Boxed W (w.heap.size + 1 + 1 + 1) 4 (.bool (pre.any fun p => decide (p.f.op = 2))) ∧
      Boxed W (w.heap.size + 1 + 1 + 1 + 1) 4 (.bool (pre.any fun p => unknown nv p.f)) ∧ ∀ p ∈ pre, p.lv ≤ 200) ∧ Below w.heap.size w W)
    (fun c pre W => (c = .ret ∧ (∃ p ∈ pre, 200 < p.lv) ∧ Boxed W (w.heap.size + 1) 37 (.int .i64 9)) ∧ Below w.heap.size w W)
    (OwnFrom.and (Own.from (fun s A B row hs hg hr => ⟨boxed_own _ _ (fun _ => _) () A B row hs.1 hg hr, boxed_own _ _ (fun _ => _) () A B row hs.2.1 hg hr, boxed_own _ _ (fun _ => _) () A B row hs.2.2.1 hg hr, boxed_own _ _ (fun _ => _) () A B row hs.2.2.2.1 hg hr, boxed_own _ _ (fun _ => _) () A B row hs.2.2.2.2.1 hg hr, hs.2.2.2.2.2⟩) _) (ownFrom_below (Nat.le_refl _) (by omega)))
    (fun c => OwnFrom.and (Own.from (fun s A B row hs hg hr => ⟨hs.1, hs.2.1, boxed_own _ _ (fun _ => _) () A B row hs.2.2 hg hr⟩) _) (ownFrom_below (Nat.le_refl _) (by omega)))
    ⟨⟨x0, x1, by simpa using x2, by simpa using x3, by simpa using x4, by simp⟩, hB0⟩
    (fun x => { tmps := #[.pointer (some ⟨g, o, none⟩), .int .i64 nv, undef, .pointer (some ⟨w.heap.size, 0, none⟩), .pointer (some ⟨w.heap.size + 1, 0, none⟩), .pointer (some ⟨w.heap.size + 1 + 1, 0, none⟩), .pointer (some ⟨w.heap.size + 1 + 1 + 1, 0, none⟩), .pointer (some ⟨w.heap.size + 1 + 1 + 1 + 1, 0, none⟩), .int .i64 x.lv, .pointer (some ⟨x.g, x.o, none⟩), .pointer (some ⟨g, o, none⟩), .func (.func 44) #[] #[.pointer (some ⟨w.heap.size + 1 + 1 + 1 + 1 + 1, 0, none⟩), .pointer (some ⟨w.heap.size + 1 + 1 + 1 + 1 + 1 + 1, 0, none⟩)], .int .i64 x.lv, .pointer (some ⟨x.g, x.o, none⟩), undef, undef, undef, undef, undef, undef, undef, undef, undef, undef, undef, undef, undef, undef, undef, undef, undef, undef, undef, undef, undef, undef, undef, undef, undef, undef, undef, undef, undef, undef, undef, undef, undef, undef, undef, undef, undef, undef, undef, undef, undef, undef, undef, undef, undef, undef, undef], defers := [] }) ?assign ?body ?done ?stop
  case assign =>
    intro l x W K hK
    gi_wp2
    exact hK
  case body =>
    clear x0 x1 x2 x3 x4 x5 x6 hB0 hs0 hf h1
    rintro l pre ⟨lv, g', o', f', hx⟩ W ⟨⟨b0, b1, b2, b3, b4, hlv⟩, hB⟩ _
    have hg' := hx.inS
    obtain ⟨v2, hv2⟩ : ∃ v, (pre.any fun p => broken p.f) = v := ⟨_, rfl⟩
    obtain ⟨v3, hv3⟩ : ∃ v, (pre.any fun p => decide (p.f.op = 2)) = v := ⟨_, rfl⟩
    obtain ⟨v4, hv4⟩ : ∃ v, (pre.any fun p => unknown nv p.f) = v := ⟨_, rfl⟩
    rw [hv2] at b2
    rw [hv3] at b3
    rw [hv4] at b4
    have E0 : EW w.heap.size nv v2 v3 v4 W := ⟨b0, b1, b2, b3, b4⟩
    clear b0 b1 b2 b3 b4
    have HV := Lib.hid (And.intro hv2 (And.intro hv3 hv4))
    clear hv2 hv3 hv4
    have k1 := E0.b1.cell
    have f1 := E0.b1.frozen
    by_cases h200 : 200 < lv
    · have h2 : (200 : Int) < (lv : Int) := by omega
      gi_wp2
      exact ⟨KeepsOthers.setCell _ _ _, ⟨rfl, ⟨⟨lv, g', o', f', hx⟩, by simp, h200⟩, E0.b1.set _⟩, hB.setCell (p := ⟨w.heap.size + 1, 0, none⟩) (by simp) _⟩
    · have h2 : ¬ (200 : Int) < (lv : Int) := by omega
      clear k1 f1
      gi_upto_region 7 with fail
      gi_cut [] from 14 (fun wc => EW w.heap.size nv (v2 || broken f') v3 v4 wc ∧ KeepsOthers W wc ∧ Below w.heap.size W wc)
      case first =>
        have y := hx.below hB
        have y0 := y.c0
        obtain ⟨A, c, y5, yr⟩ := y.c5
        have yn := rd_caps yr
        unfold maxLen at yn
        clear y yr
        have k2 := E0.b2.cell
        have f2 := E0.b2.frozen
        cases v2
        · skip
          refine region_round (S := fun V => V.cell? ⟨g', o', none⟩ = some (.int .i64 f'.op) ∧ V.cell? ⟨g', o' + 5, none⟩ = some (.slice A f'.args.length c)) (by kernel_rfl) (by kernel_rfl) ?_ ?_ (fun hHeld => ?_)
          · rintro ⟨_, _, h⟩
            exact h
          · exact ⟨y0, y5⟩
          refine wpAnyH_ready (rs := [0]) (by kernel_rfl) (by simp) ?_
          refine AllReadyH.cons (o := ⟨some 16, _, _, _, _, _⟩) rfl (fun K hK => ?_) AllReadyH.nil
          go_simp
          refine hK.out _ _ (hHeld) (fun hHeld => ?_)
          clear hK K
          try simp only [Act.put, List.setIfInBounds_toArray, List.set_cons_zero, List.set_cons_succ]
          refine tkH (i := 1) (oi := ⟨some 17, _, _, _, _, _⟩) (v := ?_) ?_ ?_
          rotate_left
          · intro W hSw
            go_simp
            try (first | with_reducible rfl | exact rfl)
          try simp only [Act.put, List.setIfInBounds_toArray, List.set_cons_zero, List.set_cons_succ]
          refine tkH (i := 2) (oi := ⟨some 18, _, _, _, _, _⟩) (v := ?_) ?_ ?_
          rotate_left
          · intro W hSw
            go_simp
            try (first | with_reducible rfl | exact rfl)
          try simp only [Act.put, List.setIfInBounds_toArray, List.set_cons_zero, List.set_cons_succ]
          refine tkH (i := 3) (oi := ⟨some 19, _, _, _, _, _⟩) (v := ?_) ?_ ?_
          rotate_left
          · intro W hSw
            go_simp
            try (first | with_reducible rfl | exact rfl)
          try simp only [Act.put, List.setIfInBounds_toArray, List.set_cons_zero, List.set_cons_succ]
          refine tkH (i := 4) (oi := ⟨some 20, _, _, _, _, _⟩) (v := ?_) ?_ ?_
          rotate_left
          · intro W hSw
            go_simp
            try (first | with_reducible rfl | exact rfl)
          try simp only [Act.put, List.setIfInBounds_toArray, List.set_cons_zero, List.set_cons_succ]
          refine tkH (i := 5) (oi := ⟨some 21, _, _, _, _, _⟩) (v := ?_) ?_ ?_
          rotate_left
          · intro W hSw
            obtain ⟨z0, z5⟩ := hSw
            go_simp
            try (first | with_reducible rfl | exact rfl)
          try simp only [Act.put, List.setIfInBounds_toArray, List.set_cons_zero, List.set_cons_succ]
          refine tkH (i := 6) (oi := ⟨some 22, _, _, _, _, _⟩) (v := ?_) ?_ ?_
          rotate_left
          · intro W hSw
            go_simp
            try (first | with_reducible rfl | exact rfl)
          try simp only [Act.put, List.setIfInBounds_toArray, List.set_cons_zero, List.set_cons_succ]
          refine tkH (i := 7) (oi := ⟨some 23, _, _, _, _, _⟩) (v := ?_) ?_ ?_
          rotate_left
          · intro W hSw
            go_simp
            try (first | with_reducible rfl | exact rfl)
          try simp only [Act.put, List.setIfInBounds_toArray, List.set_cons_zero, List.set_cons_succ]
          refine tkH (i := 8) (oi := ⟨some 24, _, _, _, _, _⟩) (v := ?_) ?_ ?_
          rotate_left
          · intro W hSw
            go_simp
            try (first | with_reducible rfl | exact rfl)
          try simp only [Act.put, List.setIfInBounds_toArray, List.set_cons_zero, List.set_cons_succ]
          refine tkH (i := 9) (oi := ⟨some 25, _, _, _, _, _⟩) (v := ?_) ?_ ?_
          rotate_left
          · intro W hSw
            go_simp
            try (first | with_reducible rfl | exact rfl)
          try simp only [Act.put, List.setIfInBounds_toArray, List.set_cons_zero, List.set_cons_succ]
          refine tkH (i := 10) (oi := ⟨some 26, _, _, _, _, _⟩) (v := ?_) ?_ ?_
          rotate_left
          · intro W hSw
            obtain ⟨z0, z5⟩ := hSw
            go_simp
            try (first | with_reducible rfl | exact rfl)
          try simp only [Act.put, List.setIfInBounds_toArray, List.set_cons_zero, List.set_cons_succ]
          refine wpAnyH_ready (rs := [11]) (by kernel_rfl) (by simp) ?_
          refine AllReadyH.cons (o := ⟨some 27, _, _, _, _, _⟩) rfl (fun K hK => ?_) AllReadyH.nil
          go_simp
          refine (arity_x _ _).mono ?_
          rintro e w2 ⟨rfl, rfl⟩
          refine hK.out _ _ (hHeld) (fun hHeld => ?_)
          clear hK K
          try simp only [Act.put, List.setIfInBounds_toArray, List.set_cons_zero, List.set_cons_succ]
          refine tkH (i := 12) (oi := ⟨some 28, _, _, _, _, _⟩) (v := ?_) ?_ ?_
          rotate_left
          · intro W hSw
            go_simp
            try (first | with_reducible rfl | exact rfl)
          try simp only [Act.put, List.setIfInBounds_toArray, List.set_cons_zero, List.set_cons_succ]
          refine tkH (i := 13) (oi := ⟨some 29, _, _, _, _, _⟩) (v := ?_) ?_ ?_
          rotate_left
          · intro W hSw
            go_simp
            try (first | with_reducible rfl | exact rfl)
          try simp only [Act.put, List.setIfInBounds_toArray, List.set_cons_zero, List.set_cons_succ]
          refine wpAnyH_ready (rs := [14]) (by kernel_rfl) (by simp) ?_
          refine AllReadyH.cons (o := ⟨none, _, _, _, _, _⟩) rfl (fun K hK => ?_) AllReadyH.nil
          go_simp
          refine hK.out _ _ (⟨by show World.cell? (World.setCell _ _ _) _ = _; rw [World.cell?_setCell_far _ _ _ _ (by simp; omega)]; exact y0, by show World.cell? (World.setCell _ _ _) _ = _; rw [World.cell?_setCell_far _ _ _ _ (by simp; omega)]; exact y5⟩) (fun hHeld => ?_)
          clear hK K
          try simp only [Act.put, List.setIfInBounds_toArray, List.set_cons_zero, List.set_cons_succ]
          refine wpAnyH_done (by kernel_rfl) ?_ _
          gi_wp2_with fail
          gi_meet
          case rel =>
            refine ⟨?_, (KeepsOthers.setCell _ _ _).trans (KeepsOthers.drew _), ((Below.refl _ W).setCell (p := ⟨w.heap.size + 1 + 1, 0, none⟩) (by simp; omega) _).drew⟩
            rw [Bool.false_or, ← bne_broken]
            exact (E0.set2 _).drew
        · skip
          refine region_round (S := fun V => V.cell? ⟨g', o', none⟩ = some (.int .i64 f'.op) ∧ V.cell? ⟨g', o' + 5, none⟩ = some (.slice A f'.args.length c)) (by kernel_rfl) (by kernel_rfl) ?_ ?_ (fun hHeld => ?_)
          · rintro ⟨_, _, h⟩
            exact h
          · exact ⟨y0, y5⟩
          refine wpAnyH_ready (rs := [0]) (by kernel_rfl) (by simp) ?_
          refine AllReadyH.cons (o := ⟨some 16, _, _, _, _, _⟩) rfl (fun K hK => ?_) AllReadyH.nil
          go_simp
          refine hK.out _ _ (hHeld) (fun hHeld => ?_)
          clear hK K
          try simp only [Act.put, List.setIfInBounds_toArray, List.set_cons_zero, List.set_cons_succ]
          refine tkH (i := 1) (oi := ⟨some 17, _, _, _, _, _⟩) (v := ?_) ?_ ?_
          rotate_left
          · intro W hSw
            go_simp
            try (first | with_reducible rfl | exact rfl)
          try simp only [Act.put, List.setIfInBounds_toArray, List.set_cons_zero, List.set_cons_succ]
          refine tkU (i := 2) (oi := ⟨some 18, _, _, _, _, _⟩) ?_
          try simp only [Act.put, List.setIfInBounds_toArray, List.set_cons_zero, List.set_cons_succ]
          refine tkU (i := 3) (oi := ⟨some 19, _, _, _, _, _⟩) ?_
          try simp only [Act.put, List.setIfInBounds_toArray, List.set_cons_zero, List.set_cons_succ]
          refine tkU (i := 4) (oi := ⟨some 20, _, _, _, _, _⟩) ?_
          try simp only [Act.put, List.setIfInBounds_toArray, List.set_cons_zero, List.set_cons_succ]
          refine tkU (i := 5) (oi := ⟨some 21, _, _, _, _, _⟩) ?_
          try simp only [Act.put, List.setIfInBounds_toArray, List.set_cons_zero, List.set_cons_succ]
          refine tkU (i := 6) (oi := ⟨some 22, _, _, _, _, _⟩) ?_
          try simp only [Act.put, List.setIfInBounds_toArray, List.set_cons_zero, List.set_cons_succ]
          refine tkU (i := 7) (oi := ⟨some 23, _, _, _, _, _⟩) ?_
          try simp only [Act.put, List.setIfInBounds_toArray, List.set_cons_zero, List.set_cons_succ]
          refine tkU (i := 8) (oi := ⟨some 24, _, _, _, _, _⟩) ?_
          try simp only [Act.put, List.setIfInBounds_toArray, List.set_cons_zero, List.set_cons_succ]
          refine tkU (i := 9) (oi := ⟨some 25, _, _, _, _, _⟩) ?_
          try simp only [Act.put, List.setIfInBounds_toArray, List.set_cons_zero, List.set_cons_succ]
          refine tkU (i := 10) (oi := ⟨some 26, _, _, _, _, _⟩) ?_
          try simp only [Act.put, List.setIfInBounds_toArray, List.set_cons_zero, List.set_cons_succ]
          refine tkU (i := 11) (oi := ⟨some 27, _, _, _, _, _⟩) ?_
          try simp only [Act.put, List.setIfInBounds_toArray, List.set_cons_zero, List.set_cons_succ]
          refine tkU (i := 12) (oi := ⟨some 28, _, _, _, _, _⟩) ?_
          try simp only [Act.put, List.setIfInBounds_toArray, List.set_cons_zero, List.set_cons_succ]
          refine tkH (i := 13) (oi := ⟨some 29, _, _, _, _, _⟩) (v := ?_) ?_ ?_
          rotate_left
          · intro W hSw
            go_simp
            try (first | with_reducible rfl | exact rfl)
          try simp only [Act.put, List.setIfInBounds_toArray, List.set_cons_zero, List.set_cons_succ]
          refine wpAnyH_ready (rs := [14]) (by kernel_rfl) (by simp) ?_
          refine AllReadyH.cons (o := ⟨none, _, _, _, _, _⟩) rfl (fun K hK => ?_) AllReadyH.nil
          go_simp
          refine hK.out _ _ (⟨by show World.cell? (World.setCell _ _ _) _ = _; rw [World.cell?_setCell_far _ _ _ _ (by simp; omega)]; exact y0, by show World.cell? (World.setCell _ _ _) _ = _; rw [World.cell?_setCell_far _ _ _ _ (by simp; omega)]; exact y5⟩) (fun hHeld => ?_)
          clear hK K
          try simp only [Act.put, List.setIfInBounds_toArray, List.set_cons_zero, List.set_cons_succ]
          refine wpAnyH_done (by kernel_rfl) ?_ _
          gi_wp2_with fail
          gi_meet
          case rel => exact ⟨(E0.set2 true).drew, (KeepsOthers.setCell _ _ _).trans (KeepsOthers.drew _), ((Below.refl _ W).setCell (p := ⟨w.heap.size + 1 + 1, 0, none⟩) (by simp; omega) _).drew⟩
      case rest =>
        obtain ⟨E1, hk1, hB1⟩ := hcut
        clear E0
        gi_upto_region 8 with fail
        gi_cut [] from 14 (fun wd => EW w.heap.size nv (v2 || broken f') (v3 || decide (f'.op = 2)) v4 wd ∧ KeepsOthers W wd ∧ Below w.heap.size W wd)
        case first =>
          have y := hx.below (hB.trans hB1)
          have y0 := y.c0
          clear y
          have k3 := E1.b3.cell
          have f3 := E1.b3.frozen
          cases v3
          · gi_wp2_with fail
            gi_meet
            case rel =>
              refine ⟨?_, hk1.trans (KeepsOthers.setCell _ _ _), hB1.setCell (p := ⟨w.heap.size + 1 + 1 + 1, 0, none⟩) (by simp; omega) _⟩
              rw [Bool.false_or, ← beq_dec]
              exact E1.set3 _
          · gi_wp2_with fail
            gi_meet
            case rel => exact ⟨E1.set3 true, hk1.trans (KeepsOthers.setCell _ _ _), hB1.setCell (p := ⟨w.heap.size + 1 + 1 + 1, 0, none⟩) (by simp; omega) _⟩
        case rest =>
          obtain ⟨E2, hk2, hB2⟩ := hcut
          clear E1 hk1 hB1
          gi_upto_region 9 with fail
          have y := hx.below (hB.trans hB2)
          have y0 := y.c0
          have y1 := y.c1
          clear y
          have kn := E2.b0.cell
          have k4 := E2.b4.cell
          have f4 := E2.b4.frozen
          have fin : ∀ aa b, b = (v4 || unknown nv f') → ownPostK (Below w.heap.size)
              (fun pre W => (Boxed W w.heap.size 3 (.int .i64 nv) ∧ Boxed W (w.heap.size + 1) 37 (.int .i64 0) ∧ Boxed W (w.heap.size + 1 + 1) 4 (.bool (pre.any fun p => broken p.f)) ∧ Boxed W (w.heap.size + 1 + 1 + 1) 4 (.bool (pre.any fun p => decide (p.f.op = 2))) ∧
                Boxed W (w.heap.size + 1 + 1 + 1 + 1) 4 (.bool (pre.any fun p => unknown nv p.f)) ∧ ∀ p ∈ pre, p.lv ≤ 200) ∧ Below w.heap.size w W)
              (fun c pre W => (c = .ret ∧ (∃ p ∈ pre, 200 < p.lv) ∧ Boxed W (w.heap.size + 1) 37 (.int .i64 9)) ∧ Below w.heap.size w W)
              (pre ++ [⟨lv, g', o', f', hx⟩]) W .normal aa (wc.setCell ⟨w.heap.size + 1 + 1 + 1 + 1, 0, none⟩ (.bool b)).drew := by
            rintro aa b rfl
            have E3 := (E2.set4 (v4 || unknown nv f')).drew
            have hb3 := (hB2.setCell (p := ⟨w.heap.size + 1 + 1 + 1 + 1, 0, none⟩) (by simp; omega) (.bool (v4 || unknown nv f'))).drew
            obtain ⟨e2, e3, e4⟩ := HV.out
            refine ⟨hk2.trans ((KeepsOthers.setCell _ _ _).trans (KeepsOthers.drew _)), hb3, ⟨E3.b0, E3.b1, ?_, ?_, ?_, ?_⟩, hB.trans hb3⟩
            · rw [List.any_append, e2]; simpa using E3.b2
            · rw [List.any_append, e3]; simpa using E3.b3
            · rw [List.any_append, e4]; simpa using E3.b4
            · intro p hp
              rcases List.mem_append.1 hp with h | h
              · exact hlv p h
              · simp at h; subst h; show lv ≤ 200; omega
          have FIN := Lib.hid fin
          clear fin
          cases v4
          · by_cases h3 : f'.op = 3
            · rw [h3] at y0
              refine region_round (S := fun V => V.cell? ⟨g', o', none⟩ = some (.int .i64 3) ∧ V.cell? ⟨g', o' + 1, none⟩ = some (.int .i64 f'.num) ∧ V.cell? ⟨w.heap.size, 0, none⟩ = some (.int .i64 nv)) (by kernel_rfl) (by kernel_rfl) ?_ ?_ (fun hHeld => ?_)
              · rintro ⟨_, _, h⟩
                exact h
              · exact ⟨y0, y1, kn⟩
              refine wpAnyH_ready (rs := [0]) (by kernel_rfl) (by simp) ?_
              refine AllReadyH.cons (o := ⟨some 38, _, _, _, _, _⟩) rfl (fun K hK => ?_) AllReadyH.nil
              go_simp
              refine hK.out _ _ (hHeld) (fun hHeld => ?_)
              clear hK K
              try simp only [Act.put, List.setIfInBounds_toArray, List.set_cons_zero, List.set_cons_succ]
              refine tkH (i := 1) (oi := ⟨some 39, _, _, _, _, _⟩) (v := ?_) ?_ ?_
              rotate_left
              · intro W hSw
                go_simp
                try (first | with_reducible rfl | exact rfl)
              try simp only [Act.put, List.setIfInBounds_toArray, List.set_cons_zero, List.set_cons_succ]
              refine tkH (i := 2) (oi := ⟨some 40, _, _, _, _, _⟩) (v := ?_) ?_ ?_
              rotate_left
              · intro W hSw
                go_simp
                try (first | with_reducible rfl | exact rfl)
              try simp only [Act.put, List.setIfInBounds_toArray, List.set_cons_zero, List.set_cons_succ]
              refine tkH (i := 3) (oi := ⟨some 41, _, _, _, _, _⟩) (v := ?_) ?_ ?_
              rotate_left
              · intro W hSw
                go_simp
                try (first | with_reducible rfl | exact rfl)
              try simp only [Act.put, List.setIfInBounds_toArray, List.set_cons_zero, List.set_cons_succ]
              refine tkH (i := 4) (oi := ⟨some 42, _, _, _, _, _⟩) (v := ?_) ?_ ?_
              rotate_left
              · intro W hSw
                go_simp
                try (first | with_reducible rfl | exact rfl)
              try simp only [Act.put, List.setIfInBounds_toArray, List.set_cons_zero, List.set_cons_succ]
              refine tkH (i := 5) (oi := ⟨some 43, _, _, _, _, _⟩) (v := ?_) ?_ ?_
              rotate_left
              · intro W hSw
                obtain ⟨z0, z1, zn⟩ := hSw
                go_simp
                try (first | with_reducible rfl | exact rfl)
              try simp only [Act.put, List.setIfInBounds_toArray, List.set_cons_zero, List.set_cons_succ]
              refine tkH (i := 6) (oi := ⟨some 44, _, _, _, _, _⟩) (v := ?_) ?_ ?_
              rotate_left
              · intro W hSw
                obtain ⟨z0, z1, zn⟩ := hSw
                go_simp
                try (first | with_reducible rfl | exact rfl)
              try simp only [Act.put, List.setIfInBounds_toArray, List.set_cons_zero, List.set_cons_succ]
              refine tkH (i := 7) (oi := ⟨some 45, _, _, _, _, _⟩) (v := ?_) ?_ ?_
              rotate_left
              · intro W hSw
                go_simp
                try (first | with_reducible rfl | exact rfl)
              try simp only [Act.put, List.setIfInBounds_toArray, List.set_cons_zero, List.set_cons_succ]
              refine tkH (i := 8) (oi := ⟨some 46, _, _, _, _, _⟩) (v := ?_) ?_ ?_
              rotate_left
              · intro W hSw
                go_simp
                try (first | with_reducible rfl | exact rfl)
              try simp only [Act.put, List.setIfInBounds_toArray, List.set_cons_zero, List.set_cons_succ]
              refine tkH (i := 9) (oi := ⟨some 47, _, _, _, _, _⟩) (v := ?_) ?_ ?_
              rotate_left
              · intro W hSw
                go_simp
                try (first | with_reducible rfl | exact rfl)
              try simp only [Act.put, List.setIfInBounds_toArray, List.set_cons_zero, List.set_cons_succ]
              refine tkH (i := 10) (oi := ⟨some 48, _, _, _, _, _⟩) (v := ?_) ?_ ?_
              rotate_left
              · intro W hSw
                go_simp
                try (first | with_reducible rfl | exact rfl)
              try simp only [Act.put, List.setIfInBounds_toArray, List.set_cons_zero, List.set_cons_succ]
              refine tkH (i := 11) (oi := ⟨some 49, _, _, _, _, _⟩) (v := ?_) ?_ ?_
              rotate_left
              · intro W hSw
                obtain ⟨z0, z1, zn⟩ := hSw
                go_simp
                try (first | with_reducible rfl | exact rfl)
              try simp only [Act.put, List.setIfInBounds_toArray, List.set_cons_zero, List.set_cons_succ]
              refine tkH (i := 12) (oi := ⟨some 50, _, _, _, _, _⟩) (v := ?_) ?_ ?_
              rotate_left
              · intro W hSw
                obtain ⟨z0, z1, zn⟩ := hSw
                go_simp
                try (first | with_reducible rfl | exact rfl)
              try simp only [Act.put, List.setIfInBounds_toArray, List.set_cons_zero, List.set_cons_succ]
              refine wpAnyH_ready (rs := [13]) (by kernel_rfl) (by simp) ?_
              refine AllReadyH.cons (o := ⟨some 51, _, _, _, _, _⟩) rfl (fun K hK => ?_) AllReadyH.nil
              go_simp
              refine (isIndex_x _ _ _).mono ?_
              rintro e w2 ⟨rfl, rfl⟩
              refine hK.out _ _ (hHeld) (fun hHeld => ?_)
              clear hK K
              try simp only [Act.put, List.setIfInBounds_toArray, List.set_cons_zero, List.set_cons_succ]
              refine tkH (i := 14) (oi := ⟨some 52, _, _, _, _, _⟩) (v := ?_) ?_ ?_
              rotate_left
              · intro W hSw
                go_simp
                try (first | with_reducible rfl | exact rfl)
              try simp only [Act.put, List.setIfInBounds_toArray, List.set_cons_zero, List.set_cons_succ]
              refine tkH (i := 15) (oi := ⟨some 53, _, _, _, _, _⟩) (v := ?_) ?_ ?_
              rotate_left
              · intro W hSw
                go_simp
                try (first | with_reducible rfl | exact rfl)
              try simp only [Act.put, List.setIfInBounds_toArray, List.set_cons_zero, List.set_cons_succ]
              refine tkH (i := 16) (oi := ⟨some 54, _, _, _, _, _⟩) (v := ?_) ?_ ?_
              rotate_left
              · intro W hSw
                go_simp
                try (first | with_reducible rfl | exact rfl)
              try simp only [Act.put, List.setIfInBounds_toArray, List.set_cons_zero, List.set_cons_succ]
              refine wpAnyH_ready (rs := [17]) (by kernel_rfl) (by simp) ?_
              refine AllReadyH.cons (o := ⟨none, _, _, _, _, _⟩) rfl (fun K hK => ?_) AllReadyH.nil
              go_simp
              refine hK.out _ _ (⟨by show World.cell? (World.setCell _ _ _) _ = _; rw [World.cell?_setCell_far _ _ _ _ (by simp; omega)]; exact y0, by show World.cell? (World.setCell _ _ _) _ = _; rw [World.cell?_setCell_far _ _ _ _ (by simp; omega)]; exact y1, by show World.cell? (World.setCell _ _ _) _ = _; rw [World.cell?_setCell_far _ _ _ _ (by simp; omega)]; exact kn⟩) (fun hHeld => ?_)
              clear hK K
              try simp only [Act.put, List.setIfInBounds_toArray, List.set_cons_zero, List.set_cons_succ]
              refine wpAnyH_done (by kernel_rfl) ?_ _
              gi_wp2_with fail
              refine FIN.out _ _ ?_
              simp [unknown, h3]
              by_cases hb : f'.num < (nv : Int)
              · simp [hb, show ¬ (nv : Int) ≤ f'.num by omega]
              · simp [hb, show (nv : Int) ≤ f'.num by omega]
            · have e3 : (f'.op == 3) = false := by simpa using h3
              refine region_round (S := fun V => V.cell? ⟨g', o', none⟩ = some (.int .i64 f'.op) ∧ V.cell? ⟨g', o' + 1, none⟩ = some (.int .i64 f'.num) ∧ V.cell? ⟨w.heap.size, 0, none⟩ = some (.int .i64 nv)) (by kernel_rfl) (by kernel_rfl) ?_ ?_ (fun hHeld => ?_)
              · rintro ⟨_, _, h⟩
                exact h
              · exact ⟨y0, y1, kn⟩
              refine wpAnyH_ready (rs := [0]) (by kernel_rfl) (by simp) ?_
              refine AllReadyH.cons (o := ⟨some 38, _, _, _, _, _⟩) rfl (fun K hK => ?_) AllReadyH.nil
              go_simp
              refine hK.out _ _ (hHeld) (fun hHeld => ?_)
              clear hK K
              try simp only [Act.put, List.setIfInBounds_toArray, List.set_cons_zero, List.set_cons_succ]
              refine tkH (i := 1) (oi := ⟨some 39, _, _, _, _, _⟩) (v := ?_) ?_ ?_
              rotate_left
              · intro W hSw
                go_simp
                try (first | with_reducible rfl | exact rfl)
              try simp only [Act.put, List.setIfInBounds_toArray, List.set_cons_zero, List.set_cons_succ]
              refine tkH (i := 2) (oi := ⟨some 40, _, _, _, _, _⟩) (v := ?_) ?_ ?_
              rotate_left
              · intro W hSw
                go_simp
                try (first | with_reducible rfl | exact rfl)
              try simp only [Act.put, List.setIfInBounds_toArray, List.set_cons_zero, List.set_cons_succ]
              refine tkH (i := 3) (oi := ⟨some 41, _, _, _, _, _⟩) (v := ?_) ?_ ?_
              rotate_left
              · intro W hSw
                go_simp
                try (first | with_reducible rfl | exact rfl)
              try simp only [Act.put, List.setIfInBounds_toArray, List.set_cons_zero, List.set_cons_succ]
              refine tkH (i := 4) (oi := ⟨some 42, _, _, _, _, _⟩) (v := ?_) ?_ ?_
              rotate_left
              · intro W hSw
                go_simp
                try (first | with_reducible rfl | exact rfl)
              try simp only [Act.put, List.setIfInBounds_toArray, List.set_cons_zero, List.set_cons_succ]
              refine tkH (i := 5) (oi := ⟨some 43, _, _, _, _, _⟩) (v := ?_) ?_ ?_
              rotate_left
              · intro W hSw
                obtain ⟨z0, z1, zn⟩ := hSw
                go_simp
                try (first | with_reducible rfl | exact rfl)
              try simp only [Act.put, List.setIfInBounds_toArray, List.set_cons_zero, List.set_cons_succ]
              refine tkH (i := 6) (oi := ⟨some 44, _, _, _, _, _⟩) (v := ?_) ?_ ?_
              rotate_left
              · intro W hSw
                obtain ⟨z0, z1, zn⟩ := hSw
                go_simp
                try (first | with_reducible rfl | exact rfl)
              try simp only [Act.put, List.setIfInBounds_toArray, List.set_cons_zero, List.set_cons_succ]
              refine tkH (i := 7) (oi := ⟨some 45, _, _, _, _, _⟩) (v := ?_) ?_ ?_
              rotate_left
              · intro W hSw
                go_simp
                try (first | with_reducible rfl | exact rfl)
              try simp only [Act.put, List.setIfInBounds_toArray, List.set_cons_zero, List.set_cons_succ]
              refine tkU (i := 8) (oi := ⟨some 46, _, _, _, _, _⟩) ?_
              try simp only [Act.put, List.setIfInBounds_toArray, List.set_cons_zero, List.set_cons_succ]
              refine tkU (i := 9) (oi := ⟨some 47, _, _, _, _, _⟩) ?_
              try simp only [Act.put, List.setIfInBounds_toArray, List.set_cons_zero, List.set_cons_succ]
              refine tkU (i := 10) (oi := ⟨some 48, _, _, _, _, _⟩) ?_
              try simp only [Act.put, List.setIfInBounds_toArray, List.set_cons_zero, List.set_cons_succ]
              refine tkU (i := 11) (oi := ⟨some 49, _, _, _, _, _⟩) ?_
              try simp only [Act.put, List.setIfInBounds_toArray, List.set_cons_zero, List.set_cons_succ]
              refine tkU (i := 12) (oi := ⟨some 50, _, _, _, _, _⟩) ?_
              try simp only [Act.put, List.setIfInBounds_toArray, List.set_cons_zero, List.set_cons_succ]
              refine tkU (i := 13) (oi := ⟨some 51, _, _, _, _, _⟩) ?_
              try simp only [Act.put, List.setIfInBounds_toArray, List.set_cons_zero, List.set_cons_succ]
              refine tkU (i := 14) (oi := ⟨some 52, _, _, _, _, _⟩) ?_
              try simp only [Act.put, List.setIfInBounds_toArray, List.set_cons_zero, List.set_cons_succ]
              refine tkH (i := 15) (oi := ⟨some 53, _, _, _, _, _⟩) (v := ?_) ?_ ?_
              rotate_left
              · intro W hSw
                go_simp
                try (first | with_reducible rfl | exact rfl)
              try simp only [Act.put, List.setIfInBounds_toArray, List.set_cons_zero, List.set_cons_succ]
              refine tkH (i := 16) (oi := ⟨some 54, _, _, _, _, _⟩) (v := ?_) ?_ ?_
              rotate_left
              · intro W hSw
                go_simp
                try (first | with_reducible rfl | exact rfl)
              try simp only [Act.put, List.setIfInBounds_toArray, List.set_cons_zero, List.set_cons_succ]
              refine wpAnyH_ready (rs := [17]) (by kernel_rfl) (by simp) ?_
              refine AllReadyH.cons (o := ⟨none, _, _, _, _, _⟩) rfl (fun K hK => ?_) AllReadyH.nil
              go_simp
              refine hK.out _ _ (⟨by show World.cell? (World.setCell _ _ _) _ = _; rw [World.cell?_setCell_far _ _ _ _ (by simp; omega)]; exact y0, by show World.cell? (World.setCell _ _ _) _ = _; rw [World.cell?_setCell_far _ _ _ _ (by simp; omega)]; exact y1, by show World.cell? (World.setCell _ _ _) _ = _; rw [World.cell?_setCell_far _ _ _ _ (by simp; omega)]; exact kn⟩) (fun hHeld => ?_)
              clear hK K
              try simp only [Act.put, List.setIfInBounds_toArray, List.set_cons_zero, List.set_cons_succ]
              refine wpAnyH_done (by kernel_rfl) ?_ _
              gi_wp2_with fail
              refine FIN.out _ _ ?_
              simp [unknown, h3]
          · skip
            refine region_round (S := fun V => V.cell? ⟨g', o', none⟩ = some (.int .i64 f'.op) ∧ V.cell? ⟨g', o' + 1, none⟩ = some (.int .i64 f'.num) ∧ V.cell? ⟨w.heap.size, 0, none⟩ = some (.int .i64 nv)) (by kernel_rfl) (by kernel_rfl) ?_ ?_ (fun hHeld => ?_)
            · rintro ⟨_, _, h⟩
              exact h
            · exact ⟨y0, y1, kn⟩
            refine wpAnyH_ready (rs := [0]) (by kernel_rfl) (by simp) ?_
            refine AllReadyH.cons (o := ⟨some 38, _, _, _, _, _⟩) rfl (fun K hK => ?_) AllReadyH.nil
            go_simp
            refine hK.out _ _ (hHeld) (fun hHeld => ?_)
            clear hK K
            try simp only [Act.put, List.setIfInBounds_toArray, List.set_cons_zero, List.set_cons_succ]
            refine tkH (i := 1) (oi := ⟨some 39, _, _, _, _, _⟩) (v := ?_) ?_ ?_
            rotate_left
            · intro W hSw
              go_simp
              try (first | with_reducible rfl | exact rfl)
            try simp only [Act.put, List.setIfInBounds_toArray, List.set_cons_zero, List.set_cons_succ]
            refine tkU (i := 2) (oi := ⟨some 40, _, _, _, _, _⟩) ?_
            try simp only [Act.put, List.setIfInBounds_toArray, List.set_cons_zero, List.set_cons_succ]
            refine tkU (i := 3) (oi := ⟨some 41, _, _, _, _, _⟩) ?_
            try simp only [Act.put, List.setIfInBounds_toArray, List.set_cons_zero, List.set_cons_succ]
            refine tkU (i := 4) (oi := ⟨some 42, _, _, _, _, _⟩) ?_
            try simp only [Act.put, List.setIfInBounds_toArray, List.set_cons_zero, List.set_cons_succ]
            refine tkU (i := 5) (oi := ⟨some 43, _, _, _, _, _⟩) ?_
            try simp only [Act.put, List.setIfInBounds_toArray, List.set_cons_zero, List.set_cons_succ]
            refine tkU (i := 6) (oi := ⟨some 44, _, _, _, _, _⟩) ?_
            try simp only [Act.put, List.setIfInBounds_toArray, List.set_cons_zero, List.set_cons_succ]
            refine tkU (i := 7) (oi := ⟨some 45, _, _, _, _, _⟩) ?_
            try simp only [Act.put, List.setIfInBounds_toArray, List.set_cons_zero, List.set_cons_succ]
            refine tkU (i := 8) (oi := ⟨some 46, _, _, _, _, _⟩) ?_
            try simp only [Act.put, List.setIfInBounds_toArray, List.set_cons_zero, List.set_cons_succ]
            refine tkU (i := 9) (oi := ⟨some 47, _, _, _, _, _⟩) ?_
            try simp only [Act.put, List.setIfInBounds_toArray, List.set_cons_zero, List.set_cons_succ]
            refine tkU (i := 10) (oi := ⟨some 48, _, _, _, _, _⟩) ?_
            try simp only [Act.put, List.setIfInBounds_toArray, List.set_cons_zero, List.set_cons_succ]
            refine tkU (i := 11) (oi := ⟨some 49, _, _, _, _, _⟩) ?_
            try simp only [Act.put, List.setIfInBounds_toArray, List.set_cons_zero, List.set_cons_succ]
            refine tkU (i := 12) (oi := ⟨some 50, _, _, _, _, _⟩) ?_
            try simp only [Act.put, List.setIfInBounds_toArray, List.set_cons_zero, List.set_cons_succ]
            refine tkU (i := 13) (oi := ⟨some 51, _, _, _, _, _⟩) ?_
            try simp only [Act.put, List.setIfInBounds_toArray, List.set_cons_zero, List.set_cons_succ]
            refine tkU (i := 14) (oi := ⟨some 52, _, _, _, _, _⟩) ?_
            try simp only [Act.put, List.setIfInBounds_toArray, List.set_cons_zero, List.set_cons_succ]
            refine tkU (i := 15) (oi := ⟨some 53, _, _, _, _, _⟩) ?_
            try simp only [Act.put, List.setIfInBounds_toArray, List.set_cons_zero, List.set_cons_succ]
            refine tkH (i := 16) (oi := ⟨some 54, _, _, _, _, _⟩) (v := ?_) ?_ ?_
            rotate_left
            · intro W hSw
              go_simp
              try (first | with_reducible rfl | exact rfl)
            try simp only [Act.put, List.setIfInBounds_toArray, List.set_cons_zero, List.set_cons_succ]
            refine wpAnyH_ready (rs := [17]) (by kernel_rfl) (by simp) ?_
            refine AllReadyH.cons (o := ⟨none, _, _, _, _, _⟩) rfl (fun K hK => ?_) AllReadyH.nil
            go_simp
            refine hK.out _ _ (⟨by show World.cell? (World.setCell _ _ _) _ = _; rw [World.cell?_setCell_far _ _ _ _ (by simp; omega)]; exact y0, by show World.cell? (World.setCell _ _ _) _ = _; rw [World.cell?_setCell_far _ _ _ _ (by simp; omega)]; exact y1, by show World.cell? (World.setCell _ _ _) _ = _; rw [World.cell?_setCell_far _ _ _ _ (by simp; omega)]; exact kn⟩) (fun hHeld => ?_)
            clear hK K
            try simp only [Act.put, List.setIfInBounds_toArray, List.set_cons_zero, List.set_cons_succ]
            refine wpAnyH_done (by kernel_rfl) ?_ _
            gi_wp2_with fail
            exact FIN.out _ _ (by simp)
  case done =>
    clear x0 x1 x2 x3 x4 x5 x6 hB0 hf
    rintro D ys W hD hS ⟨⟨b0, b1, b2, b3, b4, hlv⟩, hB⟩ hK
    have ha : ∀ F : Nat × Fm → Bool, (parts 201 1 f).any F = ys.any fun p => F p.key := fun F => by rw [← hS, List.any_map]; rfl
    have hl : (parts 201 1 f).any (fun p => decide (200 < p.1)) = false := by
      rw [ha]
      simp only [List.any_eq_false, decide_eq_true_eq]
      intro p hp
      have := hlv p hp
      show ¬ 200 < p.lv
      omega
    have he : ferr nv f = if (ys.any fun p => broken p.f) then 2 else if (ys.any fun p => decide (p.f.op = 2)) then 8 else if (ys.any fun p => unknown nv p.f) then 1 else 0 := by
      unfold ferr
      simp only [hl, ha]
      rfl
    obtain ⟨v2, hv2⟩ : ∃ v, (ys.any fun p => broken p.f) = v := ⟨_, rfl⟩
    obtain ⟨v3, hv3⟩ : ∃ v, (ys.any fun p => decide (p.f.op = 2)) = v := ⟨_, rfl⟩
    obtain ⟨v4, hv4⟩ : ∃ v, (ys.any fun p => unknown nv p.f) = v := ⟨_, rfl⟩
    rw [hv2] at b2 he
    rw [hv3] at b3 he
    rw [hv4] at b4 he
    have HE := Lib.hid he
    clear hv2 hv3 hv4 he ha hl hlv hS
    have fin : ∀ (T : Array Value) k, T[4]? = some (.pointer (some ⟨w.heap.size + 1, 0, none⟩)) → k = ferr nv f → ∃ v, (results Try.f21 T).run Try.prog ((W.setCell ⟨w.heap.size + 1, 0, none⟩ (.int .i64 k)).putObj D (.deferred none)) = .ok v ((W.setCell ⟨w.heap.size + 1, 0, none⟩ (.int .i64 k)).putObj D (.deferred none)) ∧ Ending.returned v = .returned (.int .i64 (ferr nv f)) ∧ Below w.heap.size w ((W.setCell ⟨w.heap.size + 1, 0, none⟩ (.int .i64 k)).putObj D (.deferred none)) := by
      rintro T k hT rfl
      have hK' := (KeepsOthers.setCell W ⟨w.heap.size + 1, 0, none⟩ (.int .i64 (ferr nv f))).same D _ hK rfl
      have hc5 := cell_kept (b1.set (.int .i64 (ferr nv f))).cell (grownBy_putObj' _ D (.deferred none)) (fun r e => by cases e; exact ⟨_, hK', rfl⟩)
      refine ⟨.int .i64 (ferr nv f), ?_, rfl, (hB.setCell (p := ⟨w.heap.size + 1, 0, none⟩) (by simp) _).trans (belowK_b (w := w) (Nat.le_refl _) _ D _ _ (by omega) hK' rfl rfl)⟩
      simp [results, Try.f21, go_sem, hc5, hT]
    have FIN := Lib.hid fin
    clear fin
    have k1 := b1.cell
    have f1 := b1.frozen
    have k2 := b2.cell
    have k3 := b3.cell
    have k4 := b4.cell
    have f2 := b2.frozen
    have f3 := b3.frozen
    have f4 := b4.frozen
    cases v2
    · cases v3
      · cases v4
        · skip
          gi_wp2_with fail
          have hK' := (KeepsOthers.setCell W ⟨w.heap.size + 1, 0, none⟩ (.int .i64 0)).same D _ hK rfl
          exact ⟨by simp, .inl ⟨_, _, rfl, run_takeDeferred hK', FIN.out _ 0 rfl (by rw [HE.out]; rfl)⟩⟩
        · skip
          gi_wp2_with fail
          have hK' := (KeepsOthers.setCell W ⟨w.heap.size + 1, 0, none⟩ (.int .i64 1)).same D _ hK rfl
          exact ⟨by simp, .inl ⟨_, _, rfl, run_takeDeferred hK', FIN.out _ 1 rfl (by rw [HE.out]; rfl)⟩⟩
      · skip
        gi_wp2_with fail
        have hK' := (KeepsOthers.setCell W ⟨w.heap.size + 1, 0, none⟩ (.int .i64 8)).same D _ hK rfl
        exact ⟨by simp, .inl ⟨_, _, rfl, run_takeDeferred hK', FIN.out _ 8 rfl (by rw [HE.out]; rfl)⟩⟩
    · skip
      gi_wp2_with fail
      have hK' := (KeepsOthers.setCell W ⟨w.heap.size + 1, 0, none⟩ (.int .i64 2)).same D _ hK rfl
      exact ⟨by simp, .inl ⟨_, _, rfl, run_takeDeferred hK', FIN.out _ 2 rfl (by rw [HE.out]; rfl)⟩⟩
  case stop =>
    clear x0 x1 x2 x3 x4 x5 x6 hB0 hf
    rintro D c pre W hD hS ⟨⟨rfl, ⟨p, hp, hlt⟩, b1⟩, hB⟩ hK
    have he : ferr nv f = 9 := by
      unfold ferr
      simp only
      rw [if_pos]
      obtain ⟨r, hr⟩ := hS
      rw [List.any_eq_true]
      refine ⟨p.key, ?_, ?_⟩
      · rw [← hr]; exact List.mem_append_left _ (List.mem_map_of_mem hp)
      · exact decide_eq_true hlt
    have HE := Lib.hid he
    clear he
    gi_wp2_with fail
    refine ⟨by simp, .inl ⟨_, _, rfl, run_takeDeferred hK, ?_⟩⟩
    have hc5 := cell_kept b1.cell (grownBy_putObj' _ D (.deferred none)) (fun r e => by cases e; exact ⟨_, hK, rfl⟩)
    refine ⟨.int .i64 9, ?_, by rw [HE.out], hB.trans (belowK_b (w := w) (Nat.le_refl _) W D _ _ (by omega) hK rfl rfl)⟩
    simp [results, Try.f21, go_sem, hc5]
end Fx
end Go.Proofs.Ytlhncmnhpnhfhaa
