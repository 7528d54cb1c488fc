/-
  exactpplmake.Src.Type: a built type of finite class.
-/
import Derived.Test.YtklndjkblfncjaaDoorMkI
namespace Go.Proofs.YtklndjkblfncjaaDoor
open Go Go.RowKit
set_option maxRecDepth 20000

theorem TyRd.bound {S : Nat → Prop} {w : World} : ∀ {d : Nat} {T : Ty} {A : Option Addr} {n c : Nat}, TyRd S w d T A n c → TyRd (fun b => S b ∧ b < w.heap.size) w d T A n c
  | 0, _, _, _, _, h => h
  | d + 1, T, A, n, c, h => ⟨h.1, fun i e he => by
    obtain ⟨g, o, A', n', c', hA, hg, hl, hc, hr⟩ := h.2 i e he
    exact ⟨g, o, A', n', c', hA, ⟨hg, hl⟩, hl, hc, hr.bound⟩⟩
theorem VlRd.bound {S : Nat → Prop} {w : World} : ∀ {d : Nat} {V : Vl} {A : Option Addr} {n c : Nat}, VlRd S w d V A n c → VlRd (fun b => S b ∧ b < w.heap.size) w d V A n c
  | 0, _, _, _, _, h => h
  | d + 1, V, A, n, c, h => ⟨h.1, fun i e he => by
    obtain ⟨g, o, A', n', c', hA, hg, hl, hc, hr⟩ := h.2 i e he
    exact ⟨g, o, A', n', c', hA, ⟨hg, hl⟩, hl, hc, hr.bound⟩⟩
/-- A built type comes back, in memory of its own; at most the source's block has changed. -/
def GivesTy (d g : Nat) (w : World) (e : Ending) (w' : World) : Prop := ∃ T A n c, e = .returned (tyV T A n c) ∧ TyRd (fun b => w.heap.size ≤ b) w' d T A n c ∧ Built d T ∧ Src w' g ∧ But g w w'

/-- The five stores of a type into a box that may be written. -/
theorem BoxT.all {w : World} {b : Nat} {x0 x1 x2 x3 x4 : Value} (h : BoxT w b x0 x1 x2 x3 x4) (y0 y1 y2 y3 y4 : Value) :
    BoxT (((((w.setCell ⟨b, 0, none⟩ y0).setCell ⟨b, 1, none⟩ y1).setCell ⟨b, 2, none⟩ y2).setCell ⟨b, 3, none⟩ y3).setCell ⟨b, 4, none⟩ y4) b y0 y1 y2 y3 y4 := by
  obtain ⟨⟨h0, h1, h2, h3, h4⟩, hf⟩ := h
  refine ⟨⟨?_, ?_, ?_, ?_, ?_⟩, fun j => by simp only [World.frozen?_setCell]; exact hf j⟩
  · rw [setCell_other2 _ _ (by omega), setCell_other2 _ _ (by omega), setCell_other2 _ _ (by omega), setCell_other2 _ _ (by omega)]; exact setCell_same2 h0
  · rw [setCell_other2 _ _ (by omega), setCell_other2 _ _ (by omega), setCell_other2 _ _ (by omega)]; refine setCell_same2 (u := x1) ?_; rw [setCell_other2 _ _ (by omega)]; exact h1
  · rw [setCell_other2 _ _ (by omega), setCell_other2 _ _ (by omega)]; refine setCell_same2 (u := x2) ?_; rw [setCell_other2 _ _ (by omega), setCell_other2 _ _ (by omega)]; exact h2
  · rw [setCell_other2 _ _ (by omega)]; refine setCell_same2 (u := x3) ?_; rw [setCell_other2 _ _ (by omega), setCell_other2 _ _ (by omega), setCell_other2 _ _ (by omega)]; exact h3
  · refine setCell_same2 (u := x4) ?_; rw [setCell_other2 _ _ (by omega), setCell_other2 _ _ (by omega), setCell_other2 _ _ (by omega), setCell_other2 _ _ (by omega)]; exact h4
theorem stores5_heap {b k : Nat} {w : World} (hk : k ≠ b) (y0 y1 y2 y3 y4 : Value) :
    (((((w.setCell ⟨b, 0, none⟩ y0).setCell ⟨b, 1, none⟩ y1).setCell ⟨b, 2, none⟩ y2).setCell ⟨b, 3, none⟩ y3).setCell ⟨b, 4, none⟩ y4).heap[k]? = w.heap[k]? := by
  rw [Below.heap_setCell _ _ _ _ hk, Below.heap_setCell _ _ _ _ hk, Below.heap_setCell _ _ _ _ hk, Below.heap_setCell _ _ _ _ hk, Below.heap_setCell _ _ _ _ hk]
theorem TyRd.stores5 {S : Nat → Prop} {w : World} {d b n c : Nat} {T : Ty} {A : Option Addr} (h : TyRd S w d T A n c) (hS : ∀ x, S x → x ≠ b) (y0 y1 y2 y3 y4 : Value) :
    TyRd S (((((w.setCell ⟨b, 0, none⟩ y0).setCell ⟨b, 1, none⟩ y1).setCell ⟨b, 2, none⟩ y2).setCell ⟨b, 3, none⟩ y3).setCell ⟨b, 4, none⟩ y4) d T A n c :=
  h.keep (by simp [World.setCell]) (fun x hx _ => stores5_heap (hS x hx) _ _ _ _ _) fun _ h => h
theorem TyRd.one_leaf {S : Nat → Prop} {w : World} {n c : Nat} {T : Ty} {A : Option Addr} (h : TyRd S w 1 T A n c) (hk : Built 1 T) : T.k = 1 ∨ T.k = 2 := by
  have hn : T.es = [] := by
    cases he : T.es with
    | nil => rfl
    | cons e l => exact (h.deep e (by rw [he]; exact List.mem_cons_self)).elim
  rcases hk.kind with h1 | h1 | h1 | h1
  · exact .inl h1
  · exact .inr h1
  · have := (hk.ok.tuple h1).2.1
    rw [hn] at this; simp at this
  · obtain ⟨_, _, _, e, he, _⟩ := hk.ok.list h1
    rw [hn] at he; cases he
theorem TyOwn.lit (w : World) {base d : Nat} (hb : base ≤ w.heap.size) (x : TyAt) (hx : TyRd (fun b => base ≤ b) w d x.T x.A x.n x.c) :
    TyOwn (w.alloc (.cells #[.int .i64 x.T.k, .int .i64 x.T.lo, .int .i64 x.T.hi, .int .i64 x.T.mx, .slice x.A x.n x.c] 27)) base d (some ⟨w.heap.size, 0, none⟩) 1 1 [x] := by
  refine ⟨⟨rfl, .inr ⟨w.heap.size, 1, #[.int .i64 x.T.k, .int .i64 x.T.lo, .int .i64 x.T.hi, .int .i64 x.T.mx, .slice x.A x.n x.c], rfl, hb, heap_alloc_new w _, Nat.le_refl _, by decide, rfl, by simp [tyRow, TyAt.cells]⟩⟩, fun y hy => ?_⟩
  rw [List.mem_singleton.1 hy]
  have h1 : TyRd (fun b => base ≤ b ∧ b < w.heap.size) w d x.T x.A x.n x.c := hx.bound
  refine (h1.below (allocB _ _)).in fun b hb => ⟨hb.1, fun a ha => ?_⟩
  injection ha with ha
  subst ha
  show w.heap.size ≠ b
  have := hb.2; omega
/-- What the five stores leave, behind everything that was there. -/
theorem stores5 {B b : Nat} {w0 w : World} (h : Below B w0 w) (hb : B ≤ b) (y0 y1 y2 y3 y4 : Value) :
    Below B w0 (((((w.setCell ⟨b, 0, none⟩ y0).setCell ⟨b, 1, none⟩ y1).setCell ⟨b, 2, none⟩ y2).setCell ⟨b, 3, none⟩ y3).setCell ⟨b, 4, none⟩ y4) :=
  ((((h.setCell (p := ⟨b, 0, none⟩) hb y0).setCell (p := ⟨b, 1, none⟩) hb y1).setCell (p := ⟨b, 2, none⟩) hb y2).setCell (p := ⟨b, 3, none⟩) hb y3).setCell (p := ⟨b, 4, none⟩) hb y4

set_option maxHeartbeats 16000000 in
theorem type_step (d : Nat) (h3 : d < 3) (I1 : 0 < d → ∀ g w, Src w g → Calls Tryd.prog 5 #[.pointer (some ⟨g, 0, none⟩), .int .i64 (1 : Int)] w (GivesTy 1 g w))
    (I : 0 < d → ∀ g w, Src w g → Calls Tryd.prog 5 #[.pointer (some ⟨g, 0, none⟩), .int .i64 (d : Int)] w (GivesTy d g w)) (g : Nat) (w : World) (hs : Src w g) :
    Calls Tryd.prog 5 #[.pointer (some ⟨g, 0, none⟩), .int .i64 ((d + 1 : Nat) : Int)] w (GivesTy (d + 1) g w) := by
  obtain ⟨i0, hi, hy0, hy1, hy2⟩ := info_parts info_type
  obtain ⟨v, hv⟩ : ∃ v, w.alloc (.cells #[.int .i64 0, .int .i64 0, .int .i64 0, .int .i64 0, .slice none 0 0] 27) = v := ⟨_, rfl⟩
  have hvs : v.heap.size = w.heap.size + 1 := by rw [← hv]; simp
  have hwv : Below w.heap.size w v := by rw [← hv]; exact allocB _ _
  have hsv := hs.below hwv
  have hgs := hs.size
  have HB0 : Hid (BoxT v w.heap.size (.int .i64 0) (.int .i64 0) (.int .i64 0) (.int .i64 0) (.slice none 0 0)) := by rw [← hv]; exact boxT_new _ _ _ _ _ _ _
  have HBX : Hid (∀ W, But g v W → BoxT W w.heap.size (.int .i64 0) (.int .i64 0) (.int .i64 0) (.int .i64 0) (.slice none 0 0)) := fun W hb => HB0.out.keep (hb.block _ (by omega) (by omega))
  have HV := Lib.hid hv
  have HWV := Lib.hid hwv
  have HVS := Lib.hid hvs
  have HI1 := Lib.hid I1
  have HI0 := Lib.hid I
  have ed : ((d + 1 : Nat) : Int) - 1 = (d : Int) := by omega
  have EWD : Hid (IntKind.i64.wrap (d : Int) = (d : Int)) := by show _ = _; rw [IntKind.wrap_i64]; omega
  clear hv hwv hs hvs I1 I
  go_enter Tryd.func5, Tryd.ntmps5
  go_wp2_with fail
  rw [HV.out]
  refine (N_any g v _ hsv (by omega) (by omega)).mono ?_
  rintro e1 w1 ⟨z1, rfl, ⟨za, zb⟩, hs1, hb1⟩
  by_cases hd0 : d = 0
  · subst hd0
    go_wp2_with fail
    refine (N_any g w1 _ hs1 (by omega) (by omega)).mono ?_
    rintro e2 w2 ⟨z2, rfl, ⟨zc, zd⟩, hs2, hb2⟩
    have HSB : Hid (Src w2 g ∧ But g v w2) := ⟨hs2, hb1.trans hb2⟩
    by_cases k0 : z2 = 0
    · subst k0
      obtain ⟨⟨r0, r1, r2, r3, r4⟩, hf⟩ := HBX.out w2 HSB.out.2
      have f0 := hf 0
      have f1 := hf 1
      have f2 := hf 2
      have f3 := hf 3
      have f4 := hf 4
      have HB5 := Lib.hid (stores5 (Below.refl w.heap.size w2) (Nat.le_refl w.heap.size) (.int .i64 1) (.int .i64 0) (.int .i64 0) (.int .i64 0) (.slice none 0 0))
      clear hf HI0 HI1
      go_wp2
      refine bodyPost_ret (v := tyV (.mk 1 0 0 0 []) none 0 0) (by simp [results, Tryd.results5, go_sem, r0, r1, r2, r3, r4, Ty.k, Ty.lo, Ty.hi, Ty.mx]) rfl ⟨.mk 1 0 0 0 [], none, 0, 0, rfl, TyRd.nil _ _ rfl, built_bool _ (by omega), HSB.out.1.belowB HB5.out hgs, ((But.of_below HWV.out).trans HSB.out.2).onB HB5.out (Nat.le_refl _)⟩
    · rcases (show z2 = 1 ∨ z2 = 2 by omega) with rfl | rfl
      all_goals
        have HR := Lib.hid (range_any g w2 (-2) 3 HSB.out.1 (by omega) (by omega) (by omega))
        clear HI0 HI1 k0
        go_wp2_with fail
        refine HR.out.mono ?_
        rintro e3 w3 ⟨lo, rfl, ⟨lo1, lo2⟩, hs3, hb3⟩
        have HR2 := Lib.hid (N_any g w3 4 hs3 (by omega) (by omega))
        clear HR
        go_wp2_with fail
        refine HR2.out.mono ?_
        rintro e4 w4 ⟨x, rfl, ⟨x1, x2⟩, hs4, hb4⟩
        have HSB4 : Hid (Src w4 g ∧ But g v w4) := ⟨hs4, (HSB.out.2.trans hb3).trans hb4⟩
        obtain ⟨⟨r0, r1, r2, r3, r4⟩, hf⟩ := HBX.out w4 HSB4.out.2
        have f0 := hf 0
        have f1 := hf 1
        have f2 := hf 2
        have f3 := hf 3
        have f4 := hf 4
        have HB5 := Lib.hid (stores5 (Below.refl w.heap.size w4) (Nat.le_refl w.heap.size) (.int .i64 2) (.int .i64 lo) (.int .i64 (lo + x)) (.int .i64 0) (.slice none 0 0))
        clear hf HR2 hs3 hb3 hs4 hb4
        go_wp2
        refine bodyPost_ret (v := tyV (.mk 2 lo (lo + x) 0 []) none 0 0) (by simp [results, Tryd.results5, go_sem, r0, r1, r2, r3, r4, Ty.k, Ty.lo, Ty.hi, Ty.mx]) rfl ⟨.mk 2 lo (lo + x) 0 [], none, 0, 0, rfl, TyRd.nil _ _ rfl, built_int _ (by omega) (by omega), HSB4.out.1.belowB HB5.out hgs, ((But.of_below HWV.out).trans HSB4.out.2).onB HB5.out (Nat.le_refl _)⟩
  · have hd1 : ¬ ((d + 1 : Nat) : Int) ≤ 1 := by omega
    have hdp : 0 < d := by omega
    by_cases hz2 : z1 ≤ 2
    · have HSB : Hid (Src w1 g ∧ But g v w1) := ⟨hs1, hb1⟩
      by_cases k0 : z1 = 0
      · subst k0
        obtain ⟨⟨r0, r1, r2, r3, r4⟩, hf⟩ := HBX.out w1 HSB.out.2
        have f0 := hf 0
        have f1 := hf 1
        have f2 := hf 2
        have f3 := hf 3
        have f4 := hf 4
        have HB5 := Lib.hid (stores5 (Below.refl w.heap.size w1) (Nat.le_refl w.heap.size) (.int .i64 1) (.int .i64 0) (.int .i64 0) (.int .i64 0) (.slice none 0 0))
        clear hf HI0 HI1
        go_wp2
        refine bodyPost_ret (v := tyV (.mk 1 0 0 0 []) none 0 0) (by simp [results, Tryd.results5, go_sem, r0, r1, r2, r3, r4, Ty.k, Ty.lo, Ty.hi, Ty.mx]) rfl ⟨.mk 1 0 0 0 [], none, 0, 0, rfl, TyRd.nil _ _ rfl, built_bool _ (by omega), HSB.out.1.belowB HB5.out hgs, ((But.of_below HWV.out).trans HSB.out.2).onB HB5.out (Nat.le_refl _)⟩
      · rcases (show z1 = 1 ∨ z1 = 2 by omega) with rfl | rfl
        all_goals
          have HR := Lib.hid (range_any g w1 (-2) 3 HSB.out.1 (by omega) (by omega) (by omega))
          clear HI0 HI1 k0
          go_wp2_with fail
          refine HR.out.mono ?_
          rintro e3 w3 ⟨lo, rfl, ⟨lo1, lo2⟩, hs3, hb3⟩
          have HR2 := Lib.hid (N_any g w3 4 hs3 (by omega) (by omega))
          clear HR
          go_wp2_with fail
          refine HR2.out.mono ?_
          rintro e4 w4 ⟨x, rfl, ⟨x1, x2⟩, hs4, hb4⟩
          have HSB4 : Hid (Src w4 g ∧ But g v w4) := ⟨hs4, (HSB.out.2.trans hb3).trans hb4⟩
          obtain ⟨⟨r0, r1, r2, r3, r4⟩, hf⟩ := HBX.out w4 HSB4.out.2
          have f0 := hf 0
          have f1 := hf 1
          have f2 := hf 2
          have f3 := hf 3
          have f4 := hf 4
          have HB5 := Lib.hid (stores5 (Below.refl w.heap.size w4) (Nat.le_refl w.heap.size) (.int .i64 2) (.int .i64 lo) (.int .i64 (lo + x)) (.int .i64 0) (.slice none 0 0))
          clear hf HR2 hs3 hb3 hs4 hb4
          go_wp2
          refine bodyPost_ret (v := tyV (.mk 2 lo (lo + x) 0 []) none 0 0) (by simp [results, Tryd.results5, go_sem, r0, r1, r2, r3, r4, Ty.k, Ty.lo, Ty.hi, Ty.mx]) rfl ⟨.mk 2 lo (lo + x) 0 [], none, 0, 0, rfl, TyRd.nil _ _ rfl, built_int _ (by omega) (by omega), HSB4.out.1.belowB HB5.out hgs, ((But.of_below HWV.out).trans HSB4.out.2).onB HB5.out (Nat.le_refl _)⟩
    · by_cases hz4 : z1 ≤ 4
      · have HSB : Hid (Src w1 g ∧ But g v w1) := ⟨hs1, hb1⟩
        have HI := Lib.hid (HI0.out hdp)
        obtain ⟨u, hu⟩ : ∃ u, w1.alloc (.cells #[.int .i64 5, .int .i64 0, .int .i64 0, .int .i64 0, .slice none 0 0] 27) = u := ⟨_, rfl⟩
        obtain ⟨p, hp⟩ : ∃ p, w1.heap.size = p := ⟨_, rfl⟩
        have hwu : Below w1.heap.size w1 u := by rw [← hu]; exact allocB _ _
        have hus : u.heap.size = p + 1 := by rw [← hu, ← hp]; simp
        have HU := Lib.hid hu
        have HP0 := Lib.hid hp
        have hvp : v.heap.size ≤ p := by rw [← hp]; exact hb1.size
        have hgv : g < v.heap.size := by have := HVS.out; omega
        have hbu : BoxT u p (.int .i64 5) (.int .i64 0) (.int .i64 0) (.int .i64 0) (.slice none 0 0) := by rw [← hu, ← hp]; exact boxT_new _ _ _ _ _ _ _
        have HBU := Lib.hid hbu
        have hsu := hs1.below hwu
        have hbvu := hb1.trans (But.of_below (g := g) hwu)
        have HR := Lib.hid (range_any g u 2 3 hsu (by omega) (by omega) (by omega))
        clear hwu hu hp HI0 HI1 hs1 hb1 hbu
        have hz34 : z1 = 3 ∨ z1 = 4 := by omega
        rcases hz34 with rfl | rfl
        all_goals
          go_wp2_with fail
          rw [HU.out, HP0.out]
          refine HR.out.mono ?_
          rintro e3 w3 ⟨rr, rfl, ⟨rr1, rr2⟩, hs3, hb3⟩
          have HINV : Hid (TInv g p d v w3 (.slice none 0 0) none 0 0 []) := by
            refine ⟨HBU.out.keep (hb3.block p (by omega) (by omega)), TyOwn.nil _ _ _, fun x hx => (by cases hx), hs3, hbvu.trans hb3, by have := hb3.size; omega, hvp, hgv⟩
          clear HR hs3 hb3 hbvu hsu
          go_wp2
          go_loopw [8] (fun iv wr => ∃ (r : Int) (Q : Option Addr) (n q : Nat) (l : List TyAt), iv = .int .i64 r ∧ (0 ≤ r ∧ 2 ≤ r + n ∧ r + n ≤ 3) ∧ Hid (TInv g p d v wr (.slice Q n q) Q n q l)) (fun iv _ => (intOf iv).toNat)
          case atStart => exact ⟨rr, none, 0, 0, [], rfl, by omega, HINV⟩
          case round =>
            obtain ⟨r, Q, n, q, l, rfl, hr, INV⟩ := hrel
            by_cases hr0 : 0 < r
            · have HP := Lib.hid INV.out.boxAt
              have HSR := Lib.hid INV.out.src.drew
              have hk := But.refl g wr.drew
              go_wp2_with fail
              refine wp_region_held_drew (S := fun _ => True) (by kernel_rfl) trivial (fun hHeld => ?_)
              refine tkH (i := 0) (oi := ⟨some 40, _, _, _, _, _⟩) (v := ?_) ?_ ?_
              rotate_left
              · intro w hSw; go_simp; try with_reducible rfl
              try simp only [Act.put, List.setIfInBounds_toArray, List.set_cons_zero, List.set_cons_succ]
              refine tkH (i := 2) (oi := ⟨some 42, _, _, _, _, _⟩) (v := ?_) ?_ ?_
              rotate_left
              · intro w hSw; go_simp; try with_reducible rfl
              try simp only [Act.put, List.setIfInBounds_toArray, List.set_cons_zero, List.set_cons_succ]
              refine tkH (i := 3) (oi := ⟨some 43, _, _, _, _, _⟩) (v := ?_) ?_ ?_
              rotate_left
              · intro w hSw; go_simp; try with_reducible rfl
              try simp only [Act.put, List.setIfInBounds_toArray, List.set_cons_zero, List.set_cons_succ]
              refine tkH (i := 4) (oi := ⟨some 44, _, _, _, _, _⟩) (v := ?_) ?_ ?_
              rotate_left
              · intro w hSw; go_simp; try with_reducible rfl
              try simp only [Act.put, List.setIfInBounds_toArray, List.set_cons_zero, List.set_cons_succ]
              refine wpAnyH_ready (rs := [1, 5]) (by kernel_rfl) (by simp) ?_
              refine AllReadyH.cons (o := ⟨some 41, _, _, _, _, _⟩) rfl (fun K hK => ?_) (AllReadyH.cons (o := ⟨some 45, _, _, _, _, _⟩) rfl (fun K hK => ?_) AllReadyH.nil)
              · have q4 := (HP.out _ hk).1.2.2.2.2
                go_simp
                refine hK.out _ _ trivial (fun hHeld => ?_)
                clear hK K hHeld
                try simp only [Act.put, List.setIfInBounds_toArray, List.set_cons_zero, List.set_cons_succ]
                refine wpAnyH_ready (rs := [5]) (by kernel_rfl) (by simp) ?_
                refine AllReadyH.cons (o := ⟨some 45, _, _, _, _, _⟩) rfl (fun K hK => ?_) AllReadyH.nil
                go_simp
                rw [EWD.out]
                go_at_call 5
                (with_reducible refine (HI.out _ _ HSR.out).mono ?_)
                rintro e1 w1 ⟨T1, A1, n1, c1, rfl, hrd1, hT1, hs1, hb1⟩
                replace hk := hk.trans hb1
                go_wp2_with fail
                refine hK.out _ _ trivial (fun hHeld => ?_)
                clear hK K hHeld
                try simp only [Act.put, List.setIfInBounds_toArray, List.set_cons_zero, List.set_cons_succ]
                refine wpAnyH_ready (rs := [6]) (by kernel_rfl) (by simp) ?_
                refine AllReadyH.cons (o := ⟨some 46, _, _, _, _, _⟩) rfl (fun K hK => ?_) AllReadyH.nil
                go_simp
                have hk := hk.alloc (.cells #[.int .i64 T1.k, .int .i64 T1.lo, .int .i64 T1.hi, .int .i64 T1.mx, .slice A1 n1 c1] 27)
                refine hK.out _ _ trivial (fun hHeld => ?_)
                clear hK K hHeld
                try simp only [Act.put, List.setIfInBounds_toArray, List.set_cons_zero, List.set_cons_succ]
                refine wpAnyH_ready (rs := [7]) (by kernel_rfl) (by simp) ?_
                refine AllReadyH.cons (o := ⟨some 47, _, _, _, _, _⟩) rfl (fun K hK => ?_) AllReadyH.nil
                obtain ⟨hOWx, hNW, _⟩ := INV.out.tail (x := ⟨T1, A1, n1, c1⟩) hrd1 hb1
                have hsz1 := hOWx
                refine step_append_lies _ rfl _ _ 25 rfl (p + 1) 27 i0 (.agg #[.int .i64 0, .int .i64 0, .int .i64 0, .int .i64 0, .slice none 0 0]) 5 56 Tryd.underlying25 hi hy0 hy1 hy2 rfl (by decide) (.slice Q n q) n (tyRow l) rfl hOWx.row ⟨w1.heap.size, 0, none⟩ 1 1 (TyAt.mk T1 A1 n1 c1).cells rfl rfl hNW (TyAt.oneCell _) (by decide) (by unfold maxLen; omega) (by omega) (by rw [World.size_alloc]; have := INV.out.size; have h2 : wr.heap.size ≤ w1.heap.size := hb1.size; omega) _ rfl ?_
                intro g3 c3 w3 hown hgrow hat hlt3
                have hKE := Lib.hid (INV.out.added (x := ⟨T1, A1, n1, c1⟩) hrd1 hT1 hs1 hb1 hown hgrow (by rw [World.size_alloc] at hat; exact hat))
                clear hown hgrow hat hOWx hNW hrd1 hT1 hs1 hb1 hk hsz1
                refine hK.out _ _ trivial (fun hHeld => ?_)
                clear hK K hHeld
                try simp only [Act.put, List.setIfInBounds_toArray, List.set_cons_zero, List.set_cons_succ]
                refine tkH (i := 8) (oi := ⟨some 48, _, _, _, _, _⟩) (v := ?_) ?_ ?_
                rotate_left
                · intro w hSw; go_simp; try with_reducible rfl
                try simp only [Act.put, List.setIfInBounds_toArray, List.set_cons_zero, List.set_cons_succ]
                refine wpAnyH_ready (rs := [9]) (by kernel_rfl) (by simp) ?_
                refine AllReadyH.cons (o := ⟨none, _, _, _, _, _⟩) rfl (fun K hK => ?_) AllReadyH.nil
                have x4 := hKE.out.box.1.2.2.2.2
                have f4 := hKE.out.box.2 4
                go_simp
                refine hK.out _ _ trivial (fun hHeld => ?_)
                clear hK K hHeld x4 f4
                try simp only [Act.put, List.setIfInBounds_toArray, List.set_cons_zero, List.set_cons_succ]
                refine wpAnyH_done (by kernel_rfl) ?_ _
                have HEND := Lib.hid (hKE.out.stored (.slice (some ⟨g3, 0, none⟩) (n + 1) c3))
                clear hKE
                go_wp2
                go_roundw
                case rel => exact ⟨r - 1, _, n + 1, _, _, rfl, by omega, HEND⟩
                case measure => simp [intOf] <;> omega
              · go_simp
                rw [EWD.out]
                go_at_call 5
                (with_reducible refine (HI.out _ _ HSR.out).mono ?_)
                rintro e1 w1 ⟨T1, A1, n1, c1, rfl, hrd1, hT1, hs1, hb1⟩
                replace hk := hk.trans hb1
                go_wp2_with fail
                refine hK.out _ _ trivial (fun hHeld => ?_)
                clear hK K hHeld
                try simp only [Act.put, List.setIfInBounds_toArray, List.set_cons_zero, List.set_cons_succ]
                refine wpAnyH_ready (rs := [1, 6]) (by kernel_rfl) (by simp) ?_
                refine AllReadyH.cons (o := ⟨some 41, _, _, _, _, _⟩) rfl (fun K hK => ?_) (AllReadyH.cons (o := ⟨some 46, _, _, _, _, _⟩) rfl (fun K hK => ?_) AllReadyH.nil)
                · have q4 := (HP.out _ hk).1.2.2.2.2
                  go_simp
                  refine hK.out _ _ trivial (fun hHeld => ?_)
                  clear hK K hHeld
                  try simp only [Act.put, List.setIfInBounds_toArray, List.set_cons_zero, List.set_cons_succ]
                  refine wpAnyH_ready (rs := [6]) (by kernel_rfl) (by simp) ?_
                  refine AllReadyH.cons (o := ⟨some 46, _, _, _, _, _⟩) rfl (fun K hK => ?_) AllReadyH.nil
                  go_simp
                  have hk := hk.alloc (.cells #[.int .i64 T1.k, .int .i64 T1.lo, .int .i64 T1.hi, .int .i64 T1.mx, .slice A1 n1 c1] 27)
                  refine hK.out _ _ trivial (fun hHeld => ?_)
                  clear hK K hHeld
                  try simp only [Act.put, List.setIfInBounds_toArray, List.set_cons_zero, List.set_cons_succ]
                  refine wpAnyH_ready (rs := [7]) (by kernel_rfl) (by simp) ?_
                  refine AllReadyH.cons (o := ⟨some 47, _, _, _, _, _⟩) rfl (fun K hK => ?_) AllReadyH.nil
                  obtain ⟨hOWx, hNW, _⟩ := INV.out.tail (x := ⟨T1, A1, n1, c1⟩) hrd1 hb1
                  have hsz1 := hOWx
                  refine step_append_lies _ rfl _ _ 25 rfl (p + 1) 27 i0 (.agg #[.int .i64 0, .int .i64 0, .int .i64 0, .int .i64 0, .slice none 0 0]) 5 56 Tryd.underlying25 hi hy0 hy1 hy2 rfl (by decide) (.slice Q n q) n (tyRow l) rfl hOWx.row ⟨w1.heap.size, 0, none⟩ 1 1 (TyAt.mk T1 A1 n1 c1).cells rfl rfl hNW (TyAt.oneCell _) (by decide) (by unfold maxLen; omega) (by omega) (by rw [World.size_alloc]; have := INV.out.size; have h2 : wr.heap.size ≤ w1.heap.size := hb1.size; omega) _ rfl ?_
                  intro g3 c3 w3 hown hgrow hat hlt3
                  have hKE := Lib.hid (INV.out.added (x := ⟨T1, A1, n1, c1⟩) hrd1 hT1 hs1 hb1 hown hgrow (by rw [World.size_alloc] at hat; exact hat))
                  clear hown hgrow hat hOWx hNW hrd1 hT1 hs1 hb1 hk hsz1
                  refine hK.out _ _ trivial (fun hHeld => ?_)
                  clear hK K hHeld
                  try simp only [Act.put, List.setIfInBounds_toArray, List.set_cons_zero, List.set_cons_succ]
                  refine tkH (i := 8) (oi := ⟨some 48, _, _, _, _, _⟩) (v := ?_) ?_ ?_
                  rotate_left
                  · intro w hSw; go_simp; try with_reducible rfl
                  try simp only [Act.put, List.setIfInBounds_toArray, List.set_cons_zero, List.set_cons_succ]
                  refine wpAnyH_ready (rs := [9]) (by kernel_rfl) (by simp) ?_
                  refine AllReadyH.cons (o := ⟨none, _, _, _, _, _⟩) rfl (fun K hK => ?_) AllReadyH.nil
                  have x4 := hKE.out.box.1.2.2.2.2
                  have f4 := hKE.out.box.2 4
                  go_simp
                  refine hK.out _ _ trivial (fun hHeld => ?_)
                  clear hK K hHeld x4 f4
                  try simp only [Act.put, List.setIfInBounds_toArray, List.set_cons_zero, List.set_cons_succ]
                  refine wpAnyH_done (by kernel_rfl) ?_ _
                  have HEND := Lib.hid (hKE.out.stored (.slice (some ⟨g3, 0, none⟩) (n + 1) c3))
                  clear hKE
                  go_wp2
                  go_roundw
                  case rel => exact ⟨r - 1, _, n + 1, _, _, rfl, by omega, HEND⟩
                  case measure => simp [intOf] <;> omega
                · go_simp
                  have hk := hk.alloc (.cells #[.int .i64 T1.k, .int .i64 T1.lo, .int .i64 T1.hi, .int .i64 T1.mx, .slice A1 n1 c1] 27)
                  refine hK.out _ _ trivial (fun hHeld => ?_)
                  clear hK K hHeld
                  try simp only [Act.put, List.setIfInBounds_toArray, List.set_cons_zero, List.set_cons_succ]
                  refine wpAnyH_ready (rs := [1]) (by kernel_rfl) (by simp) ?_
                  refine AllReadyH.cons (o := ⟨some 41, _, _, _, _, _⟩) rfl (fun K hK => ?_) AllReadyH.nil
                  have q4 := (HP.out _ hk).1.2.2.2.2
                  go_simp
                  refine hK.out _ _ trivial (fun hHeld => ?_)
                  clear hK K hHeld
                  try simp only [Act.put, List.setIfInBounds_toArray, List.set_cons_zero, List.set_cons_succ]
                  refine wpAnyH_ready (rs := [7]) (by kernel_rfl) (by simp) ?_
                  refine AllReadyH.cons (o := ⟨some 47, _, _, _, _, _⟩) rfl (fun K hK => ?_) AllReadyH.nil
                  obtain ⟨hOWx, hNW, _⟩ := INV.out.tail (x := ⟨T1, A1, n1, c1⟩) hrd1 hb1
                  have hsz1 := hOWx
                  refine step_append_lies _ rfl _ _ 25 rfl (p + 1) 27 i0 (.agg #[.int .i64 0, .int .i64 0, .int .i64 0, .int .i64 0, .slice none 0 0]) 5 56 Tryd.underlying25 hi hy0 hy1 hy2 rfl (by decide) (.slice Q n q) n (tyRow l) rfl hOWx.row ⟨w1.heap.size, 0, none⟩ 1 1 (TyAt.mk T1 A1 n1 c1).cells rfl rfl hNW (TyAt.oneCell _) (by decide) (by unfold maxLen; omega) (by omega) (by rw [World.size_alloc]; have := INV.out.size; have h2 : wr.heap.size ≤ w1.heap.size := hb1.size; omega) _ rfl ?_
                  intro g3 c3 w3 hown hgrow hat hlt3
                  have hKE := Lib.hid (INV.out.added (x := ⟨T1, A1, n1, c1⟩) hrd1 hT1 hs1 hb1 hown hgrow (by rw [World.size_alloc] at hat; exact hat))
                  clear hown hgrow hat hOWx hNW hrd1 hT1 hs1 hb1 hk hsz1
                  refine hK.out _ _ trivial (fun hHeld => ?_)
                  clear hK K hHeld
                  try simp only [Act.put, List.setIfInBounds_toArray, List.set_cons_zero, List.set_cons_succ]
                  refine tkH (i := 8) (oi := ⟨some 48, _, _, _, _, _⟩) (v := ?_) ?_ ?_
                  rotate_left
                  · intro w hSw; go_simp; try with_reducible rfl
                  try simp only [Act.put, List.setIfInBounds_toArray, List.set_cons_zero, List.set_cons_succ]
                  refine wpAnyH_ready (rs := [9]) (by kernel_rfl) (by simp) ?_
                  refine AllReadyH.cons (o := ⟨none, _, _, _, _, _⟩) rfl (fun K hK => ?_) AllReadyH.nil
                  have x4 := hKE.out.box.1.2.2.2.2
                  have f4 := hKE.out.box.2 4
                  go_simp
                  refine hK.out _ _ trivial (fun hHeld => ?_)
                  clear hK K hHeld x4 f4
                  try simp only [Act.put, List.setIfInBounds_toArray, List.set_cons_zero, List.set_cons_succ]
                  refine wpAnyH_done (by kernel_rfl) ?_ _
                  have HEND := Lib.hid (hKE.out.stored (.slice (some ⟨g3, 0, none⟩) (n + 1) c3))
                  clear hKE
                  go_wp2
                  go_roundw
                  case rel => exact ⟨r - 1, _, n + 1, _, _, rfl, by omega, HEND⟩
                  case measure => simp [intOf] <;> omega
            · obtain rfl : r = 0 := by omega
              obtain ⟨⟨q0, q1, q2, q3, q4⟩, _⟩ := INV.out.box
              obtain ⟨⟨r0, r1, r2, r3, r4⟩, hf⟩ := HBX.out wr INV.out.but
              have f0 := hf 0
              have f1 := hf 1
              have f2 := hf 2
              have f3 := hf 3
              have f4 := hf 4
              have HB5 := Lib.hid (stores5 (Below.refl w.heap.size wr) (Nat.le_refl w.heap.size) (.int .i64 5) (.int .i64 0) (.int .i64 0) (.int .i64 0) (.slice Q n q))
              have hrd := INV.out.own.rd (.mk 5 0 0 0 (l.map TyAt.T)) rfl
              have HRD := Lib.hid (hrd.stores5 (b := w.heap.size) (fun x hx => by have := HVS.out; omega) (.int .i64 5) (.int .i64 0) (.int .i64 0) (.int .i64 0) (.slice Q n q))
              have hln := INV.out.own.len
              have HBT : Hid (Built (d + 1) (.mk 5 0 0 0 (l.map TyAt.T))) := built_tuple d hdp (by rw [List.length_map]; omega) (by rw [List.length_map]; omega) fun e he => by
                obtain ⟨x, hx, rfl⟩ := List.mem_map.1 he
                exact INV.out.good x hx
              clear hf hrd hln
              go_wp2
              refine bodyPost_ret (v := tyV (.mk 5 0 0 0 (l.map TyAt.T)) Q n q) (by simp [results, Tryd.results5, go_sem, r0, r1, r2, r3, r4, Ty.k, Ty.lo, Ty.hi, Ty.mx]) rfl ⟨.mk 5 0 0 0 (l.map TyAt.T), Q, n, q, rfl, HRD.out.in fun b hb => by have := HVS.out; omega, HBT.out, INV.out.src.belowB HB5.out hgs, ((But.of_below HWV.out).trans INV.out.but).onB HB5.out (Nat.le_refl _)⟩
      · obtain rfl : z1 = 5 := by omega
        have HI := Lib.hid (HI1.out hdp)
        have HR := Lib.hid (range_any g w1 1 2 hs1 (by omega) (by omega) (by omega))
        clear HI0 HI1
        go_wp2_with fail
        refine HR.out.mono ?_
        rintro e3 w3 ⟨m, rfl, ⟨m1, m2⟩, hs3, hb3⟩
        have HR2 := Lib.hid (HI.out g w3 hs3)
        clear HR HI hs1 hs3
        go_wp2_with fail
        refine HR2.out.mono ?_
        rintro e4 w4 ⟨T1, A1, n1, c1, rfl, hrd1, hT1, hs4, hb4⟩
        have hbv := (hb1.trans hb3).trans hb4
        have hsv4 : v.heap.size ≤ w3.heap.size := (hb1.trans hb3).size
        have hO := TyOwn.lit w4 (base := v.heap.size) (d := d) hbv.size ⟨T1, A1, n1, c1⟩ ((hrd1.in fun b hb => by omega).le hdp)
        obtain ⟨u, hu⟩ : ∃ u, w4.alloc (.cells #[.int .i64 T1.k, .int .i64 T1.lo, .int .i64 T1.hi, .int .i64 T1.mx, .slice A1 n1 c1] 27) = u := ⟨_, rfl⟩
        have hwu : Below w4.heap.size w4 u := by rw [← hu]; exact allocB _ _
        have hO2 : TyOwn u v.heap.size d (some ⟨w4.heap.size, 0, none⟩) 1 1 [⟨T1, A1, n1, c1⟩] := by rw [← hu]; exact hO
        have hbu := hbv.trans (But.of_below (g := g) hwu)
        have hsu := hs4.below hwu
        obtain ⟨⟨r0, r1, r2, r3, r4⟩, hf⟩ := HBX.out u hbu
        have f0 := hf 0
        have f1 := hf 1
        have f2 := hf 2
        have f3 := hf 3
        have f4 := hf 4
        have HB5 := Lib.hid (stores5 (Below.refl w.heap.size u) (Nat.le_refl w.heap.size) (.int .i64 6) (.int .i64 0) (.int .i64 0) (.int .i64 m) (.slice (some ⟨w4.heap.size, 0, none⟩) 1 1))
        have HRD := Lib.hid ((hO2.rd (.mk 6 0 0 m [T1]) rfl).stores5 (b := w.heap.size) (fun x hx => by have := HVS.out; omega) (.int .i64 6) (.int .i64 0) (.int .i64 0) (.int .i64 m) (.slice (some ⟨w4.heap.size, 0, none⟩) 1 1))
        have HBT : Hid (Built (d + 1) (.mk 6 0 0 m [T1])) := built_list d hdp h3 m1 m2 hT1 (hrd1.one_leaf hT1)
        have HSB : Hid (Src u g ∧ But g v u) := ⟨hsu, hbu⟩
        subst hu
        clear hf hO hO2 hwu hbu hsu hbv hsv4 HR2 hrd1 hT1 hs4 hb4 hb3 hb1
        go_wp2
        generalize w4.alloc (.cells #[.int .i64 T1.k, .int .i64 T1.lo, .int .i64 T1.hi, .int .i64 T1.mx, .slice A1 n1 c1] 27) = u at *
        refine bodyPost_ret (v := tyV (.mk 6 0 0 m [T1]) (some ⟨w4.heap.size, 0, none⟩) 1 1) (by simp [results, Tryd.results5, go_sem, r0, r1, r2, r3, r4, Ty.k, Ty.lo, Ty.hi, Ty.mx]) rfl ⟨.mk 6 0 0 m [T1], some ⟨w4.heap.size, 0, none⟩, 1, 1, rfl, HRD.out.in fun b hb => by have := HVS.out; omega, HBT.out, HSB.out.1.belowB HB5.out hgs, ((But.of_below HWV.out).trans HSB.out.2).onB HB5.out (Nat.le_refl _)⟩

theorem type_x : ∀ d : Nat, 1 ≤ d → d ≤ 3 → ∀ g w, Src w g → Calls Tryd.prog 5 #[.pointer (some ⟨g, 0, none⟩), .int .i64 (d : Int)] w (GivesTy d g w) := by
  have h1 : ∀ g w, Src w g → Calls Tryd.prog 5 #[.pointer (some ⟨g, 0, none⟩), .int .i64 (1 : Int)] w (GivesTy 1 g w) :=
    fun g w hs => type_step 0 (by omega) (fun h => absurd h (by omega)) (fun h => absurd h (by omega)) g w hs
  have h2 : ∀ g w, Src w g → Calls Tryd.prog 5 #[.pointer (some ⟨g, 0, none⟩), .int .i64 (2 : Int)] w (GivesTy 2 g w) :=
    fun g w hs => type_step 1 (by omega) (fun _ => h1) (fun _ => h1) g w hs
  intro d hd1 hd3
  match d, hd1, hd3 with
  | 1, _, _ => exact h1
  | 2, _, _ => exact h2
  | 3, _, _ => exact fun g w hs => type_step 2 (by omega) (fun _ => h1) (fun _ => h2) g w hs
end Go.Proofs.YtklndjkblfncjaaDoor

