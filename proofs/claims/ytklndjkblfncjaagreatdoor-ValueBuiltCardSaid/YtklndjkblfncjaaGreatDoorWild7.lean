/-
  exactpplmake.Src.Wild: what holds while the type is changed.
  exactpplmake.Src.Wild: a built type in which one thing may be wrong.
-/
import Derived.Test.YtklndjkblfncjaaGreatDoorMk7
import Derived.Test.YtklndjkblfncjaaGreatDoorSome0
namespace Go.Proofs.YtklndjkblfncjaaGreatDoor
open Go Go.RowKit
set_option maxRecDepth 20000

theorem TyRd.and {S S' : Nat → Prop} {w : World} : ∀ {d : Nat} {T : Ty} {A : Option Addr} {n c : Nat}, TyRd S w d T A n c → TyRd S' w d T A n c → TyRd (fun b => S b ∧ S' b) w d T A n c
  | 0, _, _, _, _, h, _ => h
  | d + 1, T, A, n, c, h, h' => ⟨h.1, fun i e he => by
    obtain ⟨g, o, A', n', c', hA, hg, hl, hc, hr⟩ := h.2 i e he
    obtain ⟨g2, o2, A2, n2, c2, hA2, hg2, hl2, hc2, hr2⟩ := h'.2 i e he
    rw [hA] at hA2
    injection hA2 with hA2
    injection hA2 with e1 e2
    subst e1
    subst e2
    have e3 := hc.c4.symm.trans hc2.c4
    injection e3 with e3
    injection e3 with e4 e5 e6
    subst e4
    subst e5
    subst e6
    exact ⟨g, o, A', n', c', hA, ⟨hg, hg2⟩, hl, hc, hr.and hr2⟩⟩
theorem Tame.le : ∀ {d d' : Nat} {T : Ty}, Tame d T → d ≤ d' → Tame d' T
  | 0, _, _, h, _ => h.elim
  | d + 1, d', T, h, hd => by
    obtain ⟨m, rfl⟩ : ∃ m, d' = m + 1 := ⟨d' - 1, by omega⟩
    exact ⟨h.1, fun e he => (h.2 e he).le (by omega)⟩
theorem Built.four {d : Nat} {T : Ty} (h : Built (d + 1) T) : T.es.length ≤ 4 ∧ (-1000 ≤ T.lo ∧ T.lo ≤ 1000 ∧ -1000 ≤ T.hi ∧ T.hi ≤ 1000 ∧ 0 ≤ T.mx ∧ T.mx ≤ 4) := by
  rcases h.kind with hk | hk | hk | hk
  · obtain ⟨h1, h2, h3, h4⟩ := h.ok.leaf (by omega)
    rw [h4]; simp; omega
  · obtain ⟨⟨h1, h2, h3⟩, h5, h4⟩ := h.ok.int hk
    rw [h4]; simp; omega
  · obtain ⟨hz, h2, h4, hels⟩ := h.ok.tuple hk
    omega
  · obtain ⟨hz, h1, h4, x, hx, hox, _⟩ := h.ok.list hk
    rw [hx]; simp; omega
theorem Built.tame {d : Nat} {T : Ty} (h : Built d T) (hd : deepOk d T) : Tame d T := tame_of hd h.ok

theorem BoxT.set0 {w : World} {b : Nat} {x0 x1 x2 x3 x4 : Value} (h : BoxT w b x0 x1 x2 x3 x4) (y : Value) : BoxT (w.setCell ⟨b, 0, none⟩ y) b y x1 x2 x3 x4 := by
  obtain ⟨⟨h0, h1, h2, h3, h4⟩, hf⟩ := h
  refine ⟨⟨setCell_same2 h0, ?_, ?_, ?_, ?_⟩, fun j => by rw [World.frozen?_setCell]; exact hf j⟩
  · rw [setCell_other2 _ _ (by omega)]; exact h1
  · rw [setCell_other2 _ _ (by omega)]; exact h2
  · rw [setCell_other2 _ _ (by omega)]; exact h3
  · rw [setCell_other2 _ _ (by omega)]; exact h4
theorem BoxT.set1 {w : World} {b : Nat} {x0 x1 x2 x3 x4 : Value} (h : BoxT w b x0 x1 x2 x3 x4) (y : Value) : BoxT (w.setCell ⟨b, 1, none⟩ y) b x0 y x2 x3 x4 := by
  obtain ⟨⟨h0, h1, h2, h3, h4⟩, hf⟩ := h
  refine ⟨⟨?_, setCell_same2 h1, ?_, ?_, ?_⟩, fun j => by rw [World.frozen?_setCell]; exact hf j⟩
  · rw [setCell_other2 _ _ (by omega)]; exact h0
  · rw [setCell_other2 _ _ (by omega)]; exact h2
  · rw [setCell_other2 _ _ (by omega)]; exact h3
  · rw [setCell_other2 _ _ (by omega)]; exact h4
theorem BoxT.set2 {w : World} {b : Nat} {x0 x1 x2 x3 x4 : Value} (h : BoxT w b x0 x1 x2 x3 x4) (y : Value) : BoxT (w.setCell ⟨b, 2, none⟩ y) b x0 x1 y x3 x4 := by
  obtain ⟨⟨h0, h1, h2, h3, h4⟩, hf⟩ := h
  refine ⟨⟨?_, ?_, setCell_same2 h2, ?_, ?_⟩, fun j => by rw [World.frozen?_setCell]; exact hf j⟩
  · rw [setCell_other2 _ _ (by omega)]; exact h0
  · rw [setCell_other2 _ _ (by omega)]; exact h1
  · rw [setCell_other2 _ _ (by omega)]; exact h3
  · rw [setCell_other2 _ _ (by omega)]; exact h4
theorem BoxT.set3 {w : World} {b : Nat} {x0 x1 x2 x3 x4 : Value} (h : BoxT w b x0 x1 x2 x3 x4) (y : Value) : BoxT (w.setCell ⟨b, 3, none⟩ y) b x0 x1 x2 y x4 := by
  obtain ⟨⟨h0, h1, h2, h3, h4⟩, hf⟩ := h
  refine ⟨⟨?_, ?_, ?_, setCell_same2 h3, ?_⟩, fun j => by rw [World.frozen?_setCell]; exact hf j⟩
  · rw [setCell_other2 _ _ (by omega)]; exact h0
  · rw [setCell_other2 _ _ (by omega)]; exact h1
  · rw [setCell_other2 _ _ (by omega)]; exact h2
  · rw [setCell_other2 _ _ (by omega)]; exact h4

/-- The box at p and the call's own row, which lies in other blocks. -/
structure WI (g p d : Nat) (v W : World) (k lo hi mx : Int) (S4 : Value) (Q : Option Addr) (n q : Nat) (l : List TyAt) : Prop where
  box : BoxT W p (.int .i64 k) (.int .i64 lo) (.int .i64 hi) (.int .i64 mx) S4
  own : TyOwn W v.heap.size d Q n q l
  off : offA Q p
  els : ∀ x ∈ l, TyRd (fun b => b ≠ p) W d x.T x.A x.n x.c
  good : ∀ x ∈ l, Tame d x.T
  src : Src W g
  but : But g v W
  size : p < W.heap.size
  vs : v.heap.size ≤ p
  gp : g < v.heap.size
section
variable {g p d n q : Nat} {v W : World} {k lo hi mx : Int} {S4 : Value} {Q : Option Addr} {l : List TyAt}
theorem WI.both (h : WI g p d v W k lo hi mx S4 Q n q l) {x : TyAt} (hx : x ∈ l) : TyRd (fun b => (v.heap.size ≤ b ∧ offA Q b) ∧ b ≠ p) W d x.T x.A x.n x.c := (h.own.els x hx).and (h.els x hx)
theorem WI.butG {W' : World} (h : WI g p d v W k lo hi mx S4 Q n q l) (hs : Src W' g) (hb : But g W W') : WI g p d v W' k lo hi mx S4 Q n q l := by
  have h1 := h.gp
  have h2 := h.vs
  have h3 := h.size
  refine ⟨h.box.keep (hb.block p h3 (by omega)), h.own.butG hb h1, h.off, fun x hx => ?_, h.good, hs, h.but.trans hb, by have := hb.size; omega, h2, h1⟩
  exact ((h.both hx).butG hb fun b hb => by have := hb.1.1; omega).in fun b hb => hb.2
theorem WI.drew (h : WI g p d v W k lo hi mx S4 Q n q l) : WI g p d v W.drew k lo hi mx S4 Q n q l := h.butG h.src.drew (But.drew (But.refl g W))
theorem WI.below {W' : World} (h : WI g p d v W k lo hi mx S4 Q n q l) (hb : Below W.heap.size W W') : WI g p d v W' k lo hi mx S4 Q n q l := h.butG (h.src.below hb) (But.of_below hb)
theorem WI.boxAt (h : WI g p d v W k lo hi mx S4 Q n q l) : ∀ W1, But g W W1 → BoxT W1 p (.int .i64 k) (.int .i64 lo) (.int .i64 hi) (.int .i64 mx) S4 := fun W1 hb =>
  h.box.keep (hb.block p h.size (by have := h.gp; have := h.vs; omega))
/-- A store into the box. -/
theorem WI.rest (h : WI g p d v W k lo hi mx S4 Q n q l) (j : Nat) (u : Value) : TyOwn (W.setCell ⟨p, j, none⟩ u) v.heap.size d Q n q l ∧ (∀ x ∈ l, TyRd (fun b => b ≠ p) (W.setCell ⟨p, j, none⟩ u) d x.T x.A x.n x.c) ∧
    Src (W.setCell ⟨p, j, none⟩ u) g ∧ But g v (W.setCell ⟨p, j, none⟩ u) ∧ p < (W.setCell ⟨p, j, none⟩ u).heap.size := by
  have h1 := h.gp
  have h2 := h.vs
  have h3 := h.size
  refine ⟨⟨row_keep h.own.row fun a ha => Below.heap_setCell _ _ _ _ (h.off a ha), fun x hx => ?_⟩, fun x hx => ?_, h.src.setB (by omega), h.but.setB h2, by simp [World.setCell]; exact h3⟩
  · exact ((h.both hx).set fun y hy => hy.2).in fun b hb => hb.1
  · exact ((h.both hx).set fun y hy => hy.2).in fun b hb => hb.2
theorem WI.s0 (h : WI g p d v W k lo hi mx S4 Q n q l) (y : Int) : WI g p d v (W.setCell ⟨p, 0, none⟩ (.int .i64 y)) y lo hi mx S4 Q n q l := by
  obtain ⟨a, b, c, e, f⟩ := h.rest 0 (.int .i64 y); exact ⟨h.box.set0 _, a, h.off, b, h.good, c, e, f, h.vs, h.gp⟩
theorem WI.s1 (h : WI g p d v W k lo hi mx S4 Q n q l) (y : Int) : WI g p d v (W.setCell ⟨p, 1, none⟩ (.int .i64 y)) k y hi mx S4 Q n q l := by
  obtain ⟨a, b, c, e, f⟩ := h.rest 1 (.int .i64 y); exact ⟨h.box.set1 _, a, h.off, b, h.good, c, e, f, h.vs, h.gp⟩
theorem WI.s2 (h : WI g p d v W k lo hi mx S4 Q n q l) (y : Int) : WI g p d v (W.setCell ⟨p, 2, none⟩ (.int .i64 y)) k lo y mx S4 Q n q l := by
  obtain ⟨a, b, c, e, f⟩ := h.rest 2 (.int .i64 y); exact ⟨h.box.set2 _, a, h.off, b, h.good, c, e, f, h.vs, h.gp⟩
theorem WI.s3 (h : WI g p d v W k lo hi mx S4 Q n q l) (y : Int) : WI g p d v (W.setCell ⟨p, 3, none⟩ (.int .i64 y)) k lo hi y S4 Q n q l := by
  obtain ⟨a, b, c, e, f⟩ := h.rest 3 (.int .i64 y); exact ⟨h.box.set3 _, a, h.off, b, h.good, c, e, f, h.vs, h.gp⟩
theorem WI.s4 (h : WI g p d v W k lo hi mx S4 Q n q l) (y : Value) : WI g p d v (W.setCell ⟨p, 4, none⟩ y) k lo hi mx y Q n q l := by
  obtain ⟨a, b, c, e, f⟩ := h.rest 4 y; exact ⟨h.box.set4 _, a, h.off, b, h.good, c, e, f, h.vs, h.gp⟩
theorem WI.tail (h : WI g p d v W k lo hi mx S4 Q n q l) {x : TyAt} {w1 : World} (hs : Src w1 g) (hb : But g W w1) :
    TyOwn (w1.alloc (.cells x.cells.toArray 24)) v.heap.size d Q n q l ∧ (∀ j u, x.cells[j]? = some u → (w1.alloc (.cells x.cells.toArray 24)).cell? ((⟨w1.heap.size, 0, none⟩ : Addr).add j) = some u) :=
  ⟨((h.butG hs hb).below (allocB _ _)).own, fun j u hu => World.news_of_block (heap_alloc_new w1 _) j u (by simpa using hu)⟩
theorem WI.added (h : WI g p d v W k lo hi mx S4 Q n q l) {x : TyAt} {w1 w3 : World} {g3 c3 : Nat} (hx : TyRd (fun b => W.heap.size ≤ b) w1 d x.T x.A x.n x.c) (hgood : Tame d x.T) (hs : Src w1 g) (hb : But g W w1)
    (hown : w3.ownsRow v.heap.size 24 5 (.slice (some ⟨g3, 0, none⟩) (n + 1) c3) (n + 1) (tyRow l ++ x.cells)) (hgrow : (w1.alloc (.cells x.cells.toArray 24)).grownBy w3 (Value.ownBlock (.slice Q n q))) (hat : Value.ownBlock (.slice Q n q) = some g3 ∨ g3 = w1.heap.size + 1) :
    WI g p d v w3 k lo hi mx S4 (some ⟨g3, 0, none⟩) (n + 1) c3 (l ++ [x]) := by
  have hsz1 : W.heap.size ≤ w1.heap.size := hb.size
  have hU := (h.butG hs hb).below (allocB w1 (.cells x.cells.toArray 24))
  have hus : (w1.alloc (.cells x.cells.toArray 24)).heap.size = w1.heap.size + 1 := World.size_alloc _ _
  have hxu := (hx.below (allocB w1 (.cells x.cells.toArray 24)))
  generalize (w1.alloc (.cells x.cells.toArray 24)) = U at *
  have h1 := h.gp
  have h2 := h.vs
  have h3 := h.size
  have hql : ∀ a, Q = some a → a.block < W.heap.size := fun a ha => (row_lt h.own.row a ha).2
  have hxq : TyRd (fun b => ((v.heap.size ≤ b ∧ offA Q b) ∧ b ≠ p)) U d x.T x.A x.n x.c := hxu.in fun b hb' => by
    have hb2 : W.heap.size ≤ b := hb'
    refine ⟨⟨by omega, fun a ha => ?_⟩, by omega⟩
    have := hql a ha
    omega
  have hB : Below v.heap.size U w3 := grown_own (Below.refl v.heap.size U) hU.own.row hgrow (by have := hU.size; omega)
  have hpq : w3.heap[p]? = U.heap[p]? := hgrow.block p hU.size (by
    cases Q with
    | none => simp [Value.ownBlock]
    | some a =>
      have := h.off a rfl
      simp [Value.ownBlock]; omega)
  have hkeep : ∀ {T : Ty} {B : Option Addr} {m r : Nat}, TyRd (fun b => ((v.heap.size ≤ b ∧ offA Q b) ∧ b ≠ p)) U d T B m r → TyRd (fun b => b ≠ p) w3 d T B m r := fun hT =>
    (hT.keep (S' := fun b => ((v.heap.size ≤ b ∧ offA Q b) ∧ b ≠ p)) hgrow.size (fun b hb hlt => hgrow.block b hlt (by
      cases Q with
      | none => simp [Value.ownBlock]
      | some a =>
        have := hb.1.2 a rfl
        simp [Value.ownBlock]; omega)) fun b hb => hb).in fun b hb => hb.2
  refine ⟨hU.box.keep hpq, hU.own.push (hxq.in fun b hb => hb.1) hown hgrow (by rw [hus]; exact hat), ?_, ?_, ?_, hU.src.belowB hB h1, hU.but.onB hB (Nat.le_refl _), by have := hgrow.size; have := hU.size; omega, h2, h1⟩
  · intro a ha
    injection ha with ha
    subst ha
    show g3 ≠ p
    rcases hat with h4 | h4
    · cases Q with
      | none => simp [Value.ownBlock] at h4
      | some a =>
        have := h.off a rfl
        simp [Value.ownBlock] at h4
        omega
    · omega
  · intro y hy
    rcases List.mem_append.1 hy with hy | hy
    · exact hkeep (hU.both hy)
    · rw [List.mem_singleton.1 hy]; exact hkeep hxq
  · intro y hy
    rcases List.mem_append.1 hy with hy | hy
    · exact h.good y hy
    · rw [List.mem_singleton.1 hy]; exact hgood
theorem tyRow_set : ∀ (l : List TyAt) (i : Nat) (x : TyAt), i < l.length → (((((tyRow l).set (i * 5) (.int .i64 x.T.k)).set (i * 5 + 1) (.int .i64 x.T.lo)).set (i * 5 + 2) (.int .i64 x.T.hi)).set (i * 5 + 3) (.int .i64 x.T.mx)).set (i * 5 + 4) (.slice x.A x.n x.c) = tyRow (l.set i x)
  | [], _, _, h => by cases h
  | y :: l, 0, x, _ => by
    show (((((y.cells ++ tyRow l).set 0 _).set 1 _).set 2 _).set 3 _).set 4 _ = x.cells ++ tyRow l
    simp [TyAt.cells]
  | y :: l, i + 1, x, h => by
    have ih := tyRow_set l i x (by simpa using h)
    have e : ∀ j, (i + 1) * 5 + j = (i * 5 + j) + 5 := fun j => by omega
    have e0 : (i + 1) * 5 = i * 5 + 5 := by omega
    show (((((y.cells ++ tyRow l).set ((i + 1) * 5) _).set ((i + 1) * 5 + 1) _).set ((i + 1) * 5 + 2) _).set ((i + 1) * 5 + 3) _).set ((i + 1) * 5 + 4) _ = y.cells ++ tyRow (l.set i x)
    rw [← ih, e 1, e 2, e 3, e 4, e0]
    simp [TyAt.cells]
/-- One element is stored. -/
theorem WI.put {gq i : Nat} (h : WI g p d v W k lo hi mx S4 (some ⟨gq, 0, none⟩) n q l) (hi' : i < n) {x : TyAt} {W0 : World} (hx : TyRd (fun b => W0.heap.size ≤ b) W d x.T x.A x.n x.c) (hp : p < W0.heap.size) (hq : gq < W0.heap.size) (hgood : Tame d x.T) :
    WI g p d v (((((W.setCell ⟨gq, i * 5, none⟩ (.int .i64 x.T.k)).setCell ⟨gq, i * 5 + 1, none⟩ (.int .i64 x.T.lo)).setCell ⟨gq, i * 5 + 2, none⟩ (.int .i64 x.T.hi)).setCell ⟨gq, i * 5 + 3, none⟩ (.int .i64 x.T.mx)).setCell ⟨gq, i * 5 + 4, none⟩ (.slice x.A x.n x.c))
      k lo hi mx S4 (some ⟨gq, 0, none⟩) n q (l.set i x) := by
  have h1 := h.gp
  have h2 := h.vs
  have h3 := h.size
  have hpq : p ≠ gq := fun e => h.off _ rfl e.symm
  have hgv : v.heap.size ≤ gq ∧ gq < W.heap.size := row_lt h.own.row _ rfl
  obtain ⟨u0, _⟩ := h.own.row.stored (i * 5) (.int .i64 x.T.k)
  obtain ⟨u1, _⟩ := u0.stored (i * 5 + 1) (.int .i64 x.T.lo)
  obtain ⟨u2, _⟩ := u1.stored (i * 5 + 2) (.int .i64 x.T.hi)
  obtain ⟨u3, _⟩ := u2.stored (i * 5 + 3) (.int .i64 x.T.mx)
  obtain ⟨u4, _⟩ := u3.stored (i * 5 + 4) (.slice x.A x.n x.c)
  rw [tyRow_set l i x (by rw [h.own.len]; exact hi')] at u4
  have hin : ∀ y ∈ l.set i x, TyRd (fun b => ((v.heap.size ≤ b ∧ offA (some ⟨gq, 0, none⟩) b) ∧ b ≠ p)) W d y.T y.A y.n y.c := fun y hy => by
    rcases List.mem_or_eq_of_mem_set hy with hy | rfl
    · exact h.both hy
    · refine hx.in fun b hb' => ?_
      have hb2 : W0.heap.size ≤ b := hb'
      refine ⟨⟨by omega, fun a ha => ?_⟩, by omega⟩
      injection ha with ha
      subst ha
      show gq ≠ b
      omega
  have hS : ∀ b, ((v.heap.size ≤ b ∧ offA (some ⟨gq, 0, none⟩) b) ∧ b ≠ p) → b ≠ gq := fun b hb e => hb.1.2 _ rfl e.symm
  have hin2 := fun y hy => ((((((hin y hy).set (j := i * 5) (u := .int .i64 x.T.k) hS).set (j := i * 5 + 1) (u := .int .i64 x.T.lo) hS).set (j := i * 5 + 2) (u := .int .i64 x.T.hi) hS).set (j := i * 5 + 3) (u := .int .i64 x.T.mx) hS).set (j := i * 5 + 4) (u := .slice x.A x.n x.c) hS)
  refine ⟨h.box.keep ?_, ⟨u4, fun y hy => (hin2 y hy).in fun b hb => hb.1⟩, h.off, fun y hy => (hin2 y hy).in fun b hb => hb.2, fun y hy => ?_, ((((h.src.setB (by omega)).setB (by omega)).setB (by omega)).setB (by omega)).setB (by omega), ((((h.but.setB hgv.1).setB hgv.1).setB hgv.1).setB hgv.1).setB hgv.1, by simp [World.setCell]; exact h3, h2, h1⟩
  · rw [Below.heap_setCell _ _ _ _ hpq, Below.heap_setCell _ _ _ _ hpq, Below.heap_setCell _ _ _ _ hpq, Below.heap_setCell _ _ _ _ hpq, Below.heap_setCell _ _ _ _ hpq]
  · rcases List.mem_or_eq_of_mem_set hy with hy | rfl
    · exact h.good y hy
    · exact hgood
end
/-- How it begins. -/
theorem WI.begin {g d n c : Nat} {v w1 : World} {T : Ty} {A : Option Addr} {l : List TyAt} (ho : TyOwn w1 v.heap.size d A n c l) (hg : ∀ x ∈ l, Tame d x.T) (hs : Src w1 g) (hb : But g v w1) (hgv : g < v.heap.size) :
    WI g w1.heap.size d v (w1.alloc (.cells #[.int .i64 T.k, .int .i64 T.lo, .int .i64 T.hi, .int .i64 T.mx, .slice A n c] 24)) T.k T.lo T.hi T.mx (.slice A n c) A n c l := by
  refine ⟨boxT_new _ _ _ _ _ _ _, ho.below (allocB _ _), fun a ha => ?_, fun x hx => ?_, hg, hs.below (allocB _ _), hb.trans (But.of_below (allocB _ _)), by simp, hb.size, hgv⟩
  · have := (row_lt ho.row a ha).2; omega
  · have h1 := ((ho.els x hx).bound.below (allocB w1 (.cells #[.int .i64 T.k, .int .i64 T.lo, .int .i64 T.hi, .int .i64 T.mx, .slice A n c] 24)))
    exact h1.in fun b hb => by have := hb.2; omega
theorem TyOwn.le {w : World} {base d d' n c : Nat} {A : Option Addr} {l : List TyAt} (h : TyOwn w base d A n c l) (hd : d ≤ d') : TyOwn w base d' A n c l := ⟨h.row, fun x hx => (h.els x hx).le hd⟩
/-- A type comes back, in memory of its own, with or without errors; at most the source's block has changed. -/
def GivesWild (d g : Nat) (w : World) (e : Ending) (w' : World) : Prop := ∃ T A n c, e = .returned (tyV T A n c) ∧ TyRd (fun b => w.heap.size ≤ b) w' (d + 1) T A n c ∧ Tame (d + 1) T ∧ Src w' g ∧ But g w w'
/-- The small fields of the type that is changed. -/
structure Fld (k lo hi mx : Int) (n : Nat) : Prop where
  lo0 : -1001 ≤ lo
  lo1 : lo ≤ 1001
  hi0 : -1001 ≤ hi
  hi1 : hi ≤ 1001
  mx0 : 0 ≤ mx
  mx1 : mx ≤ 5
  n5 : n ≤ 5
theorem WI.done {g p d n q : Nat} {w v W : World} {k lo hi mx : Int} {Q : Option Addr} {l : List TyAt} (h : WI g p d v W k lo hi mx (.slice Q n q) Q n q l) (hf : Fld k lo hi mx n) (hv : v.heap.size = w.heap.size + 1) (hwv : Below w.heap.size w v) (hgw : g < w.heap.size) :
    TyRd (fun b => w.heap.size ≤ b) (((((W.setCell ⟨w.heap.size, 0, none⟩ (.int .i64 k)).setCell ⟨w.heap.size, 1, none⟩ (.int .i64 lo)).setCell ⟨w.heap.size, 2, none⟩ (.int .i64 hi)).setCell ⟨w.heap.size, 3, none⟩ (.int .i64 mx)).setCell ⟨w.heap.size, 4, none⟩ (.slice Q n q)) (d + 1) (.mk k lo hi mx (l.map TyAt.T)) Q n q ∧
      Tame (d + 1) (.mk k lo hi mx (l.map TyAt.T)) ∧ Src (((((W.setCell ⟨w.heap.size, 0, none⟩ (.int .i64 k)).setCell ⟨w.heap.size, 1, none⟩ (.int .i64 lo)).setCell ⟨w.heap.size, 2, none⟩ (.int .i64 hi)).setCell ⟨w.heap.size, 3, none⟩ (.int .i64 mx)).setCell ⟨w.heap.size, 4, none⟩ (.slice Q n q)) g ∧
      But g w (((((W.setCell ⟨w.heap.size, 0, none⟩ (.int .i64 k)).setCell ⟨w.heap.size, 1, none⟩ (.int .i64 lo)).setCell ⟨w.heap.size, 2, none⟩ (.int .i64 hi)).setCell ⟨w.heap.size, 3, none⟩ (.int .i64 mx)).setCell ⟨w.heap.size, 4, none⟩ (.slice Q n q)) := by
  have hB := stores5 (Below.refl w.heap.size W) (Nat.le_refl w.heap.size) (.int .i64 k) (.int .i64 lo) (.int .i64 hi) (.int .i64 mx) (.slice Q n q)
  have hO := h.own.stores5 (b := w.heap.size) (by omega) (.int .i64 k) (.int .i64 lo) (.int .i64 hi) (.int .i64 mx) (.slice Q n q)
  refine ⟨(hO.rd (.mk k lo hi mx (l.map TyAt.T)) rfl).in fun b hb => by omega, ⟨⟨hf.lo0, hf.lo1, hf.hi0, hf.hi1, hf.mx0, hf.mx1, ?_⟩, fun e he => ?_⟩, h.src.belowB hB hgw, ((But.of_below hwv).trans h.but).onB hB (Nat.le_refl _)⟩
  · show (l.map TyAt.T).length ≤ 5
    rw [List.length_map, h.own.len]; exact hf.n5
  · obtain ⟨x, hx, rfl⟩ := List.mem_map.1 (show e ∈ l.map TyAt.T from he)
    exact h.good x hx
end Go.Proofs.YtklndjkblfncjaaGreatDoor

namespace Go.Proofs.YtklndjkblfncjaaGreatDoor
open Go Go.RowKit
set_option maxRecDepth 20000

theorem litsA : ∀ i, (hi' : i < (#[.int .i64 (-1000), .int .i64 (-1001), .int .i64 0, .int .i64 5] : Array Value).size) → ∃ z, (#[.int .i64 (-1000), .int .i64 (-1001), .int .i64 0, .int .i64 5] : Array Value)[i] = .int .i64 z ∧ (-1001 : Int) ≤ z ∧ z ≤ 5 := by
  intro i hi
  match i, hi with
  | 0, _ | 1, _ | 2, _ | 3, _ => exact ⟨_, rfl, by decide, by decide⟩
  | k + 4, h => simp at h; omega
theorem litsB : ∀ i, (hi' : i < (#[.int .i64 1000, .int .i64 1001, .int .i64 0, .int .i64 (-5)] : Array Value).size) → ∃ z, (#[.int .i64 1000, .int .i64 1001, .int .i64 0, .int .i64 (-5)] : Array Value)[i] = .int .i64 z ∧ (-5 : Int) ≤ z ∧ z ≤ 1001 := by
  intro i hi
  match i, hi with
  | 0, _ | 1, _ | 2, _ | 3, _ => exact ⟨_, rfl, by decide, by decide⟩
  | k + 4, h => simp at h; omega
theorem litsC : ∀ i, (hi' : i < (#[.int .i64 0, .int .i64 4, .int .i64 5] : Array Value).size) → ∃ z, (#[.int .i64 0, .int .i64 4, .int .i64 5] : Array Value)[i] = .int .i64 z ∧ (0 : Int) ≤ z ∧ z ≤ 5 := by
  intro i hi
  match i, hi with
  | 0, _ | 1, _ | 2, _ => exact ⟨_, rfl, by decide, by decide⟩
  | k + 3, h => simp at h; omega
theorem litsD : ∀ i, (hi' : i < (#[.int .i64 3, .int .i64 4] : Array Value).size) → ∃ z, (#[.int .i64 3, .int .i64 4] : Array Value)[i] = .int .i64 z ∧ (3 : Int) ≤ z ∧ z ≤ 4 := by
  intro i hi
  match i, hi with
  | 0, _ | 1, _ => exact ⟨_, rfl, by decide, by decide⟩
  | k + 2, h => simp at h; omega
set_option maxHeartbeats 16000000 in
theorem wild_step (d : Nat) (h2 : d < 3) (I : 0 < d → ∀ g w, Src w g → Calls Tryz.prog 12 #[.pointer (some ⟨g, 0, none⟩), .int .i64 (d : Int)] w (GivesWild d g w)) (g : Nat) (w : World) (hs : Src w g) :
    Calls Tryz.prog 12 #[.pointer (some ⟨g, 0, none⟩), .int .i64 ((d + 1 : Nat) : Int)] w (GivesWild (d + 1) g w) := by
  obtain ⟨i0, hi, hy0, hy1, hy2⟩ := info_parts info_type
  obtain ⟨v, hv⟩ : ∃ v, w.alloc (.cells #[.int .i64 0, .int .i64 0, .int .i64 0, .int .i64 0, .slice none 0 0] 24) = v := ⟨_, rfl⟩
  have hvs : v.heap.size = w.heap.size + 1 := by rw [← hv]; simp
  have hwv : Below w.heap.size w v := by rw [← hv]; exact allocB _ _
  have hsv := hs.below hwv
  have hgs := hs.size
  have HB0 : Hid (BoxT v w.heap.size (.int .i64 0) (.int .i64 0) (.int .i64 0) (.int .i64 0) (.slice none 0 0)) := by rw [← hv]; exact boxT_new _ _ _ _ _ _ _
  have HBX : Hid (∀ W, But g v W → BoxT W w.heap.size (.int .i64 0) (.int .i64 0) (.int .i64 0) (.int .i64 0) (.slice none 0 0)) := fun W hb => HB0.out.keep (hb.block _ (by omega) (by omega))
  have HV := Lib.hid hv
  have HWV := Lib.hid hwv
  have HVS := Lib.hid hvs
  have HT := Lib.hid (type_o (d + 1) (by omega) (by omega) g v hsv)
  have HT1 : Hid (∀ g w, Src w g → Calls Tryz.prog 10 #[.pointer (some ⟨g, 0, none⟩), .int .i64 (1 : Int)] w (GivesTy 1 g w)) := type_x 1 (by omega) (by omega)
  have HI0 := Lib.hid I
  have EWD : Hid (IntKind.i64.wrap (d : Int) = (d : Int)) := by show _ = _; rw [IntKind.wrap_i64]; omega
  clear hv hwv hs hvs I hsv
  go_enter Tryz.func12, Tryz.ntmps12
  go_wp2_with fail
  rw [HV.out]
  refine HT.out.mono ?_
  rintro e1 w1 ⟨T, A, n, c, l, rfl, ho, hTl, hBT, hs1, hb1⟩
  have hfour := hBT.four
  have hdeep := (ho.rd T hTl).deep
  have hgl : ∀ x ∈ l, Tame (d + 1) x.T := fun x hx => ((hBT.tame hdeep).2 x.T (by rw [hTl]; exact List.mem_map.2 ⟨x, hx, rfl⟩)).le (by show d + 1 - 1 ≤ d + 1; omega)
  have hln := ho.len
  have hn0 : d = 0 → n = 0 := fun h0 => by
    subst h0
    cases l with
    | nil => rw [← hln]; rfl
    | cons x l => exact (ho.els x List.mem_cons_self).elim
  have hINV := WI.begin (T := T) ((ho.le (d' := d + 1) (by omega))) hgl hs1 hb1 (by have := HVS.out; omega)
  have hfb : n ≤ 4 ∧ (-1000 ≤ T.lo ∧ T.lo ≤ 1000 ∧ -1000 ≤ T.hi ∧ T.hi ≤ 1000 ∧ 0 ≤ T.mx ∧ T.mx ≤ 4) := ⟨by have h1 := hfour.1; rw [hTl, List.length_map, hln] at h1; exact h1, hfour.2⟩
  obtain ⟨u, hu⟩ : ∃ u, w1.alloc (.cells #[.int .i64 T.k, .int .i64 T.lo, .int .i64 T.hi, .int .i64 T.mx, .slice A n c] 24) = u := ⟨_, rfl⟩
  obtain ⟨p, hp⟩ : ∃ p, w1.heap.size = p := ⟨_, rfl⟩
  rw [hu, hp] at hINV
  have HU := Lib.hid hu
  have HP0 := Lib.hid hp
  have HN10 := Lib.hid (N_any g u 10 hINV.src (by omega) (by omega))
  have HINV := Lib.hid hINV
  clear HT ho hTl hBT hs1 hb1 hfour hdeep hgl hINV hu hp hln
  go_wp2_with fail
  rw [HU.out, HP0.out]
  refine HN10.out.mono ?_
  rintro e2 w2 ⟨z, rfl, ⟨z0, z1⟩, hs2, hb2⟩
  have INV := Lib.hid (HINV.out.butG hs2 hb2)
  clear HN10 HINV hs2 hb2 HU HP0
  rcases (show z = 0 ∨ z = 1 ∨ z = 2 ∨ z = 3 ∨ z = 4 ∨ z = 5 ∨ z = 6 ∨ 7 ≤ z by omega) with rfl | rfl | rfl | rfl | rfl | rfl | rfl | hz
  · have HR := Lib.hid (range_any g w2 0 7 INV.out.src (by omega) (by omega) (by omega))
    go_wp2_with fail
    refine HR.out.mono ?_
    rintro e3 w3 ⟨y, rfl, ⟨y0, y1⟩, hs3, hb3⟩
    have INV3 := Lib.hid (INV.out.butG hs3 hb3)
    clear HR hs3 hb3 INV HT1 HI0
    obtain ⟨⟨s0, s1, s2, s3, s4⟩, hq⟩ := INV3.out.box
    have fq := hq 0
    have HEND := Lib.hid (INV3.out.s0 y)
    clear hq INV3
    obtain ⟨⟨q0, q1, q2, q3, q4⟩, _⟩ := HEND.out.box
    obtain ⟨⟨r0, r1, r2, r3, r4⟩, hf⟩ := HBX.out _ HEND.out.but
    have f0 := hf 0
    have f1 := hf 1
    have f2 := hf 2
    have f3 := hf 3
    have f4 := hf 4
    have HD := Lib.hid (HEND.out.done (w := w) ⟨by have := hfb; omega, by have := hfb; omega, by have := hfb; omega, by have := hfb; omega, by have := hfb; omega, by have := hfb; omega, by have := hfb; omega⟩ HVS.out HWV.out hgs)
    clear hf HEND
    go_wp2
    refine bodyPost_ret (v := tyV (.mk y T.lo T.hi T.mx ((l).map TyAt.T)) A (n) c) (by simp [results, Tryz.results12, go_sem, r0, r1, r2, r3, r4, Ty.k, Ty.lo, Ty.hi, Ty.mx]) rfl ⟨_, A, n, c, rfl, HD.out.1, HD.out.2.1, HD.out.2.2.1, HD.out.2.2.2⟩
  · clear HT1 HI0
    have HPK := Lib.hid (pick_any g _ ⟨w2.heap.size, 0, none⟩ 4 4 (-1001) 5 (INV.out.src.below (allocB w2 (.cells #[.int .i64 (-1000), .int .i64 (-1001), .int .i64 0, .int .i64 5] 3))) (by omega) (by omega) (lits_at w2 #[.int .i64 (-1000), .int .i64 (-1001), .int .i64 0, .int .i64 5] 3 4 (-1001) 5 rfl (litsA)) (by have h1 := INV.out.src.size; show w2.heap.size ≠ g; omega))
    go_wp2_with fail
    refine HPK.out.mono ?_
    rintro e3 w3 ⟨y, rfl, ⟨y0, y1⟩, hs3, hb3⟩
    have INV3 := Lib.hid (INV.out.butG hs3 ((But.of_below (allocB w2 (.cells #[.int .i64 (-1000), .int .i64 (-1001), .int .i64 0, .int .i64 5] 3))).trans hb3))
    clear HPK hs3 hb3 INV
    obtain ⟨⟨s0, s1, s2, s3, s4⟩, hq⟩ := INV3.out.box
    have fq := hq 1
    have HEND := Lib.hid (INV3.out.s1 y)
    clear hq INV3
    obtain ⟨⟨q0, q1, q2, q3, q4⟩, _⟩ := HEND.out.box
    obtain ⟨⟨r0, r1, r2, r3, r4⟩, hf⟩ := HBX.out _ HEND.out.but
    have f0 := hf 0
    have f1 := hf 1
    have f2 := hf 2
    have f3 := hf 3
    have f4 := hf 4
    have HD := Lib.hid (HEND.out.done (w := w) ⟨by have := hfb; omega, by have := hfb; omega, by have := hfb; omega, by have := hfb; omega, by have := hfb; omega, by have := hfb; omega, by have := hfb; omega⟩ HVS.out HWV.out hgs)
    clear hf HEND
    go_wp2
    refine bodyPost_ret (v := tyV (.mk T.k y T.hi T.mx ((l).map TyAt.T)) A (n) c) (by simp [results, Tryz.results12, go_sem, r0, r1, r2, r3, r4, Ty.k, Ty.lo, Ty.hi, Ty.mx]) rfl ⟨_, A, n, c, rfl, HD.out.1, HD.out.2.1, HD.out.2.2.1, HD.out.2.2.2⟩
  · clear HT1 HI0
    have HPK := Lib.hid (pick_any g _ ⟨w2.heap.size, 0, none⟩ 4 4 (-5) 1001 (INV.out.src.below (allocB w2 (.cells #[.int .i64 1000, .int .i64 1001, .int .i64 0, .int .i64 (-5)] 3))) (by omega) (by omega) (lits_at w2 #[.int .i64 1000, .int .i64 1001, .int .i64 0, .int .i64 (-5)] 3 4 (-5) 1001 rfl (litsB)) (by have h1 := INV.out.src.size; show w2.heap.size ≠ g; omega))
    go_wp2_with fail
    refine HPK.out.mono ?_
    rintro e3 w3 ⟨y, rfl, ⟨y0, y1⟩, hs3, hb3⟩
    have INV3 := Lib.hid (INV.out.butG hs3 ((But.of_below (allocB w2 (.cells #[.int .i64 1000, .int .i64 1001, .int .i64 0, .int .i64 (-5)] 3))).trans hb3))
    clear HPK hs3 hb3 INV
    obtain ⟨⟨s0, s1, s2, s3, s4⟩, hq⟩ := INV3.out.box
    have fq := hq 2
    have HEND := Lib.hid (INV3.out.s2 y)
    clear hq INV3
    obtain ⟨⟨q0, q1, q2, q3, q4⟩, _⟩ := HEND.out.box
    obtain ⟨⟨r0, r1, r2, r3, r4⟩, hf⟩ := HBX.out _ HEND.out.but
    have f0 := hf 0
    have f1 := hf 1
    have f2 := hf 2
    have f3 := hf 3
    have f4 := hf 4
    have HD := Lib.hid (HEND.out.done (w := w) ⟨by have := hfb; omega, by have := hfb; omega, by have := hfb; omega, by have := hfb; omega, by have := hfb; omega, by have := hfb; omega, by have := hfb; omega⟩ HVS.out HWV.out hgs)
    clear hf HEND
    go_wp2
    refine bodyPost_ret (v := tyV (.mk T.k T.lo y T.mx ((l).map TyAt.T)) A (n) c) (by simp [results, Tryz.results12, go_sem, r0, r1, r2, r3, r4, Ty.k, Ty.lo, Ty.hi, Ty.mx]) rfl ⟨_, A, n, c, rfl, HD.out.1, HD.out.2.1, HD.out.2.2.1, HD.out.2.2.2⟩
  · clear HT1 HI0
    have HPK := Lib.hid (pick_any g _ ⟨w2.heap.size, 0, none⟩ 3 3 (0) 5 (INV.out.src.below (allocB w2 (.cells #[.int .i64 0, .int .i64 4, .int .i64 5] 3))) (by omega) (by omega) (lits_at w2 #[.int .i64 0, .int .i64 4, .int .i64 5] 3 3 (0) 5 rfl (litsC)) (by have h1 := INV.out.src.size; show w2.heap.size ≠ g; omega))
    go_wp2_with fail
    refine HPK.out.mono ?_
    rintro e3 w3 ⟨y, rfl, ⟨y0, y1⟩, hs3, hb3⟩
    have INV3 := Lib.hid (INV.out.butG hs3 ((But.of_below (allocB w2 (.cells #[.int .i64 0, .int .i64 4, .int .i64 5] 3))).trans hb3))
    clear HPK hs3 hb3 INV
    obtain ⟨⟨s0, s1, s2, s3, s4⟩, hq⟩ := INV3.out.box
    have fq := hq 3
    have HEND := Lib.hid (INV3.out.s3 y)
    clear hq INV3
    obtain ⟨⟨q0, q1, q2, q3, q4⟩, _⟩ := HEND.out.box
    obtain ⟨⟨r0, r1, r2, r3, r4⟩, hf⟩ := HBX.out _ HEND.out.but
    have f0 := hf 0
    have f1 := hf 1
    have f2 := hf 2
    have f3 := hf 3
    have f4 := hf 4
    have HD := Lib.hid (HEND.out.done (w := w) ⟨by have := hfb; omega, by have := hfb; omega, by have := hfb; omega, by have := hfb; omega, by have := hfb; omega, by have := hfb; omega, by have := hfb; omega⟩ HVS.out HWV.out hgs)
    clear hf HEND
    go_wp2
    refine bodyPost_ret (v := tyV (.mk T.k T.lo T.hi y ((l).map TyAt.T)) A (n) c) (by simp [results, Tryz.results12, go_sem, r0, r1, r2, r3, r4, Ty.k, Ty.lo, Ty.hi, Ty.mx]) rfl ⟨_, A, n, c, rfl, HD.out.1, HD.out.2.1, HD.out.2.2.1, HD.out.2.2.2⟩
  · clear HI0
    have INVD := Lib.hid INV.out.drew
    have HP := Lib.hid INVD.out.boxAt
    have HSR := Lib.hid INVD.out.src
    have hk := But.refl g w2.drew
    have hn4 := hfb.1
    go_wp2_with fail
    refine wp_region_held_drew (S := fun _ => True) (by kernel_rfl) trivial (fun hHeld => ?_)
    refine tkH (i := 0) (oi := ⟨some 37, _, _, _, _, _⟩) (v := ?_) ?_ ?_
    rotate_left
    · intro w hSw; go_simp; try with_reducible rfl
    try simp only [Act.put, List.setIfInBounds_toArray, List.set_cons_zero, List.set_cons_succ]
    refine tkH (i := 2) (oi := ⟨some 39, _, _, _, _, _⟩) (v := ?_) ?_ ?_
    rotate_left
    · intro w hSw; go_simp; try with_reducible rfl
    try simp only [Act.put, List.setIfInBounds_toArray, List.set_cons_zero, List.set_cons_succ]
    refine wpAnyH_ready (rs := [1, 3]) (by kernel_rfl) (by simp) ?_
    refine AllReadyH.cons (o := ⟨some 38, _, _, _, _, _⟩) rfl (fun K hK => ?_) (AllReadyH.cons (o := ⟨some 40, _, _, _, _, _⟩) rfl (fun K hK => ?_) AllReadyH.nil)
    · have q4 := (HP.out _ hk).1.2.2.2.2
      go_simp
      refine hK.out _ _ trivial (fun hHeld => ?_)
      clear hK K hHeld
      try simp only [Act.put, List.setIfInBounds_toArray, List.set_cons_zero, List.set_cons_succ]
      refine wpAnyH_ready (rs := [3]) (by kernel_rfl) (by simp) ?_
      refine AllReadyH.cons (o := ⟨some 40, _, _, _, _, _⟩) rfl (fun K hK => ?_) AllReadyH.nil
      go_simp
      go_at_call 10
      (with_reducible refine (HT1.out _ _ HSR.out).mono ?_)
      rintro e3 w3 ⟨T1, A1, n1, c1, rfl, hrd1, hT1, hs3, hb3⟩
      replace hk := hk.trans hb3
      go_wp2_with fail
      refine hK.out _ _ trivial (fun hHeld => ?_)
      clear hK K hHeld
      try simp only [Act.put, List.setIfInBounds_toArray, List.set_cons_zero, List.set_cons_succ]
      refine wpAnyH_ready (rs := [4]) (by kernel_rfl) (by simp) ?_
      refine AllReadyH.cons (o := ⟨some 41, _, _, _, _, _⟩) rfl (fun K hK => ?_) AllReadyH.nil
      go_simp
      have hk := hk.alloc (.cells #[.int .i64 T1.k, .int .i64 T1.lo, .int .i64 T1.hi, .int .i64 T1.mx, .slice A1 n1 c1] 24)
      refine hK.out _ _ trivial (fun hHeld => ?_)
      clear hK K hHeld
      try simp only [Act.put, List.setIfInBounds_toArray, List.set_cons_zero, List.set_cons_succ]
      refine wpAnyH_ready (rs := [5]) (by kernel_rfl) (by simp) ?_
      refine AllReadyH.cons (o := ⟨some 42, _, _, _, _, _⟩) rfl (fun K hK => ?_) AllReadyH.nil
      obtain ⟨hOWx, hNW⟩ := INVD.out.tail (x := ⟨T1, A1, n1, c1⟩) hs3 hb3
      refine step_append_lies _ rfl _ _ 22 rfl v.heap.size 24 i0 (.agg #[.int .i64 0, .int .i64 0, .int .i64 0, .int .i64 0, .slice none 0 0]) 5 56 Tryz.underlying22 hi hy0 hy1 hy2 rfl (by decide) (.slice A n c) n (tyRow l) rfl hOWx.row ⟨w3.heap.size, 0, none⟩ 1 1 (TyAt.mk T1 A1 n1 c1).cells rfl rfl hNW (TyAt.oneCell _) (by decide) (by unfold maxLen; omega) (by omega) (by rw [World.size_alloc]; have h1 := INV.out.but.size; have h2 : w2.heap.size ≤ w3.heap.size := hb3.size; omega) _ rfl ?_
      intro g3 c3 w5 hown hgrow hat hlt3
      have hKE := Lib.hid (INVD.out.added (x := ⟨T1, A1, n1, c1⟩) (hrd1.le (by omega)) ((hT1.tame hrd1.deep).le (by omega)) hs3 hb3 hown hgrow (by rw [World.size_alloc] at hat; exact hat))
      clear hown hgrow hat hOWx hNW hrd1 hT1 hs3 hb3 hk
      refine hK.out _ _ trivial (fun hHeld => ?_)
      clear hK K hHeld
      try simp only [Act.put, List.setIfInBounds_toArray, List.set_cons_zero, List.set_cons_succ]
      refine tkH (i := 6) (oi := ⟨some 43, _, _, _, _, _⟩) (v := ?_) ?_ ?_
      rotate_left
      · intro w hSw; go_simp; try with_reducible rfl
      try simp only [Act.put, List.setIfInBounds_toArray, List.set_cons_zero, List.set_cons_succ]
      refine wpAnyH_ready (rs := [7]) (by kernel_rfl) (by simp) ?_
      refine AllReadyH.cons (o := ⟨none, _, _, _, _, _⟩) rfl (fun K hK => ?_) AllReadyH.nil
      have x4 := hKE.out.box.1.2.2.2.2
      have f4 := hKE.out.box.2 4
      go_simp
      refine hK.out _ _ trivial (fun hHeld => ?_)
      clear hK K hHeld x4 f4
      try simp only [Act.put, List.setIfInBounds_toArray, List.set_cons_zero, List.set_cons_succ]
      refine wpAnyH_done (by kernel_rfl) ?_ _
      have HEND := Lib.hid (hKE.out.s4 (.slice (some ⟨g3, 0, none⟩) (n + 1) c3))
      clear hKE
      obtain ⟨⟨q0, q1, q2, q3, q4⟩, _⟩ := HEND.out.box
      obtain ⟨⟨r0, r1, r2, r3, r4⟩, hf⟩ := HBX.out _ HEND.out.but
      have f0 := hf 0
      have f1 := hf 1
      have f2 := hf 2
      have f3 := hf 3
      have f4 := hf 4
      have HD := Lib.hid (HEND.out.done (w := w) ⟨by have := hfb; omega, by have := hfb; omega, by have := hfb; omega, by have := hfb; omega, by have := hfb; omega, by have := hfb; omega, by have := hfb; omega⟩ HVS.out HWV.out hgs)
      clear hf HEND
      go_wp2
      refine bodyPost_ret (v := tyV (.mk T.k T.lo T.hi T.mx ((l ++ [TyAt.mk T1 A1 n1 c1]).map TyAt.T)) (some ⟨g3, 0, none⟩) (n + 1) c3) (by simp [results, Tryz.results12, go_sem, r0, r1, r2, r3, r4, Ty.k, Ty.lo, Ty.hi, Ty.mx]) rfl ⟨_, (some ⟨g3, 0, none⟩), n + 1, c3, rfl, HD.out.1, HD.out.2.1, HD.out.2.2.1, HD.out.2.2.2⟩
    · go_simp
      go_at_call 10
      (with_reducible refine (HT1.out _ _ HSR.out).mono ?_)
      rintro e3 w3 ⟨T1, A1, n1, c1, rfl, hrd1, hT1, hs3, hb3⟩
      replace hk := hk.trans hb3
      go_wp2_with fail
      refine hK.out _ _ trivial (fun hHeld => ?_)
      clear hK K hHeld
      try simp only [Act.put, List.setIfInBounds_toArray, List.set_cons_zero, List.set_cons_succ]
      refine wpAnyH_ready (rs := [1, 4]) (by kernel_rfl) (by simp) ?_
      refine AllReadyH.cons (o := ⟨some 38, _, _, _, _, _⟩) rfl (fun K hK => ?_) (AllReadyH.cons (o := ⟨some 41, _, _, _, _, _⟩) rfl (fun K hK => ?_) AllReadyH.nil)
      · have q4 := (HP.out _ hk).1.2.2.2.2
        go_simp
        refine hK.out _ _ trivial (fun hHeld => ?_)
        clear hK K hHeld
        try simp only [Act.put, List.setIfInBounds_toArray, List.set_cons_zero, List.set_cons_succ]
        refine wpAnyH_ready (rs := [4]) (by kernel_rfl) (by simp) ?_
        refine AllReadyH.cons (o := ⟨some 41, _, _, _, _, _⟩) rfl (fun K hK => ?_) AllReadyH.nil
        go_simp
        have hk := hk.alloc (.cells #[.int .i64 T1.k, .int .i64 T1.lo, .int .i64 T1.hi, .int .i64 T1.mx, .slice A1 n1 c1] 24)
        refine hK.out _ _ trivial (fun hHeld => ?_)
        clear hK K hHeld
        try simp only [Act.put, List.setIfInBounds_toArray, List.set_cons_zero, List.set_cons_succ]
        refine wpAnyH_ready (rs := [5]) (by kernel_rfl) (by simp) ?_
        refine AllReadyH.cons (o := ⟨some 42, _, _, _, _, _⟩) rfl (fun K hK => ?_) AllReadyH.nil
        obtain ⟨hOWx, hNW⟩ := INVD.out.tail (x := ⟨T1, A1, n1, c1⟩) hs3 hb3
        refine step_append_lies _ rfl _ _ 22 rfl v.heap.size 24 i0 (.agg #[.int .i64 0, .int .i64 0, .int .i64 0, .int .i64 0, .slice none 0 0]) 5 56 Tryz.underlying22 hi hy0 hy1 hy2 rfl (by decide) (.slice A n c) n (tyRow l) rfl hOWx.row ⟨w3.heap.size, 0, none⟩ 1 1 (TyAt.mk T1 A1 n1 c1).cells rfl rfl hNW (TyAt.oneCell _) (by decide) (by unfold maxLen; omega) (by omega) (by rw [World.size_alloc]; have h1 := INV.out.but.size; have h2 : w2.heap.size ≤ w3.heap.size := hb3.size; omega) _ rfl ?_
        intro g3 c3 w5 hown hgrow hat hlt3
        have hKE := Lib.hid (INVD.out.added (x := ⟨T1, A1, n1, c1⟩) (hrd1.le (by omega)) ((hT1.tame hrd1.deep).le (by omega)) hs3 hb3 hown hgrow (by rw [World.size_alloc] at hat; exact hat))
        clear hown hgrow hat hOWx hNW hrd1 hT1 hs3 hb3 hk
        refine hK.out _ _ trivial (fun hHeld => ?_)
        clear hK K hHeld
        try simp only [Act.put, List.setIfInBounds_toArray, List.set_cons_zero, List.set_cons_succ]
        refine tkH (i := 6) (oi := ⟨some 43, _, _, _, _, _⟩) (v := ?_) ?_ ?_
        rotate_left
        · intro w hSw; go_simp; try with_reducible rfl
        try simp only [Act.put, List.setIfInBounds_toArray, List.set_cons_zero, List.set_cons_succ]
        refine wpAnyH_ready (rs := [7]) (by kernel_rfl) (by simp) ?_
        refine AllReadyH.cons (o := ⟨none, _, _, _, _, _⟩) rfl (fun K hK => ?_) AllReadyH.nil
        have x4 := hKE.out.box.1.2.2.2.2
        have f4 := hKE.out.box.2 4
        go_simp
        refine hK.out _ _ trivial (fun hHeld => ?_)
        clear hK K hHeld x4 f4
        try simp only [Act.put, List.setIfInBounds_toArray, List.set_cons_zero, List.set_cons_succ]
        refine wpAnyH_done (by kernel_rfl) ?_ _
        have HEND := Lib.hid (hKE.out.s4 (.slice (some ⟨g3, 0, none⟩) (n + 1) c3))
        clear hKE
        obtain ⟨⟨q0, q1, q2, q3, q4⟩, _⟩ := HEND.out.box
        obtain ⟨⟨r0, r1, r2, r3, r4⟩, hf⟩ := HBX.out _ HEND.out.but
        have f0 := hf 0
        have f1 := hf 1
        have f2 := hf 2
        have f3 := hf 3
        have f4 := hf 4
        have HD := Lib.hid (HEND.out.done (w := w) ⟨by have := hfb; omega, by have := hfb; omega, by have := hfb; omega, by have := hfb; omega, by have := hfb; omega, by have := hfb; omega, by have := hfb; omega⟩ HVS.out HWV.out hgs)
        clear hf HEND
        go_wp2
        refine bodyPost_ret (v := tyV (.mk T.k T.lo T.hi T.mx ((l ++ [TyAt.mk T1 A1 n1 c1]).map TyAt.T)) (some ⟨g3, 0, none⟩) (n + 1) c3) (by simp [results, Tryz.results12, go_sem, r0, r1, r2, r3, r4, Ty.k, Ty.lo, Ty.hi, Ty.mx]) rfl ⟨_, (some ⟨g3, 0, none⟩), n + 1, c3, rfl, HD.out.1, HD.out.2.1, HD.out.2.2.1, HD.out.2.2.2⟩
      · go_simp
        have hk := hk.alloc (.cells #[.int .i64 T1.k, .int .i64 T1.lo, .int .i64 T1.hi, .int .i64 T1.mx, .slice A1 n1 c1] 24)
        refine hK.out _ _ trivial (fun hHeld => ?_)
        clear hK K hHeld
        try simp only [Act.put, List.setIfInBounds_toArray, List.set_cons_zero, List.set_cons_succ]
        refine wpAnyH_ready (rs := [1]) (by kernel_rfl) (by simp) ?_
        refine AllReadyH.cons (o := ⟨some 38, _, _, _, _, _⟩) rfl (fun K hK => ?_) AllReadyH.nil
        have q4 := (HP.out _ hk).1.2.2.2.2
        go_simp
        refine hK.out _ _ trivial (fun hHeld => ?_)
        clear hK K hHeld
        try simp only [Act.put, List.setIfInBounds_toArray, List.set_cons_zero, List.set_cons_succ]
        refine wpAnyH_ready (rs := [5]) (by kernel_rfl) (by simp) ?_
        refine AllReadyH.cons (o := ⟨some 42, _, _, _, _, _⟩) rfl (fun K hK => ?_) AllReadyH.nil
        obtain ⟨hOWx, hNW⟩ := INVD.out.tail (x := ⟨T1, A1, n1, c1⟩) hs3 hb3
        refine step_append_lies _ rfl _ _ 22 rfl v.heap.size 24 i0 (.agg #[.int .i64 0, .int .i64 0, .int .i64 0, .int .i64 0, .slice none 0 0]) 5 56 Tryz.underlying22 hi hy0 hy1 hy2 rfl (by decide) (.slice A n c) n (tyRow l) rfl hOWx.row ⟨w3.heap.size, 0, none⟩ 1 1 (TyAt.mk T1 A1 n1 c1).cells rfl rfl hNW (TyAt.oneCell _) (by decide) (by unfold maxLen; omega) (by omega) (by rw [World.size_alloc]; have h1 := INV.out.but.size; have h2 : w2.heap.size ≤ w3.heap.size := hb3.size; omega) _ rfl ?_
        intro g3 c3 w5 hown hgrow hat hlt3
        have hKE := Lib.hid (INVD.out.added (x := ⟨T1, A1, n1, c1⟩) (hrd1.le (by omega)) ((hT1.tame hrd1.deep).le (by omega)) hs3 hb3 hown hgrow (by rw [World.size_alloc] at hat; exact hat))
        clear hown hgrow hat hOWx hNW hrd1 hT1 hs3 hb3 hk
        refine hK.out _ _ trivial (fun hHeld => ?_)
        clear hK K hHeld
        try simp only [Act.put, List.setIfInBounds_toArray, List.set_cons_zero, List.set_cons_succ]
        refine tkH (i := 6) (oi := ⟨some 43, _, _, _, _, _⟩) (v := ?_) ?_ ?_
        rotate_left
        · intro w hSw; go_simp; try with_reducible rfl
        try simp only [Act.put, List.setIfInBounds_toArray, List.set_cons_zero, List.set_cons_succ]
        refine wpAnyH_ready (rs := [7]) (by kernel_rfl) (by simp) ?_
        refine AllReadyH.cons (o := ⟨none, _, _, _, _, _⟩) rfl (fun K hK => ?_) AllReadyH.nil
        have x4 := hKE.out.box.1.2.2.2.2
        have f4 := hKE.out.box.2 4
        go_simp
        refine hK.out _ _ trivial (fun hHeld => ?_)
        clear hK K hHeld x4 f4
        try simp only [Act.put, List.setIfInBounds_toArray, List.set_cons_zero, List.set_cons_succ]
        refine wpAnyH_done (by kernel_rfl) ?_ _
        have HEND := Lib.hid (hKE.out.s4 (.slice (some ⟨g3, 0, none⟩) (n + 1) c3))
        clear hKE
        obtain ⟨⟨q0, q1, q2, q3, q4⟩, _⟩ := HEND.out.box
        obtain ⟨⟨r0, r1, r2, r3, r4⟩, hf⟩ := HBX.out _ HEND.out.but
        have f0 := hf 0
        have f1 := hf 1
        have f2 := hf 2
        have f3 := hf 3
        have f4 := hf 4
        have HD := Lib.hid (HEND.out.done (w := w) ⟨by have := hfb; omega, by have := hfb; omega, by have := hfb; omega, by have := hfb; omega, by have := hfb; omega, by have := hfb; omega, by have := hfb; omega⟩ HVS.out HWV.out hgs)
        clear hf HEND
        go_wp2
        refine bodyPost_ret (v := tyV (.mk T.k T.lo T.hi T.mx ((l ++ [TyAt.mk T1 A1 n1 c1]).map TyAt.T)) (some ⟨g3, 0, none⟩) (n + 1) c3) (by simp [results, Tryz.results12, go_sem, r0, r1, r2, r3, r4, Ty.k, Ty.lo, Ty.hi, Ty.mx]) rfl ⟨_, (some ⟨g3, 0, none⟩), n + 1, c3, rfl, HD.out.1, HD.out.2.1, HD.out.2.2.1, HD.out.2.2.2⟩
  · clear HT1
    by_cases hn1 : n = 0
    · subst hn1
      have HEND := INV
      clear INV HI0
      obtain ⟨⟨q0, q1, q2, q3, q4⟩, _⟩ := HEND.out.box
      obtain ⟨⟨r0, r1, r2, r3, r4⟩, hf⟩ := HBX.out _ HEND.out.but
      have f0 := hf 0
      have f1 := hf 1
      have f2 := hf 2
      have f3 := hf 3
      have f4 := hf 4
      have HD := Lib.hid (HEND.out.done (w := w) ⟨by have := hfb; omega, by have := hfb; omega, by have := hfb; omega, by have := hfb; omega, by have := hfb; omega, by have := hfb; omega, by have := hfb; omega⟩ HVS.out HWV.out hgs)
      clear hf HEND
      go_wp2
      refine bodyPost_ret (v := tyV (.mk T.k T.lo T.hi T.mx ((l).map TyAt.T)) A (0) c) (by simp [results, Tryz.results12, go_sem, r0, r1, r2, r3, r4, Ty.k, Ty.lo, Ty.hi, Ty.mx]) rfl ⟨_, A, 0, c, rfl, HD.out.1, HD.out.2.1, HD.out.2.2.1, HD.out.2.2.2⟩
    · have hd0 : 0 < d := by
        rcases Nat.eq_zero_or_pos d with h | h
        · exact absurd (hn0 h) hn1
        · exact h
      have HI := Lib.hid (HI0.out hd0)
      have INVD := Lib.hid INV.out.drew
      have HP := Lib.hid INVD.out.boxAt
      have HSR := Lib.hid INVD.out.src
      have HN : Hid (∀ W, Src W g → Calls Tryz.prog 11 #[.pointer (some ⟨g, 0, none⟩), .int .i64 (n : Int)] W (Drawn g 0 ((n : Int) - 1) W)) := fun W hW => N_any g W n hW (by omega) (by omega)
      have hk := But.refl g w2.drew
      have hnp : 0 < n := by omega
      have q4 := INV.out.box.1.2.2.2.2
      clear HI0 hn0
      go_wp2_with fail
      clear q4
      refine wp_region_held_drew (S := fun _ => True) (by kernel_rfl) trivial (fun hHeld => ?_)
      refine tkH (i := 0) (oi := ⟨some 51, _, _, _, _, _⟩) (v := ?_) ?_ ?_
      rotate_left
      · intro w hSw; go_simp; try with_reducible rfl
      try simp only [Act.put, List.setIfInBounds_toArray, List.set_cons_zero, List.set_cons_succ]
      refine tkH (i := 2) (oi := ⟨some 53, _, _, _, _, _⟩) (v := ?_) ?_ ?_
      rotate_left
      · intro w hSw; go_simp; try with_reducible rfl
      try simp only [Act.put, List.setIfInBounds_toArray, List.set_cons_zero, List.set_cons_succ]
      refine tkH (i := 3) (oi := ⟨some 54, _, _, _, _, _⟩) (v := ?_) ?_ ?_
      rotate_left
      · intro w hSw; go_simp; try with_reducible rfl
      try simp only [Act.put, List.setIfInBounds_toArray, List.set_cons_zero, List.set_cons_succ]
      refine tkH (i := 5) (oi := ⟨some 56, _, _, _, _, _⟩) (v := ?_) ?_ ?_
      rotate_left
      · intro w hSw; go_simp; try with_reducible rfl
      try simp only [Act.put, List.setIfInBounds_toArray, List.set_cons_zero, List.set_cons_succ]
      refine tkH (i := 6) (oi := ⟨some 57, _, _, _, _, _⟩) (v := ?_) ?_ ?_
      rotate_left
      · intro w hSw; go_simp; try with_reducible rfl
      try simp only [Act.put, List.setIfInBounds_toArray, List.set_cons_zero, List.set_cons_succ]
      refine tkH (i := 7) (oi := ⟨some 58, _, _, _, _, _⟩) (v := ?_) ?_ ?_
      rotate_left
      · intro w hSw; go_simp; try with_reducible rfl
      try simp only [Act.put, List.setIfInBounds_toArray, List.set_cons_zero, List.set_cons_succ]
      refine wpAnyH_ready (rs := [1, 4]) (by kernel_rfl) (by simp) ?_
      refine AllReadyH.cons (o := ⟨some 52, _, _, _, _, _⟩) rfl (fun K hK => ?_) (AllReadyH.cons (o := ⟨some 55, _, _, _, _, _⟩) rfl (fun K hK => ?_) AllReadyH.nil)
      · have q4 := (HP.out _ hk).1.2.2.2.2
        go_simp
        refine hK.out _ _ trivial (fun hHeld => ?_)
        clear hK K hHeld
        try simp only [Act.put, List.setIfInBounds_toArray, List.set_cons_zero, List.set_cons_succ]
        refine wpAnyH_ready (rs := [4]) (by kernel_rfl) (by simp) ?_
        refine AllReadyH.cons (o := ⟨some 55, _, _, _, _, _⟩) rfl (fun K hK => ?_) AllReadyH.nil
        go_simp
        go_at_call 11
        (with_reducible refine (HN.out _ HSR.out).mono ?_)
        rintro e3 w3 ⟨y, rfl, ⟨y0, y1⟩, hs3, hb3⟩
        replace hk := hk.trans hb3
        go_wp2_with fail
        refine hK.out _ _ trivial (fun hHeld => ?_)
        clear hK K hHeld
        try simp only [Act.put, List.setIfInBounds_toArray, List.set_cons_zero, List.set_cons_succ]
        refine wpAnyH_ready (rs := [8]) (by kernel_rfl) (by simp) ?_
        refine AllReadyH.cons (o := ⟨some 59, _, _, _, _, _⟩) rfl (fun K hK => ?_) AllReadyH.nil
        go_simp
        rw [EWD.out]
        go_at_call 12
        (with_reducible refine (HI.out _ _ hs3).mono ?_)
        rintro e4 w4 ⟨T1, A1, n1, c1, rfl, hrd1, hT1, hs4, hb4⟩
        replace hk := hk.trans hb4
        go_wp2_with fail
        refine hK.out _ _ trivial (fun hHeld => ?_)
        clear hK K hHeld
        try simp only [Act.put, List.setIfInBounds_toArray, List.set_cons_zero, List.set_cons_succ]
        obtain ⟨i, rfl⟩ := Int.eq_ofNat_of_zero_le y0
        have hin : i < n := by omega
        have INV4 := INVD.out.butG hs4 (hb3.trans hb4)
        obtain ⟨g5, rfl, hg5, hg6⟩ := row_form INV4.own.row (by omega)
        have HPUT := Lib.hid (INV4.put hin (x := ⟨T1, A1, n1, c1⟩) hrd1 (by have := INV.out.size; have h2 : w2.heap.size ≤ w3.heap.size := hb3.size; omega) (by have h1 := (row_lt INV.out.own.row _ rfl).2; have h2 : w2.heap.size ≤ w3.heap.size := hb3.size; have h3 : g5 < w2.heap.size := h1; omega) hT1)
        have hcl : ∀ j, j < n * 5 → ∃ a, w4.cell? ⟨g5, j, none⟩ = some a := fun j hj => by
          rw [INV4.own.row.cellAt j hj]
          exact ⟨_, List.getElem?_eq_getElem (by rw [tyRow_length, INV4.own.len]; exact hj)⟩
        have hfr := INV4.own.row.frozenAt
        obtain ⟨a0, k0⟩ := hcl (i * 5) (by omega)
        obtain ⟨a1, k1⟩ := hcl (i * 5 + 1) (by omega)
        obtain ⟨a2, k2⟩ := hcl (i * 5 + 2) (by omega)
        obtain ⟨a3, k3⟩ := hcl (i * 5 + 3) (by omega)
        obtain ⟨a4, k4⟩ := hcl (i * 5 + 4) (by omega)
        have f0 := hfr (i * 5)
        have f1 := hfr (i * 5 + 1)
        have f2 := hfr (i * 5 + 2)
        have f3 := hfr (i * 5 + 3)
        have f4 := hfr (i * 5 + 4)
        clear hcl hfr INV4
        refine tkH (i := 9) (oi := ⟨some 60, _, _, _, _, _⟩) (v := ?_) ?_ ?_
        rotate_left
        · intro w hSw; go_simp; try with_reducible rfl
        try simp only [Act.put, List.setIfInBounds_toArray, List.set_cons_zero, List.set_cons_succ]
        refine wpAnyH_ready (rs := [10]) (by kernel_rfl) (by simp) ?_
        obtain ⟨W5, hW5⟩ : ∃ W5, (((((w4.setCell ⟨g5, i * 5, none⟩ (.int .i64 T1.k)).setCell ⟨g5, i * 5 + 1, none⟩ (.int .i64 T1.lo)).setCell ⟨g5, i * 5 + 2, none⟩ (.int .i64 T1.hi)).setCell ⟨g5, i * 5 + 3, none⟩ (.int .i64 T1.mx)).setCell ⟨g5, i * 5 + 4, none⟩ (.slice A1 n1 c1)) = W5 := ⟨_, rfl⟩
        have HEND : Hid (WI g p (d + 1) v W5 T.k T.lo T.hi T.mx (.slice (some ⟨g5, 0, none⟩) n c) (some ⟨g5, 0, none⟩) n c (l.set i (TyAt.mk T1 A1 n1 c1))) := by rw [← hW5]; exact HPUT
        clear HPUT
        refine AllReadyH.cons (o := ⟨none, _, _, _, _, _⟩) rfl (fun K hK => ?_) AllReadyH.nil
        go_simp
        refine hK.out _ _ trivial (fun hHeld => ?_)
        clear hK K hHeld hW5 k0 k1 k2 k3 k4 f0 f1 f2 f3 f4
        try simp only [Act.put, List.setIfInBounds_toArray, List.set_cons_zero, List.set_cons_succ]
        refine wpAnyH_done (by kernel_rfl) ?_ _
        clear hk hrd1 hT1 hs3 hb3 hs4 hb4
        obtain ⟨⟨q0, q1, q2, q3, q4⟩, _⟩ := HEND.out.box
        obtain ⟨⟨r0, r1, r2, r3, r4⟩, hf⟩ := HBX.out _ HEND.out.but
        have f0 := hf 0
        have f1 := hf 1
        have f2 := hf 2
        have f3 := hf 3
        have f4 := hf 4
        have HD := Lib.hid (HEND.out.done (w := w) ⟨by have := hfb; omega, by have := hfb; omega, by have := hfb; omega, by have := hfb; omega, by have := hfb; omega, by have := hfb; omega, by have := hfb; omega⟩ HVS.out HWV.out hgs)
        clear hf HEND
        go_wp2
        refine bodyPost_ret (v := tyV (.mk T.k T.lo T.hi T.mx ((l.set i (TyAt.mk T1 A1 n1 c1)).map TyAt.T)) (some ⟨g5, 0, none⟩) (n) c) (by simp [results, Tryz.results12, go_sem, r0, r1, r2, r3, r4, Ty.k, Ty.lo, Ty.hi, Ty.mx]) rfl ⟨_, (some ⟨g5, 0, none⟩), n, c, rfl, HD.out.1, HD.out.2.1, HD.out.2.2.1, HD.out.2.2.2⟩

      · go_simp
        go_at_call 11
        (with_reducible refine (HN.out _ HSR.out).mono ?_)
        rintro e3 w3 ⟨y, rfl, ⟨y0, y1⟩, hs3, hb3⟩
        replace hk := hk.trans hb3
        go_wp2_with fail
        refine hK.out _ _ trivial (fun hHeld => ?_)
        clear hK K hHeld
        try simp only [Act.put, List.setIfInBounds_toArray, List.set_cons_zero, List.set_cons_succ]
        refine wpAnyH_ready (rs := [1, 8]) (by kernel_rfl) (by simp) ?_
        refine AllReadyH.cons (o := ⟨some 52, _, _, _, _, _⟩) rfl (fun K hK => ?_) (AllReadyH.cons (o := ⟨some 59, _, _, _, _, _⟩) rfl (fun K hK => ?_) AllReadyH.nil)
        · have q4 := (HP.out _ hk).1.2.2.2.2
          go_simp
          refine hK.out _ _ trivial (fun hHeld => ?_)
          clear hK K hHeld
          try simp only [Act.put, List.setIfInBounds_toArray, List.set_cons_zero, List.set_cons_succ]
          refine wpAnyH_ready (rs := [8]) (by kernel_rfl) (by simp) ?_
          refine AllReadyH.cons (o := ⟨some 59, _, _, _, _, _⟩) rfl (fun K hK => ?_) AllReadyH.nil
          go_simp
          rw [EWD.out]
          go_at_call 12
          (with_reducible refine (HI.out _ _ hs3).mono ?_)
          rintro e4 w4 ⟨T1, A1, n1, c1, rfl, hrd1, hT1, hs4, hb4⟩
          replace hk := hk.trans hb4
          go_wp2_with fail
          refine hK.out _ _ trivial (fun hHeld => ?_)
          clear hK K hHeld
          try simp only [Act.put, List.setIfInBounds_toArray, List.set_cons_zero, List.set_cons_succ]
          obtain ⟨i, rfl⟩ := Int.eq_ofNat_of_zero_le y0
          have hin : i < n := by omega
          have INV4 := INVD.out.butG hs4 (hb3.trans hb4)
          obtain ⟨g5, rfl, hg5, hg6⟩ := row_form INV4.own.row (by omega)
          have HPUT := Lib.hid (INV4.put hin (x := ⟨T1, A1, n1, c1⟩) hrd1 (by have := INV.out.size; have h2 : w2.heap.size ≤ w3.heap.size := hb3.size; omega) (by have h1 := (row_lt INV.out.own.row _ rfl).2; have h2 : w2.heap.size ≤ w3.heap.size := hb3.size; have h3 : g5 < w2.heap.size := h1; omega) hT1)
          have hcl : ∀ j, j < n * 5 → ∃ a, w4.cell? ⟨g5, j, none⟩ = some a := fun j hj => by
            rw [INV4.own.row.cellAt j hj]
            exact ⟨_, List.getElem?_eq_getElem (by rw [tyRow_length, INV4.own.len]; exact hj)⟩
          have hfr := INV4.own.row.frozenAt
          obtain ⟨a0, k0⟩ := hcl (i * 5) (by omega)
          obtain ⟨a1, k1⟩ := hcl (i * 5 + 1) (by omega)
          obtain ⟨a2, k2⟩ := hcl (i * 5 + 2) (by omega)
          obtain ⟨a3, k3⟩ := hcl (i * 5 + 3) (by omega)
          obtain ⟨a4, k4⟩ := hcl (i * 5 + 4) (by omega)
          have f0 := hfr (i * 5)
          have f1 := hfr (i * 5 + 1)
          have f2 := hfr (i * 5 + 2)
          have f3 := hfr (i * 5 + 3)
          have f4 := hfr (i * 5 + 4)
          clear hcl hfr INV4
          refine tkH (i := 9) (oi := ⟨some 60, _, _, _, _, _⟩) (v := ?_) ?_ ?_
          rotate_left
          · intro w hSw; go_simp; try with_reducible rfl
          try simp only [Act.put, List.setIfInBounds_toArray, List.set_cons_zero, List.set_cons_succ]
          refine wpAnyH_ready (rs := [10]) (by kernel_rfl) (by simp) ?_
          obtain ⟨W5, hW5⟩ : ∃ W5, (((((w4.setCell ⟨g5, i * 5, none⟩ (.int .i64 T1.k)).setCell ⟨g5, i * 5 + 1, none⟩ (.int .i64 T1.lo)).setCell ⟨g5, i * 5 + 2, none⟩ (.int .i64 T1.hi)).setCell ⟨g5, i * 5 + 3, none⟩ (.int .i64 T1.mx)).setCell ⟨g5, i * 5 + 4, none⟩ (.slice A1 n1 c1)) = W5 := ⟨_, rfl⟩
          have HEND : Hid (WI g p (d + 1) v W5 T.k T.lo T.hi T.mx (.slice (some ⟨g5, 0, none⟩) n c) (some ⟨g5, 0, none⟩) n c (l.set i (TyAt.mk T1 A1 n1 c1))) := by rw [← hW5]; exact HPUT
          clear HPUT
          refine AllReadyH.cons (o := ⟨none, _, _, _, _, _⟩) rfl (fun K hK => ?_) AllReadyH.nil
          go_simp
          refine hK.out _ _ trivial (fun hHeld => ?_)
          clear hK K hHeld hW5 k0 k1 k2 k3 k4 f0 f1 f2 f3 f4
          try simp only [Act.put, List.setIfInBounds_toArray, List.set_cons_zero, List.set_cons_succ]
          refine wpAnyH_done (by kernel_rfl) ?_ _
          clear hk hrd1 hT1 hs3 hb3 hs4 hb4
          obtain ⟨⟨q0, q1, q2, q3, q4⟩, _⟩ := HEND.out.box
          obtain ⟨⟨r0, r1, r2, r3, r4⟩, hf⟩ := HBX.out _ HEND.out.but
          have f0 := hf 0
          have f1 := hf 1
          have f2 := hf 2
          have f3 := hf 3
          have f4 := hf 4
          have HD := Lib.hid (HEND.out.done (w := w) ⟨by have := hfb; omega, by have := hfb; omega, by have := hfb; omega, by have := hfb; omega, by have := hfb; omega, by have := hfb; omega, by have := hfb; omega⟩ HVS.out HWV.out hgs)
          clear hf HEND
          go_wp2
          refine bodyPost_ret (v := tyV (.mk T.k T.lo T.hi T.mx ((l.set i (TyAt.mk T1 A1 n1 c1)).map TyAt.T)) (some ⟨g5, 0, none⟩) (n) c) (by simp [results, Tryz.results12, go_sem, r0, r1, r2, r3, r4, Ty.k, Ty.lo, Ty.hi, Ty.mx]) rfl ⟨_, (some ⟨g5, 0, none⟩), n, c, rfl, HD.out.1, HD.out.2.1, HD.out.2.2.1, HD.out.2.2.2⟩

        · go_simp
          rw [EWD.out]
          go_at_call 12
          (with_reducible refine (HI.out _ _ hs3).mono ?_)
          rintro e4 w4 ⟨T1, A1, n1, c1, rfl, hrd1, hT1, hs4, hb4⟩
          replace hk := hk.trans hb4
          go_wp2_with fail
          refine hK.out _ _ trivial (fun hHeld => ?_)
          clear hK K hHeld
          try simp only [Act.put, List.setIfInBounds_toArray, List.set_cons_zero, List.set_cons_succ]
          refine wpAnyH_ready (rs := [1]) (by kernel_rfl) (by simp) ?_
          refine AllReadyH.cons (o := ⟨some 52, _, _, _, _, _⟩) rfl (fun K hK => ?_) AllReadyH.nil
          have q4 := (HP.out _ hk).1.2.2.2.2
          go_simp
          refine hK.out _ _ trivial (fun hHeld => ?_)
          clear hK K hHeld
          try simp only [Act.put, List.setIfInBounds_toArray, List.set_cons_zero, List.set_cons_succ]
          obtain ⟨i, rfl⟩ := Int.eq_ofNat_of_zero_le y0
          have hin : i < n := by omega
          have INV4 := INVD.out.butG hs4 (hb3.trans hb4)
          obtain ⟨g5, rfl, hg5, hg6⟩ := row_form INV4.own.row (by omega)
          have HPUT := Lib.hid (INV4.put hin (x := ⟨T1, A1, n1, c1⟩) hrd1 (by have := INV.out.size; have h2 : w2.heap.size ≤ w3.heap.size := hb3.size; omega) (by have h1 := (row_lt INV.out.own.row _ rfl).2; have h2 : w2.heap.size ≤ w3.heap.size := hb3.size; have h3 : g5 < w2.heap.size := h1; omega) hT1)
          have hcl : ∀ j, j < n * 5 → ∃ a, w4.cell? ⟨g5, j, none⟩ = some a := fun j hj => by
            rw [INV4.own.row.cellAt j hj]
            exact ⟨_, List.getElem?_eq_getElem (by rw [tyRow_length, INV4.own.len]; exact hj)⟩
          have hfr := INV4.own.row.frozenAt
          obtain ⟨a0, k0⟩ := hcl (i * 5) (by omega)
          obtain ⟨a1, k1⟩ := hcl (i * 5 + 1) (by omega)
          obtain ⟨a2, k2⟩ := hcl (i * 5 + 2) (by omega)
          obtain ⟨a3, k3⟩ := hcl (i * 5 + 3) (by omega)
          obtain ⟨a4, k4⟩ := hcl (i * 5 + 4) (by omega)
          have f0 := hfr (i * 5)
          have f1 := hfr (i * 5 + 1)
          have f2 := hfr (i * 5 + 2)
          have f3 := hfr (i * 5 + 3)
          have f4 := hfr (i * 5 + 4)
          clear hcl hfr INV4
          refine tkH (i := 9) (oi := ⟨some 60, _, _, _, _, _⟩) (v := ?_) ?_ ?_
          rotate_left
          · intro w hSw; go_simp; try with_reducible rfl
          try simp only [Act.put, List.setIfInBounds_toArray, List.set_cons_zero, List.set_cons_succ]
          refine wpAnyH_ready (rs := [10]) (by kernel_rfl) (by simp) ?_
          obtain ⟨W5, hW5⟩ : ∃ W5, (((((w4.setCell ⟨g5, i * 5, none⟩ (.int .i64 T1.k)).setCell ⟨g5, i * 5 + 1, none⟩ (.int .i64 T1.lo)).setCell ⟨g5, i * 5 + 2, none⟩ (.int .i64 T1.hi)).setCell ⟨g5, i * 5 + 3, none⟩ (.int .i64 T1.mx)).setCell ⟨g5, i * 5 + 4, none⟩ (.slice A1 n1 c1)) = W5 := ⟨_, rfl⟩
          have HEND : Hid (WI g p (d + 1) v W5 T.k T.lo T.hi T.mx (.slice (some ⟨g5, 0, none⟩) n c) (some ⟨g5, 0, none⟩) n c (l.set i (TyAt.mk T1 A1 n1 c1))) := by rw [← hW5]; exact HPUT
          clear HPUT
          refine AllReadyH.cons (o := ⟨none, _, _, _, _, _⟩) rfl (fun K hK => ?_) AllReadyH.nil
          go_simp
          refine hK.out _ _ trivial (fun hHeld => ?_)
          clear hK K hHeld hW5 k0 k1 k2 k3 k4 f0 f1 f2 f3 f4
          try simp only [Act.put, List.setIfInBounds_toArray, List.set_cons_zero, List.set_cons_succ]
          refine wpAnyH_done (by kernel_rfl) ?_ _
          clear hk hrd1 hT1 hs3 hb3 hs4 hb4
          obtain ⟨⟨q0, q1, q2, q3, q4⟩, _⟩ := HEND.out.box
          obtain ⟨⟨r0, r1, r2, r3, r4⟩, hf⟩ := HBX.out _ HEND.out.but
          have f0 := hf 0
          have f1 := hf 1
          have f2 := hf 2
          have f3 := hf 3
          have f4 := hf 4
          have HD := Lib.hid (HEND.out.done (w := w) ⟨by have := hfb; omega, by have := hfb; omega, by have := hfb; omega, by have := hfb; omega, by have := hfb; omega, by have := hfb; omega, by have := hfb; omega⟩ HVS.out HWV.out hgs)
          clear hf HEND
          go_wp2
          refine bodyPost_ret (v := tyV (.mk T.k T.lo T.hi T.mx ((l.set i (TyAt.mk T1 A1 n1 c1)).map TyAt.T)) (some ⟨g5, 0, none⟩) (n) c) (by simp [results, Tryz.results12, go_sem, r0, r1, r2, r3, r4, Ty.k, Ty.lo, Ty.hi, Ty.mx]) rfl ⟨_, (some ⟨g5, 0, none⟩), n, c, rfl, HD.out.1, HD.out.2.1, HD.out.2.2.1, HD.out.2.2.2⟩

  · clear HT1 HI0
    have HPK := Lib.hid (pick_any g _ ⟨w2.heap.size, 0, none⟩ 2 2 (3) 4 (INV.out.src.below (allocB w2 (.cells #[.int .i64 3, .int .i64 4] 3))) (by omega) (by omega) (lits_at w2 #[.int .i64 3, .int .i64 4] 3 2 (3) 4 rfl (litsD)) (by have h1 := INV.out.src.size; show w2.heap.size ≠ g; omega))
    go_wp2_with fail
    refine HPK.out.mono ?_
    rintro e3 w3 ⟨y, rfl, ⟨y0, y1⟩, hs3, hb3⟩
    have INV3 := Lib.hid (INV.out.butG hs3 ((But.of_below (allocB w2 (.cells #[.int .i64 3, .int .i64 4] 3))).trans hb3))
    clear HPK hs3 hb3 INV
    obtain ⟨⟨r0, r1, r2, r3, r4⟩, hf⟩ := HBX.out w3 INV3.out.but
    have f0 := hf 0
    have f1 := hf 1
    have f2 := hf 2
    have f3 := hf 3
    have f4 := hf 4
    have HB5 := Lib.hid (stores5 (Below.refl w.heap.size w3) (Nat.le_refl w.heap.size) (.int .i64 y) (.int .i64 0) (.int .i64 0) (.int .i64 0) (.slice none 0 0))
    clear hf
    go_wp2
    refine bodyPost_ret (v := tyV (.mk y 0 0 0 []) none 0 0) (by simp [results, Tryz.results12, go_sem, r0, r1, r2, r3, r4, Ty.k, Ty.lo, Ty.hi, Ty.mx]) rfl ⟨.mk y 0 0 0 [], none, 0, 0, rfl, TyRd.nil _ _ rfl, ⟨by simp [Ty.lo, Ty.hi, Ty.mx, Ty.es], fun e he => by cases he⟩, INV3.out.src.belowB HB5.out hgs, ((But.of_below HWV.out).trans INV3.out.but).onB HB5.out (Nat.le_refl _)⟩
  · have e0 : (z == 0) = false := by simpa using (show z ≠ 0 by omega)
    have e1 : (z == 1) = false := by simpa using (show z ≠ 1 by omega)
    have e2 : (z == 2) = false := by simpa using (show z ≠ 2 by omega)
    have e3 : (z == 3) = false := by simpa using (show z ≠ 3 by omega)
    have e4 : (z == 4) = false := by simpa using (show z ≠ 4 by omega)
    have e5 : (z == 5) = false := by simpa using (show z ≠ 5 by omega)
    have e6 : (z == 6) = false := by simpa using (show z ≠ 6 by omega)
    have HEND := INV
    clear INV HI0 HT1
    obtain ⟨⟨q0, q1, q2, q3, q4⟩, _⟩ := HEND.out.box
    obtain ⟨⟨r0, r1, r2, r3, r4⟩, hf⟩ := HBX.out _ HEND.out.but
    have f0 := hf 0
    have f1 := hf 1
    have f2 := hf 2
    have f3 := hf 3
    have f4 := hf 4
    have HD := Lib.hid (HEND.out.done (w := w) ⟨by have := hfb; omega, by have := hfb; omega, by have := hfb; omega, by have := hfb; omega, by have := hfb; omega, by have := hfb; omega, by have := hfb; omega⟩ HVS.out HWV.out hgs)
    clear hf HEND
    go_wp2
    refine bodyPost_ret (v := tyV (.mk T.k T.lo T.hi T.mx ((l).map TyAt.T)) A (n) c) (by simp [results, Tryz.results12, go_sem, r0, r1, r2, r3, r4, Ty.k, Ty.lo, Ty.hi, Ty.mx]) rfl ⟨_, A, n, c, rfl, HD.out.1, HD.out.2.1, HD.out.2.2.1, HD.out.2.2.2⟩

theorem wild_x : ∀ d : Nat, d < 3 → ∀ g w, Src w g → Calls Tryz.prog 12 #[.pointer (some ⟨g, 0, none⟩), .int .i64 ((d + 1 : Nat) : Int)] w (GivesWild (d + 1) g w)
  | 0, h => wild_step 0 h (fun h => absurd h (by omega))
  | d + 1, h => wild_step (d + 1) h (fun _ => wild_x d (by omega))
end Go.Proofs.YtklndjkblfncjaaGreatDoor
