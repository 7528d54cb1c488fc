/-
  Words for the builders of types and values: what a call that reads from the source leaves of boxes and rows.
-/
import Derived.Test.YtklndjkblfncjaaDoorRefW7
import Derived.Test.YtklndjkblfncjaaDoorSrc7
namespace Go.Proofs.YtklndjkblfncjaaDoor
open Go Go.RowKit
set_option maxRecDepth 20000

/-- Five cells of a box that may be written. -/
def BoxT (W : World) (b : Nat) (x0 x1 x2 x3 x4 : Value) : Prop := Box5 W b x0 x1 x2 x3 x4 ∧ ∀ j, W.frozen? ⟨b, j, none⟩ = false
theorem boxT_new (w : World) (x0 x1 x2 x3 x4 : Value) (t : TypeId) : BoxT (w.alloc (.cells #[x0, x1, x2, x3, x4] t)) w.heap.size x0 x1 x2 x3 x4 :=
  ⟨box5_new w x0 x1 x2 x3 x4 t, fun j => frozen_of_row _ _ j _ _ (heap_alloc_new w _)⟩
theorem Box5.keep {w W : World} {b : Nat} {x0 x1 x2 x3 x4 : Value} (h : Box5 w b x0 x1 x2 x3 x4) (hb : W.heap[b]? = w.heap[b]?) : Box5 W b x0 x1 x2 x3 x4 := by
  have hc : ∀ j, W.cell? ⟨b, j, none⟩ = w.cell? ⟨b, j, none⟩ := fun j => World.cell?_of_block (w := w) (a := ⟨b, j, none⟩) hb
  obtain ⟨h0, h1, h2, h3, h4⟩ := h
  exact ⟨(hc _).trans h0, (hc _).trans h1, (hc _).trans h2, (hc _).trans h3, (hc _).trans h4⟩
theorem BoxT.keep {w W : World} {b : Nat} {x0 x1 x2 x3 x4 : Value} (h : BoxT w b x0 x1 x2 x3 x4) (hb : W.heap[b]? = w.heap[b]?) : BoxT W b x0 x1 x2 x3 x4 :=
  ⟨h.1.keep hb, fun j => (World.frozen?_of_block (w := w) (a := ⟨b, j, none⟩) hb).trans (h.2 j)⟩
theorem setCell_same2 {w : World} {b j : Nat} {u v : Value} (h : w.cell? ⟨b, j, none⟩ = some u) : (w.setCell ⟨b, j, none⟩ v).cell? ⟨b, j, none⟩ = some v := World.cell?_setCell_same _ _ _ h
theorem setCell_other2 (w : World) {b j i : Nat} (v : Value) (h : i ≠ j) : (w.setCell ⟨b, j, none⟩ v).cell? ⟨b, i, none⟩ = w.cell? ⟨b, i, none⟩ :=
  World.cell?_setCell_other _ _ _ _ (by intro e; injection e with _ e; exact h e.symm)
theorem BoxT.set4 {w : World} {b : Nat} {x0 x1 x2 x3 x4 : Value} (h : BoxT w b x0 x1 x2 x3 x4) (y : Value) : BoxT (w.setCell ⟨b, 4, none⟩ y) b x0 x1 x2 x3 y := by
  obtain ⟨⟨h0, h1, h2, h3, h4⟩, hf⟩ := h
  refine ⟨⟨?_, ?_, ?_, ?_, setCell_same2 h4⟩, fun j => by rw [World.frozen?_setCell]; exact hf j⟩
  · rw [setCell_other2 _ _ (by omega)]; exact h0
  · rw [setCell_other2 _ _ (by omega)]; exact h1
  · rw [setCell_other2 _ _ (by omega)]; exact h2
  · rw [setCell_other2 _ _ (by omega)]; exact h3
theorem Box2.set1 {w : World} {b : Nat} {x0 x1 : Value} (h : Box2 w b x0 x1) (y : Value) : Box2 (w.setCell ⟨b, 1, none⟩ y) b x0 y := by
  obtain ⟨h0, h1, f0, f1⟩ := h
  exact ⟨by rw [setCell_other2 _ _ (by omega)]; exact h0, setCell_same2 h1, by rw [World.frozen?_setCell]; exact f0, by rw [World.frozen?_setCell]; exact f1⟩
theorem Box2.set0 {w : World} {b : Nat} {x0 x1 : Value} (h : Box2 w b x0 x1) (y : Value) : Box2 (w.setCell ⟨b, 0, none⟩ y) b y x1 := by
  obtain ⟨h0, h1, f0, f1⟩ := h
  exact ⟨setCell_same2 h0, by rw [setCell_other2 _ _ (by omega)]; exact h1, by rw [World.frozen?_setCell]; exact f0, by rw [World.frozen?_setCell]; exact f1⟩
theorem TyRd.butG {S : Nat → Prop} {w w' : World} {g d n c : Nat} {T : Ty} {A : Option Addr} (h : TyRd S w d T A n c) (hb : But g w w') (hS : ∀ b, S b → b ≠ g) : TyRd S w' d T A n c :=
  h.keep hb.size (fun b hs hl => hb.block b hl (hS b hs)) fun _ h => h
theorem VlRd.butG {S : Nat → Prop} {w w' : World} {g d n c : Nat} {V : Vl} {A : Option Addr} (h : VlRd S w d V A n c) (hb : But g w w') (hS : ∀ b, S b → b ≠ g) : VlRd S w' d V A n c :=
  h.keep hb.size (fun b hs hl => hb.block b hl (hS b hs)) fun _ h => h
theorem TyOwn.butG {w w' : World} {base g d n c : Nat} {A : Option Addr} {l : List TyAt} (h : TyOwn w base d A n c l) (hb : But g w w') (hg : g < base) : TyOwn w' base d A n c l :=
  ⟨row_keep h.row fun a ha => hb.block _ (row_lt h.row a ha).2 (by have := (row_lt h.row a ha).1; omega), fun x hx => (h.els x hx).butG hb fun b hb => by have := hb.1; omega⟩
theorem VlOwn.butG {w w' : World} {base g d n c : Nat} {A : Option Addr} {l : List VlAt} (h : VlOwn w base d A n c l) (hb : But g w w') (hg : g < base) : VlOwn w' base d A n c l :=
  ⟨row_keep h.row fun a ha => hb.block _ (row_lt h.row a ha).2 (by have := (row_lt h.row a ha).1; omega), fun x hx => (h.els x hx).butG hb fun b hb => by have := hb.1; omega⟩
theorem TyOwn.setB {w : World} {base b j d n c : Nat} {A : Option Addr} {l : List TyAt} {u : Value} (h : TyOwn w base d A n c l) (hb : b < base) : TyOwn (w.setCell ⟨b, j, none⟩ u) base d A n c l :=
  ⟨row_keep h.row fun a ha => Below.heap_setCell _ _ _ _ (by have := (row_lt h.row a ha).1; simp; omega), fun x hx => (h.els x hx).set fun y hy => by have := hy.1; omega⟩
theorem VlOwn.setB {w : World} {base b j d n c : Nat} {A : Option Addr} {l : List VlAt} {u : Value} (h : VlOwn w base d A n c l) (hb : b < base) : VlOwn (w.setCell ⟨b, j, none⟩ u) base d A n c l :=
  ⟨row_keep h.row fun a ha => Below.heap_setCell _ _ _ _ (by have := (row_lt h.row a ha).1; simp; omega), fun x hx => (h.els x hx).set fun y hy => by have := hy.1; omega⟩
/-- A store into a block behind the source's leaves the source. -/
theorem Src.setB {w : World} {g b j : Nat} {u : Value} (h : Src w g) (hb : g < b) : Src (w.setCell ⟨b, j, none⟩ u) g :=
  h.belowB (B := b) ((Below.refl b w).setCell (p := ⟨b, j, none⟩) (Nat.le_refl _) u) hb
theorem But.setB {w w' : World} {g b j : Nat} {u : Value} (h : But g w w') (hb : w.heap.size ≤ b) : But g w (w'.setCell ⟨b, j, none⟩ u) :=
  h.onB (B := b) ((Below.refl b w').setCell (p := ⟨b, j, none⟩) (Nat.le_refl _) u) hb
theorem But.drew {g : Nat} {w w' : World} (h : But g w w') : But g w w'.drew := ⟨h.os, h.tape, h.output, h.size, h.block⟩
theorem TyOwn.drew {w : World} {base d n c : Nat} {A : Option Addr} {l : List TyAt} (h : TyOwn w base d A n c l) : TyOwn w.drew base d A n c l :=
  ⟨h.row, fun x hx => TyRd.keep (w := w) (w' := w.drew) (Nat.le_refl _) (fun _ _ _ => rfl) (fun _ h => h) (h.els x hx)⟩
theorem VlOwn.drew {w : World} {base d n c : Nat} {A : Option Addr} {l : List VlAt} (h : VlOwn w base d A n c l) : VlOwn w.drew base d A n c l :=
  ⟨h.row, fun x hx => VlRd.keep (w := w) (w' := w.drew) (Nat.le_refl _) (fun _ _ _ => rfl) (fun _ h => h) (h.els x hx)⟩
theorem Src.drew {w : World} {g : Nat} (h : Src w g) : Src w.drew g := by
  obtain ⟨A, n, c, p, q, h⟩ := h
  exact ⟨A, n, c, p, q, h.size, h.cL, h.cAt, h.cSites, h.fr, h.p0, h.p1, h.small, h.ints⟩

/-- How many cells a built type of depth d has at most. -/
def wb : Nat → Nat
  | 0 => 0
  | 1 => 1
  | d + 1 => 3 * wb d
/-- A built type. -/
structure Built (d : Nat) (T : Ty) : Prop where
  ok : TyOk d T
  wide : twidth d T ≤ wb d
  kind : T.k = 1 ∨ T.k = 2 ∨ T.k = 5 ∨ T.k = 6
theorem Built.good {d : Nat} {T : Ty} (h : Built d T) (hd : d ≤ 3) : Good d T := by
  refine ⟨h.ok, Nat.le_trans h.wide ?_, by omega⟩
  match d, hd with
  | 0, _ | 1, _ | 2, _ | 3, _ => decide
theorem terr_of {d : Nat} {T : Ty} (h0 : tunused T = 0) : terr (d + 1) T = if T.k = 2 then (if -1000 ≤ T.lo ∧ T.lo ≤ T.hi ∧ T.hi ≤ 1000 then 0 else 1)
    else if T.k = 5 then (if T.es.length < 2 ∨ 4 < T.es.length then 1 else firstE (T.es.map fun e => inTuple e.k (terr d e)))
    else if T.k = 6 then (if T.mx < 1 ∨ 4 < T.mx then 1 else if T.es.length ≠ 1 then 2 else firstE (T.es.map fun e => inList e.k (terr d e)))
    else 0 := by
  rw [terr, if_neg (by rw [h0]; exact fun h => h rfl)]
theorem ok_bool (d : Nat) : TyOk (d + 1) (.mk 1 0 0 0 []) := by
  unfold TyOk
  rw [terr_of (by rfl)]
  rfl
theorem ok_int (d : Nat) {a b : Int} (h : -1000 ≤ a ∧ a ≤ b ∧ b ≤ 1000) : TyOk (d + 1) (.mk 2 a b 0 []) := by
  unfold TyOk
  rw [terr_of (by rfl), if_pos (by rfl)]
  exact if_pos h
theorem ok_tuple (d : Nat) {l : List Ty} (h2 : 2 ≤ l.length) (h4 : l.length ≤ 4) (h : ∀ e ∈ l, TyOk d e ∧ e.k ≠ 3 ∧ e.k ≠ 4) : TyOk (d + 1) (.mk 5 0 0 0 l) := by
  unfold TyOk
  rw [terr_of (by rfl), if_neg (by show ¬ (5 : Int) = 2; decide), if_pos (by rfl), if_neg (by show ¬ (l.length < 2 ∨ 4 < l.length); omega)]
  refine firstE_zero.2 fun x hx => ?_
  obtain ⟨e, he, rfl⟩ := List.mem_map.1 hx
  obtain ⟨h1, h3, h5⟩ := h e he
  have h1' : terr d e = 0 := h1
  unfold inTuple
  rw [if_neg (by rw [h1']; exact fun h => h rfl), if_neg (by omega)]
theorem ok_list (d : Nat) {m : Int} {e : Ty} (h1 : 1 ≤ m) (h4 : m ≤ 4) (h : TyOk d e) (hk : e.k = 1 ∨ e.k = 2) : TyOk (d + 1) (.mk 6 0 0 m [e]) := by
  unfold TyOk
  rw [terr_of (by rfl), if_neg (by show ¬ (6 : Int) = 2; decide), if_neg (by show ¬ (6 : Int) = 5; decide), if_pos (by rfl), if_neg (by show ¬ (m < 1 ∨ 4 < m); omega), if_neg (by show ¬ (1 : Nat) ≠ 1; omega)]
  refine firstE_zero.2 fun x hx => ?_
  obtain ⟨e', he, rfl⟩ := List.mem_map.1 hx
  obtain rfl : e' = e := List.mem_singleton.1 he
  have h1' : terr d e' = 0 := h
  unfold inList
  rw [if_neg (by rw [h1']; exact fun h => h rfl), if_neg (by omega)]
theorem built_bool (d : Nat) (h : d < 3) : Built (d + 1) (.mk 1 0 0 0 []) := by
  refine ⟨ok_bool d, ?_, Or.inl rfl⟩
  match d, h with
  | 0, _ | 1, _ | 2, _ => simp [twidth, Ty.k, wb]
theorem built_int (d : Nat) (h : d < 3) {a b : Int} (hab : -1000 ≤ a ∧ a ≤ b ∧ b ≤ 1000) : Built (d + 1) (.mk 2 a b 0 []) := by
  refine ⟨ok_int d hab, ?_, Or.inr (Or.inl rfl)⟩
  match d, h with
  | 0, _ | 1, _ | 2, _ => simp [twidth, Ty.k, wb]
theorem sum_bound (f : Ty → Nat) (k : Nat) (l : List Ty) (h : ∀ e ∈ l, f e ≤ k) : (l.map f).sum ≤ l.length * k := by
  induction l with
  | nil => simp
  | cons e l ih =>
    rw [List.map_cons, List.sum_cons, List.length_cons, Nat.add_mul]
    have := h e List.mem_cons_self
    have := ih fun x hx => h x (List.mem_cons_of_mem _ hx)
    omega
theorem built_tuple (d : Nat) (h0 : 0 < d) {l : List Ty} (h2 : 2 ≤ l.length) (h3 : l.length ≤ 3) (h : ∀ e ∈ l, Built d e) : Built (d + 1) (.mk 5 0 0 0 l) := by
  refine ⟨ok_tuple d h2 (by omega) fun e he => ⟨(h e he).ok, by have := (h e he).kind; omega, by have := (h e he).kind; omega⟩, ?_, Or.inr (Or.inr (Or.inl rfl))⟩
  obtain ⟨k, rfl⟩ : ∃ k, d = k + 1 := ⟨d - 1, by omega⟩
  have h1 := sum_bound (twidth (k + 1)) (wb (k + 1)) l fun e he => (h e he).wide
  have h4 : twidth (k + 1 + 1) (.mk 5 0 0 0 l) = (l.map (twidth (k + 1))).sum := by simp only [twidth, Ty.k, Ty.es, if_pos]
  have h5 : wb (k + 1 + 1) = 3 * wb (k + 1) := rfl
  rw [h4, h5]
  have : l.length * wb (k + 1) ≤ 3 * wb (k + 1) := Nat.mul_le_mul_right _ h3
  omega
theorem TyOk.up {d : Nat} {e : Ty} (hk : e.k = 1 ∨ e.k = 2) (h : TyOk (d + 1) e) (d' : Nat) : TyOk (d' + 1) e := by
  have h0 := h.unused
  unfold TyOk at *
  rw [terr_of h0] at *
  rcases hk with hk | hk
  · rw [if_neg (by omega), if_neg (by omega), if_neg (by omega)]
  · rw [if_pos hk] at *
    exact h
theorem built_list (d : Nat) (h0 : 0 < d) (h3 : d < 3) {m : Int} {e : Ty} (h1 : 1 ≤ m) (h2 : m ≤ 2) (h : Built 1 e) (hk : e.k = 1 ∨ e.k = 2) : Built (d + 1) (.mk 6 0 0 m [e]) := by
  obtain ⟨k, rfl⟩ : ∃ k, d = k + 1 := ⟨d - 1, by omega⟩
  refine ⟨ok_list _ h1 (by omega) (TyOk.up hk h.ok k) hk, ?_, Or.inr (Or.inr (Or.inr rfl))⟩
  have hw : twidth (k + 1) e = 1 := by simp only [twidth]; rw [if_neg (by omega), if_neg (by omega)]
  have h4 : twidth (k + 1 + 1) (.mk 6 0 0 m [e]) = 1 + m.toNat := by
    rw [twidth]
    simp [Ty.k, Ty.es, Ty.mx, hw]
  rw [h4]
  match k, h3 with
  | 0, _ | 1, _ => simp [wb]; omega
end Go.Proofs.YtklndjkblfncjaaDoor
