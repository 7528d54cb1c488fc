/-
  Words for the builders of types and values: what a call that reads from the source leaves of boxes and rows.
  The builders of types and values: what holds while elements are added.
  exactpplmake.Src.Type: a built type of finite class.
-/
import Derived.Test.YtklndjkblfncjaaGreatDoorRefW7
import Derived.Test.YtklndjkblfncjaaGreatDoorSrc7
namespace Go.Proofs.YtklndjkblfncjaaGreatDoor
open Go Go.RowKit
set_option maxRecDepth 20000

/-- Five cells of a box that may be written. -/
def BoxT (W : World) (b : Nat) (x0 x1 x2 x3 x4 : Value) : Prop := Box5 W b x0 x1 x2 x3 x4 ∧ ∀ j, W.frozen? ⟨b, j, none⟩ = false
theorem boxT_new (w : World) (x0 x1 x2 x3 x4 : Value) (t : TypeId) : BoxT (w.alloc (.cells #[x0, x1, x2, x3, x4] t)) w.heap.size x0 x1 x2 x3 x4 :=
  ⟨box5_new w x0 x1 x2 x3 x4 t, fun j => frozen_of_row _ _ j _ _ (heap_alloc_new w _)⟩
theorem Box5.keep {w W : World} {b : Nat} {x0 x1 x2 x3 x4 : Value} (h : Box5 w b x0 x1 x2 x3 x4) (hb : W.heap[b]? = w.heap[b]?) : Box5 W b x0 x1 x2 x3 x4 := by
  have hc : ∀ j, W.cell? ⟨b, j, none⟩ = w.cell? ⟨b, j, none⟩ := fun j => World.cell?_of_block (w := w) (a := ⟨b, j, none⟩) hb
  obtain ⟨h0, h1, h2, h3, h4⟩ := h
  exact ⟨(hc _).trans h0, (hc _).trans h1, (hc _).trans h2, (hc _).trans h3, (hc _).trans h4⟩
theorem BoxT.keep {w W : World} {b : Nat} {x0 x1 x2 x3 x4 : Value} (h : BoxT w b x0 x1 x2 x3 x4) (hb : W.heap[b]? = w.heap[b]?) : BoxT W b x0 x1 x2 x3 x4 :=
  ⟨h.1.keep hb, fun j => (World.frozen?_of_block (w := w) (a := ⟨b, j, none⟩) hb).trans (h.2 j)⟩
theorem setCell_same2 {w : World} {b j : Nat} {u v : Value} (h : w.cell? ⟨b, j, none⟩ = some u) : (w.setCell ⟨b, j, none⟩ v).cell? ⟨b, j, none⟩ = some v := World.cell?_setCell_same _ _ _ h
theorem setCell_other2 (w : World) {b j i : Nat} (v : Value) (h : i ≠ j) : (w.setCell ⟨b, j, none⟩ v).cell? ⟨b, i, none⟩ = w.cell? ⟨b, i, none⟩ :=
  World.cell?_setCell_other _ _ _ _ (by intro e; injection e with _ e; exact h e.symm)
theorem BoxT.set4 {w : World} {b : Nat} {x0 x1 x2 x3 x4 : Value} (h : BoxT w b x0 x1 x2 x3 x4) (y : Value) : BoxT (w.setCell ⟨b, 4, none⟩ y) b x0 x1 x2 x3 y := by
  obtain ⟨⟨h0, h1, h2, h3, h4⟩, hf⟩ := h
  refine ⟨⟨?_, ?_, ?_, ?_, setCell_same2 h4⟩, fun j => by rw [World.frozen?_setCell]; exact hf j⟩
  · rw [setCell_other2 _ _ (by omega)]; exact h0
  · rw [setCell_other2 _ _ (by omega)]; exact h1
  · rw [setCell_other2 _ _ (by omega)]; exact h2
  · rw [setCell_other2 _ _ (by omega)]; exact h3
theorem Box2.set1 {w : World} {b : Nat} {x0 x1 : Value} (h : Box2 w b x0 x1) (y : Value) : Box2 (w.setCell ⟨b, 1, none⟩ y) b x0 y := by
  obtain ⟨h0, h1, f0, f1⟩ := h
  exact ⟨by rw [setCell_other2 _ _ (by omega)]; exact h0, setCell_same2 h1, by rw [World.frozen?_setCell]; exact f0, by rw [World.frozen?_setCell]; exact f1⟩
theorem Box2.set0 {w : World} {b : Nat} {x0 x1 : Value} (h : Box2 w b x0 x1) (y : Value) : Box2 (w.setCell ⟨b, 0, none⟩ y) b y x1 := by
  obtain ⟨h0, h1, f0, f1⟩ := h
  exact ⟨setCell_same2 h0, by rw [setCell_other2 _ _ (by omega)]; exact h1, by rw [World.frozen?_setCell]; exact f0, by rw [World.frozen?_setCell]; exact f1⟩
theorem TyRd.butG {S : Nat → Prop} {w w' : World} {g d n c : Nat} {T : Ty} {A : Option Addr} (h : TyRd S w d T A n c) (hb : But g w w') (hS : ∀ b, S b → b ≠ g) : TyRd S w' d T A n c :=
  h.keep hb.size (fun b hs hl => hb.block b hl (hS b hs)) fun _ h => h
theorem VlRd.butG {S : Nat → Prop} {w w' : World} {g d n c : Nat} {V : Vl} {A : Option Addr} (h : VlRd S w d V A n c) (hb : But g w w') (hS : ∀ b, S b → b ≠ g) : VlRd S w' d V A n c :=
  h.keep hb.size (fun b hs hl => hb.block b hl (hS b hs)) fun _ h => h
theorem TyOwn.butG {w w' : World} {base g d n c : Nat} {A : Option Addr} {l : List TyAt} (h : TyOwn w base d A n c l) (hb : But g w w') (hg : g < base) : TyOwn w' base d A n c l :=
  ⟨row_keep h.row fun a ha => hb.block _ (row_lt h.row a ha).2 (by have := (row_lt h.row a ha).1; omega), fun x hx => (h.els x hx).butG hb fun b hb => by have := hb.1; omega⟩
theorem VlOwn.butG {w w' : World} {base g d n c : Nat} {A : Option Addr} {l : List VlAt} (h : VlOwn w base d A n c l) (hb : But g w w') (hg : g < base) : VlOwn w' base d A n c l :=
  ⟨row_keep h.row fun a ha => hb.block _ (row_lt h.row a ha).2 (by have := (row_lt h.row a ha).1; omega), fun x hx => (h.els x hx).butG hb fun b hb => by have := hb.1; omega⟩
theorem TyOwn.setB {w : World} {base b j d n c : Nat} {A : Option Addr} {l : List TyAt} {u : Value} (h : TyOwn w base d A n c l) (hb : b < base) : TyOwn (w.setCell ⟨b, j, none⟩ u) base d A n c l :=
  ⟨row_keep h.row fun a ha => Below.heap_setCell _ _ _ _ (by have := (row_lt h.row a ha).1; simp; omega), fun x hx => (h.els x hx).set fun y hy => by have := hy.1; omega⟩
theorem VlOwn.setB {w : World} {base b j d n c : Nat} {A : Option Addr} {l : List VlAt} {u : Value} (h : VlOwn w base d A n c l) (hb : b < base) : VlOwn (w.setCell ⟨b, j, none⟩ u) base d A n c l :=
  ⟨row_keep h.row fun a ha => Below.heap_setCell _ _ _ _ (by have := (row_lt h.row a ha).1; simp; omega), fun x hx => (h.els x hx).set fun y hy => by have := hy.1; omega⟩
/-- A store into a block behind the source's leaves the source. -/
theorem Src.setB {w : World} {g b j : Nat} {u : Value} (h : Src w g) (hb : g < b) : Src (w.setCell ⟨b, j, none⟩ u) g :=
  h.belowB (B := b) ((Below.refl b w).setCell (p := ⟨b, j, none⟩) (Nat.le_refl _) u) hb
theorem But.setB {w w' : World} {g b j : Nat} {u : Value} (h : But g w w') (hb : w.heap.size ≤ b) : But g w (w'.setCell ⟨b, j, none⟩ u) :=
  h.onB (B := b) ((Below.refl b w').setCell (p := ⟨b, j, none⟩) (Nat.le_refl _) u) hb
theorem But.drew {g : Nat} {w w' : World} (h : But g w w') : But g w w'.drew := ⟨h.os, h.tape, h.output, h.size, h.block⟩
theorem TyOwn.drew {w : World} {base d n c : Nat} {A : Option Addr} {l : List TyAt} (h : TyOwn w base d A n c l) : TyOwn w.drew base d A n c l :=
  ⟨h.row, fun x hx => TyRd.keep (w := w) (w' := w.drew) (Nat.le_refl _) (fun _ _ _ => rfl) (fun _ h => h) (h.els x hx)⟩
theorem VlOwn.drew {w : World} {base d n c : Nat} {A : Option Addr} {l : List VlAt} (h : VlOwn w base d A n c l) : VlOwn w.drew base d A n c l :=
  ⟨h.row, fun x hx => VlRd.keep (w := w) (w' := w.drew) (Nat.le_refl _) (fun _ _ _ => rfl) (fun _ h => h) (h.els x hx)⟩
theorem Src.drew {w : World} {g : Nat} (h : Src w g) : Src w.drew g := by
  obtain ⟨A, n, c, p, q, h⟩ := h
  exact ⟨A, n, c, p, q, h.size, h.cL, h.cAt, h.cSites, h.fr, h.p0, h.p1, h.small, h.ints⟩

/-- How many cells a built type of depth d has at most. -/
def wb : Nat → Nat
  | 0 => 0
  | 1 => 1
  | d + 1 => 3 * wb d
/-- A built type. -/
structure Built (d : Nat) (T : Ty) : Prop where
  ok : TyOk d T
  wide : twidth d T ≤ wb d
  kind : T.k = 1 ∨ T.k = 2 ∨ T.k = 5 ∨ T.k = 6
theorem Built.good {d : Nat} {T : Ty} (h : Built d T) (hd : d ≤ 3) : Good d T := by
  refine ⟨h.ok, Nat.le_trans h.wide ?_, by omega⟩
  match d, hd with
  | 0, _ | 1, _ | 2, _ | 3, _ => decide
theorem terr_of {d : Nat} {T : Ty} (h0 : tunused T = 0) : terr (d + 1) T = if T.k = 2 then (if -1000 ≤ T.lo ∧ T.lo ≤ T.hi ∧ T.hi ≤ 1000 then 0 else 1)
    else if T.k = 5 then (if T.es.length < 2 ∨ 4 < T.es.length then 1 else firstE (T.es.map fun e => inTuple e.k (terr d e)))
    else if T.k = 6 then (if T.mx < 1 ∨ 4 < T.mx then 1 else if T.es.length ≠ 1 then 2 else firstE (T.es.map fun e => inList e.k (terr d e)))
    else 0 := by
  rw [terr, if_neg (by rw [h0]; exact fun h => h rfl)]
theorem ok_bool (d : Nat) : TyOk (d + 1) (.mk 1 0 0 0 []) := by
  unfold TyOk
  rw [terr_of (by rfl)]
  rfl
theorem ok_int (d : Nat) {a b : Int} (h : -1000 ≤ a ∧ a ≤ b ∧ b ≤ 1000) : TyOk (d + 1) (.mk 2 a b 0 []) := by
  unfold TyOk
  rw [terr_of (by rfl), if_pos (by rfl)]
  exact if_pos h
theorem ok_tuple (d : Nat) {l : List Ty} (h2 : 2 ≤ l.length) (h4 : l.length ≤ 4) (h : ∀ e ∈ l, TyOk d e ∧ e.k ≠ 3 ∧ e.k ≠ 4) : TyOk (d + 1) (.mk 5 0 0 0 l) := by
  unfold TyOk
  rw [terr_of (by rfl), if_neg (by show ¬ (5 : Int) = 2; decide), if_pos (by rfl), if_neg (by show ¬ (l.length < 2 ∨ 4 < l.length); omega)]
  refine firstE_zero.2 fun x hx => ?_
  obtain ⟨e, he, rfl⟩ := List.mem_map.1 hx
  obtain ⟨h1, h3, h5⟩ := h e he
  have h1' : terr d e = 0 := h1
  unfold inTuple
  rw [if_neg (by rw [h1']; exact fun h => h rfl), if_neg (by omega)]
theorem ok_list (d : Nat) {m : Int} {e : Ty} (h1 : 1 ≤ m) (h4 : m ≤ 4) (h : TyOk d e) (hk : e.k = 1 ∨ e.k = 2) : TyOk (d + 1) (.mk 6 0 0 m [e]) := by
  unfold TyOk
  rw [terr_of (by rfl), if_neg (by show ¬ (6 : Int) = 2; decide), if_neg (by show ¬ (6 : Int) = 5; decide), if_pos (by rfl), if_neg (by show ¬ (m < 1 ∨ 4 < m); omega), if_neg (by show ¬ (1 : Nat) ≠ 1; omega)]
  refine firstE_zero.2 fun x hx => ?_
  obtain ⟨e', he, rfl⟩ := List.mem_map.1 hx
  obtain rfl : e' = e := List.mem_singleton.1 he
  have h1' : terr d e' = 0 := h
  unfold inList
  rw [if_neg (by rw [h1']; exact fun h => h rfl), if_neg (by omega)]
theorem built_bool (d : Nat) (h : d < 3) : Built (d + 1) (.mk 1 0 0 0 []) := by
  refine ⟨ok_bool d, ?_, Or.inl rfl⟩
  match d, h with
  | 0, _ | 1, _ | 2, _ => simp [twidth, Ty.k, wb]
theorem built_int (d : Nat) (h : d < 3) {a b : Int} (hab : -1000 ≤ a ∧ a ≤ b ∧ b ≤ 1000) : Built (d + 1) (.mk 2 a b 0 []) := by
  refine ⟨ok_int d hab, ?_, Or.inr (Or.inl rfl)⟩
  match d, h with
  | 0, _ | 1, _ | 2, _ => simp [twidth, Ty.k, wb]
theorem sum_bound (f : Ty → Nat) (k : Nat) (l : List Ty) (h : ∀ e ∈ l, f e ≤ k) : (l.map f).sum ≤ l.length * k := by
  induction l with
  | nil => simp
  | cons e l ih =>
    rw [List.map_cons, List.sum_cons, List.length_cons, Nat.add_mul]
    have := h e List.mem_cons_self
    have := ih fun x hx => h x (List.mem_cons_of_mem _ hx)
    omega
theorem built_tuple (d : Nat) (h0 : 0 < d) {l : List Ty} (h2 : 2 ≤ l.length) (h3 : l.length ≤ 3) (h : ∀ e ∈ l, Built d e) : Built (d + 1) (.mk 5 0 0 0 l) := by
  refine ⟨ok_tuple d h2 (by omega) fun e he => ⟨(h e he).ok, by have := (h e he).kind; omega, by have := (h e he).kind; omega⟩, ?_, Or.inr (Or.inr (Or.inl rfl))⟩
  obtain ⟨k, rfl⟩ : ∃ k, d = k + 1 := ⟨d - 1, by omega⟩
  have h1 := sum_bound (twidth (k + 1)) (wb (k + 1)) l fun e he => (h e he).wide
  have h4 : twidth (k + 1 + 1) (.mk 5 0 0 0 l) = (l.map (twidth (k + 1))).sum := by simp only [twidth, Ty.k, Ty.es, if_pos]
  have h5 : wb (k + 1 + 1) = 3 * wb (k + 1) := rfl
  rw [h4, h5]
  have : l.length * wb (k + 1) ≤ 3 * wb (k + 1) := Nat.mul_le_mul_right _ h3
  omega
theorem TyOk.up {d : Nat} {e : Ty} (hk : e.k = 1 ∨ e.k = 2) (h : TyOk (d + 1) e) (d' : Nat) : TyOk (d' + 1) e := by
  have h0 := h.unused
  unfold TyOk at *
  rw [terr_of h0] at *
  rcases hk with hk | hk
  · rw [if_neg (by omega), if_neg (by omega), if_neg (by omega)]
  · rw [if_pos hk] at *
    exact h
theorem built_list (d : Nat) (h0 : 0 < d) (h3 : d < 3) {m : Int} {e : Ty} (h1 : 1 ≤ m) (h2 : m ≤ 2) (h : Built 1 e) (hk : e.k = 1 ∨ e.k = 2) : Built (d + 1) (.mk 6 0 0 m [e]) := by
  obtain ⟨k, rfl⟩ : ∃ k, d = k + 1 := ⟨d - 1, by omega⟩
  refine ⟨ok_list _ h1 (by omega) (TyOk.up hk h.ok k) hk, ?_, Or.inr (Or.inr (Or.inr rfl))⟩
  have hw : twidth (k + 1) e = 1 := by simp only [twidth]; rw [if_neg (by omega), if_neg (by omega)]
  have h4 : twidth (k + 1 + 1) (.mk 6 0 0 m [e]) = 1 + m.toNat := by
    rw [twidth]
    simp [Ty.k, Ty.es, Ty.mx, hw]
  rw [h4]
  match k, h3 with
  | 0, _ | 1, _ => simp [wb]; omega
end Go.Proofs.YtklndjkblfncjaaGreatDoor

namespace Go.Proofs.YtklndjkblfncjaaGreatDoor
open Go Go.RowKit
set_option maxRecDepth 20000

/-- While elements are added: the box at p, the call's own row behind it, the source. -/
structure TInv (g p d : Nat) (v W : World) (S4 : Value) (Q : Option Addr) (n q : Nat) (l : List TyAt) : Prop where
  box : BoxT W p (.int .i64 5) (.int .i64 0) (.int .i64 0) (.int .i64 0) S4
  own : TyOwn W (p + 1) d Q n q l
  good : ∀ x ∈ l, Built d x.T
  src : Src W g
  but : But g v W
  size : p + 1 ≤ W.heap.size
  vs : v.heap.size ≤ p
  gp : g < v.heap.size
section
variable {g p d n q : Nat} {v W : World} {S4 : Value} {Q : Option Addr} {l : List TyAt}
theorem TInv.boxAt (h : TInv g p d v W S4 Q n q l) : ∀ W1, But g W.drew W1 → BoxT W1 p (.int .i64 5) (.int .i64 0) (.int .i64 0) (.int .i64 0) S4 := fun W1 hb =>
  h.box.keep (hb.block p (by have := h.size; show p < W.heap.size; omega) (by have := h.gp; have := h.vs; omega))
theorem TInv.tail (h : TInv g p d v W S4 Q n q l) {x : TyAt} {w1 : World} (hx : TyRd (fun b => W.drew.heap.size ≤ b) w1 d x.T x.A x.n x.c) (hb : But g W.drew w1) :
    TyOwn (w1.alloc (.cells x.cells.toArray 24)) (p + 1) d Q n q l ∧ (∀ j u, x.cells[j]? = some u → (w1.alloc (.cells x.cells.toArray 24)).cell? ((⟨w1.heap.size, 0, none⟩ : Addr).add j) = some u) ∧ TyRd (fun b => p + 1 ≤ b ∧ offA Q b) (w1.alloc (.cells x.cells.toArray 24)) d x.T x.A x.n x.c := by
  have hg : g < p + 1 := by have := h.gp; have := h.vs; omega
  refine ⟨(h.own.drew.butG hb hg).below (allocB _ _), fun j u hu => World.news_of_block (heap_alloc_new w1 _) j u (by simpa using hu), ?_⟩
  refine (hx.below (allocB _ _)).in fun b hb' => ?_
  have hs : W.heap.size ≤ b := hb'
  refine ⟨by have := h.size; omega, fun a ha => ?_⟩
  have := (row_lt h.own.row a ha).2
  omega
theorem TInv.added (h : TInv g p d v W S4 Q n q l) {x : TyAt} {w1 w3 : World} {g3 c3 : Nat} (hx : TyRd (fun b => W.drew.heap.size ≤ b) w1 d x.T x.A x.n x.c) (hgood : Built d x.T) (hs : Src w1 g) (hb : But g W.drew w1)
    (hown : w3.ownsRow (p + 1) 24 5 (.slice (some ⟨g3, 0, none⟩) (n + 1) c3) (n + 1) (tyRow l ++ x.cells)) (hgrow : (w1.alloc (.cells x.cells.toArray 24)).grownBy w3 (Value.ownBlock (.slice Q n q))) (hat : Value.ownBlock (.slice Q n q) = some g3 ∨ g3 = w1.heap.size + 1) :
    TInv g p d v w3 S4 (some ⟨g3, 0, none⟩) (n + 1) c3 (l ++ [x]) := by
  obtain ⟨hO, _, hX⟩ := h.tail hx hb
  have hsz1 : W.heap.size ≤ w1.heap.size := hb.size
  have hpw := h.size
  have hB : Below (p + 1) w1 w3 := grown_own (((Below.refl (p + 1) w1).alloc (by omega) _)) hO.row hgrow (by rw [World.size_alloc]; omega)
  have hgp : g < p + 1 := by have := h.gp; have := h.vs; omega
  refine ⟨?_, hO.push hX hown hgrow (by rw [World.size_alloc]; exact hat), fun y hy => ?_, hs.belowB hB hgp, ?_, by have := hB.size; omega, h.vs, h.gp⟩
  · exact (h.boxAt w1 hb).keep (hB.block p (by omega))
  · rcases List.mem_append.1 hy with hy | hy
    · exact h.good y hy
    · first | trivial | (rw [List.mem_singleton.1 hy]; exact hgood)
  · refine (h.but.trans (But.drew (But.refl g W))).trans hb |>.onB hB ?_
    have := h.vs; omega
theorem TInv.stored (h : TInv g p d v W S4 Q n q l) (y : Value) : TInv g p d v (W.setCell ⟨p, 4, none⟩ y) y Q n q l := by
  refine ⟨h.box.set4 y, h.own.setB (by omega), h.good, h.src.setB (by have := h.gp; have := h.vs; omega), h.but.setB h.vs, by simp [World.setCell]; exact h.size, h.vs, h.gp⟩
end

/-- While elements are added: the box at p, the call's own row behind it, the source. -/
structure VInv (g p d : Nat) (v W : World) (S4 : Value) (Q : Option Addr) (n q : Nat) (l : List VlAt) (x0 : Int) : Prop where
  box : Box2 W p (.int .i64 x0) S4
  own : VlOwn W (p + 1) d Q n q l
  good : ∀ x ∈ l, True
  src : Src W g
  but : But g v W
  size : p + 1 ≤ W.heap.size
  vs : v.heap.size ≤ p
  gp : g < v.heap.size
section
variable {g p d n q : Nat} {v W : World} {S4 : Value} {Q : Option Addr} {l : List VlAt} {x0 : Int}
theorem VInv.boxAt (h : VInv g p d v W S4 Q n q l x0) : ∀ W1, But g W.drew W1 → Box2 W1 p (.int .i64 x0) S4 := fun W1 hb =>
  h.box.keep (hb.block p (by have := h.size; show p < W.heap.size; omega) (by have := h.gp; have := h.vs; omega))
theorem VInv.tail (h : VInv g p d v W S4 Q n q l x0) {x : VlAt} {w1 : World} (hx : VlRd (fun b => W.drew.heap.size ≤ b) w1 d x.V x.A x.n x.c) (hb : But g W.drew w1) :
    VlOwn (w1.alloc (.cells x.cells.toArray 27)) (p + 1) d Q n q l ∧ (∀ j u, x.cells[j]? = some u → (w1.alloc (.cells x.cells.toArray 27)).cell? ((⟨w1.heap.size, 0, none⟩ : Addr).add j) = some u) ∧ VlRd (fun b => p + 1 ≤ b ∧ offA Q b) (w1.alloc (.cells x.cells.toArray 27)) d x.V x.A x.n x.c := by
  have hg : g < p + 1 := by have := h.gp; have := h.vs; omega
  refine ⟨(h.own.drew.butG hb hg).below (allocB _ _), fun j u hu => World.news_of_block (heap_alloc_new w1 _) j u (by simpa using hu), ?_⟩
  refine (hx.below (allocB _ _)).in fun b hb' => ?_
  have hs : W.heap.size ≤ b := hb'
  refine ⟨by have := h.size; omega, fun a ha => ?_⟩
  have := (row_lt h.own.row a ha).2
  omega
theorem VInv.added (h : VInv g p d v W S4 Q n q l x0) {x : VlAt} {w1 w3 : World} {g3 c3 : Nat} (hx : VlRd (fun b => W.drew.heap.size ≤ b) w1 d x.V x.A x.n x.c) (_hgood : True) (hs : Src w1 g) (hb : But g W.drew w1)
    (hown : w3.ownsRow (p + 1) 27 2 (.slice (some ⟨g3, 0, none⟩) (n + 1) c3) (n + 1) (vlRow l ++ x.cells)) (hgrow : (w1.alloc (.cells x.cells.toArray 27)).grownBy w3 (Value.ownBlock (.slice Q n q))) (hat : Value.ownBlock (.slice Q n q) = some g3 ∨ g3 = w1.heap.size + 1) :
    VInv g p d v w3 S4 (some ⟨g3, 0, none⟩) (n + 1) c3 (l ++ [x]) x0 := by
  obtain ⟨hO, _, hX⟩ := h.tail hx hb
  have hsz1 : W.heap.size ≤ w1.heap.size := hb.size
  have hpw := h.size
  have hB : Below (p + 1) w1 w3 := grown_own (((Below.refl (p + 1) w1).alloc (by omega) _)) hO.row hgrow (by rw [World.size_alloc]; omega)
  have hgp : g < p + 1 := by have := h.gp; have := h.vs; omega
  refine ⟨?_, hO.push hX hown hgrow (by rw [World.size_alloc]; exact hat), fun y hy => ?_, hs.belowB hB hgp, ?_, by have := hB.size; omega, h.vs, h.gp⟩
  · exact (h.boxAt w1 hb).keep (hB.block p (by omega))
  · rcases List.mem_append.1 hy with hy | hy
    · exact h.good y hy
    · first | trivial | (rw [List.mem_singleton.1 hy]; exact hgood)
  · refine (h.but.trans (But.drew (But.refl g W))).trans hb |>.onB hB ?_
    have := h.vs; omega
theorem VInv.stored (h : VInv g p d v W S4 Q n q l x0) (y : Value) : VInv g p d v (W.setCell ⟨p, 1, none⟩ y) y Q n q l x0 := by
  refine ⟨h.box.set1 y, h.own.setB (by omega), h.good, h.src.setB (by have := h.gp; have := h.vs; omega), h.but.setB h.vs, by simp [World.setCell]; exact h.size, h.vs, h.gp⟩
end
theorem VInv.int {g p d n q : Nat} {v W : World} {S4 : Value} {Q : Option Addr} {l : List VlAt} {x0 : Int} (h : VInv g p d v W S4 Q n q l x0) (y : Int) : VInv g p d v (W.setCell ⟨p, 0, none⟩ (.int .i64 y)) S4 Q n q l y :=
  ⟨h.box.set0 _, h.own.setB (by omega), h.good, h.src.setB (by have := h.gp; have := h.vs; omega), h.but.setB h.vs, by simp [World.setCell]; exact h.size, h.vs, h.gp⟩
/-- A call that leaves all but the source keeps what has been built. -/
theorem VInv.butG {g p d n q : Nat} {v W W' : World} {S4 : Value} {Q : Option Addr} {l : List VlAt} {x0 : Int} (h : VInv g p d v W S4 Q n q l x0) (hs : Src W' g) (hb : But g W W') : VInv g p d v W' S4 Q n q l x0 := by
  have h1 := h.gp
  have h2 := h.vs
  have h3 := h.size
  exact ⟨h.box.keep (hb.block p (by omega) (by omega)), h.own.butG hb (by omega), h.good, hs, h.but.trans hb, Nat.le_trans h3 hb.size, h2, h1⟩
theorem VInv.drew {g p d n q : Nat} {v W : World} {S4 : Value} {Q : Option Addr} {l : List VlAt} {x0 : Int} (h : VInv g p d v W S4 Q n q l x0) : VInv g p d v W.drew S4 Q n q l x0 :=
  h.butG h.src.drew (But.drew (But.refl g W))
end Go.Proofs.YtklndjkblfncjaaGreatDoor

namespace Go.Proofs.YtklndjkblfncjaaGreatDoor
open Go Go.RowKit
set_option maxRecDepth 20000

theorem TyRd.bound {S : Nat → Prop} {w : World} : ∀ {d : Nat} {T : Ty} {A : Option Addr} {n c : Nat}, TyRd S w d T A n c → TyRd (fun b => S b ∧ b < w.heap.size) w d T A n c
  | 0, _, _, _, _, h => h
  | d + 1, T, A, n, c, h => ⟨h.1, fun i e he => by
    obtain ⟨g, o, A', n', c', hA, hg, hl, hc, hr⟩ := h.2 i e he
    exact ⟨g, o, A', n', c', hA, ⟨hg, hl⟩, hl, hc, hr.bound⟩⟩
theorem VlRd.bound {S : Nat → Prop} {w : World} : ∀ {d : Nat} {V : Vl} {A : Option Addr} {n c : Nat}, VlRd S w d V A n c → VlRd (fun b => S b ∧ b < w.heap.size) w d V A n c
  | 0, _, _, _, _, h => h
  | d + 1, V, A, n, c, h => ⟨h.1, fun i e he => by
    obtain ⟨g, o, A', n', c', hA, hg, hl, hc, hr⟩ := h.2 i e he
    exact ⟨g, o, A', n', c', hA, ⟨hg, hl⟩, hl, hc, hr.bound⟩⟩
/-- A built type comes back, in memory of its own; at most the source's block has changed. -/
def GivesTy (d g : Nat) (w : World) (e : Ending) (w' : World) : Prop := ∃ T A n c, e = .returned (tyV T A n c) ∧ TyRd (fun b => w.heap.size ≤ b) w' d T A n c ∧ Built d T ∧ Src w' g ∧ But g w w'

/-- The same, with the row. -/
def GivesTyO (d g : Nat) (w : World) (e : Ending) (w' : World) : Prop := ∃ T A n c l, e = .returned (tyV T A n c) ∧ TyOwn w' w.heap.size (d - 1) A n c l ∧ T.es = l.map TyAt.T ∧ Built d T ∧ Src w' g ∧ But g w w'
theorem GivesTyO.ty {d g : Nat} {w : World} {e : Ending} {w' : World} (h : GivesTyO (d + 1) g w e w') : GivesTy (d + 1) g w e w' := by
  obtain ⟨T, A, n, c, l, he, ho, ht, hb⟩ := h
  exact ⟨T, A, n, c, he, ho.rd T ht, hb⟩
theorem TyOwn.baseTo {w : World} {base base' d n c : Nat} {A : Option Addr} {l : List TyAt} (h : TyOwn w base d A n c l) (hb : base' ≤ base) : TyOwn w base' d A n c l := by
  refine ⟨⟨h.row.1, ?_⟩, fun x hx => (h.els x hx).in fun b hb' => ⟨Nat.le_trans hb hb'.1, hb'.2⟩⟩
  rcases h.row.2 with e | ⟨g, cap, cur, e, hg, rest⟩
  · exact .inl e
  · exact .inr ⟨g, cap, cur, e, Nat.le_trans hb hg, rest⟩
theorem TyOwn.stores5 {w : World} {base b d n c : Nat} {A : Option Addr} {l : List TyAt} (h : TyOwn w base d A n c l) (hb : b < base) (y0 y1 y2 y3 y4 : Value) :
    TyOwn (((((w.setCell ⟨b, 0, none⟩ y0).setCell ⟨b, 1, none⟩ y1).setCell ⟨b, 2, none⟩ y2).setCell ⟨b, 3, none⟩ y3).setCell ⟨b, 4, none⟩ y4) base d A n c l :=
  ((((h.setB hb).setB hb).setB hb).setB hb).setB hb

/-- The five stores of a type into a box that may be written. -/
theorem BoxT.all {w : World} {b : Nat} {x0 x1 x2 x3 x4 : Value} (h : BoxT w b x0 x1 x2 x3 x4) (y0 y1 y2 y3 y4 : Value) :
    BoxT (((((w.setCell ⟨b, 0, none⟩ y0).setCell ⟨b, 1, none⟩ y1).setCell ⟨b, 2, none⟩ y2).setCell ⟨b, 3, none⟩ y3).setCell ⟨b, 4, none⟩ y4) b y0 y1 y2 y3 y4 := by
  obtain ⟨⟨h0, h1, h2, h3, h4⟩, hf⟩ := h
  refine ⟨⟨?_, ?_, ?_, ?_, ?_⟩, fun j => by simp only [World.frozen?_setCell]; exact hf j⟩
  · rw [setCell_other2 _ _ (by omega), setCell_other2 _ _ (by omega), setCell_other2 _ _ (by omega), setCell_other2 _ _ (by omega)]; exact setCell_same2 h0
  · rw [setCell_other2 _ _ (by omega), setCell_other2 _ _ (by omega), setCell_other2 _ _ (by omega)]; refine setCell_same2 (u := x1) ?_; rw [setCell_other2 _ _ (by omega)]; exact h1
  · rw [setCell_other2 _ _ (by omega), setCell_other2 _ _ (by omega)]; refine setCell_same2 (u := x2) ?_; rw [setCell_other2 _ _ (by omega), setCell_other2 _ _ (by omega)]; exact h2
  · rw [setCell_other2 _ _ (by omega)]; refine setCell_same2 (u := x3) ?_; rw [setCell_other2 _ _ (by omega), setCell_other2 _ _ (by omega), setCell_other2 _ _ (by omega)]; exact h3
  · refine setCell_same2 (u := x4) ?_; rw [setCell_other2 _ _ (by omega), setCell_other2 _ _ (by omega), setCell_other2 _ _ (by omega), setCell_other2 _ _ (by omega)]; exact h4
theorem stores5_heap {b k : Nat} {w : World} (hk : k ≠ b) (y0 y1 y2 y3 y4 : Value) :
    (((((w.setCell ⟨b, 0, none⟩ y0).setCell ⟨b, 1, none⟩ y1).setCell ⟨b, 2, none⟩ y2).setCell ⟨b, 3, none⟩ y3).setCell ⟨b, 4, none⟩ y4).heap[k]? = w.heap[k]? := by
  rw [Below.heap_setCell _ _ _ _ hk, Below.heap_setCell _ _ _ _ hk, Below.heap_setCell _ _ _ _ hk, Below.heap_setCell _ _ _ _ hk, Below.heap_setCell _ _ _ _ hk]
theorem TyRd.stores5 {S : Nat → Prop} {w : World} {d b n c : Nat} {T : Ty} {A : Option Addr} (h : TyRd S w d T A n c) (hS : ∀ x, S x → x ≠ b) (y0 y1 y2 y3 y4 : Value) :
    TyRd S (((((w.setCell ⟨b, 0, none⟩ y0).setCell ⟨b, 1, none⟩ y1).setCell ⟨b, 2, none⟩ y2).setCell ⟨b, 3, none⟩ y3).setCell ⟨b, 4, none⟩ y4) d T A n c :=
  h.keep (by simp [World.setCell]) (fun x hx _ => stores5_heap (hS x hx) _ _ _ _ _) fun _ h => h
theorem TyRd.one_leaf {S : Nat → Prop} {w : World} {n c : Nat} {T : Ty} {A : Option Addr} (h : TyRd S w 1 T A n c) (hk : Built 1 T) : T.k = 1 ∨ T.k = 2 := by
  have hn : T.es = [] := by
    cases he : T.es with
    | nil => rfl
    | cons e l => exact (h.deep e (by rw [he]; exact List.mem_cons_self)).elim
  rcases hk.kind with h1 | h1 | h1 | h1
  · exact .inl h1
  · exact .inr h1
  · have := (hk.ok.tuple h1).2.1
    rw [hn] at this; simp at this
  · obtain ⟨_, _, _, e, he, _⟩ := hk.ok.list h1
    rw [hn] at he; cases he
theorem TyOwn.lit (w : World) {base d : Nat} (hb : base ≤ w.heap.size) (x : TyAt) (hx : TyRd (fun b => base ≤ b) w d x.T x.A x.n x.c) :
    TyOwn (w.alloc (.cells #[.int .i64 x.T.k, .int .i64 x.T.lo, .int .i64 x.T.hi, .int .i64 x.T.mx, .slice x.A x.n x.c] 24)) base d (some ⟨w.heap.size, 0, none⟩) 1 1 [x] := by
  refine ⟨⟨rfl, .inr ⟨w.heap.size, 1, #[.int .i64 x.T.k, .int .i64 x.T.lo, .int .i64 x.T.hi, .int .i64 x.T.mx, .slice x.A x.n x.c], rfl, hb, heap_alloc_new w _, Nat.le_refl _, by decide, rfl, by simp [tyRow, TyAt.cells]⟩⟩, fun y hy => ?_⟩
  rw [List.mem_singleton.1 hy]
  have h1 : TyRd (fun b => base ≤ b ∧ b < w.heap.size) w d x.T x.A x.n x.c := hx.bound
  refine (h1.below (allocB _ _)).in fun b hb => ⟨hb.1, fun a ha => ?_⟩
  injection ha with ha
  subst ha
  show w.heap.size ≠ b
  have := hb.2; omega
/-- What the five stores leave, behind everything that was there. -/
theorem stores5 {B b : Nat} {w0 w : World} (h : Below B w0 w) (hb : B ≤ b) (y0 y1 y2 y3 y4 : Value) :
    Below B w0 (((((w.setCell ⟨b, 0, none⟩ y0).setCell ⟨b, 1, none⟩ y1).setCell ⟨b, 2, none⟩ y2).setCell ⟨b, 3, none⟩ y3).setCell ⟨b, 4, none⟩ y4) :=
  ((((h.setCell (p := ⟨b, 0, none⟩) hb y0).setCell (p := ⟨b, 1, none⟩) hb y1).setCell (p := ⟨b, 2, none⟩) hb y2).setCell (p := ⟨b, 3, none⟩) hb y3).setCell (p := ⟨b, 4, none⟩) hb y4

set_option maxHeartbeats 16000000 in
theorem type_step (d : Nat) (h3 : d < 3) (I1 : 0 < d → ∀ g w, Src w g → Calls Tryz.prog 10 #[.pointer (some ⟨g, 0, none⟩), .int .i64 (1 : Int)] w (GivesTy 1 g w))
    (I : 0 < d → ∀ g w, Src w g → Calls Tryz.prog 10 #[.pointer (some ⟨g, 0, none⟩), .int .i64 (d : Int)] w (GivesTy d g w)) (g : Nat) (w : World) (hs : Src w g) :
    Calls Tryz.prog 10 #[.pointer (some ⟨g, 0, none⟩), .int .i64 ((d + 1 : Nat) : Int)] w (GivesTyO (d + 1) g w) := by
  obtain ⟨i0, hi, hy0, hy1, hy2⟩ := info_parts info_type
  obtain ⟨v, hv⟩ : ∃ v, w.alloc (.cells #[.int .i64 0, .int .i64 0, .int .i64 0, .int .i64 0, .slice none 0 0] 24) = v := ⟨_, rfl⟩
  have hvs : v.heap.size = w.heap.size + 1 := by rw [← hv]; simp
  have hwv : Below w.heap.size w v := by rw [← hv]; exact allocB _ _
  have hsv := hs.below hwv
  have hgs := hs.size
  have HB0 : Hid (BoxT v w.heap.size (.int .i64 0) (.int .i64 0) (.int .i64 0) (.int .i64 0) (.slice none 0 0)) := by rw [← hv]; exact boxT_new _ _ _ _ _ _ _
  have HBX : Hid (∀ W, But g v W → BoxT W w.heap.size (.int .i64 0) (.int .i64 0) (.int .i64 0) (.int .i64 0) (.slice none 0 0)) := fun W hb => HB0.out.keep (hb.block _ (by omega) (by omega))
  have HV := Lib.hid hv
  have HWV := Lib.hid hwv
  have HVS := Lib.hid hvs
  have HI1 := Lib.hid I1
  have HI0 := Lib.hid I
  have ed : ((d + 1 : Nat) : Int) - 1 = (d : Int) := by omega
  have EWD : Hid (IntKind.i64.wrap (d : Int) = (d : Int)) := by show _ = _; rw [IntKind.wrap_i64]; omega
  clear hv hwv hs hvs I1 I
  go_enter Tryz.func10, Tryz.ntmps10
  go_wp2_with fail
  rw [HV.out]
  refine (N_any g v _ hsv (by omega) (by omega)).mono ?_
  rintro e1 w1 ⟨z1, rfl, ⟨za, zb⟩, hs1, hb1⟩
  by_cases hd0 : d = 0
  · subst hd0
    go_wp2_with fail
    refine (N_any g w1 _ hs1 (by omega) (by omega)).mono ?_
    rintro e2 w2 ⟨z2, rfl, ⟨zc, zd⟩, hs2, hb2⟩
    have HSB : Hid (Src w2 g ∧ But g v w2) := ⟨hs2, hb1.trans hb2⟩
    by_cases k0 : z2 = 0
    · subst k0
      obtain ⟨⟨r0, r1, r2, r3, r4⟩, hf⟩ := HBX.out w2 HSB.out.2
      have f0 := hf 0
      have f1 := hf 1
      have f2 := hf 2
      have f3 := hf 3
      have f4 := hf 4
      have HB5 := Lib.hid (stores5 (Below.refl w.heap.size w2) (Nat.le_refl w.heap.size) (.int .i64 1) (.int .i64 0) (.int .i64 0) (.int .i64 0) (.slice none 0 0))
      clear hf HI0 HI1
      go_wp2
      refine bodyPost_ret (v := tyV (.mk 1 0 0 0 []) none 0 0) (by simp [results, Tryz.results10, go_sem, r0, r1, r2, r3, r4, Ty.k, Ty.lo, Ty.hi, Ty.mx]) rfl ⟨.mk 1 0 0 0 [], none, 0, 0, [], rfl, TyOwn.nil _ _ _, rfl, built_bool _ (by omega), HSB.out.1.belowB HB5.out hgs, ((But.of_below HWV.out).trans HSB.out.2).onB HB5.out (Nat.le_refl _)⟩
    · rcases (show z2 = 1 ∨ z2 = 2 by omega) with rfl | rfl
      all_goals
        have HR := Lib.hid (range_any g w2 (-2) 3 HSB.out.1 (by omega) (by omega) (by omega))
        clear HI0 HI1 k0
        go_wp2_with fail
        refine HR.out.mono ?_
        rintro e3 w3 ⟨lo, rfl, ⟨lo1, lo2⟩, hs3, hb3⟩
        have HR2 := Lib.hid (N_any g w3 4 hs3 (by omega) (by omega))
        clear HR
        go_wp2_with fail
        refine HR2.out.mono ?_
        rintro e4 w4 ⟨x, rfl, ⟨x1, x2⟩, hs4, hb4⟩
        have HSB4 : Hid (Src w4 g ∧ But g v w4) := ⟨hs4, (HSB.out.2.trans hb3).trans hb4⟩
        obtain ⟨⟨r0, r1, r2, r3, r4⟩, hf⟩ := HBX.out w4 HSB4.out.2
        have f0 := hf 0
        have f1 := hf 1
        have f2 := hf 2
        have f3 := hf 3
        have f4 := hf 4
        have HB5 := Lib.hid (stores5 (Below.refl w.heap.size w4) (Nat.le_refl w.heap.size) (.int .i64 2) (.int .i64 lo) (.int .i64 (lo + x)) (.int .i64 0) (.slice none 0 0))
        clear hf HR2 hs3 hb3 hs4 hb4
        go_wp2
        refine bodyPost_ret (v := tyV (.mk 2 lo (lo + x) 0 []) none 0 0) (by simp [results, Tryz.results10, go_sem, r0, r1, r2, r3, r4, Ty.k, Ty.lo, Ty.hi, Ty.mx]) rfl ⟨.mk 2 lo (lo + x) 0 [], none, 0, 0, [], rfl, TyOwn.nil _ _ _, rfl, built_int _ (by omega) (by omega), HSB4.out.1.belowB HB5.out hgs, ((But.of_below HWV.out).trans HSB4.out.2).onB HB5.out (Nat.le_refl _)⟩
  · have hd1 : ¬ ((d + 1 : Nat) : Int) ≤ 1 := by omega
    have hdp : 0 < d := by omega
    by_cases hz2 : z1 ≤ 2
    · have HSB : Hid (Src w1 g ∧ But g v w1) := ⟨hs1, hb1⟩
      by_cases k0 : z1 = 0
      · subst k0
        obtain ⟨⟨r0, r1, r2, r3, r4⟩, hf⟩ := HBX.out w1 HSB.out.2
        have f0 := hf 0
        have f1 := hf 1
        have f2 := hf 2
        have f3 := hf 3
        have f4 := hf 4
        have HB5 := Lib.hid (stores5 (Below.refl w.heap.size w1) (Nat.le_refl w.heap.size) (.int .i64 1) (.int .i64 0) (.int .i64 0) (.int .i64 0) (.slice none 0 0))
        clear hf HI0 HI1
        go_wp2
        refine bodyPost_ret (v := tyV (.mk 1 0 0 0 []) none 0 0) (by simp [results, Tryz.results10, go_sem, r0, r1, r2, r3, r4, Ty.k, Ty.lo, Ty.hi, Ty.mx]) rfl ⟨.mk 1 0 0 0 [], none, 0, 0, [], rfl, TyOwn.nil _ _ _, rfl, built_bool _ (by omega), HSB.out.1.belowB HB5.out hgs, ((But.of_below HWV.out).trans HSB.out.2).onB HB5.out (Nat.le_refl _)⟩
      · rcases (show z1 = 1 ∨ z1 = 2 by omega) with rfl | rfl
        all_goals
          have HR := Lib.hid (range_any g w1 (-2) 3 HSB.out.1 (by omega) (by omega) (by omega))
          clear HI0 HI1 k0
          go_wp2_with fail
          refine HR.out.mono ?_
          rintro e3 w3 ⟨lo, rfl, ⟨lo1, lo2⟩, hs3, hb3⟩
          have HR2 := Lib.hid (N_any g w3 4 hs3 (by omega) (by omega))
          clear HR
          go_wp2_with fail
          refine HR2.out.mono ?_
          rintro e4 w4 ⟨x, rfl, ⟨x1, x2⟩, hs4, hb4⟩
          have HSB4 : Hid (Src w4 g ∧ But g v w4) := ⟨hs4, (HSB.out.2.trans hb3).trans hb4⟩
          obtain ⟨⟨r0, r1, r2, r3, r4⟩, hf⟩ := HBX.out w4 HSB4.out.2
          have f0 := hf 0
          have f1 := hf 1
          have f2 := hf 2
          have f3 := hf 3
          have f4 := hf 4
          have HB5 := Lib.hid (stores5 (Below.refl w.heap.size w4) (Nat.le_refl w.heap.size) (.int .i64 2) (.int .i64 lo) (.int .i64 (lo + x)) (.int .i64 0) (.slice none 0 0))
          clear hf HR2 hs3 hb3 hs4 hb4
          go_wp2
          refine bodyPost_ret (v := tyV (.mk 2 lo (lo + x) 0 []) none 0 0) (by simp [results, Tryz.results10, go_sem, r0, r1, r2, r3, r4, Ty.k, Ty.lo, Ty.hi, Ty.mx]) rfl ⟨.mk 2 lo (lo + x) 0 [], none, 0, 0, [], rfl, TyOwn.nil _ _ _, rfl, built_int _ (by omega) (by omega), HSB4.out.1.belowB HB5.out hgs, ((But.of_below HWV.out).trans HSB4.out.2).onB HB5.out (Nat.le_refl _)⟩
    · by_cases hz4 : z1 ≤ 4
      · have HSB : Hid (Src w1 g ∧ But g v w1) := ⟨hs1, hb1⟩
        have HI := Lib.hid (HI0.out hdp)
        obtain ⟨u, hu⟩ : ∃ u, w1.alloc (.cells #[.int .i64 5, .int .i64 0, .int .i64 0, .int .i64 0, .slice none 0 0] 24) = u := ⟨_, rfl⟩
        obtain ⟨p, hp⟩ : ∃ p, w1.heap.size = p := ⟨_, rfl⟩
        have hwu : Below w1.heap.size w1 u := by rw [← hu]; exact allocB _ _
        have hus : u.heap.size = p + 1 := by rw [← hu, ← hp]; simp
        have HU := Lib.hid hu
        have HP0 := Lib.hid hp
        have hvp : v.heap.size ≤ p := by rw [← hp]; exact hb1.size
        have hgv : g < v.heap.size := by have := HVS.out; omega
        have hbu : BoxT u p (.int .i64 5) (.int .i64 0) (.int .i64 0) (.int .i64 0) (.slice none 0 0) := by rw [← hu, ← hp]; exact boxT_new _ _ _ _ _ _ _
        have HBU := Lib.hid hbu
        have hsu := hs1.below hwu
        have hbvu := hb1.trans (But.of_below (g := g) hwu)
        have HR := Lib.hid (range_any g u 2 3 hsu (by omega) (by omega) (by omega))
        clear hwu hu hp HI0 HI1 hs1 hb1 hbu
        have hz34 : z1 = 3 ∨ z1 = 4 := by omega
        rcases hz34 with rfl | rfl
        all_goals
          go_wp2_with fail
          rw [HU.out, HP0.out]
          refine HR.out.mono ?_
          rintro e3 w3 ⟨rr, rfl, ⟨rr1, rr2⟩, hs3, hb3⟩
          have HINV : Hid (TInv g p d v w3 (.slice none 0 0) none 0 0 []) := by
            refine ⟨HBU.out.keep (hb3.block p (by omega) (by omega)), TyOwn.nil _ _ _, fun x hx => (by cases hx), hs3, hbvu.trans hb3, by have := hb3.size; omega, hvp, hgv⟩
          clear HR hs3 hb3 hbvu hsu
          go_wp2
          go_loopw [8] (fun iv wr => ∃ (r : Int) (Q : Option Addr) (n q : Nat) (l : List TyAt), iv = .int .i64 r ∧ (0 ≤ r ∧ 2 ≤ r + n ∧ r + n ≤ 3) ∧ Hid (TInv g p d v wr (.slice Q n q) Q n q l)) (fun iv _ => (intOf iv).toNat)
          case atStart => exact ⟨rr, none, 0, 0, [], rfl, by omega, HINV⟩
          case round =>
            obtain ⟨r, Q, n, q, l, rfl, hr, INV⟩ := hrel
            by_cases hr0 : 0 < r
            · have HP := Lib.hid INV.out.boxAt
              have HSR := Lib.hid INV.out.src.drew
              have hk := But.refl g wr.drew
              go_wp2_with fail
              refine wp_region_held_drew (S := fun _ => True) (by kernel_rfl) trivial (fun hHeld => ?_)
              refine tkH (i := 0) (oi := ⟨some 40, _, _, _, _, _⟩) (v := ?_) ?_ ?_
              rotate_left
              · intro w hSw; go_simp; try with_reducible rfl
              try simp only [Act.put, List.setIfInBounds_toArray, List.set_cons_zero, List.set_cons_succ]
              refine tkH (i := 2) (oi := ⟨some 42, _, _, _, _, _⟩) (v := ?_) ?_ ?_
              rotate_left
              · intro w hSw; go_simp; try with_reducible rfl
              try simp only [Act.put, List.setIfInBounds_toArray, List.set_cons_zero, List.set_cons_succ]
              refine tkH (i := 3) (oi := ⟨some 43, _, _, _, _, _⟩) (v := ?_) ?_ ?_
              rotate_left
              · intro w hSw; go_simp; try with_reducible rfl
              try simp only [Act.put, List.setIfInBounds_toArray, List.set_cons_zero, List.set_cons_succ]
              refine tkH (i := 4) (oi := ⟨some 44, _, _, _, _, _⟩) (v := ?_) ?_ ?_
              rotate_left
              · intro w hSw; go_simp; try with_reducible rfl
              try simp only [Act.put, List.setIfInBounds_toArray, List.set_cons_zero, List.set_cons_succ]
              refine wpAnyH_ready (rs := [1, 5]) (by kernel_rfl) (by simp) ?_
              refine AllReadyH.cons (o := ⟨some 41, _, _, _, _, _⟩) rfl (fun K hK => ?_) (AllReadyH.cons (o := ⟨some 45, _, _, _, _, _⟩) rfl (fun K hK => ?_) AllReadyH.nil)
              · have q4 := (HP.out _ hk).1.2.2.2.2
                go_simp
                refine hK.out _ _ trivial (fun hHeld => ?_)
                clear hK K hHeld
                try simp only [Act.put, List.setIfInBounds_toArray, List.set_cons_zero, List.set_cons_succ]
                refine wpAnyH_ready (rs := [5]) (by kernel_rfl) (by simp) ?_
                refine AllReadyH.cons (o := ⟨some 45, _, _, _, _, _⟩) rfl (fun K hK => ?_) AllReadyH.nil
                go_simp
                rw [EWD.out]
                go_at_call 10
                (with_reducible refine (HI.out _ _ HSR.out).mono ?_)
                rintro e1 w1 ⟨T1, A1, n1, c1, rfl, hrd1, hT1, hs1, hb1⟩
                replace hk := hk.trans hb1
                go_wp2_with fail
                refine hK.out _ _ trivial (fun hHeld => ?_)
                clear hK K hHeld
                try simp only [Act.put, List.setIfInBounds_toArray, List.set_cons_zero, List.set_cons_succ]
                refine wpAnyH_ready (rs := [6]) (by kernel_rfl) (by simp) ?_
                refine AllReadyH.cons (o := ⟨some 46, _, _, _, _, _⟩) rfl (fun K hK => ?_) AllReadyH.nil
                go_simp
                have hk := hk.alloc (.cells #[.int .i64 T1.k, .int .i64 T1.lo, .int .i64 T1.hi, .int .i64 T1.mx, .slice A1 n1 c1] 24)
                refine hK.out _ _ trivial (fun hHeld => ?_)
                clear hK K hHeld
                try simp only [Act.put, List.setIfInBounds_toArray, List.set_cons_zero, List.set_cons_succ]
                refine wpAnyH_ready (rs := [7]) (by kernel_rfl) (by simp) ?_
                refine AllReadyH.cons (o := ⟨some 47, _, _, _, _, _⟩) rfl (fun K hK => ?_) AllReadyH.nil
                obtain ⟨hOWx, hNW, _⟩ := INV.out.tail (x := ⟨T1, A1, n1, c1⟩) hrd1 hb1
                have hsz1 := hOWx
                refine step_append_lies _ rfl _ _ 22 rfl (p + 1) 24 i0 (.agg #[.int .i64 0, .int .i64 0, .int .i64 0, .int .i64 0, .slice none 0 0]) 5 56 Tryz.underlying22 hi hy0 hy1 hy2 rfl (by decide) (.slice Q n q) n (tyRow l) rfl hOWx.row ⟨w1.heap.size, 0, none⟩ 1 1 (TyAt.mk T1 A1 n1 c1).cells rfl rfl hNW (TyAt.oneCell _) (by decide) (by unfold maxLen; omega) (by omega) (by rw [World.size_alloc]; have := INV.out.size; have h2 : wr.heap.size ≤ w1.heap.size := hb1.size; omega) _ rfl ?_
                intro g3 c3 w3 hown hgrow hat hlt3
                have hKE := Lib.hid (INV.out.added (x := ⟨T1, A1, n1, c1⟩) hrd1 hT1 hs1 hb1 hown hgrow (by rw [World.size_alloc] at hat; exact hat))
                clear hown hgrow hat hOWx hNW hrd1 hT1 hs1 hb1 hk hsz1
                refine hK.out _ _ trivial (fun hHeld => ?_)
                clear hK K hHeld
                try simp only [Act.put, List.setIfInBounds_toArray, List.set_cons_zero, List.set_cons_succ]
                refine tkH (i := 8) (oi := ⟨some 48, _, _, _, _, _⟩) (v := ?_) ?_ ?_
                rotate_left
                · intro w hSw; go_simp; try with_reducible rfl
                try simp only [Act.put, List.setIfInBounds_toArray, List.set_cons_zero, List.set_cons_succ]
                refine wpAnyH_ready (rs := [9]) (by kernel_rfl) (by simp) ?_
                refine AllReadyH.cons (o := ⟨none, _, _, _, _, _⟩) rfl (fun K hK => ?_) AllReadyH.nil
                have x4 := hKE.out.box.1.2.2.2.2
                have f4 := hKE.out.box.2 4
                go_simp
                refine hK.out _ _ trivial (fun hHeld => ?_)
                clear hK K hHeld x4 f4
                try simp only [Act.put, List.setIfInBounds_toArray, List.set_cons_zero, List.set_cons_succ]
                refine wpAnyH_done (by kernel_rfl) ?_ _
                have HEND := Lib.hid (hKE.out.stored (.slice (some ⟨g3, 0, none⟩) (n + 1) c3))
                clear hKE
                go_wp2
                go_roundw
                case rel => exact ⟨r - 1, _, n + 1, _, _, rfl, by omega, HEND⟩
                case measure => simp [intOf] <;> omega
              · go_simp
                rw [EWD.out]
                go_at_call 10
                (with_reducible refine (HI.out _ _ HSR.out).mono ?_)
                rintro e1 w1 ⟨T1, A1, n1, c1, rfl, hrd1, hT1, hs1, hb1⟩
                replace hk := hk.trans hb1
                go_wp2_with fail
                refine hK.out _ _ trivial (fun hHeld => ?_)
                clear hK K hHeld
                try simp only [Act.put, List.setIfInBounds_toArray, List.set_cons_zero, List.set_cons_succ]
                refine wpAnyH_ready (rs := [1, 6]) (by kernel_rfl) (by simp) ?_
                refine AllReadyH.cons (o := ⟨some 41, _, _, _, _, _⟩) rfl (fun K hK => ?_) (AllReadyH.cons (o := ⟨some 46, _, _, _, _, _⟩) rfl (fun K hK => ?_) AllReadyH.nil)
                · have q4 := (HP.out _ hk).1.2.2.2.2
                  go_simp
                  refine hK.out _ _ trivial (fun hHeld => ?_)
                  clear hK K hHeld
                  try simp only [Act.put, List.setIfInBounds_toArray, List.set_cons_zero, List.set_cons_succ]
                  refine wpAnyH_ready (rs := [6]) (by kernel_rfl) (by simp) ?_
                  refine AllReadyH.cons (o := ⟨some 46, _, _, _, _, _⟩) rfl (fun K hK => ?_) AllReadyH.nil
                  go_simp
                  have hk := hk.alloc (.cells #[.int .i64 T1.k, .int .i64 T1.lo, .int .i64 T1.hi, .int .i64 T1.mx, .slice A1 n1 c1] 24)
                  refine hK.out _ _ trivial (fun hHeld => ?_)
                  clear hK K hHeld
                  try simp only [Act.put, List.setIfInBounds_toArray, List.set_cons_zero, List.set_cons_succ]
                  refine wpAnyH_ready (rs := [7]) (by kernel_rfl) (by simp) ?_
                  refine AllReadyH.cons (o := ⟨some 47, _, _, _, _, _⟩) rfl (fun K hK => ?_) AllReadyH.nil
                  obtain ⟨hOWx, hNW, _⟩ := INV.out.tail (x := ⟨T1, A1, n1, c1⟩) hrd1 hb1
                  have hsz1 := hOWx
                  refine step_append_lies _ rfl _ _ 22 rfl (p + 1) 24 i0 (.agg #[.int .i64 0, .int .i64 0, .int .i64 0, .int .i64 0, .slice none 0 0]) 5 56 Tryz.underlying22 hi hy0 hy1 hy2 rfl (by decide) (.slice Q n q) n (tyRow l) rfl hOWx.row ⟨w1.heap.size, 0, none⟩ 1 1 (TyAt.mk T1 A1 n1 c1).cells rfl rfl hNW (TyAt.oneCell _) (by decide) (by unfold maxLen; omega) (by omega) (by rw [World.size_alloc]; have := INV.out.size; have h2 : wr.heap.size ≤ w1.heap.size := hb1.size; omega) _ rfl ?_
                  intro g3 c3 w3 hown hgrow hat hlt3
                  have hKE := Lib.hid (INV.out.added (x := ⟨T1, A1, n1, c1⟩) hrd1 hT1 hs1 hb1 hown hgrow (by rw [World.size_alloc] at hat; exact hat))
                  clear hown hgrow hat hOWx hNW hrd1 hT1 hs1 hb1 hk hsz1
                  refine hK.out _ _ trivial (fun hHeld => ?_)
                  clear hK K hHeld
                  try simp only [Act.put, List.setIfInBounds_toArray, List.set_cons_zero, List.set_cons_succ]
                  refine tkH (i := 8) (oi := ⟨some 48, _, _, _, _, _⟩) (v := ?_) ?_ ?_
                  rotate_left
                  · intro w hSw; go_simp; try with_reducible rfl
                  try simp only [Act.put, List.setIfInBounds_toArray, List.set_cons_zero, List.set_cons_succ]
                  refine wpAnyH_ready (rs := [9]) (by kernel_rfl) (by simp) ?_
                  refine AllReadyH.cons (o := ⟨none, _, _, _, _, _⟩) rfl (fun K hK => ?_) AllReadyH.nil
                  have x4 := hKE.out.box.1.2.2.2.2
                  have f4 := hKE.out.box.2 4
                  go_simp
                  refine hK.out _ _ trivial (fun hHeld => ?_)
                  clear hK K hHeld x4 f4
                  try simp only [Act.put, List.setIfInBounds_toArray, List.set_cons_zero, List.set_cons_succ]
                  refine wpAnyH_done (by kernel_rfl) ?_ _
                  have HEND := Lib.hid (hKE.out.stored (.slice (some ⟨g3, 0, none⟩) (n + 1) c3))
                  clear hKE
                  go_wp2
                  go_roundw
                  case rel => exact ⟨r - 1, _, n + 1, _, _, rfl, by omega, HEND⟩
                  case measure => simp [intOf] <;> omega
                · go_simp
                  have hk := hk.alloc (.cells #[.int .i64 T1.k, .int .i64 T1.lo, .int .i64 T1.hi, .int .i64 T1.mx, .slice A1 n1 c1] 24)
                  refine hK.out _ _ trivial (fun hHeld => ?_)
                  clear hK K hHeld
                  try simp only [Act.put, List.setIfInBounds_toArray, List.set_cons_zero, List.set_cons_succ]
                  refine wpAnyH_ready (rs := [1]) (by kernel_rfl) (by simp) ?_
                  refine AllReadyH.cons (o := ⟨some 41, _, _, _, _, _⟩) rfl (fun K hK => ?_) AllReadyH.nil
                  have q4 := (HP.out _ hk).1.2.2.2.2
                  go_simp
                  refine hK.out _ _ trivial (fun hHeld => ?_)
                  clear hK K hHeld
                  try simp only [Act.put, List.setIfInBounds_toArray, List.set_cons_zero, List.set_cons_succ]
                  refine wpAnyH_ready (rs := [7]) (by kernel_rfl) (by simp) ?_
                  refine AllReadyH.cons (o := ⟨some 47, _, _, _, _, _⟩) rfl (fun K hK => ?_) AllReadyH.nil
                  obtain ⟨hOWx, hNW, _⟩ := INV.out.tail (x := ⟨T1, A1, n1, c1⟩) hrd1 hb1
                  have hsz1 := hOWx
                  refine step_append_lies _ rfl _ _ 22 rfl (p + 1) 24 i0 (.agg #[.int .i64 0, .int .i64 0, .int .i64 0, .int .i64 0, .slice none 0 0]) 5 56 Tryz.underlying22 hi hy0 hy1 hy2 rfl (by decide) (.slice Q n q) n (tyRow l) rfl hOWx.row ⟨w1.heap.size, 0, none⟩ 1 1 (TyAt.mk T1 A1 n1 c1).cells rfl rfl hNW (TyAt.oneCell _) (by decide) (by unfold maxLen; omega) (by omega) (by rw [World.size_alloc]; have := INV.out.size; have h2 : wr.heap.size ≤ w1.heap.size := hb1.size; omega) _ rfl ?_
                  intro g3 c3 w3 hown hgrow hat hlt3
                  have hKE := Lib.hid (INV.out.added (x := ⟨T1, A1, n1, c1⟩) hrd1 hT1 hs1 hb1 hown hgrow (by rw [World.size_alloc] at hat; exact hat))
                  clear hown hgrow hat hOWx hNW hrd1 hT1 hs1 hb1 hk hsz1
                  refine hK.out _ _ trivial (fun hHeld => ?_)
                  clear hK K hHeld
                  try simp only [Act.put, List.setIfInBounds_toArray, List.set_cons_zero, List.set_cons_succ]
                  refine tkH (i := 8) (oi := ⟨some 48, _, _, _, _, _⟩) (v := ?_) ?_ ?_
                  rotate_left
                  · intro w hSw; go_simp; try with_reducible rfl
                  try simp only [Act.put, List.setIfInBounds_toArray, List.set_cons_zero, List.set_cons_succ]
                  refine wpAnyH_ready (rs := [9]) (by kernel_rfl) (by simp) ?_
                  refine AllReadyH.cons (o := ⟨none, _, _, _, _, _⟩) rfl (fun K hK => ?_) AllReadyH.nil
                  have x4 := hKE.out.box.1.2.2.2.2
                  have f4 := hKE.out.box.2 4
                  go_simp
                  refine hK.out _ _ trivial (fun hHeld => ?_)
                  clear hK K hHeld x4 f4
                  try simp only [Act.put, List.setIfInBounds_toArray, List.set_cons_zero, List.set_cons_succ]
                  refine wpAnyH_done (by kernel_rfl) ?_ _
                  have HEND := Lib.hid (hKE.out.stored (.slice (some ⟨g3, 0, none⟩) (n + 1) c3))
                  clear hKE
                  go_wp2
                  go_roundw
                  case rel => exact ⟨r - 1, _, n + 1, _, _, rfl, by omega, HEND⟩
                  case measure => simp [intOf] <;> omega
            · obtain rfl : r = 0 := by omega
              obtain ⟨⟨q0, q1, q2, q3, q4⟩, _⟩ := INV.out.box
              obtain ⟨⟨r0, r1, r2, r3, r4⟩, hf⟩ := HBX.out wr INV.out.but
              have f0 := hf 0
              have f1 := hf 1
              have f2 := hf 2
              have f3 := hf 3
              have f4 := hf 4
              have HB5 := Lib.hid (stores5 (Below.refl w.heap.size wr) (Nat.le_refl w.heap.size) (.int .i64 5) (.int .i64 0) (.int .i64 0) (.int .i64 0) (.slice Q n q))
              have HRD := Lib.hid (INV.out.own.stores5 (b := w.heap.size) (by have := INV.out.vs; have := HVS.out; omega) (.int .i64 5) (.int .i64 0) (.int .i64 0) (.int .i64 0) (.slice Q n q))
              have hln := INV.out.own.len
              have HBT : Hid (Built (d + 1) (.mk 5 0 0 0 (l.map TyAt.T))) := built_tuple d hdp (by rw [List.length_map]; omega) (by rw [List.length_map]; omega) fun e he => by
                obtain ⟨x, hx, rfl⟩ := List.mem_map.1 he
                exact INV.out.good x hx
              clear hf hln
              go_wp2
              refine bodyPost_ret (v := tyV (.mk 5 0 0 0 (l.map TyAt.T)) Q n q) (by simp [results, Tryz.results10, go_sem, r0, r1, r2, r3, r4, Ty.k, Ty.lo, Ty.hi, Ty.mx]) rfl ⟨.mk 5 0 0 0 (l.map TyAt.T), Q, n, q, l, rfl, HRD.out.baseTo (by have := INV.out.vs; have := HVS.out; omega), rfl, HBT.out, INV.out.src.belowB HB5.out hgs, ((But.of_below HWV.out).trans INV.out.but).onB HB5.out (Nat.le_refl _)⟩
      · obtain rfl : z1 = 5 := by omega
        have HI := Lib.hid (HI1.out hdp)
        have HR := Lib.hid (range_any g w1 1 2 hs1 (by omega) (by omega) (by omega))
        clear HI0 HI1
        go_wp2_with fail
        refine HR.out.mono ?_
        rintro e3 w3 ⟨m, rfl, ⟨m1, m2⟩, hs3, hb3⟩
        have HR2 := Lib.hid (HI.out g w3 hs3)
        clear HR HI hs1 hs3
        go_wp2_with fail
        refine HR2.out.mono ?_
        rintro e4 w4 ⟨T1, A1, n1, c1, rfl, hrd1, hT1, hs4, hb4⟩
        have hbv := (hb1.trans hb3).trans hb4
        have hsv4 : v.heap.size ≤ w3.heap.size := (hb1.trans hb3).size
        have hO := TyOwn.lit w4 (base := v.heap.size) (d := d) hbv.size ⟨T1, A1, n1, c1⟩ ((hrd1.in fun b hb => by omega).le hdp)
        obtain ⟨u, hu⟩ : ∃ u, w4.alloc (.cells #[.int .i64 T1.k, .int .i64 T1.lo, .int .i64 T1.hi, .int .i64 T1.mx, .slice A1 n1 c1] 24) = u := ⟨_, rfl⟩
        have hwu : Below w4.heap.size w4 u := by rw [← hu]; exact allocB _ _
        have hO2 : TyOwn u v.heap.size d (some ⟨w4.heap.size, 0, none⟩) 1 1 [⟨T1, A1, n1, c1⟩] := by rw [← hu]; exact hO
        have hbu := hbv.trans (But.of_below (g := g) hwu)
        have hsu := hs4.below hwu
        obtain ⟨⟨r0, r1, r2, r3, r4⟩, hf⟩ := HBX.out u hbu
        have f0 := hf 0
        have f1 := hf 1
        have f2 := hf 2
        have f3 := hf 3
        have f4 := hf 4
        have HB5 := Lib.hid (stores5 (Below.refl w.heap.size u) (Nat.le_refl w.heap.size) (.int .i64 6) (.int .i64 0) (.int .i64 0) (.int .i64 m) (.slice (some ⟨w4.heap.size, 0, none⟩) 1 1))
        have HRD := Lib.hid (hO2.stores5 (b := w.heap.size) (by have := HVS.out; omega) (.int .i64 6) (.int .i64 0) (.int .i64 0) (.int .i64 m) (.slice (some ⟨w4.heap.size, 0, none⟩) 1 1))
        have HBT : Hid (Built (d + 1) (.mk 6 0 0 m [T1])) := built_list d hdp h3 m1 m2 hT1 (hrd1.one_leaf hT1)
        have HSB : Hid (Src u g ∧ But g v u) := ⟨hsu, hbu⟩
        subst hu
        clear hf hO hO2 hwu hbu hsu hbv hsv4 HR2 hrd1 hT1 hs4 hb4 hb3 hb1
        go_wp2
        generalize w4.alloc (.cells #[.int .i64 T1.k, .int .i64 T1.lo, .int .i64 T1.hi, .int .i64 T1.mx, .slice A1 n1 c1] 24) = u at *
        refine bodyPost_ret (v := tyV (.mk 6 0 0 m [T1]) (some ⟨w4.heap.size, 0, none⟩) 1 1) (by simp [results, Tryz.results10, go_sem, r0, r1, r2, r3, r4, Ty.k, Ty.lo, Ty.hi, Ty.mx]) rfl ⟨.mk 6 0 0 m [T1], some ⟨w4.heap.size, 0, none⟩, 1, 1, [⟨T1, A1, n1, c1⟩], rfl, HRD.out.baseTo (by have := HVS.out; omega), rfl, HBT.out, HSB.out.1.belowB HB5.out hgs, ((But.of_below HWV.out).trans HSB.out.2).onB HB5.out (Nat.le_refl _)⟩

theorem type_x : ∀ d : Nat, 1 ≤ d → d ≤ 3 → ∀ g w, Src w g → Calls Tryz.prog 10 #[.pointer (some ⟨g, 0, none⟩), .int .i64 (d : Int)] w (GivesTy d g w) := by
  have h1 : ∀ g w, Src w g → Calls Tryz.prog 10 #[.pointer (some ⟨g, 0, none⟩), .int .i64 (1 : Int)] w (GivesTy 1 g w) :=
    fun g w hs => (type_step 0 (by omega) (fun h => absurd h (by omega)) (fun h => absurd h (by omega)) g w hs).mono fun _ _ h => h.ty
  have h2 : ∀ g w, Src w g → Calls Tryz.prog 10 #[.pointer (some ⟨g, 0, none⟩), .int .i64 (2 : Int)] w (GivesTy 2 g w) :=
    fun g w hs => (type_step 1 (by omega) (fun _ => h1) (fun _ => h1) g w hs).mono fun _ _ h => h.ty
  intro d hd1 hd3
  match d, hd1, hd3 with
  | 1, _, _ => exact h1
  | 2, _, _ => exact h2
  | 3, _, _ => exact fun g w hs => (type_step 2 (by omega) (fun _ => h1) (fun _ => h2) g w hs).mono fun _ _ h => h.ty
theorem type_o : ∀ d : Nat, 1 ≤ d → d ≤ 3 → ∀ g w, Src w g → Calls Tryz.prog 10 #[.pointer (some ⟨g, 0, none⟩), .int .i64 (d : Int)] w (GivesTyO d g w) := by
  intro d hd1 hd3
  obtain ⟨m, rfl⟩ : ∃ m, d = m + 1 := ⟨d - 1, by omega⟩
  exact fun g w hs => type_step m (by omega) (fun _ => type_x 1 (by omega) (by omega)) (fun h => type_x m (by omega) (by omega)) g w hs
end Go.Proofs.YtklndjkblfncjaaGreatDoor
