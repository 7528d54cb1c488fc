/-
  The builders of types and values: what holds while elements are added.
-/
import Derived.Test.YtklndjkblfncjaaDoorMkL
namespace Go.Proofs.YtklndjkblfncjaaDoor
open Go Go.RowKit
set_option maxRecDepth 20000

/-- While elements are added: the box at p, the call's own row behind it, the source. -/
structure TInv (g p d : Nat) (v W : World) (S4 : Value) (Q : Option Addr) (n q : Nat) (l : List TyAt) : Prop where
  box : BoxT W p (.int .i64 5) (.int .i64 0) (.int .i64 0) (.int .i64 0) S4
  own : TyOwn W (p + 1) d Q n q l
  good : ∀ x ∈ l, Built d x.T
  src : Src W g
  but : But g v W
  size : p + 1 ≤ W.heap.size
  vs : v.heap.size ≤ p
  gp : g < v.heap.size
section
variable {g p d n q : Nat} {v W : World} {S4 : Value} {Q : Option Addr} {l : List TyAt}
theorem TInv.boxAt (h : TInv g p d v W S4 Q n q l) : ∀ W1, But g W.drew W1 → BoxT W1 p (.int .i64 5) (.int .i64 0) (.int .i64 0) (.int .i64 0) S4 := fun W1 hb =>
  h.box.keep (hb.block p (by have := h.size; show p < W.heap.size; omega) (by have := h.gp; have := h.vs; omega))
theorem TInv.tail (h : TInv g p d v W S4 Q n q l) {x : TyAt} {w1 : World} (hx : TyRd (fun b => W.drew.heap.size ≤ b) w1 d x.T x.A x.n x.c) (hb : But g W.drew w1) :
    TyOwn (w1.alloc (.cells x.cells.toArray 27)) (p + 1) d Q n q l ∧ (∀ j u, x.cells[j]? = some u → (w1.alloc (.cells x.cells.toArray 27)).cell? ((⟨w1.heap.size, 0, none⟩ : Addr).add j) = some u) ∧ TyRd (fun b => p + 1 ≤ b ∧ offA Q b) (w1.alloc (.cells x.cells.toArray 27)) d x.T x.A x.n x.c := by
  have hg : g < p + 1 := by have := h.gp; have := h.vs; omega
  refine ⟨(h.own.drew.butG hb hg).below (allocB _ _), fun j u hu => World.news_of_block (heap_alloc_new w1 _) j u (by simpa using hu), ?_⟩
  refine (hx.below (allocB _ _)).in fun b hb' => ?_
  have hs : W.heap.size ≤ b := hb'
  refine ⟨by have := h.size; omega, fun a ha => ?_⟩
  have := (row_lt h.own.row a ha).2
  omega
theorem TInv.added (h : TInv g p d v W S4 Q n q l) {x : TyAt} {w1 w3 : World} {g3 c3 : Nat} (hx : TyRd (fun b => W.drew.heap.size ≤ b) w1 d x.T x.A x.n x.c) (hgood : Built d x.T) (hs : Src w1 g) (hb : But g W.drew w1)
    (hown : w3.ownsRow (p + 1) 27 5 (.slice (some ⟨g3, 0, none⟩) (n + 1) c3) (n + 1) (tyRow l ++ x.cells)) (hgrow : (w1.alloc (.cells x.cells.toArray 27)).grownBy w3 (Value.ownBlock (.slice Q n q))) (hat : Value.ownBlock (.slice Q n q) = some g3 ∨ g3 = w1.heap.size + 1) :
    TInv g p d v w3 S4 (some ⟨g3, 0, none⟩) (n + 1) c3 (l ++ [x]) := by
  obtain ⟨hO, _, hX⟩ := h.tail hx hb
  have hsz1 : W.heap.size ≤ w1.heap.size := hb.size
  have hpw := h.size
  have hB : Below (p + 1) w1 w3 := grown_own (((Below.refl (p + 1) w1).alloc (by omega) _)) hO.row hgrow (by rw [World.size_alloc]; omega)
  have hgp : g < p + 1 := by have := h.gp; have := h.vs; omega
  refine ⟨?_, hO.push hX hown hgrow (by rw [World.size_alloc]; exact hat), fun y hy => ?_, hs.belowB hB hgp, ?_, by have := hB.size; omega, h.vs, h.gp⟩
  · exact (h.boxAt w1 hb).keep (hB.block p (by omega))
  · rcases List.mem_append.1 hy with hy | hy
    · exact h.good y hy
    · first | trivial | (rw [List.mem_singleton.1 hy]; exact hgood)
  · refine (h.but.trans (But.drew (But.refl g W))).trans hb |>.onB hB ?_
    have := h.vs; omega
theorem TInv.stored (h : TInv g p d v W S4 Q n q l) (y : Value) : TInv g p d v (W.setCell ⟨p, 4, none⟩ y) y Q n q l := by
  refine ⟨h.box.set4 y, h.own.setB (by omega), h.good, h.src.setB (by have := h.gp; have := h.vs; omega), h.but.setB h.vs, by simp [World.setCell]; exact h.size, h.vs, h.gp⟩
end

/-- While elements are added: the box at p, the call's own row behind it, the source. -/
structure VInv (g p d : Nat) (v W : World) (S4 : Value) (Q : Option Addr) (n q : Nat) (l : List VlAt) (x0 : Int) : Prop where
  box : Box2 W p (.int .i64 x0) S4
  own : VlOwn W (p + 1) d Q n q l
  good : ∀ x ∈ l, True
  src : Src W g
  but : But g v W
  size : p + 1 ≤ W.heap.size
  vs : v.heap.size ≤ p
  gp : g < v.heap.size
section
variable {g p d n q : Nat} {v W : World} {S4 : Value} {Q : Option Addr} {l : List VlAt} {x0 : Int}
theorem VInv.boxAt (h : VInv g p d v W S4 Q n q l x0) : ∀ W1, But g W.drew W1 → Box2 W1 p (.int .i64 x0) S4 := fun W1 hb =>
  h.box.keep (hb.block p (by have := h.size; show p < W.heap.size; omega) (by have := h.gp; have := h.vs; omega))
theorem VInv.tail (h : VInv g p d v W S4 Q n q l x0) {x : VlAt} {w1 : World} (hx : VlRd (fun b => W.drew.heap.size ≤ b) w1 d x.V x.A x.n x.c) (hb : But g W.drew w1) :
    VlOwn (w1.alloc (.cells x.cells.toArray 31)) (p + 1) d Q n q l ∧ (∀ j u, x.cells[j]? = some u → (w1.alloc (.cells x.cells.toArray 31)).cell? ((⟨w1.heap.size, 0, none⟩ : Addr).add j) = some u) ∧ VlRd (fun b => p + 1 ≤ b ∧ offA Q b) (w1.alloc (.cells x.cells.toArray 31)) d x.V x.A x.n x.c := by
  have hg : g < p + 1 := by have := h.gp; have := h.vs; omega
  refine ⟨(h.own.drew.butG hb hg).below (allocB _ _), fun j u hu => World.news_of_block (heap_alloc_new w1 _) j u (by simpa using hu), ?_⟩
  refine (hx.below (allocB _ _)).in fun b hb' => ?_
  have hs : W.heap.size ≤ b := hb'
  refine ⟨by have := h.size; omega, fun a ha => ?_⟩
  have := (row_lt h.own.row a ha).2
  omega
theorem VInv.added (h : VInv g p d v W S4 Q n q l x0) {x : VlAt} {w1 w3 : World} {g3 c3 : Nat} (hx : VlRd (fun b => W.drew.heap.size ≤ b) w1 d x.V x.A x.n x.c) (_hgood : True) (hs : Src w1 g) (hb : But g W.drew w1)
    (hown : w3.ownsRow (p + 1) 31 2 (.slice (some ⟨g3, 0, none⟩) (n + 1) c3) (n + 1) (vlRow l ++ x.cells)) (hgrow : (w1.alloc (.cells x.cells.toArray 31)).grownBy w3 (Value.ownBlock (.slice Q n q))) (hat : Value.ownBlock (.slice Q n q) = some g3 ∨ g3 = w1.heap.size + 1) :
    VInv g p d v w3 S4 (some ⟨g3, 0, none⟩) (n + 1) c3 (l ++ [x]) x0 := by
  obtain ⟨hO, _, hX⟩ := h.tail hx hb
  have hsz1 : W.heap.size ≤ w1.heap.size := hb.size
  have hpw := h.size
  have hB : Below (p + 1) w1 w3 := grown_own (((Below.refl (p + 1) w1).alloc (by omega) _)) hO.row hgrow (by rw [World.size_alloc]; omega)
  have hgp : g < p + 1 := by have := h.gp; have := h.vs; omega
  refine ⟨?_, hO.push hX hown hgrow (by rw [World.size_alloc]; exact hat), fun y hy => ?_, hs.belowB hB hgp, ?_, by have := hB.size; omega, h.vs, h.gp⟩
  · exact (h.boxAt w1 hb).keep (hB.block p (by omega))
  · rcases List.mem_append.1 hy with hy | hy
    · exact h.good y hy
    · first | trivial | (rw [List.mem_singleton.1 hy]; exact hgood)
  · refine (h.but.trans (But.drew (But.refl g W))).trans hb |>.onB hB ?_
    have := h.vs; omega
theorem VInv.stored (h : VInv g p d v W S4 Q n q l x0) (y : Value) : VInv g p d v (W.setCell ⟨p, 1, none⟩ y) y Q n q l x0 := by
  refine ⟨h.box.set1 y, h.own.setB (by omega), h.good, h.src.setB (by have := h.gp; have := h.vs; omega), h.but.setB h.vs, by simp [World.setCell]; exact h.size, h.vs, h.gp⟩
end
theorem VInv.int {g p d n q : Nat} {v W : World} {S4 : Value} {Q : Option Addr} {l : List VlAt} {x0 : Int} (h : VInv g p d v W S4 Q n q l x0) (y : Int) : VInv g p d v (W.setCell ⟨p, 0, none⟩ (.int .i64 y)) S4 Q n q l y :=
  ⟨h.box.set0 _, h.own.setB (by omega), h.good, h.src.setB (by have := h.gp; have := h.vs; omega), h.but.setB h.vs, by simp [World.setCell]; exact h.size, h.vs, h.gp⟩
/-- A call that leaves all but the source keeps what has been built. -/
theorem VInv.butG {g p d n q : Nat} {v W W' : World} {S4 : Value} {Q : Option Addr} {l : List VlAt} {x0 : Int} (h : VInv g p d v W S4 Q n q l x0) (hs : Src W' g) (hb : But g W W') : VInv g p d v W' S4 Q n q l x0 := by
  have h1 := h.gp
  have h2 := h.vs
  have h3 := h.size
  exact ⟨h.box.keep (hb.block p (by omega) (by omega)), h.own.butG hb (by omega), h.good, hs, h.but.trans hb, Nat.le_trans h3 hb.size, h2, h1⟩
theorem VInv.drew {g p d n q : Nat} {v W : World} {S4 : Value} {Q : Option Addr} {l : List VlAt} {x0 : Int} (h : VInv g p d v W S4 Q n q l x0) : VInv g p d v W.drew S4 Q n q l x0 :=
  h.butG h.src.drew (But.drew (But.refl g W))
end Go.Proofs.YtklndjkblfncjaaDoor
