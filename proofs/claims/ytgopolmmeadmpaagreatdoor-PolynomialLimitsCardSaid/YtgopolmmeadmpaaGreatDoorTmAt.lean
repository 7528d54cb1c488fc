/-
  A term in a box that may be written.
-/
import Derived.Test.YtgopolmmeadmpaaGreatDoorAwake3
namespace Go.Proofs.YtgopolmmeadmpaaGreatDoor
open Go Go.RowKit Go.WideMaps
set_option maxRecDepth 100000

/-- A term in a box that may be written. -/
structure TmAt (b : Nat) (t : Tm) (W : World) : Prop where
  len : t.L.length = 8
  cell : ∀ j, j < 11 → W.cell? ⟨b, j, none⟩ = t.cells[j]?
  free : ∀ j, W.frozen? ⟨b, j, none⟩ = false
theorem TmAt.far {b : Nat} {t : Tm} {W W' : World} (h : TmAt b t W) (hf : W'.heap[b]? = W.heap[b]?) : TmAt b t W' :=
  ⟨h.len, fun j hj => (World.cell?_of_block (w := W) (a := ⟨b, j, none⟩) hf).trans (h.cell j hj), fun j => (World.frozen?_of_block (w := W) (a := ⟨b, j, none⟩) hf).trans (h.free j)⟩
theorem TmAt.box {b : Nat} {t : Tm} {W : World} {x0 x1 x2 x3 x4 x5 x6 x7 : Int} (h : TmAt b t W) (hL : t.L = [x0, x1, x2, x3, x4, x5, x6, x7]) : TermBox b x0 x1 x2 x3 x4 x5 x6 x7 t W := by
  have hc : t.cells = [.int .i64 x0, .int .i64 x1, .int .i64 x2, .int .i64 x3, .int .i64 x4, .int .i64 x5, .int .i64 x6, .int .i64 x7, .bool t.s, .slice t.A t.n t.c, .slice t.B t.m t.d] := by unfold Tm.cells; rw [hL]; rfl
  have key := h.cell
  rw [hc] at key
  exact ⟨key 0 (by decide), key 1 (by decide), key 2 (by decide), key 3 (by decide), key 4 (by decide), key 5 (by decide), key 6 (by decide), key 7 (by decide), key 8 (by decide), key 9 (by decide), key 10 (by decide)⟩
theorem TmAt.new (w : World) (t : Tm) (h : t.L.length = 8) : TmAt w.heap.size t (w.alloc (.cells t.cells.toArray 43)) :=
  ⟨h, fun j _ => by rw [World.cell?_alloc_new]; simp, fun j => frozen_of_row _ _ j _ _ (heap_alloc_new w _)⟩
theorem cells_set {t : Tm} (h : t.L.length = 8) {i : Nat} (hi : i < 8) (e : Int) : t.cells.set i (.int .i64 e) = ({ t with L := t.L.set i e } : Tm).cells := by
  unfold Tm.cells
  rw [List.set_append_left _ _ (by rw [List.length_map]; omega), List.map_set]
theorem setCell_same {w : World} {b j : Nat} {u v : Value} (h : w.cell? ⟨b, j, none⟩ = some u) : (w.setCell ⟨b, j, none⟩ v).cell? ⟨b, j, none⟩ = some v := by
  go_simp
theorem TmAt.one {b : Nat} {t t' : Tm} {W : World} (h : TmAt b t W) {i : Nat} (hi : i < 11) (v : Value) (ht : t.cells.set i v = t'.cells) (h' : t'.L.length = 8) : TmAt b t' (W.setCell ⟨b, i, none⟩ v) := by
  have hl := Tm.length h.len
  refine ⟨h', fun j hj => ?_, fun j => by rw [World.frozen?_setCell]; exact h.free j⟩
  rw [← ht]
  by_cases e : j = i
  · subst e
    have hc := h.cell j hj
    rw [List.getElem?_eq_getElem (by omega)] at hc
    rw [setCell_same hc, List.getElem?_set_self (by omega)]
  · rw [World.cell?_setCell_other _ _ _ _ (by intro h; injection h with _ h; exact e h.symm), List.getElem?_set_ne (fun h => e h.symm)]
    exact h.cell j hj
end Go.Proofs.YtgopolmmeadmpaaGreatDoor
