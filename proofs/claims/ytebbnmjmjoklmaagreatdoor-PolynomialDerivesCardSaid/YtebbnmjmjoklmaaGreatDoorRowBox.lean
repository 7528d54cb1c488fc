/-
  A term's cells in a row, as one fact; the scans of a partition, step by step.
-/
import Derived.Test.YtebbnmjmjoklmaaGreatDoorInsert
import Derived.Deep.RegionHeld3
import Derived.Deep.RegionWith
import Derived.Deep.DeepCutAuto
import Derived.Deep.CutBlock
namespace Go.Proofs.YtebbnmjmjoklmaaGreatDoor
open Go Go.RowKit Go.WideMaps Go.Sort

/-- A term's cells in a row. -/
def RowBox (g i : Nat) (x0 x1 x2 x3 x4 x5 x6 x7 : Int) (t : Tm) (W : World) : Prop := W.cell? ⟨g, i * 11, none⟩ = some (.int .i64 x0) ∧ W.cell? ⟨g, i * 11 + 1, none⟩ = some (.int .i64 x1) ∧ W.cell? ⟨g, i * 11 + 2, none⟩ = some (.int .i64 x2) ∧ W.cell? ⟨g, i * 11 + 3, none⟩ = some (.int .i64 x3) ∧ W.cell? ⟨g, i * 11 + 4, none⟩ = some (.int .i64 x4) ∧ W.cell? ⟨g, i * 11 + 5, none⟩ = some (.int .i64 x5) ∧ W.cell? ⟨g, i * 11 + 6, none⟩ = some (.int .i64 x6) ∧ W.cell? ⟨g, i * 11 + 7, none⟩ = some (.int .i64 x7) ∧ W.cell? ⟨g, i * 11 + 8, none⟩ = some (.bool t.s) ∧ W.cell? ⟨g, i * 11 + 9, none⟩ = some (.slice t.A t.n t.c) ∧ W.cell? ⟨g, i * 11 + 10, none⟩ = some (.slice t.B t.m t.d)
theorem RowBox.below {g i : Nat} {x0 x1 x2 x3 x4 x5 x6 x7 : Int} {t : Tm} {w W : World} (h : RowBox g i x0 x1 x2 x3 x4 x5 x6 x7 t w) (hb : Below w.heap.size w W) (hg : g < w.heap.size) : RowBox g i x0 x1 x2 x3 x4 x5 x6 x7 t W := by
  have hc : ∀ j, W.cell? ⟨g, j, none⟩ = w.cell? ⟨g, j, none⟩ := fun j => World.cell?_of_block (w := w) (a := ⟨g, j, none⟩) (hb.block g hg)
  obtain ⟨h0, h1, h2, h3, h4, h5, h6, h7, h8, h9, h10⟩ := h
  exact ⟨(hc _).trans h0, (hc _).trans h1, (hc _).trans h2, (hc _).trans h3, (hc _).trans h4, (hc _).trans h5, (hc _).trans h6, (hc _).trans h7, (hc _).trans h8, (hc _).trans h9, (hc _).trans h10⟩
theorem up_more {p : Q8 → Bool} {d : Array Q8} {i j : Nat} (h : i ≤ j) (hp : p d[i]! = true) : scanUp p d j i = scanUp p d j (i + 1) := by
  conv => lhs; unfold scanUp
  simp [h, hp]
theorem up_stop {p : Q8 → Bool} {d : Array Q8} {i j : Nat} (h : ¬ i ≤ j ∨ p d[i]! = false) : scanUp p d j i = i := by
  unfold scanUp
  rcases h with h | h <;> simp [h]
theorem down_more {p : Q8 → Bool} {d : Array Q8} {i j : Nat} (h : i ≤ j + 1) (hp : p d[j + 1]! = true) : scanDown p d i (j + 1) = scanDown p d i j := by
  conv => lhs; unfold scanDown
  simp [h, hp]
theorem down_stop {p : Q8 → Bool} {d : Array Q8} {i j : Nat} (h : ¬ i ≤ j ∨ p d[j]! = false) : scanDown p d i j = j := by
  cases j with
  | zero => rfl
  | succ j =>
    unfold scanDown
    rcases h with h | h <;> simp [h]
end Go.Proofs.YtebbnmjmjoklmaaGreatDoor
