/-
  A fraction whose two slices are the call's own, in a box: what appending a limb to either of them leaves.
-/
import Derived.Test.YthnmjaaelhcbpaaDoorRatCmp
import Derived.Test.YthnmjaaelhcbpaaDoorField
import Derived.Deep.AppendLies
namespace Go.Proofs.YthnmjaaelhcbpaaDoor
open Go.RowKit
set_option maxRecDepth 20000

/-- No slice at the block. -/
def Apart (A : Option Addr) (b : Nat) : Prop := ∀ a, A = some a → a.block ≠ b
/-- The box gc holds s and two slices; A and B are slices of the call's own, each in a block of its own. -/
structure Pair (v w : World) (gc : Nat) (s : Bool) (A0 : Option Addr) (n0 c0 : Nat) (B0 : Option Addr) (m0 d0 : Nat) (A : Option Addr) (n c : Nat) (L : List Int) (B : Option Addr) (m d : Nat) (M : List Int) : Prop where
  x : w.cell? ⟨gc, 0, none⟩ = some (.bool s) ∧ w.cell? ⟨gc, 1, none⟩ = some (.slice A0 n0 c0) ∧ w.cell? ⟨gc, 2, none⟩ = some (.slice B0 m0 d0)
  f : w.frozen? ⟨gc, 0, none⟩ = false ∧ w.frozen? ⟨gc, 1, none⟩ = false ∧ w.frozen? ⟨gc, 2, none⟩ = false
  ma : Mine w v.heap.size A n c L
  mb : Mine w v.heap.size B m d M
  aA : Apart A gc
  aB : Apart B gc
  ab : ∀ a b, A = some a → B = some b → a.block ≠ b.block
  hk : Below v.heap.size v w
  lt : gc < w.heap.size
  le : v.heap.size ≤ gc
/-- A block that holds one zero limb, apart from A and B. -/
structure Lit (w : World) (b : Nat) (A B : Option Addr) : Prop where
  x : w.cell? ⟨b, 0, none⟩ = some (.int .u32 0)
  lt : b < w.heap.size
  aA : Apart A b
  aB : Apart B b

theorem ownBlock_slice {A : Option Addr} {n c b : Nat} (h : Apart A b) : some b ≠ (Value.slice A n c).ownBlock := by
  cases A with
  | none => intro e; cases e
  | some a => intro e; injection e with e; exact h a rfl e.symm
theorem apart_new {A : Option Addr} {n c g b : Nat} {w : World} (h : Apart A b) (hat : (Value.slice A n c).ownBlock = some g ∨ g = w.heap.size) (hb : b < w.heap.size) : Apart (some ⟨g, 0, none⟩) b := by
  intro a ha e
  injection ha with ha
  subst ha
  rcases hat with h1 | h1
  · exact ownBlock_slice h (by rw [h1, ← e])
  · dsimp only at e; omega

section
variable {v w w' : World} {gc b g cap : Nat} {s : Bool} {A0 B0 A B : Option Addr} {n0 c0 m0 d0 n c m d : Nat} {L M : List Int}
theorem Pair.later (h : Pair v w gc s A0 n0 c0 B0 m0 d0 A n c L B m d M) (hb : Below w.heap.size w w') : Pair v w' gc s A0 n0 c0 B0 m0 d0 A n c L B m d M := by
  obtain ⟨x0, x1, x2⟩ := h.x
  obtain ⟨f0, f1, f2⟩ := h.f
  have hl := h.lt
  refine ⟨⟨?_, ?_, ?_⟩, ⟨?_, ?_, ?_⟩, h.ma.below hb, h.mb.below hb, h.aA, h.aB, h.ab, h.hk.trans (hb.mono h.hk.size), Nat.lt_of_lt_of_le h.lt hb.size, h.le⟩
  · rw [hb.cell (p := ⟨gc, 0, none⟩) hl, x0]
  · rw [hb.cell (p := ⟨gc, 1, none⟩) hl, x1]
  · rw [hb.cell (p := ⟨gc, 2, none⟩) hl, x2]
  · rw [hb.frozen (p := ⟨gc, 0, none⟩) hl, f0]
  · rw [hb.frozen (p := ⟨gc, 1, none⟩) hl, f1]
  · rw [hb.frozen (p := ⟨gc, 2, none⟩) hl, f2]
theorem Lit.later (h : Lit w b A B) (hb : Below w.heap.size w w') : Lit w' b A B :=
  ⟨by rw [hb.cell (p := ⟨b, 0, none⟩) h.lt, h.x], Nat.lt_of_lt_of_le h.lt hb.size, h.aA, h.aB⟩
theorem Lit.new (h : Pair v w gc s A0 n0 c0 B0 m0 d0 A n c L B m d M) (t : TypeId) : Lit (w.alloc (.cells #[.int .u32 0] t)) w.heap.size A B :=
  ⟨(World.cell?_alloc_new ..).trans rfl, by rw [World.size_alloc]; exact Nat.lt_succ_self _, fun a ha e => by have := (h.ma.lt a ha).2; omega, fun a ha e => by have := (h.mb.lt a ha).2; omega⟩
theorem Lit.news (h : Lit w b A B) : ∀ j u, [Value.int .u32 0][j]? = some u → w.cell? ((⟨b, 0, none⟩ : Addr).add j) = some u := by
  intro j u hj
  match j, hj with
  | 0, hj =>
    injection hj with hj
    subst hj
    rw [add_plain]; exact h.x
theorem cells_zero1 (L : List Int) : cells L ++ [.int .u32 0] = cells (L ++ [0]) := by unfold cells; simp
theorem val_zero1 (L : List Int) : val (L ++ [0]) = val L := by rw [val_snoc, Int.mul_zero, Int.add_zero]
theorem lims_zero1 {L : List Int} (h : Lims L) : Lims (L ++ [0]) := h.append (Lims.cons (Int.le_refl 0) (by decide) Lims.nil)

theorem Pair.growA (h : Pair v w gc s A0 n0 c0 B0 m0 d0 A n c L B m d M) (ho : w'.ownsRow v.heap.size 48 1 (.slice (some ⟨g, 0, none⟩) (n + 1) cap) (n + 1) (cells L ++ [.int .u32 0])) (hg : w.grownBy w' (Value.slice A n c).ownBlock)
    (hat : (Value.slice A n c).ownBlock = some g ∨ g = w.heap.size) : Pair v w' gc s A0 n0 c0 B0 m0 d0 (some ⟨g, 0, none⟩) (n + 1) cap (L ++ [0]) B m d M := by
  obtain ⟨x0, x1, x2⟩ := h.x
  obtain ⟨f0, f1, f2⟩ := h.f
  have hl := h.lt
  have hn := ownBlock_slice (n := n) (c := c) h.aA
  rw [cells_zero1] at ho
  have hz : v.heap.size ≤ w.heap.size := h.hk.size
  refine ⟨⟨?_, ?_, ?_⟩, ⟨?_, ?_, ?_⟩, ⟨ho, lims_zero1 h.ma.lims⟩, h.mb.keep fun b hb => hg.block _ (h.mb.lt b hb).2 ?_, apart_new h.aA hat hl, h.aB, ?_, grown_below h.hk h.ma.row hg hz (Nat.le_refl _), Nat.lt_of_lt_of_le h.lt hg.size, h.le⟩
  · rw [hg.cell_far ⟨gc, 0, none⟩ hl hn, x0]
  · rw [hg.cell_far ⟨gc, 1, none⟩ hl hn, x1]
  · rw [hg.cell_far ⟨gc, 2, none⟩ hl hn, x2]
  · rw [hg.frozen_far ⟨gc, 0, none⟩ hl hn, f0]
  · rw [hg.frozen_far ⟨gc, 1, none⟩ hl hn, f1]
  · rw [hg.frozen_far ⟨gc, 2, none⟩ hl hn, f2]
  · exact ownBlock_slice fun a ha => h.ab a b ha hb
  · intro a b ha hb
    exact apart_new (n := n) (c := c) (fun a ha => h.ab a b ha hb) hat (h.mb.lt b hb).2 a ha
theorem Pair.growB (h : Pair v w gc s A0 n0 c0 B0 m0 d0 A n c L B m d M) (ho : w'.ownsRow v.heap.size 48 1 (.slice (some ⟨g, 0, none⟩) (m + 1) cap) (m + 1) (cells M ++ [.int .u32 0])) (hg : w.grownBy w' (Value.slice B m d).ownBlock)
    (hat : (Value.slice B m d).ownBlock = some g ∨ g = w.heap.size) : Pair v w' gc s A0 n0 c0 B0 m0 d0 A n c L (some ⟨g, 0, none⟩) (m + 1) cap (M ++ [0]) := by
  obtain ⟨x0, x1, x2⟩ := h.x
  obtain ⟨f0, f1, f2⟩ := h.f
  have hl := h.lt
  have hn := ownBlock_slice (n := m) (c := d) h.aB
  rw [cells_zero1] at ho
  have hz : v.heap.size ≤ w.heap.size := h.hk.size
  refine ⟨⟨?_, ?_, ?_⟩, ⟨?_, ?_, ?_⟩, h.ma.keep fun a ha => hg.block _ (h.ma.lt a ha).2 ?_, ⟨ho, lims_zero1 h.mb.lims⟩, h.aA, apart_new h.aB hat hl, ?_, grown_below h.hk h.mb.row hg hz (Nat.le_refl _), Nat.lt_of_lt_of_le h.lt hg.size, h.le⟩
  · rw [hg.cell_far ⟨gc, 0, none⟩ hl hn, x0]
  · rw [hg.cell_far ⟨gc, 1, none⟩ hl hn, x1]
  · rw [hg.cell_far ⟨gc, 2, none⟩ hl hn, x2]
  · rw [hg.frozen_far ⟨gc, 0, none⟩ hl hn, f0]
  · rw [hg.frozen_far ⟨gc, 1, none⟩ hl hn, f1]
  · rw [hg.frozen_far ⟨gc, 2, none⟩ hl hn, f2]
  · exact ownBlock_slice fun b hb e => h.ab a b ha hb e.symm
  · intro a b ha hb e
    exact apart_new (n := m) (c := d) (fun b hb e => h.ab a b ha hb e.symm) hat (h.ma.lt a ha).2 b hb e.symm
theorem Lit.grow (h : Lit w b A B) {R : Option Addr} {k e : Nat} (hR : Apart R b) (hg : w.grownBy w' (Value.slice R k e).ownBlock) : w'.cell? ⟨b, 0, none⟩ = some (.int .u32 0) := by
  rw [hg.cell_far ⟨b, 0, none⟩ h.lt (ownBlock_slice hR), h.x]
theorem Lit.growA (h : Lit w b A B) (hg : w.grownBy w' (Value.slice A n c).ownBlock) (hat : (Value.slice A n c).ownBlock = some g ∨ g = w.heap.size) : Lit w' b (some ⟨g, 0, none⟩) B :=
  ⟨h.grow h.aA hg, Nat.lt_of_lt_of_le h.lt hg.size, apart_new h.aA hat h.lt, h.aB⟩
/-- Both stores, one behind the other. -/
theorem Pair.stored (h : Pair v w gc s A0 n0 c0 B0 m0 d0 A n c L B m d M) : Pair v ((w.setCell ⟨gc, 1, none⟩ (.slice A n c)).setCell ⟨gc, 2, none⟩ (.slice B m d)) gc s A n c B m d A n c L B m d M := by
  obtain ⟨x0, x1, x2⟩ := h.x
  obtain ⟨f0, f1, f2⟩ := h.f
  refine ⟨⟨?_, ?_, ?_⟩, ⟨?_, ?_, ?_⟩, (h.ma.far (p := ⟨gc, 1, none⟩) h.aA _).far (p := ⟨gc, 2, none⟩) h.aA _, (h.mb.far (p := ⟨gc, 1, none⟩) h.aB _).far (p := ⟨gc, 2, none⟩) h.aB _, h.aA, h.aB, h.ab, (h.hk.setCell h.le _).setCell h.le _, by simpa [World.setCell] using h.lt, h.le⟩
  · rw [World.cell?_setCell_other _ _ _ _ (by simp), World.cell?_setCell_other _ _ _ _ (by simp)]; exact x0
  · rw [World.cell?_setCell_other _ _ _ _ (by simp)]; exact World.cell?_setCell_same _ _ _ x1
  · refine World.cell?_setCell_same _ _ _ (u := .slice B0 m0 d0) ?_
    rw [World.cell?_setCell_other _ _ _ _ (by simp)]; exact x2
  all_goals rw [World.frozen?_setCell, World.frozen?_setCell]; assumption
theorem Pair.made {z0 z1 z2 : Value} (x : w.cell? ⟨gc, 0, none⟩ = some z0 ∧ w.cell? ⟨gc, 1, none⟩ = some z1 ∧ w.cell? ⟨gc, 2, none⟩ = some z2) (f : w.frozen? ⟨gc, 0, none⟩ = false ∧ w.frozen? ⟨gc, 1, none⟩ = false ∧ w.frozen? ⟨gc, 2, none⟩ = false)
    (ma : Mine w v.heap.size A n c L) (mb : Mine w v.heap.size B m d M) (aA : Apart A gc) (aB : Apart B gc) (ab : ∀ a b, A = some a → B = some b → a.block ≠ b.block) (hk : Below v.heap.size v w) (lt : gc < w.heap.size) (le : v.heap.size ≤ gc) :
    Pair v (((w.setCell ⟨gc, 0, none⟩ (.bool s)).setCell ⟨gc, 1, none⟩ (.slice A n c)).setCell ⟨gc, 2, none⟩ (.slice B m d)) gc s A n c B m d A n c L B m d M := by
  obtain ⟨f0, f1, f2⟩ := f
  refine ⟨set3 x, ⟨?_, ?_, ?_⟩, ((ma.far (p := ⟨gc, 0, none⟩) aA _).far (p := ⟨gc, 1, none⟩) aA _).far (p := ⟨gc, 2, none⟩) aA _, ((mb.far (p := ⟨gc, 0, none⟩) aB _).far (p := ⟨gc, 1, none⟩) aB _).far (p := ⟨gc, 2, none⟩) aB _, aA, aB, ab, ((hk.setCell le _).setCell le _).setCell le _, by simpa [World.setCell] using lt, le⟩
  all_goals rw [World.frozen?_setCell, World.frozen?_setCell, World.frozen?_setCell]; assumption
end

/-- c, somewhere: its slices stand for X and Y, in at most k limbs each. -/
def DenC (v : World) (s : Bool) (X Y : Int) (k gc : Nat) (w : World) : Prop :=
  ∃ A n c L B m d M, Pair v w gc s A n c B m d A n c L B m d M ∧ val L = X ∧ val M = Y ∧ n ≤ k ∧ m ≤ k
theorem DenC.later {v w w' : World} {s : Bool} {X Y : Int} {k gc : Nat} (h : DenC v s X Y k gc w) (hb : Below w.heap.size w w') : DenC v s X Y k gc w' := by
  obtain ⟨A, n, c, L, B, m, d, M, hp, h2⟩ := h
  exact ⟨A, n, c, L, B, m, d, M, hp.later hb, h2⟩

theorem refMul_g {w : World} {A B : Option Addr} {n c m d : Nat} {x y : Int} (hx : Num w A n c x) (hy : Num w B m d y) (hn : n ≤ 400000) (hm : m ≤ 400000) : Calls Tryd.prog 22 #[.slice A n c, .slice B m d] w (Gives w (x * y)) := by
  obtain ⟨L, h1, rfl⟩ := hx
  obtain ⟨M, h2, rfl⟩ := hy
  exact refMul_any A B n c m d L M w h1 h2 hn hm

theorem is_short {L : List Int} {x : Int} {n k : Nat} (h : Is L x) (hl : L.length = n) (hx : x < pw k) : n ≤ k := by
  rcases Nat.lt_or_ge k n with hlt | hge
  · obtain ⟨j, rfl⟩ : ∃ j, n = j + 1 := ⟨n - 1, by omega⟩
    have h1 := h.ge hl
    have h2 := pw_mono (show k ≤ j by omega)
    omega
  · exact hge

end Go.Proofs.YthnmjaaelhcbpaaDoor
