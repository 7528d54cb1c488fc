/-
  exactpplmake.Src: the reader of numbers. Its own block g is the only old memory that it changes.
-/
import Derived.Test.YtekalaihfmfkkaaDoorSame
import Derived.Test.YtekalaihfmfkkaaDoorFmt
import Derived.Deep.QuietTactic
import Derived.BigQuiet
import Derived.Deep.CutBlock
import Derived.Deep.DeepCutAuto
namespace Go.Proofs.YtekalaihfmfkkaaDoor
open Go.RowKit
set_option maxRecDepth 20000

/-- Of the memory that was there, at most block g has changed. -/
structure But (g : Nat) (w w' : World) : Prop where
  os : w'.os = w.os
  tape : w'.tape = w.tape
  output : w'.output = w.output
  size : w.heap.size ≤ w'.heap.size
  block : ∀ k, k < w.heap.size → k ≠ g → w'.heap[k]? = w.heap[k]?
theorem But.refl (g : Nat) (w : World) : But g w w := ⟨rfl, rfl, rfl, Nat.le_refl _, fun _ _ _ => rfl⟩
theorem But.trans {g : Nat} {a b c : World} (h : But g a b) (k : But g b c) : But g a c :=
  ⟨k.os.trans h.os, k.tape.trans h.tape, k.output.trans h.output, Nat.le_trans h.size k.size, fun i hi hg => (k.block i (Nat.lt_of_lt_of_le hi h.size) hg).trans (h.block i hi hg)⟩
theorem But.of_below {g : Nat} {w w' : World} (h : Below w.heap.size w w') : But g w w' := ⟨h.os, h.tape, h.output, h.size, fun k hk _ => h.block k hk⟩
theorem But.below {g B : Nat} {w w' : World} (h : But g w w') (hg : B ≤ g) (hs : B ≤ w.heap.size) : Below B w w' := ⟨h.os, h.tape, h.output, h.size, fun k hk => h.block k (by omega) (by omega)⟩
theorem But.drewN {g : Nat} {w w' : World} (h : But g w w') (n : Nat) : But g w (w'.drewN n) := ⟨h.os, h.tape, h.output, h.size, h.block⟩
theorem But.set {g : Nat} {w w' : World} (h : But g w w') (i : Nat) (u : Value) : But g w (w'.setCell ⟨g, i, none⟩ u) :=
  ⟨h.os, h.tape, h.output, by have := h.size; simp [World.setCell]; exact this, fun k hk hg => (Below.heap_setCell w' ⟨g, i, none⟩ u k hg).trans (h.block k hk hg)⟩
theorem But.alloc {g : Nat} {w w' : World} (h : But g w w') (o : Obj) : But g w (w'.alloc o) :=
  h.trans (But.of_below ((Below.refl _ _).alloc (Nat.le_refl _) o))
theorem But.cell {g : Nat} {w w' : World} (h : But g w w') {p : Addr} (hp : p.block < w.heap.size) (hg : p.block ≠ g) : w'.cell? p = w.cell? p := World.cell?_of_block (h.block _ hp hg)

theorem cell_far (w : World) (p a : Addr) (v : Value) (h : p.block ≠ a.block) : (w.setCell p v).cell? a = w.cell? a :=
  World.cell?_setCell_other _ _ _ _ (fun e => h (by rw [e]))
/-- The reader lies in block g: its list, the place p, and the count q. -/
structure SrcAt (w : World) (g : Nat) (A : Option Addr) (n c : Nat) (p q : Int) : Prop where
  size : g < w.heap.size
  cL : w.cell? ⟨g, 0, none⟩ = some (.slice A n c)
  cAt : w.cell? ⟨g, 1, none⟩ = some (.int .i64 p)
  cSites : w.cell? ⟨g, 2, none⟩ = some (.int .i64 q)
  fr : ∀ i, w.frozen? ⟨g, i, none⟩ = false
  p0 : 0 ≤ p
  p1 : p ≤ n
  small : n ≤ 1000
  ints : 0 < n → ∃ ad, A = some ad ∧ ad.block < g ∧ ∀ i, i < n → ∃ z, w.cell? (ad.add i) = some (.int .i64 z) ∧ -9223372036854775808 ≤ z ∧ z ≤ 9223372036854775807
def Src (w : World) (g : Nat) : Prop := ∃ A n c p q, SrcAt w g A n c p q
theorem SrcAt.belowB {w w' : World} {g B : Nat} {A : Option Addr} {n c : Nat} {p q : Int} (h : SrcAt w g A n c p q) (hb : Below B w w') (hg : g < B) : SrcAt w' g A n c p q := by
  refine ⟨Nat.lt_of_lt_of_le h.size hb.size, ?_, ?_, ?_, fun i => ?_, h.p0, h.p1, h.small, fun hn => ?_⟩
  · rw [hb.cell (p := ⟨g, 0, none⟩) hg]; exact h.cL
  · rw [hb.cell (p := ⟨g, 1, none⟩) hg]; exact h.cAt
  · rw [hb.cell (p := ⟨g, 2, none⟩) hg]; exact h.cSites
  · rw [hb.frozen (p := ⟨g, i, none⟩) hg]; exact h.fr i
  · obtain ⟨ad, e, hgb, hc⟩ := h.ints hn
    refine ⟨ad, e, hgb, fun i hi => ?_⟩
    rw [hb.cell (p := ad.add i) (by rw [addr_block]; omega)]; exact hc i hi
theorem SrcAt.below {w w' : World} {g : Nat} {A : Option Addr} {n c : Nat} {p q : Int} (h : SrcAt w g A n c p q) (hb : Below w.heap.size w w') : SrcAt w' g A n c p q := h.belowB hb h.size
theorem Src.belowB {w w' : World} {g B : Nat} (h : Src w g) (hb : Below B w w') (hg : g < B) : Src w' g := by
  obtain ⟨A, n, c, p, q, h⟩ := h
  exact ⟨A, n, c, p, q, h.belowB hb hg⟩
theorem But.onB {g B : Nat} {a b c : World} (h : But g a b) (k : Below B b c) (hB : a.heap.size ≤ B) : But g a c :=
  ⟨k.os.trans h.os, k.tape.trans h.tape, k.output.trans h.output, Nat.le_trans h.size k.size, fun i hi hg => (k.block i (Nat.lt_of_lt_of_le hi hB)).trans (h.block i hi hg)⟩
theorem Src.below {w w' : World} {g : Nat} (h : Src w g) (hb : Below w.heap.size w w') : Src w' g := by
  obtain ⟨A, n, c, p, q, h⟩ := h
  exact ⟨A, n, c, p, q, h.below hb⟩
theorem SrcAt.drewN {w : World} {g : Nat} {A : Option Addr} {n c : Nat} {p q : Int} (h : SrcAt w g A n c p q) (k : Nat) : SrcAt (w.drewN k) g A n c p q :=
  ⟨h.size, h.cL, h.cAt, h.cSites, h.fr, h.p0, h.p1, h.small, h.ints⟩
theorem Src.size {w : World} {g : Nat} (h : Src w g) : g < w.heap.size := by
  obtain ⟨A, n, c, p, q, h⟩ := h
  exact h.size
theorem SrcAt.step {w : World} {g : Nat} {A : Option Addr} {n c : Nat} {p q : Int} (h : SrcAt w g A n c p q) (hp : p < n) : SrcAt (w.setCell ⟨g, 1, none⟩ (.int .i64 (p + 1))) g A n c (p + 1) q := by
  refine ⟨by simp [World.setCell]; exact h.size, ?_, ?_, ?_, fun i => ?_, by have := h.p0; omega, by omega, h.small, fun hn => ?_⟩
  · rw [World.cell?_setCell_other _ _ _ _ (by simp)]; exact h.cL
  · exact World.cell?_setCell_same _ _ _ h.cAt
  · rw [World.cell?_setCell_other _ _ _ _ (by simp)]; exact h.cSites
  · rw [World.frozen?_setCell]; exact h.fr i
  · obtain ⟨ad, e, hg, hc⟩ := h.ints hn
    refine ⟨ad, e, hg, fun i hi => ?_⟩
    rw [cell_far _ _ _ _ (by rw [addr_block]; simp; omega)]; exact hc i hi

/-- A number of 64 bits is read; at most the reader's block has changed. -/
def Drawn (g : Nat) (lo hi : Int) (w : World) (e : Ending) (w' : World) : Prop := ∃ z, e = .returned (.int .i64 z) ∧ (lo ≤ z ∧ z ≤ hi) ∧ Src w' g ∧ But g w w'

/-- A list of ints that the call has laid. -/
def IntsAt (w : World) (ad : Addr) (m : Nat) (lo hi : Int) : Prop := ad.block < w.heap.size ∧ ∀ i, i < m → ∃ z, w.cell? (ad.add i) = some (.int .i64 z) ∧ lo ≤ z ∧ z ≤ hi

/-- A reader over a list that came in is made: a new block. -/
def NewSrc (w : World) (e : Ending) (w' : World) : Prop := ∃ g, e = .returned (.pointer (some ⟨g, 0, none⟩)) ∧ w.heap.size ≤ g ∧ Src w' g ∧ Below w.heap.size w w'

/-- A list of at most 4 limbs, of the call's own, comes back; at most the reader's block has changed. -/
def GivesLimbs (g k : Nat) (w : World) (e : Ending) (w' : World) : Prop := ∃ A n c L, e = .returned (.slice A n c) ∧ Mine w' w.heap.size A n c L ∧ n ≤ k ∧ Src w' g ∧ But g w w'

theorem lits_at (w : World) (cs : Array Value) (t : TypeId) (m : Nat) (lo hi : Int) (hm : cs.size = m) (h : ∀ i, (hi' : i < cs.size) → ∃ z, cs[i] = .int .i64 z ∧ lo ≤ z ∧ z ≤ hi) : IntsAt (w.alloc (.cells cs t)) ⟨w.heap.size, 0, none⟩ m lo hi := by
  subst hm
  refine ⟨by simp, fun i hi' => ?_⟩
  obtain ⟨z, e, hz⟩ := h i hi'
  refine ⟨z, ?_, hz⟩
  rw [add_plain, Nat.zero_add, World.cell?_alloc_new, Array.getElem?_eq_getElem hi', e]

theorem twelve : ∀ i, (hi' : i < (#[.int .i64 0, .int .i64 1, .int .i64 2, .int .i64 3, .int .i64 10, .int .i64 97, .int .i64 65536, .int .i64 2147483648, .int .i64 4294967295, .int .i64 4294967291, .int .i64 123456789, .int .i64 4000000007] : Array Value).size) → ∃ z, (#[.int .i64 0, .int .i64 1, .int .i64 2, .int .i64 3, .int .i64 10, .int .i64 97, .int .i64 65536, .int .i64 2147483648, .int .i64 4294967295, .int .i64 4294967291, .int .i64 123456789, .int .i64 4000000007] : Array Value)[i] = .int .i64 z ∧ 0 ≤ z ∧ z ≤ 4294967295 := by
  intro i hi
  match i, hi with
  | 0, _ | 1, _ | 2, _ | 3, _ | 4, _ | 5, _ | 6, _ | 7, _ | 8, _ | 9, _ | 10, _ | 11, _ => exact ⟨_, rfl, by decide, by decide⟩
  | k + 12, h => simp at h; omega

end Go.Proofs.YtekalaihfmfkkaaDoor
