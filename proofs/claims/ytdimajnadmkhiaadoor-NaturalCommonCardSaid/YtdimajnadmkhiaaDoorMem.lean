/-
  Words on memory for the walks over lists of limbs: a slice value that reads as a list of limbs, one that the call itself made, and how both are kept. No function of the program is named here.
-/
import Derived.Test.YtdimajnadmkhiaaDoorNum
import Derived.Below
import Derived.Laws.OwnMore
import Derived.Deep.AppendLies
import Derived.Deep.Draws
import Derived.OwnWalk
import Derived.Lib.Hide
namespace Go.Proofs.YtdimajnadmkhiaaDoor
open Go.RowKit

theorem addr_block (p : Addr) (k : Nat) : (p.add k).block = p.block := by
  rw [Addr.add]; split
  · rfl
  · rfl

/-- The limbs as the cells hold them. -/
def cells (L : List Int) : List Value := L.map (Value.int .u32)
theorem cells_length (L : List Int) : (cells L).length = L.length := List.length_map ..
theorem cells_get (L : List Int) (i : Nat) (h : i < L.length) : (cells L)[i]? = some (.int .u32 (L.getD i 0)) := by
  unfold cells
  rw [List.getElem?_map, List.getElem?_eq_getElem h, List.getD_eq_getElem?_getD, List.getElem?_eq_getElem h]; rfl

/-- The slice value with address A, length n and capacity c reads as the limbs L in w. -/
structure Rd (w : World) (A : Option Addr) (n c : Nat) (L : List Int) : Prop where
  len : L.length = n
  lims : Lims L
  cap : n ≤ c
  top : c ≤ maxLen
  at_ : 0 < n → ∃ ad, A = some ad ∧ ad.block < w.heap.size ∧ ∀ i, i < n → w.cell? (ad.add i) = some (.int .u32 (L.getD i 0))

section
variable {w w' : World} {A : Option Addr} {n c : Nat} {L : List Int}
theorem Rd.nil (w : World) : Rd w none 0 0 [] := ⟨rfl, Lims.nil, Nat.le_refl _, Nat.zero_le _, fun h => absurd h (by omega)⟩
theorem Rd.keep (h : Rd w A n c L) (hs : w.heap.size ≤ w'.heap.size) (hk : ∀ p : Addr, p.block < w.heap.size → w'.cell? p = w.cell? p) : Rd w' A n c L :=
  ⟨h.len, h.lims, h.cap, h.top, fun hn => by
    obtain ⟨ad, e, hb, hc⟩ := h.at_ hn
    exact ⟨ad, e, by omega, fun i hi => (hk _ (by rw [addr_block]; exact hb)).trans (hc i hi)⟩⟩
theorem Rd.below (h : Rd w A n c L) (hb : Below w.heap.size w w') : Rd w' A n c L := h.keep hb.size fun _ hp => hb.cell hp
theorem Rd.drew (h : Rd w A n c L) : Rd w.drew A n c L := ⟨h.len, h.lims, h.cap, h.top, h.at_⟩
theorem Rd.drewN (h : Rd w A n c L) (k : Nat) : Rd (w.drewN k) A n c L := ⟨h.len, h.lims, h.cap, h.top, h.at_⟩
theorem Rd.alloc (h : Rd w A n c L) (o : Obj) : Rd (w.alloc o) A n c L := h.keep (by simp) fun p hp => World.cell?_alloc_lt w o p hp
theorem Rd.take (h : Rd w A n c L) {k : Nat} (hk : k ≤ n) : Rd w A k c (L.take k) :=
  ⟨by rw [List.length_take, h.len]; omega, h.lims.take k, Nat.le_trans hk h.cap, h.top, fun hn => by
    obtain ⟨ad, e, hb, hc⟩ := h.at_ (by omega)
    refine ⟨ad, e, hb, fun i hi => ?_⟩
    rw [hc i (by omega), List.getD_eq_getElem?_getD, List.getD_eq_getElem?_getD, List.getElem?_take_of_lt hi]⟩
theorem Rd.cast (h : Rd w A n c L) {n' : Nat} {L' : List Int} (hn : n = n') (hL : L = L') : Rd w A n' c L' := by subst hn; subst hL; exact h
end

/-- The slice value is nil, or lies at the head of a block of the call's own (base or later), and holds the limbs L. -/
structure Mine (w : World) (base : Nat) (A : Option Addr) (n c : Nat) (L : List Int) : Prop where
  row : w.ownsRow base 42 1 (.slice A n c) n (cells L)
  lims : Lims L

section
variable {w w' : World} {base : Nat} {A : Option Addr} {n c : Nat} {L : List Int}
theorem Mine.nil (w : World) (base : Nat) : Mine w base none 0 0 [] := ⟨World.ownsRow_nil w base _ _, Lims.nil⟩
theorem Mine.len (h : Mine w base A n c L) : L.length = n := by
  have := h.row.1
  rw [cells_length] at this; omega
theorem Mine.rd (h : Mine w base A n c L) : Rd w A n c L := by
  refine ⟨h.len, h.lims, ?_, ?_, fun hn => ?_⟩
  · rcases h.row.2 with ⟨e, h0⟩ | ⟨g, cap, cur, e, _, _, h1, _⟩
    · omega
    · injection e with _ _ e; subst e; exact h1
  · rcases h.row.2 with ⟨e, h0⟩ | ⟨g, cap, cur, e, _, _, _, h1, _⟩
    · injection e with _ _ e; subst e; exact Nat.zero_le _
    · injection e with _ _ e; subst e; exact h1
  · rcases h.row.2 with ⟨_, h0⟩ | ⟨g, cap, cur, e, _, hg, _⟩
    · omega
    · injection e with e _ _
      subst e
      refine ⟨_, rfl, (Array.getElem?_eq_some_iff.1 hg).1, fun i hi => ?_⟩
      exact h.row.cells (g := g) rfl i _ (cells_get L i (by rw [h.len]; exact hi))
theorem Mine.form (h : Mine w base A n c L) (hn : 0 < n) : ∃ g, A = some ⟨g, 0, none⟩ ∧ base ≤ g ∧ g < w.heap.size := by
  rcases h.row.2 with ⟨_, h0⟩ | ⟨g, cap, cur, e, hb, hg, _⟩
  · omega
  · injection e with e _ _
    exact ⟨g, e, hb, (Array.getElem?_eq_some_iff.1 hg).1⟩
theorem Mine.lt (h : Mine w base A n c L) : ∀ a, A = some a → base ≤ a.block ∧ a.block < w.heap.size := by
  rintro a rfl
  exact h.row.lt a.block rfl
/-- Whatever leaves the slice's own block alone keeps it. -/
theorem Mine.keep (h : Mine w base A n c L) (hk : ∀ a, A = some a → w'.heap[a.block]? = w.heap[a.block]?) : Mine w' base A n c L := by
  refine ⟨⟨h.row.1, ?_⟩, h.lims⟩
  rcases h.row.2 with e | ⟨g, cap, cur, e, hb, hg, rest⟩
  · exact .inl e
  · refine .inr ⟨g, cap, cur, e, hb, ?_, rest⟩
    injection e with e _ _
    rw [hk _ e]; exact hg
theorem Mine.below (h : Mine w base A n c L) (hb : Below w.heap.size w w') : Mine w' base A n c L := h.keep fun a ha => hb.block _ (h.lt a ha).2
theorem Mine.drewN (h : Mine w base A n c L) (k : Nat) : Mine (w.drewN k) base A n c L := ⟨h.row, h.lims⟩
theorem Mine.drew (h : Mine w base A n c L) : Mine w.drew base A n c L := ⟨h.row, h.lims⟩
theorem Mine.alloc (h : Mine w base A n c L) (o : Obj) : Mine (w.alloc o) base A n c L := ⟨h.row.alloc o, h.lims⟩
theorem Mine.far (h : Mine w base A n c L) {p : Addr} (hp : ∀ a, A = some a → a.block ≠ p.block) (u : Value) : Mine (w.setCell p u) base A n c L :=
  h.keep fun a ha => Below.heap_setCell _ _ _ _ (hp a ha)
theorem Mine.more (h : Mine w base A n c L) {base' : Nat} (hb : base' ≤ base) : Mine w base' A n c L := by
  refine ⟨⟨h.row.1, ?_⟩, h.lims⟩
  rcases h.row.2 with e | ⟨g, cap, cur, e, hg, rest⟩
  · exact .inl e
  · exact .inr ⟨g, cap, cur, e, Nat.le_trans hb hg, rest⟩
theorem Mine.cast (h : Mine w base A n c L) {n' : Nat} {L' : List Int} (hn : n = n') (hL : L = L') : Mine w base A n' c L' := by subst hn; subst hL; exact h
theorem Mine.take (h : Mine w base A n c L) {k : Nat} (hk : k ≤ n) (h0 : 0 < n) : Mine w base A k c (L.take k) := by
  have hl := h.len
  refine ⟨⟨by rw [cells_length, List.length_take]; omega, ?_⟩, h.lims.take k⟩
  rcases h.row.2 with ⟨_, e0⟩ | ⟨g, cap, cur, e, hb, hg, h1, h2, h3, h4⟩
  · omega
  · injection e with e1 _ e2
    subst e1; subst e2
    refine .inr ⟨g, c, cur, rfl, hb, hg, by omega, h2, h3, ?_⟩
    have : (cells L).take k = cells (L.take k) := by unfold cells; rw [List.map_take]
    rw [← this, ← h4, List.take_take]
    congr 1
    omega
section
variable {g : Nat}
theorem Mine.cellAt (h : Mine w base (some ⟨g, 0, none⟩) n c L) {i : Nat} (hi : i < n) : w.cell? ⟨g, i, none⟩ = some (.int .u32 (L.getD i 0)) := by
  have := h.row.cellAt i (by omega)
  rw [this, cells_get _ _ (by rw [h.len]; exact hi)]
theorem Mine.frozenAt (h : Mine w base (some ⟨g, 0, none⟩) n c L) (i : Nat) : w.frozen? ⟨g, i, none⟩ = false := h.row.frozenAt i
theorem Mine.stored (h : Mine w base (some ⟨g, 0, none⟩) n c L) (i : Nat) {x : Int} (x0 : 0 ≤ x) (x1 : x < 4294967296) : Mine (w.setCell ⟨g, i, none⟩ (.int .u32 x)) base (some ⟨g, 0, none⟩) n c (L.set i x) := by
  refine ⟨?_, h.lims.set i x0 x1⟩
  have : cells (L.set i x) = (cells L).set i (.int .u32 x) := by unfold cells; rw [List.map_set]
  rw [this]
  exact (h.row.stored i _).1
end
end
/-- A block that holds the limbs L, laid by the call. -/
theorem Mine.lit (w : World) {base : Nat} (hb : base ≤ w.heap.size) (cs : Array Value) (L : List Int) (hL : Lims L) (hs : cs.toList = cells L) (hm : L.length ≤ maxLen) :
    Mine (w.alloc (.cells cs 42)) base (some ⟨w.heap.size, 0, none⟩) L.length L.length L := by
  refine ⟨⟨by rw [cells_length]; omega, .inr ⟨w.heap.size, L.length, cs, rfl, hb, heap_alloc_new w _, Nat.le_refl _, hm, ?_, ?_⟩⟩, hL⟩
  · rw [Nat.mul_one, ← Array.length_toList, hs, cells_length]
  · rw [Nat.mul_one, hs, List.take_of_length_le (by rw [cells_length]; omega)]
theorem Mine.of_row {w : World} {base : Nat} {v : Value} {n : Nat} {L : List Int} (h : w.ownsRow base 42 1 v n (cells L)) (hL : Lims L) : ∃ A c, v = .slice A n c ∧ Mine w base A n c L := by
  rcases h.2 with ⟨e, h0⟩ | ⟨g, cap, cur, e, _⟩
  · subst h0
    exact ⟨none, 0, e, e ▸ h, hL⟩
  · exact ⟨_, _, e, e ▸ h, hL⟩
theorem oneCell_cells (L : List Int) : ∀ u ∈ cells L, u.oneCell' = true := ints_oneCell _ _

theorem drewN_below {B : Nat} {a w : World} (h : Below B a w) (n : Nat) : Below B a (w.drewN n) := ⟨h.os, h.tape, h.output, h.size, h.block⟩

theorem cells_zero (n : Nat) : (madeCells #[Value.int .u32 0] n).toList = cells (List.replicate n 0) := by
  rw [toList_madeCells_one, cells, List.map_replicate]
theorem Mine.zero {w : World} {base : Nat} {A : Option Addr} {n c : Nat} (h : w.ownsRow base 42 1 (.slice A n c) n (madeCells #[Value.int .u32 0] n).toList) : Mine w base A n c (List.replicate n 0) :=
  ⟨by rw [← cells_zero]; exact h, Lims.replicate n⟩
theorem below_of_grown {w w' : World} (h : w.grownBy w' none) : Below w.heap.size w w' := (Below.refl _ _).grown h (Nat.le_refl _) (fun k hk => by cases hk)

/-- Of what was there, at most the block of A is changed, and no block is new. -/
structure Only (A : Option Addr) (w w' : World) : Prop where
  os : w'.os = w.os
  tape : w'.tape = w.tape
  output : w'.output = w.output
  size : w'.heap.size = w.heap.size
  block : ∀ k, (∀ a, A = some a → a.block ≠ k) → w'.heap[k]? = w.heap[k]?
section
variable {w w' w2 : World} {A : Option Addr}
theorem Only.refl (A : Option Addr) (w : World) : Only A w w := ⟨rfl, rfl, rfl, rfl, fun _ _ => rfl⟩
theorem Only.drewN (h : Only A w w') (k : Nat) : Only A w (w'.drewN k) := ⟨h.os, h.tape, h.output, h.size, h.block⟩
theorem Only.drew (h : Only A w w') : Only A w w'.drew := ⟨h.os, h.tape, h.output, h.size, h.block⟩
theorem Only.set {g : Nat} (h : Only (some ⟨g, 0, none⟩) w w') (i : Nat) (u : Value) : Only (some ⟨g, 0, none⟩) w (w'.setCell ⟨g, i, none⟩ u) :=
  ⟨h.os, h.tape, h.output, by rw [← h.size]; simp [World.setCell], fun k hk => (Below.heap_setCell w' ⟨g, i, none⟩ u k (fun e => hk _ rfl e.symm)).trans (h.block k hk)⟩
theorem Only.below {B : Nat} (h : Only A w w') (hA : ∀ a, A = some a → B ≤ a.block) : Below B w w' :=
  ⟨h.os, h.tape, h.output, by rw [h.size]; exact Nat.le_refl _, fun k hk => h.block k (fun a ha => by have := hA a ha; omega)⟩
theorem Mine.other {base n c : Nat} {A' : Option Addr} {L : List Int} (h : Mine w base A' n c L) (ho : Only A w w') (hne : ∀ a a', A = some a → A' = some a' → a.block ≠ a'.block) : Mine w' base A' n c L :=
  h.keep fun a' ha' => ho.block _ (fun a ha => hne a a' ha ha')
end

theorem nextB {w w1 w2 : World} (h : Below w.heap.size w w1) (k : Below w1.heap.size w1 w2) : Below w.heap.size w w2 := h.trans (k.mono h.size)

theorem Only.farCell {w w' : World} {g : Nat} (h : Only (some ⟨g, 0, none⟩) w w') {p : Addr} (hp : p.block ≠ g) : w'.cell? p = w.cell? p :=
  World.cell?_of_block (h.block _ (by intro a ha; injection ha with ha; rw [← ha]; exact fun e => hp e.symm))

theorem add_plain (g i k : Nat) : (⟨g, i, none⟩ : Addr).add k = ⟨g, i + k, none⟩ := by
  rw [Addr.add]
  split
  · next h => rw [h, Nat.add_zero]
  · rfl
theorem Rd.cellAt {w : World} {g i n c : Nat} {L : List Int} (h : Rd w (some ⟨g, i, none⟩) n c L) {k : Nat} (hk : k < n) : w.cell? ⟨g, i + k, none⟩ = some (.int .u32 (L.getD k 0)) := by
  obtain ⟨ad, e, _, hc⟩ := h.at_ (by omega)
  injection e with e
  rw [← e] at hc
  have := hc k hk
  rwa [add_plain] at this
theorem Mine.window {w : World} {base g N C i k : Nat} {R : List Int} (h : Mine w base (some ⟨g, 0, none⟩) N C R) (hk : i + k ≤ N) (hC : i ≤ C) : Rd w (some ⟨g, i, none⟩) k (C - i) ((R.drop i).take k) := by
  have hl := h.len
  have hc := h.rd.cap
  refine ⟨by rw [List.length_take, List.length_drop]; omega, (h.lims.drop i).take k, by omega, by have := h.rd.top; omega, fun h0 => ⟨_, rfl, (h.lt _ rfl).2, fun j hj => ?_⟩⟩
  rw [add_plain, h.cellAt (by omega)]
  rw [List.getD_eq_getElem?_getD, List.getD_eq_getElem?_getD, List.getElem?_take_of_lt hj, List.getElem?_drop]

end Go.Proofs.YtdimajnadmkhiaaDoor
