/-
  Types and values as they lie in memory: a slice of structs reads as a list of trees, every block of it in a set S. What is kept, and what is laid. No function of the program is named here.
-/
import Derived.Test.YtklndjkblfncjaaGreatDoorTree
import Derived.Below
import Derived.Laws.OwnMore
import Derived.Deep.AppendLies
import Derived.Deep.Draws
import Derived.OwnWalk
import Derived.Lib.Hide
import Derived.Test.YtklndjkblfncjaaGreatDoorProg
import Derived.WalkKit
import Derived.Handy
import Derived.Outline
import Derived.BigQuiet
import Derived.Deep.QuietTactic
import Derived.Laws.AppendOwnNone
import Derived.Deep.LoopGhost
import Derived.WalkMore
namespace Go.Proofs.YtklndjkblfncjaaGreatDoor
open Go Go.RowKit
set_option maxRecDepth 20000

theorem addr_block (p : Addr) (k : Nat) : (p.add k).block = p.block := by
  rw [Addr.add]; split
  · rfl
  · rfl
theorem add_plain (g i k : Nat) : (⟨g, i, none⟩ : Addr).add k = ⟨g, i + k, none⟩ := by
  rw [Addr.add]
  split
  · next h => rw [h, Nat.add_zero]
  · rfl
theorem drewN_below {B : Nat} {a w : World} (h : Below B a w) (n : Nat) : Below B a (w.drewN n) := ⟨h.os, h.tape, h.output, h.size, h.block⟩
theorem below_of_grown {w w' : World} (h : w.grownBy w' none) : Below w.heap.size w w' := (Below.refl _ _).grown h (Nat.le_refl _) (fun k hk => by cases hk)
theorem nextB {w w1 w2 : World} (h : Below w.heap.size w w1) (k : Below w1.heap.size w1 w2) : Below w.heap.size w w2 := h.trans (k.mono h.size)
theorem allocB (w : World) (o : Obj) : Below w.heap.size w (w.alloc o) := (Below.refl _ _).alloc (Nat.le_refl _) o

/-- The five cells of a type at place p of block g. -/
structure TyCells (w : World) (g p : Nat) (T : Ty) (A : Option Addr) (n c : Nat) : Prop where
  c0 : w.cell? ⟨g, p, none⟩ = some (.int .i64 T.k)
  c1 : w.cell? ⟨g, p + 1, none⟩ = some (.int .i64 T.lo)
  c2 : w.cell? ⟨g, p + 2, none⟩ = some (.int .i64 T.hi)
  c3 : w.cell? ⟨g, p + 3, none⟩ = some (.int .i64 T.mx)
  c4 : w.cell? ⟨g, p + 4, none⟩ = some (.slice A n c)
/-- The two cells of a value. -/
structure VlCells (w : World) (g p : Nat) (V : Vl) (A : Option Addr) (n c : Nat) : Prop where
  c0 : w.cell? ⟨g, p, none⟩ = some (.int .i64 V.i)
  c1 : w.cell? ⟨g, p + 1, none⟩ = some (.slice A n c)
theorem TyCells.keep {w w' : World} {g p : Nat} {T : Ty} {A : Option Addr} {n c : Nat} (h : TyCells w g p T A n c) (hb : w'.heap[g]? = w.heap[g]?) : TyCells w' g p T A n c :=
  ⟨(World.cell?_of_block (a := ⟨g, p, none⟩) hb).trans h.c0, (World.cell?_of_block (a := ⟨g, p + 1, none⟩) hb).trans h.c1, (World.cell?_of_block (a := ⟨g, p + 2, none⟩) hb).trans h.c2, (World.cell?_of_block (a := ⟨g, p + 3, none⟩) hb).trans h.c3, (World.cell?_of_block (a := ⟨g, p + 4, none⟩) hb).trans h.c4⟩
theorem VlCells.keep {w w' : World} {g p : Nat} {V : Vl} {A : Option Addr} {n c : Nat} (h : VlCells w g p V A n c) (hb : w'.heap[g]? = w.heap[g]?) : VlCells w' g p V A n c :=
  ⟨(World.cell?_of_block (a := ⟨g, p, none⟩) hb).trans h.c0, (World.cell?_of_block (a := ⟨g, p + 1, none⟩) hb).trans h.c1⟩

/-- The slice (A, n, c) holds the elements of T, to the depth d, in blocks of S. -/
def TyRd (S : Nat → Prop) (w : World) : Nat → Ty → Option Addr → Nat → Nat → Prop
  | 0, _, _, _, _ => False
  | d + 1, T, A, n, c => (T.es.length = n ∧ n ≤ c ∧ c ≤ maxLen) ∧ ∀ i e, T.es[i]? = some e → ∃ g o A' n' c', A = some ⟨g, o, none⟩ ∧ S g ∧ g < w.heap.size ∧ TyCells w g (o + i * 5) e A' n' c' ∧ TyRd S w d e A' n' c'
def VlRd (S : Nat → Prop) (w : World) : Nat → Vl → Option Addr → Nat → Nat → Prop
  | 0, _, _, _, _ => False
  | d + 1, V, A, n, c => (V.es.length = n ∧ n ≤ c ∧ c ≤ maxLen) ∧ ∀ i e, V.es[i]? = some e → ∃ g o A' n' c', A = some ⟨g, o, none⟩ ∧ S g ∧ g < w.heap.size ∧ VlCells w g (o + i * 2) e A' n' c' ∧ VlRd S w d e A' n' c'

section
variable {S S' : Nat → Prop} {w w' : World}
theorem TyRd.keep (hs : w.heap.size ≤ w'.heap.size) (hb : ∀ b, S b → b < w.heap.size → w'.heap[b]? = w.heap[b]?) (hS : ∀ b, S b → S' b) : ∀ {d : Nat} {T : Ty} {A : Option Addr} {n c : Nat}, TyRd S w d T A n c → TyRd S' w' d T A n c
  | 0, _, _, _, _, h => h
  | d + 1, T, A, n, c, h => ⟨h.1, fun i e he => by
    obtain ⟨g, o, A', n', c', hA, hg, hl, hc, hr⟩ := h.2 i e he
    exact ⟨g, o, A', n', c', hA, hS g hg, Nat.lt_of_lt_of_le hl hs, hc.keep (hb g hg hl), TyRd.keep hs hb hS hr⟩⟩
theorem VlRd.keep (hs : w.heap.size ≤ w'.heap.size) (hb : ∀ b, S b → b < w.heap.size → w'.heap[b]? = w.heap[b]?) (hS : ∀ b, S b → S' b) : ∀ {d : Nat} {V : Vl} {A : Option Addr} {n c : Nat}, VlRd S w d V A n c → VlRd S' w' d V A n c
  | 0, _, _, _, _, h => h
  | d + 1, V, A, n, c, h => ⟨h.1, fun i e he => by
    obtain ⟨g, o, A', n', c', hA, hg, hl, hc, hr⟩ := h.2 i e he
    exact ⟨g, o, A', n', c', hA, hS g hg, Nat.lt_of_lt_of_le hl hs, hc.keep (hb g hg hl), VlRd.keep hs hb hS hr⟩⟩
theorem TyRd.below {d : Nat} {T : Ty} {A : Option Addr} {n c : Nat} (h : TyRd S w d T A n c) (hb : Below w.heap.size w w') : TyRd S w' d T A n c :=
  h.keep hb.size (fun b _ hl => hb.block b hl) fun _ h => h
theorem VlRd.below {d : Nat} {V : Vl} {A : Option Addr} {n c : Nat} (h : VlRd S w d V A n c) (hb : Below w.heap.size w w') : VlRd S w' d V A n c :=
  h.keep hb.size (fun b _ hl => hb.block b hl) fun _ h => h
theorem TyRd.in {d : Nat} {T : Ty} {A : Option Addr} {n c : Nat} (h : TyRd S w d T A n c) (hS : ∀ b, S b → S' b) : TyRd S' w d T A n c :=
  h.keep (Nat.le_refl _) (fun _ _ _ => rfl) hS
theorem VlRd.in {d : Nat} {V : Vl} {A : Option Addr} {n c : Nat} (h : VlRd S w d V A n c) (hS : ∀ b, S b → S' b) : VlRd S' w d V A n c :=
  h.keep (Nat.le_refl _) (fun _ _ _ => rfl) hS
theorem TyRd.up {d : Nat} {T : Ty} {A : Option Addr} {n c : Nat} (h : TyRd S w d T A n c) : TyRd S w (d + 1) T A n c := by
  induction d generalizing T A n c with
  | zero => exact h.elim
  | succ d ih =>
    refine ⟨h.1, fun i e he => ?_⟩
    obtain ⟨g, o, A', n', c', hA, hg, hl, hc, hr⟩ := h.2 i e he
    exact ⟨g, o, A', n', c', hA, hg, hl, hc, ih hr⟩
theorem VlRd.up {d : Nat} {V : Vl} {A : Option Addr} {n c : Nat} (h : VlRd S w d V A n c) : VlRd S w (d + 1) V A n c := by
  induction d generalizing V A n c with
  | zero => exact h.elim
  | succ d ih =>
    refine ⟨h.1, fun i e he => ?_⟩
    obtain ⟨g, o, A', n', c', hA, hg, hl, hc, hr⟩ := h.2 i e he
    exact ⟨g, o, A', n', c', hA, hg, hl, hc, ih hr⟩
theorem TyRd.le {d d' : Nat} {T : Ty} {A : Option Addr} {n c : Nat} (h : TyRd S w d T A n c) (hd : d ≤ d') : TyRd S w d' T A n c := by
  obtain ⟨k, rfl⟩ := Nat.exists_eq_add_of_le hd
  clear hd
  induction k with
  | zero => exact h
  | succ k ih => exact ih.up
theorem VlRd.le {d d' : Nat} {V : Vl} {A : Option Addr} {n c : Nat} (h : VlRd S w d V A n c) (hd : d ≤ d') : VlRd S w d' V A n c := by
  obtain ⟨k, rfl⟩ := Nat.exists_eq_add_of_le hd
  clear hd
  induction k with
  | zero => exact h
  | succ k ih => exact ih.up
theorem TyRd.nil (d : Nat) (T : Ty) (h : T.es = []) : TyRd S w (d + 1) T none 0 0 := ⟨⟨by rw [h]; rfl, Nat.le_refl _, Nat.zero_le _⟩, fun i e he => by rw [h] at he; simp at he⟩
theorem VlRd.nil (d : Nat) (V : Vl) (h : V.es = []) : VlRd S w (d + 1) V none 0 0 := ⟨⟨by rw [h]; rfl, Nat.le_refl _, Nat.zero_le _⟩, fun i e he => by rw [h] at he; simp at he⟩
theorem TyRd.len {d : Nat} {T : Ty} {A : Option Addr} {n c : Nat} (h : TyRd S w d T A n c) : T.es.length = n ∧ n ≤ c ∧ c ≤ maxLen := by
  cases d with
  | zero => exact h.elim
  | succ d => exact h.1
theorem VlRd.len {d : Nat} {V : Vl} {A : Option Addr} {n c : Nat} (h : VlRd S w d V A n c) : V.es.length = n ∧ n ≤ c ∧ c ≤ maxLen := by
  cases d with
  | zero => exact h.elim
  | succ d => exact h.1
end

/-- A tree with its slice. -/
structure TyAt where
  T : Ty
  A : Option Addr
  n : Nat
  c : Nat
structure VlAt where
  V : Vl
  A : Option Addr
  n : Nat
  c : Nat
def TyAt.cells (x : TyAt) : List Value := [.int .i64 x.T.k, .int .i64 x.T.lo, .int .i64 x.T.hi, .int .i64 x.T.mx, .slice x.A x.n x.c]
def VlAt.cells (x : VlAt) : List Value := [.int .i64 x.V.i, .slice x.A x.n x.c]
def tyRow (l : List TyAt) : List Value := (l.map TyAt.cells).flatten
def vlRow (l : List VlAt) : List Value := (l.map VlAt.cells).flatten
theorem flat_get {α β : Type} (f : α → List β) (k : Nat) (hf : ∀ x, (f x).length = k) : ∀ (l : List α) (i j : Nat) (x : α), l[i]? = some x → j < k → ((l.map f).flatten)[i * k + j]? = (f x)[j]?
  | [], i, j, x, h, _ => by simp at h
  | y :: l, 0, j, x, h, hj => by
    simp at h
    subst h
    rw [List.map_cons, List.flatten_cons, Nat.zero_mul, Nat.zero_add, List.getElem?_append_left (by rw [hf]; exact hj)]
  | y :: l, i + 1, j, x, h, hj => by
    rw [List.getElem?_cons_succ] at h
    rw [List.map_cons, List.flatten_cons, List.getElem?_append_right (by rw [hf, Nat.add_mul]; omega), hf]
    have e : (i + 1) * k + j - k = i * k + j := by rw [Nat.add_mul]; omega
    rw [e]
    exact flat_get f k hf l i j x h hj
theorem tyRow_length (l : List TyAt) : (tyRow l).length = l.length * 5 := by
  unfold tyRow
  induction l with
  | nil => rfl
  | cons x l ih => rw [List.map_cons, List.flatten_cons, List.length_append, ih, List.length_cons]; show 5 + _ = _; omega
theorem vlRow_length (l : List VlAt) : (vlRow l).length = l.length * 2 := by
  unfold vlRow
  induction l with
  | nil => rfl
  | cons x l ih => rw [List.map_cons, List.flatten_cons, List.length_append, ih, List.length_cons]; show 2 + _ = _; omega
theorem tyRow_snoc (l : List TyAt) (x : TyAt) : tyRow (l ++ [x]) = tyRow l ++ x.cells := by unfold tyRow; simp
theorem vlRow_snoc (l : List VlAt) (x : VlAt) : vlRow (l ++ [x]) = vlRow l ++ x.cells := by unfold vlRow; simp
theorem TyAt.oneCell (x : TyAt) : ∀ u ∈ x.cells, u.oneCell' = true := by
  intro u hu
  simp only [TyAt.cells, List.mem_cons, List.not_mem_nil, or_false] at hu
  rcases hu with rfl | rfl | rfl | rfl | rfl <;> rfl
theorem VlAt.oneCell (x : VlAt) : ∀ u ∈ x.cells, u.oneCell' = true := by
  intro u hu
  simp only [VlAt.cells, List.mem_cons, List.not_mem_nil, or_false] at hu
  rcases hu with rfl | rfl <;> rfl

section
variable {w w' : World} {base : Nat} {A : Option Addr} {n c : Nat}
/-- The row's block. -/
def offA (A : Option Addr) (b : Nat) : Prop := ∀ a, A = some a → a.block ≠ b
/-- The call's own row of types: each element's slice lies in blocks from base on, and not in the row's own. -/
structure TyOwn (w : World) (base d : Nat) (A : Option Addr) (n c : Nat) (l : List TyAt) : Prop where
  row : w.ownsRow base 24 5 (.slice A n c) n (tyRow l)
  els : ∀ x ∈ l, TyRd (fun b => base ≤ b ∧ offA A b) w d x.T x.A x.n x.c
structure VlOwn (w : World) (base d : Nat) (A : Option Addr) (n c : Nat) (l : List VlAt) : Prop where
  row : w.ownsRow base 27 2 (.slice A n c) n (vlRow l)
  els : ∀ x ∈ l, VlRd (fun b => base ≤ b ∧ offA A b) w d x.V x.A x.n x.c
theorem TyOwn.len {d : Nat} {l : List TyAt} (h : TyOwn w base d A n c l) : l.length = n := by
  have := h.row.1
  rw [tyRow_length] at this; omega
theorem VlOwn.len {d : Nat} {l : List VlAt} (h : VlOwn w base d A n c l) : l.length = n := by
  have := h.row.1
  rw [vlRow_length] at this; omega
theorem TyOwn.nil (w : World) (base d : Nat) : TyOwn w base d none 0 0 [] := ⟨World.ownsRow_nil w base _ _, fun x hx => by cases hx⟩
theorem VlOwn.nil (w : World) (base d : Nat) : VlOwn w base d none 0 0 [] := ⟨World.ownsRow_nil w base _ _, fun x hx => by cases hx⟩
theorem row_caps {t : TypeId} {sz : Nat} {xs : List Value} (h : w.ownsRow base t sz (.slice A n c) n xs) : n ≤ c ∧ c ≤ maxLen := by
  rcases h.2 with ⟨e, h0⟩ | ⟨g, cap, cur, e, _, _, h1, h2, _⟩
  · injection e with _ e1 e2; subst e1; subst e2; exact ⟨Nat.le_refl _, Nat.zero_le _⟩
  · injection e with _ _ e; subst e; exact ⟨h1, h2⟩
theorem row_form {t : TypeId} {sz : Nat} {xs : List Value} (h : w.ownsRow base t sz (.slice A n c) n xs) (hn : 0 < n) : ∃ g, A = some ⟨g, 0, none⟩ ∧ base ≤ g ∧ g < w.heap.size := by
  rcases h.2 with ⟨_, h0⟩ | ⟨g, cap, cur, e, hb, hg, _⟩
  · omega
  · injection e with e _ _
    exact ⟨g, e, hb, (Array.getElem?_eq_some_iff.1 hg).1⟩
theorem row_keep {t : TypeId} {sz : Nat} {xs : List Value} (h : w.ownsRow base t sz (.slice A n c) n xs) (hk : ∀ a, A = some a → w'.heap[a.block]? = w.heap[a.block]?) : w'.ownsRow base t sz (.slice A n c) n xs := by
  refine ⟨h.1, ?_⟩
  rcases h.2 with e | ⟨g, cap, cur, e, hb, hg, rest⟩
  · exact .inl e
  · refine .inr ⟨g, cap, cur, e, hb, ?_, rest⟩
    injection e with e _ _
    rw [hk _ e]; exact hg
theorem row_lt {t : TypeId} {sz : Nat} {xs : List Value} (h : w.ownsRow base t sz (.slice A n c) n xs) : ∀ a, A = some a → base ≤ a.block ∧ a.block < w.heap.size := by
  rintro a rfl
  exact h.lt a.block rfl
theorem TyOwn.below {d : Nat} {l : List TyAt} (h : TyOwn w base d A n c l) (hb : Below w.heap.size w w') : TyOwn w' base d A n c l :=
  ⟨row_keep h.row fun a ha => hb.block _ (row_lt h.row a ha).2, fun x hx => (h.els x hx).below hb⟩
theorem VlOwn.below {d : Nat} {l : List VlAt} (h : VlOwn w base d A n c l) (hb : Below w.heap.size w w') : VlOwn w' base d A n c l :=
  ⟨row_keep h.row fun a ha => hb.block _ (row_lt h.row a ha).2, fun x hx => (h.els x hx).below hb⟩
theorem TyOwn.rd {d : Nat} {l : List TyAt} (h : TyOwn w base d A n c l) (T : Ty) (hT : T.es = l.map TyAt.T) : TyRd (fun b => base ≤ b) w (d + 1) T A n c := by
  have hl := h.len
  refine ⟨⟨by rw [hT, List.length_map]; exact hl, row_caps h.row⟩, fun i e he => ?_⟩
  rw [hT, List.getElem?_map] at he
  cases hx : l[i]? with
  | none => rw [hx] at he; cases he
  | some x =>
    rw [hx] at he
    simp at he
    subst he
    have hi : i < l.length := by
      rcases Nat.lt_or_ge i l.length with h | h
      · exact h
      · rw [List.getElem?_eq_none h] at hx; cases hx
    obtain ⟨g, rfl, hg, hgl⟩ := row_form h.row (by omega)
    have key : ∀ j, j < 5 → w.cell? ⟨g, i * 5 + j, none⟩ = x.cells[j]? := fun j hj => by
      rw [h.row.cellAt _ (by omega)]
      exact flat_get TyAt.cells 5 (fun _ => rfl) l i j x hx hj
    refine ⟨g, 0, x.A, x.n, x.c, rfl, hg, hgl, ?_, (h.els x (List.mem_of_getElem? hx)).in fun _ hb => hb.1⟩
    rw [Nat.zero_add]
    exact ⟨key 0 (by decide), key 1 (by decide), key 2 (by decide), key 3 (by decide), key 4 (by decide)⟩
theorem VlOwn.rd {d : Nat} {l : List VlAt} (h : VlOwn w base d A n c l) (V : Vl) (hV : V.es = l.map VlAt.V) : VlRd (fun b => base ≤ b) w (d + 1) V A n c := by
  have hl := h.len
  refine ⟨⟨by rw [hV, List.length_map]; exact hl, row_caps h.row⟩, fun i e he => ?_⟩
  rw [hV, List.getElem?_map] at he
  cases hx : l[i]? with
  | none => rw [hx] at he; cases he
  | some x =>
    rw [hx] at he
    simp at he
    subst he
    have hi : i < l.length := by
      rcases Nat.lt_or_ge i l.length with h | h
      · exact h
      · rw [List.getElem?_eq_none h] at hx; cases hx
    obtain ⟨g, rfl, hg, hgl⟩ := row_form h.row (by omega)
    have key : ∀ j, j < 2 → w.cell? ⟨g, i * 2 + j, none⟩ = x.cells[j]? := fun j hj => by
      rw [h.row.cellAt _ (by omega)]
      exact flat_get VlAt.cells 2 (fun _ => rfl) l i j x hx hj
    refine ⟨g, 0, x.A, x.n, x.c, rfl, hg, hgl, ?_, (h.els x (List.mem_of_getElem? hx)).in fun _ hb => hb.1⟩
    rw [Nat.zero_add]
    exact ⟨key 0 (by decide), key 1 (by decide)⟩
/-- One more element, whose slice lies in blocks that were made behind the row's. -/
theorem TyOwn.snoc {d : Nat} {l : List TyAt} {x : TyAt} {v' : Value} (h : TyOwn w base d A n c l) (hx : TyRd (fun b => base ≤ b ∧ offA A b) w d x.T x.A x.n x.c) (hown : w'.ownsRow base 24 5 v' (n + 1) (tyRow l ++ x.cells)) (hgrow : w.grownBy w' (Value.ownBlock (.slice A n c))) (hnew : ∀ k, v'.ownBlock = some k → Value.ownBlock (.slice A n c) = some k ∨ w.heap.size ≤ k) :
    ∃ A' c', v' = .slice A' (n + 1) c' ∧ TyOwn w' base d A' (n + 1) c' (l ++ [x]) ∧ (∀ a, A' = some a → (∃ a0, A = some a0 ∧ a0.block = a.block) ∨ w.heap.size ≤ a.block) := by
  rcases hown.2 with ⟨_, h0⟩ | ⟨g, cap, cur, e, _⟩
  · omega
  · subst e
    have hA' : ∀ b, offA A b → b < w.heap.size → offA (some ⟨g, 0, none⟩) b := by
      intro b hb hlt a ha
      injection ha with ha
      subst ha
      rcases hnew g rfl with h1 | h1
      · cases A with
        | none => simp [Value.ownBlock] at h1
        | some a0 =>
          simp [Value.ownBlock] at h1
          have := hb a0 rfl
          simp; omega
      · simp; omega
    have hkeep : ∀ b, base ≤ b ∧ offA A b → b < w.heap.size → w'.heap[b]? = w.heap[b]? := by
      intro b hb hlt
      refine hgrow.block b hlt ?_
      cases A with
      | none => simp [Value.ownBlock]
      | some a0 =>
        have := hb.2 a0 rfl
        simp [Value.ownBlock]; omega
    have hels : ∀ {T : Ty} {B : Option Addr} {m q : Nat}, TyRd (fun b => base ≤ b ∧ offA A b) w d T B m q → TyRd (fun b => base ≤ b ∧ offA (some ⟨g, 0, none⟩) b) w' d T B m q := by
      intro T B m q hT
      have h1 : TyRd (fun b => (base ≤ b ∧ offA A b) ∧ b < w.heap.size) w d T B m q := by
        clear hown hgrow hnew hA' hkeep hx h
        induction d generalizing T B m q with
        | zero => exact hT
        | succ d ih =>
          refine ⟨hT.1, fun i e he => ?_⟩
          obtain ⟨g, o, A', n', c', hA, hg, hl, hc, hr⟩ := hT.2 i e he
          exact ⟨g, o, A', n', c', hA, ⟨hg, hl⟩, hl, hc, ih hr⟩
      exact h1.keep hgrow.size (fun b hb hlt => hkeep b hb.1 hlt) fun b hb => ⟨hb.1.1, hA' b hb.1.2 hb.2⟩
    refine ⟨some ⟨g, 0, none⟩, cap, rfl, ⟨by rw [tyRow_snoc]; exact hown, fun y hy => ?_⟩, ?_⟩
    · rcases List.mem_append.1 hy with hy | hy
      · exact hels (h.els y hy)
      · rw [List.mem_singleton.1 hy]; exact hels hx
    · intro a ha
      injection ha with ha
      subst ha
      rcases hnew g rfl with h1 | h1
      · cases A with
        | none => simp [Value.ownBlock] at h1
        | some a0 => exact .inl ⟨a0, rfl, by simpa [Value.ownBlock] using h1⟩
      · exact .inr h1
theorem VlOwn.snoc {d : Nat} {l : List VlAt} {x : VlAt} {v' : Value} (h : VlOwn w base d A n c l) (hx : VlRd (fun b => base ≤ b ∧ offA A b) w d x.V x.A x.n x.c) (hown : w'.ownsRow base 27 2 v' (n + 1) (vlRow l ++ x.cells)) (hgrow : w.grownBy w' (Value.ownBlock (.slice A n c))) (hnew : ∀ k, v'.ownBlock = some k → Value.ownBlock (.slice A n c) = some k ∨ w.heap.size ≤ k) :
    ∃ A' c', v' = .slice A' (n + 1) c' ∧ VlOwn w' base d A' (n + 1) c' (l ++ [x]) ∧ (∀ a, A' = some a → (∃ a0, A = some a0 ∧ a0.block = a.block) ∨ w.heap.size ≤ a.block) := by
  rcases hown.2 with ⟨_, h0⟩ | ⟨g, cap, cur, e, _⟩
  · omega
  · subst e
    have hA' : ∀ b, offA A b → b < w.heap.size → offA (some ⟨g, 0, none⟩) b := by
      intro b hb hlt a ha
      injection ha with ha
      subst ha
      rcases hnew g rfl with h1 | h1
      · cases A with
        | none => simp [Value.ownBlock] at h1
        | some a0 =>
          simp [Value.ownBlock] at h1
          have := hb a0 rfl
          simp; omega
      · simp; omega
    have hkeep : ∀ b, base ≤ b ∧ offA A b → b < w.heap.size → w'.heap[b]? = w.heap[b]? := by
      intro b hb hlt
      refine hgrow.block b hlt ?_
      cases A with
      | none => simp [Value.ownBlock]
      | some a0 =>
        have := hb.2 a0 rfl
        simp [Value.ownBlock]; omega
    have hels : ∀ {V : Vl} {B : Option Addr} {m q : Nat}, VlRd (fun b => base ≤ b ∧ offA A b) w d V B m q → VlRd (fun b => base ≤ b ∧ offA (some ⟨g, 0, none⟩) b) w' d V B m q := by
      intro V B m q hT
      have h1 : VlRd (fun b => (base ≤ b ∧ offA A b) ∧ b < w.heap.size) w d V B m q := by
        clear hown hgrow hnew hA' hkeep hx h
        induction d generalizing V B m q with
        | zero => exact hT
        | succ d ih =>
          refine ⟨hT.1, fun i e he => ?_⟩
          obtain ⟨g, o, A', n', c', hA, hg, hl, hc, hr⟩ := hT.2 i e he
          exact ⟨g, o, A', n', c', hA, ⟨hg, hl⟩, hl, hc, ih hr⟩
      exact h1.keep hgrow.size (fun b hb hlt => hkeep b hb.1 hlt) fun b hb => ⟨hb.1.1, hA' b hb.1.2 hb.2⟩
    refine ⟨some ⟨g, 0, none⟩, cap, rfl, ⟨by rw [vlRow_snoc]; exact hown, fun y hy => ?_⟩, ?_⟩
    · rcases List.mem_append.1 hy with hy | hy
      · exact hels (h.els y hy)
      · rw [List.mem_singleton.1 hy]; exact hels hx
    · intro a ha
      injection ha with ha
      subst ha
      rcases hnew g rfl with h1 | h1
      · cases A with
        | none => simp [Value.ownBlock] at h1
        | some a0 => exact .inl ⟨a0, rfl, by simpa [Value.ownBlock] using h1⟩
      · exact .inr h1
end
end Go.Proofs.YtklndjkblfncjaaGreatDoor
