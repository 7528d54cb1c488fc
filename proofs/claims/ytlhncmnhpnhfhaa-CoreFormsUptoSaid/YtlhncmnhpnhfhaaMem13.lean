/-
  Memory that a call makes: small facts; data as it lies in memory. No function of the program is named here.
-/
import Derived.Below
import Derived.Laws.OwnMore
import Derived.Deep.AppendLies
import Derived.Deep.Draws
import Derived.OwnWalk
import Derived.Lib.Hide
import Derived.Test.YtlhncmnhpnhfhaaProg
import Derived.WalkKit
import Derived.Handy
import Derived.Outline
import Derived.BigQuiet
import Derived.Deep.QuietTactic
import Derived.Laws.AppendOwnNone
import Derived.Deep.LoopGhost
import Derived.Deep.CutBlock
import Derived.Deep.DeepCutAuto
import Derived.Lib.Strings
import Derived.WalkMore
namespace Go.Proofs.Ytlhncmnhpnhfhaa
open Go Go.RowKit
set_option maxRecDepth 20000

theorem addr_block (p : Addr) (k : Nat) : (p.add k).block = p.block := by
  rw [Addr.add]; split
  · rfl
  · rfl
theorem add_plain (g i k : Nat) : (⟨g, i, none⟩ : Addr).add k = ⟨g, i + k, none⟩ := by
  rw [Addr.add]
  split
  · next h => rw [h, Nat.add_zero]
  · rfl
theorem drewN_below {B : Nat} {a w : World} (h : Below B a w) (n : Nat) : Below B a (w.drewN n) := ⟨h.os, h.tape, h.output, h.size, h.block⟩
theorem below_of_grown {w w' : World} (h : w.grownBy w' none) : Below w.heap.size w w' := (Below.refl _ _).grown h (Nat.le_refl _) (fun k hk => by cases hk)
theorem nextB {w w1 w2 : World} (h : Below w.heap.size w w1) (k : Below w1.heap.size w1 w2) : Below w.heap.size w w2 := h.trans (k.mono h.size)
theorem allocB (w : World) (o : Obj) : Below w.heap.size w (w.alloc o) := (Below.refl _ _).alloc (Nat.le_refl _) o
/-- The call returned true, and nothing old has turned. -/
def SaysTrue (w : World) (e : Ending) (w' : World) : Prop := e = .returned (.bool true) ∧ Below w.heap.size w w'
theorem ret_bool {a b : Bool} (h : a = b) : Ending.returned (.bool a) = .returned (.bool b) := by rw [h]
theorem ret_int {k : IntKind} {a b : Int} (h : a = b) : Ending.returned (.int k a) = .returned (.int k b) := by rw [h]

/-- Of the memory that was there, at most block g has changed. -/
structure But (g : Nat) (w w' : World) : Prop where
  os : w'.os = w.os
  tape : w'.tape = w.tape
  output : w'.output = w.output
  size : w.heap.size ≤ w'.heap.size
  block : ∀ k, k < w.heap.size → k ≠ g → w'.heap[k]? = w.heap[k]?
theorem But.refl (g : Nat) (w : World) : But g w w := ⟨rfl, rfl, rfl, Nat.le_refl _, fun _ _ _ => rfl⟩
theorem But.trans {g : Nat} {a b c : World} (h : But g a b) (k : But g b c) : But g a c :=
  ⟨k.os.trans h.os, k.tape.trans h.tape, k.output.trans h.output, Nat.le_trans h.size k.size, fun i hi hg => (k.block i (Nat.lt_of_lt_of_le hi h.size) hg).trans (h.block i hi hg)⟩
theorem But.of_below {g : Nat} {w w' : World} (h : Below w.heap.size w w') : But g w w' := ⟨h.os, h.tape, h.output, h.size, fun k hk _ => h.block k hk⟩
theorem But.below {g B : Nat} {w w' : World} (h : But g w w') (hg : B ≤ g) (hs : B ≤ w.heap.size) : Below B w w' := ⟨h.os, h.tape, h.output, h.size, fun k hk => h.block k (by omega) (by omega)⟩
theorem But.drewN {g : Nat} {w w' : World} (h : But g w w') (n : Nat) : But g w (w'.drewN n) := ⟨h.os, h.tape, h.output, h.size, h.block⟩
theorem But.set {g : Nat} {w w' : World} (h : But g w w') (i : Nat) (u : Value) : But g w (w'.setCell ⟨g, i, none⟩ u) :=
  ⟨h.os, h.tape, h.output, by have := h.size; simp [World.setCell]; exact this, fun k hk hg => (Below.heap_setCell w' ⟨g, i, none⟩ u k hg).trans (h.block k hk hg)⟩
theorem But.alloc {g : Nat} {w w' : World} (h : But g w w') (o : Obj) : But g w (w'.alloc o) :=
  h.trans (But.of_below ((Below.refl _ _).alloc (Nat.le_refl _) o))
theorem But.cell {g : Nat} {w w' : World} (h : But g w w') {p : Addr} (hp : p.block < w.heap.size) (hg : p.block ≠ g) : w'.cell? p = w.cell? p := World.cell?_of_block (h.block _ hp hg)

theorem cell_far (w : World) (p a : Addr) (v : Value) (h : p.block ≠ a.block) : (w.setCell p v).cell? a = w.cell? a :=
  World.cell?_setCell_other _ _ _ _ (fun e => h (by rw [e]))

/-! Data as it lies in memory: numbers, truth values, whatever, and slices of cells, every block of them in a set S; rows of the call's own. -/
namespace Fx
inductive D where
  | n (k : IntKind) (x : Int)
  | b (t : Bool)
  | u
  | l (sz : Nat) (cs : List D)

/-- The value holds the data, every block of it in S. -/
inductive Rd (S : Nat → Prop) (w : World) : D → Value → Prop
  | n (k : IntKind) (x : Int) : Rd S w (.n k x) (.int k x)
  | b (t : Bool) : Rd S w (.b t) (.bool t)
  | u (v : Value) : Rd S w .u v
  | nil (sz : Nat) {A : Option Addr} {c : Nat} : Rd S w (.l sz []) (.slice A 0 c)
  | l (sz : Nat) (cs : List D) (g o n c : Nat) (f : Nat → Value) (hl : cs.length = n * sz) (hn : n ≤ c) (hc : c ≤ maxLen) (hS : S g) (hg : g < w.heap.size)
      (hf : ∀ i, i < cs.length → w.cell? ⟨g, o + i, none⟩ = some (f i)) (hr : ∀ i d, cs[i]? = some d → Rd S w d (f i)) : Rd S w (.l sz cs) (.slice (some ⟨g, o, none⟩) n c)
theorem Rd.keep {S S' : Nat → Prop} {w w' : World} {d : D} {v : Value} (h : Rd S w d v) (hs : w.heap.size ≤ w'.heap.size) (hb : ∀ b, S b → b < w.heap.size → w'.heap[b]? = w.heap[b]?) (hS : ∀ b, S b → b < w.heap.size → S' b) : Rd S' w' d v := by
  induction h with
  | n k x => exact .n k x
  | b t => exact .b t
  | u v => exact .u v
  | nil sz => exact .nil sz
  | l sz cs g o n c f hl hn hc hg hlt hf hr ih =>
    exact .l sz cs g o n c f hl hn hc (hS g hg hlt) (Nat.lt_of_lt_of_le hlt hs) (fun i hi => (World.cell?_of_block (a := ⟨g, o + i, none⟩) (hb g hg hlt)).trans (hf i hi)) fun i d hd => ih i d hd
/-- Values hold data, one for one. -/
inductive Rds (S : Nat → Prop) (w : World) : List D → List Value → Prop
  | nil : Rds S w [] []
  | cons {d : D} {v : Value} {ds : List D} {vs : List Value} : Rd S w d v → Rds S w ds vs → Rds S w (d :: ds) (v :: vs)
section
variable {S S' : Nat → Prop} {w w' : World}
theorem Rds.keep {ds : List D} {vs : List Value} (h : Rds S w ds vs) (hs : w.heap.size ≤ w'.heap.size) (hb : ∀ b, S b → b < w.heap.size → w'.heap[b]? = w.heap[b]?) (hS : ∀ b, S b → b < w.heap.size → S' b) : Rds S' w' ds vs := by
  induction h with
  | nil => exact .nil
  | cons h _ ih => exact .cons (h.keep hs hb hS) ih
theorem Rds.app {a b : List D} {x y : List Value} (h : Rds S w a x) (k : Rds S w b y) : Rds S w (a ++ b) (x ++ y) := by
  induction h with
  | nil => exact k
  | cons h _ ih => exact .cons h ih
theorem Rds.len {a : List D} {x : List Value} (h : Rds S w a x) : a.length = x.length := by
  induction h with
  | nil => rfl
  | cons _ _ ih => simp [ih]
theorem Rds.at {a : List D} {x : List Value} (h : Rds S w a x) (i : Nat) (d : D) (hd : a[i]? = some d) : ∃ v, x[i]? = some v ∧ Rd S w d v := by
  induction h generalizing i with
  | nil => simp at hd
  | cons h _ ih =>
    cases i with
    | zero => simp at hd; subst hd; exact ⟨_, rfl, h⟩
    | succ i => simp at hd; simpa using ih i hd
theorem Rds.of {a : List D} {x : List Value} (hl : a.length = x.length) (h : ∀ (i : Nat) (d : D) (v : Value), a[i]? = some d → x[i]? = some v → Rd S w d v) : Rds S w a x := by
  induction a generalizing x with
  | nil => cases x with
    | nil => exact .nil
    | cons v x => simp at hl
  | cons d a ih => cases x with
    | nil => simp at hl
    | cons v x =>
      exact .cons (h 0 d v rfl rfl) (ih (by simpa using hl) fun i d' v' hd hv => h (i + 1) d' v' (by simpa using hd) (by simpa using hv))
theorem Rd.in {d : D} {v : Value} (h : Rd S w d v) (hS : ∀ b, S b → S' b) : Rd S' w d v := h.keep (Nat.le_refl _) (fun _ _ _ => rfl) fun b hb _ => hS b hb
theorem Rds.in {d : List D} {v : List Value} (h : Rds S w d v) (hS : ∀ b, S b → S' b) : Rds S' w d v := h.keep (Nat.le_refl _) (fun _ _ _ => rfl) fun b hb _ => hS b hb
/-- The data lies in memory that is not block g. -/
theorem Rd.but {d : D} {v : Value} {g : Nat} (h : Rd S w d v) (hb : But g w w') (hg : ¬ S g) : Rd S w' d v := h.keep hb.size (fun b hS hl => hb.block b hl fun e => hg (e ▸ hS)) fun _ h _ => h
theorem Rds.but {d : List D} {v : List Value} {g : Nat} (h : Rds S w d v) (hb : But g w w') (hg : ¬ S g) : Rds S w' d v := h.keep hb.size (fun b hS hl => hb.block b hl fun e => hg (e ▸ hS)) fun _ h _ => h
end
/-- Blocks from b on. -/
abbrev Fr (b : Nat) : Nat → Prop := fun k => b ≤ k
theorem Rd.lift {w w' : World} {b b' g : Nat} {d : D} {v : Value} (h : Rd (Fr b) w d v) (hb : But g w w') (hg : g < b) (hle : b' ≤ b) : Rd (Fr b') w' d v :=
  (h.but hb (by simp [Fr]; omega)).in fun _ hk => Nat.le_trans hle hk
theorem Rds.lift {w w' : World} {b b' g : Nat} {d : List D} {v : List Value} (h : Rds (Fr b) w d v) (hb : But g w w') (hg : g < b) (hle : b' ≤ b) : Rds (Fr b') w' d v :=
  (h.but hb (by simp [Fr]; omega)).in fun _ hk => Nat.le_trans hle hk

/-- The block of the address is another. -/
def offA (A : Option Addr) (b : Nat) : Prop := ∀ a, A = some a → a.block ≠ b
/-- A row of the call's own: its cells hold data that lies in blocks from base on, and not in the row's own. -/
def Own (w : World) (base : Nat) (t : TypeId) (sz : Nat) (A : Option Addr) (n c : Nat) (ds : List D) : Prop :=
  ∃ vs, w.ownsRow base t sz (.slice A n c) n vs ∧ Rds (fun b => base ≤ b ∧ offA A b) w ds vs
section
variable {w w' : World} {base sz n c : Nat} {t : TypeId} {A : Option Addr} {ds : List D}
theorem Own.nil (w : World) (base : Nat) (t : TypeId) (sz : Nat) : Own w base t sz none 0 0 [] := ⟨[], World.ownsRow_nil w base _ _, .nil⟩
theorem Own.len (h : Own w base t sz A n c ds) : ds.length = n * sz := by
  obtain ⟨vs, h, r⟩ := h
  rw [r.len]; exact h.1
theorem Own.caps (h : Own w base t sz A n c ds) : n ≤ c ∧ c ≤ maxLen := by
  obtain ⟨vs, h, _⟩ := h
  rcases h.2 with ⟨e, h0⟩ | ⟨g, cap, cur, e, _, _, h1, h2, _⟩
  · injection e with _ e1 e2; subst e1; subst e2; exact ⟨Nat.le_refl _, Nat.zero_le _⟩
  · injection e with _ _ e; subst e; exact ⟨h1, h2⟩
theorem Own.lt (h : Own w base t sz A n c ds) : ∀ a, A = some a → base ≤ a.block ∧ a.block < w.heap.size := by
  obtain ⟨vs, h, _⟩ := h
  rintro a rfl
  exact h.lt a.block rfl
theorem own_row {vs : List Value} (h : w.ownsRow base t sz (.slice A n c) n vs) (hk : ∀ a, A = some a → w'.heap[a.block]? = w.heap[a.block]?) : w'.ownsRow base t sz (.slice A n c) n vs := by
  refine ⟨h.1, ?_⟩
  rcases h.2 with e | ⟨g, cap, cur, e, hb, hg, rest⟩
  · exact .inl e
  · refine .inr ⟨g, cap, cur, e, hb, ?_, rest⟩
    injection e with e _ _
    rw [hk _ e]; exact hg
theorem Own.but {g : Nat} (h : Own w base t sz A n c ds) (hb : But g w w') (hg : g < base) : Own w' base t sz A n c ds := by
  have hlt := h.lt
  obtain ⟨vs, h, r⟩ := h
  exact ⟨vs, own_row h fun a ha => hb.block _ (hlt a ha).2 (by have := (hlt a ha).1; omega), r.but hb (by omega)⟩
theorem Own.rd (h : Own w base t sz A n c ds) : Rd (Fr base) w (.l sz ds) (.slice A n c) := by
  have hcap := h.caps
  have hlen := h.len
  obtain ⟨vs, h, r⟩ := h
  have r2 := r.in (S' := Fr base) fun _ hb => hb.1
  rcases h.2 with ⟨e, h0⟩ | ⟨g, cap, cur, e, hb, hg, h1, h2, h3, h4⟩
  · injection e with e0 e1 e2
    subst e0; subst e1; subst e2
    have : ds = [] := List.eq_nil_of_length_eq_zero (by rw [hlen, Nat.zero_mul])
    subst this; exact .nil sz
  · injection e with e0 e1 e2
    subst e0; subst e2
    have hgl : g < w.heap.size := (Array.getElem?_eq_some_iff.1 hg).1
    refine .l sz ds g 0 n c (fun i => vs[i]?.getD undef) hlen hcap.1 hcap.2 hb hgl (fun i hi => ?_) fun i d hd => ?_
    · rw [Nat.zero_add, h.cellAt _ (by omega)]
      have : i < vs.length := by rw [← r2.len]; exact hi
      simp [List.getElem?_eq_getElem this]
    · obtain ⟨v, hv, hr⟩ := r2.at i d hd
      simp only [hv, Option.getD_some]; exact hr
/-- More cells, whose data lies in blocks that are not the row's. -/
theorem Own.snoc {k : Nat} {v' : Value} {xs vs : List Value} {es : List D} (hr : w.ownsRow base t sz (.slice A n c) n vs) (h : Rds (fun b => base ≤ b ∧ offA A b) w ds vs) (hx : Rds (fun b => base ≤ b ∧ offA A b) w es xs) (hown : w'.ownsRow base t sz v' (n + k) (vs ++ xs)) (hk : 0 < k) (hgrow : w.grownBy w' (Value.ownBlock (.slice A n c))) (hnew : ∀ k, v'.ownBlock = some k → Value.ownBlock (.slice A n c) = some k ∨ w.heap.size ≤ k) :
    ∃ A' c', v' = .slice A' (n + k) c' ∧ Own w' base t sz A' (n + k) c' (ds ++ es) := by
  rcases hown.2 with ⟨_, h0⟩ | ⟨g, cap, cur, e, _⟩
  · omega
  · subst e
    have hA' : ∀ b, base ≤ b ∧ offA A b → b < w.heap.size → base ≤ b ∧ offA (some ⟨g, 0, none⟩) b := by
      intro b hb hlt
      refine ⟨hb.1, fun a ha => ?_⟩
      injection ha with ha
      subst ha
      rcases hnew g rfl with h1 | h1
      · cases A with
        | none => simp [Value.ownBlock] at h1
        | some a0 =>
          simp [Value.ownBlock] at h1
          have := hb.2 a0 rfl
          simp; omega
      · simp; omega
    have hkeep : ∀ b, base ≤ b ∧ offA A b → b < w.heap.size → w'.heap[b]? = w.heap[b]? := by
      intro b hb hlt
      refine hgrow.block b hlt ?_
      cases A with
      | none => simp [Value.ownBlock]
      | some a0 =>
        have := hb.2 a0 rfl
        simp [Value.ownBlock]; omega
    exact ⟨some ⟨g, 0, none⟩, cap, rfl, vs ++ xs, hown, (h.keep hgrow.size hkeep hA').app (hx.keep hgrow.size hkeep hA')⟩
/-- What a growing row leaves alone. -/
theorem grown_but {g : Nat} {vs : List Value} (hr : w.ownsRow base t sz (.slice A n c) n vs) (hgrow : w.grownBy w' (Value.ownBlock (.slice A n c))) {w0 : World} (hb : But g w0 w) (hs : w0.heap.size ≤ base) (hbs : base ≤ w.heap.size) : But g w0 w' := by
  have hbl : Below base w w' := (Below.refl base w).grown hgrow hbs fun k hk => (hr.lt k hk).1
  exact ⟨hbl.os.trans hb.os, hbl.tape.trans hb.tape, hbl.output.trans hb.output, Nat.le_trans hb.size hbl.size, fun k hk hg => (hbl.block k (by omega)).trans (hb.block k hk hg)⟩
end

/-- A slice of cells laid by the call itself. -/
theorem Rds.laid {w : World} {b : Nat} {ds : List D} {vs : List Value} {sz n : Nat} (t : TypeId) (h : Rds (Fr b) w ds vs) (hl : ds.length = n * sz) (hb : b ≤ w.heap.size) (hn : n ≤ maxLen) : Rd (Fr b) (w.alloc (.cells vs.toArray t)) (.l sz ds) (.slice (some ⟨w.heap.size, 0, none⟩) n n) := by
  have hk : Rds (Fr b) (w.alloc (.cells vs.toArray t)) ds vs := by
    refine h.keep (allocB w _).size (fun k _ hk => ?_) fun _ h _ => h
    exact (allocB w _).block k hk
  refine .l sz ds w.heap.size 0 n n (fun i => vs[i]?.getD undef) hl (Nat.le_refl _) hn hb (by simp) (fun i hi => ?_) fun i d hd => ?_
  · rw [World.cell?_alloc_new, Nat.zero_add, List.getElem?_toArray]
    have : i < vs.length := by rw [← h.len]; exact hi
    simp [List.getElem?_eq_getElem this]
  · obtain ⟨v, hv, hr⟩ := hk.at i d hd
    simp only [hv, Option.getD_some]; exact hr
end Fx
end Go.Proofs.Ytlhncmnhpnhfhaa
