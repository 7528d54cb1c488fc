/-
  What a call that adds to a row of ints leaves: all that was there but the row's own block.
-/
import Derived.Test.YtklndjkblfncjaaGreatDoorRefW7
import Derived.Test.YtklndjkblfncjaaGreatDoorSrc7
namespace Go.Proofs.YtklndjkblfncjaaGreatDoor
open Go Go.RowKit
set_option maxRecDepth 20000

/-- Of what was there, at most the block of Q has changed. -/
structure Kp (Q : Option Addr) (w w' : World) : Prop where
  os : w'.os = w.os
  tape : w'.tape = w.tape
  output : w'.output = w.output
  size : w.heap.size ≤ w'.heap.size
  block : ∀ k, k < w.heap.size → offA Q k → w'.heap[k]? = w.heap[k]?
/-- Q' lies in the block of Q, or in a block that is new since w. -/
def Since (w : World) (Q Q' : Option Addr) : Prop := ∀ a', Q' = some a' → (∃ a, Q = some a ∧ a.block = a'.block) ∨ w.heap.size ≤ a'.block
theorem Since.refl (w : World) (Q : Option Addr) : Since w Q Q := fun a' h => .inl ⟨a', h, rfl⟩
theorem Since.off {w : World} {Q Q' : Option Addr} (h : Since w Q Q') {b : Nat} (hb : offA Q b) (hl : b < w.heap.size) : offA Q' b := fun a' ha' => by
  rcases h a' ha' with ⟨a, ha, e⟩ | h1
  · rw [← e]; exact hb a ha
  · omega
theorem Since.trans {w w1 : World} {Q Q1 Q2 : Option Addr} (h : Since w Q Q1) (k : Since w1 Q1 Q2) (hs : w.heap.size ≤ w1.heap.size) : Since w Q Q2 := fun a2 h2 => by
  rcases k a2 h2 with ⟨a1, h1, e1⟩ | h1
  · rcases h a1 h1 with ⟨a0, h0, e0⟩ | h0
    · exact .inl ⟨a0, h0, e0.trans e1⟩
    · exact .inr (by omega)
  · exact .inr (by omega)
theorem Kp.refl (Q : Option Addr) (w : World) : Kp Q w w := ⟨rfl, rfl, rfl, Nat.le_refl _, fun _ _ _ => rfl⟩
theorem Kp.of_below {Q : Option Addr} {w w' : World} (h : Below w.heap.size w w') : Kp Q w w' := ⟨h.os, h.tape, h.output, h.size, fun k hk _ => h.block k hk⟩
theorem Kp.trans {Q Q1 : Option Addr} {a b c : World} (h : Kp Q a b) (k : Kp Q1 b c) (hs : Since a Q Q1) : Kp Q a c :=
  ⟨k.os.trans h.os, k.tape.trans h.tape, k.output.trans h.output, Nat.le_trans h.size k.size, fun i hi hq => (k.block i (Nat.lt_of_lt_of_le hi h.size) (hs.off hq hi)).trans (h.block i hi hq)⟩
theorem Kp.below {Q : Option Addr} {w w' : World} (h : Kp Q w w') (hq : Q = none) : Below w.heap.size w w' :=
  ⟨h.os, h.tape, h.output, h.size, fun k hk => h.block k hk fun a ha => by rw [hq] at ha; cases ha⟩
theorem Kp.of_grown {Q : Option Addr} {n c : Nat} {w w' : World} (h : w.grownBy w' (Value.ownBlock (.slice Q n c))) : Kp Q w w' :=
  ⟨h.os, h.tape, h.output, h.size, fun k hk hq => h.block k hk (by
    cases Q with
    | none => simp [Value.ownBlock]
    | some a =>
      have := hq a rfl
      simp [Value.ownBlock]; omega)⟩
theorem Kp.drew {Q : Option Addr} {w w' : World} (h : Kp Q w w') : Kp Q w w'.drew := ⟨h.os, h.tape, h.output, h.size, h.block⟩
theorem TyRd.kp {S : Nat → Prop} {Q : Option Addr} {w w' : World} {d n c : Nat} {T : Ty} {A : Option Addr} (h : TyRd S w d T A n c) (hb : Kp Q w w') (hS : ∀ b, S b → offA Q b) : TyRd S w' d T A n c :=
  h.keep hb.size (fun b hs hl => hb.block b hl (hS b hs)) fun _ h => h
theorem VlRd.kp {S : Nat → Prop} {Q : Option Addr} {w w' : World} {d n c : Nat} {V : Vl} {A : Option Addr} (h : VlRd S w d V A n c) (hb : Kp Q w w') (hS : ∀ b, S b → offA Q b) : VlRd S w' d V A n c :=
  h.keep hb.size (fun b hs hl => hb.block b hl (hS b hs)) fun _ h => h
theorem Box5.keep' {w W : World} {b : Nat} {x0 x1 x2 x3 x4 : Value} (h : Box5 w b x0 x1 x2 x3 x4) (hb : W.heap[b]? = w.heap[b]?) : Box5 W b x0 x1 x2 x3 x4 := by
  have hc : ∀ j, W.cell? ⟨b, j, none⟩ = w.cell? ⟨b, j, none⟩ := fun j => World.cell?_of_block (w := w) (a := ⟨b, j, none⟩) hb
  obtain ⟨h0, h1, h2, h3, h4⟩ := h
  exact ⟨(hc _).trans h0, (hc _).trans h1, (hc _).trans h2, (hc _).trans h3, (hc _).trans h4⟩

/-- Ints as cells; the call's own row of ints. -/
def intRow (l : List Int) : List Value := l.map (Value.int .i64)
theorem intRow_length (l : List Int) : (intRow l).length = l.length := List.length_map ..
theorem intRow_append (l m : List Int) : intRow (l ++ m) = intRow l ++ intRow m := by unfold intRow; simp
theorem int_oneCell (l : List Int) : ∀ u ∈ intRow l, u.oneCell' = true := by
  intro u hu
  obtain ⟨x, _, rfl⟩ := List.mem_map.1 hu
  rfl
theorem info_int : (Tryz.prog.info? 3).map (fun i => (i.zero, i.size, i.bytes)) = some (some (.int .i64 0), 1, 8) := by kernel_rfl
structure IntOwn (w : World) (Q : Option Addr) (n q : Nat) (l : List Int) : Prop where
  row : w.ownsRow 0 3 1 (.slice Q n q) n (intRow l)
theorem IntOwn.len {w : World} {Q : Option Addr} {n q : Nat} {l : List Int} (h : IntOwn w Q n q l) : l.length = n := by
  have := h.row.1
  rw [intRow_length] at this; omega
theorem IntOwn.below {w w' : World} {Q : Option Addr} {n q : Nat} {l : List Int} (h : IntOwn w Q n q l) (hb : Below w.heap.size w w') : IntOwn w' Q n q l :=
  ⟨row_keep h.row fun a ha => hb.block _ (row_lt h.row a ha).2⟩
theorem IntOwn.nil (w : World) : IntOwn w none 0 0 [] := ⟨World.ownsRow_nil _ _ _ _⟩
theorem IntOwn.drew {w : World} {Q : Option Addr} {n q : Nat} {l : List Int} (h : IntOwn w Q n q l) : IntOwn w.drew Q n q l := ⟨h.row⟩
/-- The row with more behind it comes back. -/
def GivesInts (l : List Int) (Q : Option Addr) (w : World) (e : Ending) (w' : World) : Prop := ∃ Q' n' q', e = .returned (.slice Q' n' q') ∧ IntOwn w' Q' n' q' l ∧ Since w Q Q' ∧ Kp Q w w'
theorem since_at {w : World} {Q : Option Addr} {n q g : Nat} (hat : Value.ownBlock (.slice Q n q) = some g ∨ g = w.heap.size) : Since w Q (some ⟨g, 0, none⟩) := fun a ha => by
  injection ha with ha
  subst ha
  rcases hat with h1 | h1
  · cases Q with
    | none => simp [Value.ownBlock] at h1
    | some a => exact .inl ⟨a, rfl, by simpa [Value.ownBlock] using h1⟩
  · exact .inr (by show w.heap.size ≤ g; omega)
end Go.Proofs.YtklndjkblfncjaaGreatDoor
