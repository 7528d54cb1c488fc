/-
  exactppllaw07.ValueOrder: the three values and their three boxes, in whatever order.
-/
import Derived.Test.YtklndjkblfncjaaDoorAwk7
import Derived.Test.YtklndjkblfncjaaDoorSome7
namespace Go.Proofs.YtklndjkblfncjaaDoor
open Go Go.RowKit
set_option maxRecDepth 20000

/-- What is there while three values and their boxes are made beside a source. -/
structure ST3 (g : Nat) (u w : World) (p q r : Option Nat) (vs : List VlAt) : Prop where
  src : Src w g
  but : But g u w
  vals : ∀ x ∈ vs, VlRd (fun b => u.heap.size ≤ b ∧ b < w.heap.size ∧ p ≠ some b ∧ q ≠ some b ∧ r ≠ some b) w 3 x.V x.A x.n x.c
  box : ∀ b, (p = some b ∨ q = some b ∨ r = some b) → u.heap.size ≤ b ∧ b < w.heap.size ∧ Box2 w b (.int .i64 0) (.slice none 0 0)
  pq : ∀ b, p = some b → q ≠ some b
  pr : ∀ b, p = some b → r ≠ some b
  qr : ∀ b, q = some b → r ≠ some b
abbrev zeroBox : Obj := .cells #[.int .i64 0, .slice none 0 0] 31
section
variable {g : Nat} {u w : World} {p q r : Option Nat} {vs : List VlAt}
theorem ST3.start (hs : Src w g) (hb : But g u w) : ST3 g u w none none none [] :=
  ⟨hs, hb, fun x hx => by simp at hx, fun b hb => by simp at hb, fun _ h => by simp at h, fun _ h => by simp at h, fun _ h => by simp at h⟩
theorem ST3.call (h : ST3 g u w p q r vs) (hg : g < u.heap.size) {w1 : World} {x : VlAt} (hx : VlRd (fun b => w.heap.size ≤ b) w1 3 x.V x.A x.n x.c) (hs : Src w1 g) (hb : But g w w1) : ST3 g u w1 p q r (vs ++ [x]) := by
  refine ⟨hs, h.but.trans hb, fun y hy => ?_, fun b hb' => ?_, h.pq, h.pr, h.qr⟩
  · have hz := h.but.size
    rcases List.mem_append.1 hy with hy | hy
    · exact (h.vals y hy).keep hb.size (fun b hS hl => hb.block b hl (by have := hS.1; omega)) fun b hS => ⟨hS.1, Nat.lt_of_lt_of_le hS.2.1 hb.size, hS.2.2⟩
    · rw [List.mem_singleton] at hy
      subst hy
      refine hx.bound.keep (Nat.le_refl _) (fun _ _ _ => rfl) fun b hS => ⟨by omega, hS.2, fun e => ?_, fun e => ?_, fun e => ?_⟩
      · have := (h.box b (.inl e)).2.1; omega
      · have := (h.box b (.inr (.inl e))).2.1; omega
      · have := (h.box b (.inr (.inr e))).2.1; omega
  · obtain ⟨h1, h2, h3⟩ := h.box b hb'
    exact ⟨h1, Nat.lt_of_lt_of_le h2 hb.size, h3.keep (hb.block b h2 (by omega))⟩
theorem ST3.vals_alloc (h : ST3 g u w p q r vs) (p' q' r' : Option Nat) (hp : ∀ b, b < w.heap.size → p ≠ some b → p' ≠ some b) (hq : ∀ b, b < w.heap.size → q ≠ some b → q' ≠ some b) (hr : ∀ b, b < w.heap.size → r ≠ some b → r' ≠ some b) :
    ∀ x ∈ vs, VlRd (fun b => u.heap.size ≤ b ∧ b < (w.alloc zeroBox).heap.size ∧ p' ≠ some b ∧ q' ≠ some b ∧ r' ≠ some b) (w.alloc zeroBox) 3 x.V x.A x.n x.c := fun x hx =>
  (h.vals x hx).keep (allocB w zeroBox).size (fun b _ hl => (allocB w zeroBox).block b hl) fun b hS => ⟨hS.1, Nat.lt_of_lt_of_le hS.2.1 (allocB w zeroBox).size, hp b hS.2.1 hS.2.2.1, hq b hS.2.1 hS.2.2.2.1, hr b hS.2.1 hS.2.2.2.2⟩
theorem some_ne_old {b c : Nat} {x : Option Nat} (hb : b < c) (_ : x ≠ some b) : (some c : Option Nat) ≠ some b := fun e => by injection e with e; omega
theorem ST3.box_alloc (h : ST3 g u w p q r vs) (b : Nat) (hb : b = w.heap.size ∨ (p = some b ∨ q = some b ∨ r = some b)) : u.heap.size ≤ b ∧ b < (w.alloc zeroBox).heap.size ∧ Box2 (w.alloc zeroBox) b (.int .i64 0) (.slice none 0 0) := by
  rcases hb with rfl | hb
  · exact ⟨h.but.size, by simp, box2_new _ _ _ _⟩
  · obtain ⟨h1, h2, h3⟩ := h.box b hb
    exact ⟨h1, Nat.lt_of_lt_of_le h2 (allocB w zeroBox).size, h3.below (allocB w zeroBox) h2⟩
theorem ST3.alloc5 (h : ST3 g u w none q r vs) : ST3 g u (w.alloc zeroBox) (some w.heap.size) q r vs := by
  refine ⟨h.src.below (allocB w _), h.but.alloc _, h.vals_alloc _ _ _ (fun b hb e => some_ne_old hb e) (fun _ _ e => e) (fun _ _ e => e), fun b hb => h.box_alloc b ?_, fun b e e' => ?_, fun b e e' => ?_, h.qr⟩
  · rcases hb with e | e | e
    · injection e with e; exact .inl e.symm
    · exact .inr (.inr (.inl e))
    · exact .inr (.inr (.inr e))
  · injection e with e; have := (h.box b (.inr (.inl e'))).2.1; omega
  · injection e with e; have := (h.box b (.inr (.inr e'))).2.1; omega
theorem ST3.alloc6 (h : ST3 g u w p none r vs) : ST3 g u (w.alloc zeroBox) p (some w.heap.size) r vs := by
  refine ⟨h.src.below (allocB w _), h.but.alloc _, h.vals_alloc _ _ _ (fun _ _ e => e) (fun b hb e => some_ne_old hb e) (fun _ _ e => e), fun b hb => h.box_alloc b ?_, fun b e e' => ?_, h.pr, fun b e e' => ?_⟩
  · rcases hb with e | e | e
    · exact .inr (.inl e)
    · injection e with e; exact .inl e.symm
    · exact .inr (.inr (.inr e))
  · injection e' with e'; have := (h.box b (.inl e)).2.1; omega
  · injection e with e; have := (h.box b (.inr (.inr e'))).2.1; omega
theorem ST3.alloc7 (h : ST3 g u w p q none vs) : ST3 g u (w.alloc zeroBox) p q (some w.heap.size) vs := by
  refine ⟨h.src.below (allocB w _), h.but.alloc _, h.vals_alloc _ _ _ (fun _ _ e => e) (fun _ _ e => e) (fun b hb e => some_ne_old hb e), fun b hb => h.box_alloc b ?_, h.pq, fun b e e' => ?_, fun b e e' => ?_⟩
  · rcases hb with e | e | e
    · exact .inr (.inl e)
    · exact .inr (.inr (.inl e))
    · injection e with e; exact .inl e.symm
  · injection e' with e'; have := (h.box b (.inl e)).2.1; omega
  · injection e' with e'; have := (h.box b (.inr (.inl e))).2.1; omega
end
/-- The three values lie in their boxes. -/
structure FIN3 (g : Nat) (u w : World) (p q r : Nat) (x y z : VlAt) : Prop where
  but : But g u w
  vx : VlRd (fun b => u.heap.size ≤ b) w 3 x.V x.A x.n x.c
  vy : VlRd (fun b => u.heap.size ≤ b) w 3 y.V y.A y.n y.c
  vz : VlRd (fun b => u.heap.size ≤ b) w 3 z.V z.A z.n z.c
  bx : Box2 w p (.int .i64 x.V.i) (.slice x.A x.n x.c)
  bY : Box2 w q (.int .i64 y.V.i) (.slice y.A y.n y.c)
  bz : Box2 w r (.int .i64 z.V.i) (.slice z.A z.n z.c)
  lt : p < w.heap.size ∧ q < w.heap.size ∧ r < w.heap.size
theorem ST3.fin {g p q r : Nat} {u w : World} {x y z : VlAt} (h : ST3 g u w (some p) (some q) (some r) [x, y, z]) (hg : g < u.heap.size) :
    FIN3 g u ((((((w.setCell ⟨p, 0, none⟩ (.int .i64 x.V.i)).setCell ⟨p, 1, none⟩ (.slice x.A x.n x.c)).setCell ⟨q, 0, none⟩ (.int .i64 y.V.i)).setCell ⟨q, 1, none⟩ (.slice y.A y.n y.c)).setCell ⟨r, 0, none⟩ (.int .i64 z.V.i)).setCell ⟨r, 1, none⟩ (.slice z.A z.n z.c)) p q r x y z := by
  obtain ⟨p1, p2, p3⟩ := h.box p (.inl rfl)
  obtain ⟨q1, q2, q3⟩ := h.box q (.inr (.inl rfl))
  obtain ⟨r1, r2, r3⟩ := h.box r (.inr (.inr rfl))
  have hpq : p ≠ q := fun e => h.pq p rfl (by rw [e])
  have hpr : p ≠ r := fun e => h.pr p rfl (by rw [e])
  have hqr : q ≠ r := fun e => h.qr q rfl (by rw [e])
  have hv : ∀ v ∈ [x, y, z], VlRd (fun b => u.heap.size ≤ b) ((((((w.setCell ⟨p, 0, none⟩ (.int .i64 x.V.i)).setCell ⟨p, 1, none⟩ (.slice x.A x.n x.c)).setCell ⟨q, 0, none⟩ (.int .i64 y.V.i)).setCell ⟨q, 1, none⟩ (.slice y.A y.n y.c)).setCell ⟨r, 0, none⟩ (.int .i64 z.V.i)).setCell ⟨r, 1, none⟩ (.slice z.A z.n z.c)) 3 v.V v.A v.n v.c := by
    intro v hv
    have hp : ∀ b, (u.heap.size ≤ b ∧ b < w.heap.size ∧ some p ≠ some b ∧ some q ≠ some b ∧ some r ≠ some b) → b ≠ p := fun b hS e => hS.2.2.1 (by rw [e])
    have hq : ∀ b, (u.heap.size ≤ b ∧ b < w.heap.size ∧ some p ≠ some b ∧ some q ≠ some b ∧ some r ≠ some b) → b ≠ q := fun b hS e => hS.2.2.2.1 (by rw [e])
    have hr : ∀ b, (u.heap.size ≤ b ∧ b < w.heap.size ∧ some p ≠ some b ∧ some q ≠ some b ∧ some r ≠ some b) → b ≠ r := fun b hS e => hS.2.2.2.2 (by rw [e])
    exact ((((((((h.vals v hv).set hp).set hp).set hq).set hq).set hr).set hr)).keep (Nat.le_refl _) (fun _ _ _ => rfl) fun b hS => hS.1
  refine ⟨?_, hv x (by simp), hv y (by simp), hv z (by simp), ?_, ?_, ?_, ?_⟩
  · exact (((((h.but.setB p1).setB p1).setB q1).setB q1).setB r1).setB r1
  · have h1 := (p3.set0 (.int .i64 x.V.i)).set1 (.slice x.A x.n x.c)
    exact (((h1.keep (Below.heap_setCell _ _ _ _ hpq)).keep (Below.heap_setCell _ _ _ _ hpq)).keep (Below.heap_setCell _ _ _ _ hpr)).keep (Below.heap_setCell _ _ _ _ hpr)
  · have h1 := (((q3.keep (Below.heap_setCell _ ⟨p, 0, none⟩ (.int .i64 x.V.i) _ (Ne.symm hpq))).keep (Below.heap_setCell _ ⟨p, 1, none⟩ (.slice x.A x.n x.c) _ (Ne.symm hpq))).set0 (.int .i64 y.V.i)).set1 (.slice y.A y.n y.c)
    exact (h1.keep (Below.heap_setCell _ _ _ _ hqr)).keep (Below.heap_setCell _ _ _ _ hqr)
  · exact (((((r3.keep (Below.heap_setCell _ ⟨p, 0, none⟩ (.int .i64 x.V.i) _ (Ne.symm hpr))).keep (Below.heap_setCell _ ⟨p, 1, none⟩ (.slice x.A x.n x.c) _ (Ne.symm hpr))).keep (Below.heap_setCell _ ⟨q, 0, none⟩ (.int .i64 y.V.i) _ (Ne.symm hqr))).keep (Below.heap_setCell _ ⟨q, 1, none⟩ (.slice y.A y.n y.c) _ (Ne.symm hqr))).set0 (.int .i64 z.V.i)).set1 (.slice z.A z.n z.c)
  · simp only [World.size_setCell]; exact ⟨p2, q2, r2⟩

def ops3 : Array Oper := #[{ dst := some 24, op := Op.move (Operand.tmp 3), type := 23, pos := "law.go:182", after := #[], guard := none }, { dst := some 25, op := Op.load 27 (Operand.tmp 4), type := 27, pos := "law.go:182", after := #[], guard := none }, { dst := some 26, op := Op.call { callee := Callee.value (Operand.func 6), args := #[Operand.tmp 24, Operand.tmp 25], argTypes := #[23, 27] }, type := 31, pos := "law.go:182", after := #[{ on := 0, ground := Ground.data }, { on := 1, ground := Ground.data }], guard := none }, { dst := some 27, op := Op.move (Operand.tmp 3), type := 23, pos := "law.go:182", after := #[], guard := none }, { dst := some 28, op := Op.load 27 (Operand.tmp 4), type := 27, pos := "law.go:182", after := #[], guard := none }, { dst := some 29, op := Op.call { callee := Callee.value (Operand.func 6), args := #[Operand.tmp 27, Operand.tmp 28], argTypes := #[23, 27] }, type := 31, pos := "law.go:182", after := #[{ on := 3, ground := Ground.data }, { on := 4, ground := Ground.data }, { on := 2, ground := Ground.chain }], guard := none }, { dst := some 30, op := Op.move (Operand.tmp 3), type := 23, pos := "law.go:182", after := #[], guard := none }, { dst := some 31, op := Op.load 27 (Operand.tmp 4), type := 27, pos := "law.go:182", after := #[], guard := none }, { dst := some 32, op := Op.call { callee := Callee.value (Operand.func 6), args := #[Operand.tmp 30, Operand.tmp 31], argTypes := #[23, 27] }, type := 31, pos := "law.go:182", after := #[{ on := 6, ground := Ground.data }, { on := 7, ground := Ground.data }, { on := 5, ground := Ground.chain }], guard := none }, { dst := some 5, op := Op.alloc 31, type := 0, pos := "law.go:182", after := #[], guard := none }, { dst := some 6, op := Op.alloc 31, type := 0, pos := "law.go:182", after := #[], guard := none }, { dst := some 7, op := Op.alloc 31, type := 0, pos := "law.go:182", after := #[], guard := none }, { dst := none, op := Op.store 31 (Operand.tmp 5) (Operand.tmp 26), type := 0, pos := "law.go:182", after := #[{ on := 9, ground := Ground.data }, { on := 2, ground := Ground.data }, { on := 8, ground := Ground.chain }, { on := 0, ground := Ground.phase }, { on := 1, ground := Ground.phase }, { on := 2, ground := Ground.phase }, { on := 3, ground := Ground.textOnly Departure.lateStores }, { on := 4, ground := Ground.textOnly Departure.lateStores }, { on := 5, ground := Ground.textOnly Departure.lateStoresUnsure }, { on := 6, ground := Ground.textOnly Departure.lateStores }, { on := 7, ground := Ground.textOnly Departure.lateStores }, { on := 8, ground := Ground.textOnly Departure.lateStoresUnsure }, { on := 9, ground := Ground.phase }, { on := 10, ground := Ground.phase }, { on := 11, ground := Ground.phase }], guard := none }, { dst := none, op := Op.store 31 (Operand.tmp 6) (Operand.tmp 29), type := 0, pos := "law.go:182", after := #[{ on := 10, ground := Ground.data }, { on := 5, ground := Ground.data }, { on := 12, ground := Ground.chain }, { on := 0, ground := Ground.phase }, { on := 1, ground := Ground.phase }, { on := 2, ground := Ground.phase }, { on := 3, ground := Ground.phase }, { on := 4, ground := Ground.phase }, { on := 5, ground := Ground.phase }, { on := 6, ground := Ground.textOnly Departure.lateStores }, { on := 7, ground := Ground.textOnly Departure.lateStores }, { on := 8, ground := Ground.textOnly Departure.lateStoresUnsure }, { on := 9, ground := Ground.phase }, { on := 10, ground := Ground.phase }, { on := 11, ground := Ground.phase }, { on := 12, ground := Ground.phase }], guard := none }, { dst := none, op := Op.store 31 (Operand.tmp 7) (Operand.tmp 32), type := 0, pos := "law.go:182", after := #[{ on := 11, ground := Ground.data }, { on := 8, ground := Ground.data }, { on := 13, ground := Ground.chain }, { on := 0, ground := Ground.phase }, { on := 1, ground := Ground.phase }, { on := 2, ground := Ground.phase }, { on := 3, ground := Ground.phase }, { on := 4, ground := Ground.phase }, { on := 5, ground := Ground.phase }, { on := 6, ground := Ground.phase }, { on := 7, ground := Ground.phase }, { on := 8, ground := Ground.phase }, { on := 9, ground := Ground.phase }, { on := 10, ground := Ground.phase }, { on := 11, ground := Ground.phase }, { on := 12, ground := Ground.phase }, { on := 13, ground := Ground.phase }], guard := none }]

set_option maxHeartbeats 4000000 in
theorem st3_567 {g bt n c n2 c2 : Nat} {A A2 : Option Addr} {T : Ty} {u : World} {Q : Exit → Act → World → Prop} {S : World → Prop} (hg : g < u.heap.size)
    (HS : Hid (∀ W, But g u W → S W)) (HC : Hid (∀ W, But g u W → Src W g → Calls Tryd.prog 6 #[.pointer (some ⟨g, 0, none⟩), .agg #[.int .i64 T.k, .int .i64 T.lo, .int .i64 T.hi, .int .i64 T.mx, .slice A2 n2 c2]] W (GivesSome 2 g W)))
    (HQ : Hid (∀ (W : World) (p q r : Nat) (x y z : VlAt), FIN3 g u W p q r x y z → Q .normal { tmps := #[.slice A n c, undef, .bool false, .pointer (some ⟨g, 0, none⟩), .pointer (some ⟨bt, 0, none⟩), .pointer (some ⟨p, 0, none⟩), .pointer (some ⟨q, 0, none⟩), .pointer (some ⟨r, 0, none⟩), undef, undef, undef, undef, undef, undef, undef, undef, undef, undef, undef, undef, .slice A n c, .pointer (some ⟨g, 0, none⟩), .pointer (some ⟨g, 0, none⟩), .agg #[.int .i64 T.k, .int .i64 T.lo, .int .i64 T.hi, .int .i64 T.mx, .slice A2 n2 c2], .pointer (some ⟨g, 0, none⟩), .agg #[.int .i64 T.k, .int .i64 T.lo, .int .i64 T.hi, .int .i64 T.mx, .slice A2 n2 c2], vlV x.V x.A x.n x.c, .pointer (some ⟨g, 0, none⟩), .agg #[.int .i64 T.k, .int .i64 T.lo, .int .i64 T.hi, .int .i64 T.mx, .slice A2 n2 c2], vlV y.V y.A y.n y.c, .pointer (some ⟨g, 0, none⟩), .agg #[.int .i64 T.k, .int .i64 T.lo, .int .i64 T.hi, .int .i64 T.mx, .slice A2 n2 c2], vlV z.V z.A z.n z.c, undef, undef, undef, undef, undef, undef, undef, undef, undef, undef, undef, undef, undef, undef, undef, undef, undef, undef, undef, undef, undef, undef, undef, undef, undef, undef, undef, undef, undef, undef, undef, undef, undef, undef, undef, undef, undef, undef, undef, undef, undef, undef, undef, undef, undef, undef, undef, undef, undef, undef, undef, undef, undef, undef, undef, undef, undef, undef, undef, undef, undef, undef, undef, undef, undef, undef, undef, undef, undef, undef, undef, undef, undef, undef, undef, undef, undef, undef, undef, undef, undef, undef, undef, undef, undef, undef, undef, undef, undef, undef, undef, undef, undef, undef, undef, undef, undef, undef, undef, undef, undef, undef, undef, undef, undef, undef, undef, undef, undef, undef, undef, undef, undef, undef, undef, undef], defers := [] } W)) {fuel : Nat} {listed : Array Bool} {a : Act} {w : World} {p q r : Nat} {x y z : VlAt} (I : ST3 g u w (some p) (some q) (some r) [x, y, z])
    (hf : fuel = 3) (hl : listed = #[true, true, true, true, true, true, true, true, true, true, true, true, false, false, false]) (ha : a = { tmps := #[.slice A n c, undef, .bool false, .pointer (some ⟨g, 0, none⟩), .pointer (some ⟨bt, 0, none⟩), .pointer (some ⟨p, 0, none⟩), .pointer (some ⟨q, 0, none⟩), .pointer (some ⟨r, 0, none⟩), undef, undef, undef, undef, undef, undef, undef, undef, undef, undef, undef, undef, .slice A n c, .pointer (some ⟨g, 0, none⟩), .pointer (some ⟨g, 0, none⟩), .agg #[.int .i64 T.k, .int .i64 T.lo, .int .i64 T.hi, .int .i64 T.mx, .slice A2 n2 c2], .pointer (some ⟨g, 0, none⟩), .agg #[.int .i64 T.k, .int .i64 T.lo, .int .i64 T.hi, .int .i64 T.mx, .slice A2 n2 c2], vlV x.V x.A x.n x.c, .pointer (some ⟨g, 0, none⟩), .agg #[.int .i64 T.k, .int .i64 T.lo, .int .i64 T.hi, .int .i64 T.mx, .slice A2 n2 c2], vlV y.V y.A y.n y.c, .pointer (some ⟨g, 0, none⟩), .agg #[.int .i64 T.k, .int .i64 T.lo, .int .i64 T.hi, .int .i64 T.mx, .slice A2 n2 c2], vlV z.V z.A z.n z.c, undef, undef, undef, undef, undef, undef, undef, undef, undef, undef, undef, undef, undef, undef, undef, undef, undef, undef, undef, undef, undef, undef, undef, undef, undef, undef, undef, undef, undef, undef, undef, undef, undef, undef, undef, undef, undef, undef, undef, undef, undef, undef, undef, undef, undef, undef, undef, undef, undef, undef, undef, undef, undef, undef, undef, undef, undef, undef, undef, undef, undef, undef, undef, undef, undef, undef, undef, undef, undef, undef, undef, undef, undef, undef, undef, undef, undef, undef, undef, undef, undef, undef, undef, undef, undef, undef, undef, undef, undef, undef, undef, undef, undef, undef, undef, undef, undef, undef, undef, undef, undef, undef, undef, undef, undef, undef, undef, undef, undef, undef, undef, undef, undef, undef, undef, undef], defers := [] }) : wpAnyH Tryd.prog .any ops3 Q S fuel listed a w := by
  subst hf hl ha
  have HFIN := Lib.hid (I.fin hg)
  obtain ⟨p1, p2, p3⟩ := I.box p (.inl rfl)
  obtain ⟨q1, q2, q3⟩ := I.box q (.inr (.inl rfl))
  obtain ⟨r1, r2, r3⟩ := I.box r (.inr (.inr rfl))
  have hpq : p ≠ q := fun e => I.pq p rfl (by rw [e])
  have hpr : p ≠ r := fun e => I.pr p rfl (by rw [e])
  have hqr : q ≠ r := fun e => I.qr q rfl (by rw [e])
  have hb := I.but
  have hb1 := (hb.setB (j := 0) (u := .int .i64 x.V.i) p1).setB (j := 1) (u := .slice x.A x.n x.c) p1
  have hb2 := (hb1.setB (j := 0) (u := .int .i64 y.V.i) q1).setB (j := 1) (u := .slice y.A y.n y.c) q1
  have hb3 := (hb2.setB (j := 0) (u := .int .i64 z.V.i) r1).setB (j := 1) (u := .slice z.A z.n z.c) r1
  have k1 := HS.out _ hb1
  have k2 := HS.out _ hb2
  have k3 := HS.out _ hb3
  obtain ⟨w1, hw1⟩ : ∃ w1, (w.setCell ⟨p, 0, none⟩ (.int .i64 x.V.i)).setCell ⟨p, 1, none⟩ (.slice x.A x.n x.c) = w1 := ⟨_, rfl⟩
  obtain ⟨w2, hw2⟩ : ∃ w2, (w1.setCell ⟨q, 0, none⟩ (.int .i64 y.V.i)).setCell ⟨q, 1, none⟩ (.slice y.A y.n y.c) = w2 := ⟨_, rfl⟩
  obtain ⟨w3, hw3⟩ : ∃ w3, (w2.setCell ⟨r, 0, none⟩ (.int .i64 z.V.i)).setCell ⟨r, 1, none⟩ (.slice z.A z.n z.c) = w3 := ⟨_, rfl⟩
  have hq1 : Box2 w1 q (.int .i64 0) (.slice none 0 0) := by rw [← hw1]; exact (q3.keep (Below.heap_setCell _ _ _ _ (Ne.symm hpq))).keep (Below.heap_setCell _ _ _ _ (Ne.symm hpq))
  have hr1 : Box2 w1 r (.int .i64 0) (.slice none 0 0) := by rw [← hw1]; exact (r3.keep (Below.heap_setCell _ _ _ _ (Ne.symm hpr))).keep (Below.heap_setCell _ _ _ _ (Ne.symm hpr))
  have hr2 : Box2 w2 r (.int .i64 0) (.slice none 0 0) := by rw [← hw2]; exact (hr1.keep (Below.heap_setCell _ _ _ _ (Ne.symm hqr))).keep (Below.heap_setCell _ _ _ _ (Ne.symm hqr))
  rw [hw1] at hb1 hb2 hb3 k1 k2 k3 HFIN
  rw [hw2] at hb2 hb3 k2 k3 HFIN
  rw [hw3] at hb3 k3 HFIN
  have W1 := Lib.hid hw1
  have W2 := Lib.hid hw2
  have W3 := Lib.hid hw3
  clear hw1 hw2 hw3 hb hb1 hb2 hb3 I hpq hpr hqr q3 r3 hr1
  obtain ⟨p30, p31, pf0, pf1⟩ := p3
  refine wpAnyH_ready (rs := [12]) (by kernel_rfl) (by simp) ?_
  refine AllReadyH.cons (o := ⟨none, _, _, _, _, _⟩) rfl (fun K hK => ?_) AllReadyH.nil
  go_simp
  rw [W1.out]
  clear p30 p31 pf0 pf1
  refine hK.out _ _ k1 (fun hHeld => ?_)
  clear hK K
  try simp only [Act.put, List.setIfInBounds_toArray, List.set_cons_zero, List.set_cons_succ]
  obtain ⟨q30, q31, qf0, qf1⟩ := hq1
  refine wpAnyH_ready (rs := [13]) (by kernel_rfl) (by simp) ?_
  refine AllReadyH.cons (o := ⟨none, _, _, _, _, _⟩) rfl (fun K hK => ?_) AllReadyH.nil
  go_simp
  rw [W2.out]
  clear q30 q31 qf0 qf1
  refine hK.out _ _ k2 (fun hHeld => ?_)
  clear hK K
  try simp only [Act.put, List.setIfInBounds_toArray, List.set_cons_zero, List.set_cons_succ]
  obtain ⟨r30, r31, rf0, rf1⟩ := hr2
  refine wpAnyH_ready (rs := [14]) (by kernel_rfl) (by simp) ?_
  refine AllReadyH.cons (o := ⟨none, _, _, _, _, _⟩) rfl (fun K hK => ?_) AllReadyH.nil
  go_simp
  rw [W3.out]
  clear r30 r31 rf0 rf1
  refine hK.out _ _ k3 (fun hHeld => ?_)
  clear hK K
  try simp only [Act.put, List.setIfInBounds_toArray, List.set_cons_zero, List.set_cons_succ]
  exact wpAnyH_done (by kernel_rfl) (HQ.out _ _ _ _ _ _ _ HFIN.out) _


set_option maxHeartbeats 4000000 in
theorem st3_56 {g bt n c n2 c2 : Nat} {A A2 : Option Addr} {T : Ty} {u : World} {Q : Exit → Act → World → Prop} {S : World → Prop} (hg : g < u.heap.size)
    (HS : Hid (∀ W, But g u W → S W)) (HC : Hid (∀ W, But g u W → Src W g → Calls Tryd.prog 6 #[.pointer (some ⟨g, 0, none⟩), .agg #[.int .i64 T.k, .int .i64 T.lo, .int .i64 T.hi, .int .i64 T.mx, .slice A2 n2 c2]] W (GivesSome 2 g W)))
    (HQ : Hid (∀ (W : World) (p q r : Nat) (x y z : VlAt), FIN3 g u W p q r x y z → Q .normal { tmps := #[.slice A n c, undef, .bool false, .pointer (some ⟨g, 0, none⟩), .pointer (some ⟨bt, 0, none⟩), .pointer (some ⟨p, 0, none⟩), .pointer (some ⟨q, 0, none⟩), .pointer (some ⟨r, 0, none⟩), undef, undef, undef, undef, undef, undef, undef, undef, undef, undef, undef, undef, .slice A n c, .pointer (some ⟨g, 0, none⟩), .pointer (some ⟨g, 0, none⟩), .agg #[.int .i64 T.k, .int .i64 T.lo, .int .i64 T.hi, .int .i64 T.mx, .slice A2 n2 c2], .pointer (some ⟨g, 0, none⟩), .agg #[.int .i64 T.k, .int .i64 T.lo, .int .i64 T.hi, .int .i64 T.mx, .slice A2 n2 c2], vlV x.V x.A x.n x.c, .pointer (some ⟨g, 0, none⟩), .agg #[.int .i64 T.k, .int .i64 T.lo, .int .i64 T.hi, .int .i64 T.mx, .slice A2 n2 c2], vlV y.V y.A y.n y.c, .pointer (some ⟨g, 0, none⟩), .agg #[.int .i64 T.k, .int .i64 T.lo, .int .i64 T.hi, .int .i64 T.mx, .slice A2 n2 c2], vlV z.V z.A z.n z.c, undef, undef, undef, undef, undef, undef, undef, undef, undef, undef, undef, undef, undef, undef, undef, undef, undef, undef, undef, undef, undef, undef, undef, undef, undef, undef, undef, undef, undef, undef, undef, undef, undef, undef, undef, undef, undef, undef, undef, undef, undef, undef, undef, undef, undef, undef, undef, undef, undef, undef, undef, undef, undef, undef, undef, undef, undef, undef, undef, undef, undef, undef, undef, undef, undef, undef, undef, undef, undef, undef, undef, undef, undef, undef, undef, undef, undef, undef, undef, undef, undef, undef, undef, undef, undef, undef, undef, undef, undef, undef, undef, undef, undef, undef, undef, undef, undef, undef, undef, undef, undef, undef, undef, undef, undef, undef, undef, undef, undef, undef, undef, undef, undef, undef, undef, undef], defers := [] } W)) {fuel : Nat} {listed : Array Bool} {a : Act} {w : World} {p q : Nat} {x y z : VlAt} (I : ST3 g u w (some p) (some q) none [x, y, z])
    (hf : fuel = 4) (hl : listed = #[true, true, true, true, true, true, true, true, true, true, true, false, false, false, false]) (ha : a = { tmps := #[.slice A n c, undef, .bool false, .pointer (some ⟨g, 0, none⟩), .pointer (some ⟨bt, 0, none⟩), .pointer (some ⟨p, 0, none⟩), .pointer (some ⟨q, 0, none⟩), undef, undef, undef, undef, undef, undef, undef, undef, undef, undef, undef, undef, undef, .slice A n c, .pointer (some ⟨g, 0, none⟩), .pointer (some ⟨g, 0, none⟩), .agg #[.int .i64 T.k, .int .i64 T.lo, .int .i64 T.hi, .int .i64 T.mx, .slice A2 n2 c2], .pointer (some ⟨g, 0, none⟩), .agg #[.int .i64 T.k, .int .i64 T.lo, .int .i64 T.hi, .int .i64 T.mx, .slice A2 n2 c2], vlV x.V x.A x.n x.c, .pointer (some ⟨g, 0, none⟩), .agg #[.int .i64 T.k, .int .i64 T.lo, .int .i64 T.hi, .int .i64 T.mx, .slice A2 n2 c2], vlV y.V y.A y.n y.c, .pointer (some ⟨g, 0, none⟩), .agg #[.int .i64 T.k, .int .i64 T.lo, .int .i64 T.hi, .int .i64 T.mx, .slice A2 n2 c2], vlV z.V z.A z.n z.c, undef, undef, undef, undef, undef, undef, undef, undef, undef, undef, undef, undef, undef, undef, undef, undef, undef, undef, undef, undef, undef, undef, undef, undef, undef, undef, undef, undef, undef, undef, undef, undef, undef, undef, undef, undef, undef, undef, undef, undef, undef, undef, undef, undef, undef, undef, undef, undef, undef, undef, undef, undef, undef, undef, undef, undef, undef, undef, undef, undef, undef, undef, undef, undef, undef, undef, undef, undef, undef, undef, undef, undef, undef, undef, undef, undef, undef, undef, undef, undef, undef, undef, undef, undef, undef, undef, undef, undef, undef, undef, undef, undef, undef, undef, undef, undef, undef, undef, undef, undef, undef, undef, undef, undef, undef, undef, undef, undef, undef, undef, undef, undef, undef, undef, undef, undef], defers := [] }) : wpAnyH Tryd.prog .any ops3 Q S fuel listed a w := by
  subst hf hl ha
  refine wpAnyH_ready (rs := [11]) (by kernel_rfl) (by simp) ?_
  refine AllReadyH.cons (o := ⟨some 7, _, _, _, _, _⟩) rfl (fun K hK => ?_) AllReadyH.nil
  · go_simp
    have I1 := I.alloc7
    refine hK.out _ _ (HS.out _ I1.but) (fun hHeld => ?_)
    clear hK K
    try simp only [Act.put, List.setIfInBounds_toArray, List.set_cons_zero, List.set_cons_succ]
    exact st3_567 hg HS HC HQ I1 (by kernel_rfl) (by kernel_rfl) rfl

set_option maxHeartbeats 4000000 in
theorem st3_57 {g bt n c n2 c2 : Nat} {A A2 : Option Addr} {T : Ty} {u : World} {Q : Exit → Act → World → Prop} {S : World → Prop} (hg : g < u.heap.size)
    (HS : Hid (∀ W, But g u W → S W)) (HC : Hid (∀ W, But g u W → Src W g → Calls Tryd.prog 6 #[.pointer (some ⟨g, 0, none⟩), .agg #[.int .i64 T.k, .int .i64 T.lo, .int .i64 T.hi, .int .i64 T.mx, .slice A2 n2 c2]] W (GivesSome 2 g W)))
    (HQ : Hid (∀ (W : World) (p q r : Nat) (x y z : VlAt), FIN3 g u W p q r x y z → Q .normal { tmps := #[.slice A n c, undef, .bool false, .pointer (some ⟨g, 0, none⟩), .pointer (some ⟨bt, 0, none⟩), .pointer (some ⟨p, 0, none⟩), .pointer (some ⟨q, 0, none⟩), .pointer (some ⟨r, 0, none⟩), undef, undef, undef, undef, undef, undef, undef, undef, undef, undef, undef, undef, .slice A n c, .pointer (some ⟨g, 0, none⟩), .pointer (some ⟨g, 0, none⟩), .agg #[.int .i64 T.k, .int .i64 T.lo, .int .i64 T.hi, .int .i64 T.mx, .slice A2 n2 c2], .pointer (some ⟨g, 0, none⟩), .agg #[.int .i64 T.k, .int .i64 T.lo, .int .i64 T.hi, .int .i64 T.mx, .slice A2 n2 c2], vlV x.V x.A x.n x.c, .pointer (some ⟨g, 0, none⟩), .agg #[.int .i64 T.k, .int .i64 T.lo, .int .i64 T.hi, .int .i64 T.mx, .slice A2 n2 c2], vlV y.V y.A y.n y.c, .pointer (some ⟨g, 0, none⟩), .agg #[.int .i64 T.k, .int .i64 T.lo, .int .i64 T.hi, .int .i64 T.mx, .slice A2 n2 c2], vlV z.V z.A z.n z.c, undef, undef, undef, undef, undef, undef, undef, undef, undef, undef, undef, undef, undef, undef, undef, undef, undef, undef, undef, undef, undef, undef, undef, undef, undef, undef, undef, undef, undef, undef, undef, undef, undef, undef, undef, undef, undef, undef, undef, undef, undef, undef, undef, undef, undef, undef, undef, undef, undef, undef, undef, undef, undef, undef, undef, undef, undef, undef, undef, undef, undef, undef, undef, undef, undef, undef, undef, undef, undef, undef, undef, undef, undef, undef, undef, undef, undef, undef, undef, undef, undef, undef, undef, undef, undef, undef, undef, undef, undef, undef, undef, undef, undef, undef, undef, undef, undef, undef, undef, undef, undef, undef, undef, undef, undef, undef, undef, undef, undef, undef, undef, undef, undef, undef, undef, undef], defers := [] } W)) {fuel : Nat} {listed : Array Bool} {a : Act} {w : World} {p r : Nat} {x y z : VlAt} (I : ST3 g u w (some p) none (some r) [x, y, z])
    (hf : fuel = 4) (hl : listed = #[true, true, true, true, true, true, true, true, true, true, false, true, false, false, false]) (ha : a = { tmps := #[.slice A n c, undef, .bool false, .pointer (some ⟨g, 0, none⟩), .pointer (some ⟨bt, 0, none⟩), .pointer (some ⟨p, 0, none⟩), undef, .pointer (some ⟨r, 0, none⟩), undef, undef, undef, undef, undef, undef, undef, undef, undef, undef, undef, undef, .slice A n c, .pointer (some ⟨g, 0, none⟩), .pointer (some ⟨g, 0, none⟩), .agg #[.int .i64 T.k, .int .i64 T.lo, .int .i64 T.hi, .int .i64 T.mx, .slice A2 n2 c2], .pointer (some ⟨g, 0, none⟩), .agg #[.int .i64 T.k, .int .i64 T.lo, .int .i64 T.hi, .int .i64 T.mx, .slice A2 n2 c2], vlV x.V x.A x.n x.c, .pointer (some ⟨g, 0, none⟩), .agg #[.int .i64 T.k, .int .i64 T.lo, .int .i64 T.hi, .int .i64 T.mx, .slice A2 n2 c2], vlV y.V y.A y.n y.c, .pointer (some ⟨g, 0, none⟩), .agg #[.int .i64 T.k, .int .i64 T.lo, .int .i64 T.hi, .int .i64 T.mx, .slice A2 n2 c2], vlV z.V z.A z.n z.c, undef, undef, undef, undef, undef, undef, undef, undef, undef, undef, undef, undef, undef, undef, undef, undef, undef, undef, undef, undef, undef, undef, undef, undef, undef, undef, undef, undef, undef, undef, undef, undef, undef, undef, undef, undef, undef, undef, undef, undef, undef, undef, undef, undef, undef, undef, undef, undef, undef, undef, undef, undef, undef, undef, undef, undef, undef, undef, undef, undef, undef, undef, undef, undef, undef, undef, undef, undef, undef, undef, undef, undef, undef, undef, undef, undef, undef, undef, undef, undef, undef, undef, undef, undef, undef, undef, undef, undef, undef, undef, undef, undef, undef, undef, undef, undef, undef, undef, undef, undef, undef, undef, undef, undef, undef, undef, undef, undef, undef, undef, undef, undef, undef, undef, undef, undef], defers := [] }) : wpAnyH Tryd.prog .any ops3 Q S fuel listed a w := by
  subst hf hl ha
  refine wpAnyH_ready (rs := [10]) (by kernel_rfl) (by simp) ?_
  refine AllReadyH.cons (o := ⟨some 6, _, _, _, _, _⟩) rfl (fun K hK => ?_) AllReadyH.nil
  · go_simp
    have I1 := I.alloc6
    refine hK.out _ _ (HS.out _ I1.but) (fun hHeld => ?_)
    clear hK K
    try simp only [Act.put, List.setIfInBounds_toArray, List.set_cons_zero, List.set_cons_succ]
    exact st3_567 hg HS HC HQ I1 (by kernel_rfl) (by kernel_rfl) rfl

set_option maxHeartbeats 4000000 in
theorem st3_67 {g bt n c n2 c2 : Nat} {A A2 : Option Addr} {T : Ty} {u : World} {Q : Exit → Act → World → Prop} {S : World → Prop} (hg : g < u.heap.size)
    (HS : Hid (∀ W, But g u W → S W)) (HC : Hid (∀ W, But g u W → Src W g → Calls Tryd.prog 6 #[.pointer (some ⟨g, 0, none⟩), .agg #[.int .i64 T.k, .int .i64 T.lo, .int .i64 T.hi, .int .i64 T.mx, .slice A2 n2 c2]] W (GivesSome 2 g W)))
    (HQ : Hid (∀ (W : World) (p q r : Nat) (x y z : VlAt), FIN3 g u W p q r x y z → Q .normal { tmps := #[.slice A n c, undef, .bool false, .pointer (some ⟨g, 0, none⟩), .pointer (some ⟨bt, 0, none⟩), .pointer (some ⟨p, 0, none⟩), .pointer (some ⟨q, 0, none⟩), .pointer (some ⟨r, 0, none⟩), undef, undef, undef, undef, undef, undef, undef, undef, undef, undef, undef, undef, .slice A n c, .pointer (some ⟨g, 0, none⟩), .pointer (some ⟨g, 0, none⟩), .agg #[.int .i64 T.k, .int .i64 T.lo, .int .i64 T.hi, .int .i64 T.mx, .slice A2 n2 c2], .pointer (some ⟨g, 0, none⟩), .agg #[.int .i64 T.k, .int .i64 T.lo, .int .i64 T.hi, .int .i64 T.mx, .slice A2 n2 c2], vlV x.V x.A x.n x.c, .pointer (some ⟨g, 0, none⟩), .agg #[.int .i64 T.k, .int .i64 T.lo, .int .i64 T.hi, .int .i64 T.mx, .slice A2 n2 c2], vlV y.V y.A y.n y.c, .pointer (some ⟨g, 0, none⟩), .agg #[.int .i64 T.k, .int .i64 T.lo, .int .i64 T.hi, .int .i64 T.mx, .slice A2 n2 c2], vlV z.V z.A z.n z.c, undef, undef, undef, undef, undef, undef, undef, undef, undef, undef, undef, undef, undef, undef, undef, undef, undef, undef, undef, undef, undef, undef, undef, undef, undef, undef, undef, undef, undef, undef, undef, undef, undef, undef, undef, undef, undef, undef, undef, undef, undef, undef, undef, undef, undef, undef, undef, undef, undef, undef, undef, undef, undef, undef, undef, undef, undef, undef, undef, undef, undef, undef, undef, undef, undef, undef, undef, undef, undef, undef, undef, undef, undef, undef, undef, undef, undef, undef, undef, undef, undef, undef, undef, undef, undef, undef, undef, undef, undef, undef, undef, undef, undef, undef, undef, undef, undef, undef, undef, undef, undef, undef, undef, undef, undef, undef, undef, undef, undef, undef, undef, undef, undef, undef, undef, undef], defers := [] } W)) {fuel : Nat} {listed : Array Bool} {a : Act} {w : World} {q r : Nat} {x y z : VlAt} (I : ST3 g u w none (some q) (some r) [x, y, z])
    (hf : fuel = 4) (hl : listed = #[true, true, true, true, true, true, true, true, true, false, true, true, false, false, false]) (ha : a = { tmps := #[.slice A n c, undef, .bool false, .pointer (some ⟨g, 0, none⟩), .pointer (some ⟨bt, 0, none⟩), undef, .pointer (some ⟨q, 0, none⟩), .pointer (some ⟨r, 0, none⟩), undef, undef, undef, undef, undef, undef, undef, undef, undef, undef, undef, undef, .slice A n c, .pointer (some ⟨g, 0, none⟩), .pointer (some ⟨g, 0, none⟩), .agg #[.int .i64 T.k, .int .i64 T.lo, .int .i64 T.hi, .int .i64 T.mx, .slice A2 n2 c2], .pointer (some ⟨g, 0, none⟩), .agg #[.int .i64 T.k, .int .i64 T.lo, .int .i64 T.hi, .int .i64 T.mx, .slice A2 n2 c2], vlV x.V x.A x.n x.c, .pointer (some ⟨g, 0, none⟩), .agg #[.int .i64 T.k, .int .i64 T.lo, .int .i64 T.hi, .int .i64 T.mx, .slice A2 n2 c2], vlV y.V y.A y.n y.c, .pointer (some ⟨g, 0, none⟩), .agg #[.int .i64 T.k, .int .i64 T.lo, .int .i64 T.hi, .int .i64 T.mx, .slice A2 n2 c2], vlV z.V z.A z.n z.c, undef, undef, undef, undef, undef, undef, undef, undef, undef, undef, undef, undef, undef, undef, undef, undef, undef, undef, undef, undef, undef, undef, undef, undef, undef, undef, undef, undef, undef, undef, undef, undef, undef, undef, undef, undef, undef, undef, undef, undef, undef, undef, undef, undef, undef, undef, undef, undef, undef, undef, undef, undef, undef, undef, undef, undef, undef, undef, undef, undef, undef, undef, undef, undef, undef, undef, undef, undef, undef, undef, undef, undef, undef, undef, undef, undef, undef, undef, undef, undef, undef, undef, undef, undef, undef, undef, undef, undef, undef, undef, undef, undef, undef, undef, undef, undef, undef, undef, undef, undef, undef, undef, undef, undef, undef, undef, undef, undef, undef, undef, undef, undef, undef, undef, undef, undef], defers := [] }) : wpAnyH Tryd.prog .any ops3 Q S fuel listed a w := by
  subst hf hl ha
  refine wpAnyH_ready (rs := [9]) (by kernel_rfl) (by simp) ?_
  refine AllReadyH.cons (o := ⟨some 5, _, _, _, _, _⟩) rfl (fun K hK => ?_) AllReadyH.nil
  · go_simp
    have I1 := I.alloc5
    refine hK.out _ _ (HS.out _ I1.but) (fun hHeld => ?_)
    clear hK K
    try simp only [Act.put, List.setIfInBounds_toArray, List.set_cons_zero, List.set_cons_succ]
    exact st3_567 hg HS HC HQ I1 (by kernel_rfl) (by kernel_rfl) rfl

set_option maxHeartbeats 4000000 in
theorem st2_567 {g bt n c n2 c2 : Nat} {A A2 : Option Addr} {T : Ty} {u : World} {Q : Exit → Act → World → Prop} {S : World → Prop} (hg : g < u.heap.size)
    (HS : Hid (∀ W, But g u W → S W)) (HC : Hid (∀ W, But g u W → Src W g → Calls Tryd.prog 6 #[.pointer (some ⟨g, 0, none⟩), .agg #[.int .i64 T.k, .int .i64 T.lo, .int .i64 T.hi, .int .i64 T.mx, .slice A2 n2 c2]] W (GivesSome 2 g W)))
    (HQ : Hid (∀ (W : World) (p q r : Nat) (x y z : VlAt), FIN3 g u W p q r x y z → Q .normal { tmps := #[.slice A n c, undef, .bool false, .pointer (some ⟨g, 0, none⟩), .pointer (some ⟨bt, 0, none⟩), .pointer (some ⟨p, 0, none⟩), .pointer (some ⟨q, 0, none⟩), .pointer (some ⟨r, 0, none⟩), undef, undef, undef, undef, undef, undef, undef, undef, undef, undef, undef, undef, .slice A n c, .pointer (some ⟨g, 0, none⟩), .pointer (some ⟨g, 0, none⟩), .agg #[.int .i64 T.k, .int .i64 T.lo, .int .i64 T.hi, .int .i64 T.mx, .slice A2 n2 c2], .pointer (some ⟨g, 0, none⟩), .agg #[.int .i64 T.k, .int .i64 T.lo, .int .i64 T.hi, .int .i64 T.mx, .slice A2 n2 c2], vlV x.V x.A x.n x.c, .pointer (some ⟨g, 0, none⟩), .agg #[.int .i64 T.k, .int .i64 T.lo, .int .i64 T.hi, .int .i64 T.mx, .slice A2 n2 c2], vlV y.V y.A y.n y.c, .pointer (some ⟨g, 0, none⟩), .agg #[.int .i64 T.k, .int .i64 T.lo, .int .i64 T.hi, .int .i64 T.mx, .slice A2 n2 c2], vlV z.V z.A z.n z.c, undef, undef, undef, undef, undef, undef, undef, undef, undef, undef, undef, undef, undef, undef, undef, undef, undef, undef, undef, undef, undef, undef, undef, undef, undef, undef, undef, undef, undef, undef, undef, undef, undef, undef, undef, undef, undef, undef, undef, undef, undef, undef, undef, undef, undef, undef, undef, undef, undef, undef, undef, undef, undef, undef, undef, undef, undef, undef, undef, undef, undef, undef, undef, undef, undef, undef, undef, undef, undef, undef, undef, undef, undef, undef, undef, undef, undef, undef, undef, undef, undef, undef, undef, undef, undef, undef, undef, undef, undef, undef, undef, undef, undef, undef, undef, undef, undef, undef, undef, undef, undef, undef, undef, undef, undef, undef, undef, undef, undef, undef, undef, undef, undef, undef, undef, undef], defers := [] } W)) {fuel : Nat} {listed : Array Bool} {a : Act} {w : World} {p q r : Nat} {x y : VlAt} (I : ST3 g u w (some p) (some q) (some r) [x, y])
    (hf : fuel = 4) (hl : listed = #[true, true, true, true, true, true, true, true, false, true, true, true, false, false, false]) (ha : a = { tmps := #[.slice A n c, undef, .bool false, .pointer (some ⟨g, 0, none⟩), .pointer (some ⟨bt, 0, none⟩), .pointer (some ⟨p, 0, none⟩), .pointer (some ⟨q, 0, none⟩), .pointer (some ⟨r, 0, none⟩), undef, undef, undef, undef, undef, undef, undef, undef, undef, undef, undef, undef, .slice A n c, .pointer (some ⟨g, 0, none⟩), .pointer (some ⟨g, 0, none⟩), .agg #[.int .i64 T.k, .int .i64 T.lo, .int .i64 T.hi, .int .i64 T.mx, .slice A2 n2 c2], .pointer (some ⟨g, 0, none⟩), .agg #[.int .i64 T.k, .int .i64 T.lo, .int .i64 T.hi, .int .i64 T.mx, .slice A2 n2 c2], vlV x.V x.A x.n x.c, .pointer (some ⟨g, 0, none⟩), .agg #[.int .i64 T.k, .int .i64 T.lo, .int .i64 T.hi, .int .i64 T.mx, .slice A2 n2 c2], vlV y.V y.A y.n y.c, .pointer (some ⟨g, 0, none⟩), .agg #[.int .i64 T.k, .int .i64 T.lo, .int .i64 T.hi, .int .i64 T.mx, .slice A2 n2 c2], undef, undef, undef, undef, undef, undef, undef, undef, undef, undef, undef, undef, undef, undef, undef, undef, undef, undef, undef, undef, undef, undef, undef, undef, undef, undef, undef, undef, undef, undef, undef, undef, undef, undef, undef, undef, undef, undef, undef, undef, undef, undef, undef, undef, undef, undef, undef, undef, undef, undef, undef, undef, undef, undef, undef, undef, undef, undef, undef, undef, undef, undef, undef, undef, undef, undef, undef, undef, undef, undef, undef, undef, undef, undef, undef, undef, undef, undef, undef, undef, undef, undef, undef, undef, undef, undef, undef, undef, undef, undef, undef, undef, undef, undef, undef, undef, undef, undef, undef, undef, undef, undef, undef, undef, undef, undef, undef, undef, undef, undef, undef, undef, undef, undef, undef, undef, undef], defers := [] }) : wpAnyH Tryd.prog .any ops3 Q S fuel listed a w := by
  subst hf hl ha
  refine wpAnyH_ready (rs := [8]) (by kernel_rfl) (by simp) ?_
  refine AllReadyH.cons (o := ⟨some 32, _, _, _, _, _⟩) rfl (fun K hK => ?_) AllReadyH.nil
  · go_simp
    go_at_call 6
    (with_reducible refine (HC.out w I.but I.src).mono ?_)
    rintro e1 w1 ⟨V1, A1, n1, c1, rfl, hrd1, _, hs1, hb1⟩
    have I1 := I.call hg (x := ⟨V1, A1, n1, c1⟩) hrd1 hs1 hb1
    go_wp2_with fail
    refine hK.out _ _ (HS.out _ I1.but) (fun hHeld => ?_)
    clear hK K
    try simp only [Act.put, List.setIfInBounds_toArray, List.set_cons_zero, List.set_cons_succ]
    exact st3_567 hg HS HC HQ I1 (by kernel_rfl) (by kernel_rfl) rfl

set_option maxHeartbeats 4000000 in
theorem st3_5 {g bt n c n2 c2 : Nat} {A A2 : Option Addr} {T : Ty} {u : World} {Q : Exit → Act → World → Prop} {S : World → Prop} (hg : g < u.heap.size)
    (HS : Hid (∀ W, But g u W → S W)) (HC : Hid (∀ W, But g u W → Src W g → Calls Tryd.prog 6 #[.pointer (some ⟨g, 0, none⟩), .agg #[.int .i64 T.k, .int .i64 T.lo, .int .i64 T.hi, .int .i64 T.mx, .slice A2 n2 c2]] W (GivesSome 2 g W)))
    (HQ : Hid (∀ (W : World) (p q r : Nat) (x y z : VlAt), FIN3 g u W p q r x y z → Q .normal { tmps := #[.slice A n c, undef, .bool false, .pointer (some ⟨g, 0, none⟩), .pointer (some ⟨bt, 0, none⟩), .pointer (some ⟨p, 0, none⟩), .pointer (some ⟨q, 0, none⟩), .pointer (some ⟨r, 0, none⟩), undef, undef, undef, undef, undef, undef, undef, undef, undef, undef, undef, undef, .slice A n c, .pointer (some ⟨g, 0, none⟩), .pointer (some ⟨g, 0, none⟩), .agg #[.int .i64 T.k, .int .i64 T.lo, .int .i64 T.hi, .int .i64 T.mx, .slice A2 n2 c2], .pointer (some ⟨g, 0, none⟩), .agg #[.int .i64 T.k, .int .i64 T.lo, .int .i64 T.hi, .int .i64 T.mx, .slice A2 n2 c2], vlV x.V x.A x.n x.c, .pointer (some ⟨g, 0, none⟩), .agg #[.int .i64 T.k, .int .i64 T.lo, .int .i64 T.hi, .int .i64 T.mx, .slice A2 n2 c2], vlV y.V y.A y.n y.c, .pointer (some ⟨g, 0, none⟩), .agg #[.int .i64 T.k, .int .i64 T.lo, .int .i64 T.hi, .int .i64 T.mx, .slice A2 n2 c2], vlV z.V z.A z.n z.c, undef, undef, undef, undef, undef, undef, undef, undef, undef, undef, undef, undef, undef, undef, undef, undef, undef, undef, undef, undef, undef, undef, undef, undef, undef, undef, undef, undef, undef, undef, undef, undef, undef, undef, undef, undef, undef, undef, undef, undef, undef, undef, undef, undef, undef, undef, undef, undef, undef, undef, undef, undef, undef, undef, undef, undef, undef, undef, undef, undef, undef, undef, undef, undef, undef, undef, undef, undef, undef, undef, undef, undef, undef, undef, undef, undef, undef, undef, undef, undef, undef, undef, undef, undef, undef, undef, undef, undef, undef, undef, undef, undef, undef, undef, undef, undef, undef, undef, undef, undef, undef, undef, undef, undef, undef, undef, undef, undef, undef, undef, undef, undef, undef, undef, undef, undef], defers := [] } W)) {fuel : Nat} {listed : Array Bool} {a : Act} {w : World} {p : Nat} {x y z : VlAt} (I : ST3 g u w (some p) none none [x, y, z])
    (hf : fuel = 5) (hl : listed = #[true, true, true, true, true, true, true, true, true, true, false, false, false, false, false]) (ha : a = { tmps := #[.slice A n c, undef, .bool false, .pointer (some ⟨g, 0, none⟩), .pointer (some ⟨bt, 0, none⟩), .pointer (some ⟨p, 0, none⟩), undef, undef, undef, undef, undef, undef, undef, undef, undef, undef, undef, undef, undef, undef, .slice A n c, .pointer (some ⟨g, 0, none⟩), .pointer (some ⟨g, 0, none⟩), .agg #[.int .i64 T.k, .int .i64 T.lo, .int .i64 T.hi, .int .i64 T.mx, .slice A2 n2 c2], .pointer (some ⟨g, 0, none⟩), .agg #[.int .i64 T.k, .int .i64 T.lo, .int .i64 T.hi, .int .i64 T.mx, .slice A2 n2 c2], vlV x.V x.A x.n x.c, .pointer (some ⟨g, 0, none⟩), .agg #[.int .i64 T.k, .int .i64 T.lo, .int .i64 T.hi, .int .i64 T.mx, .slice A2 n2 c2], vlV y.V y.A y.n y.c, .pointer (some ⟨g, 0, none⟩), .agg #[.int .i64 T.k, .int .i64 T.lo, .int .i64 T.hi, .int .i64 T.mx, .slice A2 n2 c2], vlV z.V z.A z.n z.c, undef, undef, undef, undef, undef, undef, undef, undef, undef, undef, undef, undef, undef, undef, undef, undef, undef, undef, undef, undef, undef, undef, undef, undef, undef, undef, undef, undef, undef, undef, undef, undef, undef, undef, undef, undef, undef, undef, undef, undef, undef, undef, undef, undef, undef, undef, undef, undef, undef, undef, undef, undef, undef, undef, undef, undef, undef, undef, undef, undef, undef, undef, undef, undef, undef, undef, undef, undef, undef, undef, undef, undef, undef, undef, undef, undef, undef, undef, undef, undef, undef, undef, undef, undef, undef, undef, undef, undef, undef, undef, undef, undef, undef, undef, undef, undef, undef, undef, undef, undef, undef, undef, undef, undef, undef, undef, undef, undef, undef, undef, undef, undef, undef, undef, undef, undef], defers := [] }) : wpAnyH Tryd.prog .any ops3 Q S fuel listed a w := by
  subst hf hl ha
  refine wpAnyH_ready (rs := [10, 11]) (by kernel_rfl) (by simp) ?_
  refine AllReadyH.cons (o := ⟨some 6, _, _, _, _, _⟩) rfl (fun K hK => ?_) (AllReadyH.cons (o := ⟨some 7, _, _, _, _, _⟩) rfl (fun K hK => ?_) AllReadyH.nil)
  · go_simp
    have I1 := I.alloc6
    refine hK.out _ _ (HS.out _ I1.but) (fun hHeld => ?_)
    clear hK K
    try simp only [Act.put, List.setIfInBounds_toArray, List.set_cons_zero, List.set_cons_succ]
    exact st3_56 hg HS HC HQ I1 (by kernel_rfl) (by kernel_rfl) rfl
  · go_simp
    have I1 := I.alloc7
    refine hK.out _ _ (HS.out _ I1.but) (fun hHeld => ?_)
    clear hK K
    try simp only [Act.put, List.setIfInBounds_toArray, List.set_cons_zero, List.set_cons_succ]
    exact st3_57 hg HS HC HQ I1 (by kernel_rfl) (by kernel_rfl) rfl

set_option maxHeartbeats 4000000 in
theorem st3_6 {g bt n c n2 c2 : Nat} {A A2 : Option Addr} {T : Ty} {u : World} {Q : Exit → Act → World → Prop} {S : World → Prop} (hg : g < u.heap.size)
    (HS : Hid (∀ W, But g u W → S W)) (HC : Hid (∀ W, But g u W → Src W g → Calls Tryd.prog 6 #[.pointer (some ⟨g, 0, none⟩), .agg #[.int .i64 T.k, .int .i64 T.lo, .int .i64 T.hi, .int .i64 T.mx, .slice A2 n2 c2]] W (GivesSome 2 g W)))
    (HQ : Hid (∀ (W : World) (p q r : Nat) (x y z : VlAt), FIN3 g u W p q r x y z → Q .normal { tmps := #[.slice A n c, undef, .bool false, .pointer (some ⟨g, 0, none⟩), .pointer (some ⟨bt, 0, none⟩), .pointer (some ⟨p, 0, none⟩), .pointer (some ⟨q, 0, none⟩), .pointer (some ⟨r, 0, none⟩), undef, undef, undef, undef, undef, undef, undef, undef, undef, undef, undef, undef, .slice A n c, .pointer (some ⟨g, 0, none⟩), .pointer (some ⟨g, 0, none⟩), .agg #[.int .i64 T.k, .int .i64 T.lo, .int .i64 T.hi, .int .i64 T.mx, .slice A2 n2 c2], .pointer (some ⟨g, 0, none⟩), .agg #[.int .i64 T.k, .int .i64 T.lo, .int .i64 T.hi, .int .i64 T.mx, .slice A2 n2 c2], vlV x.V x.A x.n x.c, .pointer (some ⟨g, 0, none⟩), .agg #[.int .i64 T.k, .int .i64 T.lo, .int .i64 T.hi, .int .i64 T.mx, .slice A2 n2 c2], vlV y.V y.A y.n y.c, .pointer (some ⟨g, 0, none⟩), .agg #[.int .i64 T.k, .int .i64 T.lo, .int .i64 T.hi, .int .i64 T.mx, .slice A2 n2 c2], vlV z.V z.A z.n z.c, undef, undef, undef, undef, undef, undef, undef, undef, undef, undef, undef, undef, undef, undef, undef, undef, undef, undef, undef, undef, undef, undef, undef, undef, undef, undef, undef, undef, undef, undef, undef, undef, undef, undef, undef, undef, undef, undef, undef, undef, undef, undef, undef, undef, undef, undef, undef, undef, undef, undef, undef, undef, undef, undef, undef, undef, undef, undef, undef, undef, undef, undef, undef, undef, undef, undef, undef, undef, undef, undef, undef, undef, undef, undef, undef, undef, undef, undef, undef, undef, undef, undef, undef, undef, undef, undef, undef, undef, undef, undef, undef, undef, undef, undef, undef, undef, undef, undef, undef, undef, undef, undef, undef, undef, undef, undef, undef, undef, undef, undef, undef, undef, undef, undef, undef, undef], defers := [] } W)) {fuel : Nat} {listed : Array Bool} {a : Act} {w : World} {q : Nat} {x y z : VlAt} (I : ST3 g u w none (some q) none [x, y, z])
    (hf : fuel = 5) (hl : listed = #[true, true, true, true, true, true, true, true, true, false, true, false, false, false, false]) (ha : a = { tmps := #[.slice A n c, undef, .bool false, .pointer (some ⟨g, 0, none⟩), .pointer (some ⟨bt, 0, none⟩), undef, .pointer (some ⟨q, 0, none⟩), undef, undef, undef, undef, undef, undef, undef, undef, undef, undef, undef, undef, undef, .slice A n c, .pointer (some ⟨g, 0, none⟩), .pointer (some ⟨g, 0, none⟩), .agg #[.int .i64 T.k, .int .i64 T.lo, .int .i64 T.hi, .int .i64 T.mx, .slice A2 n2 c2], .pointer (some ⟨g, 0, none⟩), .agg #[.int .i64 T.k, .int .i64 T.lo, .int .i64 T.hi, .int .i64 T.mx, .slice A2 n2 c2], vlV x.V x.A x.n x.c, .pointer (some ⟨g, 0, none⟩), .agg #[.int .i64 T.k, .int .i64 T.lo, .int .i64 T.hi, .int .i64 T.mx, .slice A2 n2 c2], vlV y.V y.A y.n y.c, .pointer (some ⟨g, 0, none⟩), .agg #[.int .i64 T.k, .int .i64 T.lo, .int .i64 T.hi, .int .i64 T.mx, .slice A2 n2 c2], vlV z.V z.A z.n z.c, undef, undef, undef, undef, undef, undef, undef, undef, undef, undef, undef, undef, undef, undef, undef, undef, undef, undef, undef, undef, undef, undef, undef, undef, undef, undef, undef, undef, undef, undef, undef, undef, undef, undef, undef, undef, undef, undef, undef, undef, undef, undef, undef, undef, undef, undef, undef, undef, undef, undef, undef, undef, undef, undef, undef, undef, undef, undef, undef, undef, undef, undef, undef, undef, undef, undef, undef, undef, undef, undef, undef, undef, undef, undef, undef, undef, undef, undef, undef, undef, undef, undef, undef, undef, undef, undef, undef, undef, undef, undef, undef, undef, undef, undef, undef, undef, undef, undef, undef, undef, undef, undef, undef, undef, undef, undef, undef, undef, undef, undef, undef, undef, undef, undef, undef, undef], defers := [] }) : wpAnyH Tryd.prog .any ops3 Q S fuel listed a w := by
  subst hf hl ha
  refine wpAnyH_ready (rs := [9, 11]) (by kernel_rfl) (by simp) ?_
  refine AllReadyH.cons (o := ⟨some 5, _, _, _, _, _⟩) rfl (fun K hK => ?_) (AllReadyH.cons (o := ⟨some 7, _, _, _, _, _⟩) rfl (fun K hK => ?_) AllReadyH.nil)
  · go_simp
    have I1 := I.alloc5
    refine hK.out _ _ (HS.out _ I1.but) (fun hHeld => ?_)
    clear hK K
    try simp only [Act.put, List.setIfInBounds_toArray, List.set_cons_zero, List.set_cons_succ]
    exact st3_56 hg HS HC HQ I1 (by kernel_rfl) (by kernel_rfl) rfl
  · go_simp
    have I1 := I.alloc7
    refine hK.out _ _ (HS.out _ I1.but) (fun hHeld => ?_)
    clear hK K
    try simp only [Act.put, List.setIfInBounds_toArray, List.set_cons_zero, List.set_cons_succ]
    exact st3_67 hg HS HC HQ I1 (by kernel_rfl) (by kernel_rfl) rfl

set_option maxHeartbeats 4000000 in
theorem st3_7 {g bt n c n2 c2 : Nat} {A A2 : Option Addr} {T : Ty} {u : World} {Q : Exit → Act → World → Prop} {S : World → Prop} (hg : g < u.heap.size)
    (HS : Hid (∀ W, But g u W → S W)) (HC : Hid (∀ W, But g u W → Src W g → Calls Tryd.prog 6 #[.pointer (some ⟨g, 0, none⟩), .agg #[.int .i64 T.k, .int .i64 T.lo, .int .i64 T.hi, .int .i64 T.mx, .slice A2 n2 c2]] W (GivesSome 2 g W)))
    (HQ : Hid (∀ (W : World) (p q r : Nat) (x y z : VlAt), FIN3 g u W p q r x y z → Q .normal { tmps := #[.slice A n c, undef, .bool false, .pointer (some ⟨g, 0, none⟩), .pointer (some ⟨bt, 0, none⟩), .pointer (some ⟨p, 0, none⟩), .pointer (some ⟨q, 0, none⟩), .pointer (some ⟨r, 0, none⟩), undef, undef, undef, undef, undef, undef, undef, undef, undef, undef, undef, undef, .slice A n c, .pointer (some ⟨g, 0, none⟩), .pointer (some ⟨g, 0, none⟩), .agg #[.int .i64 T.k, .int .i64 T.lo, .int .i64 T.hi, .int .i64 T.mx, .slice A2 n2 c2], .pointer (some ⟨g, 0, none⟩), .agg #[.int .i64 T.k, .int .i64 T.lo, .int .i64 T.hi, .int .i64 T.mx, .slice A2 n2 c2], vlV x.V x.A x.n x.c, .pointer (some ⟨g, 0, none⟩), .agg #[.int .i64 T.k, .int .i64 T.lo, .int .i64 T.hi, .int .i64 T.mx, .slice A2 n2 c2], vlV y.V y.A y.n y.c, .pointer (some ⟨g, 0, none⟩), .agg #[.int .i64 T.k, .int .i64 T.lo, .int .i64 T.hi, .int .i64 T.mx, .slice A2 n2 c2], vlV z.V z.A z.n z.c, undef, undef, undef, undef, undef, undef, undef, undef, undef, undef, undef, undef, undef, undef, undef, undef, undef, undef, undef, undef, undef, undef, undef, undef, undef, undef, undef, undef, undef, undef, undef, undef, undef, undef, undef, undef, undef, undef, undef, undef, undef, undef, undef, undef, undef, undef, undef, undef, undef, undef, undef, undef, undef, undef, undef, undef, undef, undef, undef, undef, undef, undef, undef, undef, undef, undef, undef, undef, undef, undef, undef, undef, undef, undef, undef, undef, undef, undef, undef, undef, undef, undef, undef, undef, undef, undef, undef, undef, undef, undef, undef, undef, undef, undef, undef, undef, undef, undef, undef, undef, undef, undef, undef, undef, undef, undef, undef, undef, undef, undef, undef, undef, undef, undef, undef, undef], defers := [] } W)) {fuel : Nat} {listed : Array Bool} {a : Act} {w : World} {r : Nat} {x y z : VlAt} (I : ST3 g u w none none (some r) [x, y, z])
    (hf : fuel = 5) (hl : listed = #[true, true, true, true, true, true, true, true, true, false, false, true, false, false, false]) (ha : a = { tmps := #[.slice A n c, undef, .bool false, .pointer (some ⟨g, 0, none⟩), .pointer (some ⟨bt, 0, none⟩), undef, undef, .pointer (some ⟨r, 0, none⟩), undef, undef, undef, undef, undef, undef, undef, undef, undef, undef, undef, undef, .slice A n c, .pointer (some ⟨g, 0, none⟩), .pointer (some ⟨g, 0, none⟩), .agg #[.int .i64 T.k, .int .i64 T.lo, .int .i64 T.hi, .int .i64 T.mx, .slice A2 n2 c2], .pointer (some ⟨g, 0, none⟩), .agg #[.int .i64 T.k, .int .i64 T.lo, .int .i64 T.hi, .int .i64 T.mx, .slice A2 n2 c2], vlV x.V x.A x.n x.c, .pointer (some ⟨g, 0, none⟩), .agg #[.int .i64 T.k, .int .i64 T.lo, .int .i64 T.hi, .int .i64 T.mx, .slice A2 n2 c2], vlV y.V y.A y.n y.c, .pointer (some ⟨g, 0, none⟩), .agg #[.int .i64 T.k, .int .i64 T.lo, .int .i64 T.hi, .int .i64 T.mx, .slice A2 n2 c2], vlV z.V z.A z.n z.c, undef, undef, undef, undef, undef, undef, undef, undef, undef, undef, undef, undef, undef, undef, undef, undef, undef, undef, undef, undef, undef, undef, undef, undef, undef, undef, undef, undef, undef, undef, undef, undef, undef, undef, undef, undef, undef, undef, undef, undef, undef, undef, undef, undef, undef, undef, undef, undef, undef, undef, undef, undef, undef, undef, undef, undef, undef, undef, undef, undef, undef, undef, undef, undef, undef, undef, undef, undef, undef, undef, undef, undef, undef, undef, undef, undef, undef, undef, undef, undef, undef, undef, undef, undef, undef, undef, undef, undef, undef, undef, undef, undef, undef, undef, undef, undef, undef, undef, undef, undef, undef, undef, undef, undef, undef, undef, undef, undef, undef, undef, undef, undef, undef, undef, undef, undef], defers := [] }) : wpAnyH Tryd.prog .any ops3 Q S fuel listed a w := by
  subst hf hl ha
  refine wpAnyH_ready (rs := [9, 10]) (by kernel_rfl) (by simp) ?_
  refine AllReadyH.cons (o := ⟨some 5, _, _, _, _, _⟩) rfl (fun K hK => ?_) (AllReadyH.cons (o := ⟨some 6, _, _, _, _, _⟩) rfl (fun K hK => ?_) AllReadyH.nil)
  · go_simp
    have I1 := I.alloc5
    refine hK.out _ _ (HS.out _ I1.but) (fun hHeld => ?_)
    clear hK K
    try simp only [Act.put, List.setIfInBounds_toArray, List.set_cons_zero, List.set_cons_succ]
    exact st3_57 hg HS HC HQ I1 (by kernel_rfl) (by kernel_rfl) rfl
  · go_simp
    have I1 := I.alloc6
    refine hK.out _ _ (HS.out _ I1.but) (fun hHeld => ?_)
    clear hK K
    try simp only [Act.put, List.setIfInBounds_toArray, List.set_cons_zero, List.set_cons_succ]
    exact st3_67 hg HS HC HQ I1 (by kernel_rfl) (by kernel_rfl) rfl

set_option maxHeartbeats 4000000 in
theorem st2_56 {g bt n c n2 c2 : Nat} {A A2 : Option Addr} {T : Ty} {u : World} {Q : Exit → Act → World → Prop} {S : World → Prop} (hg : g < u.heap.size)
    (HS : Hid (∀ W, But g u W → S W)) (HC : Hid (∀ W, But g u W → Src W g → Calls Tryd.prog 6 #[.pointer (some ⟨g, 0, none⟩), .agg #[.int .i64 T.k, .int .i64 T.lo, .int .i64 T.hi, .int .i64 T.mx, .slice A2 n2 c2]] W (GivesSome 2 g W)))
    (HQ : Hid (∀ (W : World) (p q r : Nat) (x y z : VlAt), FIN3 g u W p q r x y z → Q .normal { tmps := #[.slice A n c, undef, .bool false, .pointer (some ⟨g, 0, none⟩), .pointer (some ⟨bt, 0, none⟩), .pointer (some ⟨p, 0, none⟩), .pointer (some ⟨q, 0, none⟩), .pointer (some ⟨r, 0, none⟩), undef, undef, undef, undef, undef, undef, undef, undef, undef, undef, undef, undef, .slice A n c, .pointer (some ⟨g, 0, none⟩), .pointer (some ⟨g, 0, none⟩), .agg #[.int .i64 T.k, .int .i64 T.lo, .int .i64 T.hi, .int .i64 T.mx, .slice A2 n2 c2], .pointer (some ⟨g, 0, none⟩), .agg #[.int .i64 T.k, .int .i64 T.lo, .int .i64 T.hi, .int .i64 T.mx, .slice A2 n2 c2], vlV x.V x.A x.n x.c, .pointer (some ⟨g, 0, none⟩), .agg #[.int .i64 T.k, .int .i64 T.lo, .int .i64 T.hi, .int .i64 T.mx, .slice A2 n2 c2], vlV y.V y.A y.n y.c, .pointer (some ⟨g, 0, none⟩), .agg #[.int .i64 T.k, .int .i64 T.lo, .int .i64 T.hi, .int .i64 T.mx, .slice A2 n2 c2], vlV z.V z.A z.n z.c, undef, undef, undef, undef, undef, undef, undef, undef, undef, undef, undef, undef, undef, undef, undef, undef, undef, undef, undef, undef, undef, undef, undef, undef, undef, undef, undef, undef, undef, undef, undef, undef, undef, undef, undef, undef, undef, undef, undef, undef, undef, undef, undef, undef, undef, undef, undef, undef, undef, undef, undef, undef, undef, undef, undef, undef, undef, undef, undef, undef, undef, undef, undef, undef, undef, undef, undef, undef, undef, undef, undef, undef, undef, undef, undef, undef, undef, undef, undef, undef, undef, undef, undef, undef, undef, undef, undef, undef, undef, undef, undef, undef, undef, undef, undef, undef, undef, undef, undef, undef, undef, undef, undef, undef, undef, undef, undef, undef, undef, undef, undef, undef, undef, undef, undef, undef], defers := [] } W)) {fuel : Nat} {listed : Array Bool} {a : Act} {w : World} {p q : Nat} {x y : VlAt} (I : ST3 g u w (some p) (some q) none [x, y])
    (hf : fuel = 5) (hl : listed = #[true, true, true, true, true, true, true, true, false, true, true, false, false, false, false]) (ha : a = { tmps := #[.slice A n c, undef, .bool false, .pointer (some ⟨g, 0, none⟩), .pointer (some ⟨bt, 0, none⟩), .pointer (some ⟨p, 0, none⟩), .pointer (some ⟨q, 0, none⟩), undef, undef, undef, undef, undef, undef, undef, undef, undef, undef, undef, undef, undef, .slice A n c, .pointer (some ⟨g, 0, none⟩), .pointer (some ⟨g, 0, none⟩), .agg #[.int .i64 T.k, .int .i64 T.lo, .int .i64 T.hi, .int .i64 T.mx, .slice A2 n2 c2], .pointer (some ⟨g, 0, none⟩), .agg #[.int .i64 T.k, .int .i64 T.lo, .int .i64 T.hi, .int .i64 T.mx, .slice A2 n2 c2], vlV x.V x.A x.n x.c, .pointer (some ⟨g, 0, none⟩), .agg #[.int .i64 T.k, .int .i64 T.lo, .int .i64 T.hi, .int .i64 T.mx, .slice A2 n2 c2], vlV y.V y.A y.n y.c, .pointer (some ⟨g, 0, none⟩), .agg #[.int .i64 T.k, .int .i64 T.lo, .int .i64 T.hi, .int .i64 T.mx, .slice A2 n2 c2], undef, undef, undef, undef, undef, undef, undef, undef, undef, undef, undef, undef, undef, undef, undef, undef, undef, undef, undef, undef, undef, undef, undef, undef, undef, undef, undef, undef, undef, undef, undef, undef, undef, undef, undef, undef, undef, undef, undef, undef, undef, undef, undef, undef, undef, undef, undef, undef, undef, undef, undef, undef, undef, undef, undef, undef, undef, undef, undef, undef, undef, undef, undef, undef, undef, undef, undef, undef, undef, undef, undef, undef, undef, undef, undef, undef, undef, undef, undef, undef, undef, undef, undef, undef, undef, undef, undef, undef, undef, undef, undef, undef, undef, undef, undef, undef, undef, undef, undef, undef, undef, undef, undef, undef, undef, undef, undef, undef, undef, undef, undef, undef, undef, undef, undef, undef, undef], defers := [] }) : wpAnyH Tryd.prog .any ops3 Q S fuel listed a w := by
  subst hf hl ha
  refine wpAnyH_ready (rs := [8, 11]) (by kernel_rfl) (by simp) ?_
  refine AllReadyH.cons (o := ⟨some 32, _, _, _, _, _⟩) rfl (fun K hK => ?_) (AllReadyH.cons (o := ⟨some 7, _, _, _, _, _⟩) rfl (fun K hK => ?_) AllReadyH.nil)
  · go_simp
    go_at_call 6
    (with_reducible refine (HC.out w I.but I.src).mono ?_)
    rintro e1 w1 ⟨V1, A1, n1, c1, rfl, hrd1, _, hs1, hb1⟩
    have I1 := I.call hg (x := ⟨V1, A1, n1, c1⟩) hrd1 hs1 hb1
    go_wp2_with fail
    refine hK.out _ _ (HS.out _ I1.but) (fun hHeld => ?_)
    clear hK K
    try simp only [Act.put, List.setIfInBounds_toArray, List.set_cons_zero, List.set_cons_succ]
    exact st3_56 hg HS HC HQ I1 (by kernel_rfl) (by kernel_rfl) rfl
  · go_simp
    have I1 := I.alloc7
    refine hK.out _ _ (HS.out _ I1.but) (fun hHeld => ?_)
    clear hK K
    try simp only [Act.put, List.setIfInBounds_toArray, List.set_cons_zero, List.set_cons_succ]
    exact st2_567 hg HS HC HQ I1 (by kernel_rfl) (by kernel_rfl) rfl

set_option maxHeartbeats 4000000 in
theorem st2_57 {g bt n c n2 c2 : Nat} {A A2 : Option Addr} {T : Ty} {u : World} {Q : Exit → Act → World → Prop} {S : World → Prop} (hg : g < u.heap.size)
    (HS : Hid (∀ W, But g u W → S W)) (HC : Hid (∀ W, But g u W → Src W g → Calls Tryd.prog 6 #[.pointer (some ⟨g, 0, none⟩), .agg #[.int .i64 T.k, .int .i64 T.lo, .int .i64 T.hi, .int .i64 T.mx, .slice A2 n2 c2]] W (GivesSome 2 g W)))
    (HQ : Hid (∀ (W : World) (p q r : Nat) (x y z : VlAt), FIN3 g u W p q r x y z → Q .normal { tmps := #[.slice A n c, undef, .bool false, .pointer (some ⟨g, 0, none⟩), .pointer (some ⟨bt, 0, none⟩), .pointer (some ⟨p, 0, none⟩), .pointer (some ⟨q, 0, none⟩), .pointer (some ⟨r, 0, none⟩), undef, undef, undef, undef, undef, undef, undef, undef, undef, undef, undef, undef, .slice A n c, .pointer (some ⟨g, 0, none⟩), .pointer (some ⟨g, 0, none⟩), .agg #[.int .i64 T.k, .int .i64 T.lo, .int .i64 T.hi, .int .i64 T.mx, .slice A2 n2 c2], .pointer (some ⟨g, 0, none⟩), .agg #[.int .i64 T.k, .int .i64 T.lo, .int .i64 T.hi, .int .i64 T.mx, .slice A2 n2 c2], vlV x.V x.A x.n x.c, .pointer (some ⟨g, 0, none⟩), .agg #[.int .i64 T.k, .int .i64 T.lo, .int .i64 T.hi, .int .i64 T.mx, .slice A2 n2 c2], vlV y.V y.A y.n y.c, .pointer (some ⟨g, 0, none⟩), .agg #[.int .i64 T.k, .int .i64 T.lo, .int .i64 T.hi, .int .i64 T.mx, .slice A2 n2 c2], vlV z.V z.A z.n z.c, undef, undef, undef, undef, undef, undef, undef, undef, undef, undef, undef, undef, undef, undef, undef, undef, undef, undef, undef, undef, undef, undef, undef, undef, undef, undef, undef, undef, undef, undef, undef, undef, undef, undef, undef, undef, undef, undef, undef, undef, undef, undef, undef, undef, undef, undef, undef, undef, undef, undef, undef, undef, undef, undef, undef, undef, undef, undef, undef, undef, undef, undef, undef, undef, undef, undef, undef, undef, undef, undef, undef, undef, undef, undef, undef, undef, undef, undef, undef, undef, undef, undef, undef, undef, undef, undef, undef, undef, undef, undef, undef, undef, undef, undef, undef, undef, undef, undef, undef, undef, undef, undef, undef, undef, undef, undef, undef, undef, undef, undef, undef, undef, undef, undef, undef, undef], defers := [] } W)) {fuel : Nat} {listed : Array Bool} {a : Act} {w : World} {p r : Nat} {x y : VlAt} (I : ST3 g u w (some p) none (some r) [x, y])
    (hf : fuel = 5) (hl : listed = #[true, true, true, true, true, true, true, true, false, true, false, true, false, false, false]) (ha : a = { tmps := #[.slice A n c, undef, .bool false, .pointer (some ⟨g, 0, none⟩), .pointer (some ⟨bt, 0, none⟩), .pointer (some ⟨p, 0, none⟩), undef, .pointer (some ⟨r, 0, none⟩), undef, undef, undef, undef, undef, undef, undef, undef, undef, undef, undef, undef, .slice A n c, .pointer (some ⟨g, 0, none⟩), .pointer (some ⟨g, 0, none⟩), .agg #[.int .i64 T.k, .int .i64 T.lo, .int .i64 T.hi, .int .i64 T.mx, .slice A2 n2 c2], .pointer (some ⟨g, 0, none⟩), .agg #[.int .i64 T.k, .int .i64 T.lo, .int .i64 T.hi, .int .i64 T.mx, .slice A2 n2 c2], vlV x.V x.A x.n x.c, .pointer (some ⟨g, 0, none⟩), .agg #[.int .i64 T.k, .int .i64 T.lo, .int .i64 T.hi, .int .i64 T.mx, .slice A2 n2 c2], vlV y.V y.A y.n y.c, .pointer (some ⟨g, 0, none⟩), .agg #[.int .i64 T.k, .int .i64 T.lo, .int .i64 T.hi, .int .i64 T.mx, .slice A2 n2 c2], undef, undef, undef, undef, undef, undef, undef, undef, undef, undef, undef, undef, undef, undef, undef, undef, undef, undef, undef, undef, undef, undef, undef, undef, undef, undef, undef, undef, undef, undef, undef, undef, undef, undef, undef, undef, undef, undef, undef, undef, undef, undef, undef, undef, undef, undef, undef, undef, undef, undef, undef, undef, undef, undef, undef, undef, undef, undef, undef, undef, undef, undef, undef, undef, undef, undef, undef, undef, undef, undef, undef, undef, undef, undef, undef, undef, undef, undef, undef, undef, undef, undef, undef, undef, undef, undef, undef, undef, undef, undef, undef, undef, undef, undef, undef, undef, undef, undef, undef, undef, undef, undef, undef, undef, undef, undef, undef, undef, undef, undef, undef, undef, undef, undef, undef, undef, undef], defers := [] }) : wpAnyH Tryd.prog .any ops3 Q S fuel listed a w := by
  subst hf hl ha
  refine wpAnyH_ready (rs := [8, 10]) (by kernel_rfl) (by simp) ?_
  refine AllReadyH.cons (o := ⟨some 32, _, _, _, _, _⟩) rfl (fun K hK => ?_) (AllReadyH.cons (o := ⟨some 6, _, _, _, _, _⟩) rfl (fun K hK => ?_) AllReadyH.nil)
  · go_simp
    go_at_call 6
    (with_reducible refine (HC.out w I.but I.src).mono ?_)
    rintro e1 w1 ⟨V1, A1, n1, c1, rfl, hrd1, _, hs1, hb1⟩
    have I1 := I.call hg (x := ⟨V1, A1, n1, c1⟩) hrd1 hs1 hb1
    go_wp2_with fail
    refine hK.out _ _ (HS.out _ I1.but) (fun hHeld => ?_)
    clear hK K
    try simp only [Act.put, List.setIfInBounds_toArray, List.set_cons_zero, List.set_cons_succ]
    exact st3_57 hg HS HC HQ I1 (by kernel_rfl) (by kernel_rfl) rfl
  · go_simp
    have I1 := I.alloc6
    refine hK.out _ _ (HS.out _ I1.but) (fun hHeld => ?_)
    clear hK K
    try simp only [Act.put, List.setIfInBounds_toArray, List.set_cons_zero, List.set_cons_succ]
    exact st2_567 hg HS HC HQ I1 (by kernel_rfl) (by kernel_rfl) rfl

set_option maxHeartbeats 4000000 in
theorem st2_67 {g bt n c n2 c2 : Nat} {A A2 : Option Addr} {T : Ty} {u : World} {Q : Exit → Act → World → Prop} {S : World → Prop} (hg : g < u.heap.size)
    (HS : Hid (∀ W, But g u W → S W)) (HC : Hid (∀ W, But g u W → Src W g → Calls Tryd.prog 6 #[.pointer (some ⟨g, 0, none⟩), .agg #[.int .i64 T.k, .int .i64 T.lo, .int .i64 T.hi, .int .i64 T.mx, .slice A2 n2 c2]] W (GivesSome 2 g W)))
    (HQ : Hid (∀ (W : World) (p q r : Nat) (x y z : VlAt), FIN3 g u W p q r x y z → Q .normal { tmps := #[.slice A n c, undef, .bool false, .pointer (some ⟨g, 0, none⟩), .pointer (some ⟨bt, 0, none⟩), .pointer (some ⟨p, 0, none⟩), .pointer (some ⟨q, 0, none⟩), .pointer (some ⟨r, 0, none⟩), undef, undef, undef, undef, undef, undef, undef, undef, undef, undef, undef, undef, .slice A n c, .pointer (some ⟨g, 0, none⟩), .pointer (some ⟨g, 0, none⟩), .agg #[.int .i64 T.k, .int .i64 T.lo, .int .i64 T.hi, .int .i64 T.mx, .slice A2 n2 c2], .pointer (some ⟨g, 0, none⟩), .agg #[.int .i64 T.k, .int .i64 T.lo, .int .i64 T.hi, .int .i64 T.mx, .slice A2 n2 c2], vlV x.V x.A x.n x.c, .pointer (some ⟨g, 0, none⟩), .agg #[.int .i64 T.k, .int .i64 T.lo, .int .i64 T.hi, .int .i64 T.mx, .slice A2 n2 c2], vlV y.V y.A y.n y.c, .pointer (some ⟨g, 0, none⟩), .agg #[.int .i64 T.k, .int .i64 T.lo, .int .i64 T.hi, .int .i64 T.mx, .slice A2 n2 c2], vlV z.V z.A z.n z.c, undef, undef, undef, undef, undef, undef, undef, undef, undef, undef, undef, undef, undef, undef, undef, undef, undef, undef, undef, undef, undef, undef, undef, undef, undef, undef, undef, undef, undef, undef, undef, undef, undef, undef, undef, undef, undef, undef, undef, undef, undef, undef, undef, undef, undef, undef, undef, undef, undef, undef, undef, undef, undef, undef, undef, undef, undef, undef, undef, undef, undef, undef, undef, undef, undef, undef, undef, undef, undef, undef, undef, undef, undef, undef, undef, undef, undef, undef, undef, undef, undef, undef, undef, undef, undef, undef, undef, undef, undef, undef, undef, undef, undef, undef, undef, undef, undef, undef, undef, undef, undef, undef, undef, undef, undef, undef, undef, undef, undef, undef, undef, undef, undef, undef, undef, undef], defers := [] } W)) {fuel : Nat} {listed : Array Bool} {a : Act} {w : World} {q r : Nat} {x y : VlAt} (I : ST3 g u w none (some q) (some r) [x, y])
    (hf : fuel = 5) (hl : listed = #[true, true, true, true, true, true, true, true, false, false, true, true, false, false, false]) (ha : a = { tmps := #[.slice A n c, undef, .bool false, .pointer (some ⟨g, 0, none⟩), .pointer (some ⟨bt, 0, none⟩), undef, .pointer (some ⟨q, 0, none⟩), .pointer (some ⟨r, 0, none⟩), undef, undef, undef, undef, undef, undef, undef, undef, undef, undef, undef, undef, .slice A n c, .pointer (some ⟨g, 0, none⟩), .pointer (some ⟨g, 0, none⟩), .agg #[.int .i64 T.k, .int .i64 T.lo, .int .i64 T.hi, .int .i64 T.mx, .slice A2 n2 c2], .pointer (some ⟨g, 0, none⟩), .agg #[.int .i64 T.k, .int .i64 T.lo, .int .i64 T.hi, .int .i64 T.mx, .slice A2 n2 c2], vlV x.V x.A x.n x.c, .pointer (some ⟨g, 0, none⟩), .agg #[.int .i64 T.k, .int .i64 T.lo, .int .i64 T.hi, .int .i64 T.mx, .slice A2 n2 c2], vlV y.V y.A y.n y.c, .pointer (some ⟨g, 0, none⟩), .agg #[.int .i64 T.k, .int .i64 T.lo, .int .i64 T.hi, .int .i64 T.mx, .slice A2 n2 c2], undef, undef, undef, undef, undef, undef, undef, undef, undef, undef, undef, undef, undef, undef, undef, undef, undef, undef, undef, undef, undef, undef, undef, undef, undef, undef, undef, undef, undef, undef, undef, undef, undef, undef, undef, undef, undef, undef, undef, undef, undef, undef, undef, undef, undef, undef, undef, undef, undef, undef, undef, undef, undef, undef, undef, undef, undef, undef, undef, undef, undef, undef, undef, undef, undef, undef, undef, undef, undef, undef, undef, undef, undef, undef, undef, undef, undef, undef, undef, undef, undef, undef, undef, undef, undef, undef, undef, undef, undef, undef, undef, undef, undef, undef, undef, undef, undef, undef, undef, undef, undef, undef, undef, undef, undef, undef, undef, undef, undef, undef, undef, undef, undef, undef, undef, undef, undef], defers := [] }) : wpAnyH Tryd.prog .any ops3 Q S fuel listed a w := by
  subst hf hl ha
  refine wpAnyH_ready (rs := [8, 9]) (by kernel_rfl) (by simp) ?_
  refine AllReadyH.cons (o := ⟨some 32, _, _, _, _, _⟩) rfl (fun K hK => ?_) (AllReadyH.cons (o := ⟨some 5, _, _, _, _, _⟩) rfl (fun K hK => ?_) AllReadyH.nil)
  · go_simp
    go_at_call 6
    (with_reducible refine (HC.out w I.but I.src).mono ?_)
    rintro e1 w1 ⟨V1, A1, n1, c1, rfl, hrd1, _, hs1, hb1⟩
    have I1 := I.call hg (x := ⟨V1, A1, n1, c1⟩) hrd1 hs1 hb1
    go_wp2_with fail
    refine hK.out _ _ (HS.out _ I1.but) (fun hHeld => ?_)
    clear hK K
    try simp only [Act.put, List.setIfInBounds_toArray, List.set_cons_zero, List.set_cons_succ]
    exact st3_67 hg HS HC HQ I1 (by kernel_rfl) (by kernel_rfl) rfl
  · go_simp
    have I1 := I.alloc5
    refine hK.out _ _ (HS.out _ I1.but) (fun hHeld => ?_)
    clear hK K
    try simp only [Act.put, List.setIfInBounds_toArray, List.set_cons_zero, List.set_cons_succ]
    exact st2_567 hg HS HC HQ I1 (by kernel_rfl) (by kernel_rfl) rfl

set_option maxHeartbeats 4000000 in
theorem st1_567 {g bt n c n2 c2 : Nat} {A A2 : Option Addr} {T : Ty} {u : World} {Q : Exit → Act → World → Prop} {S : World → Prop} (hg : g < u.heap.size)
    (HS : Hid (∀ W, But g u W → S W)) (HC : Hid (∀ W, But g u W → Src W g → Calls Tryd.prog 6 #[.pointer (some ⟨g, 0, none⟩), .agg #[.int .i64 T.k, .int .i64 T.lo, .int .i64 T.hi, .int .i64 T.mx, .slice A2 n2 c2]] W (GivesSome 2 g W)))
    (HQ : Hid (∀ (W : World) (p q r : Nat) (x y z : VlAt), FIN3 g u W p q r x y z → Q .normal { tmps := #[.slice A n c, undef, .bool false, .pointer (some ⟨g, 0, none⟩), .pointer (some ⟨bt, 0, none⟩), .pointer (some ⟨p, 0, none⟩), .pointer (some ⟨q, 0, none⟩), .pointer (some ⟨r, 0, none⟩), undef, undef, undef, undef, undef, undef, undef, undef, undef, undef, undef, undef, .slice A n c, .pointer (some ⟨g, 0, none⟩), .pointer (some ⟨g, 0, none⟩), .agg #[.int .i64 T.k, .int .i64 T.lo, .int .i64 T.hi, .int .i64 T.mx, .slice A2 n2 c2], .pointer (some ⟨g, 0, none⟩), .agg #[.int .i64 T.k, .int .i64 T.lo, .int .i64 T.hi, .int .i64 T.mx, .slice A2 n2 c2], vlV x.V x.A x.n x.c, .pointer (some ⟨g, 0, none⟩), .agg #[.int .i64 T.k, .int .i64 T.lo, .int .i64 T.hi, .int .i64 T.mx, .slice A2 n2 c2], vlV y.V y.A y.n y.c, .pointer (some ⟨g, 0, none⟩), .agg #[.int .i64 T.k, .int .i64 T.lo, .int .i64 T.hi, .int .i64 T.mx, .slice A2 n2 c2], vlV z.V z.A z.n z.c, undef, undef, undef, undef, undef, undef, undef, undef, undef, undef, undef, undef, undef, undef, undef, undef, undef, undef, undef, undef, undef, undef, undef, undef, undef, undef, undef, undef, undef, undef, undef, undef, undef, undef, undef, undef, undef, undef, undef, undef, undef, undef, undef, undef, undef, undef, undef, undef, undef, undef, undef, undef, undef, undef, undef, undef, undef, undef, undef, undef, undef, undef, undef, undef, undef, undef, undef, undef, undef, undef, undef, undef, undef, undef, undef, undef, undef, undef, undef, undef, undef, undef, undef, undef, undef, undef, undef, undef, undef, undef, undef, undef, undef, undef, undef, undef, undef, undef, undef, undef, undef, undef, undef, undef, undef, undef, undef, undef, undef, undef, undef, undef, undef, undef, undef, undef], defers := [] } W)) {fuel : Nat} {listed : Array Bool} {a : Act} {w : World} {p q r : Nat} {x : VlAt} (I : ST3 g u w (some p) (some q) (some r) [x])
    (hf : fuel = 5) (hl : listed = #[true, true, true, true, true, false, true, true, false, true, true, true, false, false, false]) (ha : a = { tmps := #[.slice A n c, undef, .bool false, .pointer (some ⟨g, 0, none⟩), .pointer (some ⟨bt, 0, none⟩), .pointer (some ⟨p, 0, none⟩), .pointer (some ⟨q, 0, none⟩), .pointer (some ⟨r, 0, none⟩), undef, undef, undef, undef, undef, undef, undef, undef, undef, undef, undef, undef, .slice A n c, .pointer (some ⟨g, 0, none⟩), .pointer (some ⟨g, 0, none⟩), .agg #[.int .i64 T.k, .int .i64 T.lo, .int .i64 T.hi, .int .i64 T.mx, .slice A2 n2 c2], .pointer (some ⟨g, 0, none⟩), .agg #[.int .i64 T.k, .int .i64 T.lo, .int .i64 T.hi, .int .i64 T.mx, .slice A2 n2 c2], vlV x.V x.A x.n x.c, .pointer (some ⟨g, 0, none⟩), .agg #[.int .i64 T.k, .int .i64 T.lo, .int .i64 T.hi, .int .i64 T.mx, .slice A2 n2 c2], undef, .pointer (some ⟨g, 0, none⟩), .agg #[.int .i64 T.k, .int .i64 T.lo, .int .i64 T.hi, .int .i64 T.mx, .slice A2 n2 c2], undef, undef, undef, undef, undef, undef, undef, undef, undef, undef, undef, undef, undef, undef, undef, undef, undef, undef, undef, undef, undef, undef, undef, undef, undef, undef, undef, undef, undef, undef, undef, undef, undef, undef, undef, undef, undef, undef, undef, undef, undef, undef, undef, undef, undef, undef, undef, undef, undef, undef, undef, undef, undef, undef, undef, undef, undef, undef, undef, undef, undef, undef, undef, undef, undef, undef, undef, undef, undef, undef, undef, undef, undef, undef, undef, undef, undef, undef, undef, undef, undef, undef, undef, undef, undef, undef, undef, undef, undef, undef, undef, undef, undef, undef, undef, undef, undef, undef, undef, undef, undef, undef, undef, undef, undef, undef, undef, undef, undef, undef, undef, undef, undef, undef, undef, undef, undef], defers := [] }) : wpAnyH Tryd.prog .any ops3 Q S fuel listed a w := by
  subst hf hl ha
  refine wpAnyH_ready (rs := [5]) (by kernel_rfl) (by simp) ?_
  refine AllReadyH.cons (o := ⟨some 29, _, _, _, _, _⟩) rfl (fun K hK => ?_) AllReadyH.nil
  · go_simp
    go_at_call 6
    (with_reducible refine (HC.out w I.but I.src).mono ?_)
    rintro e1 w1 ⟨V1, A1, n1, c1, rfl, hrd1, _, hs1, hb1⟩
    have I1 := I.call hg (x := ⟨V1, A1, n1, c1⟩) hrd1 hs1 hb1
    go_wp2_with fail
    refine hK.out _ _ (HS.out _ I1.but) (fun hHeld => ?_)
    clear hK K
    try simp only [Act.put, List.setIfInBounds_toArray, List.set_cons_zero, List.set_cons_succ]
    exact st2_567 hg HS HC HQ I1 (by kernel_rfl) (by kernel_rfl) rfl

set_option maxHeartbeats 4000000 in
theorem st3_0 {g bt n c n2 c2 : Nat} {A A2 : Option Addr} {T : Ty} {u : World} {Q : Exit → Act → World → Prop} {S : World → Prop} (hg : g < u.heap.size)
    (HS : Hid (∀ W, But g u W → S W)) (HC : Hid (∀ W, But g u W → Src W g → Calls Tryd.prog 6 #[.pointer (some ⟨g, 0, none⟩), .agg #[.int .i64 T.k, .int .i64 T.lo, .int .i64 T.hi, .int .i64 T.mx, .slice A2 n2 c2]] W (GivesSome 2 g W)))
    (HQ : Hid (∀ (W : World) (p q r : Nat) (x y z : VlAt), FIN3 g u W p q r x y z → Q .normal { tmps := #[.slice A n c, undef, .bool false, .pointer (some ⟨g, 0, none⟩), .pointer (some ⟨bt, 0, none⟩), .pointer (some ⟨p, 0, none⟩), .pointer (some ⟨q, 0, none⟩), .pointer (some ⟨r, 0, none⟩), undef, undef, undef, undef, undef, undef, undef, undef, undef, undef, undef, undef, .slice A n c, .pointer (some ⟨g, 0, none⟩), .pointer (some ⟨g, 0, none⟩), .agg #[.int .i64 T.k, .int .i64 T.lo, .int .i64 T.hi, .int .i64 T.mx, .slice A2 n2 c2], .pointer (some ⟨g, 0, none⟩), .agg #[.int .i64 T.k, .int .i64 T.lo, .int .i64 T.hi, .int .i64 T.mx, .slice A2 n2 c2], vlV x.V x.A x.n x.c, .pointer (some ⟨g, 0, none⟩), .agg #[.int .i64 T.k, .int .i64 T.lo, .int .i64 T.hi, .int .i64 T.mx, .slice A2 n2 c2], vlV y.V y.A y.n y.c, .pointer (some ⟨g, 0, none⟩), .agg #[.int .i64 T.k, .int .i64 T.lo, .int .i64 T.hi, .int .i64 T.mx, .slice A2 n2 c2], vlV z.V z.A z.n z.c, undef, undef, undef, undef, undef, undef, undef, undef, undef, undef, undef, undef, undef, undef, undef, undef, undef, undef, undef, undef, undef, undef, undef, undef, undef, undef, undef, undef, undef, undef, undef, undef, undef, undef, undef, undef, undef, undef, undef, undef, undef, undef, undef, undef, undef, undef, undef, undef, undef, undef, undef, undef, undef, undef, undef, undef, undef, undef, undef, undef, undef, undef, undef, undef, undef, undef, undef, undef, undef, undef, undef, undef, undef, undef, undef, undef, undef, undef, undef, undef, undef, undef, undef, undef, undef, undef, undef, undef, undef, undef, undef, undef, undef, undef, undef, undef, undef, undef, undef, undef, undef, undef, undef, undef, undef, undef, undef, undef, undef, undef, undef, undef, undef, undef, undef, undef], defers := [] } W)) {fuel : Nat} {listed : Array Bool} {a : Act} {w : World} {x y z : VlAt} (I : ST3 g u w none none none [x, y, z])
    (hf : fuel = 6) (hl : listed = #[true, true, true, true, true, true, true, true, true, false, false, false, false, false, false]) (ha : a = { tmps := #[.slice A n c, undef, .bool false, .pointer (some ⟨g, 0, none⟩), .pointer (some ⟨bt, 0, none⟩), undef, undef, undef, undef, undef, undef, undef, undef, undef, undef, undef, undef, undef, undef, undef, .slice A n c, .pointer (some ⟨g, 0, none⟩), .pointer (some ⟨g, 0, none⟩), .agg #[.int .i64 T.k, .int .i64 T.lo, .int .i64 T.hi, .int .i64 T.mx, .slice A2 n2 c2], .pointer (some ⟨g, 0, none⟩), .agg #[.int .i64 T.k, .int .i64 T.lo, .int .i64 T.hi, .int .i64 T.mx, .slice A2 n2 c2], vlV x.V x.A x.n x.c, .pointer (some ⟨g, 0, none⟩), .agg #[.int .i64 T.k, .int .i64 T.lo, .int .i64 T.hi, .int .i64 T.mx, .slice A2 n2 c2], vlV y.V y.A y.n y.c, .pointer (some ⟨g, 0, none⟩), .agg #[.int .i64 T.k, .int .i64 T.lo, .int .i64 T.hi, .int .i64 T.mx, .slice A2 n2 c2], vlV z.V z.A z.n z.c, undef, undef, undef, undef, undef, undef, undef, undef, undef, undef, undef, undef, undef, undef, undef, undef, undef, undef, undef, undef, undef, undef, undef, undef, undef, undef, undef, undef, undef, undef, undef, undef, undef, undef, undef, undef, undef, undef, undef, undef, undef, undef, undef, undef, undef, undef, undef, undef, undef, undef, undef, undef, undef, undef, undef, undef, undef, undef, undef, undef, undef, undef, undef, undef, undef, undef, undef, undef, undef, undef, undef, undef, undef, undef, undef, undef, undef, undef, undef, undef, undef, undef, undef, undef, undef, undef, undef, undef, undef, undef, undef, undef, undef, undef, undef, undef, undef, undef, undef, undef, undef, undef, undef, undef, undef, undef, undef, undef, undef, undef, undef, undef, undef, undef, undef, undef], defers := [] }) : wpAnyH Tryd.prog .any ops3 Q S fuel listed a w := by
  subst hf hl ha
  refine wpAnyH_ready (rs := [9, 10, 11]) (by kernel_rfl) (by simp) ?_
  refine AllReadyH.cons (o := ⟨some 5, _, _, _, _, _⟩) rfl (fun K hK => ?_) (AllReadyH.cons (o := ⟨some 6, _, _, _, _, _⟩) rfl (fun K hK => ?_) (AllReadyH.cons (o := ⟨some 7, _, _, _, _, _⟩) rfl (fun K hK => ?_) AllReadyH.nil))
  · go_simp
    have I1 := I.alloc5
    refine hK.out _ _ (HS.out _ I1.but) (fun hHeld => ?_)
    clear hK K
    try simp only [Act.put, List.setIfInBounds_toArray, List.set_cons_zero, List.set_cons_succ]
    exact st3_5 hg HS HC HQ I1 (by kernel_rfl) (by kernel_rfl) rfl
  · go_simp
    have I1 := I.alloc6
    refine hK.out _ _ (HS.out _ I1.but) (fun hHeld => ?_)
    clear hK K
    try simp only [Act.put, List.setIfInBounds_toArray, List.set_cons_zero, List.set_cons_succ]
    exact st3_6 hg HS HC HQ I1 (by kernel_rfl) (by kernel_rfl) rfl
  · go_simp
    have I1 := I.alloc7
    refine hK.out _ _ (HS.out _ I1.but) (fun hHeld => ?_)
    clear hK K
    try simp only [Act.put, List.setIfInBounds_toArray, List.set_cons_zero, List.set_cons_succ]
    exact st3_7 hg HS HC HQ I1 (by kernel_rfl) (by kernel_rfl) rfl

set_option maxHeartbeats 4000000 in
theorem st2_5 {g bt n c n2 c2 : Nat} {A A2 : Option Addr} {T : Ty} {u : World} {Q : Exit → Act → World → Prop} {S : World → Prop} (hg : g < u.heap.size)
    (HS : Hid (∀ W, But g u W → S W)) (HC : Hid (∀ W, But g u W → Src W g → Calls Tryd.prog 6 #[.pointer (some ⟨g, 0, none⟩), .agg #[.int .i64 T.k, .int .i64 T.lo, .int .i64 T.hi, .int .i64 T.mx, .slice A2 n2 c2]] W (GivesSome 2 g W)))
    (HQ : Hid (∀ (W : World) (p q r : Nat) (x y z : VlAt), FIN3 g u W p q r x y z → Q .normal { tmps := #[.slice A n c, undef, .bool false, .pointer (some ⟨g, 0, none⟩), .pointer (some ⟨bt, 0, none⟩), .pointer (some ⟨p, 0, none⟩), .pointer (some ⟨q, 0, none⟩), .pointer (some ⟨r, 0, none⟩), undef, undef, undef, undef, undef, undef, undef, undef, undef, undef, undef, undef, .slice A n c, .pointer (some ⟨g, 0, none⟩), .pointer (some ⟨g, 0, none⟩), .agg #[.int .i64 T.k, .int .i64 T.lo, .int .i64 T.hi, .int .i64 T.mx, .slice A2 n2 c2], .pointer (some ⟨g, 0, none⟩), .agg #[.int .i64 T.k, .int .i64 T.lo, .int .i64 T.hi, .int .i64 T.mx, .slice A2 n2 c2], vlV x.V x.A x.n x.c, .pointer (some ⟨g, 0, none⟩), .agg #[.int .i64 T.k, .int .i64 T.lo, .int .i64 T.hi, .int .i64 T.mx, .slice A2 n2 c2], vlV y.V y.A y.n y.c, .pointer (some ⟨g, 0, none⟩), .agg #[.int .i64 T.k, .int .i64 T.lo, .int .i64 T.hi, .int .i64 T.mx, .slice A2 n2 c2], vlV z.V z.A z.n z.c, undef, undef, undef, undef, undef, undef, undef, undef, undef, undef, undef, undef, undef, undef, undef, undef, undef, undef, undef, undef, undef, undef, undef, undef, undef, undef, undef, undef, undef, undef, undef, undef, undef, undef, undef, undef, undef, undef, undef, undef, undef, undef, undef, undef, undef, undef, undef, undef, undef, undef, undef, undef, undef, undef, undef, undef, undef, undef, undef, undef, undef, undef, undef, undef, undef, undef, undef, undef, undef, undef, undef, undef, undef, undef, undef, undef, undef, undef, undef, undef, undef, undef, undef, undef, undef, undef, undef, undef, undef, undef, undef, undef, undef, undef, undef, undef, undef, undef, undef, undef, undef, undef, undef, undef, undef, undef, undef, undef, undef, undef, undef, undef, undef, undef, undef, undef], defers := [] } W)) {fuel : Nat} {listed : Array Bool} {a : Act} {w : World} {p : Nat} {x y : VlAt} (I : ST3 g u w (some p) none none [x, y])
    (hf : fuel = 6) (hl : listed = #[true, true, true, true, true, true, true, true, false, true, false, false, false, false, false]) (ha : a = { tmps := #[.slice A n c, undef, .bool false, .pointer (some ⟨g, 0, none⟩), .pointer (some ⟨bt, 0, none⟩), .pointer (some ⟨p, 0, none⟩), undef, undef, undef, undef, undef, undef, undef, undef, undef, undef, undef, undef, undef, undef, .slice A n c, .pointer (some ⟨g, 0, none⟩), .pointer (some ⟨g, 0, none⟩), .agg #[.int .i64 T.k, .int .i64 T.lo, .int .i64 T.hi, .int .i64 T.mx, .slice A2 n2 c2], .pointer (some ⟨g, 0, none⟩), .agg #[.int .i64 T.k, .int .i64 T.lo, .int .i64 T.hi, .int .i64 T.mx, .slice A2 n2 c2], vlV x.V x.A x.n x.c, .pointer (some ⟨g, 0, none⟩), .agg #[.int .i64 T.k, .int .i64 T.lo, .int .i64 T.hi, .int .i64 T.mx, .slice A2 n2 c2], vlV y.V y.A y.n y.c, .pointer (some ⟨g, 0, none⟩), .agg #[.int .i64 T.k, .int .i64 T.lo, .int .i64 T.hi, .int .i64 T.mx, .slice A2 n2 c2], undef, undef, undef, undef, undef, undef, undef, undef, undef, undef, undef, undef, undef, undef, undef, undef, undef, undef, undef, undef, undef, undef, undef, undef, undef, undef, undef, undef, undef, undef, undef, undef, undef, undef, undef, undef, undef, undef, undef, undef, undef, undef, undef, undef, undef, undef, undef, undef, undef, undef, undef, undef, undef, undef, undef, undef, undef, undef, undef, undef, undef, undef, undef, undef, undef, undef, undef, undef, undef, undef, undef, undef, undef, undef, undef, undef, undef, undef, undef, undef, undef, undef, undef, undef, undef, undef, undef, undef, undef, undef, undef, undef, undef, undef, undef, undef, undef, undef, undef, undef, undef, undef, undef, undef, undef, undef, undef, undef, undef, undef, undef, undef, undef, undef, undef, undef, undef], defers := [] }) : wpAnyH Tryd.prog .any ops3 Q S fuel listed a w := by
  subst hf hl ha
  refine wpAnyH_ready (rs := [8, 10, 11]) (by kernel_rfl) (by simp) ?_
  refine AllReadyH.cons (o := ⟨some 32, _, _, _, _, _⟩) rfl (fun K hK => ?_) (AllReadyH.cons (o := ⟨some 6, _, _, _, _, _⟩) rfl (fun K hK => ?_) (AllReadyH.cons (o := ⟨some 7, _, _, _, _, _⟩) rfl (fun K hK => ?_) AllReadyH.nil))
  · go_simp
    go_at_call 6
    (with_reducible refine (HC.out w I.but I.src).mono ?_)
    rintro e1 w1 ⟨V1, A1, n1, c1, rfl, hrd1, _, hs1, hb1⟩
    have I1 := I.call hg (x := ⟨V1, A1, n1, c1⟩) hrd1 hs1 hb1
    go_wp2_with fail
    refine hK.out _ _ (HS.out _ I1.but) (fun hHeld => ?_)
    clear hK K
    try simp only [Act.put, List.setIfInBounds_toArray, List.set_cons_zero, List.set_cons_succ]
    exact st3_5 hg HS HC HQ I1 (by kernel_rfl) (by kernel_rfl) rfl
  · go_simp
    have I1 := I.alloc6
    refine hK.out _ _ (HS.out _ I1.but) (fun hHeld => ?_)
    clear hK K
    try simp only [Act.put, List.setIfInBounds_toArray, List.set_cons_zero, List.set_cons_succ]
    exact st2_56 hg HS HC HQ I1 (by kernel_rfl) (by kernel_rfl) rfl
  · go_simp
    have I1 := I.alloc7
    refine hK.out _ _ (HS.out _ I1.but) (fun hHeld => ?_)
    clear hK K
    try simp only [Act.put, List.setIfInBounds_toArray, List.set_cons_zero, List.set_cons_succ]
    exact st2_57 hg HS HC HQ I1 (by kernel_rfl) (by kernel_rfl) rfl

set_option maxHeartbeats 4000000 in
theorem st2_6 {g bt n c n2 c2 : Nat} {A A2 : Option Addr} {T : Ty} {u : World} {Q : Exit → Act → World → Prop} {S : World → Prop} (hg : g < u.heap.size)
    (HS : Hid (∀ W, But g u W → S W)) (HC : Hid (∀ W, But g u W → Src W g → Calls Tryd.prog 6 #[.pointer (some ⟨g, 0, none⟩), .agg #[.int .i64 T.k, .int .i64 T.lo, .int .i64 T.hi, .int .i64 T.mx, .slice A2 n2 c2]] W (GivesSome 2 g W)))
    (HQ : Hid (∀ (W : World) (p q r : Nat) (x y z : VlAt), FIN3 g u W p q r x y z → Q .normal { tmps := #[.slice A n c, undef, .bool false, .pointer (some ⟨g, 0, none⟩), .pointer (some ⟨bt, 0, none⟩), .pointer (some ⟨p, 0, none⟩), .pointer (some ⟨q, 0, none⟩), .pointer (some ⟨r, 0, none⟩), undef, undef, undef, undef, undef, undef, undef, undef, undef, undef, undef, undef, .slice A n c, .pointer (some ⟨g, 0, none⟩), .pointer (some ⟨g, 0, none⟩), .agg #[.int .i64 T.k, .int .i64 T.lo, .int .i64 T.hi, .int .i64 T.mx, .slice A2 n2 c2], .pointer (some ⟨g, 0, none⟩), .agg #[.int .i64 T.k, .int .i64 T.lo, .int .i64 T.hi, .int .i64 T.mx, .slice A2 n2 c2], vlV x.V x.A x.n x.c, .pointer (some ⟨g, 0, none⟩), .agg #[.int .i64 T.k, .int .i64 T.lo, .int .i64 T.hi, .int .i64 T.mx, .slice A2 n2 c2], vlV y.V y.A y.n y.c, .pointer (some ⟨g, 0, none⟩), .agg #[.int .i64 T.k, .int .i64 T.lo, .int .i64 T.hi, .int .i64 T.mx, .slice A2 n2 c2], vlV z.V z.A z.n z.c, undef, undef, undef, undef, undef, undef, undef, undef, undef, undef, undef, undef, undef, undef, undef, undef, undef, undef, undef, undef, undef, undef, undef, undef, undef, undef, undef, undef, undef, undef, undef, undef, undef, undef, undef, undef, undef, undef, undef, undef, undef, undef, undef, undef, undef, undef, undef, undef, undef, undef, undef, undef, undef, undef, undef, undef, undef, undef, undef, undef, undef, undef, undef, undef, undef, undef, undef, undef, undef, undef, undef, undef, undef, undef, undef, undef, undef, undef, undef, undef, undef, undef, undef, undef, undef, undef, undef, undef, undef, undef, undef, undef, undef, undef, undef, undef, undef, undef, undef, undef, undef, undef, undef, undef, undef, undef, undef, undef, undef, undef, undef, undef, undef, undef, undef, undef], defers := [] } W)) {fuel : Nat} {listed : Array Bool} {a : Act} {w : World} {q : Nat} {x y : VlAt} (I : ST3 g u w none (some q) none [x, y])
    (hf : fuel = 6) (hl : listed = #[true, true, true, true, true, true, true, true, false, false, true, false, false, false, false]) (ha : a = { tmps := #[.slice A n c, undef, .bool false, .pointer (some ⟨g, 0, none⟩), .pointer (some ⟨bt, 0, none⟩), undef, .pointer (some ⟨q, 0, none⟩), undef, undef, undef, undef, undef, undef, undef, undef, undef, undef, undef, undef, undef, .slice A n c, .pointer (some ⟨g, 0, none⟩), .pointer (some ⟨g, 0, none⟩), .agg #[.int .i64 T.k, .int .i64 T.lo, .int .i64 T.hi, .int .i64 T.mx, .slice A2 n2 c2], .pointer (some ⟨g, 0, none⟩), .agg #[.int .i64 T.k, .int .i64 T.lo, .int .i64 T.hi, .int .i64 T.mx, .slice A2 n2 c2], vlV x.V x.A x.n x.c, .pointer (some ⟨g, 0, none⟩), .agg #[.int .i64 T.k, .int .i64 T.lo, .int .i64 T.hi, .int .i64 T.mx, .slice A2 n2 c2], vlV y.V y.A y.n y.c, .pointer (some ⟨g, 0, none⟩), .agg #[.int .i64 T.k, .int .i64 T.lo, .int .i64 T.hi, .int .i64 T.mx, .slice A2 n2 c2], undef, undef, undef, undef, undef, undef, undef, undef, undef, undef, undef, undef, undef, undef, undef, undef, undef, undef, undef, undef, undef, undef, undef, undef, undef, undef, undef, undef, undef, undef, undef, undef, undef, undef, undef, undef, undef, undef, undef, undef, undef, undef, undef, undef, undef, undef, undef, undef, undef, undef, undef, undef, undef, undef, undef, undef, undef, undef, undef, undef, undef, undef, undef, undef, undef, undef, undef, undef, undef, undef, undef, undef, undef, undef, undef, undef, undef, undef, undef, undef, undef, undef, undef, undef, undef, undef, undef, undef, undef, undef, undef, undef, undef, undef, undef, undef, undef, undef, undef, undef, undef, undef, undef, undef, undef, undef, undef, undef, undef, undef, undef, undef, undef, undef, undef, undef, undef], defers := [] }) : wpAnyH Tryd.prog .any ops3 Q S fuel listed a w := by
  subst hf hl ha
  refine wpAnyH_ready (rs := [8, 9, 11]) (by kernel_rfl) (by simp) ?_
  refine AllReadyH.cons (o := ⟨some 32, _, _, _, _, _⟩) rfl (fun K hK => ?_) (AllReadyH.cons (o := ⟨some 5, _, _, _, _, _⟩) rfl (fun K hK => ?_) (AllReadyH.cons (o := ⟨some 7, _, _, _, _, _⟩) rfl (fun K hK => ?_) AllReadyH.nil))
  · go_simp
    go_at_call 6
    (with_reducible refine (HC.out w I.but I.src).mono ?_)
    rintro e1 w1 ⟨V1, A1, n1, c1, rfl, hrd1, _, hs1, hb1⟩
    have I1 := I.call hg (x := ⟨V1, A1, n1, c1⟩) hrd1 hs1 hb1
    go_wp2_with fail
    refine hK.out _ _ (HS.out _ I1.but) (fun hHeld => ?_)
    clear hK K
    try simp only [Act.put, List.setIfInBounds_toArray, List.set_cons_zero, List.set_cons_succ]
    exact st3_6 hg HS HC HQ I1 (by kernel_rfl) (by kernel_rfl) rfl
  · go_simp
    have I1 := I.alloc5
    refine hK.out _ _ (HS.out _ I1.but) (fun hHeld => ?_)
    clear hK K
    try simp only [Act.put, List.setIfInBounds_toArray, List.set_cons_zero, List.set_cons_succ]
    exact st2_56 hg HS HC HQ I1 (by kernel_rfl) (by kernel_rfl) rfl
  · go_simp
    have I1 := I.alloc7
    refine hK.out _ _ (HS.out _ I1.but) (fun hHeld => ?_)
    clear hK K
    try simp only [Act.put, List.setIfInBounds_toArray, List.set_cons_zero, List.set_cons_succ]
    exact st2_67 hg HS HC HQ I1 (by kernel_rfl) (by kernel_rfl) rfl

set_option maxHeartbeats 4000000 in
theorem st2_7 {g bt n c n2 c2 : Nat} {A A2 : Option Addr} {T : Ty} {u : World} {Q : Exit → Act → World → Prop} {S : World → Prop} (hg : g < u.heap.size)
    (HS : Hid (∀ W, But g u W → S W)) (HC : Hid (∀ W, But g u W → Src W g → Calls Tryd.prog 6 #[.pointer (some ⟨g, 0, none⟩), .agg #[.int .i64 T.k, .int .i64 T.lo, .int .i64 T.hi, .int .i64 T.mx, .slice A2 n2 c2]] W (GivesSome 2 g W)))
    (HQ : Hid (∀ (W : World) (p q r : Nat) (x y z : VlAt), FIN3 g u W p q r x y z → Q .normal { tmps := #[.slice A n c, undef, .bool false, .pointer (some ⟨g, 0, none⟩), .pointer (some ⟨bt, 0, none⟩), .pointer (some ⟨p, 0, none⟩), .pointer (some ⟨q, 0, none⟩), .pointer (some ⟨r, 0, none⟩), undef, undef, undef, undef, undef, undef, undef, undef, undef, undef, undef, undef, .slice A n c, .pointer (some ⟨g, 0, none⟩), .pointer (some ⟨g, 0, none⟩), .agg #[.int .i64 T.k, .int .i64 T.lo, .int .i64 T.hi, .int .i64 T.mx, .slice A2 n2 c2], .pointer (some ⟨g, 0, none⟩), .agg #[.int .i64 T.k, .int .i64 T.lo, .int .i64 T.hi, .int .i64 T.mx, .slice A2 n2 c2], vlV x.V x.A x.n x.c, .pointer (some ⟨g, 0, none⟩), .agg #[.int .i64 T.k, .int .i64 T.lo, .int .i64 T.hi, .int .i64 T.mx, .slice A2 n2 c2], vlV y.V y.A y.n y.c, .pointer (some ⟨g, 0, none⟩), .agg #[.int .i64 T.k, .int .i64 T.lo, .int .i64 T.hi, .int .i64 T.mx, .slice A2 n2 c2], vlV z.V z.A z.n z.c, undef, undef, undef, undef, undef, undef, undef, undef, undef, undef, undef, undef, undef, undef, undef, undef, undef, undef, undef, undef, undef, undef, undef, undef, undef, undef, undef, undef, undef, undef, undef, undef, undef, undef, undef, undef, undef, undef, undef, undef, undef, undef, undef, undef, undef, undef, undef, undef, undef, undef, undef, undef, undef, undef, undef, undef, undef, undef, undef, undef, undef, undef, undef, undef, undef, undef, undef, undef, undef, undef, undef, undef, undef, undef, undef, undef, undef, undef, undef, undef, undef, undef, undef, undef, undef, undef, undef, undef, undef, undef, undef, undef, undef, undef, undef, undef, undef, undef, undef, undef, undef, undef, undef, undef, undef, undef, undef, undef, undef, undef, undef, undef, undef, undef, undef, undef], defers := [] } W)) {fuel : Nat} {listed : Array Bool} {a : Act} {w : World} {r : Nat} {x y : VlAt} (I : ST3 g u w none none (some r) [x, y])
    (hf : fuel = 6) (hl : listed = #[true, true, true, true, true, true, true, true, false, false, false, true, false, false, false]) (ha : a = { tmps := #[.slice A n c, undef, .bool false, .pointer (some ⟨g, 0, none⟩), .pointer (some ⟨bt, 0, none⟩), undef, undef, .pointer (some ⟨r, 0, none⟩), undef, undef, undef, undef, undef, undef, undef, undef, undef, undef, undef, undef, .slice A n c, .pointer (some ⟨g, 0, none⟩), .pointer (some ⟨g, 0, none⟩), .agg #[.int .i64 T.k, .int .i64 T.lo, .int .i64 T.hi, .int .i64 T.mx, .slice A2 n2 c2], .pointer (some ⟨g, 0, none⟩), .agg #[.int .i64 T.k, .int .i64 T.lo, .int .i64 T.hi, .int .i64 T.mx, .slice A2 n2 c2], vlV x.V x.A x.n x.c, .pointer (some ⟨g, 0, none⟩), .agg #[.int .i64 T.k, .int .i64 T.lo, .int .i64 T.hi, .int .i64 T.mx, .slice A2 n2 c2], vlV y.V y.A y.n y.c, .pointer (some ⟨g, 0, none⟩), .agg #[.int .i64 T.k, .int .i64 T.lo, .int .i64 T.hi, .int .i64 T.mx, .slice A2 n2 c2], undef, undef, undef, undef, undef, undef, undef, undef, undef, undef, undef, undef, undef, undef, undef, undef, undef, undef, undef, undef, undef, undef, undef, undef, undef, undef, undef, undef, undef, undef, undef, undef, undef, undef, undef, undef, undef, undef, undef, undef, undef, undef, undef, undef, undef, undef, undef, undef, undef, undef, undef, undef, undef, undef, undef, undef, undef, undef, undef, undef, undef, undef, undef, undef, undef, undef, undef, undef, undef, undef, undef, undef, undef, undef, undef, undef, undef, undef, undef, undef, undef, undef, undef, undef, undef, undef, undef, undef, undef, undef, undef, undef, undef, undef, undef, undef, undef, undef, undef, undef, undef, undef, undef, undef, undef, undef, undef, undef, undef, undef, undef, undef, undef, undef, undef, undef, undef], defers := [] }) : wpAnyH Tryd.prog .any ops3 Q S fuel listed a w := by
  subst hf hl ha
  refine wpAnyH_ready (rs := [8, 9, 10]) (by kernel_rfl) (by simp) ?_
  refine AllReadyH.cons (o := ⟨some 32, _, _, _, _, _⟩) rfl (fun K hK => ?_) (AllReadyH.cons (o := ⟨some 5, _, _, _, _, _⟩) rfl (fun K hK => ?_) (AllReadyH.cons (o := ⟨some 6, _, _, _, _, _⟩) rfl (fun K hK => ?_) AllReadyH.nil))
  · go_simp
    go_at_call 6
    (with_reducible refine (HC.out w I.but I.src).mono ?_)
    rintro e1 w1 ⟨V1, A1, n1, c1, rfl, hrd1, _, hs1, hb1⟩
    have I1 := I.call hg (x := ⟨V1, A1, n1, c1⟩) hrd1 hs1 hb1
    go_wp2_with fail
    refine hK.out _ _ (HS.out _ I1.but) (fun hHeld => ?_)
    clear hK K
    try simp only [Act.put, List.setIfInBounds_toArray, List.set_cons_zero, List.set_cons_succ]
    exact st3_7 hg HS HC HQ I1 (by kernel_rfl) (by kernel_rfl) rfl
  · go_simp
    have I1 := I.alloc5
    refine hK.out _ _ (HS.out _ I1.but) (fun hHeld => ?_)
    clear hK K
    try simp only [Act.put, List.setIfInBounds_toArray, List.set_cons_zero, List.set_cons_succ]
    exact st2_57 hg HS HC HQ I1 (by kernel_rfl) (by kernel_rfl) rfl
  · go_simp
    have I1 := I.alloc6
    refine hK.out _ _ (HS.out _ I1.but) (fun hHeld => ?_)
    clear hK K
    try simp only [Act.put, List.setIfInBounds_toArray, List.set_cons_zero, List.set_cons_succ]
    exact st2_67 hg HS HC HQ I1 (by kernel_rfl) (by kernel_rfl) rfl

set_option maxHeartbeats 4000000 in
theorem st1_56 {g bt n c n2 c2 : Nat} {A A2 : Option Addr} {T : Ty} {u : World} {Q : Exit → Act → World → Prop} {S : World → Prop} (hg : g < u.heap.size)
    (HS : Hid (∀ W, But g u W → S W)) (HC : Hid (∀ W, But g u W → Src W g → Calls Tryd.prog 6 #[.pointer (some ⟨g, 0, none⟩), .agg #[.int .i64 T.k, .int .i64 T.lo, .int .i64 T.hi, .int .i64 T.mx, .slice A2 n2 c2]] W (GivesSome 2 g W)))
    (HQ : Hid (∀ (W : World) (p q r : Nat) (x y z : VlAt), FIN3 g u W p q r x y z → Q .normal { tmps := #[.slice A n c, undef, .bool false, .pointer (some ⟨g, 0, none⟩), .pointer (some ⟨bt, 0, none⟩), .pointer (some ⟨p, 0, none⟩), .pointer (some ⟨q, 0, none⟩), .pointer (some ⟨r, 0, none⟩), undef, undef, undef, undef, undef, undef, undef, undef, undef, undef, undef, undef, .slice A n c, .pointer (some ⟨g, 0, none⟩), .pointer (some ⟨g, 0, none⟩), .agg #[.int .i64 T.k, .int .i64 T.lo, .int .i64 T.hi, .int .i64 T.mx, .slice A2 n2 c2], .pointer (some ⟨g, 0, none⟩), .agg #[.int .i64 T.k, .int .i64 T.lo, .int .i64 T.hi, .int .i64 T.mx, .slice A2 n2 c2], vlV x.V x.A x.n x.c, .pointer (some ⟨g, 0, none⟩), .agg #[.int .i64 T.k, .int .i64 T.lo, .int .i64 T.hi, .int .i64 T.mx, .slice A2 n2 c2], vlV y.V y.A y.n y.c, .pointer (some ⟨g, 0, none⟩), .agg #[.int .i64 T.k, .int .i64 T.lo, .int .i64 T.hi, .int .i64 T.mx, .slice A2 n2 c2], vlV z.V z.A z.n z.c, undef, undef, undef, undef, undef, undef, undef, undef, undef, undef, undef, undef, undef, undef, undef, undef, undef, undef, undef, undef, undef, undef, undef, undef, undef, undef, undef, undef, undef, undef, undef, undef, undef, undef, undef, undef, undef, undef, undef, undef, undef, undef, undef, undef, undef, undef, undef, undef, undef, undef, undef, undef, undef, undef, undef, undef, undef, undef, undef, undef, undef, undef, undef, undef, undef, undef, undef, undef, undef, undef, undef, undef, undef, undef, undef, undef, undef, undef, undef, undef, undef, undef, undef, undef, undef, undef, undef, undef, undef, undef, undef, undef, undef, undef, undef, undef, undef, undef, undef, undef, undef, undef, undef, undef, undef, undef, undef, undef, undef, undef, undef, undef, undef, undef, undef, undef], defers := [] } W)) {fuel : Nat} {listed : Array Bool} {a : Act} {w : World} {p q : Nat} {x : VlAt} (I : ST3 g u w (some p) (some q) none [x])
    (hf : fuel = 6) (hl : listed = #[true, true, true, true, true, false, true, true, false, true, true, false, false, false, false]) (ha : a = { tmps := #[.slice A n c, undef, .bool false, .pointer (some ⟨g, 0, none⟩), .pointer (some ⟨bt, 0, none⟩), .pointer (some ⟨p, 0, none⟩), .pointer (some ⟨q, 0, none⟩), undef, undef, undef, undef, undef, undef, undef, undef, undef, undef, undef, undef, undef, .slice A n c, .pointer (some ⟨g, 0, none⟩), .pointer (some ⟨g, 0, none⟩), .agg #[.int .i64 T.k, .int .i64 T.lo, .int .i64 T.hi, .int .i64 T.mx, .slice A2 n2 c2], .pointer (some ⟨g, 0, none⟩), .agg #[.int .i64 T.k, .int .i64 T.lo, .int .i64 T.hi, .int .i64 T.mx, .slice A2 n2 c2], vlV x.V x.A x.n x.c, .pointer (some ⟨g, 0, none⟩), .agg #[.int .i64 T.k, .int .i64 T.lo, .int .i64 T.hi, .int .i64 T.mx, .slice A2 n2 c2], undef, .pointer (some ⟨g, 0, none⟩), .agg #[.int .i64 T.k, .int .i64 T.lo, .int .i64 T.hi, .int .i64 T.mx, .slice A2 n2 c2], undef, undef, undef, undef, undef, undef, undef, undef, undef, undef, undef, undef, undef, undef, undef, undef, undef, undef, undef, undef, undef, undef, undef, undef, undef, undef, undef, undef, undef, undef, undef, undef, undef, undef, undef, undef, undef, undef, undef, undef, undef, undef, undef, undef, undef, undef, undef, undef, undef, undef, undef, undef, undef, undef, undef, undef, undef, undef, undef, undef, undef, undef, undef, undef, undef, undef, undef, undef, undef, undef, undef, undef, undef, undef, undef, undef, undef, undef, undef, undef, undef, undef, undef, undef, undef, undef, undef, undef, undef, undef, undef, undef, undef, undef, undef, undef, undef, undef, undef, undef, undef, undef, undef, undef, undef, undef, undef, undef, undef, undef, undef, undef, undef, undef, undef, undef, undef], defers := [] }) : wpAnyH Tryd.prog .any ops3 Q S fuel listed a w := by
  subst hf hl ha
  refine wpAnyH_ready (rs := [5, 11]) (by kernel_rfl) (by simp) ?_
  refine AllReadyH.cons (o := ⟨some 29, _, _, _, _, _⟩) rfl (fun K hK => ?_) (AllReadyH.cons (o := ⟨some 7, _, _, _, _, _⟩) rfl (fun K hK => ?_) AllReadyH.nil)
  · go_simp
    go_at_call 6
    (with_reducible refine (HC.out w I.but I.src).mono ?_)
    rintro e1 w1 ⟨V1, A1, n1, c1, rfl, hrd1, _, hs1, hb1⟩
    have I1 := I.call hg (x := ⟨V1, A1, n1, c1⟩) hrd1 hs1 hb1
    go_wp2_with fail
    refine hK.out _ _ (HS.out _ I1.but) (fun hHeld => ?_)
    clear hK K
    try simp only [Act.put, List.setIfInBounds_toArray, List.set_cons_zero, List.set_cons_succ]
    exact st2_56 hg HS HC HQ I1 (by kernel_rfl) (by kernel_rfl) rfl
  · go_simp
    have I1 := I.alloc7
    refine hK.out _ _ (HS.out _ I1.but) (fun hHeld => ?_)
    clear hK K
    try simp only [Act.put, List.setIfInBounds_toArray, List.set_cons_zero, List.set_cons_succ]
    exact st1_567 hg HS HC HQ I1 (by kernel_rfl) (by kernel_rfl) rfl

set_option maxHeartbeats 4000000 in
theorem st1_57 {g bt n c n2 c2 : Nat} {A A2 : Option Addr} {T : Ty} {u : World} {Q : Exit → Act → World → Prop} {S : World → Prop} (hg : g < u.heap.size)
    (HS : Hid (∀ W, But g u W → S W)) (HC : Hid (∀ W, But g u W → Src W g → Calls Tryd.prog 6 #[.pointer (some ⟨g, 0, none⟩), .agg #[.int .i64 T.k, .int .i64 T.lo, .int .i64 T.hi, .int .i64 T.mx, .slice A2 n2 c2]] W (GivesSome 2 g W)))
    (HQ : Hid (∀ (W : World) (p q r : Nat) (x y z : VlAt), FIN3 g u W p q r x y z → Q .normal { tmps := #[.slice A n c, undef, .bool false, .pointer (some ⟨g, 0, none⟩), .pointer (some ⟨bt, 0, none⟩), .pointer (some ⟨p, 0, none⟩), .pointer (some ⟨q, 0, none⟩), .pointer (some ⟨r, 0, none⟩), undef, undef, undef, undef, undef, undef, undef, undef, undef, undef, undef, undef, .slice A n c, .pointer (some ⟨g, 0, none⟩), .pointer (some ⟨g, 0, none⟩), .agg #[.int .i64 T.k, .int .i64 T.lo, .int .i64 T.hi, .int .i64 T.mx, .slice A2 n2 c2], .pointer (some ⟨g, 0, none⟩), .agg #[.int .i64 T.k, .int .i64 T.lo, .int .i64 T.hi, .int .i64 T.mx, .slice A2 n2 c2], vlV x.V x.A x.n x.c, .pointer (some ⟨g, 0, none⟩), .agg #[.int .i64 T.k, .int .i64 T.lo, .int .i64 T.hi, .int .i64 T.mx, .slice A2 n2 c2], vlV y.V y.A y.n y.c, .pointer (some ⟨g, 0, none⟩), .agg #[.int .i64 T.k, .int .i64 T.lo, .int .i64 T.hi, .int .i64 T.mx, .slice A2 n2 c2], vlV z.V z.A z.n z.c, undef, undef, undef, undef, undef, undef, undef, undef, undef, undef, undef, undef, undef, undef, undef, undef, undef, undef, undef, undef, undef, undef, undef, undef, undef, undef, undef, undef, undef, undef, undef, undef, undef, undef, undef, undef, undef, undef, undef, undef, undef, undef, undef, undef, undef, undef, undef, undef, undef, undef, undef, undef, undef, undef, undef, undef, undef, undef, undef, undef, undef, undef, undef, undef, undef, undef, undef, undef, undef, undef, undef, undef, undef, undef, undef, undef, undef, undef, undef, undef, undef, undef, undef, undef, undef, undef, undef, undef, undef, undef, undef, undef, undef, undef, undef, undef, undef, undef, undef, undef, undef, undef, undef, undef, undef, undef, undef, undef, undef, undef, undef, undef, undef, undef, undef, undef], defers := [] } W)) {fuel : Nat} {listed : Array Bool} {a : Act} {w : World} {p r : Nat} {x : VlAt} (I : ST3 g u w (some p) none (some r) [x])
    (hf : fuel = 6) (hl : listed = #[true, true, true, true, true, false, true, true, false, true, false, true, false, false, false]) (ha : a = { tmps := #[.slice A n c, undef, .bool false, .pointer (some ⟨g, 0, none⟩), .pointer (some ⟨bt, 0, none⟩), .pointer (some ⟨p, 0, none⟩), undef, .pointer (some ⟨r, 0, none⟩), undef, undef, undef, undef, undef, undef, undef, undef, undef, undef, undef, undef, .slice A n c, .pointer (some ⟨g, 0, none⟩), .pointer (some ⟨g, 0, none⟩), .agg #[.int .i64 T.k, .int .i64 T.lo, .int .i64 T.hi, .int .i64 T.mx, .slice A2 n2 c2], .pointer (some ⟨g, 0, none⟩), .agg #[.int .i64 T.k, .int .i64 T.lo, .int .i64 T.hi, .int .i64 T.mx, .slice A2 n2 c2], vlV x.V x.A x.n x.c, .pointer (some ⟨g, 0, none⟩), .agg #[.int .i64 T.k, .int .i64 T.lo, .int .i64 T.hi, .int .i64 T.mx, .slice A2 n2 c2], undef, .pointer (some ⟨g, 0, none⟩), .agg #[.int .i64 T.k, .int .i64 T.lo, .int .i64 T.hi, .int .i64 T.mx, .slice A2 n2 c2], undef, undef, undef, undef, undef, undef, undef, undef, undef, undef, undef, undef, undef, undef, undef, undef, undef, undef, undef, undef, undef, undef, undef, undef, undef, undef, undef, undef, undef, undef, undef, undef, undef, undef, undef, undef, undef, undef, undef, undef, undef, undef, undef, undef, undef, undef, undef, undef, undef, undef, undef, undef, undef, undef, undef, undef, undef, undef, undef, undef, undef, undef, undef, undef, undef, undef, undef, undef, undef, undef, undef, undef, undef, undef, undef, undef, undef, undef, undef, undef, undef, undef, undef, undef, undef, undef, undef, undef, undef, undef, undef, undef, undef, undef, undef, undef, undef, undef, undef, undef, undef, undef, undef, undef, undef, undef, undef, undef, undef, undef, undef, undef, undef, undef, undef, undef, undef], defers := [] }) : wpAnyH Tryd.prog .any ops3 Q S fuel listed a w := by
  subst hf hl ha
  refine wpAnyH_ready (rs := [5, 10]) (by kernel_rfl) (by simp) ?_
  refine AllReadyH.cons (o := ⟨some 29, _, _, _, _, _⟩) rfl (fun K hK => ?_) (AllReadyH.cons (o := ⟨some 6, _, _, _, _, _⟩) rfl (fun K hK => ?_) AllReadyH.nil)
  · go_simp
    go_at_call 6
    (with_reducible refine (HC.out w I.but I.src).mono ?_)
    rintro e1 w1 ⟨V1, A1, n1, c1, rfl, hrd1, _, hs1, hb1⟩
    have I1 := I.call hg (x := ⟨V1, A1, n1, c1⟩) hrd1 hs1 hb1
    go_wp2_with fail
    refine hK.out _ _ (HS.out _ I1.but) (fun hHeld => ?_)
    clear hK K
    try simp only [Act.put, List.setIfInBounds_toArray, List.set_cons_zero, List.set_cons_succ]
    exact st2_57 hg HS HC HQ I1 (by kernel_rfl) (by kernel_rfl) rfl
  · go_simp
    have I1 := I.alloc6
    refine hK.out _ _ (HS.out _ I1.but) (fun hHeld => ?_)
    clear hK K
    try simp only [Act.put, List.setIfInBounds_toArray, List.set_cons_zero, List.set_cons_succ]
    exact st1_567 hg HS HC HQ I1 (by kernel_rfl) (by kernel_rfl) rfl

set_option maxHeartbeats 4000000 in
theorem st1_67 {g bt n c n2 c2 : Nat} {A A2 : Option Addr} {T : Ty} {u : World} {Q : Exit → Act → World → Prop} {S : World → Prop} (hg : g < u.heap.size)
    (HS : Hid (∀ W, But g u W → S W)) (HC : Hid (∀ W, But g u W → Src W g → Calls Tryd.prog 6 #[.pointer (some ⟨g, 0, none⟩), .agg #[.int .i64 T.k, .int .i64 T.lo, .int .i64 T.hi, .int .i64 T.mx, .slice A2 n2 c2]] W (GivesSome 2 g W)))
    (HQ : Hid (∀ (W : World) (p q r : Nat) (x y z : VlAt), FIN3 g u W p q r x y z → Q .normal { tmps := #[.slice A n c, undef, .bool false, .pointer (some ⟨g, 0, none⟩), .pointer (some ⟨bt, 0, none⟩), .pointer (some ⟨p, 0, none⟩), .pointer (some ⟨q, 0, none⟩), .pointer (some ⟨r, 0, none⟩), undef, undef, undef, undef, undef, undef, undef, undef, undef, undef, undef, undef, .slice A n c, .pointer (some ⟨g, 0, none⟩), .pointer (some ⟨g, 0, none⟩), .agg #[.int .i64 T.k, .int .i64 T.lo, .int .i64 T.hi, .int .i64 T.mx, .slice A2 n2 c2], .pointer (some ⟨g, 0, none⟩), .agg #[.int .i64 T.k, .int .i64 T.lo, .int .i64 T.hi, .int .i64 T.mx, .slice A2 n2 c2], vlV x.V x.A x.n x.c, .pointer (some ⟨g, 0, none⟩), .agg #[.int .i64 T.k, .int .i64 T.lo, .int .i64 T.hi, .int .i64 T.mx, .slice A2 n2 c2], vlV y.V y.A y.n y.c, .pointer (some ⟨g, 0, none⟩), .agg #[.int .i64 T.k, .int .i64 T.lo, .int .i64 T.hi, .int .i64 T.mx, .slice A2 n2 c2], vlV z.V z.A z.n z.c, undef, undef, undef, undef, undef, undef, undef, undef, undef, undef, undef, undef, undef, undef, undef, undef, undef, undef, undef, undef, undef, undef, undef, undef, undef, undef, undef, undef, undef, undef, undef, undef, undef, undef, undef, undef, undef, undef, undef, undef, undef, undef, undef, undef, undef, undef, undef, undef, undef, undef, undef, undef, undef, undef, undef, undef, undef, undef, undef, undef, undef, undef, undef, undef, undef, undef, undef, undef, undef, undef, undef, undef, undef, undef, undef, undef, undef, undef, undef, undef, undef, undef, undef, undef, undef, undef, undef, undef, undef, undef, undef, undef, undef, undef, undef, undef, undef, undef, undef, undef, undef, undef, undef, undef, undef, undef, undef, undef, undef, undef, undef, undef, undef, undef, undef, undef], defers := [] } W)) {fuel : Nat} {listed : Array Bool} {a : Act} {w : World} {q r : Nat} {x : VlAt} (I : ST3 g u w none (some q) (some r) [x])
    (hf : fuel = 6) (hl : listed = #[true, true, true, true, true, false, true, true, false, false, true, true, false, false, false]) (ha : a = { tmps := #[.slice A n c, undef, .bool false, .pointer (some ⟨g, 0, none⟩), .pointer (some ⟨bt, 0, none⟩), undef, .pointer (some ⟨q, 0, none⟩), .pointer (some ⟨r, 0, none⟩), undef, undef, undef, undef, undef, undef, undef, undef, undef, undef, undef, undef, .slice A n c, .pointer (some ⟨g, 0, none⟩), .pointer (some ⟨g, 0, none⟩), .agg #[.int .i64 T.k, .int .i64 T.lo, .int .i64 T.hi, .int .i64 T.mx, .slice A2 n2 c2], .pointer (some ⟨g, 0, none⟩), .agg #[.int .i64 T.k, .int .i64 T.lo, .int .i64 T.hi, .int .i64 T.mx, .slice A2 n2 c2], vlV x.V x.A x.n x.c, .pointer (some ⟨g, 0, none⟩), .agg #[.int .i64 T.k, .int .i64 T.lo, .int .i64 T.hi, .int .i64 T.mx, .slice A2 n2 c2], undef, .pointer (some ⟨g, 0, none⟩), .agg #[.int .i64 T.k, .int .i64 T.lo, .int .i64 T.hi, .int .i64 T.mx, .slice A2 n2 c2], undef, undef, undef, undef, undef, undef, undef, undef, undef, undef, undef, undef, undef, undef, undef, undef, undef, undef, undef, undef, undef, undef, undef, undef, undef, undef, undef, undef, undef, undef, undef, undef, undef, undef, undef, undef, undef, undef, undef, undef, undef, undef, undef, undef, undef, undef, undef, undef, undef, undef, undef, undef, undef, undef, undef, undef, undef, undef, undef, undef, undef, undef, undef, undef, undef, undef, undef, undef, undef, undef, undef, undef, undef, undef, undef, undef, undef, undef, undef, undef, undef, undef, undef, undef, undef, undef, undef, undef, undef, undef, undef, undef, undef, undef, undef, undef, undef, undef, undef, undef, undef, undef, undef, undef, undef, undef, undef, undef, undef, undef, undef, undef, undef, undef, undef, undef, undef], defers := [] }) : wpAnyH Tryd.prog .any ops3 Q S fuel listed a w := by
  subst hf hl ha
  refine wpAnyH_ready (rs := [5, 9]) (by kernel_rfl) (by simp) ?_
  refine AllReadyH.cons (o := ⟨some 29, _, _, _, _, _⟩) rfl (fun K hK => ?_) (AllReadyH.cons (o := ⟨some 5, _, _, _, _, _⟩) rfl (fun K hK => ?_) AllReadyH.nil)
  · go_simp
    go_at_call 6
    (with_reducible refine (HC.out w I.but I.src).mono ?_)
    rintro e1 w1 ⟨V1, A1, n1, c1, rfl, hrd1, _, hs1, hb1⟩
    have I1 := I.call hg (x := ⟨V1, A1, n1, c1⟩) hrd1 hs1 hb1
    go_wp2_with fail
    refine hK.out _ _ (HS.out _ I1.but) (fun hHeld => ?_)
    clear hK K
    try simp only [Act.put, List.setIfInBounds_toArray, List.set_cons_zero, List.set_cons_succ]
    exact st2_67 hg HS HC HQ I1 (by kernel_rfl) (by kernel_rfl) rfl
  · go_simp
    have I1 := I.alloc5
    refine hK.out _ _ (HS.out _ I1.but) (fun hHeld => ?_)
    clear hK K
    try simp only [Act.put, List.setIfInBounds_toArray, List.set_cons_zero, List.set_cons_succ]
    exact st1_567 hg HS HC HQ I1 (by kernel_rfl) (by kernel_rfl) rfl

set_option maxHeartbeats 4000000 in
theorem st0_567 {g bt n c n2 c2 : Nat} {A A2 : Option Addr} {T : Ty} {u : World} {Q : Exit → Act → World → Prop} {S : World → Prop} (hg : g < u.heap.size)
    (HS : Hid (∀ W, But g u W → S W)) (HC : Hid (∀ W, But g u W → Src W g → Calls Tryd.prog 6 #[.pointer (some ⟨g, 0, none⟩), .agg #[.int .i64 T.k, .int .i64 T.lo, .int .i64 T.hi, .int .i64 T.mx, .slice A2 n2 c2]] W (GivesSome 2 g W)))
    (HQ : Hid (∀ (W : World) (p q r : Nat) (x y z : VlAt), FIN3 g u W p q r x y z → Q .normal { tmps := #[.slice A n c, undef, .bool false, .pointer (some ⟨g, 0, none⟩), .pointer (some ⟨bt, 0, none⟩), .pointer (some ⟨p, 0, none⟩), .pointer (some ⟨q, 0, none⟩), .pointer (some ⟨r, 0, none⟩), undef, undef, undef, undef, undef, undef, undef, undef, undef, undef, undef, undef, .slice A n c, .pointer (some ⟨g, 0, none⟩), .pointer (some ⟨g, 0, none⟩), .agg #[.int .i64 T.k, .int .i64 T.lo, .int .i64 T.hi, .int .i64 T.mx, .slice A2 n2 c2], .pointer (some ⟨g, 0, none⟩), .agg #[.int .i64 T.k, .int .i64 T.lo, .int .i64 T.hi, .int .i64 T.mx, .slice A2 n2 c2], vlV x.V x.A x.n x.c, .pointer (some ⟨g, 0, none⟩), .agg #[.int .i64 T.k, .int .i64 T.lo, .int .i64 T.hi, .int .i64 T.mx, .slice A2 n2 c2], vlV y.V y.A y.n y.c, .pointer (some ⟨g, 0, none⟩), .agg #[.int .i64 T.k, .int .i64 T.lo, .int .i64 T.hi, .int .i64 T.mx, .slice A2 n2 c2], vlV z.V z.A z.n z.c, undef, undef, undef, undef, undef, undef, undef, undef, undef, undef, undef, undef, undef, undef, undef, undef, undef, undef, undef, undef, undef, undef, undef, undef, undef, undef, undef, undef, undef, undef, undef, undef, undef, undef, undef, undef, undef, undef, undef, undef, undef, undef, undef, undef, undef, undef, undef, undef, undef, undef, undef, undef, undef, undef, undef, undef, undef, undef, undef, undef, undef, undef, undef, undef, undef, undef, undef, undef, undef, undef, undef, undef, undef, undef, undef, undef, undef, undef, undef, undef, undef, undef, undef, undef, undef, undef, undef, undef, undef, undef, undef, undef, undef, undef, undef, undef, undef, undef, undef, undef, undef, undef, undef, undef, undef, undef, undef, undef, undef, undef, undef, undef, undef, undef, undef, undef], defers := [] } W)) {fuel : Nat} {listed : Array Bool} {a : Act} {w : World} {p q r : Nat} (I : ST3 g u w (some p) (some q) (some r) [])
    (hf : fuel = 6) (hl : listed = #[true, true, false, true, true, false, true, true, false, true, true, true, false, false, false]) (ha : a = { tmps := #[.slice A n c, undef, .bool false, .pointer (some ⟨g, 0, none⟩), .pointer (some ⟨bt, 0, none⟩), .pointer (some ⟨p, 0, none⟩), .pointer (some ⟨q, 0, none⟩), .pointer (some ⟨r, 0, none⟩), undef, undef, undef, undef, undef, undef, undef, undef, undef, undef, undef, undef, .slice A n c, .pointer (some ⟨g, 0, none⟩), .pointer (some ⟨g, 0, none⟩), .agg #[.int .i64 T.k, .int .i64 T.lo, .int .i64 T.hi, .int .i64 T.mx, .slice A2 n2 c2], .pointer (some ⟨g, 0, none⟩), .agg #[.int .i64 T.k, .int .i64 T.lo, .int .i64 T.hi, .int .i64 T.mx, .slice A2 n2 c2], undef, .pointer (some ⟨g, 0, none⟩), .agg #[.int .i64 T.k, .int .i64 T.lo, .int .i64 T.hi, .int .i64 T.mx, .slice A2 n2 c2], undef, .pointer (some ⟨g, 0, none⟩), .agg #[.int .i64 T.k, .int .i64 T.lo, .int .i64 T.hi, .int .i64 T.mx, .slice A2 n2 c2], undef, undef, undef, undef, undef, undef, undef, undef, undef, undef, undef, undef, undef, undef, undef, undef, undef, undef, undef, undef, undef, undef, undef, undef, undef, undef, undef, undef, undef, undef, undef, undef, undef, undef, undef, undef, undef, undef, undef, undef, undef, undef, undef, undef, undef, undef, undef, undef, undef, undef, undef, undef, undef, undef, undef, undef, undef, undef, undef, undef, undef, undef, undef, undef, undef, undef, undef, undef, undef, undef, undef, undef, undef, undef, undef, undef, undef, undef, undef, undef, undef, undef, undef, undef, undef, undef, undef, undef, undef, undef, undef, undef, undef, undef, undef, undef, undef, undef, undef, undef, undef, undef, undef, undef, undef, undef, undef, undef, undef, undef, undef, undef, undef, undef, undef, undef, undef], defers := [] }) : wpAnyH Tryd.prog .any ops3 Q S fuel listed a w := by
  subst hf hl ha
  refine wpAnyH_ready (rs := [2]) (by kernel_rfl) (by simp) ?_
  refine AllReadyH.cons (o := ⟨some 26, _, _, _, _, _⟩) rfl (fun K hK => ?_) AllReadyH.nil
  · go_simp
    go_at_call 6
    (with_reducible refine (HC.out w I.but I.src).mono ?_)
    rintro e1 w1 ⟨V1, A1, n1, c1, rfl, hrd1, _, hs1, hb1⟩
    have I1 := I.call hg (x := ⟨V1, A1, n1, c1⟩) hrd1 hs1 hb1
    go_wp2_with fail
    refine hK.out _ _ (HS.out _ I1.but) (fun hHeld => ?_)
    clear hK K
    try simp only [Act.put, List.setIfInBounds_toArray, List.set_cons_zero, List.set_cons_succ]
    exact st1_567 hg HS HC HQ I1 (by kernel_rfl) (by kernel_rfl) rfl

set_option maxHeartbeats 4000000 in
theorem st2_0 {g bt n c n2 c2 : Nat} {A A2 : Option Addr} {T : Ty} {u : World} {Q : Exit → Act → World → Prop} {S : World → Prop} (hg : g < u.heap.size)
    (HS : Hid (∀ W, But g u W → S W)) (HC : Hid (∀ W, But g u W → Src W g → Calls Tryd.prog 6 #[.pointer (some ⟨g, 0, none⟩), .agg #[.int .i64 T.k, .int .i64 T.lo, .int .i64 T.hi, .int .i64 T.mx, .slice A2 n2 c2]] W (GivesSome 2 g W)))
    (HQ : Hid (∀ (W : World) (p q r : Nat) (x y z : VlAt), FIN3 g u W p q r x y z → Q .normal { tmps := #[.slice A n c, undef, .bool false, .pointer (some ⟨g, 0, none⟩), .pointer (some ⟨bt, 0, none⟩), .pointer (some ⟨p, 0, none⟩), .pointer (some ⟨q, 0, none⟩), .pointer (some ⟨r, 0, none⟩), undef, undef, undef, undef, undef, undef, undef, undef, undef, undef, undef, undef, .slice A n c, .pointer (some ⟨g, 0, none⟩), .pointer (some ⟨g, 0, none⟩), .agg #[.int .i64 T.k, .int .i64 T.lo, .int .i64 T.hi, .int .i64 T.mx, .slice A2 n2 c2], .pointer (some ⟨g, 0, none⟩), .agg #[.int .i64 T.k, .int .i64 T.lo, .int .i64 T.hi, .int .i64 T.mx, .slice A2 n2 c2], vlV x.V x.A x.n x.c, .pointer (some ⟨g, 0, none⟩), .agg #[.int .i64 T.k, .int .i64 T.lo, .int .i64 T.hi, .int .i64 T.mx, .slice A2 n2 c2], vlV y.V y.A y.n y.c, .pointer (some ⟨g, 0, none⟩), .agg #[.int .i64 T.k, .int .i64 T.lo, .int .i64 T.hi, .int .i64 T.mx, .slice A2 n2 c2], vlV z.V z.A z.n z.c, undef, undef, undef, undef, undef, undef, undef, undef, undef, undef, undef, undef, undef, undef, undef, undef, undef, undef, undef, undef, undef, undef, undef, undef, undef, undef, undef, undef, undef, undef, undef, undef, undef, undef, undef, undef, undef, undef, undef, undef, undef, undef, undef, undef, undef, undef, undef, undef, undef, undef, undef, undef, undef, undef, undef, undef, undef, undef, undef, undef, undef, undef, undef, undef, undef, undef, undef, undef, undef, undef, undef, undef, undef, undef, undef, undef, undef, undef, undef, undef, undef, undef, undef, undef, undef, undef, undef, undef, undef, undef, undef, undef, undef, undef, undef, undef, undef, undef, undef, undef, undef, undef, undef, undef, undef, undef, undef, undef, undef, undef, undef, undef, undef, undef, undef, undef], defers := [] } W)) {fuel : Nat} {listed : Array Bool} {a : Act} {w : World} {x y : VlAt} (I : ST3 g u w none none none [x, y])
    (hf : fuel = 7) (hl : listed = #[true, true, true, true, true, true, true, true, false, false, false, false, false, false, false]) (ha : a = { tmps := #[.slice A n c, undef, .bool false, .pointer (some ⟨g, 0, none⟩), .pointer (some ⟨bt, 0, none⟩), undef, undef, undef, undef, undef, undef, undef, undef, undef, undef, undef, undef, undef, undef, undef, .slice A n c, .pointer (some ⟨g, 0, none⟩), .pointer (some ⟨g, 0, none⟩), .agg #[.int .i64 T.k, .int .i64 T.lo, .int .i64 T.hi, .int .i64 T.mx, .slice A2 n2 c2], .pointer (some ⟨g, 0, none⟩), .agg #[.int .i64 T.k, .int .i64 T.lo, .int .i64 T.hi, .int .i64 T.mx, .slice A2 n2 c2], vlV x.V x.A x.n x.c, .pointer (some ⟨g, 0, none⟩), .agg #[.int .i64 T.k, .int .i64 T.lo, .int .i64 T.hi, .int .i64 T.mx, .slice A2 n2 c2], vlV y.V y.A y.n y.c, .pointer (some ⟨g, 0, none⟩), .agg #[.int .i64 T.k, .int .i64 T.lo, .int .i64 T.hi, .int .i64 T.mx, .slice A2 n2 c2], undef, undef, undef, undef, undef, undef, undef, undef, undef, undef, undef, undef, undef, undef, undef, undef, undef, undef, undef, undef, undef, undef, undef, undef, undef, undef, undef, undef, undef, undef, undef, undef, undef, undef, undef, undef, undef, undef, undef, undef, undef, undef, undef, undef, undef, undef, undef, undef, undef, undef, undef, undef, undef, undef, undef, undef, undef, undef, undef, undef, undef, undef, undef, undef, undef, undef, undef, undef, undef, undef, undef, undef, undef, undef, undef, undef, undef, undef, undef, undef, undef, undef, undef, undef, undef, undef, undef, undef, undef, undef, undef, undef, undef, undef, undef, undef, undef, undef, undef, undef, undef, undef, undef, undef, undef, undef, undef, undef, undef, undef, undef, undef, undef, undef, undef, undef, undef], defers := [] }) : wpAnyH Tryd.prog .any ops3 Q S fuel listed a w := by
  subst hf hl ha
  refine wpAnyH_ready (rs := [8, 9, 10, 11]) (by kernel_rfl) (by simp) ?_
  refine AllReadyH.cons (o := ⟨some 32, _, _, _, _, _⟩) rfl (fun K hK => ?_) (AllReadyH.cons (o := ⟨some 5, _, _, _, _, _⟩) rfl (fun K hK => ?_) (AllReadyH.cons (o := ⟨some 6, _, _, _, _, _⟩) rfl (fun K hK => ?_) (AllReadyH.cons (o := ⟨some 7, _, _, _, _, _⟩) rfl (fun K hK => ?_) AllReadyH.nil)))
  · go_simp
    go_at_call 6
    (with_reducible refine (HC.out w I.but I.src).mono ?_)
    rintro e1 w1 ⟨V1, A1, n1, c1, rfl, hrd1, _, hs1, hb1⟩
    have I1 := I.call hg (x := ⟨V1, A1, n1, c1⟩) hrd1 hs1 hb1
    go_wp2_with fail
    refine hK.out _ _ (HS.out _ I1.but) (fun hHeld => ?_)
    clear hK K
    try simp only [Act.put, List.setIfInBounds_toArray, List.set_cons_zero, List.set_cons_succ]
    exact st3_0 hg HS HC HQ I1 (by kernel_rfl) (by kernel_rfl) rfl
  · go_simp
    have I1 := I.alloc5
    refine hK.out _ _ (HS.out _ I1.but) (fun hHeld => ?_)
    clear hK K
    try simp only [Act.put, List.setIfInBounds_toArray, List.set_cons_zero, List.set_cons_succ]
    exact st2_5 hg HS HC HQ I1 (by kernel_rfl) (by kernel_rfl) rfl
  · go_simp
    have I1 := I.alloc6
    refine hK.out _ _ (HS.out _ I1.but) (fun hHeld => ?_)
    clear hK K
    try simp only [Act.put, List.setIfInBounds_toArray, List.set_cons_zero, List.set_cons_succ]
    exact st2_6 hg HS HC HQ I1 (by kernel_rfl) (by kernel_rfl) rfl
  · go_simp
    have I1 := I.alloc7
    refine hK.out _ _ (HS.out _ I1.but) (fun hHeld => ?_)
    clear hK K
    try simp only [Act.put, List.setIfInBounds_toArray, List.set_cons_zero, List.set_cons_succ]
    exact st2_7 hg HS HC HQ I1 (by kernel_rfl) (by kernel_rfl) rfl

set_option maxHeartbeats 4000000 in
theorem st1_5 {g bt n c n2 c2 : Nat} {A A2 : Option Addr} {T : Ty} {u : World} {Q : Exit → Act → World → Prop} {S : World → Prop} (hg : g < u.heap.size)
    (HS : Hid (∀ W, But g u W → S W)) (HC : Hid (∀ W, But g u W → Src W g → Calls Tryd.prog 6 #[.pointer (some ⟨g, 0, none⟩), .agg #[.int .i64 T.k, .int .i64 T.lo, .int .i64 T.hi, .int .i64 T.mx, .slice A2 n2 c2]] W (GivesSome 2 g W)))
    (HQ : Hid (∀ (W : World) (p q r : Nat) (x y z : VlAt), FIN3 g u W p q r x y z → Q .normal { tmps := #[.slice A n c, undef, .bool false, .pointer (some ⟨g, 0, none⟩), .pointer (some ⟨bt, 0, none⟩), .pointer (some ⟨p, 0, none⟩), .pointer (some ⟨q, 0, none⟩), .pointer (some ⟨r, 0, none⟩), undef, undef, undef, undef, undef, undef, undef, undef, undef, undef, undef, undef, .slice A n c, .pointer (some ⟨g, 0, none⟩), .pointer (some ⟨g, 0, none⟩), .agg #[.int .i64 T.k, .int .i64 T.lo, .int .i64 T.hi, .int .i64 T.mx, .slice A2 n2 c2], .pointer (some ⟨g, 0, none⟩), .agg #[.int .i64 T.k, .int .i64 T.lo, .int .i64 T.hi, .int .i64 T.mx, .slice A2 n2 c2], vlV x.V x.A x.n x.c, .pointer (some ⟨g, 0, none⟩), .agg #[.int .i64 T.k, .int .i64 T.lo, .int .i64 T.hi, .int .i64 T.mx, .slice A2 n2 c2], vlV y.V y.A y.n y.c, .pointer (some ⟨g, 0, none⟩), .agg #[.int .i64 T.k, .int .i64 T.lo, .int .i64 T.hi, .int .i64 T.mx, .slice A2 n2 c2], vlV z.V z.A z.n z.c, undef, undef, undef, undef, undef, undef, undef, undef, undef, undef, undef, undef, undef, undef, undef, undef, undef, undef, undef, undef, undef, undef, undef, undef, undef, undef, undef, undef, undef, undef, undef, undef, undef, undef, undef, undef, undef, undef, undef, undef, undef, undef, undef, undef, undef, undef, undef, undef, undef, undef, undef, undef, undef, undef, undef, undef, undef, undef, undef, undef, undef, undef, undef, undef, undef, undef, undef, undef, undef, undef, undef, undef, undef, undef, undef, undef, undef, undef, undef, undef, undef, undef, undef, undef, undef, undef, undef, undef, undef, undef, undef, undef, undef, undef, undef, undef, undef, undef, undef, undef, undef, undef, undef, undef, undef, undef, undef, undef, undef, undef, undef, undef, undef, undef, undef, undef], defers := [] } W)) {fuel : Nat} {listed : Array Bool} {a : Act} {w : World} {p : Nat} {x : VlAt} (I : ST3 g u w (some p) none none [x])
    (hf : fuel = 7) (hl : listed = #[true, true, true, true, true, false, true, true, false, true, false, false, false, false, false]) (ha : a = { tmps := #[.slice A n c, undef, .bool false, .pointer (some ⟨g, 0, none⟩), .pointer (some ⟨bt, 0, none⟩), .pointer (some ⟨p, 0, none⟩), undef, undef, undef, undef, undef, undef, undef, undef, undef, undef, undef, undef, undef, undef, .slice A n c, .pointer (some ⟨g, 0, none⟩), .pointer (some ⟨g, 0, none⟩), .agg #[.int .i64 T.k, .int .i64 T.lo, .int .i64 T.hi, .int .i64 T.mx, .slice A2 n2 c2], .pointer (some ⟨g, 0, none⟩), .agg #[.int .i64 T.k, .int .i64 T.lo, .int .i64 T.hi, .int .i64 T.mx, .slice A2 n2 c2], vlV x.V x.A x.n x.c, .pointer (some ⟨g, 0, none⟩), .agg #[.int .i64 T.k, .int .i64 T.lo, .int .i64 T.hi, .int .i64 T.mx, .slice A2 n2 c2], undef, .pointer (some ⟨g, 0, none⟩), .agg #[.int .i64 T.k, .int .i64 T.lo, .int .i64 T.hi, .int .i64 T.mx, .slice A2 n2 c2], undef, undef, undef, undef, undef, undef, undef, undef, undef, undef, undef, undef, undef, undef, undef, undef, undef, undef, undef, undef, undef, undef, undef, undef, undef, undef, undef, undef, undef, undef, undef, undef, undef, undef, undef, undef, undef, undef, undef, undef, undef, undef, undef, undef, undef, undef, undef, undef, undef, undef, undef, undef, undef, undef, undef, undef, undef, undef, undef, undef, undef, undef, undef, undef, undef, undef, undef, undef, undef, undef, undef, undef, undef, undef, undef, undef, undef, undef, undef, undef, undef, undef, undef, undef, undef, undef, undef, undef, undef, undef, undef, undef, undef, undef, undef, undef, undef, undef, undef, undef, undef, undef, undef, undef, undef, undef, undef, undef, undef, undef, undef, undef, undef, undef, undef, undef, undef], defers := [] }) : wpAnyH Tryd.prog .any ops3 Q S fuel listed a w := by
  subst hf hl ha
  refine wpAnyH_ready (rs := [5, 10, 11]) (by kernel_rfl) (by simp) ?_
  refine AllReadyH.cons (o := ⟨some 29, _, _, _, _, _⟩) rfl (fun K hK => ?_) (AllReadyH.cons (o := ⟨some 6, _, _, _, _, _⟩) rfl (fun K hK => ?_) (AllReadyH.cons (o := ⟨some 7, _, _, _, _, _⟩) rfl (fun K hK => ?_) AllReadyH.nil))
  · go_simp
    go_at_call 6
    (with_reducible refine (HC.out w I.but I.src).mono ?_)
    rintro e1 w1 ⟨V1, A1, n1, c1, rfl, hrd1, _, hs1, hb1⟩
    have I1 := I.call hg (x := ⟨V1, A1, n1, c1⟩) hrd1 hs1 hb1
    go_wp2_with fail
    refine hK.out _ _ (HS.out _ I1.but) (fun hHeld => ?_)
    clear hK K
    try simp only [Act.put, List.setIfInBounds_toArray, List.set_cons_zero, List.set_cons_succ]
    exact st2_5 hg HS HC HQ I1 (by kernel_rfl) (by kernel_rfl) rfl
  · go_simp
    have I1 := I.alloc6
    refine hK.out _ _ (HS.out _ I1.but) (fun hHeld => ?_)
    clear hK K
    try simp only [Act.put, List.setIfInBounds_toArray, List.set_cons_zero, List.set_cons_succ]
    exact st1_56 hg HS HC HQ I1 (by kernel_rfl) (by kernel_rfl) rfl
  · go_simp
    have I1 := I.alloc7
    refine hK.out _ _ (HS.out _ I1.but) (fun hHeld => ?_)
    clear hK K
    try simp only [Act.put, List.setIfInBounds_toArray, List.set_cons_zero, List.set_cons_succ]
    exact st1_57 hg HS HC HQ I1 (by kernel_rfl) (by kernel_rfl) rfl

set_option maxHeartbeats 4000000 in
theorem st1_6 {g bt n c n2 c2 : Nat} {A A2 : Option Addr} {T : Ty} {u : World} {Q : Exit → Act → World → Prop} {S : World → Prop} (hg : g < u.heap.size)
    (HS : Hid (∀ W, But g u W → S W)) (HC : Hid (∀ W, But g u W → Src W g → Calls Tryd.prog 6 #[.pointer (some ⟨g, 0, none⟩), .agg #[.int .i64 T.k, .int .i64 T.lo, .int .i64 T.hi, .int .i64 T.mx, .slice A2 n2 c2]] W (GivesSome 2 g W)))
    (HQ : Hid (∀ (W : World) (p q r : Nat) (x y z : VlAt), FIN3 g u W p q r x y z → Q .normal { tmps := #[.slice A n c, undef, .bool false, .pointer (some ⟨g, 0, none⟩), .pointer (some ⟨bt, 0, none⟩), .pointer (some ⟨p, 0, none⟩), .pointer (some ⟨q, 0, none⟩), .pointer (some ⟨r, 0, none⟩), undef, undef, undef, undef, undef, undef, undef, undef, undef, undef, undef, undef, .slice A n c, .pointer (some ⟨g, 0, none⟩), .pointer (some ⟨g, 0, none⟩), .agg #[.int .i64 T.k, .int .i64 T.lo, .int .i64 T.hi, .int .i64 T.mx, .slice A2 n2 c2], .pointer (some ⟨g, 0, none⟩), .agg #[.int .i64 T.k, .int .i64 T.lo, .int .i64 T.hi, .int .i64 T.mx, .slice A2 n2 c2], vlV x.V x.A x.n x.c, .pointer (some ⟨g, 0, none⟩), .agg #[.int .i64 T.k, .int .i64 T.lo, .int .i64 T.hi, .int .i64 T.mx, .slice A2 n2 c2], vlV y.V y.A y.n y.c, .pointer (some ⟨g, 0, none⟩), .agg #[.int .i64 T.k, .int .i64 T.lo, .int .i64 T.hi, .int .i64 T.mx, .slice A2 n2 c2], vlV z.V z.A z.n z.c, undef, undef, undef, undef, undef, undef, undef, undef, undef, undef, undef, undef, undef, undef, undef, undef, undef, undef, undef, undef, undef, undef, undef, undef, undef, undef, undef, undef, undef, undef, undef, undef, undef, undef, undef, undef, undef, undef, undef, undef, undef, undef, undef, undef, undef, undef, undef, undef, undef, undef, undef, undef, undef, undef, undef, undef, undef, undef, undef, undef, undef, undef, undef, undef, undef, undef, undef, undef, undef, undef, undef, undef, undef, undef, undef, undef, undef, undef, undef, undef, undef, undef, undef, undef, undef, undef, undef, undef, undef, undef, undef, undef, undef, undef, undef, undef, undef, undef, undef, undef, undef, undef, undef, undef, undef, undef, undef, undef, undef, undef, undef, undef, undef, undef, undef, undef], defers := [] } W)) {fuel : Nat} {listed : Array Bool} {a : Act} {w : World} {q : Nat} {x : VlAt} (I : ST3 g u w none (some q) none [x])
    (hf : fuel = 7) (hl : listed = #[true, true, true, true, true, false, true, true, false, false, true, false, false, false, false]) (ha : a = { tmps := #[.slice A n c, undef, .bool false, .pointer (some ⟨g, 0, none⟩), .pointer (some ⟨bt, 0, none⟩), undef, .pointer (some ⟨q, 0, none⟩), undef, undef, undef, undef, undef, undef, undef, undef, undef, undef, undef, undef, undef, .slice A n c, .pointer (some ⟨g, 0, none⟩), .pointer (some ⟨g, 0, none⟩), .agg #[.int .i64 T.k, .int .i64 T.lo, .int .i64 T.hi, .int .i64 T.mx, .slice A2 n2 c2], .pointer (some ⟨g, 0, none⟩), .agg #[.int .i64 T.k, .int .i64 T.lo, .int .i64 T.hi, .int .i64 T.mx, .slice A2 n2 c2], vlV x.V x.A x.n x.c, .pointer (some ⟨g, 0, none⟩), .agg #[.int .i64 T.k, .int .i64 T.lo, .int .i64 T.hi, .int .i64 T.mx, .slice A2 n2 c2], undef, .pointer (some ⟨g, 0, none⟩), .agg #[.int .i64 T.k, .int .i64 T.lo, .int .i64 T.hi, .int .i64 T.mx, .slice A2 n2 c2], undef, undef, undef, undef, undef, undef, undef, undef, undef, undef, undef, undef, undef, undef, undef, undef, undef, undef, undef, undef, undef, undef, undef, undef, undef, undef, undef, undef, undef, undef, undef, undef, undef, undef, undef, undef, undef, undef, undef, undef, undef, undef, undef, undef, undef, undef, undef, undef, undef, undef, undef, undef, undef, undef, undef, undef, undef, undef, undef, undef, undef, undef, undef, undef, undef, undef, undef, undef, undef, undef, undef, undef, undef, undef, undef, undef, undef, undef, undef, undef, undef, undef, undef, undef, undef, undef, undef, undef, undef, undef, undef, undef, undef, undef, undef, undef, undef, undef, undef, undef, undef, undef, undef, undef, undef, undef, undef, undef, undef, undef, undef, undef, undef, undef, undef, undef, undef], defers := [] }) : wpAnyH Tryd.prog .any ops3 Q S fuel listed a w := by
  subst hf hl ha
  refine wpAnyH_ready (rs := [5, 9, 11]) (by kernel_rfl) (by simp) ?_
  refine AllReadyH.cons (o := ⟨some 29, _, _, _, _, _⟩) rfl (fun K hK => ?_) (AllReadyH.cons (o := ⟨some 5, _, _, _, _, _⟩) rfl (fun K hK => ?_) (AllReadyH.cons (o := ⟨some 7, _, _, _, _, _⟩) rfl (fun K hK => ?_) AllReadyH.nil))
  · go_simp
    go_at_call 6
    (with_reducible refine (HC.out w I.but I.src).mono ?_)
    rintro e1 w1 ⟨V1, A1, n1, c1, rfl, hrd1, _, hs1, hb1⟩
    have I1 := I.call hg (x := ⟨V1, A1, n1, c1⟩) hrd1 hs1 hb1
    go_wp2_with fail
    refine hK.out _ _ (HS.out _ I1.but) (fun hHeld => ?_)
    clear hK K
    try simp only [Act.put, List.setIfInBounds_toArray, List.set_cons_zero, List.set_cons_succ]
    exact st2_6 hg HS HC HQ I1 (by kernel_rfl) (by kernel_rfl) rfl
  · go_simp
    have I1 := I.alloc5
    refine hK.out _ _ (HS.out _ I1.but) (fun hHeld => ?_)
    clear hK K
    try simp only [Act.put, List.setIfInBounds_toArray, List.set_cons_zero, List.set_cons_succ]
    exact st1_56 hg HS HC HQ I1 (by kernel_rfl) (by kernel_rfl) rfl
  · go_simp
    have I1 := I.alloc7
    refine hK.out _ _ (HS.out _ I1.but) (fun hHeld => ?_)
    clear hK K
    try simp only [Act.put, List.setIfInBounds_toArray, List.set_cons_zero, List.set_cons_succ]
    exact st1_67 hg HS HC HQ I1 (by kernel_rfl) (by kernel_rfl) rfl

set_option maxHeartbeats 4000000 in
theorem st1_7 {g bt n c n2 c2 : Nat} {A A2 : Option Addr} {T : Ty} {u : World} {Q : Exit → Act → World → Prop} {S : World → Prop} (hg : g < u.heap.size)
    (HS : Hid (∀ W, But g u W → S W)) (HC : Hid (∀ W, But g u W → Src W g → Calls Tryd.prog 6 #[.pointer (some ⟨g, 0, none⟩), .agg #[.int .i64 T.k, .int .i64 T.lo, .int .i64 T.hi, .int .i64 T.mx, .slice A2 n2 c2]] W (GivesSome 2 g W)))
    (HQ : Hid (∀ (W : World) (p q r : Nat) (x y z : VlAt), FIN3 g u W p q r x y z → Q .normal { tmps := #[.slice A n c, undef, .bool false, .pointer (some ⟨g, 0, none⟩), .pointer (some ⟨bt, 0, none⟩), .pointer (some ⟨p, 0, none⟩), .pointer (some ⟨q, 0, none⟩), .pointer (some ⟨r, 0, none⟩), undef, undef, undef, undef, undef, undef, undef, undef, undef, undef, undef, undef, .slice A n c, .pointer (some ⟨g, 0, none⟩), .pointer (some ⟨g, 0, none⟩), .agg #[.int .i64 T.k, .int .i64 T.lo, .int .i64 T.hi, .int .i64 T.mx, .slice A2 n2 c2], .pointer (some ⟨g, 0, none⟩), .agg #[.int .i64 T.k, .int .i64 T.lo, .int .i64 T.hi, .int .i64 T.mx, .slice A2 n2 c2], vlV x.V x.A x.n x.c, .pointer (some ⟨g, 0, none⟩), .agg #[.int .i64 T.k, .int .i64 T.lo, .int .i64 T.hi, .int .i64 T.mx, .slice A2 n2 c2], vlV y.V y.A y.n y.c, .pointer (some ⟨g, 0, none⟩), .agg #[.int .i64 T.k, .int .i64 T.lo, .int .i64 T.hi, .int .i64 T.mx, .slice A2 n2 c2], vlV z.V z.A z.n z.c, undef, undef, undef, undef, undef, undef, undef, undef, undef, undef, undef, undef, undef, undef, undef, undef, undef, undef, undef, undef, undef, undef, undef, undef, undef, undef, undef, undef, undef, undef, undef, undef, undef, undef, undef, undef, undef, undef, undef, undef, undef, undef, undef, undef, undef, undef, undef, undef, undef, undef, undef, undef, undef, undef, undef, undef, undef, undef, undef, undef, undef, undef, undef, undef, undef, undef, undef, undef, undef, undef, undef, undef, undef, undef, undef, undef, undef, undef, undef, undef, undef, undef, undef, undef, undef, undef, undef, undef, undef, undef, undef, undef, undef, undef, undef, undef, undef, undef, undef, undef, undef, undef, undef, undef, undef, undef, undef, undef, undef, undef, undef, undef, undef, undef, undef, undef], defers := [] } W)) {fuel : Nat} {listed : Array Bool} {a : Act} {w : World} {r : Nat} {x : VlAt} (I : ST3 g u w none none (some r) [x])
    (hf : fuel = 7) (hl : listed = #[true, true, true, true, true, false, true, true, false, false, false, true, false, false, false]) (ha : a = { tmps := #[.slice A n c, undef, .bool false, .pointer (some ⟨g, 0, none⟩), .pointer (some ⟨bt, 0, none⟩), undef, undef, .pointer (some ⟨r, 0, none⟩), undef, undef, undef, undef, undef, undef, undef, undef, undef, undef, undef, undef, .slice A n c, .pointer (some ⟨g, 0, none⟩), .pointer (some ⟨g, 0, none⟩), .agg #[.int .i64 T.k, .int .i64 T.lo, .int .i64 T.hi, .int .i64 T.mx, .slice A2 n2 c2], .pointer (some ⟨g, 0, none⟩), .agg #[.int .i64 T.k, .int .i64 T.lo, .int .i64 T.hi, .int .i64 T.mx, .slice A2 n2 c2], vlV x.V x.A x.n x.c, .pointer (some ⟨g, 0, none⟩), .agg #[.int .i64 T.k, .int .i64 T.lo, .int .i64 T.hi, .int .i64 T.mx, .slice A2 n2 c2], undef, .pointer (some ⟨g, 0, none⟩), .agg #[.int .i64 T.k, .int .i64 T.lo, .int .i64 T.hi, .int .i64 T.mx, .slice A2 n2 c2], undef, undef, undef, undef, undef, undef, undef, undef, undef, undef, undef, undef, undef, undef, undef, undef, undef, undef, undef, undef, undef, undef, undef, undef, undef, undef, undef, undef, undef, undef, undef, undef, undef, undef, undef, undef, undef, undef, undef, undef, undef, undef, undef, undef, undef, undef, undef, undef, undef, undef, undef, undef, undef, undef, undef, undef, undef, undef, undef, undef, undef, undef, undef, undef, undef, undef, undef, undef, undef, undef, undef, undef, undef, undef, undef, undef, undef, undef, undef, undef, undef, undef, undef, undef, undef, undef, undef, undef, undef, undef, undef, undef, undef, undef, undef, undef, undef, undef, undef, undef, undef, undef, undef, undef, undef, undef, undef, undef, undef, undef, undef, undef, undef, undef, undef, undef, undef], defers := [] }) : wpAnyH Tryd.prog .any ops3 Q S fuel listed a w := by
  subst hf hl ha
  refine wpAnyH_ready (rs := [5, 9, 10]) (by kernel_rfl) (by simp) ?_
  refine AllReadyH.cons (o := ⟨some 29, _, _, _, _, _⟩) rfl (fun K hK => ?_) (AllReadyH.cons (o := ⟨some 5, _, _, _, _, _⟩) rfl (fun K hK => ?_) (AllReadyH.cons (o := ⟨some 6, _, _, _, _, _⟩) rfl (fun K hK => ?_) AllReadyH.nil))
  · go_simp
    go_at_call 6
    (with_reducible refine (HC.out w I.but I.src).mono ?_)
    rintro e1 w1 ⟨V1, A1, n1, c1, rfl, hrd1, _, hs1, hb1⟩
    have I1 := I.call hg (x := ⟨V1, A1, n1, c1⟩) hrd1 hs1 hb1
    go_wp2_with fail
    refine hK.out _ _ (HS.out _ I1.but) (fun hHeld => ?_)
    clear hK K
    try simp only [Act.put, List.setIfInBounds_toArray, List.set_cons_zero, List.set_cons_succ]
    exact st2_7 hg HS HC HQ I1 (by kernel_rfl) (by kernel_rfl) rfl
  · go_simp
    have I1 := I.alloc5
    refine hK.out _ _ (HS.out _ I1.but) (fun hHeld => ?_)
    clear hK K
    try simp only [Act.put, List.setIfInBounds_toArray, List.set_cons_zero, List.set_cons_succ]
    exact st1_57 hg HS HC HQ I1 (by kernel_rfl) (by kernel_rfl) rfl
  · go_simp
    have I1 := I.alloc6
    refine hK.out _ _ (HS.out _ I1.but) (fun hHeld => ?_)
    clear hK K
    try simp only [Act.put, List.setIfInBounds_toArray, List.set_cons_zero, List.set_cons_succ]
    exact st1_67 hg HS HC HQ I1 (by kernel_rfl) (by kernel_rfl) rfl

set_option maxHeartbeats 4000000 in
theorem st0_56 {g bt n c n2 c2 : Nat} {A A2 : Option Addr} {T : Ty} {u : World} {Q : Exit → Act → World → Prop} {S : World → Prop} (hg : g < u.heap.size)
    (HS : Hid (∀ W, But g u W → S W)) (HC : Hid (∀ W, But g u W → Src W g → Calls Tryd.prog 6 #[.pointer (some ⟨g, 0, none⟩), .agg #[.int .i64 T.k, .int .i64 T.lo, .int .i64 T.hi, .int .i64 T.mx, .slice A2 n2 c2]] W (GivesSome 2 g W)))
    (HQ : Hid (∀ (W : World) (p q r : Nat) (x y z : VlAt), FIN3 g u W p q r x y z → Q .normal { tmps := #[.slice A n c, undef, .bool false, .pointer (some ⟨g, 0, none⟩), .pointer (some ⟨bt, 0, none⟩), .pointer (some ⟨p, 0, none⟩), .pointer (some ⟨q, 0, none⟩), .pointer (some ⟨r, 0, none⟩), undef, undef, undef, undef, undef, undef, undef, undef, undef, undef, undef, undef, .slice A n c, .pointer (some ⟨g, 0, none⟩), .pointer (some ⟨g, 0, none⟩), .agg #[.int .i64 T.k, .int .i64 T.lo, .int .i64 T.hi, .int .i64 T.mx, .slice A2 n2 c2], .pointer (some ⟨g, 0, none⟩), .agg #[.int .i64 T.k, .int .i64 T.lo, .int .i64 T.hi, .int .i64 T.mx, .slice A2 n2 c2], vlV x.V x.A x.n x.c, .pointer (some ⟨g, 0, none⟩), .agg #[.int .i64 T.k, .int .i64 T.lo, .int .i64 T.hi, .int .i64 T.mx, .slice A2 n2 c2], vlV y.V y.A y.n y.c, .pointer (some ⟨g, 0, none⟩), .agg #[.int .i64 T.k, .int .i64 T.lo, .int .i64 T.hi, .int .i64 T.mx, .slice A2 n2 c2], vlV z.V z.A z.n z.c, undef, undef, undef, undef, undef, undef, undef, undef, undef, undef, undef, undef, undef, undef, undef, undef, undef, undef, undef, undef, undef, undef, undef, undef, undef, undef, undef, undef, undef, undef, undef, undef, undef, undef, undef, undef, undef, undef, undef, undef, undef, undef, undef, undef, undef, undef, undef, undef, undef, undef, undef, undef, undef, undef, undef, undef, undef, undef, undef, undef, undef, undef, undef, undef, undef, undef, undef, undef, undef, undef, undef, undef, undef, undef, undef, undef, undef, undef, undef, undef, undef, undef, undef, undef, undef, undef, undef, undef, undef, undef, undef, undef, undef, undef, undef, undef, undef, undef, undef, undef, undef, undef, undef, undef, undef, undef, undef, undef, undef, undef, undef, undef, undef, undef, undef, undef], defers := [] } W)) {fuel : Nat} {listed : Array Bool} {a : Act} {w : World} {p q : Nat} (I : ST3 g u w (some p) (some q) none [])
    (hf : fuel = 7) (hl : listed = #[true, true, false, true, true, false, true, true, false, true, true, false, false, false, false]) (ha : a = { tmps := #[.slice A n c, undef, .bool false, .pointer (some ⟨g, 0, none⟩), .pointer (some ⟨bt, 0, none⟩), .pointer (some ⟨p, 0, none⟩), .pointer (some ⟨q, 0, none⟩), undef, undef, undef, undef, undef, undef, undef, undef, undef, undef, undef, undef, undef, .slice A n c, .pointer (some ⟨g, 0, none⟩), .pointer (some ⟨g, 0, none⟩), .agg #[.int .i64 T.k, .int .i64 T.lo, .int .i64 T.hi, .int .i64 T.mx, .slice A2 n2 c2], .pointer (some ⟨g, 0, none⟩), .agg #[.int .i64 T.k, .int .i64 T.lo, .int .i64 T.hi, .int .i64 T.mx, .slice A2 n2 c2], undef, .pointer (some ⟨g, 0, none⟩), .agg #[.int .i64 T.k, .int .i64 T.lo, .int .i64 T.hi, .int .i64 T.mx, .slice A2 n2 c2], undef, .pointer (some ⟨g, 0, none⟩), .agg #[.int .i64 T.k, .int .i64 T.lo, .int .i64 T.hi, .int .i64 T.mx, .slice A2 n2 c2], undef, undef, undef, undef, undef, undef, undef, undef, undef, undef, undef, undef, undef, undef, undef, undef, undef, undef, undef, undef, undef, undef, undef, undef, undef, undef, undef, undef, undef, undef, undef, undef, undef, undef, undef, undef, undef, undef, undef, undef, undef, undef, undef, undef, undef, undef, undef, undef, undef, undef, undef, undef, undef, undef, undef, undef, undef, undef, undef, undef, undef, undef, undef, undef, undef, undef, undef, undef, undef, undef, undef, undef, undef, undef, undef, undef, undef, undef, undef, undef, undef, undef, undef, undef, undef, undef, undef, undef, undef, undef, undef, undef, undef, undef, undef, undef, undef, undef, undef, undef, undef, undef, undef, undef, undef, undef, undef, undef, undef, undef, undef, undef, undef, undef, undef, undef, undef], defers := [] }) : wpAnyH Tryd.prog .any ops3 Q S fuel listed a w := by
  subst hf hl ha
  refine wpAnyH_ready (rs := [2, 11]) (by kernel_rfl) (by simp) ?_
  refine AllReadyH.cons (o := ⟨some 26, _, _, _, _, _⟩) rfl (fun K hK => ?_) (AllReadyH.cons (o := ⟨some 7, _, _, _, _, _⟩) rfl (fun K hK => ?_) AllReadyH.nil)
  · go_simp
    go_at_call 6
    (with_reducible refine (HC.out w I.but I.src).mono ?_)
    rintro e1 w1 ⟨V1, A1, n1, c1, rfl, hrd1, _, hs1, hb1⟩
    have I1 := I.call hg (x := ⟨V1, A1, n1, c1⟩) hrd1 hs1 hb1
    go_wp2_with fail
    refine hK.out _ _ (HS.out _ I1.but) (fun hHeld => ?_)
    clear hK K
    try simp only [Act.put, List.setIfInBounds_toArray, List.set_cons_zero, List.set_cons_succ]
    exact st1_56 hg HS HC HQ I1 (by kernel_rfl) (by kernel_rfl) rfl
  · go_simp
    have I1 := I.alloc7
    refine hK.out _ _ (HS.out _ I1.but) (fun hHeld => ?_)
    clear hK K
    try simp only [Act.put, List.setIfInBounds_toArray, List.set_cons_zero, List.set_cons_succ]
    exact st0_567 hg HS HC HQ I1 (by kernel_rfl) (by kernel_rfl) rfl

set_option maxHeartbeats 4000000 in
theorem st0_57 {g bt n c n2 c2 : Nat} {A A2 : Option Addr} {T : Ty} {u : World} {Q : Exit → Act → World → Prop} {S : World → Prop} (hg : g < u.heap.size)
    (HS : Hid (∀ W, But g u W → S W)) (HC : Hid (∀ W, But g u W → Src W g → Calls Tryd.prog 6 #[.pointer (some ⟨g, 0, none⟩), .agg #[.int .i64 T.k, .int .i64 T.lo, .int .i64 T.hi, .int .i64 T.mx, .slice A2 n2 c2]] W (GivesSome 2 g W)))
    (HQ : Hid (∀ (W : World) (p q r : Nat) (x y z : VlAt), FIN3 g u W p q r x y z → Q .normal { tmps := #[.slice A n c, undef, .bool false, .pointer (some ⟨g, 0, none⟩), .pointer (some ⟨bt, 0, none⟩), .pointer (some ⟨p, 0, none⟩), .pointer (some ⟨q, 0, none⟩), .pointer (some ⟨r, 0, none⟩), undef, undef, undef, undef, undef, undef, undef, undef, undef, undef, undef, undef, .slice A n c, .pointer (some ⟨g, 0, none⟩), .pointer (some ⟨g, 0, none⟩), .agg #[.int .i64 T.k, .int .i64 T.lo, .int .i64 T.hi, .int .i64 T.mx, .slice A2 n2 c2], .pointer (some ⟨g, 0, none⟩), .agg #[.int .i64 T.k, .int .i64 T.lo, .int .i64 T.hi, .int .i64 T.mx, .slice A2 n2 c2], vlV x.V x.A x.n x.c, .pointer (some ⟨g, 0, none⟩), .agg #[.int .i64 T.k, .int .i64 T.lo, .int .i64 T.hi, .int .i64 T.mx, .slice A2 n2 c2], vlV y.V y.A y.n y.c, .pointer (some ⟨g, 0, none⟩), .agg #[.int .i64 T.k, .int .i64 T.lo, .int .i64 T.hi, .int .i64 T.mx, .slice A2 n2 c2], vlV z.V z.A z.n z.c, undef, undef, undef, undef, undef, undef, undef, undef, undef, undef, undef, undef, undef, undef, undef, undef, undef, undef, undef, undef, undef, undef, undef, undef, undef, undef, undef, undef, undef, undef, undef, undef, undef, undef, undef, undef, undef, undef, undef, undef, undef, undef, undef, undef, undef, undef, undef, undef, undef, undef, undef, undef, undef, undef, undef, undef, undef, undef, undef, undef, undef, undef, undef, undef, undef, undef, undef, undef, undef, undef, undef, undef, undef, undef, undef, undef, undef, undef, undef, undef, undef, undef, undef, undef, undef, undef, undef, undef, undef, undef, undef, undef, undef, undef, undef, undef, undef, undef, undef, undef, undef, undef, undef, undef, undef, undef, undef, undef, undef, undef, undef, undef, undef, undef, undef, undef], defers := [] } W)) {fuel : Nat} {listed : Array Bool} {a : Act} {w : World} {p r : Nat} (I : ST3 g u w (some p) none (some r) [])
    (hf : fuel = 7) (hl : listed = #[true, true, false, true, true, false, true, true, false, true, false, true, false, false, false]) (ha : a = { tmps := #[.slice A n c, undef, .bool false, .pointer (some ⟨g, 0, none⟩), .pointer (some ⟨bt, 0, none⟩), .pointer (some ⟨p, 0, none⟩), undef, .pointer (some ⟨r, 0, none⟩), undef, undef, undef, undef, undef, undef, undef, undef, undef, undef, undef, undef, .slice A n c, .pointer (some ⟨g, 0, none⟩), .pointer (some ⟨g, 0, none⟩), .agg #[.int .i64 T.k, .int .i64 T.lo, .int .i64 T.hi, .int .i64 T.mx, .slice A2 n2 c2], .pointer (some ⟨g, 0, none⟩), .agg #[.int .i64 T.k, .int .i64 T.lo, .int .i64 T.hi, .int .i64 T.mx, .slice A2 n2 c2], undef, .pointer (some ⟨g, 0, none⟩), .agg #[.int .i64 T.k, .int .i64 T.lo, .int .i64 T.hi, .int .i64 T.mx, .slice A2 n2 c2], undef, .pointer (some ⟨g, 0, none⟩), .agg #[.int .i64 T.k, .int .i64 T.lo, .int .i64 T.hi, .int .i64 T.mx, .slice A2 n2 c2], undef, undef, undef, undef, undef, undef, undef, undef, undef, undef, undef, undef, undef, undef, undef, undef, undef, undef, undef, undef, undef, undef, undef, undef, undef, undef, undef, undef, undef, undef, undef, undef, undef, undef, undef, undef, undef, undef, undef, undef, undef, undef, undef, undef, undef, undef, undef, undef, undef, undef, undef, undef, undef, undef, undef, undef, undef, undef, undef, undef, undef, undef, undef, undef, undef, undef, undef, undef, undef, undef, undef, undef, undef, undef, undef, undef, undef, undef, undef, undef, undef, undef, undef, undef, undef, undef, undef, undef, undef, undef, undef, undef, undef, undef, undef, undef, undef, undef, undef, undef, undef, undef, undef, undef, undef, undef, undef, undef, undef, undef, undef, undef, undef, undef, undef, undef, undef], defers := [] }) : wpAnyH Tryd.prog .any ops3 Q S fuel listed a w := by
  subst hf hl ha
  refine wpAnyH_ready (rs := [2, 10]) (by kernel_rfl) (by simp) ?_
  refine AllReadyH.cons (o := ⟨some 26, _, _, _, _, _⟩) rfl (fun K hK => ?_) (AllReadyH.cons (o := ⟨some 6, _, _, _, _, _⟩) rfl (fun K hK => ?_) AllReadyH.nil)
  · go_simp
    go_at_call 6
    (with_reducible refine (HC.out w I.but I.src).mono ?_)
    rintro e1 w1 ⟨V1, A1, n1, c1, rfl, hrd1, _, hs1, hb1⟩
    have I1 := I.call hg (x := ⟨V1, A1, n1, c1⟩) hrd1 hs1 hb1
    go_wp2_with fail
    refine hK.out _ _ (HS.out _ I1.but) (fun hHeld => ?_)
    clear hK K
    try simp only [Act.put, List.setIfInBounds_toArray, List.set_cons_zero, List.set_cons_succ]
    exact st1_57 hg HS HC HQ I1 (by kernel_rfl) (by kernel_rfl) rfl
  · go_simp
    have I1 := I.alloc6
    refine hK.out _ _ (HS.out _ I1.but) (fun hHeld => ?_)
    clear hK K
    try simp only [Act.put, List.setIfInBounds_toArray, List.set_cons_zero, List.set_cons_succ]
    exact st0_567 hg HS HC HQ I1 (by kernel_rfl) (by kernel_rfl) rfl

set_option maxHeartbeats 4000000 in
theorem st0_67 {g bt n c n2 c2 : Nat} {A A2 : Option Addr} {T : Ty} {u : World} {Q : Exit → Act → World → Prop} {S : World → Prop} (hg : g < u.heap.size)
    (HS : Hid (∀ W, But g u W → S W)) (HC : Hid (∀ W, But g u W → Src W g → Calls Tryd.prog 6 #[.pointer (some ⟨g, 0, none⟩), .agg #[.int .i64 T.k, .int .i64 T.lo, .int .i64 T.hi, .int .i64 T.mx, .slice A2 n2 c2]] W (GivesSome 2 g W)))
    (HQ : Hid (∀ (W : World) (p q r : Nat) (x y z : VlAt), FIN3 g u W p q r x y z → Q .normal { tmps := #[.slice A n c, undef, .bool false, .pointer (some ⟨g, 0, none⟩), .pointer (some ⟨bt, 0, none⟩), .pointer (some ⟨p, 0, none⟩), .pointer (some ⟨q, 0, none⟩), .pointer (some ⟨r, 0, none⟩), undef, undef, undef, undef, undef, undef, undef, undef, undef, undef, undef, undef, .slice A n c, .pointer (some ⟨g, 0, none⟩), .pointer (some ⟨g, 0, none⟩), .agg #[.int .i64 T.k, .int .i64 T.lo, .int .i64 T.hi, .int .i64 T.mx, .slice A2 n2 c2], .pointer (some ⟨g, 0, none⟩), .agg #[.int .i64 T.k, .int .i64 T.lo, .int .i64 T.hi, .int .i64 T.mx, .slice A2 n2 c2], vlV x.V x.A x.n x.c, .pointer (some ⟨g, 0, none⟩), .agg #[.int .i64 T.k, .int .i64 T.lo, .int .i64 T.hi, .int .i64 T.mx, .slice A2 n2 c2], vlV y.V y.A y.n y.c, .pointer (some ⟨g, 0, none⟩), .agg #[.int .i64 T.k, .int .i64 T.lo, .int .i64 T.hi, .int .i64 T.mx, .slice A2 n2 c2], vlV z.V z.A z.n z.c, undef, undef, undef, undef, undef, undef, undef, undef, undef, undef, undef, undef, undef, undef, undef, undef, undef, undef, undef, undef, undef, undef, undef, undef, undef, undef, undef, undef, undef, undef, undef, undef, undef, undef, undef, undef, undef, undef, undef, undef, undef, undef, undef, undef, undef, undef, undef, undef, undef, undef, undef, undef, undef, undef, undef, undef, undef, undef, undef, undef, undef, undef, undef, undef, undef, undef, undef, undef, undef, undef, undef, undef, undef, undef, undef, undef, undef, undef, undef, undef, undef, undef, undef, undef, undef, undef, undef, undef, undef, undef, undef, undef, undef, undef, undef, undef, undef, undef, undef, undef, undef, undef, undef, undef, undef, undef, undef, undef, undef, undef, undef, undef, undef, undef, undef, undef], defers := [] } W)) {fuel : Nat} {listed : Array Bool} {a : Act} {w : World} {q r : Nat} (I : ST3 g u w none (some q) (some r) [])
    (hf : fuel = 7) (hl : listed = #[true, true, false, true, true, false, true, true, false, false, true, true, false, false, false]) (ha : a = { tmps := #[.slice A n c, undef, .bool false, .pointer (some ⟨g, 0, none⟩), .pointer (some ⟨bt, 0, none⟩), undef, .pointer (some ⟨q, 0, none⟩), .pointer (some ⟨r, 0, none⟩), undef, undef, undef, undef, undef, undef, undef, undef, undef, undef, undef, undef, .slice A n c, .pointer (some ⟨g, 0, none⟩), .pointer (some ⟨g, 0, none⟩), .agg #[.int .i64 T.k, .int .i64 T.lo, .int .i64 T.hi, .int .i64 T.mx, .slice A2 n2 c2], .pointer (some ⟨g, 0, none⟩), .agg #[.int .i64 T.k, .int .i64 T.lo, .int .i64 T.hi, .int .i64 T.mx, .slice A2 n2 c2], undef, .pointer (some ⟨g, 0, none⟩), .agg #[.int .i64 T.k, .int .i64 T.lo, .int .i64 T.hi, .int .i64 T.mx, .slice A2 n2 c2], undef, .pointer (some ⟨g, 0, none⟩), .agg #[.int .i64 T.k, .int .i64 T.lo, .int .i64 T.hi, .int .i64 T.mx, .slice A2 n2 c2], undef, undef, undef, undef, undef, undef, undef, undef, undef, undef, undef, undef, undef, undef, undef, undef, undef, undef, undef, undef, undef, undef, undef, undef, undef, undef, undef, undef, undef, undef, undef, undef, undef, undef, undef, undef, undef, undef, undef, undef, undef, undef, undef, undef, undef, undef, undef, undef, undef, undef, undef, undef, undef, undef, undef, undef, undef, undef, undef, undef, undef, undef, undef, undef, undef, undef, undef, undef, undef, undef, undef, undef, undef, undef, undef, undef, undef, undef, undef, undef, undef, undef, undef, undef, undef, undef, undef, undef, undef, undef, undef, undef, undef, undef, undef, undef, undef, undef, undef, undef, undef, undef, undef, undef, undef, undef, undef, undef, undef, undef, undef, undef, undef, undef, undef, undef, undef], defers := [] }) : wpAnyH Tryd.prog .any ops3 Q S fuel listed a w := by
  subst hf hl ha
  refine wpAnyH_ready (rs := [2, 9]) (by kernel_rfl) (by simp) ?_
  refine AllReadyH.cons (o := ⟨some 26, _, _, _, _, _⟩) rfl (fun K hK => ?_) (AllReadyH.cons (o := ⟨some 5, _, _, _, _, _⟩) rfl (fun K hK => ?_) AllReadyH.nil)
  · go_simp
    go_at_call 6
    (with_reducible refine (HC.out w I.but I.src).mono ?_)
    rintro e1 w1 ⟨V1, A1, n1, c1, rfl, hrd1, _, hs1, hb1⟩
    have I1 := I.call hg (x := ⟨V1, A1, n1, c1⟩) hrd1 hs1 hb1
    go_wp2_with fail
    refine hK.out _ _ (HS.out _ I1.but) (fun hHeld => ?_)
    clear hK K
    try simp only [Act.put, List.setIfInBounds_toArray, List.set_cons_zero, List.set_cons_succ]
    exact st1_67 hg HS HC HQ I1 (by kernel_rfl) (by kernel_rfl) rfl
  · go_simp
    have I1 := I.alloc5
    refine hK.out _ _ (HS.out _ I1.but) (fun hHeld => ?_)
    clear hK K
    try simp only [Act.put, List.setIfInBounds_toArray, List.set_cons_zero, List.set_cons_succ]
    exact st0_567 hg HS HC HQ I1 (by kernel_rfl) (by kernel_rfl) rfl

set_option maxHeartbeats 4000000 in
theorem st1_0 {g bt n c n2 c2 : Nat} {A A2 : Option Addr} {T : Ty} {u : World} {Q : Exit → Act → World → Prop} {S : World → Prop} (hg : g < u.heap.size)
    (HS : Hid (∀ W, But g u W → S W)) (HC : Hid (∀ W, But g u W → Src W g → Calls Tryd.prog 6 #[.pointer (some ⟨g, 0, none⟩), .agg #[.int .i64 T.k, .int .i64 T.lo, .int .i64 T.hi, .int .i64 T.mx, .slice A2 n2 c2]] W (GivesSome 2 g W)))
    (HQ : Hid (∀ (W : World) (p q r : Nat) (x y z : VlAt), FIN3 g u W p q r x y z → Q .normal { tmps := #[.slice A n c, undef, .bool false, .pointer (some ⟨g, 0, none⟩), .pointer (some ⟨bt, 0, none⟩), .pointer (some ⟨p, 0, none⟩), .pointer (some ⟨q, 0, none⟩), .pointer (some ⟨r, 0, none⟩), undef, undef, undef, undef, undef, undef, undef, undef, undef, undef, undef, undef, .slice A n c, .pointer (some ⟨g, 0, none⟩), .pointer (some ⟨g, 0, none⟩), .agg #[.int .i64 T.k, .int .i64 T.lo, .int .i64 T.hi, .int .i64 T.mx, .slice A2 n2 c2], .pointer (some ⟨g, 0, none⟩), .agg #[.int .i64 T.k, .int .i64 T.lo, .int .i64 T.hi, .int .i64 T.mx, .slice A2 n2 c2], vlV x.V x.A x.n x.c, .pointer (some ⟨g, 0, none⟩), .agg #[.int .i64 T.k, .int .i64 T.lo, .int .i64 T.hi, .int .i64 T.mx, .slice A2 n2 c2], vlV y.V y.A y.n y.c, .pointer (some ⟨g, 0, none⟩), .agg #[.int .i64 T.k, .int .i64 T.lo, .int .i64 T.hi, .int .i64 T.mx, .slice A2 n2 c2], vlV z.V z.A z.n z.c, undef, undef, undef, undef, undef, undef, undef, undef, undef, undef, undef, undef, undef, undef, undef, undef, undef, undef, undef, undef, undef, undef, undef, undef, undef, undef, undef, undef, undef, undef, undef, undef, undef, undef, undef, undef, undef, undef, undef, undef, undef, undef, undef, undef, undef, undef, undef, undef, undef, undef, undef, undef, undef, undef, undef, undef, undef, undef, undef, undef, undef, undef, undef, undef, undef, undef, undef, undef, undef, undef, undef, undef, undef, undef, undef, undef, undef, undef, undef, undef, undef, undef, undef, undef, undef, undef, undef, undef, undef, undef, undef, undef, undef, undef, undef, undef, undef, undef, undef, undef, undef, undef, undef, undef, undef, undef, undef, undef, undef, undef, undef, undef, undef, undef, undef, undef], defers := [] } W)) {fuel : Nat} {listed : Array Bool} {a : Act} {w : World} {x : VlAt} (I : ST3 g u w none none none [x])
    (hf : fuel = 8) (hl : listed = #[true, true, true, true, true, false, true, true, false, false, false, false, false, false, false]) (ha : a = { tmps := #[.slice A n c, undef, .bool false, .pointer (some ⟨g, 0, none⟩), .pointer (some ⟨bt, 0, none⟩), undef, undef, undef, undef, undef, undef, undef, undef, undef, undef, undef, undef, undef, undef, undef, .slice A n c, .pointer (some ⟨g, 0, none⟩), .pointer (some ⟨g, 0, none⟩), .agg #[.int .i64 T.k, .int .i64 T.lo, .int .i64 T.hi, .int .i64 T.mx, .slice A2 n2 c2], .pointer (some ⟨g, 0, none⟩), .agg #[.int .i64 T.k, .int .i64 T.lo, .int .i64 T.hi, .int .i64 T.mx, .slice A2 n2 c2], vlV x.V x.A x.n x.c, .pointer (some ⟨g, 0, none⟩), .agg #[.int .i64 T.k, .int .i64 T.lo, .int .i64 T.hi, .int .i64 T.mx, .slice A2 n2 c2], undef, .pointer (some ⟨g, 0, none⟩), .agg #[.int .i64 T.k, .int .i64 T.lo, .int .i64 T.hi, .int .i64 T.mx, .slice A2 n2 c2], undef, undef, undef, undef, undef, undef, undef, undef, undef, undef, undef, undef, undef, undef, undef, undef, undef, undef, undef, undef, undef, undef, undef, undef, undef, undef, undef, undef, undef, undef, undef, undef, undef, undef, undef, undef, undef, undef, undef, undef, undef, undef, undef, undef, undef, undef, undef, undef, undef, undef, undef, undef, undef, undef, undef, undef, undef, undef, undef, undef, undef, undef, undef, undef, undef, undef, undef, undef, undef, undef, undef, undef, undef, undef, undef, undef, undef, undef, undef, undef, undef, undef, undef, undef, undef, undef, undef, undef, undef, undef, undef, undef, undef, undef, undef, undef, undef, undef, undef, undef, undef, undef, undef, undef, undef, undef, undef, undef, undef, undef, undef, undef, undef, undef, undef, undef, undef], defers := [] }) : wpAnyH Tryd.prog .any ops3 Q S fuel listed a w := by
  subst hf hl ha
  refine wpAnyH_ready (rs := [5, 9, 10, 11]) (by kernel_rfl) (by simp) ?_
  refine AllReadyH.cons (o := ⟨some 29, _, _, _, _, _⟩) rfl (fun K hK => ?_) (AllReadyH.cons (o := ⟨some 5, _, _, _, _, _⟩) rfl (fun K hK => ?_) (AllReadyH.cons (o := ⟨some 6, _, _, _, _, _⟩) rfl (fun K hK => ?_) (AllReadyH.cons (o := ⟨some 7, _, _, _, _, _⟩) rfl (fun K hK => ?_) AllReadyH.nil)))
  · go_simp
    go_at_call 6
    (with_reducible refine (HC.out w I.but I.src).mono ?_)
    rintro e1 w1 ⟨V1, A1, n1, c1, rfl, hrd1, _, hs1, hb1⟩
    have I1 := I.call hg (x := ⟨V1, A1, n1, c1⟩) hrd1 hs1 hb1
    go_wp2_with fail
    refine hK.out _ _ (HS.out _ I1.but) (fun hHeld => ?_)
    clear hK K
    try simp only [Act.put, List.setIfInBounds_toArray, List.set_cons_zero, List.set_cons_succ]
    exact st2_0 hg HS HC HQ I1 (by kernel_rfl) (by kernel_rfl) rfl
  · go_simp
    have I1 := I.alloc5
    refine hK.out _ _ (HS.out _ I1.but) (fun hHeld => ?_)
    clear hK K
    try simp only [Act.put, List.setIfInBounds_toArray, List.set_cons_zero, List.set_cons_succ]
    exact st1_5 hg HS HC HQ I1 (by kernel_rfl) (by kernel_rfl) rfl
  · go_simp
    have I1 := I.alloc6
    refine hK.out _ _ (HS.out _ I1.but) (fun hHeld => ?_)
    clear hK K
    try simp only [Act.put, List.setIfInBounds_toArray, List.set_cons_zero, List.set_cons_succ]
    exact st1_6 hg HS HC HQ I1 (by kernel_rfl) (by kernel_rfl) rfl
  · go_simp
    have I1 := I.alloc7
    refine hK.out _ _ (HS.out _ I1.but) (fun hHeld => ?_)
    clear hK K
    try simp only [Act.put, List.setIfInBounds_toArray, List.set_cons_zero, List.set_cons_succ]
    exact st1_7 hg HS HC HQ I1 (by kernel_rfl) (by kernel_rfl) rfl

set_option maxHeartbeats 4000000 in
theorem st0_5 {g bt n c n2 c2 : Nat} {A A2 : Option Addr} {T : Ty} {u : World} {Q : Exit → Act → World → Prop} {S : World → Prop} (hg : g < u.heap.size)
    (HS : Hid (∀ W, But g u W → S W)) (HC : Hid (∀ W, But g u W → Src W g → Calls Tryd.prog 6 #[.pointer (some ⟨g, 0, none⟩), .agg #[.int .i64 T.k, .int .i64 T.lo, .int .i64 T.hi, .int .i64 T.mx, .slice A2 n2 c2]] W (GivesSome 2 g W)))
    (HQ : Hid (∀ (W : World) (p q r : Nat) (x y z : VlAt), FIN3 g u W p q r x y z → Q .normal { tmps := #[.slice A n c, undef, .bool false, .pointer (some ⟨g, 0, none⟩), .pointer (some ⟨bt, 0, none⟩), .pointer (some ⟨p, 0, none⟩), .pointer (some ⟨q, 0, none⟩), .pointer (some ⟨r, 0, none⟩), undef, undef, undef, undef, undef, undef, undef, undef, undef, undef, undef, undef, .slice A n c, .pointer (some ⟨g, 0, none⟩), .pointer (some ⟨g, 0, none⟩), .agg #[.int .i64 T.k, .int .i64 T.lo, .int .i64 T.hi, .int .i64 T.mx, .slice A2 n2 c2], .pointer (some ⟨g, 0, none⟩), .agg #[.int .i64 T.k, .int .i64 T.lo, .int .i64 T.hi, .int .i64 T.mx, .slice A2 n2 c2], vlV x.V x.A x.n x.c, .pointer (some ⟨g, 0, none⟩), .agg #[.int .i64 T.k, .int .i64 T.lo, .int .i64 T.hi, .int .i64 T.mx, .slice A2 n2 c2], vlV y.V y.A y.n y.c, .pointer (some ⟨g, 0, none⟩), .agg #[.int .i64 T.k, .int .i64 T.lo, .int .i64 T.hi, .int .i64 T.mx, .slice A2 n2 c2], vlV z.V z.A z.n z.c, undef, undef, undef, undef, undef, undef, undef, undef, undef, undef, undef, undef, undef, undef, undef, undef, undef, undef, undef, undef, undef, undef, undef, undef, undef, undef, undef, undef, undef, undef, undef, undef, undef, undef, undef, undef, undef, undef, undef, undef, undef, undef, undef, undef, undef, undef, undef, undef, undef, undef, undef, undef, undef, undef, undef, undef, undef, undef, undef, undef, undef, undef, undef, undef, undef, undef, undef, undef, undef, undef, undef, undef, undef, undef, undef, undef, undef, undef, undef, undef, undef, undef, undef, undef, undef, undef, undef, undef, undef, undef, undef, undef, undef, undef, undef, undef, undef, undef, undef, undef, undef, undef, undef, undef, undef, undef, undef, undef, undef, undef, undef, undef, undef, undef, undef, undef], defers := [] } W)) {fuel : Nat} {listed : Array Bool} {a : Act} {w : World} {p : Nat} (I : ST3 g u w (some p) none none [])
    (hf : fuel = 8) (hl : listed = #[true, true, false, true, true, false, true, true, false, true, false, false, false, false, false]) (ha : a = { tmps := #[.slice A n c, undef, .bool false, .pointer (some ⟨g, 0, none⟩), .pointer (some ⟨bt, 0, none⟩), .pointer (some ⟨p, 0, none⟩), undef, undef, undef, undef, undef, undef, undef, undef, undef, undef, undef, undef, undef, undef, .slice A n c, .pointer (some ⟨g, 0, none⟩), .pointer (some ⟨g, 0, none⟩), .agg #[.int .i64 T.k, .int .i64 T.lo, .int .i64 T.hi, .int .i64 T.mx, .slice A2 n2 c2], .pointer (some ⟨g, 0, none⟩), .agg #[.int .i64 T.k, .int .i64 T.lo, .int .i64 T.hi, .int .i64 T.mx, .slice A2 n2 c2], undef, .pointer (some ⟨g, 0, none⟩), .agg #[.int .i64 T.k, .int .i64 T.lo, .int .i64 T.hi, .int .i64 T.mx, .slice A2 n2 c2], undef, .pointer (some ⟨g, 0, none⟩), .agg #[.int .i64 T.k, .int .i64 T.lo, .int .i64 T.hi, .int .i64 T.mx, .slice A2 n2 c2], undef, undef, undef, undef, undef, undef, undef, undef, undef, undef, undef, undef, undef, undef, undef, undef, undef, undef, undef, undef, undef, undef, undef, undef, undef, undef, undef, undef, undef, undef, undef, undef, undef, undef, undef, undef, undef, undef, undef, undef, undef, undef, undef, undef, undef, undef, undef, undef, undef, undef, undef, undef, undef, undef, undef, undef, undef, undef, undef, undef, undef, undef, undef, undef, undef, undef, undef, undef, undef, undef, undef, undef, undef, undef, undef, undef, undef, undef, undef, undef, undef, undef, undef, undef, undef, undef, undef, undef, undef, undef, undef, undef, undef, undef, undef, undef, undef, undef, undef, undef, undef, undef, undef, undef, undef, undef, undef, undef, undef, undef, undef, undef, undef, undef, undef, undef, undef], defers := [] }) : wpAnyH Tryd.prog .any ops3 Q S fuel listed a w := by
  subst hf hl ha
  refine wpAnyH_ready (rs := [2, 10, 11]) (by kernel_rfl) (by simp) ?_
  refine AllReadyH.cons (o := ⟨some 26, _, _, _, _, _⟩) rfl (fun K hK => ?_) (AllReadyH.cons (o := ⟨some 6, _, _, _, _, _⟩) rfl (fun K hK => ?_) (AllReadyH.cons (o := ⟨some 7, _, _, _, _, _⟩) rfl (fun K hK => ?_) AllReadyH.nil))
  · go_simp
    go_at_call 6
    (with_reducible refine (HC.out w I.but I.src).mono ?_)
    rintro e1 w1 ⟨V1, A1, n1, c1, rfl, hrd1, _, hs1, hb1⟩
    have I1 := I.call hg (x := ⟨V1, A1, n1, c1⟩) hrd1 hs1 hb1
    go_wp2_with fail
    refine hK.out _ _ (HS.out _ I1.but) (fun hHeld => ?_)
    clear hK K
    try simp only [Act.put, List.setIfInBounds_toArray, List.set_cons_zero, List.set_cons_succ]
    exact st1_5 hg HS HC HQ I1 (by kernel_rfl) (by kernel_rfl) rfl
  · go_simp
    have I1 := I.alloc6
    refine hK.out _ _ (HS.out _ I1.but) (fun hHeld => ?_)
    clear hK K
    try simp only [Act.put, List.setIfInBounds_toArray, List.set_cons_zero, List.set_cons_succ]
    exact st0_56 hg HS HC HQ I1 (by kernel_rfl) (by kernel_rfl) rfl
  · go_simp
    have I1 := I.alloc7
    refine hK.out _ _ (HS.out _ I1.but) (fun hHeld => ?_)
    clear hK K
    try simp only [Act.put, List.setIfInBounds_toArray, List.set_cons_zero, List.set_cons_succ]
    exact st0_57 hg HS HC HQ I1 (by kernel_rfl) (by kernel_rfl) rfl

set_option maxHeartbeats 4000000 in
theorem st0_6 {g bt n c n2 c2 : Nat} {A A2 : Option Addr} {T : Ty} {u : World} {Q : Exit → Act → World → Prop} {S : World → Prop} (hg : g < u.heap.size)
    (HS : Hid (∀ W, But g u W → S W)) (HC : Hid (∀ W, But g u W → Src W g → Calls Tryd.prog 6 #[.pointer (some ⟨g, 0, none⟩), .agg #[.int .i64 T.k, .int .i64 T.lo, .int .i64 T.hi, .int .i64 T.mx, .slice A2 n2 c2]] W (GivesSome 2 g W)))
    (HQ : Hid (∀ (W : World) (p q r : Nat) (x y z : VlAt), FIN3 g u W p q r x y z → Q .normal { tmps := #[.slice A n c, undef, .bool false, .pointer (some ⟨g, 0, none⟩), .pointer (some ⟨bt, 0, none⟩), .pointer (some ⟨p, 0, none⟩), .pointer (some ⟨q, 0, none⟩), .pointer (some ⟨r, 0, none⟩), undef, undef, undef, undef, undef, undef, undef, undef, undef, undef, undef, undef, .slice A n c, .pointer (some ⟨g, 0, none⟩), .pointer (some ⟨g, 0, none⟩), .agg #[.int .i64 T.k, .int .i64 T.lo, .int .i64 T.hi, .int .i64 T.mx, .slice A2 n2 c2], .pointer (some ⟨g, 0, none⟩), .agg #[.int .i64 T.k, .int .i64 T.lo, .int .i64 T.hi, .int .i64 T.mx, .slice A2 n2 c2], vlV x.V x.A x.n x.c, .pointer (some ⟨g, 0, none⟩), .agg #[.int .i64 T.k, .int .i64 T.lo, .int .i64 T.hi, .int .i64 T.mx, .slice A2 n2 c2], vlV y.V y.A y.n y.c, .pointer (some ⟨g, 0, none⟩), .agg #[.int .i64 T.k, .int .i64 T.lo, .int .i64 T.hi, .int .i64 T.mx, .slice A2 n2 c2], vlV z.V z.A z.n z.c, undef, undef, undef, undef, undef, undef, undef, undef, undef, undef, undef, undef, undef, undef, undef, undef, undef, undef, undef, undef, undef, undef, undef, undef, undef, undef, undef, undef, undef, undef, undef, undef, undef, undef, undef, undef, undef, undef, undef, undef, undef, undef, undef, undef, undef, undef, undef, undef, undef, undef, undef, undef, undef, undef, undef, undef, undef, undef, undef, undef, undef, undef, undef, undef, undef, undef, undef, undef, undef, undef, undef, undef, undef, undef, undef, undef, undef, undef, undef, undef, undef, undef, undef, undef, undef, undef, undef, undef, undef, undef, undef, undef, undef, undef, undef, undef, undef, undef, undef, undef, undef, undef, undef, undef, undef, undef, undef, undef, undef, undef, undef, undef, undef, undef, undef, undef], defers := [] } W)) {fuel : Nat} {listed : Array Bool} {a : Act} {w : World} {q : Nat} (I : ST3 g u w none (some q) none [])
    (hf : fuel = 8) (hl : listed = #[true, true, false, true, true, false, true, true, false, false, true, false, false, false, false]) (ha : a = { tmps := #[.slice A n c, undef, .bool false, .pointer (some ⟨g, 0, none⟩), .pointer (some ⟨bt, 0, none⟩), undef, .pointer (some ⟨q, 0, none⟩), undef, undef, undef, undef, undef, undef, undef, undef, undef, undef, undef, undef, undef, .slice A n c, .pointer (some ⟨g, 0, none⟩), .pointer (some ⟨g, 0, none⟩), .agg #[.int .i64 T.k, .int .i64 T.lo, .int .i64 T.hi, .int .i64 T.mx, .slice A2 n2 c2], .pointer (some ⟨g, 0, none⟩), .agg #[.int .i64 T.k, .int .i64 T.lo, .int .i64 T.hi, .int .i64 T.mx, .slice A2 n2 c2], undef, .pointer (some ⟨g, 0, none⟩), .agg #[.int .i64 T.k, .int .i64 T.lo, .int .i64 T.hi, .int .i64 T.mx, .slice A2 n2 c2], undef, .pointer (some ⟨g, 0, none⟩), .agg #[.int .i64 T.k, .int .i64 T.lo, .int .i64 T.hi, .int .i64 T.mx, .slice A2 n2 c2], undef, undef, undef, undef, undef, undef, undef, undef, undef, undef, undef, undef, undef, undef, undef, undef, undef, undef, undef, undef, undef, undef, undef, undef, undef, undef, undef, undef, undef, undef, undef, undef, undef, undef, undef, undef, undef, undef, undef, undef, undef, undef, undef, undef, undef, undef, undef, undef, undef, undef, undef, undef, undef, undef, undef, undef, undef, undef, undef, undef, undef, undef, undef, undef, undef, undef, undef, undef, undef, undef, undef, undef, undef, undef, undef, undef, undef, undef, undef, undef, undef, undef, undef, undef, undef, undef, undef, undef, undef, undef, undef, undef, undef, undef, undef, undef, undef, undef, undef, undef, undef, undef, undef, undef, undef, undef, undef, undef, undef, undef, undef, undef, undef, undef, undef, undef, undef], defers := [] }) : wpAnyH Tryd.prog .any ops3 Q S fuel listed a w := by
  subst hf hl ha
  refine wpAnyH_ready (rs := [2, 9, 11]) (by kernel_rfl) (by simp) ?_
  refine AllReadyH.cons (o := ⟨some 26, _, _, _, _, _⟩) rfl (fun K hK => ?_) (AllReadyH.cons (o := ⟨some 5, _, _, _, _, _⟩) rfl (fun K hK => ?_) (AllReadyH.cons (o := ⟨some 7, _, _, _, _, _⟩) rfl (fun K hK => ?_) AllReadyH.nil))
  · go_simp
    go_at_call 6
    (with_reducible refine (HC.out w I.but I.src).mono ?_)
    rintro e1 w1 ⟨V1, A1, n1, c1, rfl, hrd1, _, hs1, hb1⟩
    have I1 := I.call hg (x := ⟨V1, A1, n1, c1⟩) hrd1 hs1 hb1
    go_wp2_with fail
    refine hK.out _ _ (HS.out _ I1.but) (fun hHeld => ?_)
    clear hK K
    try simp only [Act.put, List.setIfInBounds_toArray, List.set_cons_zero, List.set_cons_succ]
    exact st1_6 hg HS HC HQ I1 (by kernel_rfl) (by kernel_rfl) rfl
  · go_simp
    have I1 := I.alloc5
    refine hK.out _ _ (HS.out _ I1.but) (fun hHeld => ?_)
    clear hK K
    try simp only [Act.put, List.setIfInBounds_toArray, List.set_cons_zero, List.set_cons_succ]
    exact st0_56 hg HS HC HQ I1 (by kernel_rfl) (by kernel_rfl) rfl
  · go_simp
    have I1 := I.alloc7
    refine hK.out _ _ (HS.out _ I1.but) (fun hHeld => ?_)
    clear hK K
    try simp only [Act.put, List.setIfInBounds_toArray, List.set_cons_zero, List.set_cons_succ]
    exact st0_67 hg HS HC HQ I1 (by kernel_rfl) (by kernel_rfl) rfl

set_option maxHeartbeats 4000000 in
theorem st0_7 {g bt n c n2 c2 : Nat} {A A2 : Option Addr} {T : Ty} {u : World} {Q : Exit → Act → World → Prop} {S : World → Prop} (hg : g < u.heap.size)
    (HS : Hid (∀ W, But g u W → S W)) (HC : Hid (∀ W, But g u W → Src W g → Calls Tryd.prog 6 #[.pointer (some ⟨g, 0, none⟩), .agg #[.int .i64 T.k, .int .i64 T.lo, .int .i64 T.hi, .int .i64 T.mx, .slice A2 n2 c2]] W (GivesSome 2 g W)))
    (HQ : Hid (∀ (W : World) (p q r : Nat) (x y z : VlAt), FIN3 g u W p q r x y z → Q .normal { tmps := #[.slice A n c, undef, .bool false, .pointer (some ⟨g, 0, none⟩), .pointer (some ⟨bt, 0, none⟩), .pointer (some ⟨p, 0, none⟩), .pointer (some ⟨q, 0, none⟩), .pointer (some ⟨r, 0, none⟩), undef, undef, undef, undef, undef, undef, undef, undef, undef, undef, undef, undef, .slice A n c, .pointer (some ⟨g, 0, none⟩), .pointer (some ⟨g, 0, none⟩), .agg #[.int .i64 T.k, .int .i64 T.lo, .int .i64 T.hi, .int .i64 T.mx, .slice A2 n2 c2], .pointer (some ⟨g, 0, none⟩), .agg #[.int .i64 T.k, .int .i64 T.lo, .int .i64 T.hi, .int .i64 T.mx, .slice A2 n2 c2], vlV x.V x.A x.n x.c, .pointer (some ⟨g, 0, none⟩), .agg #[.int .i64 T.k, .int .i64 T.lo, .int .i64 T.hi, .int .i64 T.mx, .slice A2 n2 c2], vlV y.V y.A y.n y.c, .pointer (some ⟨g, 0, none⟩), .agg #[.int .i64 T.k, .int .i64 T.lo, .int .i64 T.hi, .int .i64 T.mx, .slice A2 n2 c2], vlV z.V z.A z.n z.c, undef, undef, undef, undef, undef, undef, undef, undef, undef, undef, undef, undef, undef, undef, undef, undef, undef, undef, undef, undef, undef, undef, undef, undef, undef, undef, undef, undef, undef, undef, undef, undef, undef, undef, undef, undef, undef, undef, undef, undef, undef, undef, undef, undef, undef, undef, undef, undef, undef, undef, undef, undef, undef, undef, undef, undef, undef, undef, undef, undef, undef, undef, undef, undef, undef, undef, undef, undef, undef, undef, undef, undef, undef, undef, undef, undef, undef, undef, undef, undef, undef, undef, undef, undef, undef, undef, undef, undef, undef, undef, undef, undef, undef, undef, undef, undef, undef, undef, undef, undef, undef, undef, undef, undef, undef, undef, undef, undef, undef, undef, undef, undef, undef, undef, undef, undef], defers := [] } W)) {fuel : Nat} {listed : Array Bool} {a : Act} {w : World} {r : Nat} (I : ST3 g u w none none (some r) [])
    (hf : fuel = 8) (hl : listed = #[true, true, false, true, true, false, true, true, false, false, false, true, false, false, false]) (ha : a = { tmps := #[.slice A n c, undef, .bool false, .pointer (some ⟨g, 0, none⟩), .pointer (some ⟨bt, 0, none⟩), undef, undef, .pointer (some ⟨r, 0, none⟩), undef, undef, undef, undef, undef, undef, undef, undef, undef, undef, undef, undef, .slice A n c, .pointer (some ⟨g, 0, none⟩), .pointer (some ⟨g, 0, none⟩), .agg #[.int .i64 T.k, .int .i64 T.lo, .int .i64 T.hi, .int .i64 T.mx, .slice A2 n2 c2], .pointer (some ⟨g, 0, none⟩), .agg #[.int .i64 T.k, .int .i64 T.lo, .int .i64 T.hi, .int .i64 T.mx, .slice A2 n2 c2], undef, .pointer (some ⟨g, 0, none⟩), .agg #[.int .i64 T.k, .int .i64 T.lo, .int .i64 T.hi, .int .i64 T.mx, .slice A2 n2 c2], undef, .pointer (some ⟨g, 0, none⟩), .agg #[.int .i64 T.k, .int .i64 T.lo, .int .i64 T.hi, .int .i64 T.mx, .slice A2 n2 c2], undef, undef, undef, undef, undef, undef, undef, undef, undef, undef, undef, undef, undef, undef, undef, undef, undef, undef, undef, undef, undef, undef, undef, undef, undef, undef, undef, undef, undef, undef, undef, undef, undef, undef, undef, undef, undef, undef, undef, undef, undef, undef, undef, undef, undef, undef, undef, undef, undef, undef, undef, undef, undef, undef, undef, undef, undef, undef, undef, undef, undef, undef, undef, undef, undef, undef, undef, undef, undef, undef, undef, undef, undef, undef, undef, undef, undef, undef, undef, undef, undef, undef, undef, undef, undef, undef, undef, undef, undef, undef, undef, undef, undef, undef, undef, undef, undef, undef, undef, undef, undef, undef, undef, undef, undef, undef, undef, undef, undef, undef, undef, undef, undef, undef, undef, undef, undef], defers := [] }) : wpAnyH Tryd.prog .any ops3 Q S fuel listed a w := by
  subst hf hl ha
  refine wpAnyH_ready (rs := [2, 9, 10]) (by kernel_rfl) (by simp) ?_
  refine AllReadyH.cons (o := ⟨some 26, _, _, _, _, _⟩) rfl (fun K hK => ?_) (AllReadyH.cons (o := ⟨some 5, _, _, _, _, _⟩) rfl (fun K hK => ?_) (AllReadyH.cons (o := ⟨some 6, _, _, _, _, _⟩) rfl (fun K hK => ?_) AllReadyH.nil))
  · go_simp
    go_at_call 6
    (with_reducible refine (HC.out w I.but I.src).mono ?_)
    rintro e1 w1 ⟨V1, A1, n1, c1, rfl, hrd1, _, hs1, hb1⟩
    have I1 := I.call hg (x := ⟨V1, A1, n1, c1⟩) hrd1 hs1 hb1
    go_wp2_with fail
    refine hK.out _ _ (HS.out _ I1.but) (fun hHeld => ?_)
    clear hK K
    try simp only [Act.put, List.setIfInBounds_toArray, List.set_cons_zero, List.set_cons_succ]
    exact st1_7 hg HS HC HQ I1 (by kernel_rfl) (by kernel_rfl) rfl
  · go_simp
    have I1 := I.alloc5
    refine hK.out _ _ (HS.out _ I1.but) (fun hHeld => ?_)
    clear hK K
    try simp only [Act.put, List.setIfInBounds_toArray, List.set_cons_zero, List.set_cons_succ]
    exact st0_57 hg HS HC HQ I1 (by kernel_rfl) (by kernel_rfl) rfl
  · go_simp
    have I1 := I.alloc6
    refine hK.out _ _ (HS.out _ I1.but) (fun hHeld => ?_)
    clear hK K
    try simp only [Act.put, List.setIfInBounds_toArray, List.set_cons_zero, List.set_cons_succ]
    exact st0_67 hg HS HC HQ I1 (by kernel_rfl) (by kernel_rfl) rfl

set_option maxHeartbeats 4000000 in
theorem st0_0 {g bt n c n2 c2 : Nat} {A A2 : Option Addr} {T : Ty} {u : World} {Q : Exit → Act → World → Prop} {S : World → Prop} (hg : g < u.heap.size)
    (HS : Hid (∀ W, But g u W → S W)) (HC : Hid (∀ W, But g u W → Src W g → Calls Tryd.prog 6 #[.pointer (some ⟨g, 0, none⟩), .agg #[.int .i64 T.k, .int .i64 T.lo, .int .i64 T.hi, .int .i64 T.mx, .slice A2 n2 c2]] W (GivesSome 2 g W)))
    (HQ : Hid (∀ (W : World) (p q r : Nat) (x y z : VlAt), FIN3 g u W p q r x y z → Q .normal { tmps := #[.slice A n c, undef, .bool false, .pointer (some ⟨g, 0, none⟩), .pointer (some ⟨bt, 0, none⟩), .pointer (some ⟨p, 0, none⟩), .pointer (some ⟨q, 0, none⟩), .pointer (some ⟨r, 0, none⟩), undef, undef, undef, undef, undef, undef, undef, undef, undef, undef, undef, undef, .slice A n c, .pointer (some ⟨g, 0, none⟩), .pointer (some ⟨g, 0, none⟩), .agg #[.int .i64 T.k, .int .i64 T.lo, .int .i64 T.hi, .int .i64 T.mx, .slice A2 n2 c2], .pointer (some ⟨g, 0, none⟩), .agg #[.int .i64 T.k, .int .i64 T.lo, .int .i64 T.hi, .int .i64 T.mx, .slice A2 n2 c2], vlV x.V x.A x.n x.c, .pointer (some ⟨g, 0, none⟩), .agg #[.int .i64 T.k, .int .i64 T.lo, .int .i64 T.hi, .int .i64 T.mx, .slice A2 n2 c2], vlV y.V y.A y.n y.c, .pointer (some ⟨g, 0, none⟩), .agg #[.int .i64 T.k, .int .i64 T.lo, .int .i64 T.hi, .int .i64 T.mx, .slice A2 n2 c2], vlV z.V z.A z.n z.c, undef, undef, undef, undef, undef, undef, undef, undef, undef, undef, undef, undef, undef, undef, undef, undef, undef, undef, undef, undef, undef, undef, undef, undef, undef, undef, undef, undef, undef, undef, undef, undef, undef, undef, undef, undef, undef, undef, undef, undef, undef, undef, undef, undef, undef, undef, undef, undef, undef, undef, undef, undef, undef, undef, undef, undef, undef, undef, undef, undef, undef, undef, undef, undef, undef, undef, undef, undef, undef, undef, undef, undef, undef, undef, undef, undef, undef, undef, undef, undef, undef, undef, undef, undef, undef, undef, undef, undef, undef, undef, undef, undef, undef, undef, undef, undef, undef, undef, undef, undef, undef, undef, undef, undef, undef, undef, undef, undef, undef, undef, undef, undef, undef, undef, undef, undef], defers := [] } W)) {fuel : Nat} {listed : Array Bool} {a : Act} {w : World} (I : ST3 g u w none none none [])
    (hf : fuel = 9) (hl : listed = #[true, true, false, true, true, false, true, true, false, false, false, false, false, false, false]) (ha : a = { tmps := #[.slice A n c, undef, .bool false, .pointer (some ⟨g, 0, none⟩), .pointer (some ⟨bt, 0, none⟩), undef, undef, undef, undef, undef, undef, undef, undef, undef, undef, undef, undef, undef, undef, undef, .slice A n c, .pointer (some ⟨g, 0, none⟩), .pointer (some ⟨g, 0, none⟩), .agg #[.int .i64 T.k, .int .i64 T.lo, .int .i64 T.hi, .int .i64 T.mx, .slice A2 n2 c2], .pointer (some ⟨g, 0, none⟩), .agg #[.int .i64 T.k, .int .i64 T.lo, .int .i64 T.hi, .int .i64 T.mx, .slice A2 n2 c2], undef, .pointer (some ⟨g, 0, none⟩), .agg #[.int .i64 T.k, .int .i64 T.lo, .int .i64 T.hi, .int .i64 T.mx, .slice A2 n2 c2], undef, .pointer (some ⟨g, 0, none⟩), .agg #[.int .i64 T.k, .int .i64 T.lo, .int .i64 T.hi, .int .i64 T.mx, .slice A2 n2 c2], undef, undef, undef, undef, undef, undef, undef, undef, undef, undef, undef, undef, undef, undef, undef, undef, undef, undef, undef, undef, undef, undef, undef, undef, undef, undef, undef, undef, undef, undef, undef, undef, undef, undef, undef, undef, undef, undef, undef, undef, undef, undef, undef, undef, undef, undef, undef, undef, undef, undef, undef, undef, undef, undef, undef, undef, undef, undef, undef, undef, undef, undef, undef, undef, undef, undef, undef, undef, undef, undef, undef, undef, undef, undef, undef, undef, undef, undef, undef, undef, undef, undef, undef, undef, undef, undef, undef, undef, undef, undef, undef, undef, undef, undef, undef, undef, undef, undef, undef, undef, undef, undef, undef, undef, undef, undef, undef, undef, undef, undef, undef, undef, undef, undef, undef, undef, undef], defers := [] }) : wpAnyH Tryd.prog .any ops3 Q S fuel listed a w := by
  subst hf hl ha
  refine wpAnyH_ready (rs := [2, 9, 10, 11]) (by kernel_rfl) (by simp) ?_
  refine AllReadyH.cons (o := ⟨some 26, _, _, _, _, _⟩) rfl (fun K hK => ?_) (AllReadyH.cons (o := ⟨some 5, _, _, _, _, _⟩) rfl (fun K hK => ?_) (AllReadyH.cons (o := ⟨some 6, _, _, _, _, _⟩) rfl (fun K hK => ?_) (AllReadyH.cons (o := ⟨some 7, _, _, _, _, _⟩) rfl (fun K hK => ?_) AllReadyH.nil)))
  · go_simp
    go_at_call 6
    (with_reducible refine (HC.out w I.but I.src).mono ?_)
    rintro e1 w1 ⟨V1, A1, n1, c1, rfl, hrd1, _, hs1, hb1⟩
    have I1 := I.call hg (x := ⟨V1, A1, n1, c1⟩) hrd1 hs1 hb1
    go_wp2_with fail
    refine hK.out _ _ (HS.out _ I1.but) (fun hHeld => ?_)
    clear hK K
    try simp only [Act.put, List.setIfInBounds_toArray, List.set_cons_zero, List.set_cons_succ]
    exact st1_0 hg HS HC HQ I1 (by kernel_rfl) (by kernel_rfl) rfl
  · go_simp
    have I1 := I.alloc5
    refine hK.out _ _ (HS.out _ I1.but) (fun hHeld => ?_)
    clear hK K
    try simp only [Act.put, List.setIfInBounds_toArray, List.set_cons_zero, List.set_cons_succ]
    exact st0_5 hg HS HC HQ I1 (by kernel_rfl) (by kernel_rfl) rfl
  · go_simp
    have I1 := I.alloc6
    refine hK.out _ _ (HS.out _ I1.but) (fun hHeld => ?_)
    clear hK K
    try simp only [Act.put, List.setIfInBounds_toArray, List.set_cons_zero, List.set_cons_succ]
    exact st0_6 hg HS HC HQ I1 (by kernel_rfl) (by kernel_rfl) rfl
  · go_simp
    have I1 := I.alloc7
    refine hK.out _ _ (HS.out _ I1.but) (fun hHeld => ?_)
    clear hK K
    try simp only [Act.put, List.setIfInBounds_toArray, List.set_cons_zero, List.set_cons_succ]
    exact st0_7 hg HS HC HQ I1 (by kernel_rfl) (by kernel_rfl) rfl
end Go.Proofs.YtklndjkblfncjaaDoor
