/-
  exactppllaw07.ValueBuilt: the two values and their two boxes, in whatever order.
  exactppllaw07.ValueBuilt: the walk.
-/
import Derived.Test.YtklndjkblfncjaaGreatDoorAwk7
import Derived.Test.YtklndjkblfncjaaGreatDoorWild7
import Derived.Test.YtklndjkblfncjaaGreatDoorSome7
import Derived.Test.YtklndjkblfncjaaGreatDoorAgr7
import Derived.Test.YtklndjkblfncjaaGreatDoorZerP
namespace Go.Proofs.YtklndjkblfncjaaGreatDoor
open Go Go.RowKit
set_option maxRecDepth 20000

/-- What is there while two values and their boxes are made beside a source. -/
structure ST2 (g : Nat) (u w : World) (p q : Option Nat) (vs : List VlAt) : Prop where
  src : Src w g
  but : But g u w
  top : ∀ x ∈ vs, x.V.i ≤ 2001
  vals : ∀ x ∈ vs, VlRd (fun b => u.heap.size ≤ b ∧ b < w.heap.size ∧ p ≠ some b ∧ q ≠ some b) w 4 x.V x.A x.n x.c
  box : ∀ b, (p = some b ∨ q = some b) → u.heap.size ≤ b ∧ b < w.heap.size ∧ Box2 w b (.int .i64 0) (.slice none 0 0)
  pq : ∀ b, p = some b → q ≠ some b
abbrev zeroBox2 : Obj := .cells #[.int .i64 0, .slice none 0 0] 27
section
variable {g : Nat} {u w : World} {p q : Option Nat} {vs : List VlAt}
theorem ST2.start (hs : Src w g) (hb : But g u w) : ST2 g u w none none [] :=
  ⟨hs, hb, fun x hx => by simp at hx, fun x hx => by simp at hx, fun b hb => by simp at hb, fun _ h => by simp at h⟩
theorem ST2.call (h : ST2 g u w p q vs) (hg : g < u.heap.size) {w1 : World} {x : VlAt} (hx : VlRd (fun b => w.heap.size ≤ b) w1 4 x.V x.A x.n x.c) (ht : x.V.i ≤ 2001) (hs : Src w1 g) (hb : But g w w1) : ST2 g u w1 p q (vs ++ [x]) := by
  refine ⟨hs, h.but.trans hb, fun y hy => ?_, fun y hy => ?_, fun b hb' => ?_, h.pq⟩
  · rcases List.mem_append.1 hy with hy | hy
    · exact h.top y hy
    · rw [List.mem_singleton.1 hy]; exact ht
  · have hz := h.but.size
    rcases List.mem_append.1 hy with hy | hy
    · exact (h.vals y hy).keep hb.size (fun b hS hl => hb.block b hl (by have := hS.1; omega)) fun b hS => ⟨hS.1, Nat.lt_of_lt_of_le hS.2.1 hb.size, hS.2.2⟩
    · rw [List.mem_singleton] at hy
      subst hy
      refine hx.bound.keep (Nat.le_refl _) (fun _ _ _ => rfl) fun b hS => ⟨by omega, hS.2, fun e => ?_, fun e => ?_⟩
      · have := (h.box b (.inl e)).2.1; omega
      · have := (h.box b (.inr e)).2.1; omega
  · obtain ⟨h1, h2, h3⟩ := h.box b hb'
    exact ⟨h1, Nat.lt_of_lt_of_le h2 hb.size, h3.keep (hb.block b h2 (by omega))⟩
theorem ST2.vals_alloc (h : ST2 g u w p q vs) (p' q' : Option Nat) (hp : ∀ b, b < w.heap.size → p ≠ some b → p' ≠ some b) (hq : ∀ b, b < w.heap.size → q ≠ some b → q' ≠ some b) :
    ∀ x ∈ vs, VlRd (fun b => u.heap.size ≤ b ∧ b < (w.alloc zeroBox2).heap.size ∧ p' ≠ some b ∧ q' ≠ some b) (w.alloc zeroBox2) 4 x.V x.A x.n x.c := fun x hx =>
  (h.vals x hx).keep (allocB w zeroBox2).size (fun b _ hl => (allocB w zeroBox2).block b hl) fun b hS => ⟨hS.1, Nat.lt_of_lt_of_le hS.2.1 (allocB w zeroBox2).size, hp b hS.2.1 hS.2.2.1, hq b hS.2.1 hS.2.2.2⟩
theorem some_ne_old2 {b c : Nat} {x : Option Nat} (hb : b < c) (_ : x ≠ some b) : (some c : Option Nat) ≠ some b := fun e => by injection e with e; omega
theorem ST2.box_alloc (h : ST2 g u w p q vs) (b : Nat) (hb : b = w.heap.size ∨ (p = some b ∨ q = some b)) : u.heap.size ≤ b ∧ b < (w.alloc zeroBox2).heap.size ∧ Box2 (w.alloc zeroBox2) b (.int .i64 0) (.slice none 0 0) := by
  rcases hb with rfl | hb
  · exact ⟨h.but.size, by simp, box2_new _ _ _ _⟩
  · obtain ⟨h1, h2, h3⟩ := h.box b hb
    exact ⟨h1, Nat.lt_of_lt_of_le h2 (allocB w zeroBox2).size, h3.below (allocB w zeroBox2) h2⟩
theorem ST2.alloc5 (h : ST2 g u w none q vs) : ST2 g u (w.alloc zeroBox2) (some w.heap.size) q vs := by
  refine ⟨h.src.below (allocB w _), h.but.alloc _, h.top, h.vals_alloc _ _ (fun b hb e => some_ne_old2 hb e) (fun _ _ e => e), fun b hb => h.box_alloc b ?_, fun b e e' => ?_⟩
  · rcases hb with e | e
    · injection e with e; exact .inl e.symm
    · exact .inr (.inr e)
  · injection e with e; have := (h.box b (.inr e')).2.1; omega
theorem ST2.alloc6 (h : ST2 g u w p none vs) : ST2 g u (w.alloc zeroBox2) p (some w.heap.size) vs := by
  refine ⟨h.src.below (allocB w _), h.but.alloc _, h.top, h.vals_alloc _ _ (fun _ _ e => e) (fun b hb e => some_ne_old2 hb e), fun b hb => h.box_alloc b ?_, fun b e e' => ?_⟩
  · rcases hb with e | e
    · exact .inr (.inl e)
    · injection e with e; exact .inl e.symm
  · injection e' with e'; have := (h.box b (.inl e)).2.1; omega
end
/-- The two values lie in their boxes. -/
structure FIN2 (g : Nat) (u w : World) (p q : Nat) (x y : VlAt) : Prop where
  src : Src w g
  but : But g u w
  vx : VlRd (fun b => u.heap.size ≤ b) w 4 x.V x.A x.n x.c
  vy : VlRd (fun b => u.heap.size ≤ b) w 4 y.V y.A y.n y.c
  tx : x.V.i ≤ 2001
  tY : y.V.i ≤ 2001
  bx : Box2 w p (.int .i64 x.V.i) (.slice x.A x.n x.c)
  bY : Box2 w q (.int .i64 y.V.i) (.slice y.A y.n y.c)
  lt : p < w.heap.size ∧ q < w.heap.size
  lo : u.heap.size ≤ p ∧ u.heap.size ≤ q
theorem ST2.fin {g p q : Nat} {u w : World} {x y : VlAt} (h : ST2 g u w (some p) (some q) [x, y]) (hg : g < u.heap.size) :
    FIN2 g u ((((w.setCell ⟨p, 0, none⟩ (.int .i64 x.V.i)).setCell ⟨p, 1, none⟩ (.slice x.A x.n x.c)).setCell ⟨q, 0, none⟩ (.int .i64 y.V.i)).setCell ⟨q, 1, none⟩ (.slice y.A y.n y.c)) p q x y := by
  obtain ⟨p1, p2, p3⟩ := h.box p (.inl rfl)
  obtain ⟨q1, q2, q3⟩ := h.box q (.inr rfl)
  have hpq : p ≠ q := fun e => h.pq p rfl (by rw [e])
  have hv : ∀ v ∈ [x, y], VlRd (fun b => u.heap.size ≤ b) ((((w.setCell ⟨p, 0, none⟩ (.int .i64 x.V.i)).setCell ⟨p, 1, none⟩ (.slice x.A x.n x.c)).setCell ⟨q, 0, none⟩ (.int .i64 y.V.i)).setCell ⟨q, 1, none⟩ (.slice y.A y.n y.c)) 4 v.V v.A v.n v.c := by
    intro v hv
    have hp : ∀ b, (u.heap.size ≤ b ∧ b < w.heap.size ∧ some p ≠ some b ∧ some q ≠ some b) → b ≠ p := fun b hS e => hS.2.2.1 (by rw [e])
    have hq : ∀ b, (u.heap.size ≤ b ∧ b < w.heap.size ∧ some p ≠ some b ∧ some q ≠ some b) → b ≠ q := fun b hS e => hS.2.2.2 (by rw [e])
    exact ((((((h.vals v hv).set hp).set hp).set hq).set hq)).keep (Nat.le_refl _) (fun _ _ _ => rfl) fun b hS => hS.1
  refine ⟨(((h.src.setB (by omega)).setB (by omega)).setB (by omega)).setB (by omega), (((h.but.setB p1).setB p1).setB q1).setB q1, hv x (by simp), hv y (by simp), h.top x (by simp), h.top y (by simp), ?_, ?_, ?_, ⟨p1, q1⟩⟩
  · have h1 := (p3.set0 (.int .i64 x.V.i)).set1 (.slice x.A x.n x.c)
    exact (h1.keep (Below.heap_setCell _ _ _ _ hpq)).keep (Below.heap_setCell _ _ _ _ hpq)
  · exact (((q3.keep (Below.heap_setCell _ ⟨p, 0, none⟩ (.int .i64 x.V.i) _ (Ne.symm hpq))).keep (Below.heap_setCell _ ⟨p, 1, none⟩ (.slice x.A x.n x.c) _ (Ne.symm hpq))).set0 (.int .i64 y.V.i)).set1 (.slice y.A y.n y.c)
  · simp only [World.size_setCell]; exact ⟨p2, q2⟩

def ops2 : Array Oper := #[{ dst := some 18, op := Op.move (Operand.tmp 3), type := 33, pos := "law.go:114", after := #[], guard := none }, { dst := some 19, op := Op.load 24 (Operand.tmp 4), type := 24, pos := "law.go:114", after := #[], guard := none }, { dst := some 20, op := Op.call { callee := Callee.value (Operand.func 13), args := #[Operand.tmp 18, Operand.tmp 19], argTypes := #[33, 24] }, type := 27, pos := "law.go:114", after := #[{ on := 0, ground := Ground.data }, { on := 1, ground := Ground.data }], guard := none }, { dst := some 21, op := Op.move (Operand.tmp 3), type := 33, pos := "law.go:114", after := #[], guard := none }, { dst := some 22, op := Op.load 24 (Operand.tmp 4), type := 24, pos := "law.go:114", after := #[], guard := none }, { dst := some 23, op := Op.call { callee := Callee.value (Operand.func 13), args := #[Operand.tmp 21, Operand.tmp 22], argTypes := #[33, 24] }, type := 27, pos := "law.go:114", after := #[{ on := 3, ground := Ground.data }, { on := 4, ground := Ground.data }, { on := 2, ground := Ground.chain }], guard := none }, { dst := some 5, op := Op.alloc 27, type := 0, pos := "law.go:114", after := #[], guard := none }, { dst := some 6, op := Op.alloc 27, type := 0, pos := "law.go:114", after := #[], guard := none }, { dst := none, op := Op.store 27 (Operand.tmp 5) (Operand.tmp 20), type := 0, pos := "law.go:114", after := #[{ on := 6, ground := Ground.data }, { on := 2, ground := Ground.data }, { on := 5, ground := Ground.chain }, { on := 0, ground := Ground.phase }, { on := 1, ground := Ground.phase }, { on := 2, ground := Ground.phase }, { on := 3, ground := Ground.textOnly Departure.lateStores }, { on := 4, ground := Ground.textOnly Departure.lateStores }, { on := 5, ground := Ground.textOnly Departure.lateStoresUnsure }, { on := 6, ground := Ground.phase }, { on := 7, ground := Ground.phase }], guard := none }, { dst := none, op := Op.store 27 (Operand.tmp 6) (Operand.tmp 23), type := 0, pos := "law.go:114", after := #[{ on := 7, ground := Ground.data }, { on := 5, ground := Ground.data }, { on := 8, ground := Ground.chain }, { on := 0, ground := Ground.phase }, { on := 1, ground := Ground.phase }, { on := 2, ground := Ground.phase }, { on := 3, ground := Ground.phase }, { on := 4, ground := Ground.phase }, { on := 5, ground := Ground.phase }, { on := 6, ground := Ground.phase }, { on := 7, ground := Ground.phase }, { on := 8, ground := Ground.phase }], guard := none }]

set_option maxHeartbeats 4000000 in
theorem bs2_56 {g bt n c n2 c2 : Nat} {A A2 : Option Addr} {x12 x14 x15 x16 x17 : Value} {T : Ty} {u : World} {Q : Exit → Act → World → Prop} {S : World → Prop} (hg : g < u.heap.size)
    (HS : Hid (∀ W, But g u W → S W)) (_HC : Hid (∀ W, But g u W → Src W g → Calls Tryz.prog 13 #[.pointer (some ⟨g, 0, none⟩), .agg #[.int .i64 T.k, .int .i64 T.lo, .int .i64 T.hi, .int .i64 T.mx, .slice A2 n2 c2]] W (GivesSome 3 g W)))
    (HQ : Hid (∀ (W : World) (p q : Nat) (x y : VlAt), FIN2 g u W p q x y → Q .normal { tmps := #[.slice A n c, undef, .bool false, .pointer (some ⟨g, 0, none⟩), .pointer (some ⟨bt, 0, none⟩), .pointer (some ⟨p, 0, none⟩), .pointer (some ⟨q, 0, none⟩), undef, undef, .slice A n c, .pointer (some ⟨g, 0, none⟩), .pointer (some ⟨g, 0, none⟩), x12, .pointer (some ⟨g, 0, none⟩), x14, x15, x16, x17, .pointer (some ⟨g, 0, none⟩), .agg #[.int .i64 T.k, .int .i64 T.lo, .int .i64 T.hi, .int .i64 T.mx, .slice A2 n2 c2], vlV x.V x.A x.n x.c, .pointer (some ⟨g, 0, none⟩), .agg #[.int .i64 T.k, .int .i64 T.lo, .int .i64 T.hi, .int .i64 T.mx, .slice A2 n2 c2], vlV y.V y.A y.n y.c, undef, undef, undef, undef, undef, undef, undef, undef, undef, undef, undef, undef, undef, undef, undef, undef, undef, undef, undef, undef, undef, undef, undef, undef, undef, undef, undef, undef, undef, undef, undef, undef, undef, undef, undef, undef, undef, undef, undef], defers := [] } W)) {fuel : Nat} {listed : Array Bool} {a : Act} {w : World} {p q : Nat} {x y : VlAt} (I : ST2 g u w (some p) (some q) [x, y])
    (hf : fuel = 2) (hl : listed = #[true, true, true, true, true, true, true, true, false, false]) (ha : a = { tmps := #[.slice A n c, undef, .bool false, .pointer (some ⟨g, 0, none⟩), .pointer (some ⟨bt, 0, none⟩), .pointer (some ⟨p, 0, none⟩), .pointer (some ⟨q, 0, none⟩), undef, undef, .slice A n c, .pointer (some ⟨g, 0, none⟩), .pointer (some ⟨g, 0, none⟩), x12, .pointer (some ⟨g, 0, none⟩), x14, x15, x16, x17, .pointer (some ⟨g, 0, none⟩), .agg #[.int .i64 T.k, .int .i64 T.lo, .int .i64 T.hi, .int .i64 T.mx, .slice A2 n2 c2], vlV x.V x.A x.n x.c, .pointer (some ⟨g, 0, none⟩), .agg #[.int .i64 T.k, .int .i64 T.lo, .int .i64 T.hi, .int .i64 T.mx, .slice A2 n2 c2], vlV y.V y.A y.n y.c, undef, undef, undef, undef, undef, undef, undef, undef, undef, undef, undef, undef, undef, undef, undef, undef, undef, undef, undef, undef, undef, undef, undef, undef, undef, undef, undef, undef, undef, undef, undef, undef, undef, undef, undef, undef, undef, undef, undef], defers := [] }) : wpAnyH Tryz.prog .any ops2 Q S fuel listed a w := by
  subst hf hl ha
  have HFIN := Lib.hid (I.fin hg)
  obtain ⟨p1, p2, p3⟩ := I.box p (.inl rfl)
  obtain ⟨q1, q2, q3⟩ := I.box q (.inr rfl)
  have hpq : p ≠ q := fun e => I.pq p rfl (by rw [e])
  have hb := I.but
  have hb1 := (hb.setB (j := 0) (u := .int .i64 x.V.i) p1).setB (j := 1) (u := .slice x.A x.n x.c) p1
  have hb2 := (hb1.setB (j := 0) (u := .int .i64 y.V.i) q1).setB (j := 1) (u := .slice y.A y.n y.c) q1
  have k1 := HS.out _ hb1
  have k2 := HS.out _ hb2
  obtain ⟨w1, hw1⟩ : ∃ w1, (w.setCell ⟨p, 0, none⟩ (.int .i64 x.V.i)).setCell ⟨p, 1, none⟩ (.slice x.A x.n x.c) = w1 := ⟨_, rfl⟩
  obtain ⟨w2, hw2⟩ : ∃ w2, (w1.setCell ⟨q, 0, none⟩ (.int .i64 y.V.i)).setCell ⟨q, 1, none⟩ (.slice y.A y.n y.c) = w2 := ⟨_, rfl⟩
  have hq1 : Box2 w1 q (.int .i64 0) (.slice none 0 0) := by rw [← hw1]; exact (q3.keep (Below.heap_setCell _ _ _ _ (Ne.symm hpq))).keep (Below.heap_setCell _ _ _ _ (Ne.symm hpq))
  rw [hw1] at hb1 hb2 k1 k2 HFIN
  rw [hw2] at hb2 k2 HFIN
  have W1 := Lib.hid hw1
  have W2 := Lib.hid hw2
  clear hw1 hw2 hb hb1 hb2 I hpq q3
  obtain ⟨p30, p31, pf0, pf1⟩ := p3
  refine wpAnyH_ready (rs := [8]) (by kernel_rfl) (by simp) ?_
  refine AllReadyH.cons (o := ⟨none, _, _, _, _, _⟩) rfl (fun K hK => ?_) AllReadyH.nil
  go_simp
  rw [W1.out]
  clear p30 p31 pf0 pf1
  refine hK.out _ _ k1 (fun hHeld => ?_)
  clear hK K
  try simp only [List.setIfInBounds_toArray, List.set_cons_zero, List.set_cons_succ]
  obtain ⟨q30, q31, qf0, qf1⟩ := hq1
  refine wpAnyH_ready (rs := [9]) (by kernel_rfl) (by simp) ?_
  refine AllReadyH.cons (o := ⟨none, _, _, _, _, _⟩) rfl (fun K hK => ?_) AllReadyH.nil
  go_simp
  rw [W2.out]
  clear q30 q31 qf0 qf1
  refine hK.out _ _ k2 (fun hHeld => ?_)
  clear hK K
  try simp only [List.setIfInBounds_toArray, List.set_cons_zero, List.set_cons_succ]
  exact wpAnyH_done (by kernel_rfl) (HQ.out _ _ _ _ _ HFIN.out) _


set_option maxHeartbeats 4000000 in
theorem bs2_5 {g bt n c n2 c2 : Nat} {A A2 : Option Addr} {x12 x14 x15 x16 x17 : Value} {T : Ty} {u : World} {Q : Exit → Act → World → Prop} {S : World → Prop} (hg : g < u.heap.size)
    (HS : Hid (∀ W, But g u W → S W)) (HC : Hid (∀ W, But g u W → Src W g → Calls Tryz.prog 13 #[.pointer (some ⟨g, 0, none⟩), .agg #[.int .i64 T.k, .int .i64 T.lo, .int .i64 T.hi, .int .i64 T.mx, .slice A2 n2 c2]] W (GivesSome 3 g W)))
    (HQ : Hid (∀ (W : World) (p q : Nat) (x y : VlAt), FIN2 g u W p q x y → Q .normal { tmps := #[.slice A n c, undef, .bool false, .pointer (some ⟨g, 0, none⟩), .pointer (some ⟨bt, 0, none⟩), .pointer (some ⟨p, 0, none⟩), .pointer (some ⟨q, 0, none⟩), undef, undef, .slice A n c, .pointer (some ⟨g, 0, none⟩), .pointer (some ⟨g, 0, none⟩), x12, .pointer (some ⟨g, 0, none⟩), x14, x15, x16, x17, .pointer (some ⟨g, 0, none⟩), .agg #[.int .i64 T.k, .int .i64 T.lo, .int .i64 T.hi, .int .i64 T.mx, .slice A2 n2 c2], vlV x.V x.A x.n x.c, .pointer (some ⟨g, 0, none⟩), .agg #[.int .i64 T.k, .int .i64 T.lo, .int .i64 T.hi, .int .i64 T.mx, .slice A2 n2 c2], vlV y.V y.A y.n y.c, undef, undef, undef, undef, undef, undef, undef, undef, undef, undef, undef, undef, undef, undef, undef, undef, undef, undef, undef, undef, undef, undef, undef, undef, undef, undef, undef, undef, undef, undef, undef, undef, undef, undef, undef, undef, undef, undef, undef], defers := [] } W)) {fuel : Nat} {listed : Array Bool} {a : Act} {w : World} {p : Nat} {x y : VlAt} (I : ST2 g u w (some p) none [x, y])
    (hf : fuel = 3) (hl : listed = #[true, true, true, true, true, true, true, false, false, false]) (ha : a = { tmps := #[.slice A n c, undef, .bool false, .pointer (some ⟨g, 0, none⟩), .pointer (some ⟨bt, 0, none⟩), .pointer (some ⟨p, 0, none⟩), undef, undef, undef, .slice A n c, .pointer (some ⟨g, 0, none⟩), .pointer (some ⟨g, 0, none⟩), x12, .pointer (some ⟨g, 0, none⟩), x14, x15, x16, x17, .pointer (some ⟨g, 0, none⟩), .agg #[.int .i64 T.k, .int .i64 T.lo, .int .i64 T.hi, .int .i64 T.mx, .slice A2 n2 c2], vlV x.V x.A x.n x.c, .pointer (some ⟨g, 0, none⟩), .agg #[.int .i64 T.k, .int .i64 T.lo, .int .i64 T.hi, .int .i64 T.mx, .slice A2 n2 c2], vlV y.V y.A y.n y.c, undef, undef, undef, undef, undef, undef, undef, undef, undef, undef, undef, undef, undef, undef, undef, undef, undef, undef, undef, undef, undef, undef, undef, undef, undef, undef, undef, undef, undef, undef, undef, undef, undef, undef, undef, undef, undef, undef, undef], defers := [] }) : wpAnyH Tryz.prog .any ops2 Q S fuel listed a w := by
  subst hf hl ha
  refine wpAnyH_ready (rs := [7]) (by kernel_rfl) (by simp) ?_
  refine AllReadyH.cons (o := ⟨some 6, _, _, _, _, _⟩) rfl (fun K hK => ?_) AllReadyH.nil
  · go_simp
    have I1 := I.alloc6
    refine hK.out _ _ (HS.out _ I1.but) (fun hHeld => ?_)
    clear hK K
    try simp only [List.setIfInBounds_toArray, List.set_cons_zero, List.set_cons_succ]
    exact bs2_56 hg HS HC HQ I1 (by kernel_rfl) (by kernel_rfl) rfl

set_option maxHeartbeats 4000000 in
theorem bs2_6 {g bt n c n2 c2 : Nat} {A A2 : Option Addr} {x12 x14 x15 x16 x17 : Value} {T : Ty} {u : World} {Q : Exit → Act → World → Prop} {S : World → Prop} (hg : g < u.heap.size)
    (HS : Hid (∀ W, But g u W → S W)) (HC : Hid (∀ W, But g u W → Src W g → Calls Tryz.prog 13 #[.pointer (some ⟨g, 0, none⟩), .agg #[.int .i64 T.k, .int .i64 T.lo, .int .i64 T.hi, .int .i64 T.mx, .slice A2 n2 c2]] W (GivesSome 3 g W)))
    (HQ : Hid (∀ (W : World) (p q : Nat) (x y : VlAt), FIN2 g u W p q x y → Q .normal { tmps := #[.slice A n c, undef, .bool false, .pointer (some ⟨g, 0, none⟩), .pointer (some ⟨bt, 0, none⟩), .pointer (some ⟨p, 0, none⟩), .pointer (some ⟨q, 0, none⟩), undef, undef, .slice A n c, .pointer (some ⟨g, 0, none⟩), .pointer (some ⟨g, 0, none⟩), x12, .pointer (some ⟨g, 0, none⟩), x14, x15, x16, x17, .pointer (some ⟨g, 0, none⟩), .agg #[.int .i64 T.k, .int .i64 T.lo, .int .i64 T.hi, .int .i64 T.mx, .slice A2 n2 c2], vlV x.V x.A x.n x.c, .pointer (some ⟨g, 0, none⟩), .agg #[.int .i64 T.k, .int .i64 T.lo, .int .i64 T.hi, .int .i64 T.mx, .slice A2 n2 c2], vlV y.V y.A y.n y.c, undef, undef, undef, undef, undef, undef, undef, undef, undef, undef, undef, undef, undef, undef, undef, undef, undef, undef, undef, undef, undef, undef, undef, undef, undef, undef, undef, undef, undef, undef, undef, undef, undef, undef, undef, undef, undef, undef, undef], defers := [] } W)) {fuel : Nat} {listed : Array Bool} {a : Act} {w : World} {q : Nat} {x y : VlAt} (I : ST2 g u w none (some q) [x, y])
    (hf : fuel = 3) (hl : listed = #[true, true, true, true, true, true, false, true, false, false]) (ha : a = { tmps := #[.slice A n c, undef, .bool false, .pointer (some ⟨g, 0, none⟩), .pointer (some ⟨bt, 0, none⟩), undef, .pointer (some ⟨q, 0, none⟩), undef, undef, .slice A n c, .pointer (some ⟨g, 0, none⟩), .pointer (some ⟨g, 0, none⟩), x12, .pointer (some ⟨g, 0, none⟩), x14, x15, x16, x17, .pointer (some ⟨g, 0, none⟩), .agg #[.int .i64 T.k, .int .i64 T.lo, .int .i64 T.hi, .int .i64 T.mx, .slice A2 n2 c2], vlV x.V x.A x.n x.c, .pointer (some ⟨g, 0, none⟩), .agg #[.int .i64 T.k, .int .i64 T.lo, .int .i64 T.hi, .int .i64 T.mx, .slice A2 n2 c2], vlV y.V y.A y.n y.c, undef, undef, undef, undef, undef, undef, undef, undef, undef, undef, undef, undef, undef, undef, undef, undef, undef, undef, undef, undef, undef, undef, undef, undef, undef, undef, undef, undef, undef, undef, undef, undef, undef, undef, undef, undef, undef, undef, undef], defers := [] }) : wpAnyH Tryz.prog .any ops2 Q S fuel listed a w := by
  subst hf hl ha
  refine wpAnyH_ready (rs := [6]) (by kernel_rfl) (by simp) ?_
  refine AllReadyH.cons (o := ⟨some 5, _, _, _, _, _⟩) rfl (fun K hK => ?_) AllReadyH.nil
  · go_simp
    have I1 := I.alloc5
    refine hK.out _ _ (HS.out _ I1.but) (fun hHeld => ?_)
    clear hK K
    try simp only [List.setIfInBounds_toArray, List.set_cons_zero, List.set_cons_succ]
    exact bs2_56 hg HS HC HQ I1 (by kernel_rfl) (by kernel_rfl) rfl

set_option maxHeartbeats 4000000 in
theorem bs1_56 {g bt n c n2 c2 : Nat} {A A2 : Option Addr} {x12 x14 x15 x16 x17 : Value} {T : Ty} {u : World} {Q : Exit → Act → World → Prop} {S : World → Prop} (hg : g < u.heap.size)
    (HS : Hid (∀ W, But g u W → S W)) (HC : Hid (∀ W, But g u W → Src W g → Calls Tryz.prog 13 #[.pointer (some ⟨g, 0, none⟩), .agg #[.int .i64 T.k, .int .i64 T.lo, .int .i64 T.hi, .int .i64 T.mx, .slice A2 n2 c2]] W (GivesSome 3 g W)))
    (HQ : Hid (∀ (W : World) (p q : Nat) (x y : VlAt), FIN2 g u W p q x y → Q .normal { tmps := #[.slice A n c, undef, .bool false, .pointer (some ⟨g, 0, none⟩), .pointer (some ⟨bt, 0, none⟩), .pointer (some ⟨p, 0, none⟩), .pointer (some ⟨q, 0, none⟩), undef, undef, .slice A n c, .pointer (some ⟨g, 0, none⟩), .pointer (some ⟨g, 0, none⟩), x12, .pointer (some ⟨g, 0, none⟩), x14, x15, x16, x17, .pointer (some ⟨g, 0, none⟩), .agg #[.int .i64 T.k, .int .i64 T.lo, .int .i64 T.hi, .int .i64 T.mx, .slice A2 n2 c2], vlV x.V x.A x.n x.c, .pointer (some ⟨g, 0, none⟩), .agg #[.int .i64 T.k, .int .i64 T.lo, .int .i64 T.hi, .int .i64 T.mx, .slice A2 n2 c2], vlV y.V y.A y.n y.c, undef, undef, undef, undef, undef, undef, undef, undef, undef, undef, undef, undef, undef, undef, undef, undef, undef, undef, undef, undef, undef, undef, undef, undef, undef, undef, undef, undef, undef, undef, undef, undef, undef, undef, undef, undef, undef, undef, undef], defers := [] } W)) {fuel : Nat} {listed : Array Bool} {a : Act} {w : World} {p q : Nat} {x : VlAt} (I : ST2 g u w (some p) (some q) [x])
    (hf : fuel = 3) (hl : listed = #[true, true, true, true, true, false, true, true, false, false]) (ha : a = { tmps := #[.slice A n c, undef, .bool false, .pointer (some ⟨g, 0, none⟩), .pointer (some ⟨bt, 0, none⟩), .pointer (some ⟨p, 0, none⟩), .pointer (some ⟨q, 0, none⟩), undef, undef, .slice A n c, .pointer (some ⟨g, 0, none⟩), .pointer (some ⟨g, 0, none⟩), x12, .pointer (some ⟨g, 0, none⟩), x14, x15, x16, x17, .pointer (some ⟨g, 0, none⟩), .agg #[.int .i64 T.k, .int .i64 T.lo, .int .i64 T.hi, .int .i64 T.mx, .slice A2 n2 c2], vlV x.V x.A x.n x.c, .pointer (some ⟨g, 0, none⟩), .agg #[.int .i64 T.k, .int .i64 T.lo, .int .i64 T.hi, .int .i64 T.mx, .slice A2 n2 c2], undef, undef, undef, undef, undef, undef, undef, undef, undef, undef, undef, undef, undef, undef, undef, undef, undef, undef, undef, undef, undef, undef, undef, undef, undef, undef, undef, undef, undef, undef, undef, undef, undef, undef, undef, undef, undef, undef, undef, undef], defers := [] }) : wpAnyH Tryz.prog .any ops2 Q S fuel listed a w := by
  subst hf hl ha
  refine wpAnyH_ready (rs := [5]) (by kernel_rfl) (by simp) ?_
  refine AllReadyH.cons (o := ⟨some 23, _, _, _, _, _⟩) rfl (fun K hK => ?_) AllReadyH.nil
  · go_simp
    go_at_call 13
    (with_reducible refine (HC.out w I.but I.src).mono ?_)
    rintro e1 w1 ⟨V1, A1, n1, c1, rfl, hrd1, ht1, hs1, hb1⟩
    have I1 := I.call hg (x := ⟨V1, A1, n1, c1⟩) hrd1 ht1.2 hs1 hb1
    go_wp2_with fail
    refine hK.out _ _ (HS.out _ I1.but) (fun hHeld => ?_)
    clear hK K
    try simp only [List.setIfInBounds_toArray, List.set_cons_zero, List.set_cons_succ]
    exact bs2_56 hg HS HC HQ I1 (by kernel_rfl) (by kernel_rfl) rfl

set_option maxHeartbeats 4000000 in
theorem bs2_0 {g bt n c n2 c2 : Nat} {A A2 : Option Addr} {x12 x14 x15 x16 x17 : Value} {T : Ty} {u : World} {Q : Exit → Act → World → Prop} {S : World → Prop} (hg : g < u.heap.size)
    (HS : Hid (∀ W, But g u W → S W)) (HC : Hid (∀ W, But g u W → Src W g → Calls Tryz.prog 13 #[.pointer (some ⟨g, 0, none⟩), .agg #[.int .i64 T.k, .int .i64 T.lo, .int .i64 T.hi, .int .i64 T.mx, .slice A2 n2 c2]] W (GivesSome 3 g W)))
    (HQ : Hid (∀ (W : World) (p q : Nat) (x y : VlAt), FIN2 g u W p q x y → Q .normal { tmps := #[.slice A n c, undef, .bool false, .pointer (some ⟨g, 0, none⟩), .pointer (some ⟨bt, 0, none⟩), .pointer (some ⟨p, 0, none⟩), .pointer (some ⟨q, 0, none⟩), undef, undef, .slice A n c, .pointer (some ⟨g, 0, none⟩), .pointer (some ⟨g, 0, none⟩), x12, .pointer (some ⟨g, 0, none⟩), x14, x15, x16, x17, .pointer (some ⟨g, 0, none⟩), .agg #[.int .i64 T.k, .int .i64 T.lo, .int .i64 T.hi, .int .i64 T.mx, .slice A2 n2 c2], vlV x.V x.A x.n x.c, .pointer (some ⟨g, 0, none⟩), .agg #[.int .i64 T.k, .int .i64 T.lo, .int .i64 T.hi, .int .i64 T.mx, .slice A2 n2 c2], vlV y.V y.A y.n y.c, undef, undef, undef, undef, undef, undef, undef, undef, undef, undef, undef, undef, undef, undef, undef, undef, undef, undef, undef, undef, undef, undef, undef, undef, undef, undef, undef, undef, undef, undef, undef, undef, undef, undef, undef, undef, undef, undef, undef], defers := [] } W)) {fuel : Nat} {listed : Array Bool} {a : Act} {w : World} {x y : VlAt} (I : ST2 g u w none none [x, y])
    (hf : fuel = 4) (hl : listed = #[true, true, true, true, true, true, false, false, false, false]) (ha : a = { tmps := #[.slice A n c, undef, .bool false, .pointer (some ⟨g, 0, none⟩), .pointer (some ⟨bt, 0, none⟩), undef, undef, undef, undef, .slice A n c, .pointer (some ⟨g, 0, none⟩), .pointer (some ⟨g, 0, none⟩), x12, .pointer (some ⟨g, 0, none⟩), x14, x15, x16, x17, .pointer (some ⟨g, 0, none⟩), .agg #[.int .i64 T.k, .int .i64 T.lo, .int .i64 T.hi, .int .i64 T.mx, .slice A2 n2 c2], vlV x.V x.A x.n x.c, .pointer (some ⟨g, 0, none⟩), .agg #[.int .i64 T.k, .int .i64 T.lo, .int .i64 T.hi, .int .i64 T.mx, .slice A2 n2 c2], vlV y.V y.A y.n y.c, undef, undef, undef, undef, undef, undef, undef, undef, undef, undef, undef, undef, undef, undef, undef, undef, undef, undef, undef, undef, undef, undef, undef, undef, undef, undef, undef, undef, undef, undef, undef, undef, undef, undef, undef, undef, undef, undef, undef], defers := [] }) : wpAnyH Tryz.prog .any ops2 Q S fuel listed a w := by
  subst hf hl ha
  refine wpAnyH_ready (rs := [6, 7]) (by kernel_rfl) (by simp) ?_
  refine AllReadyH.cons (o := ⟨some 5, _, _, _, _, _⟩) rfl (fun K hK => ?_) (AllReadyH.cons (o := ⟨some 6, _, _, _, _, _⟩) rfl (fun K hK => ?_) AllReadyH.nil)
  · go_simp
    have I1 := I.alloc5
    refine hK.out _ _ (HS.out _ I1.but) (fun hHeld => ?_)
    clear hK K
    try simp only [List.setIfInBounds_toArray, List.set_cons_zero, List.set_cons_succ]
    exact bs2_5 hg HS HC HQ I1 (by kernel_rfl) (by kernel_rfl) rfl
  · go_simp
    have I1 := I.alloc6
    refine hK.out _ _ (HS.out _ I1.but) (fun hHeld => ?_)
    clear hK K
    try simp only [List.setIfInBounds_toArray, List.set_cons_zero, List.set_cons_succ]
    exact bs2_6 hg HS HC HQ I1 (by kernel_rfl) (by kernel_rfl) rfl

set_option maxHeartbeats 4000000 in
theorem bs1_5 {g bt n c n2 c2 : Nat} {A A2 : Option Addr} {x12 x14 x15 x16 x17 : Value} {T : Ty} {u : World} {Q : Exit → Act → World → Prop} {S : World → Prop} (hg : g < u.heap.size)
    (HS : Hid (∀ W, But g u W → S W)) (HC : Hid (∀ W, But g u W → Src W g → Calls Tryz.prog 13 #[.pointer (some ⟨g, 0, none⟩), .agg #[.int .i64 T.k, .int .i64 T.lo, .int .i64 T.hi, .int .i64 T.mx, .slice A2 n2 c2]] W (GivesSome 3 g W)))
    (HQ : Hid (∀ (W : World) (p q : Nat) (x y : VlAt), FIN2 g u W p q x y → Q .normal { tmps := #[.slice A n c, undef, .bool false, .pointer (some ⟨g, 0, none⟩), .pointer (some ⟨bt, 0, none⟩), .pointer (some ⟨p, 0, none⟩), .pointer (some ⟨q, 0, none⟩), undef, undef, .slice A n c, .pointer (some ⟨g, 0, none⟩), .pointer (some ⟨g, 0, none⟩), x12, .pointer (some ⟨g, 0, none⟩), x14, x15, x16, x17, .pointer (some ⟨g, 0, none⟩), .agg #[.int .i64 T.k, .int .i64 T.lo, .int .i64 T.hi, .int .i64 T.mx, .slice A2 n2 c2], vlV x.V x.A x.n x.c, .pointer (some ⟨g, 0, none⟩), .agg #[.int .i64 T.k, .int .i64 T.lo, .int .i64 T.hi, .int .i64 T.mx, .slice A2 n2 c2], vlV y.V y.A y.n y.c, undef, undef, undef, undef, undef, undef, undef, undef, undef, undef, undef, undef, undef, undef, undef, undef, undef, undef, undef, undef, undef, undef, undef, undef, undef, undef, undef, undef, undef, undef, undef, undef, undef, undef, undef, undef, undef, undef, undef], defers := [] } W)) {fuel : Nat} {listed : Array Bool} {a : Act} {w : World} {p : Nat} {x : VlAt} (I : ST2 g u w (some p) none [x])
    (hf : fuel = 4) (hl : listed = #[true, true, true, true, true, false, true, false, false, false]) (ha : a = { tmps := #[.slice A n c, undef, .bool false, .pointer (some ⟨g, 0, none⟩), .pointer (some ⟨bt, 0, none⟩), .pointer (some ⟨p, 0, none⟩), undef, undef, undef, .slice A n c, .pointer (some ⟨g, 0, none⟩), .pointer (some ⟨g, 0, none⟩), x12, .pointer (some ⟨g, 0, none⟩), x14, x15, x16, x17, .pointer (some ⟨g, 0, none⟩), .agg #[.int .i64 T.k, .int .i64 T.lo, .int .i64 T.hi, .int .i64 T.mx, .slice A2 n2 c2], vlV x.V x.A x.n x.c, .pointer (some ⟨g, 0, none⟩), .agg #[.int .i64 T.k, .int .i64 T.lo, .int .i64 T.hi, .int .i64 T.mx, .slice A2 n2 c2], undef, undef, undef, undef, undef, undef, undef, undef, undef, undef, undef, undef, undef, undef, undef, undef, undef, undef, undef, undef, undef, undef, undef, undef, undef, undef, undef, undef, undef, undef, undef, undef, undef, undef, undef, undef, undef, undef, undef, undef], defers := [] }) : wpAnyH Tryz.prog .any ops2 Q S fuel listed a w := by
  subst hf hl ha
  refine wpAnyH_ready (rs := [5, 7]) (by kernel_rfl) (by simp) ?_
  refine AllReadyH.cons (o := ⟨some 23, _, _, _, _, _⟩) rfl (fun K hK => ?_) (AllReadyH.cons (o := ⟨some 6, _, _, _, _, _⟩) rfl (fun K hK => ?_) AllReadyH.nil)
  · go_simp
    go_at_call 13
    (with_reducible refine (HC.out w I.but I.src).mono ?_)
    rintro e1 w1 ⟨V1, A1, n1, c1, rfl, hrd1, ht1, hs1, hb1⟩
    have I1 := I.call hg (x := ⟨V1, A1, n1, c1⟩) hrd1 ht1.2 hs1 hb1
    go_wp2_with fail
    refine hK.out _ _ (HS.out _ I1.but) (fun hHeld => ?_)
    clear hK K
    try simp only [List.setIfInBounds_toArray, List.set_cons_zero, List.set_cons_succ]
    exact bs2_5 hg HS HC HQ I1 (by kernel_rfl) (by kernel_rfl) rfl
  · go_simp
    have I1 := I.alloc6
    refine hK.out _ _ (HS.out _ I1.but) (fun hHeld => ?_)
    clear hK K
    try simp only [List.setIfInBounds_toArray, List.set_cons_zero, List.set_cons_succ]
    exact bs1_56 hg HS HC HQ I1 (by kernel_rfl) (by kernel_rfl) rfl

set_option maxHeartbeats 4000000 in
theorem bs1_6 {g bt n c n2 c2 : Nat} {A A2 : Option Addr} {x12 x14 x15 x16 x17 : Value} {T : Ty} {u : World} {Q : Exit → Act → World → Prop} {S : World → Prop} (hg : g < u.heap.size)
    (HS : Hid (∀ W, But g u W → S W)) (HC : Hid (∀ W, But g u W → Src W g → Calls Tryz.prog 13 #[.pointer (some ⟨g, 0, none⟩), .agg #[.int .i64 T.k, .int .i64 T.lo, .int .i64 T.hi, .int .i64 T.mx, .slice A2 n2 c2]] W (GivesSome 3 g W)))
    (HQ : Hid (∀ (W : World) (p q : Nat) (x y : VlAt), FIN2 g u W p q x y → Q .normal { tmps := #[.slice A n c, undef, .bool false, .pointer (some ⟨g, 0, none⟩), .pointer (some ⟨bt, 0, none⟩), .pointer (some ⟨p, 0, none⟩), .pointer (some ⟨q, 0, none⟩), undef, undef, .slice A n c, .pointer (some ⟨g, 0, none⟩), .pointer (some ⟨g, 0, none⟩), x12, .pointer (some ⟨g, 0, none⟩), x14, x15, x16, x17, .pointer (some ⟨g, 0, none⟩), .agg #[.int .i64 T.k, .int .i64 T.lo, .int .i64 T.hi, .int .i64 T.mx, .slice A2 n2 c2], vlV x.V x.A x.n x.c, .pointer (some ⟨g, 0, none⟩), .agg #[.int .i64 T.k, .int .i64 T.lo, .int .i64 T.hi, .int .i64 T.mx, .slice A2 n2 c2], vlV y.V y.A y.n y.c, undef, undef, undef, undef, undef, undef, undef, undef, undef, undef, undef, undef, undef, undef, undef, undef, undef, undef, undef, undef, undef, undef, undef, undef, undef, undef, undef, undef, undef, undef, undef, undef, undef, undef, undef, undef, undef, undef, undef], defers := [] } W)) {fuel : Nat} {listed : Array Bool} {a : Act} {w : World} {q : Nat} {x : VlAt} (I : ST2 g u w none (some q) [x])
    (hf : fuel = 4) (hl : listed = #[true, true, true, true, true, false, false, true, false, false]) (ha : a = { tmps := #[.slice A n c, undef, .bool false, .pointer (some ⟨g, 0, none⟩), .pointer (some ⟨bt, 0, none⟩), undef, .pointer (some ⟨q, 0, none⟩), undef, undef, .slice A n c, .pointer (some ⟨g, 0, none⟩), .pointer (some ⟨g, 0, none⟩), x12, .pointer (some ⟨g, 0, none⟩), x14, x15, x16, x17, .pointer (some ⟨g, 0, none⟩), .agg #[.int .i64 T.k, .int .i64 T.lo, .int .i64 T.hi, .int .i64 T.mx, .slice A2 n2 c2], vlV x.V x.A x.n x.c, .pointer (some ⟨g, 0, none⟩), .agg #[.int .i64 T.k, .int .i64 T.lo, .int .i64 T.hi, .int .i64 T.mx, .slice A2 n2 c2], undef, undef, undef, undef, undef, undef, undef, undef, undef, undef, undef, undef, undef, undef, undef, undef, undef, undef, undef, undef, undef, undef, undef, undef, undef, undef, undef, undef, undef, undef, undef, undef, undef, undef, undef, undef, undef, undef, undef, undef], defers := [] }) : wpAnyH Tryz.prog .any ops2 Q S fuel listed a w := by
  subst hf hl ha
  refine wpAnyH_ready (rs := [5, 6]) (by kernel_rfl) (by simp) ?_
  refine AllReadyH.cons (o := ⟨some 23, _, _, _, _, _⟩) rfl (fun K hK => ?_) (AllReadyH.cons (o := ⟨some 5, _, _, _, _, _⟩) rfl (fun K hK => ?_) AllReadyH.nil)
  · go_simp
    go_at_call 13
    (with_reducible refine (HC.out w I.but I.src).mono ?_)
    rintro e1 w1 ⟨V1, A1, n1, c1, rfl, hrd1, ht1, hs1, hb1⟩
    have I1 := I.call hg (x := ⟨V1, A1, n1, c1⟩) hrd1 ht1.2 hs1 hb1
    go_wp2_with fail
    refine hK.out _ _ (HS.out _ I1.but) (fun hHeld => ?_)
    clear hK K
    try simp only [List.setIfInBounds_toArray, List.set_cons_zero, List.set_cons_succ]
    exact bs2_6 hg HS HC HQ I1 (by kernel_rfl) (by kernel_rfl) rfl
  · go_simp
    have I1 := I.alloc5
    refine hK.out _ _ (HS.out _ I1.but) (fun hHeld => ?_)
    clear hK K
    try simp only [List.setIfInBounds_toArray, List.set_cons_zero, List.set_cons_succ]
    exact bs1_56 hg HS HC HQ I1 (by kernel_rfl) (by kernel_rfl) rfl

set_option maxHeartbeats 4000000 in
theorem bs0_56 {g bt n c n2 c2 : Nat} {A A2 : Option Addr} {x12 x14 x15 x16 x17 : Value} {T : Ty} {u : World} {Q : Exit → Act → World → Prop} {S : World → Prop} (hg : g < u.heap.size)
    (HS : Hid (∀ W, But g u W → S W)) (HC : Hid (∀ W, But g u W → Src W g → Calls Tryz.prog 13 #[.pointer (some ⟨g, 0, none⟩), .agg #[.int .i64 T.k, .int .i64 T.lo, .int .i64 T.hi, .int .i64 T.mx, .slice A2 n2 c2]] W (GivesSome 3 g W)))
    (HQ : Hid (∀ (W : World) (p q : Nat) (x y : VlAt), FIN2 g u W p q x y → Q .normal { tmps := #[.slice A n c, undef, .bool false, .pointer (some ⟨g, 0, none⟩), .pointer (some ⟨bt, 0, none⟩), .pointer (some ⟨p, 0, none⟩), .pointer (some ⟨q, 0, none⟩), undef, undef, .slice A n c, .pointer (some ⟨g, 0, none⟩), .pointer (some ⟨g, 0, none⟩), x12, .pointer (some ⟨g, 0, none⟩), x14, x15, x16, x17, .pointer (some ⟨g, 0, none⟩), .agg #[.int .i64 T.k, .int .i64 T.lo, .int .i64 T.hi, .int .i64 T.mx, .slice A2 n2 c2], vlV x.V x.A x.n x.c, .pointer (some ⟨g, 0, none⟩), .agg #[.int .i64 T.k, .int .i64 T.lo, .int .i64 T.hi, .int .i64 T.mx, .slice A2 n2 c2], vlV y.V y.A y.n y.c, undef, undef, undef, undef, undef, undef, undef, undef, undef, undef, undef, undef, undef, undef, undef, undef, undef, undef, undef, undef, undef, undef, undef, undef, undef, undef, undef, undef, undef, undef, undef, undef, undef, undef, undef, undef, undef, undef, undef], defers := [] } W)) {fuel : Nat} {listed : Array Bool} {a : Act} {w : World} {p q : Nat} (I : ST2 g u w (some p) (some q) [])
    (hf : fuel = 4) (hl : listed = #[true, true, false, true, true, false, true, true, false, false]) (ha : a = { tmps := #[.slice A n c, undef, .bool false, .pointer (some ⟨g, 0, none⟩), .pointer (some ⟨bt, 0, none⟩), .pointer (some ⟨p, 0, none⟩), .pointer (some ⟨q, 0, none⟩), undef, undef, .slice A n c, .pointer (some ⟨g, 0, none⟩), .pointer (some ⟨g, 0, none⟩), x12, .pointer (some ⟨g, 0, none⟩), x14, x15, x16, x17, .pointer (some ⟨g, 0, none⟩), .agg #[.int .i64 T.k, .int .i64 T.lo, .int .i64 T.hi, .int .i64 T.mx, .slice A2 n2 c2], undef, .pointer (some ⟨g, 0, none⟩), .agg #[.int .i64 T.k, .int .i64 T.lo, .int .i64 T.hi, .int .i64 T.mx, .slice A2 n2 c2], undef, undef, undef, undef, undef, undef, undef, undef, undef, undef, undef, undef, undef, undef, undef, undef, undef, undef, undef, undef, undef, undef, undef, undef, undef, undef, undef, undef, undef, undef, undef, undef, undef, undef, undef, undef, undef, undef, undef, undef], defers := [] }) : wpAnyH Tryz.prog .any ops2 Q S fuel listed a w := by
  subst hf hl ha
  refine wpAnyH_ready (rs := [2]) (by kernel_rfl) (by simp) ?_
  refine AllReadyH.cons (o := ⟨some 20, _, _, _, _, _⟩) rfl (fun K hK => ?_) AllReadyH.nil
  · go_simp
    go_at_call 13
    (with_reducible refine (HC.out w I.but I.src).mono ?_)
    rintro e1 w1 ⟨V1, A1, n1, c1, rfl, hrd1, ht1, hs1, hb1⟩
    have I1 := I.call hg (x := ⟨V1, A1, n1, c1⟩) hrd1 ht1.2 hs1 hb1
    go_wp2_with fail
    refine hK.out _ _ (HS.out _ I1.but) (fun hHeld => ?_)
    clear hK K
    try simp only [List.setIfInBounds_toArray, List.set_cons_zero, List.set_cons_succ]
    exact bs1_56 hg HS HC HQ I1 (by kernel_rfl) (by kernel_rfl) rfl

set_option maxHeartbeats 4000000 in
theorem bs1_0 {g bt n c n2 c2 : Nat} {A A2 : Option Addr} {x12 x14 x15 x16 x17 : Value} {T : Ty} {u : World} {Q : Exit → Act → World → Prop} {S : World → Prop} (hg : g < u.heap.size)
    (HS : Hid (∀ W, But g u W → S W)) (HC : Hid (∀ W, But g u W → Src W g → Calls Tryz.prog 13 #[.pointer (some ⟨g, 0, none⟩), .agg #[.int .i64 T.k, .int .i64 T.lo, .int .i64 T.hi, .int .i64 T.mx, .slice A2 n2 c2]] W (GivesSome 3 g W)))
    (HQ : Hid (∀ (W : World) (p q : Nat) (x y : VlAt), FIN2 g u W p q x y → Q .normal { tmps := #[.slice A n c, undef, .bool false, .pointer (some ⟨g, 0, none⟩), .pointer (some ⟨bt, 0, none⟩), .pointer (some ⟨p, 0, none⟩), .pointer (some ⟨q, 0, none⟩), undef, undef, .slice A n c, .pointer (some ⟨g, 0, none⟩), .pointer (some ⟨g, 0, none⟩), x12, .pointer (some ⟨g, 0, none⟩), x14, x15, x16, x17, .pointer (some ⟨g, 0, none⟩), .agg #[.int .i64 T.k, .int .i64 T.lo, .int .i64 T.hi, .int .i64 T.mx, .slice A2 n2 c2], vlV x.V x.A x.n x.c, .pointer (some ⟨g, 0, none⟩), .agg #[.int .i64 T.k, .int .i64 T.lo, .int .i64 T.hi, .int .i64 T.mx, .slice A2 n2 c2], vlV y.V y.A y.n y.c, undef, undef, undef, undef, undef, undef, undef, undef, undef, undef, undef, undef, undef, undef, undef, undef, undef, undef, undef, undef, undef, undef, undef, undef, undef, undef, undef, undef, undef, undef, undef, undef, undef, undef, undef, undef, undef, undef, undef], defers := [] } W)) {fuel : Nat} {listed : Array Bool} {a : Act} {w : World} {x : VlAt} (I : ST2 g u w none none [x])
    (hf : fuel = 5) (hl : listed = #[true, true, true, true, true, false, false, false, false, false]) (ha : a = { tmps := #[.slice A n c, undef, .bool false, .pointer (some ⟨g, 0, none⟩), .pointer (some ⟨bt, 0, none⟩), undef, undef, undef, undef, .slice A n c, .pointer (some ⟨g, 0, none⟩), .pointer (some ⟨g, 0, none⟩), x12, .pointer (some ⟨g, 0, none⟩), x14, x15, x16, x17, .pointer (some ⟨g, 0, none⟩), .agg #[.int .i64 T.k, .int .i64 T.lo, .int .i64 T.hi, .int .i64 T.mx, .slice A2 n2 c2], vlV x.V x.A x.n x.c, .pointer (some ⟨g, 0, none⟩), .agg #[.int .i64 T.k, .int .i64 T.lo, .int .i64 T.hi, .int .i64 T.mx, .slice A2 n2 c2], undef, undef, undef, undef, undef, undef, undef, undef, undef, undef, undef, undef, undef, undef, undef, undef, undef, undef, undef, undef, undef, undef, undef, undef, undef, undef, undef, undef, undef, undef, undef, undef, undef, undef, undef, undef, undef, undef, undef, undef], defers := [] }) : wpAnyH Tryz.prog .any ops2 Q S fuel listed a w := by
  subst hf hl ha
  refine wpAnyH_ready (rs := [5, 6, 7]) (by kernel_rfl) (by simp) ?_
  refine AllReadyH.cons (o := ⟨some 23, _, _, _, _, _⟩) rfl (fun K hK => ?_) (AllReadyH.cons (o := ⟨some 5, _, _, _, _, _⟩) rfl (fun K hK => ?_) (AllReadyH.cons (o := ⟨some 6, _, _, _, _, _⟩) rfl (fun K hK => ?_) AllReadyH.nil))
  · go_simp
    go_at_call 13
    (with_reducible refine (HC.out w I.but I.src).mono ?_)
    rintro e1 w1 ⟨V1, A1, n1, c1, rfl, hrd1, ht1, hs1, hb1⟩
    have I1 := I.call hg (x := ⟨V1, A1, n1, c1⟩) hrd1 ht1.2 hs1 hb1
    go_wp2_with fail
    refine hK.out _ _ (HS.out _ I1.but) (fun hHeld => ?_)
    clear hK K
    try simp only [List.setIfInBounds_toArray, List.set_cons_zero, List.set_cons_succ]
    exact bs2_0 hg HS HC HQ I1 (by kernel_rfl) (by kernel_rfl) rfl
  · go_simp
    have I1 := I.alloc5
    refine hK.out _ _ (HS.out _ I1.but) (fun hHeld => ?_)
    clear hK K
    try simp only [List.setIfInBounds_toArray, List.set_cons_zero, List.set_cons_succ]
    exact bs1_5 hg HS HC HQ I1 (by kernel_rfl) (by kernel_rfl) rfl
  · go_simp
    have I1 := I.alloc6
    refine hK.out _ _ (HS.out _ I1.but) (fun hHeld => ?_)
    clear hK K
    try simp only [List.setIfInBounds_toArray, List.set_cons_zero, List.set_cons_succ]
    exact bs1_6 hg HS HC HQ I1 (by kernel_rfl) (by kernel_rfl) rfl

set_option maxHeartbeats 4000000 in
theorem bs0_5 {g bt n c n2 c2 : Nat} {A A2 : Option Addr} {x12 x14 x15 x16 x17 : Value} {T : Ty} {u : World} {Q : Exit → Act → World → Prop} {S : World → Prop} (hg : g < u.heap.size)
    (HS : Hid (∀ W, But g u W → S W)) (HC : Hid (∀ W, But g u W → Src W g → Calls Tryz.prog 13 #[.pointer (some ⟨g, 0, none⟩), .agg #[.int .i64 T.k, .int .i64 T.lo, .int .i64 T.hi, .int .i64 T.mx, .slice A2 n2 c2]] W (GivesSome 3 g W)))
    (HQ : Hid (∀ (W : World) (p q : Nat) (x y : VlAt), FIN2 g u W p q x y → Q .normal { tmps := #[.slice A n c, undef, .bool false, .pointer (some ⟨g, 0, none⟩), .pointer (some ⟨bt, 0, none⟩), .pointer (some ⟨p, 0, none⟩), .pointer (some ⟨q, 0, none⟩), undef, undef, .slice A n c, .pointer (some ⟨g, 0, none⟩), .pointer (some ⟨g, 0, none⟩), x12, .pointer (some ⟨g, 0, none⟩), x14, x15, x16, x17, .pointer (some ⟨g, 0, none⟩), .agg #[.int .i64 T.k, .int .i64 T.lo, .int .i64 T.hi, .int .i64 T.mx, .slice A2 n2 c2], vlV x.V x.A x.n x.c, .pointer (some ⟨g, 0, none⟩), .agg #[.int .i64 T.k, .int .i64 T.lo, .int .i64 T.hi, .int .i64 T.mx, .slice A2 n2 c2], vlV y.V y.A y.n y.c, undef, undef, undef, undef, undef, undef, undef, undef, undef, undef, undef, undef, undef, undef, undef, undef, undef, undef, undef, undef, undef, undef, undef, undef, undef, undef, undef, undef, undef, undef, undef, undef, undef, undef, undef, undef, undef, undef, undef], defers := [] } W)) {fuel : Nat} {listed : Array Bool} {a : Act} {w : World} {p : Nat} (I : ST2 g u w (some p) none [])
    (hf : fuel = 5) (hl : listed = #[true, true, false, true, true, false, true, false, false, false]) (ha : a = { tmps := #[.slice A n c, undef, .bool false, .pointer (some ⟨g, 0, none⟩), .pointer (some ⟨bt, 0, none⟩), .pointer (some ⟨p, 0, none⟩), undef, undef, undef, .slice A n c, .pointer (some ⟨g, 0, none⟩), .pointer (some ⟨g, 0, none⟩), x12, .pointer (some ⟨g, 0, none⟩), x14, x15, x16, x17, .pointer (some ⟨g, 0, none⟩), .agg #[.int .i64 T.k, .int .i64 T.lo, .int .i64 T.hi, .int .i64 T.mx, .slice A2 n2 c2], undef, .pointer (some ⟨g, 0, none⟩), .agg #[.int .i64 T.k, .int .i64 T.lo, .int .i64 T.hi, .int .i64 T.mx, .slice A2 n2 c2], undef, undef, undef, undef, undef, undef, undef, undef, undef, undef, undef, undef, undef, undef, undef, undef, undef, undef, undef, undef, undef, undef, undef, undef, undef, undef, undef, undef, undef, undef, undef, undef, undef, undef, undef, undef, undef, undef, undef, undef], defers := [] }) : wpAnyH Tryz.prog .any ops2 Q S fuel listed a w := by
  subst hf hl ha
  refine wpAnyH_ready (rs := [2, 7]) (by kernel_rfl) (by simp) ?_
  refine AllReadyH.cons (o := ⟨some 20, _, _, _, _, _⟩) rfl (fun K hK => ?_) (AllReadyH.cons (o := ⟨some 6, _, _, _, _, _⟩) rfl (fun K hK => ?_) AllReadyH.nil)
  · go_simp
    go_at_call 13
    (with_reducible refine (HC.out w I.but I.src).mono ?_)
    rintro e1 w1 ⟨V1, A1, n1, c1, rfl, hrd1, ht1, hs1, hb1⟩
    have I1 := I.call hg (x := ⟨V1, A1, n1, c1⟩) hrd1 ht1.2 hs1 hb1
    go_wp2_with fail
    refine hK.out _ _ (HS.out _ I1.but) (fun hHeld => ?_)
    clear hK K
    try simp only [List.setIfInBounds_toArray, List.set_cons_zero, List.set_cons_succ]
    exact bs1_5 hg HS HC HQ I1 (by kernel_rfl) (by kernel_rfl) rfl
  · go_simp
    have I1 := I.alloc6
    refine hK.out _ _ (HS.out _ I1.but) (fun hHeld => ?_)
    clear hK K
    try simp only [List.setIfInBounds_toArray, List.set_cons_zero, List.set_cons_succ]
    exact bs0_56 hg HS HC HQ I1 (by kernel_rfl) (by kernel_rfl) rfl

set_option maxHeartbeats 4000000 in
theorem bs0_6 {g bt n c n2 c2 : Nat} {A A2 : Option Addr} {x12 x14 x15 x16 x17 : Value} {T : Ty} {u : World} {Q : Exit → Act → World → Prop} {S : World → Prop} (hg : g < u.heap.size)
    (HS : Hid (∀ W, But g u W → S W)) (HC : Hid (∀ W, But g u W → Src W g → Calls Tryz.prog 13 #[.pointer (some ⟨g, 0, none⟩), .agg #[.int .i64 T.k, .int .i64 T.lo, .int .i64 T.hi, .int .i64 T.mx, .slice A2 n2 c2]] W (GivesSome 3 g W)))
    (HQ : Hid (∀ (W : World) (p q : Nat) (x y : VlAt), FIN2 g u W p q x y → Q .normal { tmps := #[.slice A n c, undef, .bool false, .pointer (some ⟨g, 0, none⟩), .pointer (some ⟨bt, 0, none⟩), .pointer (some ⟨p, 0, none⟩), .pointer (some ⟨q, 0, none⟩), undef, undef, .slice A n c, .pointer (some ⟨g, 0, none⟩), .pointer (some ⟨g, 0, none⟩), x12, .pointer (some ⟨g, 0, none⟩), x14, x15, x16, x17, .pointer (some ⟨g, 0, none⟩), .agg #[.int .i64 T.k, .int .i64 T.lo, .int .i64 T.hi, .int .i64 T.mx, .slice A2 n2 c2], vlV x.V x.A x.n x.c, .pointer (some ⟨g, 0, none⟩), .agg #[.int .i64 T.k, .int .i64 T.lo, .int .i64 T.hi, .int .i64 T.mx, .slice A2 n2 c2], vlV y.V y.A y.n y.c, undef, undef, undef, undef, undef, undef, undef, undef, undef, undef, undef, undef, undef, undef, undef, undef, undef, undef, undef, undef, undef, undef, undef, undef, undef, undef, undef, undef, undef, undef, undef, undef, undef, undef, undef, undef, undef, undef, undef], defers := [] } W)) {fuel : Nat} {listed : Array Bool} {a : Act} {w : World} {q : Nat} (I : ST2 g u w none (some q) [])
    (hf : fuel = 5) (hl : listed = #[true, true, false, true, true, false, false, true, false, false]) (ha : a = { tmps := #[.slice A n c, undef, .bool false, .pointer (some ⟨g, 0, none⟩), .pointer (some ⟨bt, 0, none⟩), undef, .pointer (some ⟨q, 0, none⟩), undef, undef, .slice A n c, .pointer (some ⟨g, 0, none⟩), .pointer (some ⟨g, 0, none⟩), x12, .pointer (some ⟨g, 0, none⟩), x14, x15, x16, x17, .pointer (some ⟨g, 0, none⟩), .agg #[.int .i64 T.k, .int .i64 T.lo, .int .i64 T.hi, .int .i64 T.mx, .slice A2 n2 c2], undef, .pointer (some ⟨g, 0, none⟩), .agg #[.int .i64 T.k, .int .i64 T.lo, .int .i64 T.hi, .int .i64 T.mx, .slice A2 n2 c2], undef, undef, undef, undef, undef, undef, undef, undef, undef, undef, undef, undef, undef, undef, undef, undef, undef, undef, undef, undef, undef, undef, undef, undef, undef, undef, undef, undef, undef, undef, undef, undef, undef, undef, undef, undef, undef, undef, undef, undef], defers := [] }) : wpAnyH Tryz.prog .any ops2 Q S fuel listed a w := by
  subst hf hl ha
  refine wpAnyH_ready (rs := [2, 6]) (by kernel_rfl) (by simp) ?_
  refine AllReadyH.cons (o := ⟨some 20, _, _, _, _, _⟩) rfl (fun K hK => ?_) (AllReadyH.cons (o := ⟨some 5, _, _, _, _, _⟩) rfl (fun K hK => ?_) AllReadyH.nil)
  · go_simp
    go_at_call 13
    (with_reducible refine (HC.out w I.but I.src).mono ?_)
    rintro e1 w1 ⟨V1, A1, n1, c1, rfl, hrd1, ht1, hs1, hb1⟩
    have I1 := I.call hg (x := ⟨V1, A1, n1, c1⟩) hrd1 ht1.2 hs1 hb1
    go_wp2_with fail
    refine hK.out _ _ (HS.out _ I1.but) (fun hHeld => ?_)
    clear hK K
    try simp only [List.setIfInBounds_toArray, List.set_cons_zero, List.set_cons_succ]
    exact bs1_6 hg HS HC HQ I1 (by kernel_rfl) (by kernel_rfl) rfl
  · go_simp
    have I1 := I.alloc5
    refine hK.out _ _ (HS.out _ I1.but) (fun hHeld => ?_)
    clear hK K
    try simp only [List.setIfInBounds_toArray, List.set_cons_zero, List.set_cons_succ]
    exact bs0_56 hg HS HC HQ I1 (by kernel_rfl) (by kernel_rfl) rfl

set_option maxHeartbeats 4000000 in
theorem bs0_0 {g bt n c n2 c2 : Nat} {A A2 : Option Addr} {x12 x14 x15 x16 x17 : Value} {T : Ty} {u : World} {Q : Exit → Act → World → Prop} {S : World → Prop} (hg : g < u.heap.size)
    (HS : Hid (∀ W, But g u W → S W)) (HC : Hid (∀ W, But g u W → Src W g → Calls Tryz.prog 13 #[.pointer (some ⟨g, 0, none⟩), .agg #[.int .i64 T.k, .int .i64 T.lo, .int .i64 T.hi, .int .i64 T.mx, .slice A2 n2 c2]] W (GivesSome 3 g W)))
    (HQ : Hid (∀ (W : World) (p q : Nat) (x y : VlAt), FIN2 g u W p q x y → Q .normal { tmps := #[.slice A n c, undef, .bool false, .pointer (some ⟨g, 0, none⟩), .pointer (some ⟨bt, 0, none⟩), .pointer (some ⟨p, 0, none⟩), .pointer (some ⟨q, 0, none⟩), undef, undef, .slice A n c, .pointer (some ⟨g, 0, none⟩), .pointer (some ⟨g, 0, none⟩), x12, .pointer (some ⟨g, 0, none⟩), x14, x15, x16, x17, .pointer (some ⟨g, 0, none⟩), .agg #[.int .i64 T.k, .int .i64 T.lo, .int .i64 T.hi, .int .i64 T.mx, .slice A2 n2 c2], vlV x.V x.A x.n x.c, .pointer (some ⟨g, 0, none⟩), .agg #[.int .i64 T.k, .int .i64 T.lo, .int .i64 T.hi, .int .i64 T.mx, .slice A2 n2 c2], vlV y.V y.A y.n y.c, undef, undef, undef, undef, undef, undef, undef, undef, undef, undef, undef, undef, undef, undef, undef, undef, undef, undef, undef, undef, undef, undef, undef, undef, undef, undef, undef, undef, undef, undef, undef, undef, undef, undef, undef, undef, undef, undef, undef], defers := [] } W)) {fuel : Nat} {listed : Array Bool} {a : Act} {w : World} (I : ST2 g u w none none [])
    (hf : fuel = 6) (hl : listed = #[true, true, false, true, true, false, false, false, false, false]) (ha : a = { tmps := #[.slice A n c, undef, .bool false, .pointer (some ⟨g, 0, none⟩), .pointer (some ⟨bt, 0, none⟩), undef, undef, undef, undef, .slice A n c, .pointer (some ⟨g, 0, none⟩), .pointer (some ⟨g, 0, none⟩), x12, .pointer (some ⟨g, 0, none⟩), x14, x15, x16, x17, .pointer (some ⟨g, 0, none⟩), .agg #[.int .i64 T.k, .int .i64 T.lo, .int .i64 T.hi, .int .i64 T.mx, .slice A2 n2 c2], undef, .pointer (some ⟨g, 0, none⟩), .agg #[.int .i64 T.k, .int .i64 T.lo, .int .i64 T.hi, .int .i64 T.mx, .slice A2 n2 c2], undef, undef, undef, undef, undef, undef, undef, undef, undef, undef, undef, undef, undef, undef, undef, undef, undef, undef, undef, undef, undef, undef, undef, undef, undef, undef, undef, undef, undef, undef, undef, undef, undef, undef, undef, undef, undef, undef, undef, undef], defers := [] }) : wpAnyH Tryz.prog .any ops2 Q S fuel listed a w := by
  subst hf hl ha
  refine wpAnyH_ready (rs := [2, 6, 7]) (by kernel_rfl) (by simp) ?_
  refine AllReadyH.cons (o := ⟨some 20, _, _, _, _, _⟩) rfl (fun K hK => ?_) (AllReadyH.cons (o := ⟨some 5, _, _, _, _, _⟩) rfl (fun K hK => ?_) (AllReadyH.cons (o := ⟨some 6, _, _, _, _, _⟩) rfl (fun K hK => ?_) AllReadyH.nil))
  · go_simp
    go_at_call 13
    (with_reducible refine (HC.out w I.but I.src).mono ?_)
    rintro e1 w1 ⟨V1, A1, n1, c1, rfl, hrd1, ht1, hs1, hb1⟩
    have I1 := I.call hg (x := ⟨V1, A1, n1, c1⟩) hrd1 ht1.2 hs1 hb1
    go_wp2_with fail
    refine hK.out _ _ (HS.out _ I1.but) (fun hHeld => ?_)
    clear hK K
    try simp only [List.setIfInBounds_toArray, List.set_cons_zero, List.set_cons_succ]
    exact bs1_0 hg HS HC HQ I1 (by kernel_rfl) (by kernel_rfl) rfl
  · go_simp
    have I1 := I.alloc5
    refine hK.out _ _ (HS.out _ I1.but) (fun hHeld => ?_)
    clear hK K
    try simp only [List.setIfInBounds_toArray, List.set_cons_zero, List.set_cons_succ]
    exact bs0_5 hg HS HC HQ I1 (by kernel_rfl) (by kernel_rfl) rfl
  · go_simp
    have I1 := I.alloc6
    refine hK.out _ _ (HS.out _ I1.but) (fun hHeld => ?_)
    clear hK K
    try simp only [List.setIfInBounds_toArray, List.set_cons_zero, List.set_cons_succ]
    exact bs0_6 hg HS HC HQ I1 (by kernel_rfl) (by kernel_rfl) rfl
end Go.Proofs.YtklndjkblfncjaaGreatDoor

namespace Go.Proofs.YtklndjkblfncjaaGreatDoor
open Go Go.RowKit
set_option maxRecDepth 20000

theorem In2.top {m : Int} : ∀ {l : List Int} {p : List (Int × Int × Int)}, In2 l p → (∀ y ∈ p, y.2.2 ≤ m) → ∀ x ∈ l, x ≤ m
  | [], [], _, _, x, hx => by cases hx
  | x :: l, p :: ps, h, hp, y, hy => by
    rcases List.mem_cons.1 hy with rfl | hy
    · have := hp p (by simp); have := h.1.2; omega
    · exact In2.top (l := l) (p := ps) h.2 (fun z hz => hp z (List.mem_cons_of_mem _ hz)) y hy
  | [], _ :: _, h, _, _, _ => h.elim
  | _ :: _, [], h, _, _, _ => h.elim
theorem parts_top : ∀ (d : Nat) (T : Ty), deepOk d T → TyOk d T → T.k ≠ 3 → T.k ≠ 4 → ∀ p ∈ tparts d T, p.2.2 ≤ 1000
  | 0, _, h, _, _, _ => h.elim
  | d + 1, T, hd, hok, h3, h4 => by
    intro p hp
    unfold tparts at hp
    by_cases k1 : T.k = 1
    · rw [if_pos k1] at hp; simp at hp; subst hp; decide
    · rw [if_neg k1] at hp
      by_cases k2 : T.k = 2
      · rw [if_pos k2] at hp; simp at hp; subst hp
        obtain ⟨⟨h1, h2, h5⟩, h6, h7⟩ := hok.int k2
        show T.hi ≤ 1000
        omega
      · rw [if_neg k2, if_neg (by omega)] at hp
        by_cases k6 : T.k = 6
        · rw [if_pos k6] at hp
          obtain ⟨_, h1, h4', e, he, hoe, hke⟩ := hok.list k6
          have hde : deepOk d e := hd e (by rw [he]; exact List.mem_singleton.2 rfl)
          rcases List.mem_cons.1 hp with rfl | hp
          · show T.mx ≤ 1000; omega
          · rw [he, List.headD_cons] at hp
            obtain ⟨l, hl, hpl⟩ := List.mem_flatten.1 hp
            rw [List.eq_of_mem_replicate hl] at hpl
            exact parts_top d e hde hoe (by omega) (by omega) p hpl
        · rw [if_neg k6] at hp
          obtain ⟨l, hl, hpl⟩ := List.mem_flatten.1 hp
          obtain ⟨e, he, rfl⟩ := List.mem_map.1 hl
          have k5 : T.k = 5 := by rcases hok.kinds with h | h | h | h | h | h <;> omega
          obtain ⟨_, _, _, hels⟩ := hok.tuple k5
          exact parts_top d e (hd e he) (hels e he).1 (hels e he).2.1 (hels e he).2.2 p hpl
/-- The cells of a value whose own int is small: small, and few. -/
theorem flat_top {T : Ty} {V : Vl} (hd : deepOk 3 T) (hv : V.i ≤ 2001) : (∀ x ∈ okInts (ckErr 3 T V) (vflat 3 T V), x ≤ 9223372036854775807) ∧ (okInts (ckErr 3 T V) (vflat 3 T V)).length ≤ 24 := by
  unfold okInts
  by_cases h0 : ckErr 3 T V = 0
  · rw [if_pos h0]
    have ht : tyErr 3 T = 0 := by
      unfold ckErr at h0
      by_cases h : tyErr 3 T = 0
      · exact h
      · rw [if_pos h] at h0; exact absurd h0 h
    obtain ⟨hg, h4⟩ := tyErr_good ht (by omega)
    rw [ckErr_good hg h4] at h0
    refine ⟨fun x hx => ?_, by rw [flat_width 3 T V hd hg.ok h0]; exact hg.wide⟩
    by_cases h3 : T.k = 3
    · have e : vflat 3 T V = [V.i] := by
        rw [vflat, if_neg (by omega), if_neg (by omega)]
      rw [e] at hx
      rw [List.mem_singleton.1 hx]; omega
    · have := (flat_in 3 T V hd hg.ok h3 h4 h0).top (parts_top 3 T hd hg.ok h3 h4) x hx
      omega
  · rw [if_neg h0]; simp

/-- What the law holds: the type, the two values and their boxes, the source. -/
structure B2 (S S' : Nat → Prop) (T : Ty) (A : Option Addr) (n c bt p q g : Nat) (x y : VlAt) (w W : World) : Prop where
  ty : TyRd S W 3 T A n c
  bT : Box5 W bt (.int .i64 T.k) (.int .i64 T.lo) (.int .i64 T.hi) (.int .i64 T.mx) (.slice A n c)
  vx : VlRd S' W 4 x.V x.A x.n x.c
  vy : VlRd S' W 4 y.V y.A y.n y.c
  tx : x.V.i ≤ 2001
  tY : y.V.i ≤ 2001
  bx : Box2 W p (.int .i64 x.V.i) (.slice x.A x.n x.c)
  bY : Box2 W q (.int .i64 y.V.i) (.slice y.A y.n y.c)
  src : Src W g
  base : Below w.heap.size w W
  tab : Tab w
  sg : ∀ b, S b → b ≠ g
  sg' : ∀ b, S' b → b ≠ g
  ne : bt ≠ g ∧ p ≠ g ∧ q ≠ g ∧ w.heap.size ≤ g
theorem B2.butG {S S' : Nat → Prop} {T : Ty} {A : Option Addr} {n c bt p q g : Nat} {x y : VlAt} {w W W' : World} (h : B2 S S' T A n c bt p q g x y w W) (hs : Src W' g) (hb : But g W W') : B2 S S' T A n c bt p q g x y w W' := by
  have hB : Below w.heap.size w W' := h.base.trans (hb.below h.ne.2.2.2 h.base.size)
  exact ⟨h.ty.butG hb h.sg, h.bT.keep (hb.block bt (World.block_lt_of_cell? W _ h.bT.1) h.ne.1), h.vx.butG hb h.sg', h.vy.butG hb h.sg', h.tx, h.tY, h.bx.keep (hb.block p (World.block_lt_of_cell? W _ h.bx.1) h.ne.2.1), h.bY.keep (hb.block q (World.block_lt_of_cell? W _ h.bY.1) h.ne.2.2.1), hs, hB,
    h.tab, h.sg, h.sg', h.ne⟩
theorem B2.below {S S' : Nat → Prop} {T : Ty} {A : Option Addr} {n c bt p q g : Nat} {x y : VlAt} {w W W' : World} (h : B2 S S' T A n c bt p q g x y w W) (hb : Below W.heap.size W W') : B2 S S' T A n c bt p q g x y w W' := h.butG (h.src.below hb) (But.of_below hb)
/-- What was made since then leaves it. -/
theorem B2.fresh {S S' : Nat → Prop} {T : Ty} {A : Option Addr} {n c bt p q g : Nat} {x y : VlAt} {w W0 W W' : World} (h0 : B2 S S' T A n c bt p q g x y w W0) (hk : But g W0 W) (hs : Src W g) (hb : Below W0.heap.size W W') : B2 S S' T A n c bt p q g x y w W' ∧ But g W0 W' :=
  ⟨h0.butG (hs.belowB hb h0.src.size) (hk.onB hb (Nat.le_refl _)), hk.onB hb (Nat.le_refl _)⟩
theorem IntNew.butG {w w' : World} {base g : Nat} {Q : Option Addr} {n q : Nat} {l : List Int} (h : IntNew w base Q n q l) (hb : But g w w') (hg : g < base) : IntNew w' base Q n q l :=
  ⟨row_keep h.row fun a ha => hb.block _ (row_lt h.row a ha).2 (by have := (row_lt h.row a ha).1; omega)⟩
/-- append of an empty slice to a nil slice. -/
theorem append_empty {P : Program} {w : World} {ops : Array Oper} {rest : List Oper} {o : Oper} {a : Act} {Q : Exit → Act → World → Prop} (guard : o.guard = none) (s x : Operand) (t e : TypeId) (i : TypeInfo) (X : Option Addr) (c : Nat)
    (isAppend : o.op = .call { callee := .builtin .append, args := #[s, x], argTypes := #[t, t] }) (ht : P.underlying t = some (.slice e)) (hi : P.info? e = some i)
    (hs : a.eval s = .slice none 0 0) (hx : a.eval x = .slice X 0 c) (h : wpList P ops Q rest (a.put o.dst (.slice none 0 0)) w) : wpList P ops Q (o :: rest) a w := by
  have run : (Builtin.append_ #[t, t] o.type #[.slice none 0 0, .slice X 0 c]).run P w = .ok (.slice none 0 0) w := by
    cases X with
    | none => simp [Builtin.append_, run_underlying ht, sizeOf, typeInfo, hi, Builtin.lenOf, Builtin.firstCells]
    | some ad =>
      simp [Builtin.append_, run_underlying ht, sizeOf, typeInfo, hi, Builtin.lenOf, Builtin.firstCells, Result.andThen]
      rfl
  refine wpList_plain guard fun K hK => ?_
  unfold Oper.wp
  simp [execOp, isAppend, resolve, invoke, builtin, hs, hx, run, Result.andThen]
  exact hK _ _ h
/-- What there is before the two values are made. -/
structure BB (S : Nat → Prop) (T : Ty) (A : Option Addr) (n c bt g : Nat) (w W : World) : Prop where
  ty : TyRd S W 3 T A n c
  bT : Box5 W bt (.int .i64 T.k) (.int .i64 T.lo) (.int .i64 T.hi) (.int .i64 T.mx) (.slice A n c)
  tame : Tame 3 T
  src : Src W g
  base : Below w.heap.size w W
  tab : Tab w
  sg : ∀ b, S b → b ≠ g
  ne : bt ≠ g ∧ w.heap.size ≤ g
set_option maxHeartbeats 16000000 in
theorem valueBuilt.walk {A : Option Addr} {n c : Nat} {w : World} (htab : Tab w) (hcap : n ≤ c) (htop : c ≤ maxLen) (hI : 0 < n → ∃ ad, A = some ad ∧ IntsAt w ad n (-9223372036854775808) 9223372036854775807) :
    Calls Tryz.prog 4 #[.slice A n c] w (SaysTrue w) := by
  obtain ⟨i0, hi, hy0, hy1, hy2⟩ := info_parts info_int
  have HN := Lib.hid (new_any A n c w hcap htop hI)
  clear hcap htop hI
  go_enter Tryz.func4, Tryz.ntmps4
  go_wp2_with fail
  refine HN.out.mono ?_
  rintro e1 w1 ⟨g, rfl, hg, hs1, hb1⟩
  go_wp2_with fail
  refine (type_x 3 (by omega) (by omega) g w1 hs1).mono ?_
  rintro e2 w2 ⟨T, A2, n2, c2, rfl, hT, hBT, hs2, hk2⟩
  have hg1 := hs1.size
  obtain ⟨u, hu⟩ : ∃ u, w2.alloc (.cells #[.int .i64 T.k, .int .i64 T.lo, .int .i64 T.hi, .int .i64 T.mx, .slice A2 n2 c2] 24) = u := ⟨_, rfl⟩
  have hbu : Below w2.heap.size w2 u := hu ▸ allocB _ _
  have hBox : BoxT u w2.heap.size (.int .i64 T.k) (.int .i64 T.lo) (.int .i64 T.hi) (.int .i64 T.mx) (.slice A2 n2 c2) := hu ▸ boxT_new _ _ _ _ _ _ _
  have hTu := hT.bound.below hbu
  have hszu : w2.heap.size < u.heap.size := World.block_lt_of_cell? u _ hBox.1.1
  have hg2 : g < w2.heap.size := hs2.size
  have hsu : Src u g := hs2.below hbu
  have hwu : Below w.heap.size w u := (hb1.trans (hk2.below hg (by have := hb1.size; omega))).trans (hbu.mono (by have := hb1.size; have := hk2.size; omega))
  obtain ⟨bt, hbt⟩ : ∃ bt, w2.heap.size = bt := ⟨_, rfl⟩
  rw [hbt] at hBox hTu hg2
  have hszb : bt < u.heap.size := by omega
  have hTM := hBT.tame hT.deep
  have HN8 := Lib.hid (N_any g u 8 hsu (by omega) (by omega))
  have HTU : Hid (∀ W, But g u W → TyRd (fun b => w1.heap.size ≤ b ∧ b < bt) W 3 T A2 n2 c2 ∧ BoxT W bt (.int .i64 T.k) (.int .i64 T.lo) (.int .i64 T.hi) (.int .i64 T.mx) (.slice A2 n2 c2) ∧ Below w.heap.size w W) :=
    fun W hW => ⟨hTu.butG hW fun b hb => by have := hb.1; omega, hBox.keep (hW.block _ hszb (by omega)), hwu.trans (hW.below hg hwu.size)⟩
  have HGW : Hid (w.heap.size ≤ g ∧ g < bt ∧ bt < u.heap.size ∧ g < w1.heap.size ∧ w1.heap.size ≤ bt ∧ w.heap.size ≤ w1.heap.size) := ⟨hg, hg2, hszb, hg1, by rw [← hbt]; exact hk2.size, hb1.size⟩
  have HTM := Lib.hid hTM
  have HTAB := Lib.hid htab
  have HU := Lib.hid hu
  have HBE := Lib.hid hbt
  clear HN hs1 hb1 hg1 hT hBT hs2 hk2 hbu hBox hTu hszu hg2 hg hu hsu hwu hszb hTM htab hbt
  go_wp2_with fail
  rw [HU.out, HBE.out]
  refine HN8.out.mono ?_
  rintro e3 w3 ⟨z, rfl, ⟨z0, z1⟩, hs3, hb3⟩
  clear HN8 HU HBE
  by_cases hz7 : z = 7
  · subst hz7
    have HWD : Hid (Calls Tryz.prog 12 #[.pointer (some ⟨g, 0, none⟩), .int .i64 (2 : Int)] w3 (GivesWild 2 g w3)) := wild_x 1 (by omega) g w3 hs3
    go_wp2_with fail
    refine HWD.out.mono ?_
    rintro e4 w4 ⟨T2, A4, n4, c4, rfl, hT4, hTM4, hs4, hb4⟩
    obtain ⟨_, hb4x, hB4⟩ := HTU.out w4 (hb3.trans hb4)
    have hball := hb4x.all (.int .i64 T2.k) (.int .i64 T2.lo) (.int .i64 T2.hi) (.int .i64 T2.mx) (.slice A4 n4 c4)
    obtain ⟨⟨q0, q1, q2, q3, q4⟩, hq⟩ := hb4x
    have f0 := hq 0
    have f1 := hq 1
    have f2 := hq 2
    have f3 := hq 3
    have f4 := hq 4
    have hbs := HGW.out
    have hsz := hb3.size
    have hT5 := hT4.stores5 (b := bt) (fun x hx => by omega) (.int .i64 T2.k) (.int .i64 T2.lo) (.int .i64 T2.hi) (.int .i64 T2.mx) (.slice A4 n4 c4)
    have hB5 := stores5 hB4 (b := bt) (by omega) (.int .i64 T2.k) (.int .i64 T2.lo) (.int .i64 T2.hi) (.int .i64 T2.mx) (.slice A4 n4 c4)
    have hs5 : Src (((((w4.setCell ⟨bt, 0, none⟩ (.int .i64 T2.k)).setCell ⟨bt, 1, none⟩ (.int .i64 T2.lo)).setCell ⟨bt, 2, none⟩ (.int .i64 T2.hi)).setCell ⟨bt, 3, none⟩ (.int .i64 T2.mx)).setCell ⟨bt, 4, none⟩ (.slice A4 n4 c4)) g :=
      ((((hs4.setB (by omega)).setB (by omega)).setB (by omega)).setB (by omega)).setB (by omega)
    obtain ⟨W5a, hW5a⟩ : ∃ W5a, (((((w4.setCell ⟨bt, 0, none⟩ (.int .i64 T2.k)).setCell ⟨bt, 1, none⟩ (.int .i64 T2.lo)).setCell ⟨bt, 2, none⟩ (.int .i64 T2.hi)).setCell ⟨bt, 3, none⟩ (.int .i64 T2.mx)).setCell ⟨bt, 4, none⟩ (.slice A4 n4 c4)) = W5a := ⟨_, rfl⟩
    rw [hW5a] at hT5 hB5 hs5 hball
    have HBB : Hid (BB (fun b => w3.heap.size ≤ b) T2 A4 n4 c4 bt g w W5a) := ⟨hT5, hball.1, hTM4, hs5, hB5, HTAB.out, fun b hb => by omega, by omega, by omega⟩
    clear hB4 hball hq hbs hsz hT5 hB5 hs5 hT4 hTM4 hs4 hb4 HTU HTM HTAB HWD hs3 hb3
    go_wp2_with fail
    obtain ⟨tq0, tq1, tq2, tq3, tq4⟩ := HBB.out.bT
    have HQT : Hid (∀ W, But g W5a W → Box5 W bt (.int .i64 T2.k) (.int .i64 T2.lo) (.int .i64 T2.hi) (.int .i64 T2.mx) (.slice A4 n4 c4)) := fun W hW => HBB.out.bT.keep (hW.block bt (World.block_lt_of_cell? _ _ HBB.out.bT.1) HBB.out.ne.1)
    have HSM : Hid (∀ W, But g W5a W → Src W g → Calls Tryz.prog 13 #[.pointer (some ⟨g, 0, none⟩), tyV T2 A4 n4 c4] W (GivesSome 3 g W)) := fun W hW hs => some_t 3 _ T2 A4 n4 c4 g W (HBB.out.ty.butG hW HBB.out.sg) HBB.out.sg HBB.out.tame hs
    refine wp_region_held_drew (S := fun W => Box5 W bt (.int .i64 T2.k) (.int .i64 T2.lo) (.int .i64 T2.hi) (.int .i64 T2.mx) (.slice A4 n4 c4)) (by kernel_rfl) HBB.out.bT (fun hHeld => ?_)
    clear tq0 tq1 tq2 tq3 tq4
    refine tkH (i := 0) (oi := ⟨some 18, _, _, _, _, _⟩) (v := ?_) ?_ ?_
    rotate_left
    · intro w hSw; go_simp; try with_reducible rfl
    try simp only [Act.put, List.setIfInBounds_toArray, List.set_cons_zero, List.set_cons_succ]
    refine tkH (i := 1) (oi := ⟨some 19, _, _, _, _, _⟩) (v := ?_) ?_ ?_
    rotate_left
    · intro w hSw; obtain ⟨p0, p1, p2, p3, p4⟩ := hSw; go_simp; try with_reducible rfl
    try simp only [Act.put, List.setIfInBounds_toArray, List.set_cons_zero, List.set_cons_succ]
    refine tkH (i := 3) (oi := ⟨some 21, _, _, _, _, _⟩) (v := ?_) ?_ ?_
    rotate_left
    · intro w hSw; go_simp; try with_reducible rfl
    try simp only [Act.put, List.setIfInBounds_toArray, List.set_cons_zero, List.set_cons_succ]
    refine tkH (i := 4) (oi := ⟨some 22, _, _, _, _, _⟩) (v := ?_) ?_ ?_
    rotate_left
    · intro w hSw; obtain ⟨p0, p1, p2, p3, p4⟩ := hSw; go_simp; try with_reducible rfl
    try simp only [Act.put, List.setIfInBounds_toArray, List.set_cons_zero, List.set_cons_succ]
    refine bs0_0 (T := T2) (g := g) (bt := bt) (u := W5a) HBB.out.src.size HQT HSM (Lib.hid fun W p q x y F => ?_) (ST2.start HBB.out.src.drew (But.refl g W5a).drew) (by kernel_rfl) (by kernel_rfl) rfl
    have HW : Hid (B2 (fun b => w3.heap.size ≤ b) (fun b => W5a.heap.size ≤ b) T2 A4 n4 c4 bt p q g x y w W) := by
      have hgs := HBB.out.src.size
      obtain ⟨n1, n2⟩ := HBB.out.ne
      have hlb : ∀ b u0 u1, Box2 W b u0 u1 → b < W.heap.size := fun b u0 u1 h => World.block_lt_of_cell? W _ h.1
      exact ⟨HBB.out.ty.butG F.but HBB.out.sg, HQT.out W F.but, F.vx, F.vy, F.tx, F.tY, F.bx, F.bY, F.src, HBB.out.base.trans (F.but.below n2 HBB.out.base.size), HBB.out.tab, HBB.out.sg, fun b hb => by omega, ⟨n1, by have := F.lo; omega, by have := F.lo; omega, n2⟩⟩
    clear F HQT HSM hHeld HBB HGW
    obtain ⟨tq0, tq1, tq2, tq3, tq4⟩ := HW.out.bT
    obtain ⟨yq0, yq1, _, _⟩ := HW.out.bY
    have HFL := Lib.hid (RFlatten_e _ 3 (by omega) T2 A4 n4 c4 W HW.out.ty _ 4 y.V y.A y.n y.c HW.out.vy (fun _ => by have := HW.out.tY; omega))
    have HTOP := Lib.hid (flat_top (T := T2) (V := y.V) HW.out.ty.deep HW.out.tY)
    go_wp2_with fail
    refine HFL.out.mono ?_
    rintro e5 W1 ⟨Q, nq, qq, rfl, hO1, hb⟩
    generalize okInts (ckErr 3 T2 y.V) (vflat 3 T2 y.V) = L at *
    have hln := hO1.len
    have HW1 := Lib.hid (HW.out.below hb)
    have HO1 := Lib.hid hO1
    have hnq : nq ≤ 24 := by have := HTOP.out.2; omega
    clear hb HFL HW tq0 tq1 tq2 tq3 tq4 yq0 yq1 hO1
    obtain ⟨tq0, tq1, tq2, tq3, tq4⟩ := HW1.out.bT
    obtain ⟨xq0, xq1, _, _⟩ := HW1.out.bx
    obtain ⟨yq0, yq1, _, _⟩ := HW1.out.bY
    have HAG := Lib.hid (agrees_x _ 3 (by omega) T2 A4 n4 c4 W1 HW1.out.ty _ 4 x.V x.A x.n x.c HW1.out.vx (by have := HW1.out.tx; omega) _ 4 y.V y.A y.n y.c HW1.out.vy (by have := HW1.out.tY; omega) Q nq qq L (HO1.out.rd fun a ha => (row_lt HO1.out.row a ha).2) HTOP.out.1 (HW1.out.tab.below HW1.out.base))
    go_wp2_with fail
    refine HAG.out.mono ?_
    rintro e6 W2 ⟨rfl, hb⟩
    have HW2 := Lib.hid (HW1.out.below hb)
    have HO2 := Lib.hid (HO1.out.below hb)
    clear hb HAG HW1 HO1 tq0 tq1 tq2 tq3 tq4 xq0 xq1 yq0 yq1
    have HG2 := Lib.hid HW2.out.src.size
    by_cases hn0 : nq = 0
    · subst hn0
      obtain rfl : L = [] := List.eq_nil_of_length_eq_zero hln
      have HO3 : Hid (IntNew W2 W2.heap.size none 0 0 [] ∧ ∀ x ∈ ([] : List Int), x ≤ 9223372036854775807) := ⟨⟨World.ownsRow_nil _ _ _ _⟩, fun x hx => by cases hx⟩
      have HZ2 : Hid (W2.heap.size ≤ W2.heap.size) := Nat.le_refl _
      have HK := Lib.hid (But.refl g W2)
      go_wp2_with (at_builtin; refine append_empty rfl _ _ 28 3 i0 _ qq rfl Tryz.underlying28 hi rfl rfl ?_)
      have HN6 := Lib.hid (N_any g W2 6 HW2.out.src (by omega) (by omega))
      go_wp2_with fail
      refine HN6.out.mono ?_
      rintro e6 W6 ⟨z6, rfl, ⟨z60, z61⟩, hs6, hb6⟩
      have HW6 := Lib.hid (HW2.out.butG hs6 hb6)
      have HK6 := Lib.hid (HK.out.trans hb6)
      have HO6 : Hid (IntNew W6 W2.heap.size none (0) 0 (([] : List Int)) ∧ ∀ x ∈ ([] : List Int), x ≤ 9223372036854775807) := ⟨HO3.out.1.butG hb6 (by have := HG2.out; omega), HO3.out.2⟩
      have HZ6 : Hid (W2.heap.size ≤ W6.heap.size) := by have h1 := HZ2.out; have h2 := hb6.size; show _ ≤ _; omega
      clear hs6 hb6 HN6
      by_cases h5 : z6 = 5
      · subst h5
        have HROW : Hid (IntNew (W6.alloc (.cells #[.int .i64 0] 3)) W2.heap.size none (0) 0 (([] : List Int))) := HO6.out.1.below (allocB _ _)
        have HNW : Hid (∀ j u, (intRow [0])[j]? = some u → (W6.alloc (.cells #[.int .i64 0] 3)).cell? ((⟨W6.heap.size, 0, none⟩ : Addr).add j) = some u) := fun j u hu => World.news_of_block (cs := #[.int .i64 0]) (heap_alloc_new W6 _) j u hu
        go_wp2_with (at_builtin; refine wpList_append_lies _ rfl _ _ 28 rfl W2.heap.size 3 i0 (.int .i64 0) 1 8 Tryz.underlying28 hi hy0 hy1 hy2 rfl (by decide) (.slice none (0) 0) (0) (intRow (([] : List Int))) rfl HROW.out.row ⟨W6.heap.size, 0, none⟩ 1 1 (intRow [0]) rfl rfl HNW.out (int_oneCell _) (by decide) (by unfold maxLen; omega) (by omega) (by rw [World.size_alloc]; have := HZ6.out; omega) _ rfl ?_)
        intro g7 c7 W7 hown hgrow hat hlt7
        have hB7 : Below W2.heap.size W6 W7 := grown_own ((Below.refl _ _).alloc HZ6.out _) HROW.out.row hgrow (by rw [World.size_alloc]; have := HZ6.out; omega)
        have HW7 := Lib.hid (HW2.out.fresh HK6.out HW6.out.src hB7).1
        have HO7 : Hid (IntNew W7 W2.heap.size (some ⟨g7, 0, none⟩) (0 + 1) c7 (([] : List Int) ++ [0]) ∧ ∀ x ∈ ([] : List Int) ++ [0], x ≤ 9223372036854775807) := ⟨⟨by rw [intRow_append]; exact hown⟩, fun x hx => by
          rcases List.mem_append.1 hx with hx | hx
          · exact HO6.out.2 x hx
          · rw [List.mem_singleton.1 hx]; decide⟩
        clear hown hgrow hat hB7 HROW HNW HW6 HO6
        obtain ⟨tq0, tq1, tq2, tq3, tq4⟩ := HW7.out.bT
        obtain ⟨xq0, xq1, _, _⟩ := HW7.out.bx
        obtain ⟨yq0, yq1, _, _⟩ := HW7.out.bY
        have HAG := Lib.hid (agrees_x _ 3 (by omega) T2 A4 n4 c4 W7 HW7.out.ty _ 4 y.V y.A y.n y.c HW7.out.vy (by have := HW7.out.tY; omega) _ 4 x.V x.A x.n x.c HW7.out.vx (by have := HW7.out.tx; omega) _ _ _ _ ((HO7.out.1.own).rd fun a ha => (row_lt HO7.out.1.row a ha).2) HO7.out.2 (HW7.out.tab.below HW7.out.base))
        go_wp2_with fail
        refine HAG.out.mono ?_
        rintro e8 W8 ⟨rfl, hb8⟩
        have HB8 := Lib.hid (nextB HW7.out.base hb8)
        have HA := Lib.hid (awake_x W8)
        clear hb8 HAG tq0 tq1 tq2 tq3 tq4 xq0 xq1 yq0 yq1
        go_wp2_with fail
        refine HA.out.mono ?_
        rintro e9 W9 ⟨rfl, hb9⟩
        have HE := Lib.hid (nextB HB8.out hb9)
        clear hb9
        go_wp2
        go_ret
        exact ⟨rfl, HE.out⟩
      · have e5 : (z6 == 5) = false := by simpa using h5
        obtain ⟨tq0, tq1, tq2, tq3, tq4⟩ := HW6.out.bT
        obtain ⟨xq0, xq1, _, _⟩ := HW6.out.bx
        obtain ⟨yq0, yq1, _, _⟩ := HW6.out.bY
        have HAG := Lib.hid (agrees_x _ 3 (by omega) T2 A4 n4 c4 W6 HW6.out.ty _ 4 y.V y.A y.n y.c HW6.out.vy (by have := HW6.out.tY; omega) _ 4 x.V x.A x.n x.c HW6.out.vx (by have := HW6.out.tx; omega) _ _ _ _ ((HO6.out.1.own).rd fun a ha => (row_lt HO6.out.1.row a ha).2) HO6.out.2 (HW6.out.tab.below HW6.out.base))
        go_wp2_with fail
        refine HAG.out.mono ?_
        rintro e8 W8 ⟨rfl, hb8⟩
        have HB8 := Lib.hid (nextB HW6.out.base hb8)
        have HA := Lib.hid (awake_x W8)
        clear hb8 HAG tq0 tq1 tq2 tq3 tq4 xq0 xq1 yq0 yq1
        go_wp2_with fail
        refine HA.out.mono ?_
        rintro e9 W9 ⟨rfl, hb9⟩
        have HE := Lib.hid (nextB HB8.out hb9)
        clear hb9
        go_wp2
        go_ret
        exact ⟨rfl, HE.out⟩
    · have hnp : 0 < nq := by omega
      obtain ⟨gq, rfl, _, _⟩ := row_form HO2.out.row hnp
      have HNL : Hid ((intRow L).length = nq * 1) := by show _ = _; rw [intRow_length, hln]; omega
      have HCE := Lib.hid (HO2.out.row.cells (g := gq) rfl)
      go_wp2_with (at_builtin; refine wpList_append_lies _ rfl _ _ 28 rfl W2.heap.size 3 i0 (.int .i64 0) 1 8 Tryz.underlying28 hi hy0 hy1 hy2 rfl (by decide) (.slice none 0 0) 0 [] rfl (World.ownsRow_nil _ _ _ _) ⟨gq, 0, none⟩ nq qq (intRow L) rfl HNL.out HCE.out (int_oneCell _) hnp (by unfold maxLen; omega) (by omega) (Nat.le_refl _) _ rfl ?_)
      intro g3 c3 W3 hown hgrow hat hlt3
      have hb3' : Below W2.heap.size W2 W3 := below_of_grown hgrow
      have HW3 := Lib.hid (HW2.out.below hb3')
      have HO3 : Hid (IntNew W3 W2.heap.size (some ⟨g3, 0, none⟩) nq c3 L) := ⟨by simpa using hown⟩
      have HZ3 : Hid (W2.heap.size ≤ W3.heap.size ∧ W2.heap.size ≤ g3) := ⟨hb3'.size, (row_lt HO3.out.row _ rfl).1⟩
      have HNN := Lib.hid (N_any g W3 nq HW3.out.src (by omega) (by omega))
      have hb3'' := hb3'
      clear hown hgrow hat hb3' HNL HCE HO2
      go_wp2_with fail
      refine HNN.out.mono ?_
      rintro e7 W4 ⟨i, rfl, ⟨i0', i1⟩, hs4, hb4⟩
      have HRG := Lib.hid (range_any g W4 (-2) 4 hs4 (by omega) (by omega) (by omega))
      have HB34 := Lib.hid hb4
      clear hs4 hb4 HNN
      go_wp2_with fail
      refine HRG.out.mono ?_
      rintro e8 W5 ⟨v5, rfl, ⟨v50, v51⟩, hs5, hb5⟩
      obtain ⟨i, rfl⟩ := Int.eq_ofNat_of_zero_le i0'
      have hk5 := HB34.out.trans hb5
      have HO5 := Lib.hid (HO3.out.butG hk5 (by have := HG2.out; omega))
      have HW5 := Lib.hid (HW3.out.butG hs5 hk5)
      have hxi : i < (intRow L).length := by rw [intRow_length, hln]; omega
      have hcell : W5.cell? ⟨g3, i, none⟩ = some ((intRow L)[i]) := by rw [HO5.out.row.cellAt i (by omega)]; exact List.getElem?_eq_getElem hxi
      have hfro := HO5.out.row.frozenAt i
      have hB6 : Below W2.heap.size W5 (W5.setCell ⟨g3, i, none⟩ (.int .i64 v5)) := (Below.refl _ _).setCell (p := ⟨g3, i, none⟩) HZ3.out.2 _
      have hO6 := (HO5.out.row.stored i (.int .i64 v5)).1
      obtain ⟨W6', hW6⟩ : ∃ W6', W5.setCell ⟨g3, i, none⟩ (.int .i64 v5) = W6' := ⟨_, rfl⟩
      rw [hW6] at hB6 hO6
      have HK5 := (But.of_below hb3'').trans hk5
      have HW6 := Lib.hid (HW2.out.fresh HK5 hs5 hB6).1
      have HK := Lib.hid (HW2.out.fresh HK5 hs5 hB6).2
      have HO6 : Hid (IntNew W6' W2.heap.size (some ⟨g3, 0, none⟩) nq c3 (L.set i v5) ∧ ∀ x ∈ L.set i v5, x ≤ 9223372036854775807) := ⟨⟨by unfold intRow at hO6 ⊢; rw [List.map_set]; exact hO6⟩, fun x hx => by
        rcases List.mem_or_eq_of_mem_set hx with hx | rfl
        · exact HTOP.out.1 x hx
        · omega⟩
      have HZ2 : Hid (W2.heap.size ≤ W6'.heap.size) := by have h1 := HZ3.out.1; have h2 := hk5.size; have h3 := hB6.size; show _ ≤ _; omega
      clear hs5 hb5 hk5 HK5 hb3'' HO5 HW5 HO3 HW3 hB6 hO6 HRG HB34 HZ3
      have HN6 := Lib.hid (N_any g W6' 6 HW6.out.src (by omega) (by omega))
      go_wp2_with fail
      refine HN6.out.mono ?_
      rintro e6 W6 ⟨z6, rfl, ⟨z60, z61⟩, hs6, hb6⟩
      have HW6 := Lib.hid (HW6.out.butG hs6 hb6)
      have HK6 := Lib.hid (HK.out.trans hb6)
      have HO6 : Hid (IntNew W6 W2.heap.size (some ⟨g3, 0, none⟩) (nq) c3 (L.set i v5) ∧ ∀ x ∈ L.set i v5, x ≤ 9223372036854775807) := ⟨HO6.out.1.butG hb6 (by have := HG2.out; omega), HO6.out.2⟩
      have HZ6 : Hid (W2.heap.size ≤ W6.heap.size) := by have h1 := HZ2.out; have h2 := hb6.size; show _ ≤ _; omega
      clear hs6 hb6 HN6
      by_cases h5 : z6 = 5
      · subst h5
        have HROW : Hid (IntNew (W6.alloc (.cells #[.int .i64 0] 3)) W2.heap.size (some ⟨g3, 0, none⟩) (nq) c3 (L.set i v5)) := HO6.out.1.below (allocB _ _)
        have HNW : Hid (∀ j u, (intRow [0])[j]? = some u → (W6.alloc (.cells #[.int .i64 0] 3)).cell? ((⟨W6.heap.size, 0, none⟩ : Addr).add j) = some u) := fun j u hu => World.news_of_block (cs := #[.int .i64 0]) (heap_alloc_new W6 _) j u hu
        go_wp2_with (at_builtin; refine wpList_append_lies _ rfl _ _ 28 rfl W2.heap.size 3 i0 (.int .i64 0) 1 8 Tryz.underlying28 hi hy0 hy1 hy2 rfl (by decide) (.slice (some ⟨g3, 0, none⟩) (nq) c3) (nq) (intRow (L.set i v5)) rfl HROW.out.row ⟨W6.heap.size, 0, none⟩ 1 1 (intRow [0]) rfl rfl HNW.out (int_oneCell _) (by decide) (by unfold maxLen; omega) (by omega) (by rw [World.size_alloc]; have := HZ6.out; omega) _ rfl ?_)
        intro g7 c7 W7 hown hgrow hat hlt7
        have hB7 : Below W2.heap.size W6 W7 := grown_own ((Below.refl _ _).alloc HZ6.out _) HROW.out.row hgrow (by rw [World.size_alloc]; have := HZ6.out; omega)
        have HW7 := Lib.hid (HW2.out.fresh HK6.out HW6.out.src hB7).1
        have HO7 : Hid (IntNew W7 W2.heap.size (some ⟨g7, 0, none⟩) (nq + 1) c7 (L.set i v5 ++ [0]) ∧ ∀ x ∈ L.set i v5 ++ [0], x ≤ 9223372036854775807) := ⟨⟨by rw [intRow_append]; exact hown⟩, fun x hx => by
          rcases List.mem_append.1 hx with hx | hx
          · exact HO6.out.2 x hx
          · rw [List.mem_singleton.1 hx]; decide⟩
        clear hown hgrow hat hB7 HROW HNW HW6 HO6
        obtain ⟨tq0, tq1, tq2, tq3, tq4⟩ := HW7.out.bT
        obtain ⟨xq0, xq1, _, _⟩ := HW7.out.bx
        obtain ⟨yq0, yq1, _, _⟩ := HW7.out.bY
        have HAG := Lib.hid (agrees_x _ 3 (by omega) T2 A4 n4 c4 W7 HW7.out.ty _ 4 y.V y.A y.n y.c HW7.out.vy (by have := HW7.out.tY; omega) _ 4 x.V x.A x.n x.c HW7.out.vx (by have := HW7.out.tx; omega) _ _ _ _ ((HO7.out.1.own).rd fun a ha => (row_lt HO7.out.1.row a ha).2) HO7.out.2 (HW7.out.tab.below HW7.out.base))
        go_wp2_with fail
        refine HAG.out.mono ?_
        rintro e8 W8 ⟨rfl, hb8⟩
        have HB8 := Lib.hid (nextB HW7.out.base hb8)
        have HA := Lib.hid (awake_x W8)
        clear hb8 HAG tq0 tq1 tq2 tq3 tq4 xq0 xq1 yq0 yq1
        go_wp2_with fail
        refine HA.out.mono ?_
        rintro e9 W9 ⟨rfl, hb9⟩
        have HE := Lib.hid (nextB HB8.out hb9)
        clear hb9
        go_wp2
        go_ret
        exact ⟨rfl, HE.out⟩
      · have e5 : (z6 == 5) = false := by simpa using h5
        obtain ⟨tq0, tq1, tq2, tq3, tq4⟩ := HW6.out.bT
        obtain ⟨xq0, xq1, _, _⟩ := HW6.out.bx
        obtain ⟨yq0, yq1, _, _⟩ := HW6.out.bY
        have HAG := Lib.hid (agrees_x _ 3 (by omega) T2 A4 n4 c4 W6 HW6.out.ty _ 4 y.V y.A y.n y.c HW6.out.vy (by have := HW6.out.tY; omega) _ 4 x.V x.A x.n x.c HW6.out.vx (by have := HW6.out.tx; omega) _ _ _ _ ((HO6.out.1.own).rd fun a ha => (row_lt HO6.out.1.row a ha).2) HO6.out.2 (HW6.out.tab.below HW6.out.base))
        go_wp2_with fail
        refine HAG.out.mono ?_
        rintro e8 W8 ⟨rfl, hb8⟩
        have HB8 := Lib.hid (nextB HW6.out.base hb8)
        have HA := Lib.hid (awake_x W8)
        clear hb8 HAG tq0 tq1 tq2 tq3 tq4 xq0 xq1 yq0 yq1
        go_wp2_with fail
        refine HA.out.mono ?_
        rintro e9 W9 ⟨rfl, hb9⟩
        have HE := Lib.hid (nextB HB8.out hb9)
        clear hb9
        go_wp2
        go_ret
        exact ⟨rfl, HE.out⟩
  · obtain ⟨hT3, hb3x, hB3⟩ := HTU.out w3 hb3
    have hbs := HGW.out
    have e7 : (z == 7) = false := by simpa using hz7
    have HBB : Hid (BB (fun b => w1.heap.size ≤ b ∧ b < bt) T A2 n2 c2 bt g w w3) := ⟨hT3, hb3x.1, HTM.out, hs3, hB3, HTAB.out, fun b hb => by omega, by omega, by omega⟩
    clear hT3 hb3x hB3 hbs HTU HTM HTAB hs3 hb3
    go_wp2_with fail
    obtain ⟨tq0, tq1, tq2, tq3, tq4⟩ := HBB.out.bT
    have HQT : Hid (∀ W, But g w3 W → Box5 W bt (.int .i64 T.k) (.int .i64 T.lo) (.int .i64 T.hi) (.int .i64 T.mx) (.slice A2 n2 c2)) := fun W hW => HBB.out.bT.keep (hW.block bt (World.block_lt_of_cell? _ _ HBB.out.bT.1) HBB.out.ne.1)
    have HSM : Hid (∀ W, But g w3 W → Src W g → Calls Tryz.prog 13 #[.pointer (some ⟨g, 0, none⟩), tyV T A2 n2 c2] W (GivesSome 3 g W)) := fun W hW hs => some_t 3 _ T A2 n2 c2 g W (HBB.out.ty.butG hW HBB.out.sg) HBB.out.sg HBB.out.tame hs
    refine wp_region_held_drew (S := fun W => Box5 W bt (.int .i64 T.k) (.int .i64 T.lo) (.int .i64 T.hi) (.int .i64 T.mx) (.slice A2 n2 c2)) (by kernel_rfl) HBB.out.bT (fun hHeld => ?_)
    clear tq0 tq1 tq2 tq3 tq4
    refine tkH (i := 0) (oi := ⟨some 18, _, _, _, _, _⟩) (v := ?_) ?_ ?_
    rotate_left
    · intro w hSw; go_simp; try with_reducible rfl
    try simp only [Act.put, List.setIfInBounds_toArray, List.set_cons_zero, List.set_cons_succ]
    refine tkH (i := 1) (oi := ⟨some 19, _, _, _, _, _⟩) (v := ?_) ?_ ?_
    rotate_left
    · intro w hSw; obtain ⟨p0, p1, p2, p3, p4⟩ := hSw; go_simp; try with_reducible rfl
    try simp only [Act.put, List.setIfInBounds_toArray, List.set_cons_zero, List.set_cons_succ]
    refine tkH (i := 3) (oi := ⟨some 21, _, _, _, _, _⟩) (v := ?_) ?_ ?_
    rotate_left
    · intro w hSw; go_simp; try with_reducible rfl
    try simp only [Act.put, List.setIfInBounds_toArray, List.set_cons_zero, List.set_cons_succ]
    refine tkH (i := 4) (oi := ⟨some 22, _, _, _, _, _⟩) (v := ?_) ?_ ?_
    rotate_left
    · intro w hSw; obtain ⟨p0, p1, p2, p3, p4⟩ := hSw; go_simp; try with_reducible rfl
    try simp only [Act.put, List.setIfInBounds_toArray, List.set_cons_zero, List.set_cons_succ]
    refine bs0_0 (T := T) (g := g) (bt := bt) (u := w3) HBB.out.src.size HQT HSM (Lib.hid fun W p q x y F => ?_) (ST2.start HBB.out.src.drew (But.refl g w3).drew) (by kernel_rfl) (by kernel_rfl) rfl
    have HW : Hid (B2 (fun b => w1.heap.size ≤ b ∧ b < bt) (fun b => w3.heap.size ≤ b) T A2 n2 c2 bt p q g x y w W) := by
      have hgs := HBB.out.src.size
      obtain ⟨n1, n2⟩ := HBB.out.ne
      have hlb : ∀ b u0 u1, Box2 W b u0 u1 → b < W.heap.size := fun b u0 u1 h => World.block_lt_of_cell? W _ h.1
      exact ⟨HBB.out.ty.butG F.but HBB.out.sg, HQT.out W F.but, F.vx, F.vy, F.tx, F.tY, F.bx, F.bY, F.src, HBB.out.base.trans (F.but.below n2 HBB.out.base.size), HBB.out.tab, HBB.out.sg, fun b hb => by omega, ⟨n1, by have := F.lo; omega, by have := F.lo; omega, n2⟩⟩
    clear F HQT HSM hHeld HBB HGW
    obtain ⟨tq0, tq1, tq2, tq3, tq4⟩ := HW.out.bT
    obtain ⟨yq0, yq1, _, _⟩ := HW.out.bY
    have HFL := Lib.hid (RFlatten_e _ 3 (by omega) T A2 n2 c2 W HW.out.ty _ 4 y.V y.A y.n y.c HW.out.vy (fun _ => by have := HW.out.tY; omega))
    have HTOP := Lib.hid (flat_top (T := T) (V := y.V) HW.out.ty.deep HW.out.tY)
    go_wp2_with fail
    refine HFL.out.mono ?_
    rintro e5 W1 ⟨Q, nq, qq, rfl, hO1, hb⟩
    generalize okInts (ckErr 3 T y.V) (vflat 3 T y.V) = L at *
    have hln := hO1.len
    have HW1 := Lib.hid (HW.out.below hb)
    have HO1 := Lib.hid hO1
    have hnq : nq ≤ 24 := by have := HTOP.out.2; omega
    clear hb HFL HW tq0 tq1 tq2 tq3 tq4 yq0 yq1 hO1
    obtain ⟨tq0, tq1, tq2, tq3, tq4⟩ := HW1.out.bT
    obtain ⟨xq0, xq1, _, _⟩ := HW1.out.bx
    obtain ⟨yq0, yq1, _, _⟩ := HW1.out.bY
    have HAG := Lib.hid (agrees_x _ 3 (by omega) T A2 n2 c2 W1 HW1.out.ty _ 4 x.V x.A x.n x.c HW1.out.vx (by have := HW1.out.tx; omega) _ 4 y.V y.A y.n y.c HW1.out.vy (by have := HW1.out.tY; omega) Q nq qq L (HO1.out.rd fun a ha => (row_lt HO1.out.row a ha).2) HTOP.out.1 (HW1.out.tab.below HW1.out.base))
    go_wp2_with fail
    refine HAG.out.mono ?_
    rintro e6 W2 ⟨rfl, hb⟩
    have HW2 := Lib.hid (HW1.out.below hb)
    have HO2 := Lib.hid (HO1.out.below hb)
    clear hb HAG HW1 HO1 tq0 tq1 tq2 tq3 tq4 xq0 xq1 yq0 yq1
    have HG2 := Lib.hid HW2.out.src.size
    by_cases hn0 : nq = 0
    · subst hn0
      obtain rfl : L = [] := List.eq_nil_of_length_eq_zero hln
      have HO3 : Hid (IntNew W2 W2.heap.size none 0 0 [] ∧ ∀ x ∈ ([] : List Int), x ≤ 9223372036854775807) := ⟨⟨World.ownsRow_nil _ _ _ _⟩, fun x hx => by cases hx⟩
      have HZ2 : Hid (W2.heap.size ≤ W2.heap.size) := Nat.le_refl _
      have HK := Lib.hid (But.refl g W2)
      go_wp2_with (at_builtin; refine append_empty rfl _ _ 28 3 i0 _ qq rfl Tryz.underlying28 hi rfl rfl ?_)
      have HN6 := Lib.hid (N_any g W2 6 HW2.out.src (by omega) (by omega))
      go_wp2_with fail
      refine HN6.out.mono ?_
      rintro e6 W6 ⟨z6, rfl, ⟨z60, z61⟩, hs6, hb6⟩
      have HW6 := Lib.hid (HW2.out.butG hs6 hb6)
      have HK6 := Lib.hid (HK.out.trans hb6)
      have HO6 : Hid (IntNew W6 W2.heap.size none (0) 0 (([] : List Int)) ∧ ∀ x ∈ ([] : List Int), x ≤ 9223372036854775807) := ⟨HO3.out.1.butG hb6 (by have := HG2.out; omega), HO3.out.2⟩
      have HZ6 : Hid (W2.heap.size ≤ W6.heap.size) := by have h1 := HZ2.out; have h2 := hb6.size; show _ ≤ _; omega
      clear hs6 hb6 HN6
      by_cases h5 : z6 = 5
      · subst h5
        have HROW : Hid (IntNew (W6.alloc (.cells #[.int .i64 0] 3)) W2.heap.size none (0) 0 (([] : List Int))) := HO6.out.1.below (allocB _ _)
        have HNW : Hid (∀ j u, (intRow [0])[j]? = some u → (W6.alloc (.cells #[.int .i64 0] 3)).cell? ((⟨W6.heap.size, 0, none⟩ : Addr).add j) = some u) := fun j u hu => World.news_of_block (cs := #[.int .i64 0]) (heap_alloc_new W6 _) j u hu
        go_wp2_with (at_builtin; refine wpList_append_lies _ rfl _ _ 28 rfl W2.heap.size 3 i0 (.int .i64 0) 1 8 Tryz.underlying28 hi hy0 hy1 hy2 rfl (by decide) (.slice none (0) 0) (0) (intRow (([] : List Int))) rfl HROW.out.row ⟨W6.heap.size, 0, none⟩ 1 1 (intRow [0]) rfl rfl HNW.out (int_oneCell _) (by decide) (by unfold maxLen; omega) (by omega) (by rw [World.size_alloc]; have := HZ6.out; omega) _ rfl ?_)
        intro g7 c7 W7 hown hgrow hat hlt7
        have hB7 : Below W2.heap.size W6 W7 := grown_own ((Below.refl _ _).alloc HZ6.out _) HROW.out.row hgrow (by rw [World.size_alloc]; have := HZ6.out; omega)
        have HW7 := Lib.hid (HW2.out.fresh HK6.out HW6.out.src hB7).1
        have HO7 : Hid (IntNew W7 W2.heap.size (some ⟨g7, 0, none⟩) (0 + 1) c7 (([] : List Int) ++ [0]) ∧ ∀ x ∈ ([] : List Int) ++ [0], x ≤ 9223372036854775807) := ⟨⟨by rw [intRow_append]; exact hown⟩, fun x hx => by
          rcases List.mem_append.1 hx with hx | hx
          · exact HO6.out.2 x hx
          · rw [List.mem_singleton.1 hx]; decide⟩
        clear hown hgrow hat hB7 HROW HNW HW6 HO6
        obtain ⟨tq0, tq1, tq2, tq3, tq4⟩ := HW7.out.bT
        obtain ⟨xq0, xq1, _, _⟩ := HW7.out.bx
        obtain ⟨yq0, yq1, _, _⟩ := HW7.out.bY
        have HAG := Lib.hid (agrees_x _ 3 (by omega) T A2 n2 c2 W7 HW7.out.ty _ 4 y.V y.A y.n y.c HW7.out.vy (by have := HW7.out.tY; omega) _ 4 x.V x.A x.n x.c HW7.out.vx (by have := HW7.out.tx; omega) _ _ _ _ ((HO7.out.1.own).rd fun a ha => (row_lt HO7.out.1.row a ha).2) HO7.out.2 (HW7.out.tab.below HW7.out.base))
        go_wp2_with fail
        refine HAG.out.mono ?_
        rintro e8 W8 ⟨rfl, hb8⟩
        have HB8 := Lib.hid (nextB HW7.out.base hb8)
        have HA := Lib.hid (awake_x W8)
        clear hb8 HAG tq0 tq1 tq2 tq3 tq4 xq0 xq1 yq0 yq1
        go_wp2_with fail
        refine HA.out.mono ?_
        rintro e9 W9 ⟨rfl, hb9⟩
        have HE := Lib.hid (nextB HB8.out hb9)
        clear hb9
        go_wp2
        go_ret
        exact ⟨rfl, HE.out⟩
      · have e5 : (z6 == 5) = false := by simpa using h5
        obtain ⟨tq0, tq1, tq2, tq3, tq4⟩ := HW6.out.bT
        obtain ⟨xq0, xq1, _, _⟩ := HW6.out.bx
        obtain ⟨yq0, yq1, _, _⟩ := HW6.out.bY
        have HAG := Lib.hid (agrees_x _ 3 (by omega) T A2 n2 c2 W6 HW6.out.ty _ 4 y.V y.A y.n y.c HW6.out.vy (by have := HW6.out.tY; omega) _ 4 x.V x.A x.n x.c HW6.out.vx (by have := HW6.out.tx; omega) _ _ _ _ ((HO6.out.1.own).rd fun a ha => (row_lt HO6.out.1.row a ha).2) HO6.out.2 (HW6.out.tab.below HW6.out.base))
        go_wp2_with fail
        refine HAG.out.mono ?_
        rintro e8 W8 ⟨rfl, hb8⟩
        have HB8 := Lib.hid (nextB HW6.out.base hb8)
        have HA := Lib.hid (awake_x W8)
        clear hb8 HAG tq0 tq1 tq2 tq3 tq4 xq0 xq1 yq0 yq1
        go_wp2_with fail
        refine HA.out.mono ?_
        rintro e9 W9 ⟨rfl, hb9⟩
        have HE := Lib.hid (nextB HB8.out hb9)
        clear hb9
        go_wp2
        go_ret
        exact ⟨rfl, HE.out⟩
    · have hnp : 0 < nq := by omega
      obtain ⟨gq, rfl, _, _⟩ := row_form HO2.out.row hnp
      have HNL : Hid ((intRow L).length = nq * 1) := by show _ = _; rw [intRow_length, hln]; omega
      have HCE := Lib.hid (HO2.out.row.cells (g := gq) rfl)
      go_wp2_with (at_builtin; refine wpList_append_lies _ rfl _ _ 28 rfl W2.heap.size 3 i0 (.int .i64 0) 1 8 Tryz.underlying28 hi hy0 hy1 hy2 rfl (by decide) (.slice none 0 0) 0 [] rfl (World.ownsRow_nil _ _ _ _) ⟨gq, 0, none⟩ nq qq (intRow L) rfl HNL.out HCE.out (int_oneCell _) hnp (by unfold maxLen; omega) (by omega) (Nat.le_refl _) _ rfl ?_)
      intro g3 c3 W3 hown hgrow hat hlt3
      have hb3' : Below W2.heap.size W2 W3 := below_of_grown hgrow
      have HW3 := Lib.hid (HW2.out.below hb3')
      have HO3 : Hid (IntNew W3 W2.heap.size (some ⟨g3, 0, none⟩) nq c3 L) := ⟨by simpa using hown⟩
      have HZ3 : Hid (W2.heap.size ≤ W3.heap.size ∧ W2.heap.size ≤ g3) := ⟨hb3'.size, (row_lt HO3.out.row _ rfl).1⟩
      have HNN := Lib.hid (N_any g W3 nq HW3.out.src (by omega) (by omega))
      have hb3'' := hb3'
      clear hown hgrow hat hb3' HNL HCE HO2
      go_wp2_with fail
      refine HNN.out.mono ?_
      rintro e7 W4 ⟨i, rfl, ⟨i0', i1⟩, hs4, hb4⟩
      have HRG := Lib.hid (range_any g W4 (-2) 4 hs4 (by omega) (by omega) (by omega))
      have HB34 := Lib.hid hb4
      clear hs4 hb4 HNN
      go_wp2_with fail
      refine HRG.out.mono ?_
      rintro e8 W5 ⟨v5, rfl, ⟨v50, v51⟩, hs5, hb5⟩
      obtain ⟨i, rfl⟩ := Int.eq_ofNat_of_zero_le i0'
      have hk5 := HB34.out.trans hb5
      have HO5 := Lib.hid (HO3.out.butG hk5 (by have := HG2.out; omega))
      have HW5 := Lib.hid (HW3.out.butG hs5 hk5)
      have hxi : i < (intRow L).length := by rw [intRow_length, hln]; omega
      have hcell : W5.cell? ⟨g3, i, none⟩ = some ((intRow L)[i]) := by rw [HO5.out.row.cellAt i (by omega)]; exact List.getElem?_eq_getElem hxi
      have hfro := HO5.out.row.frozenAt i
      have hB6 : Below W2.heap.size W5 (W5.setCell ⟨g3, i, none⟩ (.int .i64 v5)) := (Below.refl _ _).setCell (p := ⟨g3, i, none⟩) HZ3.out.2 _
      have hO6 := (HO5.out.row.stored i (.int .i64 v5)).1
      obtain ⟨W6', hW6⟩ : ∃ W6', W5.setCell ⟨g3, i, none⟩ (.int .i64 v5) = W6' := ⟨_, rfl⟩
      rw [hW6] at hB6 hO6
      have HK5 := (But.of_below hb3'').trans hk5
      have HW6 := Lib.hid (HW2.out.fresh HK5 hs5 hB6).1
      have HK := Lib.hid (HW2.out.fresh HK5 hs5 hB6).2
      have HO6 : Hid (IntNew W6' W2.heap.size (some ⟨g3, 0, none⟩) nq c3 (L.set i v5) ∧ ∀ x ∈ L.set i v5, x ≤ 9223372036854775807) := ⟨⟨by unfold intRow at hO6 ⊢; rw [List.map_set]; exact hO6⟩, fun x hx => by
        rcases List.mem_or_eq_of_mem_set hx with hx | rfl
        · exact HTOP.out.1 x hx
        · omega⟩
      have HZ2 : Hid (W2.heap.size ≤ W6'.heap.size) := by have h1 := HZ3.out.1; have h2 := hk5.size; have h3 := hB6.size; show _ ≤ _; omega
      clear hs5 hb5 hk5 HK5 hb3'' HO5 HW5 HO3 HW3 hB6 hO6 HRG HB34 HZ3
      have HN6 := Lib.hid (N_any g W6' 6 HW6.out.src (by omega) (by omega))
      go_wp2_with fail
      refine HN6.out.mono ?_
      rintro e6 W6 ⟨z6, rfl, ⟨z60, z61⟩, hs6, hb6⟩
      have HW6 := Lib.hid (HW6.out.butG hs6 hb6)
      have HK6 := Lib.hid (HK.out.trans hb6)
      have HO6 : Hid (IntNew W6 W2.heap.size (some ⟨g3, 0, none⟩) (nq) c3 (L.set i v5) ∧ ∀ x ∈ L.set i v5, x ≤ 9223372036854775807) := ⟨HO6.out.1.butG hb6 (by have := HG2.out; omega), HO6.out.2⟩
      have HZ6 : Hid (W2.heap.size ≤ W6.heap.size) := by have h1 := HZ2.out; have h2 := hb6.size; show _ ≤ _; omega
      clear hs6 hb6 HN6
      by_cases h5 : z6 = 5
      · subst h5
        have HROW : Hid (IntNew (W6.alloc (.cells #[.int .i64 0] 3)) W2.heap.size (some ⟨g3, 0, none⟩) (nq) c3 (L.set i v5)) := HO6.out.1.below (allocB _ _)
        have HNW : Hid (∀ j u, (intRow [0])[j]? = some u → (W6.alloc (.cells #[.int .i64 0] 3)).cell? ((⟨W6.heap.size, 0, none⟩ : Addr).add j) = some u) := fun j u hu => World.news_of_block (cs := #[.int .i64 0]) (heap_alloc_new W6 _) j u hu
        go_wp2_with (at_builtin; refine wpList_append_lies _ rfl _ _ 28 rfl W2.heap.size 3 i0 (.int .i64 0) 1 8 Tryz.underlying28 hi hy0 hy1 hy2 rfl (by decide) (.slice (some ⟨g3, 0, none⟩) (nq) c3) (nq) (intRow (L.set i v5)) rfl HROW.out.row ⟨W6.heap.size, 0, none⟩ 1 1 (intRow [0]) rfl rfl HNW.out (int_oneCell _) (by decide) (by unfold maxLen; omega) (by omega) (by rw [World.size_alloc]; have := HZ6.out; omega) _ rfl ?_)
        intro g7 c7 W7 hown hgrow hat hlt7
        have hB7 : Below W2.heap.size W6 W7 := grown_own ((Below.refl _ _).alloc HZ6.out _) HROW.out.row hgrow (by rw [World.size_alloc]; have := HZ6.out; omega)
        have HW7 := Lib.hid (HW2.out.fresh HK6.out HW6.out.src hB7).1
        have HO7 : Hid (IntNew W7 W2.heap.size (some ⟨g7, 0, none⟩) (nq + 1) c7 (L.set i v5 ++ [0]) ∧ ∀ x ∈ L.set i v5 ++ [0], x ≤ 9223372036854775807) := ⟨⟨by rw [intRow_append]; exact hown⟩, fun x hx => by
          rcases List.mem_append.1 hx with hx | hx
          · exact HO6.out.2 x hx
          · rw [List.mem_singleton.1 hx]; decide⟩
        clear hown hgrow hat hB7 HROW HNW HW6 HO6
        obtain ⟨tq0, tq1, tq2, tq3, tq4⟩ := HW7.out.bT
        obtain ⟨xq0, xq1, _, _⟩ := HW7.out.bx
        obtain ⟨yq0, yq1, _, _⟩ := HW7.out.bY
        have HAG := Lib.hid (agrees_x _ 3 (by omega) T A2 n2 c2 W7 HW7.out.ty _ 4 y.V y.A y.n y.c HW7.out.vy (by have := HW7.out.tY; omega) _ 4 x.V x.A x.n x.c HW7.out.vx (by have := HW7.out.tx; omega) _ _ _ _ ((HO7.out.1.own).rd fun a ha => (row_lt HO7.out.1.row a ha).2) HO7.out.2 (HW7.out.tab.below HW7.out.base))
        go_wp2_with fail
        refine HAG.out.mono ?_
        rintro e8 W8 ⟨rfl, hb8⟩
        have HB8 := Lib.hid (nextB HW7.out.base hb8)
        have HA := Lib.hid (awake_x W8)
        clear hb8 HAG tq0 tq1 tq2 tq3 tq4 xq0 xq1 yq0 yq1
        go_wp2_with fail
        refine HA.out.mono ?_
        rintro e9 W9 ⟨rfl, hb9⟩
        have HE := Lib.hid (nextB HB8.out hb9)
        clear hb9
        go_wp2
        go_ret
        exact ⟨rfl, HE.out⟩
      · have e5 : (z6 == 5) = false := by simpa using h5
        obtain ⟨tq0, tq1, tq2, tq3, tq4⟩ := HW6.out.bT
        obtain ⟨xq0, xq1, _, _⟩ := HW6.out.bx
        obtain ⟨yq0, yq1, _, _⟩ := HW6.out.bY
        have HAG := Lib.hid (agrees_x _ 3 (by omega) T A2 n2 c2 W6 HW6.out.ty _ 4 y.V y.A y.n y.c HW6.out.vy (by have := HW6.out.tY; omega) _ 4 x.V x.A x.n x.c HW6.out.vx (by have := HW6.out.tx; omega) _ _ _ _ ((HO6.out.1.own).rd fun a ha => (row_lt HO6.out.1.row a ha).2) HO6.out.2 (HW6.out.tab.below HW6.out.base))
        go_wp2_with fail
        refine HAG.out.mono ?_
        rintro e8 W8 ⟨rfl, hb8⟩
        have HB8 := Lib.hid (nextB HW6.out.base hb8)
        have HA := Lib.hid (awake_x W8)
        clear hb8 HAG tq0 tq1 tq2 tq3 tq4 xq0 xq1 yq0 yq1
        go_wp2_with fail
        refine HA.out.mono ?_
        rintro e9 W9 ⟨rfl, hb9⟩
        have HE := Lib.hid (nextB HB8.out hb9)
        clear hb9
        go_wp2
        go_ret
        exact ⟨rfl, HE.out⟩
end Go.Proofs.YtklndjkblfncjaaGreatDoor
