/-
  The parser's block, what a rule of the grammar gives, and the smallest steps: the next token, an error at it, taking it.
-/
import Derived.Test.YtggdhgppclnckaaGreatDoorMem9
import Derived.Test.YtggdhgppclnckaaGreatDoorProg
import Derived.WalkLawsBesides
import Derived.Deep.RegionHeld3
namespace Go.Proofs.YtggdhgppclnckaaGreatDoor
open Go Go.RowKit Lx
set_option maxRecDepth 20000

namespace Ps
/-- The cells of token j in block b. -/
structure TkC (w : World) (b j : Nat) (t : Tok) : Prop where
  c0 : w.cell? ⟨b, j * 4, none⟩ = some (.int .i64 t.k)
  c1 : w.cell? ⟨b, j * 4 + 1, none⟩ = some (.string (bt t.t))
  c2 : w.cell? ⟨b, j * 4 + 2, none⟩ = some (.int .i64 t.ln)
  c3 : w.cell? ⟨b, j * 4 + 3, none⟩ = some (.int .i64 t.co)
theorem TkC.keep {w w' : World} {g i : Nat} {t : Tok} (h : TkC w g i t) (hb : w'.heap[g]? = w.heap[g]?) : TkC w' g i t :=
  ⟨(World.cell?_of_block (a := ⟨g, i * 4, none⟩) hb).trans h.c0, (World.cell?_of_block (a := ⟨g, i * 4 + 1, none⟩) hb).trans h.c1, (World.cell?_of_block (a := ⟨g, i * 4 + 2, none⟩) hb).trans h.c2, (World.cell?_of_block (a := ⟨g, i * 4 + 3, none⟩) hb).trans h.c3⟩
/-- The three cells of the parser. -/
structure PC (w : World) (g b n c : Nat) (x y : Int) : Prop where
  size : g < w.heap.size
  c0 : w.cell? ⟨g, 0, none⟩ = some (.slice (some ⟨b, 0, none⟩) n c)
  c1 : w.cell? ⟨g, 1, none⟩ = some (.int .i64 x)
  c2 : w.cell? ⟨g, 2, none⟩ = some (.int .i64 y)
  fr : ∀ i, w.frozen? ⟨g, i, none⟩ = false
theorem PC.keep {w w' : World} {g b n c : Nat} {x y : Int} (h : PC w g b n c x y) (hz : w.heap.size ≤ w'.heap.size) (hb : w'.heap[g]? = w.heap[g]?) : PC w' g b n c x y := by
  refine ⟨Nat.lt_of_lt_of_le h.size hz, ?_, ?_, ?_, fun i => ?_⟩
  · rw [World.cell?_of_block (a := ⟨g, 0, none⟩) hb]; exact h.c0
  · rw [World.cell?_of_block (a := ⟨g, 1, none⟩) hb]; exact h.c1
  · rw [World.cell?_of_block (a := ⟨g, 2, none⟩) hb]; exact h.c2
  · rw [World.frozen?_of_block (a := ⟨g, i, none⟩) hb]; exact h.fr i
theorem PC.set1 {w : World} {g b n c : Nat} {x y : Int} (h : PC w g b n c x y) (z : Int) : PC (w.setCell ⟨g, 1, none⟩ (.int .i64 z)) g b n c z y :=
  ⟨by simp [World.setCell]; exact h.size, by rw [World.cell?_setCell_other _ _ _ _ (by simp)]; exact h.c0, World.cell?_setCell_same _ _ _ h.c1, by rw [World.cell?_setCell_other _ _ _ _ (by simp)]; exact h.c2,
    fun i => by rw [World.frozen?_setCell]; exact h.fr i⟩
theorem PC.set2 {w : World} {g b n c : Nat} {x y : Int} (h : PC w g b n c x y) (z : Int) : PC (w.setCell ⟨g, 2, none⟩ (.int .i64 z)) g b n c x z :=
  ⟨by simp [World.setCell]; exact h.size, by rw [World.cell?_setCell_other _ _ _ _ (by simp)]; exact h.c0, by rw [World.cell?_setCell_other _ _ _ _ (by simp)]; exact h.c1, World.cell?_setCell_same _ _ _ h.c2,
    fun i => by rw [World.frozen?_setCell]; exact h.fr i⟩
/-- The package-level variables that are read: the error of a number out of range, and the step of the greatest common divisor. -/
structure Gl (w : World) : Prop where
  er : ∃ ev, w.cell? ⟨1, 0, none⟩ = some ev ∧ (ev = .nilIface ∨ ∃ te pe, ev = .iface te pe)
  n0 : w.cell? ⟨4, 0, none⟩ = some (.int .i64 1)
  n1 : w.cell? ⟨4, 1, none⟩ = some (.int .i64 0)
  n2 : w.cell? ⟨4, 2, none⟩ = some (.int .i64 0)
  n3 : w.cell? ⟨4, 3, none⟩ = some (.int .i64 1)
theorem Gl.keep {w w' : World} (h : Gl w) (hb : ∀ k, k < 5 → w'.heap[k]? = w.heap[k]?) : Gl w' := by
  obtain ⟨⟨ev, h1, h2⟩, n0, n1, n2, n3⟩ := h
  refine ⟨⟨ev, ?_, h2⟩, ?_, ?_, ?_, ?_⟩
  · rw [World.cell?_of_block (a := ⟨1, 0, none⟩) (hb _ (by decide))]; exact h1
  · rw [World.cell?_of_block (a := ⟨4, 0, none⟩) (hb _ (by decide))]; exact n0
  · rw [World.cell?_of_block (a := ⟨4, 1, none⟩) (hb _ (by decide))]; exact n1
  · rw [World.cell?_of_block (a := ⟨4, 2, none⟩) (hb _ (by decide))]; exact n2
  · rw [World.cell?_of_block (a := ⟨4, 3, none⟩) (hb _ (by decide))]; exact n3
/-- The parser lies in block g, its tokens in block b: i are taken, o brackets are open. -/
structure At (w : World) (g b n c : Nat) (L : List Tok) (i : Nat) (o : Int) : Prop where
  cs : PC w g b n c i o
  ne : b ≠ g
  hb : b < w.heap.size
  tk : ∀ (j : Nat) (t : Tok), L[j]? = some t → TkC w b j t
  hn : L.length = n
  hi : i < n
  ho : -(i : Int) ≤ o ∧ o ≤ 10
  good : Good L
  gl : Gl w
  g8 : 5 ≤ g
  b8 : 5 ≤ b
section
variable {w w' : World} {g b n c : Nat} {L : List Tok} {i : Nat} {o : Int}
theorem At.keep (h : At w g b n c L i o) (hz : w.heap.size ≤ w'.heap.size) (hb : ∀ k, k = g ∨ k = b ∨ k < 5 → w'.heap[k]? = w.heap[k]?) : At w' g b n c L i o :=
  ⟨h.cs.keep hz (hb g (.inl rfl)), h.ne, Nat.lt_of_lt_of_le h.hb hz, fun j t ht => (h.tk j t ht).keep (hb b (.inr (.inl rfl))), h.hn, h.hi, h.ho, h.good, h.gl.keep fun k hk => hb k (.inr (.inr hk)), h.g8, h.b8⟩
theorem At.below {B : Nat} (h : At w g b n c L i o) (hw : Below B w w') (hg : g < B) (hb : b < B) : At w' g b n c L i o :=
  h.keep hw.size fun k hk => hw.block k (by have := h.g8; omega)
theorem At.new (h : At w g b n c L i o) (hw : Below w.heap.size w w') : At w' g b n c L i o := h.below hw h.cs.size h.hb
theorem At.drewN (h : At w g b n c L i o) (k : Nat) : At (w.drewN k) g b n c L i o := h.keep (Nat.le_refl _) fun _ _ => rfl
theorem tkn_at (h : At w g b n c L i o) : L[i]? = some (tkn L i) := by
  have := h.hi
  rw [← h.hn] at this
  rw [tkn, List.getD_eq_getElem?_getD, List.getElem?_eq_getElem this]; rfl
theorem At.tok (h : At w g b n c L i o) : TkC w b i (tkn L i) := h.tk i _ (tkn_at h)
theorem At.mem (h : At w g b n c L i o) : tkn L i ∈ L := List.mem_of_getElem? (tkn_at h)
theorem At.len (h : At w g b n c L i o) : n ≤ 8193 := h.hn ▸ h.good.len
/-- The token is not the end: one more follows. -/
theorem At.more (h : At w g b n c L i o) (hk : (tkn L i).k ≠ 5) : i + 1 < n := by
  have hl := h.good.last i (by rw [h.hn]; exact h.hi)
  have e := tkn_at h
  rw [List.getElem?_eq_getElem (by rw [h.hn]; exact h.hi)] at e
  injection e with e
  rw [e, h.hn] at hl
  have := h.hi
  have : ¬ i + 1 = n := fun he => hk (hl.2 he)
  omega
/-- A token that is a keyword or a sign is not the end. -/
theorem At.sign (h : At w g b n c L i o) (hk : kwB (tkn L i).t = true ∨ sgB (tkn L i).t = true) : (tkn L i).k = 3 ∨ (tkn L i).k = 4 := by
  rcases h.good.kinds _ h.mem with h1 | h1 | h1 | h1 | h1
  all_goals first
    | (left; exact h1)
    | (right; exact h1)
    | (exfalso
       have := h.good.words _ h.mem (by omega) (by omega)
       rcases hk with hk | hk <;> simp_all)
end

/-- The error at token j. -/
def failV (L : List Tok) (j : Nat) (e : Int) : Value := .agg #[.int .i64 (tkn L j).ln, .int .i64 (tkn L j).co, .int .i64 e]
def chn (L : List Tok) (j : Nat) (e : Int) : List PanicEntry := [{ v := .iface 91 (failV L j e), recovered := false }]
/-- What a rule gives: its value, or its error. -/
def Giv {α : Type} (g b n c : Nat) (L : List Tok) (rd : World → α → Value → Prop) (w : World) (i d : Nat) (r : R α) (e : Ending) (w' : World) : Prop :=
  (∃ a j o v, r = .ok a j o ∧ e = .returned v ∧ rd w' a v ∧ At w' g b n c L j o ∧ i + d ≤ j ∧ But g w w') ∨
  (∃ j er, r = .no j er ∧ e = .panicked (chn L j er) ∧ j < n ∧ But g w w')
/-- A rule without a value. -/
def rdU (_ : World) (_ : Unit) (v : Value) : Prop := v = .tuple #[]
def rdB (_ : World) (t : Bool) (v : Value) : Prop := v = .bool t
def rdS (_ : World) (t : Bs) (v : Value) : Prop := v = .string (bt t)
def tokV (t : Tok) : Value := .agg #[.int .i64 t.k, .string (bt t.t), .int .i64 t.ln, .int .i64 t.co]
/-- Block k holds a variable of type t with these cells. -/
def Box (w : World) (k : Nat) (t : TypeId) (cs : Array Value) : Prop := w.heap[k]? = some (.cells cs t (0, 0))
section
variable {w w' : World} {k g : Nat} {t : TypeId} {cs ds : Array Value}
theorem Box.lt (h : Box w k t cs) : k < w.heap.size := (Array.getElem?_eq_some_iff.1 h).1
theorem Box.but (h : Box w k t cs) (hb : But g w w') (hk : k ≠ g) : Box w' k t cs := (hb.block k h.lt hk).trans h
theorem Box.below {B : Nat} (h : Box w k t cs) (hb : Below B w w') (hk : k < B) : Box w' k t cs := (hb.block k hk).trans h
theorem Box.new (h : Box w k t cs) (hb : Below w.heap.size w w') : Box w' k t cs := h.below hb h.lt
theorem box_alloc (w : World) (t : TypeId) (cs : Array Value) : Box (w.alloc (.cells cs t)) w.heap.size t cs := heap_alloc_new _ _
theorem Box.drewN (h : Box w k t cs) (m : Nat) : Box (w.drewN m) k t cs := h
theorem Box.load {fs : Array Field} (h : Box w k t cs) (hu : Tryz.prog.underlying t = some (.struct fs)) (hi : (Tryz.prog.info? t).map (·.size) = some cs.size) :
    (loadVar t ⟨k, 0, none⟩).run Tryz.prog w = .ok (.agg cs) w := run_loadVar_row w k t t cs (0, 0) (.struct fs) h hu rfl hi
theorem Box.store (h : Box w k t cs) (hi : (Tryz.prog.info? t).map (·.size) = some ds.size) (hs : cs.size = ds.size) (h1 : ds.all (·.oneCell') = true) :
    (storeVar t ⟨k, 0, none⟩ (.agg ds)).run Tryz.prog w = .ok () (w.setRow k ds) := run_storeVar_row w k t t cs ds h hi hs h1
theorem Box.set (h : Box w k t cs) (ds : Array Value) : Box (w.setRow k ds) k t ds := setRow_heap w k cs ds t (0, 0) h
theorem Box.other {j : Nat} (h : Box w k t cs) (ds : Array Value) (hj : k ≠ j) : Box (w.setRow j ds) k t cs := (setRow_other w j k ds hj).trans h
theorem size_row (w : World) (k : Nat) (ds : Array Value) : (w.setRow k ds).heap.size = w.heap.size := by simp [World.setRow]
theorem But.row {w0 : World} (h : But g w0 w) (hk : w0.heap.size ≤ k) (ds : Array Value) : But g w0 (w.setRow k ds) :=
  ⟨h.os, h.tape, h.output, by rw [size_row]; exact h.size, fun j hj hg => (setRow_other w k j ds (by omega)).trans (h.block j hj hg)⟩
theorem below_row {B : Nat} {w0 : World} (h : Below B w0 w) (hk : B ≤ k) (ds : Array Value) : Below B w0 (w.setRow k ds) :=
  ⟨h.os, h.tape, h.output, by rw [size_row]; exact h.size, fun j hj => (setRow_other w k j ds (by omega)).trans (h.block j hj)⟩
end

variable {w : World} {g b n c : Nat} {L : List Tok} {i : Nat} {o : Int}
theorem fld_tok0 (a b c d : Value) (w : World) : (Instr.field 44 (.agg #[a, b, c, d]) 0).run Tryz.prog w = .ok a w := by kernel_rfl
theorem fld_tok1 (a b c d : Value) (w : World) : (Instr.field 44 (.agg #[a, b, c, d]) 1).run Tryz.prog w = .ok b w := by kernel_rfl
attribute [local go_sem] fld_tok0 fld_tok1
theorem next_x (h : At w g b n c L i o) : Calls Tryz.prog 123 #[.pointer (some ⟨g, 0, none⟩)] w fun e w' => e = .returned (tokV (tkn L i)) ∧ Below w.heap.size w w' := by
  have c0 := h.cs.c0
  have c1 := h.cs.c1
  obtain ⟨t0, t1, t2, t3⟩ := h.tok
  have hi := h.hi
  have hl := h.len
  have hsz := h.cs.size
  have hbz := h.hb
  unfold tokV
  generalize tkn L i = t at *
  clear h
  go_enter Tryz.func123, Tryz.ntmps123
  go_wp2
  go_region
  go_wp2
  refine bodyPost_ret (results_cell_row rfl _ _ w.heap.size _ _ _ (.struct _) rfl (box_alloc w _ _) rfl rfl (by kernel_rfl)) rfl ?_
  exact ⟨rfl, drewN_below (allocB w _) 1⟩
theorem failure_x (h : At w g b n c L i o) (e : Int) : Calls Tryz.prog 125 #[.pointer (some ⟨g, 0, none⟩), .int .i64 e] w fun en w' => en = .returned (failV L i e) ∧ Below w.heap.size w w' := by
  have HN : Hid (∀ W, Below w.heap.size w W → Calls Tryz.prog 123 #[.pointer (some ⟨g, 0, none⟩)] W fun e w' => e = .returned (tokV (tkn L i)) ∧ Below W.heap.size W w') := fun W hW => next_x (h.new hW)
  unfold failV
  unfold tokV at HN
  generalize tkn L i = t at *
  clear h
  go_enter Tryz.func125, Tryz.ntmps125
  go_wp2_with fail
  refine (HN.out _ (allocB w _)).mono ?_
  rintro en w1 ⟨rfl, hb1⟩
  have hb0 := (allocB w (.cells #[.int .i64 0, .int .i64 0, .int .i64 0] 91)).trans (hb1.mono (by simp))
  have hx := ((box_alloc w 91 #[.int .i64 0, .int .i64 0, .int .i64 0]).new hb1).new (allocB w1 (.cells #[Value.int IntKind.i64 t.k, Value.string (bt t.t), Value.int IntKind.i64 t.ln, Value.int IntKind.i64 t.co] 44))
  go_wp2_with (refine wpList_store_row rfl 91 (.tmp 4) (.tmp 14) rfl w.heap.size _ rfl rfl 91 _ hx (by kernel_rfl) rfl (by simp [Value.oneCell']) ?_)
  refine bodyPost_ret (results_cell_row rfl _ _ w.heap.size _ _ _ (.struct _) rfl (hx.set _) rfl rfl (by kernel_rfl)) rfl ?_
  exact ⟨rfl, below_row (hb0.trans ((allocB w1 _).mono hb0.size)) (Nat.le_refl _) _⟩
/-- An operation of a drawn region that yields its value in every world of S; one whose guard does not come up. -/
theorem tkH {P : Program} {md : Region.Mode} {ops : Array Oper} {Q : Exit → Act → World → Prop} {S : World → Prop} {i : Nat} {oi : Oper} {v : Value} {fuel : Nat} {listed : Array Bool} {a : Act} {w : World}
    (hy : ∀ w, S w → (execOp a.eval oi).run P w = .ok (.value v) w) (h : wpAnyH P md ops Q S fuel (listed.setIfInBounds i true) (a.put oi.dst v) w) (hS : S w := by assumption) (hi : ops[i]? = some oi := by rfl) (hg : Region.wanted oi (yielded ops a.tmps) = true := by rfl)
    (hs : Region.noSelect ops = true := by kernel_rfl) (hf : Region.free md ops listed i = true := by kernel_rfl) (hr : (Region.ready md ops listed).contains i = true := by kernel_rfl) (hQ : ∀ c a w, Q (.panic c) (a.put oi.dst v) w → Q (.panic c) a w := by exact fun _ _ _ h => h) : wpAnyH P md ops Q S (fuel + 1) listed a w :=
  wpAnyH_take hi hs hf hr hQ (.inl ⟨hg, hy⟩) hS h
theorem tkU {P : Program} {md : Region.Mode} {ops : Array Oper} {Q : Exit → Act → World → Prop} {S : World → Prop} {i : Nat} {oi : Oper} {fuel : Nat} {listed : Array Bool} {a : Act} {w : World}
    (h : wpAnyH P md ops Q S fuel (listed.setIfInBounds i true) (a.put oi.dst undef) w) (hS : S w := by assumption) (hi : ops[i]? = some oi := by rfl) (hg : Region.wanted oi (yielded ops a.tmps) = false := by rfl)
    (hs : Region.noSelect ops = true := by kernel_rfl) (hf : Region.free md ops listed i = true := by kernel_rfl) (hr : (Region.ready md ops listed).contains i = true := by kernel_rfl) (hQ : ∀ c a w, Q (.panic c) (a.put oi.dst undef) w → Q (.panic c) a w := by exact fun _ _ _ h => h) : wpAnyH P md ops Q S (fuel + 1) listed a w :=
  wpAnyH_take hi hs hf hr hQ (.inr ⟨hg, rfl⟩) hS h
theorem post_panic {fn : Func} {R : Ending → World → Prop} {a : Act} {w : World} {ch : List PanicEntry} (hd : a.defers = []) (hR : R (.panicked ch) w) : bodyPost Tryz.prog fn R (.panic ch) a w := ⟨hd, hR⟩
theorem bt_list (l : Bs) : (bt l).toList = l := by rw [Lib.toList_data]; rfl
/-- What the parser's block and its tokens are kept by. -/
theorem At.but (h : At w g b n c L i o) {w' : World} (hb : But g w w') (x y : Int) (hc : PC w' g b n c x y) (j : Nat) (q : Int) (hx : x = j) (hy : y = q) (hj : j < n) (hq : -(j : Int) ≤ q ∧ q ≤ 10) : At w' g b n c L j q :=
  ⟨hx ▸ hy ▸ hc, h.ne, Nat.lt_of_lt_of_le h.hb hb.size, fun k t ht => (h.tk k t ht).keep (hb.block b h.hb h.ne), h.hn, hj, hq, h.good, h.gl.keep fun k hk => hb.block k (by have := h.g8; have := h.cs.size; omega) (by have := h.g8; omega), h.g8, h.b8⟩
set_option maxHeartbeats 1000000 in
theorem take_x (h : At w g b n c L i o) (hk : (tkn L i).k ≠ 5) : Calls Tryz.prog 124 #[.pointer (some ⟨g, 0, none⟩)] w (Giv g b n c L rdU w i 1 (take (tkn L i).t i o)) := by
  have HN : Hid (Calls Tryz.prog 123 #[.pointer (some ⟨g, 0, none⟩)] w fun e w' => e = .returned (tokV (tkn L i)) ∧ Below w.heap.size w w') := next_x h
  have HF : Hid (∀ W, Below w.heap.size w W → Calls Tryz.prog 125 #[.pointer (some ⟨g, 0, none⟩), .int .i64 9] W fun en w' => en = .returned (failV L i 9) ∧ Below W.heap.size W w') := fun W hW => failure_x (h.new hW) 9
  have hm := h.more hk
  have hl := h.len
  have hi := h.hi
  have ho := h.ho
  have HG : Hid (∀ e, Ending.panicked [{ v := .iface 91 (failV L i e), recovered := false }] = .panicked (chn L i e)) := fun _ => rfl
  unfold tokV at HN
  generalize hr : take (tkn L i).t i o = r
  generalize tkn L i = t at *
  obtain ⟨s, hs⟩ : ∃ s, bt t.t = s := ⟨_, rfl⟩
  have hsl : s.toList = t.t := by rw [← hs, bt_list]
  rw [hs] at HN
  unfold take at hr
  have HW : Hid (∀ w1, Below w.heap.size w w1 → At w1 g b n c L i o ∧ But g w w1) := fun w1 hb => ⟨h.new hb, But.of_below hb⟩
  clear h hs
  generalize t.t = T at *
  go_enter Tryz.func124, Tryz.ntmps124
  go_wp2_with fail
  refine HN.out.mono ?_
  rintro en w1 ⟨rfl, hb1⟩
  obtain ⟨h1, hB1⟩ := HW.out w1 hb1
  have HF1 : Hid (Calls Tryz.prog 125 #[.pointer (some ⟨g, 0, none⟩), .int .i64 9] w1 fun en w' => en = .returned (failV L i 9) ∧ Below w1.heap.size w1 w') := HF.out w1 hb1
  have c1 := h1.cs.c1
  have c2 := h1.cs.c2
  have f1 := h1.cs.fr 1
  have f2 := h1.cs.fr 2
  have HH := Lib.hid h1
  have HBB := Lib.hid hB1
  clear h1 hB1 HF HN HW hb1
  by_cases n40 : T = [40]
  · have e := n40
    have q40 : (s.toList == [40]) = true := by rw [hsl, e]; decide
    have q91 : (s.toList == [91]) = false := by rw [hsl, e]; decide
    have q123 : (s.toList == [123]) = false := by rw [hsl, e]; decide
    have q41 : (s.toList == [41]) = false := by rw [hsl, e]; decide
    have q93 : (s.toList == [93]) = false := by rw [hsl, e]; decide
    have q125 : (s.toList == [125]) = false := by rw [hsl, e]; decide
    rw [if_pos (by simp [e])] at hr
    by_cases ht : o = 10
    · have qo : (o == 10) = true := by simp [ht]
      rw [if_pos ht] at hr
      unfold failV at HF1
      go_wp2_with fail
      refine HF1.out.mono ?_
      rintro en w2 ⟨rfl, hb2⟩
      go_wp2
      exact post_panic rfl (Or.inr ⟨i, 9, hr.symm, HG.out 9, hi, HBB.out.trans (But.of_below hb2)⟩)
    · have qo : (o == 10) = false := by simpa using ht
      rw [if_neg ht] at hr
      go_wp2
      go_end0
      exact Or.inl ⟨(), i + 1, o + 1, _, hr.symm, rfl, rfl, HH.out.but ((((But.refl g w1).set 2 _).set 1 _)) _ _ ((HH.out.cs.set2 _).set1 _) _ _ (by omega) rfl hm (by omega), Nat.le_refl _, HBB.out.trans (((But.refl g w1).set 2 _).set 1 _)⟩
  by_cases n91 : T = [91]
  · have e := n91
    have q40 : (s.toList == [40]) = false := by rw [hsl, e]; decide
    have q91 : (s.toList == [91]) = true := by rw [hsl, e]; decide
    have q123 : (s.toList == [123]) = false := by rw [hsl, e]; decide
    have q41 : (s.toList == [41]) = false := by rw [hsl, e]; decide
    have q93 : (s.toList == [93]) = false := by rw [hsl, e]; decide
    have q125 : (s.toList == [125]) = false := by rw [hsl, e]; decide
    rw [if_pos (by simp [e])] at hr
    by_cases ht : o = 10
    · have qo : (o == 10) = true := by simp [ht]
      rw [if_pos ht] at hr
      unfold failV at HF1
      go_wp2_with fail
      refine HF1.out.mono ?_
      rintro en w2 ⟨rfl, hb2⟩
      go_wp2
      exact post_panic rfl (Or.inr ⟨i, 9, hr.symm, HG.out 9, hi, HBB.out.trans (But.of_below hb2)⟩)
    · have qo : (o == 10) = false := by simpa using ht
      rw [if_neg ht] at hr
      go_wp2
      go_end0
      exact Or.inl ⟨(), i + 1, o + 1, _, hr.symm, rfl, rfl, HH.out.but ((((But.refl g w1).set 2 _).set 1 _)) _ _ ((HH.out.cs.set2 _).set1 _) _ _ (by omega) rfl hm (by omega), Nat.le_refl _, HBB.out.trans (((But.refl g w1).set 2 _).set 1 _)⟩
  by_cases n123 : T = [123]
  · have e := n123
    have q40 : (s.toList == [40]) = false := by rw [hsl, e]; decide
    have q91 : (s.toList == [91]) = false := by rw [hsl, e]; decide
    have q123 : (s.toList == [123]) = true := by rw [hsl, e]; decide
    have q41 : (s.toList == [41]) = false := by rw [hsl, e]; decide
    have q93 : (s.toList == [93]) = false := by rw [hsl, e]; decide
    have q125 : (s.toList == [125]) = false := by rw [hsl, e]; decide
    rw [if_pos (by simp [e])] at hr
    by_cases ht : o = 10
    · have qo : (o == 10) = true := by simp [ht]
      rw [if_pos ht] at hr
      unfold failV at HF1
      go_wp2_with fail
      refine HF1.out.mono ?_
      rintro en w2 ⟨rfl, hb2⟩
      go_wp2
      exact post_panic rfl (Or.inr ⟨i, 9, hr.symm, HG.out 9, hi, HBB.out.trans (But.of_below hb2)⟩)
    · have qo : (o == 10) = false := by simpa using ht
      rw [if_neg ht] at hr
      go_wp2
      go_end0
      exact Or.inl ⟨(), i + 1, o + 1, _, hr.symm, rfl, rfl, HH.out.but ((((But.refl g w1).set 2 _).set 1 _)) _ _ ((HH.out.cs.set2 _).set1 _) _ _ (by omega) rfl hm (by omega), Nat.le_refl _, HBB.out.trans (((But.refl g w1).set 2 _).set 1 _)⟩
  by_cases n41 : T = [41]
  · have e := n41
    have q40 : (s.toList == [40]) = false := by rw [hsl, e]; decide
    have q91 : (s.toList == [91]) = false := by rw [hsl, e]; decide
    have q123 : (s.toList == [123]) = false := by rw [hsl, e]; decide
    have q41 : (s.toList == [41]) = true := by rw [hsl, e]; decide
    have q93 : (s.toList == [93]) = false := by rw [hsl, e]; decide
    have q125 : (s.toList == [125]) = false := by rw [hsl, e]; decide
    rw [if_neg (by simp [e]), if_pos (by simp [e])] at hr
    go_wp2
    go_end0
    exact Or.inl ⟨(), i + 1, o - 1, _, hr.symm, rfl, rfl, HH.out.but ((((But.refl g w1).set 2 _).set 1 _)) _ _ ((HH.out.cs.set2 _).set1 _) _ _ (by omega) rfl hm (by omega), Nat.le_refl _, HBB.out.trans (((But.refl g w1).set 2 _).set 1 _)⟩
  by_cases n93 : T = [93]
  · have e := n93
    have q40 : (s.toList == [40]) = false := by rw [hsl, e]; decide
    have q91 : (s.toList == [91]) = false := by rw [hsl, e]; decide
    have q123 : (s.toList == [123]) = false := by rw [hsl, e]; decide
    have q41 : (s.toList == [41]) = false := by rw [hsl, e]; decide
    have q93 : (s.toList == [93]) = true := by rw [hsl, e]; decide
    have q125 : (s.toList == [125]) = false := by rw [hsl, e]; decide
    rw [if_neg (by simp [e]), if_pos (by simp [e])] at hr
    go_wp2
    go_end0
    exact Or.inl ⟨(), i + 1, o - 1, _, hr.symm, rfl, rfl, HH.out.but ((((But.refl g w1).set 2 _).set 1 _)) _ _ ((HH.out.cs.set2 _).set1 _) _ _ (by omega) rfl hm (by omega), Nat.le_refl _, HBB.out.trans (((But.refl g w1).set 2 _).set 1 _)⟩
  by_cases n125 : T = [125]
  · have e := n125
    have q40 : (s.toList == [40]) = false := by rw [hsl, e]; decide
    have q91 : (s.toList == [91]) = false := by rw [hsl, e]; decide
    have q123 : (s.toList == [123]) = false := by rw [hsl, e]; decide
    have q41 : (s.toList == [41]) = false := by rw [hsl, e]; decide
    have q93 : (s.toList == [93]) = false := by rw [hsl, e]; decide
    have q125 : (s.toList == [125]) = true := by rw [hsl, e]; decide
    rw [if_neg (by simp [e]), if_pos (by simp [e])] at hr
    go_wp2
    go_end0
    exact Or.inl ⟨(), i + 1, o - 1, _, hr.symm, rfl, rfl, HH.out.but ((((But.refl g w1).set 2 _).set 1 _)) _ _ ((HH.out.cs.set2 _).set1 _) _ _ (by omega) rfl hm (by omega), Nat.le_refl _, HBB.out.trans (((But.refl g w1).set 2 _).set 1 _)⟩
  · have q40 : (s.toList == [40]) = false := by rw [hsl]; simpa using n40
    have q91 : (s.toList == [91]) = false := by rw [hsl]; simpa using n91
    have q123 : (s.toList == [123]) = false := by rw [hsl]; simpa using n123
    have q41 : (s.toList == [41]) = false := by rw [hsl]; simpa using n41
    have q93 : (s.toList == [93]) = false := by rw [hsl]; simpa using n93
    have q125 : (s.toList == [125]) = false := by rw [hsl]; simpa using n125
    rw [if_neg (by simp [n40, n91, n123]), if_neg (by simp [n41, n93, n125])] at hr
    clear hsl n40 n91 n123 n41 n93 n125
    go_wp2
    go_end0
    exact Or.inl ⟨(), i + 1, o, _, hr.symm, rfl, rfl, HH.out.but ((But.refl g w1).set 1 _) _ _ (HH.out.cs.set1 _) _ _ (by omega) rfl hm (by omega), Nat.le_refl _, HBB.out.trans ((But.refl g w1).set 1 _)⟩
end Ps
end Go.Proofs.YtggdhgppclnckaaGreatDoor
