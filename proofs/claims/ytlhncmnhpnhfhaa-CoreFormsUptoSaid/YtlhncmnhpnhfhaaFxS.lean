/-
  A range over a function whose own body ranges over a function: the contract of such an iterator, and the law of its caller, at the fence that asks nothing. No function of the program is named here.
-/
import Derived.RangeFuncBox
import Derived.Test.YtlhncmnhpnhfhaaFxE
namespace Go.Proofs.Ytlhncmnhpnhfhaa
open Go Go.RowKit Go.Shelf
set_option maxRecDepth 20000
namespace Fx

/-- What a round does to memory: what lay below n₀ is as it was, and so is what is no cells from B on, and each box of a variable of type T. -/
structure Rw (T : TypeId) (n₀ B : Nat) (W W' : World) : Prop where
  below : Below n₀ W W'
  from_ : KeepsFrom B W W'
  box : ∀ k v, Boxed W k T v → Boxed W' k T v
theorem Rw.refl (T : TypeId) (n₀ B : Nat) (W : World) : Rw T n₀ B W W := ⟨Below.refl _ _, KeepsFrom.refl _ _, fun _ _ h => h⟩
theorem Rw.trans {T : TypeId} {n₀ B : Nat} {X Y Z : World} (h : Rw T n₀ B X Y) (k : Rw T n₀ B Y Z) : Rw T n₀ B X Z := ⟨h.below.trans k.below, h.from_.trans k.from_, fun _ _ hb => k.box _ _ (h.box _ _ hb)⟩
theorem KeepsFrom.up {B B' : Nat} {W W' : World} (h : KeepsFrom B W W') (hB : B ≤ B') : KeepsFrom B' W W' := ⟨h.size, fun k o hk => h.same k o (Nat.le_trans hB hk)⟩
theorem Rw.up {T : TypeId} {n₀ n₁ B B' : Nat} {W W' : World} (h : Rw T n₀ B W W') (hn : n₁ ≤ n₀) (hB : B ≤ B') : Rw T n₁ B' W W' := ⟨h.below.mono hn, KeepsFrom.up h.from_ hB, h.box⟩
theorem Rw.put {T : TypeId} {n₀ B l : Nat} {W : World} {o : Obj} (o' : Obj) (h0 : n₀ ≤ l) (hl : W.heap[l]? = some o) (ho : o.isCells = false) (hB : l < B) : Rw T n₀ B W (W.putObj l o') := by
  have hlt := (Array.getElem?_eq_some_iff.1 hl).1
  refine ⟨(Below.refl n₀ W).grown (grownBy_putObj' W l o') (by omega) (fun k e => by cases e; exact h0), KeepsFrom.of_grownBy (grownBy_putObj' W l o') fun j e => by cases e; exact hB, fun k v hb => ?_⟩
  refine hb.kept (grownBy_putObj' W l o') fun e => ?_
  have e' := Option.some.inj e
  rw [e'] at hb
  have h2 : W.heap[l]? = _ := hb
  rw [hl] at h2
  cases h2
  cases ho
theorem Rw.drew (T : TypeId) (n₀ B : Nat) (W : World) : Rw T n₀ B W W.drew := ⟨Below.drew (Below.refl n₀ W), (KeepsOthers.drew W).from B, fun _ _ h => h⟩

/-- The iterator gives what S says, or, where a round says 'no more', what Sp says. -/
def SeqS {α : Type} (T : TypeId) (P : Program) (g : Nat) (lb : Array Value) (encs : α → Array Value) (n₀ : Nat) (S Sp : List α → Prop) (N : Nat) (w : World) : Prop :=
  ∀ (l : Nat) (J Jx : List α → World → Prop) (W : World), Below w.heap.size w W → n₀ ≤ W.heap.size → OwnFrom W.heap.size J → OwnFrom W.heap.size Jx →
    (∀ m pre x W1, J pre W1 → pre.length < N → YieldAt Fence.wide m P l (encs x) W1 fun e W' =>
      Rw T n₀ W.heap.size W1 W' ∧ ((e = .returned (.bool true) ∧ J (pre ++ [x]) W') ∨ (e = .returned (.bool false) ∧ Jx (pre ++ [x]) W'))) →
    J [] W → ∀ n,
    CallsIn Fence.wide n P g (#[.func (.yield l) #[] #[]] ++ lb) W fun e W' => (∃ v, e = .returned v) ∧ ((∃ xs, S xs ∧ J xs W') ∨ (∃ pre, Sp pre ∧ Jx pre W'))

/-- How a round's body may be left. -/
def postS {α : Type} (T : TypeId) (n₀ B : Nat) (I : List α → World → Prop) (Ix : Code → List α → World → Prop) (xs : List α) (W : World) : Exit → Act → World → Prop
  | .normal, _, W' => Rw T n₀ B W W' ∧ I xs W'
  | .ret, _, W' => Rw T n₀ B W W' ∧ Ix .ret xs W'
  | .exit id, _, W' => Rw T n₀ B W W' ∧ Ix (.exit id) xs W'
  | .goto t, _, W' => Rw T n₀ B W W' ∧ Ix (.goto t) xs W'
  | .panic _, _, _ => False
  | .outgrown, _, _ => False

set_option maxHeartbeats 1000000 in
theorem range_s {α : Type} {T : TypeId} {P : Program} {n : Nat} {g : Operand} {ps : Array Tmp} {assign body : Code} {Q : Exit → Act → World → Prop} {a : Act} {w w0 : World} {gf n₀ N : Nat} {lb : Array Value} {encs : α → Array Value} {S Sp : List α → Prop}
    (hg : a.eval g = .func (.func gf) #[] lb) (eg : ∀ args w, (callFunc gf args).run P w = .ok (.enter gf args) w) (hseq : SeqS T P gf lb encs n₀ S Sp N w0) (hb0 : Below w0.heap.size w0 w) (hn : n₀ ≤ w.heap.size) (hps : ∀ x, (encs x).size = ps.size)
    (I : List α → World → Prop) (Ix : Code → List α → World → Prop) (hI : OwnFrom w.heap.size I) (hIx : ∀ c, OwnFrom w.heap.size (Ix c)) (h0 : I [] w) (a₁ : α → Act)
    (hassign : ∀ (m l : Nat) (x : α) (W : World) (K : Act → World → Prop), K (a₁ x) W →
      assign.wpIn (Fence.wide.inRound l) m P (Exit.then K (fun _ _ _ => False)) { tmps := (ps.zip (encs x)).foldl (fun t (p, v) => t.setIfInBounds p v) a.tmps, defers := [] } W)
    (hbody : ∀ (m l : Nat) (pre : List α) (x : α) (W : World), I pre W → pre.length < N → body.wpIn (Fence.wide.inRound l) m P (postS T n₀ w.heap.size I Ix (pre ++ [x]) W) (a₁ x) W)
    (hdone : ∀ (D : Nat) (xs : List α) (W : World), w.heap.size ≤ D → S xs → I xs W → W.heap[D]? = some (.deferred (some [])) → Q .normal { a with defers := { target := .collected D, args := #[] } :: a.defers } W)
    (hstop : ∀ (D : Nat) (c : Code) (pre : List α) (W : World), w.heap.size ≤ D → Sp pre → Ix c pre W → W.heap[D]? = some (.deferred (some [])) → c.wpIn Fence.wide n P Q { a with defers := { target := .collected D, args := #[] } :: a.defers } W) :
    (Code.rangeFunc g ps assign body).wpIn Fence.wide n P Q a w := by
  refine wpIn_rangeFunc fun fn hfn => ?_
  -- the loop's record, by its state and its pending jump; the world in which the iterator is called
  generalize hrec : (fun (st : LoopState) (pe : Option Code) => ({ state := st, pending := pe, fn, tmps := a.tmps, params := ps, assign, body, defers := w.heap.size } : Loop)) = rec
  have hrp : ∀ st pe, (rec st pe).params = ps := fun st pe => by rw [← hrec]
  have hrs : ∀ st pe, (rec st pe).state = st := fun st pe => by rw [← hrec]
  have hrj : ∀ st pe, (rec st pe).pending = pe := fun st pe => by rw [← hrec]
  have hru : ∀ st pe st', { rec st pe with state := st' } = rec st' pe := fun st pe st' => by rw [← hrec]
  have hrq : ∀ st pe st' pe', { rec st pe with state := st', pending := pe' } = rec st' pe' := fun st pe st' pe' => by rw [← hrec]
  generalize hV : (w.alloc (.deferred (some []))).alloc (.loop (rec .ready none)) = V
  have sV : V.heap.size = w.heap.size + 2 := by rw [← hV]; simp
  have gD : V.heap[w.heap.size]? = some (.deferred (some [])) := by rw [← hV]; exact (Below.heap_alloc _ _ _ (by simp)).trans (World.alloc_heap_new w _)
  have gL : V.heap[w.heap.size + 1]? = some (.loop (rec .ready none)) := by
    have := World.alloc_heap_new (w.alloc (.deferred (some []))) (.loop (rec .ready none))
    rw [World.size_alloc] at this
    rw [← hV]; exact this
  have bV : Below w.heap.size w V := by rw [← hV]; exact ((Below.refl _ w).alloc (Nat.le_refl _) _).alloc (by simp) _
  have iV : I [] V := by rw [← hV]; exact hI.alloc _ (hI.alloc _ h0)
  -- what is held between two rounds
  obtain ⟨J, hJ⟩ : ∃ J : List α → World → Prop, J = fun pre W => I pre W ∧ W.heap[w.heap.size + 1]? = some (.loop (rec .ready none)) ∧ W.heap[w.heap.size]? = some (.deferred (some [])) := ⟨_, rfl⟩
  obtain ⟨Jx, hJx⟩ : ∃ Jx : List α → World → Prop, Jx = fun pre W => ∃ c, Ix c pre W ∧ W.heap[w.heap.size + 1]? = some (.loop (rec .done (some c))) ∧ W.heap[w.heap.size]? = some (.deferred (some [])) := ⟨_, rfl⟩
  have same : ∀ {A B : World} {row : Option Nat} {k : Nat}, A.grownBy B row → (∀ r, row = some r → V.heap.size ≤ r ∧ ∃ o : Obj, A.heap[r]? = some o ∧ o.isCells = false) → k < V.heap.size → ∀ {o : Obj}, A.heap[k]? = some o → B.heap[k]? = some o :=
    fun hg hr hk _ ho => (hg.block _ (Array.getElem?_eq_some_iff.1 ho).1 fun e => by have := (hr _ e.symm).1; omega).trans ho
  have low : ∀ {A : World} {row : Option Nat}, (∀ r, row = some r → V.heap.size ≤ r ∧ ∃ o : Obj, A.heap[r]? = some o ∧ o.isCells = false) → ∀ r, row = some r → w.heap.size ≤ r ∧ ∃ o : Obj, A.heap[r]? = some o ∧ o.isCells = false :=
    fun hr r e => ⟨by have := (hr r e).1; omega, (hr r e).2⟩
  have oJ : OwnFrom V.heap.size J := by
    subst hJ
    exact fun s A B row hs hg hr => ⟨hI s A B row hs.1 hg (low hr), same hg hr (by omega) hs.2.1, same hg hr (by omega) hs.2.2⟩
  have oJx : OwnFrom V.heap.size Jx := by
    subst hJx
    rintro s A B row ⟨c, hs⟩ hg hr
    exact ⟨c, hIx c s A B row hs.1 hg (low hr), same hg hr (by omega) hs.2.1, same hg hr (by omega) hs.2.2⟩
  have hcall := hseq (w.heap.size + 1) J Jx V (hb0.trans (bV.mono hb0.size)) (by omega) oJ oJx ?_ (by subst hJ; exact ⟨iV, gL, gD⟩) (n - 1)
  · refine ⟨w.heap.size + 1, [{ target := .collected w.heap.size, args := #[] }], V, { target := .fn (.func gf) lb, args := #[.func (.yield (w.heap.size + 1)) #[] #[]] }, V, gf, #[.func (.yield (w.heap.size + 1)) #[] #[]] ++ lb, V, ?_, ?_, ?_, ?_, ?_, ?_⟩
    · rw [← hV, ← hrec]; exact run_enterLoop_outer _ _ _ _ _
    · simp only [resolve, hg]; simp [go_sem]
    · exact fun _ _ => trivial
    · simp [invoke, go_sem, eg]
    · exact fun h => (by cases h)
    · refine hcall.mono ?_
      subst hJ hJx
      rintro e W ⟨⟨v, rfl⟩, ⟨xs, hS, hi, hl, hk⟩ | ⟨pre, hSp, c, hi, hl, hk⟩⟩
      · have hend := run_endLoop (P := P) hl (by rw [hrs]; simp)
        rw [hrj] at hend
        exact ⟨none, _, hend, hdone _ xs _ (Nat.le_refl _) hS (hI.putObj _ hi (by omega) hl rfl) ((World.putObj_heap_other (by omega)).trans hk)⟩
      · have hend := run_endLoop (P := P) hl (by rw [hrs]; simp)
        rw [hrj] at hend
        exact ⟨some c, _, hend, hstop _ c pre _ (Nat.le_refl _) hSp ((hIx c).putObj _ hi (by omega) hl rfl) ((World.putObj_heap_other (by omega)).trans hk)⟩
  · -- one round
    subst hJ hJx
    rintro m pre x W ⟨hi, hl, hk⟩ hlen
    have hlt : w.heap.size + 1 < W.heap.size := (Array.getElem?_eq_some_iff.1 hl).1
    have hy := run_yield (P := P) (args := encs x) hl (by rw [hrp]; exact hps x)
    rw [← hrec] at hy
    refine ⟨fn, _, assign, body, hy, roundIn_of_wpIn hfn (hassign _ _ x W _ ⟨_, run_beginRound hl (hrs _ _), ?_⟩)⟩
    rw [hru]
    generalize hB : W.putObj (w.heap.size + 1) (.loop (rec .busy none)) = B
    have lB : B.heap[w.heap.size + 1]? = some (.loop (rec .busy none)) := by rw [← hB]; exact World.putObj_heap_same hlt
    have dB : B.heap[w.heap.size]? = some (.deferred (some [])) := by rw [← hB]; exact (World.putObj_heap_other (by omega)).trans hk
    have rB : Rw T n₀ V.heap.size W B := by rw [← hB]; exact Rw.put _ (by omega) hl rfl (by omega)
    have iB : I pre B := by rw [← hB]; exact hI.putObj _ hi (by omega) hl rfl
    refine wpIn_mono (hbody _ _ pre x B iB hlen) ?_
    -- the round's end: the record is turned once more
    have fin : ∀ (jump : Option Code) (X : World), Rw T n₀ w.heap.size B X → ∃ Y, (Instr.endRound (w.heap.size + 1) jump).run P X = .ok (.bool jump.isNone) Y ∧ Y = X.putObj (w.heap.size + 1) (.loop (rec (if jump.isNone then .ready else .done) jump)) ∧
        X.heap[w.heap.size + 1]? = some (.loop (rec .busy none)) ∧ Y.heap[w.heap.size + 1]? = some (.loop (rec (if jump.isNone then .ready else .done) jump)) ∧ Y.heap[w.heap.size]? = some (.deferred (some [])) ∧ Rw T n₀ V.heap.size W Y := by
      intro jump X hX
      have lX := hX.from_.same _ _ (by omega) lB rfl
      have dX := hX.from_.same _ _ (Nat.le_refl _) dB rfl
      have hr := run_endRound (P := P) jump lX
      rw [hrq] at hr
      exact ⟨_, hr, rfl, lX, World.putObj_heap_same (Array.getElem?_eq_some_iff.1 lX).1, (World.putObj_heap_other (by omega)).trans dX, (rB.trans (hX.up (Nat.le_refl _) (by omega))).trans (Rw.put _ (by omega) lX rfl (by omega))⟩
    rintro e a' X hp
    cases e with
    | normal =>
      obtain ⟨Y, h1, rfl, h2, h3, h4, h5⟩ := fin none X hp.1
      exact ⟨_, _, h1, h5, .inl ⟨rfl, hI.putObj _ hp.2 (by omega) h2 rfl, h3, h4⟩⟩
    | ret =>
      obtain ⟨Y, h1, rfl, h2, h3, h4, h5⟩ := fin (some .ret) X hp.1
      exact ⟨_, _, h1, h5, .inr ⟨rfl, .ret, (hIx _).putObj _ hp.2 (by omega) h2 rfl, h3, h4⟩⟩
    | exit id =>
      obtain ⟨Y, h1, rfl, h2, h3, h4, h5⟩ := fin (some (.exit id)) X hp.1
      exact ⟨_, _, h1, h5, .inr ⟨rfl, .exit id, (hIx _).putObj _ hp.2 (by omega) h2 rfl, h3, h4⟩⟩
    | goto t =>
      obtain ⟨Y, h1, rfl, h2, h3, h4, h5⟩ := fin (some (.goto t)) X hp.1
      exact ⟨_, _, h1, h5, .inr ⟨rfl, .goto t, (hIx _).putObj _ hp.2 (by omega) h2 rfl, h3, h4⟩⟩
    | panic ch => exact hp.elim
    | outgrown => exact hp.elim

/-- The parts of a form, as such an iterator. -/
theorem parts_seq {T : TypeId} {n₀ deepest Bf Bd g o : Nat} {W0 w : World} {f : Fm} (hD : deepest ≤ 1000) (hf : FAt (Lo n₀) W0 f g o) (hb : Below n₀ W0 w) (hn : n₀ ≤ w.heap.size)
    (hBf : Bf < w.heap.size) (hBd : Bd < w.heap.size) (cf : w.cell? ⟨Bf, 0, none⟩ = some (.pointer (some ⟨g, o, none⟩))) (cd : w.cell? ⟨Bd, 0, none⟩ = some (.int .i64 deepest)) :
    SeqS T Try.prog 44 #[.pointer (some ⟨Bf, 0, none⟩), .pointer (some ⟨Bd, 0, none⟩)] (Pt.encs (n₀ := n₀) (W0 := W0)) n₀
      (fun ys => ys.map Pt.key = parts deepest 1 f) (fun ys => ys.map Pt.key <+: parts deepest 1 f) (parts deepest 1 f).length w := fun _l _J _Jx W hW _ _ _ hY h0 _n =>
  parts1_in hD hf (fun m pre x W1 hj hl => (hY m pre x W1 hj hl).mono fun _ _ ⟨hr, h⟩ => h.elim (fun ⟨he, hj⟩ => .inl ⟨he, hj, hr.below⟩) .inr) W (hb.trans (hW.mono hn)) ((hW.cell (p := ⟨Bf, 0, none⟩) hBf).trans cf) ((hW.cell (p := ⟨Bd, 0, none⟩) hBd).trans cd) h0
end Fx
end Go.Proofs.Ytlhncmnhpnhfhaa
