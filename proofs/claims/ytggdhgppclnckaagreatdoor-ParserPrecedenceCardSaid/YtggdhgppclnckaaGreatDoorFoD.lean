/-
  Lists of data: the cells of one element; the cells of expressions, draws, statements, functions, programs. No function of the program is named here.
-/
import Derived.Test.YtggdhgppclnckaaGreatDoorPasR
import Derived.Deep.MidRow
import Derived.BigFrame
namespace Go.Proofs.YtggdhgppclnckaaGreatDoor
open Go Go.RowKit Lx
set_option maxRecDepth 20000

namespace Ps
theorem flat_len {α β : Type} (f : α → List β) (sz : Nat) (hf : ∀ x, (f x).length = sz) (xs : List α) : (xs.flatMap f).length = xs.length * sz := by
  induction xs with
  | nil => simp
  | cons x xs ih => simp [hf, ih, Nat.succ_mul]; omega
theorem flat_get {α β : Type} (f : α → List β) (sz : Nat) (hf : ∀ x, (f x).length = sz) (xs : List α) (i j : Nat) (x : α) (hx : xs[i]? = some x) (hj : j < sz) : (xs.flatMap f)[i * sz + j]? = (f x)[j]? := by
  induction xs generalizing i with
  | nil => simp at hx
  | cons y xs ih =>
    rw [List.flatMap_cons]
    cases i with
    | zero =>
      simp at hx; subst hx
      rw [Nat.zero_mul, Nat.zero_add, List.getElem?_append_left (by rw [hf]; exact hj)]
    | succ i =>
      rw [List.getElem?_append_right (by rw [hf, Nat.succ_mul]; omega), hf, show (i + 1) * sz + j - sz = i * sz + j by rw [Nat.succ_mul]; omega]
      exact ih i (by simpa using hx)
/-- The cells of an element. -/
theorem Rd.elem {α : Type} {S : Nat → Prop} {w : World} {f : α → List D} {sz : Nat} (hf : ∀ x, (f x).length = sz) (hs : 0 < sz) {xs : List α} {A : Option Addr} {n c : Nat} (h : Rd S w (.l sz (xs.flatMap f)) (.slice A n c)) :
    n = xs.length ∧ n ≤ maxLen ∧ ∀ i x, xs[i]? = some x → ∃ g o vs, A = some ⟨g, o, none⟩ ∧ g < w.heap.size ∧ w.rangeAt g (o + i * sz) vs ∧ Rds S w (f x) vs := by
  generalize hd : D.l sz (xs.flatMap f) = d at h
  generalize hv : Value.slice A n c = v at h
  cases h with
  | n => cases hd
  | b => cases hd
  | s => cases hd
  | nil sz' =>
    injection hd with h1 h2
    injection hv with h3 h4 h5
    subst h1 h4
    cases xs with
    | nil => exact ⟨rfl, Nat.zero_le _, fun i x hx => by simp at hx⟩
    | cons x xs =>
      have := flat_len f sz hf (x :: xs)
      rw [h2] at this
      rw [List.length_cons, Nat.succ_mul] at this
      simp only [List.length_nil] at this
      omega
  | l sz' cs g o n' c' F hl hn hc hS hg hF hr =>
    injection hd with h1 h2
    injection hv with h3 h4 h5
    subst h1 h2 h3 h4 h5
    rw [flat_len f sz hf] at hl
    have hnx : n = xs.length := (Nat.eq_of_mul_eq_mul_right hs hl).symm
    refine ⟨hnx, Nat.le_trans hn hc, fun i x hx => ⟨g, o, (List.range sz).map fun j => F (i * sz + j), rfl, hg, ?_, ?_⟩⟩
    · intro j v hj
      rw [List.getElem?_map] at hj
      cases hq : (List.range sz)[j]? with
      | none => rw [hq] at hj; cases hj
      | some y =>
        rw [hq] at hj
        have hy := List.getElem?_eq_some_iff.1 hq
        obtain ⟨hy1, hy2⟩ := hy
        rw [List.length_range] at hy1
        simp at hy2; subst hy2
        injection hj with hj; subst hj
        have hi := (List.getElem?_eq_some_iff.1 hx).1
        rw [Nat.add_assoc]
        refine hF _ ?_
        rw [flat_len f sz hf]
        calc i * sz + j < i * sz + sz := by omega
          _ = (i + 1) * sz := by rw [Nat.succ_mul]
          _ ≤ xs.length * sz := Nat.mul_le_mul_right _ hi
    · refine Rds.of (by simp [hf]) fun j d v hd hv => ?_
      have hj : j < sz := by rw [← hf x]; exact (List.getElem?_eq_some_iff.1 hd).1
      rw [List.getElem?_map, List.getElem?_range hj] at hv
      injection hv with hv; subst hv
      exact hr _ d (by rw [flat_get f sz hf xs i j x hx hj]; exact hd)
theorem Rd.list {S : Nat → Prop} {w : World} {sz : Nat} {cs : List D} {v : Value} (h : Rd S w (.l sz cs) v) : ∃ A n c, v = .slice A n c := by
  generalize hd : D.l sz cs = d at h
  cases h with
  | n => cases hd
  | b => cases hd
  | s => cases hd
  | nil sz' => exact ⟨_, _, _, rfl⟩
  | l => exact ⟨_, _, _, rfl⟩
/-- A load of a struct within a block, as an operation. -/
theorem mid_yield {P : Program} {W : World} {b o : Nat} {t : TypeId} {cs : List Value} {fs : Array Field} {op : Oper} {a : Act} {x : Operand} (ho : op.op = .load t x) (hx : a.eval x = .pointer (some ⟨b, o, none⟩)) (h : W.rangeAt b o cs)
    (hu : P.underlying t = some (.struct fs)) (hi : (P.info? t).map (·.size) = some cs.length) : (execOp a.eval op).run P W = .ok (.value (.agg cs.toArray)) W := by
  unfold execOp
  simp only [ho, hx, Instr.loadAt, Instr.sureAddr, Sem.run_bind, Sem.run_pure, Result.andThen_ok, run_loadVar_mid W b o t cs (.struct fs) h hu rfl hi]
theorem wpList_load_midG {P : Program} {ops : Array Oper} {rest : List Oper} {op : Oper} {a : Act} {w : World} {Q : Exit → Act → World → Prop} (hw : Region.wanted op (yielded ops a.tmps) = true) (ty : TypeId) (x : Operand) (ho : op.op = .load ty x)
    (b o : Nat) (hx : a.eval x = .pointer (some ⟨b, o, none⟩)) (cs : List Value) (d : TypeDesc) (hc : w.rangeAt b o cs)
    (hu : P.underlying ty = some d) (hd : d.isRow = true) (hi : (P.info? ty).map (·.size) = some cs.length)
    (h : wpList P ops Q rest (a.put op.dst (.agg cs.toArray)) w) : wpList P ops Q (op :: rest) a w :=
  BigFrame.wpList_want hw fun _ hK => wp_load_mid ty x ho b o hx cs d hc hu hd hi (hK _ _ h)
theorem range_keep {w w' : World} {g o : Nat} {vs : List Value} (h : w.rangeAt g o vs) (hb : w'.heap[g]? = w.heap[g]?) : w'.rangeAt g o vs := fun j v hv => (World.cell?_of_block (a := ⟨g, o + j, none⟩) hb).trans (h j v hv)
theorem range_below {w w' : World} {g o : Nat} {vs : List Value} (h : w.rangeAt g o vs) (hg : g < w.heap.size) (hb : Below w.heap.size w w') : w'.rangeAt g o vs := range_keep h (hb.block g hg)
theorem range_part {w : World} {g o : Nat} (a b c : List Value) (h : w.rangeAt g o (a ++ (b ++ c))) : w.rangeAt g (o + a.length) b := fun j v hv => by
  rw [Nat.add_assoc]
  refine h _ v ?_
  rw [List.getElem?_append_right (by omega), Nat.add_sub_cancel_left, List.getElem?_append_left (List.getElem?_eq_some_iff.1 hv).1]; exact hv
abbrev Tt : Nat → Prop := fun _ => True
theorem Rds.tt {S : Nat → Prop} {w : World} {d : List D} {v : List Value} (h : Rds S w d v) : Rds Tt w d v := h.in fun _ _ => trivial
theorem map_flat {α : Type} (f : α → D) (l : List α) : l.map f = l.flatMap fun x => [f x] := by
  induction l with
  | nil => rfl
  | cons x l ih => simp [ih]
theorem rds_one {S : Nat → Prop} {w : World} {d : D} {vs : List Value} (h : Rds S w [d] vs) : ∃ v, vs = [v] ∧ Rd S w d v := by
  cases h with
  | cons h t => cases t; exact ⟨_, rfl, h⟩
theorem n_form {S : Nat → Prop} {w : World} {k : IntKind} {x : Int} {v : Value} (h : Rd S w (.n k x) v) : v = .int k x := by cases h; rfl
theorem rv_form {S : Nat → Prop} {w : World} {r : Rv} {vs : List Value} (h : Rds S w r.d vs) : ∃ A1 m1 c1 A2 m2 c2, vs = [.bool r.neg, .slice A1 m1 c1, .slice A2 m2 c2] ∧ Rd S w (.l 1 (r.num.map (.n .u32 ·))) (.slice A1 m1 c1) ∧ Rd S w (.l 1 (r.den.map (.n .u32 ·))) (.slice A2 m2 c2) := by
  unfold Rv.d at h
  cases h with
  | cons h0 h => cases h with
    | cons h1 h => cases h with
      | cons h2 h =>
        cases h
        cases h0
        obtain ⟨A1, m1, c1, rfl⟩ := h1.list
        obtain ⟨A2, m2, c2, rfl⟩ := h2.list
        exact ⟨_, _, _, _, _, _, rfl, h1, h2⟩
theorem ex_form {S : Nat → Prop} {w : World} {p q : Int} {r : Rv} {nm : Bs} {xs : List Ex} {vs : List Value} (h : Rds S w (Ex.mk p q r nm xs).d vs) : ∃ A1 m1 c1 A2 m2 c2 A3 m3 c3, vs = [.int .i64 p, .int .i64 q, .bool r.neg, .slice A1 m1 c1, .slice A2 m2 c2, .string (bt nm), .slice A3 m3 c3] ∧ Rds S w r.d [.bool r.neg, .slice A1 m1 c1, .slice A2 m2 c2] ∧ Rd S w (.l 7 (dsE xs)) (.slice A3 m3 c3) := by
  unfold Ex.d at h
  cases h with
  | cons h0 h => cases h with
    | cons h1 h => cases h with
      | cons h2 h => cases h with
        | cons h3 h => cases h with
          | cons h4 h => cases h with
            | cons h5 h => cases h with
              | cons h6 h =>
                cases h
                cases h0
                cases h1
                cases h2
                cases h5
                obtain ⟨A1, m1, c1, rfl⟩ := h3.list
                obtain ⟨A2, m2, c2, rfl⟩ := h4.list
                obtain ⟨A3, m3, c3, rfl⟩ := h6.list
                exact ⟨_, _, _, _, _, _, _, _, _, rfl, .cons (.b _) (.cons h3 (.cons h4 .nil)), h6⟩
theorem ty_form {S : Nat → Prop} {w : World} {p q x y : Int} {es : List Ty} {vs : List Value} (h : Rds S w (Ty.mk p q x y es).d vs) : ∃ A1 m1 c1, vs = [.int .i64 p, .int .i64 q, .int .i64 x, .int .i64 y, .slice A1 m1 c1] ∧ Rd S w (.l 5 (dsT es)) (.slice A1 m1 c1) := by
  unfold Ty.d at h
  cases h with
  | cons h0 h => cases h with
    | cons h1 h => cases h with
      | cons h2 h => cases h with
        | cons h3 h => cases h with
          | cons h4 h =>
            cases h
            cases h0
            cases h1
            cases h2
            cases h3
            obtain ⟨A1, m1, c1, rfl⟩ := h4.list
            exact ⟨_, _, _, rfl, h4⟩
theorem below_cell {w w' : World} (hb : Below w.heap.size w w') {k j : Nat} {v : Value} (h : w.cell? ⟨k, j, none⟩ = some v) (hk : k < w.heap.size) : w'.cell? ⟨k, j, none⟩ = some v := (World.cell?_of_block (a := ⟨k, j, none⟩) (hb.block k hk)).trans h
theorem dr_form {S : Nat → Prop} {w : World} {e : Dr} {vs : List Value} (h : Rds S w e.d vs) : ∃ A1 m1 c1 A2 m2 c2 A3 m3 c3 A4 m4 c4 A5 m5 c5, vs = [.int .i64 e.k, .int .i64 e.lo, .int .i64 e.hi, .bool e.fr.neg, .slice A1 m1 c1, .slice A2 m2 c2, .bool e.to.neg, .slice A3 m3 c3, .slice A4 m4 c4, .slice A5 m5 c5, .string (bt e.nm)] ∧ Rds S w e.fr.d [.bool e.fr.neg, .slice A1 m1 c1, .slice A2 m2 c2] ∧ Rds S w e.to.d [.bool e.to.neg, .slice A3 m3 c3, .slice A4 m4 c4] ∧ Rd S w (.l 7 (dsE e.ps)) (.slice A5 m5 c5) := by
  unfold Dr.d at h
  simp only [Rv.d, List.cons_append, List.nil_append] at h
  cases h with
  | cons h0 h => cases h with
    | cons h1 h => cases h with
      | cons h2 h => cases h with
        | cons h3 h => cases h with
          | cons h4 h => cases h with
            | cons h5 h => cases h with
              | cons h6 h => cases h with
                | cons h7 h => cases h with
                  | cons h8 h => cases h with
                    | cons h9 h => cases h with
                      | cons h10 h =>
                        cases h
                        cases h0
                        cases h1
                        cases h2
                        cases h3
                        cases h6
                        cases h10
                        obtain ⟨A1, m1, c1, rfl⟩ := h4.list
                        obtain ⟨A2, m2, c2, rfl⟩ := h5.list
                        obtain ⟨A3, m3, c3, rfl⟩ := h7.list
                        obtain ⟨A4, m4, c4, rfl⟩ := h8.list
                        obtain ⟨A5, m5, c5, rfl⟩ := h9.list
                        exact ⟨_, _, _, _, _, _, _, _, _, _, _, _, _, _, _, rfl, .cons (.b _) (.cons h4 (.cons h5 .nil)), .cons (.b _) (.cons h7 (.cons h8 .nil)), h9⟩
theorem rds_app {S : Nat → Prop} {w : World} {a b : List D} {vs : List Value} (h : Rds S w (a ++ b) vs) : ∃ x y, vs = x ++ y ∧ Rds S w a x ∧ Rds S w b y := by
  induction a generalizing vs with
  | nil => exact ⟨[], vs, rfl, .nil, h⟩
  | cons d a ih =>
    rw [List.cons_append] at h
    cases h with
    | cons h0 h =>
      obtain ⟨x, y, rfl, h1, h2⟩ := ih h
      exact ⟨_ :: x, y, rfl, .cons h0 h1, h2⟩
theorem ex_seven {S : Nat → Prop} {w : World} {e : Ex} {vs : List Value} (h : Rds S w e.d vs) : ∃ e0 e1 e2 e3 e4 e5 e6, vs = [e0, e1, e2, e3, e4, e5, e6] := by
  obtain ⟨p, q, r, nm, xs⟩ := e
  obtain ⟨_, _, _, _, _, _, _, _, _, rfl, _⟩ := ex_form h
  exact ⟨_, _, _, _, _, _, _, rfl⟩
theorem st_form {S : Nat → Prop} {w : World} {kk ii : Int} {nm fn : Bs} {ex : Ex} {ags : List Ex} {dr : Dr} {th el : List St} {vs : List Value} (h : Rds S w (St.mk kk nm fn ii ex ags dr th el).d vs) :
    ∃ e0 e1 e2 e3 e4 e5 e6 C1 m1 c1 j0 j1 j2 j3 j4 j5 j6 j7 j8 j9 j10 C2 m2 c2 C3 m3 c3, vs = [.int .i64 kk, .string (bt nm), .string (bt fn), .int .i64 ii, e0, e1, e2, e3, e4, e5, e6, .slice C1 m1 c1, j0, j1, j2, j3, j4, j5, j6, j7, j8, j9, j10, .slice C2 m2 c2, .slice C3 m3 c3] ∧
      Rds S w ex.d [e0, e1, e2, e3, e4, e5, e6] ∧ Rd S w (.l 7 (dsE ags)) (.slice C1 m1 c1) ∧ Rds S w dr.d [j0, j1, j2, j3, j4, j5, j6, j7, j8, j9, j10] ∧ Rd S w (.l 25 (dsS th)) (.slice C2 m2 c2) ∧ Rd S w (.l 25 (dsS el)) (.slice C3 m3 c3) := by
  unfold St.d at h
  obtain ⟨v1, v2, rfl, h1, g1⟩ := rds_app h
  obtain ⟨v3, v4, rfl, h2, g2⟩ := rds_app g1
  clear h g1
  cases h1 with
  | cons q0 h1 => cases h1 with
    | cons q1 h1 => cases h1 with
      | cons q2 h1 => cases h1 with
        | cons q3 h1 =>
          cases h1
          cases q0
          cases q1
          cases q2
          cases q3
          cases g2 with
          | cons h3 g3 =>
            obtain ⟨v5, v6, rfl, h4, g4⟩ := rds_app g3
            clear g3
            cases g4 with
            | cons h5 g5 => cases g5 with
              | cons h6 g6 =>
                cases g6
                obtain ⟨C1, m1, c1, rfl⟩ := h3.list
                obtain ⟨C2, m2, c2, rfl⟩ := h5.list
                obtain ⟨C3, m3, c3, rfl⟩ := h6.list
                obtain ⟨e0, e1, e2, e3, e4, e5, e6, rfl⟩ := ex_seven h2
                have h4' := h4
                obtain ⟨_, _, _, _, _, _, _, _, _, _, _, _, _, _, _, rfl, _⟩ := dr_form h4
                exact ⟨_, _, _, _, _, _, _, _, _, _, _, _, _, _, _, _, _, _, _, _, _, _, _, _, _, _, _, rfl, h2, h3, h4', h5, h6⟩
theorem fu_form {S : Nat → Prop} {w : World} {nm rs : Bs} {ags vv : List De} {bd : List St} {vs : List Value} (h : Rds S w (Fu.d ⟨nm, ags, vv, bd, rs⟩) vs) : ∃ C1 m1 c1 C2 m2 c2 C3 m3 c3, vs = [.string (bt nm), .slice C1 m1 c1, .slice C2 m2 c2, .slice C3 m3 c3, .string (bt rs)] ∧ Rd S w (.l 6 (ags.flatMap De.d)) (.slice C1 m1 c1) ∧ Rd S w (.l 6 (vv.flatMap De.d)) (.slice C2 m2 c2) ∧ Rd S w (.l 25 (dsS bd)) (.slice C3 m3 c3) := by
  unfold Fu.d at h
  cases h with
  | cons h0 h => cases h with
    | cons h1 h => cases h with
      | cons h2 h => cases h with
        | cons h3 h => cases h with
          | cons h4 h =>
            cases h
            cases h0
            cases h4
            obtain ⟨A1, m1, c1, rfl⟩ := h1.list
            obtain ⟨A2, m2, c2, rfl⟩ := h2.list
            obtain ⟨A3, m3, c3, rfl⟩ := h3.list
            exact ⟨_, _, _, _, _, _, _, _, _, rfl, h1, h2, h3⟩
theorem pr_form {S : Nat → Prop} {w : World} {e : Pr} {vs : List Value} (h : Rds S w e.d vs) : ∃ A1 m1 c1 A2 m2 c2 A3 m3 c3 A4 m4 c4 A5 m5 c5, vs = [.slice A1 m1 c1, .slice A2 m2 c2, .slice A3 m3 c3, .slice A4 m4 c4, .slice A5 m5 c5, .string (bt e.res)] ∧ Rd S w (.l 1 (e.params.map .s)) (.slice A1 m1 c1) ∧ Rd S w (.l 5 (e.funcs.flatMap Fu.d)) (.slice A2 m2 c2) ∧ Rd S w (.l 5 (e.queries.flatMap Fu.d)) (.slice A3 m3 c3) ∧ Rd S w (.l 6 (e.vars.flatMap De.d)) (.slice A4 m4 c4) ∧ Rd S w (.l 25 (dsS e.body)) (.slice A5 m5 c5) := by
  unfold Pr.d at h
  cases h with
  | cons h0 h => cases h with
    | cons h1 h => cases h with
      | cons h2 h => cases h with
        | cons h3 h => cases h with
          | cons h4 h => cases h with
            | cons h5 h =>
              cases h
              cases h5
              obtain ⟨A1, m1, c1, rfl⟩ := h0.list
              obtain ⟨A2, m2, c2, rfl⟩ := h1.list
              obtain ⟨A3, m3, c3, rfl⟩ := h2.list
              obtain ⟨A4, m4, c4, rfl⟩ := h3.list
              obtain ⟨A5, m5, c5, rfl⟩ := h4.list
              exact ⟨_, _, _, _, _, _, _, _, _, _, _, _, _, _, _, rfl, h0, h1, h2, h3, h4⟩
theorem s_form {S : Nat → Prop} {w : World} {t : Bs} {v : Value} (h : Rd S w (.s t) v) : v = .string (bt t) := by cases h; rfl
end Ps
end Go.Proofs.YtggdhgppclnckaaGreatDoor
