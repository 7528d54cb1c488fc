/-
  The coefficients of the powers of one variable, as lists of terms.
-/
import Derived.Test.YtnkfmbjpbfpfkaaGreatDoorPolyOps2
namespace Go.Proofs.YtnkfmbjpbfpfkaaGreatDoor

theorem mlt_set : ∀ {a b : Mon} {v : Nat}, a.length = b.length → a.getD v 0 = b.getD v 0 → mlt (a.set v 0) (b.set v 0) = mlt a b
  | [], [], _, _, _ => rfl
  | [], _ :: _, _, h, _ => by cases h
  | _ :: _, [], _, h, _ => by cases h
  | x :: a, y :: b, 0, _, h => by
    have hxy : x = y := by simpa using h
    subst hxy
    simp [mlt]
  | x :: a, y :: b, v + 1, hl, h => by
    have ih := mlt_set (a := a) (b := b) (v := v) (by simpa using hl) (by simpa using h)
    simp only [List.set_cons_succ, mlt, ih]
theorem madd_single : ∀ {L : List Int} {v : Nat} {e : Int}, L.length = 8 → v < 8 → L.getD v 0 = e → madd (L.set v 0) (single v e) = L := by
  intro L v e h8 hv he
  obtain ⟨x0, x1, x2, x3, x4, x5, x6, x7, rfl⟩ := eight h8
  match v, hv with
  | 0, _ | 1, _ | 2, _ | 3, _ | 4, _ | 5, _ | 6, _ | 7, _ =>
    simp at he
    subst he
    simp [madd, single]
/-- A term without the variable v. -/
def clr (v : Nat) (x : Tq) : Tq := ({ x.1 with L := x.1.L.set v 0 }, x.2)
/-- The terms in which v has the exponent e, without v. -/
def coefAt (v : Nat) (e : Int) (ds : List Tq) : List Tq := (ds.filter fun x => decide (x.1.L.getD v 0 = e)).map (clr v)
theorem coefAt_cons (v : Nat) (e : Int) (x : Tq) (ds : List Tq) : coefAt v e (x :: ds) = if x.1.L.getD v 0 = e then clr v x :: coefAt v e ds else coefAt v e ds := by
  unfold coefAt
  by_cases h : x.1.L.getD v 0 = e
  · rw [List.filter_cons_of_pos (by simpa using h), if_pos h]; rfl
  · rw [List.filter_cons_of_neg (by simpa using h), if_neg h]
theorem coefAt_snoc (v : Nat) (e : Int) (x : Tq) (ds : List Tq) : coefAt v e (ds ++ [x]) = if x.1.L.getD v 0 = e then coefAt v e ds ++ [clr v x] else coefAt v e ds := by
  unfold coefAt
  rw [List.filter_append, List.map_append]
  by_cases h : x.1.L.getD v 0 = e
  · rw [List.filter_cons_of_pos (by simpa using h), if_pos h]; rfl
  · rw [List.filter_cons_of_neg (by simpa using h), if_neg h]; simp
theorem mem_coefAt {v : Nat} {e : Int} {ds : List Tq} {y : Tq} (h : y ∈ coefAt v e ds) : ∃ x ∈ ds, x.1.L.getD v 0 = e ∧ y = clr v x := by
  obtain ⟨x, hx, rfl⟩ := List.mem_map.1 h
  obtain ⟨h1, h2⟩ := List.mem_filter.1 hx
  exact ⟨x, h1, by simpa using h2, rfl⟩
theorem coefAt_norml {v : Nat} {e : Int} : ∀ {ds : List Tq}, (∀ x ∈ ds, x.1.L.length = 8) → Norml (trms ds) → Norml (trms (coefAt v e ds))
  | [], _, _ => ⟨List.Pairwise.nil, fun u hu => by cases hu⟩
  | x :: ds, h8, h => by
    have ih := coefAt_norml (v := v) (e := e) (ds := ds) (fun y hy => h8 y (List.mem_cons_of_mem _ hy)) (Norml.tail h)
    rw [coefAt_cons]
    split
    · rename_i hx
      refine ⟨List.pairwise_cons.2 ⟨fun u hu => ?_, ih.1⟩, fun u hu => ?_⟩
      · obtain ⟨y, hy, rfl⟩ := List.mem_map.1 hu
        obtain ⟨z, hz, hze, rfl⟩ := mem_coefAt hy
        have h1 := (List.pairwise_cons.1 h.1).1 (z.1.L, z.2) (List.mem_map.2 ⟨z, hz, rfl⟩)
        show mlt (z.1.L.set v 0) (x.1.L.set v 0) = true
        rw [mlt_set ((h8 z (List.mem_cons_of_mem _ hz)).trans (h8 x (List.mem_cons_self ..)).symm) (hze.trans hx.symm)]
        exact h1
      · rcases List.mem_cons.1 hu with rfl | hu
        · exact h.2 (x.1.L, x.2) (List.mem_cons_self ..)
        · exact ih.2 u hu
    · exact ih
/-- What the sum of the coefficients times the powers of v, up to the n-th, is. -/
def backTo (v n : Nat) (ds : List Tq) : List Trm := (List.range n).flatMap fun k : Nat => prods (trms (coefAt v (k : Int) ds)) [(single v (k : Int), 1)]
theorem backTo_succ (v n : Nat) (ds : List Tq) : backTo v (n + 1) ds = backTo v n ds ++ prods (trms (coefAt v n ds)) [(single v n, 1)] := by
  unfold backTo
  rw [List.range_succ, List.flatMap_append]
  simp
theorem lin_one_prods (l : List Trm) (m : Mon) (f : Mon → Rat) : lin (prods l [(m, 1)]) f = lin l fun a => f (madd a m) := by
  rw [lin_prods]
  refine lin_congr fun t _ => ?_
  rw [lin_cons, lin_nil, Rat.add_zero, Rat.one_mul]
theorem lin_back_cons {v : Nat} (hv : v < 8) (x : Tq) (ds : List Tq) (h8 : x.1.L.length = 8) (h0 : 0 ≤ x.1.L.getD v 0) (n : Nat) (f : Mon → Rat) :
    lin (backTo v n (x :: ds)) f = (if x.1.L.getD v 0 < n then x.2 * f x.1.L else 0) + lin (backTo v n ds) f := by
  induction n with
  | zero =>
    rw [if_neg (by omega), Rat.zero_add]; rfl
  | succ n ih =>
    rw [backTo_succ, backTo_succ, lin_append, lin_append, ih, lin_one_prods, lin_one_prods, coefAt_cons]
    by_cases h : x.1.L.getD v 0 = (n : Int)
    · rw [if_pos h, if_neg (by omega), if_pos (by omega), Rat.zero_add]
      show lin (backTo v n ds) f + lin ((x.1.L.set v 0, x.2) :: trms (coefAt v n ds)) _ = _
      rw [lin_cons, madd_single h8 hv h, ← Rat.add_assoc, Rat.add_comm (lin (backTo v n ds) f), Rat.add_assoc]
    · rw [if_neg h, ← Rat.add_assoc]
      by_cases h' : x.1.L.getD v 0 < (n : Int)
      · rw [if_pos h', if_pos (by omega), Rat.add_assoc]
      · rw [if_neg h', if_neg (by omega), Rat.add_assoc]
theorem backTo_all {v : Nat} (hv : v < 8) (n : Nat) : ∀ {ds : List Tq}, (∀ x ∈ ds, x.1.L.length = 8 ∧ 0 ≤ x.1.L.getD v 0 ∧ x.1.L.getD v 0 < n) → Eqv (backTo v n ds) (trms ds)
  | [], _ => fun f => by
    induction n with
    | zero => rfl
    | succ n ih => rw [backTo_succ, lin_append, ih (fun x hx => by cases hx)]; show lin [] f + lin [] f = lin [] f; rw [lin_nil, Rat.add_zero]
  | x :: ds, h => fun f => by
    obtain ⟨h8, h0, h1⟩ := h x (List.mem_cons_self ..)
    rw [lin_back_cons hv x ds h8 h0, if_pos h1, backTo_all hv n (fun y hy => h y (List.mem_cons_of_mem _ hy)) f]
    rfl
end Go.Proofs.YtnkfmbjpbfpfkaaGreatDoor
