/-
  Polynomials as linear functionals: lists of terms, sums, products, normal forms and their uniqueness.
-/
import Derived.Lib.Hide
namespace Go.Proofs.YtebbnmjmjoklmaaGreatDoor

/-- A monomial: the exponents. A term: a monomial with a coefficient. -/
abbrev Mon := List Int
abbrev Trm := Mon × Rat
/-- The linear functional of a list of terms: all that a polynomial is. -/
def lin (l : List Trm) (f : Mon → Rat) : Rat := l.foldr (fun t r => t.2 * f t.1 + r) 0
theorem lin_nil (f : Mon → Rat) : lin [] f = 0 := rfl
theorem lin_cons (t : Trm) (l : List Trm) (f : Mon → Rat) : lin (t :: l) f = t.2 * f t.1 + lin l f := rfl
theorem lin_append (l r : List Trm) (f : Mon → Rat) : lin (l ++ r) f = lin l f + lin r f := by
  induction l with
  | nil => rw [List.nil_append, lin_nil, Rat.zero_add]
  | cons t l ih => rw [List.cons_append, lin_cons, lin_cons, ih, Rat.add_assoc]
theorem lin_perm {l r : List Trm} (h : l.Perm r) (f : Mon → Rat) : lin l f = lin r f := by
  induction h with
  | nil => rfl
  | cons x _ ih => rw [lin_cons, lin_cons, ih]
  | swap x y l =>
    rw [lin_cons, lin_cons, lin_cons, lin_cons, ← Rat.add_assoc, ← Rat.add_assoc, Rat.add_comm (y.2 * f y.1)]
  | trans _ _ ih1 ih2 => rw [ih1, ih2]
theorem lin_filter (l : List Trm) (f : Mon → Rat) : lin (l.filter fun t => !decide (t.2 = 0)) f = lin l f := by
  induction l with
  | nil => rfl
  | cons t l ih =>
    by_cases h : t.2 = 0
    · rw [List.filter_cons_of_neg (by simp [h]), ih, lin_cons, h, Rat.zero_mul, Rat.zero_add]
    · rw [List.filter_cons_of_pos (by simp [h]), lin_cons, lin_cons, ih]
theorem lin_zero (l : List Trm) : lin l (fun _ => 0) = 0 := by
  induction l with
  | nil => rfl
  | cons t l ih => rw [lin_cons, ih, Rat.mul_zero, Rat.add_zero]
theorem lin_add (l : List Trm) (f g : Mon → Rat) : lin l (fun m => f m + g m) = lin l f + lin l g := by
  induction l with
  | nil => rw [lin_nil, lin_nil, lin_nil, Rat.zero_add]
  | cons t l ih =>
    rw [lin_cons, lin_cons, lin_cons, ih, Rat.mul_add]
    rw [Rat.add_assoc, Rat.add_assoc, ← Rat.add_assoc (t.2 * g t.1), ← Rat.add_assoc (lin l f), Rat.add_comm (t.2 * g t.1) (lin l f)]
theorem lin_smul (l : List Trm) (c : Rat) (f : Mon → Rat) : lin l (fun m => c * f m) = c * lin l f := by
  induction l with
  | nil => rw [lin_nil, lin_nil, Rat.mul_zero]
  | cons t l ih => rw [lin_cons, lin_cons, ih, Rat.mul_add, ← Rat.mul_assoc, ← Rat.mul_assoc, Rat.mul_comm t.2 c]
theorem lin_congr {l : List Trm} {f g : Mon → Rat} (h : ∀ t ∈ l, f t.1 = g t.1) : lin l f = lin l g := by
  induction l with
  | nil => rfl
  | cons t l ih => rw [lin_cons, lin_cons, h t (List.mem_cons_self ..), ih fun u hu => h u (List.mem_cons_of_mem _ hu)]
/-- Two sums may be exchanged. -/
theorem lin_swap (l r : List Trm) (f : Mon → Mon → Rat) : lin l (fun a => lin r (fun b => f a b)) = lin r (fun b => lin l (fun a => f a b)) := by
  induction l with
  | nil => rw [lin_nil]; exact (lin_zero r).symm
  | cons t l ih => rw [lin_cons, ih, ← lin_smul, ← lin_add]; rfl

/-- The coefficients with another factor. -/
def scale (c : Rat) (l : List Trm) : List Trm := l.map fun t => (t.1, t.2 * c)
theorem lin_scale (c : Rat) (l : List Trm) (f : Mon → Rat) : lin (scale c l) f = c * lin l f := by
  induction l with
  | nil => rw [Rat.mul_comm]; exact (Rat.zero_mul _).symm
  | cons t l ih =>
    show lin ((t.1, t.2 * c) :: scale c l) f = _
    rw [lin_cons, lin_cons, ih, Rat.mul_add, Rat.mul_comm t.2 c, Rat.mul_assoc]
/-- The sum of two monomials. -/
def madd (a b : Mon) : Mon := List.zipWith (· + ·) a b
theorem madd_comm (a b : Mon) : madd a b = madd b a := by
  unfold madd
  exact List.zipWith_comm_of_comm (fun x y => Int.add_comm x y)
theorem madd_assoc (a b c : Mon) : madd (madd a b) c = madd a (madd b c) := by
  unfold madd
  induction a generalizing b c with
  | nil => simp
  | cons x a ih =>
    cases b with
    | nil => simp
    | cons y b =>
      cases c with
      | nil => simp
      | cons z c => simp [ih, Int.add_assoc]
/-- All products of a term of the one and a term of the other. -/
def prods (l r : List Trm) : List Trm := l.flatMap fun t => r.map fun u => (madd t.1 u.1, t.2 * u.2)
theorem lin_map_mul (t : Trm) (r : List Trm) (f : Mon → Rat) : lin (r.map fun u => (madd t.1 u.1, t.2 * u.2)) f = t.2 * lin r (fun b => f (madd t.1 b)) := by
  induction r with
  | nil => rw [lin_nil, Rat.mul_zero]; rfl
  | cons u r ih => rw [List.map_cons, lin_cons, lin_cons, ih, Rat.mul_add, Rat.mul_assoc]
theorem lin_prods (l r : List Trm) (f : Mon → Rat) : lin (prods l r) f = lin l (fun a => lin r (fun b => f (madd a b))) := by
  induction l with
  | nil => rfl
  | cons t l ih =>
    show lin ((r.map fun u => (madd t.1 u.1, t.2 * u.2)) ++ prods l r) f = _
    rw [lin_append, lin_cons, ih, lin_map_mul]

/-- What two lists of terms denote is the same. -/
def Eqv (l r : List Trm) : Prop := ∀ f, lin l f = lin r f
theorem Eqv.refl (l : List Trm) : Eqv l l := fun _ => rfl
theorem Eqv.symm {l r : List Trm} (h : Eqv l r) : Eqv r l := fun f => (h f).symm
theorem Eqv.trans {l r s : List Trm} (h : Eqv l r) (h' : Eqv r s) : Eqv l s := fun f => (h f).trans (h' f)
theorem Eqv.append {l l' r r' : List Trm} (h : Eqv l l') (h' : Eqv r r') : Eqv (l ++ r) (l' ++ r') := fun f => by rw [lin_append, lin_append, h f, h' f]
theorem Eqv.scale {l r : List Trm} (h : Eqv l r) (c : Rat) : Eqv (scale c l) (scale c r) := fun f => by rw [lin_scale, lin_scale, h f]
theorem Eqv.prods {l l' r r' : List Trm} (h : Eqv l l') (h' : Eqv r r') : Eqv (prods l r) (prods l' r') := fun f => by
  rw [lin_prods, lin_prods, h]
  exact lin_congr fun t _ => h' _
theorem prods_comm (l r : List Trm) : Eqv (prods l r) (prods r l) := fun f => by
  rw [lin_prods, lin_prods, lin_swap]
  exact lin_congr fun t _ => lin_congr fun u _ => by rw [madd_comm]
theorem prods_assoc (l r s : List Trm) : Eqv (prods (prods l r) s) (prods l (prods r s)) := fun f => by
  rw [lin_prods, lin_prods, lin_prods]
  refine lin_congr fun t _ => ?_
  rw [lin_prods]
  exact lin_congr fun u _ => lin_congr fun v _ => by rw [madd_assoc]
theorem prods_append (l r s : List Trm) : Eqv (prods l (r ++ s)) (prods l r ++ prods l s) := fun f => by
  rw [lin_append, lin_prods, lin_prods, lin_prods, ← lin_add]
  exact lin_congr fun t _ => lin_append _ _ _
/-- r - (r scaled by -1) is nothing: Sub undoes Add. -/
theorem add_sub (l r : List Trm) : Eqv ((l ++ r) ++ scale (-1) r) l := fun f => by
  rw [lin_append, lin_append, lin_scale, Rat.add_assoc, Rat.neg_mul, Rat.one_mul, Rat.add_neg_cancel, Rat.add_zero]

/-- The lexicographic order. -/
def mlt : Mon → Mon → Bool
  | [], [] => false
  | [], _ :: _ => true
  | _ :: _, [] => false
  | x :: a, y :: b => decide (x < y) || (decide (x = y) && mlt a b)
theorem mlt_irrefl (a : Mon) : mlt a a = false := by
  induction a with
  | nil => rfl
  | cons x a ih => simp [mlt, ih]
theorem mlt_trans : ∀ {a b c : Mon}, mlt a b = true → mlt b c = true → mlt a c = true
  | [], [], _, h, _ => by simp [mlt] at h
  | [], _ :: _, [], _, h => by simp [mlt] at h
  | [], _ :: _, _ :: _, _, _ => rfl
  | _ :: _, [], _, h, _ => by simp [mlt] at h
  | _ :: _, _ :: _, [], _, h => by simp [mlt] at h
  | x :: a, y :: b, z :: c, h1, h2 => by
    simp only [mlt, Bool.or_eq_true, Bool.and_eq_true, decide_eq_true_eq] at h1 h2 ⊢
    rcases h1 with h1 | ⟨h1, h1'⟩ <;> rcases h2 with h2 | ⟨h2, h2'⟩
    · left; omega
    · left; omega
    · left; omega
    · right; exact ⟨by omega, mlt_trans h1' h2'⟩
theorem mlt_tri : ∀ a b : Mon, mlt a b = true ∨ a = b ∨ mlt b a = true
  | [], [] => .inr (.inl rfl)
  | [], _ :: _ => .inl rfl
  | _ :: _, [] => .inr (.inr rfl)
  | x :: a, y :: b => by
    simp only [mlt, Bool.or_eq_true, Bool.and_eq_true, decide_eq_true_eq]
    rcases Int.lt_trichotomy x y with h | h | h
    · exact .inl (.inl h)
    · rcases mlt_tri a b with h' | h' | h'
      · exact .inl (.inr ⟨h, h'⟩)
      · exact .inr (.inl (by rw [h, h']))
      · exact .inr (.inr (.inr ⟨h.symm, h'⟩))
    · exact .inr (.inr (.inl h))
/-- Normal form: the monomials strictly descending, no coefficient zero. -/
def Norml (l : List Trm) : Prop := l.Pairwise (fun t u => mlt u.1 t.1 = true) ∧ ∀ t ∈ l, t.2 ≠ 0
/-- The coefficient of a monomial, as a value of the functional. -/
def pick (m : Mon) : Mon → Rat := fun a => if a = m then 1 else 0
theorem lin_pick_none {l : List Trm} {m : Mon} (h : ∀ t ∈ l, t.1 ≠ m) : lin l (pick m) = 0 := by
  induction l with
  | nil => rfl
  | cons t l ih =>
    rw [lin_cons, ih fun u hu => h u (List.mem_cons_of_mem _ hu)]
    unfold pick
    rw [if_neg (h t (List.mem_cons_self ..)), Rat.mul_zero, Rat.add_zero]
theorem Norml.head_ne {t : Trm} {l : List Trm} (h : Norml (t :: l)) {m : Mon} (hm : mlt t.1 m = true ∨ t.1 = m) : ∀ u ∈ l, u.1 ≠ m := by
  intro u hu e
  have h1 := (List.pairwise_cons.1 h.1).1 u hu
  rcases hm with hm | hm
  · have := mlt_trans h1 hm
    rw [e, mlt_irrefl] at this; cases this
  · rw [e, hm, mlt_irrefl] at h1; cases h1
theorem Norml.tail {t : Trm} {l : List Trm} (h : Norml (t :: l)) : Norml l := ⟨(List.pairwise_cons.1 h.1).2, fun u hu => h.2 u (List.mem_cons_of_mem _ hu)⟩
theorem pick_self (m : Mon) : pick m m = 1 := if_pos rfl
theorem Norml.head_coef {t : Trm} {l : List Trm} (h : Norml (t :: l)) : lin (t :: l) (pick t.1) = t.2 := by
  rw [lin_cons, lin_pick_none (h.head_ne (.inr rfl)), pick_self, Rat.mul_one, Rat.add_zero]
/-- Normal forms of equal polynomials are the same. -/
theorem Norml.unique : ∀ {l r : List Trm}, Norml l → Norml r → Eqv l r → l = r
  | [], [], _, _, _ => rfl
  | [], u :: r, _, hr, h => by
    have h1 := h (pick u.1)
    rw [hr.head_coef] at h1
    exact absurd h1.symm (hr.2 u (List.mem_cons_self ..))
  | t :: l, [], hl, _, h => by
    have h1 := h (pick t.1)
    rw [hl.head_coef] at h1
    exact absurd h1 (hl.2 t (List.mem_cons_self ..))
  | t :: l, u :: r, hl, hr, h => by
    have hm : t.1 = u.1 := by
      rcases mlt_tri t.1 u.1 with h1 | h1 | h1
      · have h2 := h (pick u.1)
        rw [hr.head_coef, lin_pick_none (l := t :: l)] at h2
        · exact absurd h2.symm (hr.2 u (List.mem_cons_self ..))
        · intro v hv
          rcases List.mem_cons.1 hv with rfl | hv
          · intro e; rw [e, mlt_irrefl] at h1; cases h1
          · exact hl.head_ne (.inl h1) v hv
      · exact h1
      · have h2 := h (pick t.1)
        rw [hl.head_coef, lin_pick_none (l := u :: r)] at h2
        · exact absurd h2 (hl.2 t (List.mem_cons_self ..))
        · intro v hv
          rcases List.mem_cons.1 hv with rfl | hv
          · intro e; rw [e, mlt_irrefl] at h1; cases h1
          · exact hr.head_ne (.inl h1) v hv
    have hc : t.2 = u.2 := by
      have h2 := h (pick t.1)
      rw [hl.head_coef, hm, hr.head_coef] at h2
      exact h2
    have ht : t = u := Prod.ext hm hc
    subst ht
    have hrest : Eqv l r := fun f => by
      have h2 := h f
      rw [lin_cons, lin_cons] at h2
      have h3 := congrArg (fun x => -(t.2 * f t.1) + x) h2
      simp only [← Rat.add_assoc] at h3
      rw [Rat.add_comm (-(t.2 * f t.1)), Rat.add_neg_cancel, Rat.zero_add, Rat.zero_add] at h3
      exact h3
    rw [Norml.unique hl.tail hr.tail hrest]
end Go.Proofs.YtebbnmjmjoklmaaGreatDoor
