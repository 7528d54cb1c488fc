/-
  Types and values as plain trees: the errors of a type, its width, the errors of a value, its cells, and the value that cells stand for. No program is named here. d is the depth down to which one looks.
-/
namespace Go.Proofs.YtklndjkblfncjaaGreatDoor

inductive Ty where
  | mk (k lo hi mx : Int) (es : List Ty)
namespace Ty
def k : Ty → Int | mk k _ _ _ _ => k
def lo : Ty → Int | mk _ lo _ _ _ => lo
def hi : Ty → Int | mk _ _ hi _ _ => hi
def mx : Ty → Int | mk _ _ _ mx _ => mx
def es : Ty → List Ty | mk _ _ _ _ es => es
theorem eta (T : Ty) : T = mk T.k T.lo T.hi T.mx T.es := by cases T; rfl
end Ty
inductive Vl where
  | mk (i : Int) (es : List Vl)
namespace Vl
def i : Vl → Int | mk i _ => i
def es : Vl → List Vl | mk _ es => es
theorem eta (V : Vl) : V = mk V.i V.es := by cases V; rfl
end Vl

/-- The error of a field that the kind does not use. -/
def tunused (T : Ty) : Int :=
  if T.k = 2 then (if T.mx = 0 ∧ T.es.length = 0 then 0 else 2)
  else if T.k = 6 then (if T.lo = 0 ∧ T.hi = 0 then 0 else 2)
  else if T.k = 5 then (if T.lo = 0 ∧ T.hi = 0 ∧ T.mx = 0 then 0 else 2)
  else if T.k = 1 ∨ T.k = 3 ∨ T.k = 4 then (if T.lo = 0 ∧ T.hi = 0 ∧ T.mx = 0 ∧ T.es.length = 0 then 0 else 2)
  else 14

/-- The first error of a list. -/
def firstE : List Int → Int
  | [] => 0
  | x :: l => if x ≠ 0 then x else firstE l
theorem firstE_append (l m : List Int) : firstE (l ++ m) = if firstE l ≠ 0 then firstE l else firstE m := by
  induction l with
  | nil => simp [firstE]
  | cons y l ih =>
    simp only [List.cons_append, firstE, ih]
    by_cases h : y = 0 <;> simp [h]
theorem firstE_zero {l : List Int} : firstE l = 0 ↔ ∀ x ∈ l, x = 0 := by
  induction l with
  | nil => simp [firstE]
  | cons y l ih =>
    simp only [firstE, List.mem_cons, forall_eq_or_imp]
    by_cases h : y = 0 <;> simp [h, ih]
/-- What is found at place i, where nothing was found before, is the first. -/
theorem firstE_at {l : List Int} {i : Nat} {x : Int} (h0 : firstE (l.take i) = 0) (hx : l[i]? = some x) (hne : x ≠ 0) : firstE l = x := by
  have hi : i < l.length := by
    rcases Nat.lt_or_ge i l.length with h | h
    · exact h
    · rw [List.getElem?_eq_none h] at hx; cases hx
  have e : l = l.take i ++ x :: l.drop (i + 1) := by
    have := List.take_append_drop i l
    rw [List.drop_eq_getElem_cons hi] at this
    rw [List.getElem?_eq_getElem hi] at hx
    injection hx with hx
    rw [hx] at this; exact this.symm
  rw [e, firstE_append, h0]
  simp [firstE, hne]
theorem firstE_next {l : List Int} {i : Nat} {x : Int} (h0 : firstE (l.take i) = 0) (hx : l[i]? = some x) (hz : x = 0) : firstE (l.take (i + 1)) = 0 := by
  rw [List.take_add_one, hx, firstE_append, h0]
  simp [firstE, hz]

/-- The error of an element of a tuple type, and of the element of a list type. -/
def inTuple (k e : Int) : Int := if e ≠ 0 then e else if k = 3 ∨ k = 4 then 8 else 0
def inList (k e : Int) : Int := if e ≠ 0 then e else if k ≠ 1 ∧ k ≠ 2 then 8 else 0
/-- The error of a type. -/
def terr : Nat → Ty → Int
  | 0, _ => 0
  | d + 1, T =>
    if tunused T ≠ 0 then tunused T
    else if T.k = 2 then (if -1000 ≤ T.lo ∧ T.lo ≤ T.hi ∧ T.hi ≤ 1000 then 0 else 1)
    else if T.k = 5 then (if T.es.length < 2 ∨ 4 < T.es.length then 1 else firstE (T.es.map fun e => inTuple e.k (terr d e)))
    else if T.k = 6 then (if T.mx < 1 ∨ 4 < T.mx then 1 else if T.es.length ≠ 1 then 2 else firstE (T.es.map fun e => inList e.k (terr d e)))
    else 0
/-- The number of cells. -/
def twidth : Nat → Ty → Nat
  | 0, _ => 0
  | d + 1, T =>
    if T.k = 5 then (T.es.map (twidth d)).sum
    else if T.k = 6 then 1 + T.mx.toNat * ((T.es.map (twidth d)).headD 0)
    else 1

/-- A type without an error. -/
def TyOk (d : Nat) (T : Ty) : Prop := terr d T = 0

theorem TyOk.unused {d : Nat} {T : Ty} (h : TyOk (d + 1) T) : tunused T = 0 := by
  unfold TyOk terr at h
  by_cases hu : tunused T = 0
  · exact hu
  · rw [if_pos hu] at h; exact h
theorem TyOk.kinds {d : Nat} {T : Ty} (h : TyOk (d + 1) T) : T.k = 1 ∨ T.k = 2 ∨ T.k = 3 ∨ T.k = 4 ∨ T.k = 5 ∨ T.k = 6 := by
  have hu := h.unused
  unfold tunused at hu
  repeat' split at hu
  all_goals omega
theorem TyOk.int {d : Nat} {T : Ty} (h : TyOk (d + 1) T) (hk : T.k = 2) : (-1000 ≤ T.lo ∧ T.lo ≤ T.hi ∧ T.hi ≤ 1000) ∧ T.mx = 0 ∧ T.es = [] := by
  have hu := h.unused
  unfold TyOk terr at h
  rw [hu] at h
  unfold tunused at hu
  simp only [hk] at h hu
  simp at h hu
  exact ⟨h, hu.1, hu.2⟩
theorem TyOk.leaf {d : Nat} {T : Ty} (h : TyOk (d + 1) T) (hk : T.k = 1 ∨ T.k = 3 ∨ T.k = 4) : T.lo = 0 ∧ T.hi = 0 ∧ T.mx = 0 ∧ T.es = [] := by
  have hu := h.unused
  unfold tunused at hu
  rw [if_neg (by omega), if_neg (by omega), if_neg (by omega), if_pos hk] at hu
  by_cases hc : T.lo = 0 ∧ T.hi = 0 ∧ T.mx = 0 ∧ T.es.length = 0
  · exact ⟨hc.1, hc.2.1, hc.2.2.1, List.eq_nil_of_length_eq_zero hc.2.2.2⟩
  · rw [if_neg hc] at hu; cases hu
theorem inTuple_zero {k e : Int} (h : inTuple k e = 0) : e = 0 ∧ k ≠ 3 ∧ k ≠ 4 := by
  unfold inTuple at h
  split at h
  · omega
  · split at h <;> omega
theorem inList_zero {k e : Int} (h : inList k e = 0) : e = 0 ∧ (k = 1 ∨ k = 2) := by
  unfold inList at h
  split at h
  · omega
  · split at h <;> omega
theorem TyOk.tuple {d : Nat} {T : Ty} (h : TyOk (d + 1) T) (hk : T.k = 5) : (T.lo = 0 ∧ T.hi = 0 ∧ T.mx = 0) ∧ 2 ≤ T.es.length ∧ T.es.length ≤ 4 ∧ ∀ e ∈ T.es, TyOk d e ∧ e.k ≠ 3 ∧ e.k ≠ 4 := by
  have hu := h.unused
  have hu2 := hu
  unfold TyOk terr at h
  rw [hu] at h
  unfold tunused at hu2
  simp only [hk] at h hu2
  simp at h hu2
  by_cases hl : T.es.length < 2 ∨ 4 < T.es.length
  · rw [if_pos hl] at h; omega
  · rw [if_neg hl] at h
    refine ⟨hu2, by omega, by omega, fun e he => ?_⟩
    have h2 := firstE_zero.1 h _ (List.mem_map_of_mem (f := fun e : Ty => inTuple e.k (terr d e)) he)
    exact inTuple_zero h2
theorem TyOk.list {d : Nat} {T : Ty} (h : TyOk (d + 1) T) (hk : T.k = 6) : (T.lo = 0 ∧ T.hi = 0) ∧ 1 ≤ T.mx ∧ T.mx ≤ 4 ∧ ∃ e, T.es = [e] ∧ TyOk d e ∧ (e.k = 1 ∨ e.k = 2) := by
  have hu := h.unused
  have hu2 := hu
  unfold TyOk terr at h
  rw [hu] at h
  unfold tunused at hu2
  simp only [hk] at h hu2
  simp at h hu2
  by_cases hm : T.mx < 1 ∨ 4 < T.mx
  · rw [if_pos hm] at h; omega
  · rw [if_neg hm] at h
    by_cases hl : T.es.length = 1
    · rw [if_pos hl] at h
      obtain ⟨e, he⟩ := List.length_eq_one_iff.1 hl
      rw [he] at h
      have h2 := firstE_zero.1 h _ (List.mem_map_of_mem (f := fun e : Ty => inList e.k (terr d e)) (List.mem_singleton.2 rfl))
      exact ⟨hu2, by omega, by omega, e, he, inList_zero h2⟩
    · rw [if_neg hl] at h; omega

/-- The least and the greatest number of a type of numbers. -/
def tlow (T : Ty) : Int := if T.k = 1 then 0 else if T.k = 3 then 0 else T.lo
def thigh (T : Ty) : Int := if T.k = 1 then 1 else if T.k = 3 then 9223372036854775807 else T.hi
/-- The zero of a type. -/
def vzero : Nat → Ty → Vl
  | 0, _ => .mk 0 []
  | d + 1, T => if T.k = 5 then .mk 0 (T.es.map (vzero d)) else if T.k = 6 then .mk 0 [] else .mk (min (max 0 (tlow T)) (thigh T)) []
/-- The error of a value. -/
def verr : Nat → Ty → Vl → Int
  | 0, _, _ => 0
  | d + 1, T, V =>
    if T.k = 5 then (if V.es.length ≠ T.es.length then 2 else if V.i ≠ 0 then 2 else firstE (List.zipWith (verr d) T.es V.es))
    else if T.k = 6 then (if T.mx < V.es.length then 2 else if V.i ≠ 0 then 2 else firstE (List.zipWith (verr d) (List.replicate V.es.length (T.es.headD (.mk 0 0 0 0 []))) V.es))
    else if 0 < V.es.length then 2 else if V.i < tlow T ∨ thigh T < V.i then 1 else 0
/-- The cells of a value. -/
def vflat : Nat → Ty → Vl → List Int
  | 0, _, _ => []
  | d + 1, T, V =>
    if T.k = 5 then (List.zipWith (vflat d) T.es V.es).flatten
    else if T.k = 6 then (V.es.length : Int) :: ((V.es.map (vflat d (T.es.headD (.mk 0 0 0 0 [])))).flatten ++ (List.replicate (T.mx.toNat - V.es.length) (vflat d (T.es.headD (.mk 0 0 0 0 [])) (vzero d (T.es.headD (.mk 0 0 0 0 []))))).flatten)
    else [V.i]
end Go.Proofs.YtklndjkblfncjaaGreatDoor
