/-
  Forms xs trees: their data in memory, the parts of a form with their levels, their errors and values. No function of the program is named here.
-/
import Derived.Test.YtlhncmnhpnhfhaaMem13
namespace Go.Proofs.Ytlhncmnhpnhfhaa
open Go Go.RowKit
set_option maxRecDepth 20000
namespace Fx

/-- A form: its operator, its number, its arguments. -/
inductive Fm where
  | mk (op n : Int) (xs : List Fm)
namespace Fm
def op : Fm → Int | .mk o _ _ => o
def num : Fm → Int | .mk _ n _ => n
def args : Fm → List Fm | .mk _ _ xs => xs
end Fm
theorem Fm.ind {P : Fm → Prop} (h : ∀ op n xs, (∀ a ∈ xs, P a) → P (.mk op n xs)) : ∀ f, P f
  | .mk op n xs => h op n xs fun a _ => Fm.ind h a
termination_by f => SizeOf.sizeOf f
decreasing_by
  rename_i ha
  have := List.sizeOf_lt_of_mem ha
  simp only [Fm.mk.sizeOf_spec]
  omega
theorem Fm.ind' {P : Fm → Prop} (h : ∀ f : Fm, (∀ a ∈ f.args, P a) → P f) (f : Fm) : P f := Fm.ind (fun op n xs ih => h (.mk op n xs) ih) f

mutual
/-- The six cells of a form: the three of its fraction are not looked at. -/
def fd : Fm → List D
  | .mk o n xs => [.n .i64 o, .n .i64 n, .u, .u, .u, .l 6 (fds xs)]
def fds : List Fm → List D
  | [] => []
  | a :: xs => fd a ++ fds xs
end
theorem fd_eq (f : Fm) : fd f = [.n .i64 f.op, .n .i64 f.num, .u, .u, .u, .l 6 (fds f.args)] := by
  cases f; simp [fd, Fm.op, Fm.num, Fm.args]
theorem fd_len (f : Fm) : (fd f).length = 6 := by rw [fd_eq]; rfl
theorem fds_len (xs : List Fm) : (fds xs).length = xs.length * 6 := by
  induction xs with
  | nil => simp [fds]
  | cons a xs ih => simp [fds, ih, fd_len]; omega
theorem fds_append (xs bs : List Fm) : fds (xs ++ bs) = fds xs ++ fds bs := by
  induction xs with
  | nil => simp [fds]
  | cons a xs ih => simp [fds, ih]
theorem fds_get {xs : List Fm} {i : Nat} {a : Fm} (h : xs[i]? = some a) (j : Nat) (hj : j < 6) : (fds xs)[i * 6 + j]? = (fd a)[j]? := by
  induction xs generalizing i with
  | nil => simp at h
  | cons b xs ih =>
    cases i with
    | zero =>
      simp at h; subst h
      rw [fds, List.getElem?_append_left (by rw [fd_len]; omega)]; simp
    | succ i =>
      simp at h
      rw [fds, List.getElem?_append_right (by rw [fd_len]; omega), fd_len, ← ih h]
      congr 1; omega

/-- The form lies in the six cells from o on of block g. -/
structure FAt (S : Nat → Prop) (w : World) (f : Fm) (g o : Nat) : Prop where
  inS : S g
  lt : g < w.heap.size
  c0 : w.cell? ⟨g, o, none⟩ = some (.int .i64 f.op)
  c1 : w.cell? ⟨g, o + 1, none⟩ = some (.int .i64 f.num)
  c2 : ∃ v, w.cell? ⟨g, o + 2, none⟩ = some v
  c3 : ∃ v, w.cell? ⟨g, o + 3, none⟩ = some v
  c4 : ∃ v, w.cell? ⟨g, o + 4, none⟩ = some v
  c5 : ∃ A c, w.cell? ⟨g, o + 5, none⟩ = some (.slice A f.args.length c) ∧ Rd S w (.l 6 (fds f.args)) (.slice A f.args.length c)
section
variable {S S' : Nat → Prop} {w w' : World}
theorem FAt.keep {f : Fm} {g o : Nat} (h : FAt S w f g o) (hs : w.heap.size ≤ w'.heap.size) (hb : ∀ b, S b → b < w.heap.size → w'.heap[b]? = w.heap[b]?) (hS : ∀ b, S b → b < w.heap.size → S' b) : FAt S' w' f g o := by
  have hc : ∀ i, w'.cell? ⟨g, i, none⟩ = w.cell? ⟨g, i, none⟩ := fun i => World.cell?_of_block (a := ⟨g, i, none⟩) (hb g h.inS h.lt)
  obtain ⟨A, c, h5, hr⟩ := h.c5
  exact ⟨hS g h.inS h.lt, Nat.lt_of_lt_of_le h.lt hs, (hc _).trans h.c0, (hc _).trans h.c1, (hc _).symm ▸ h.c2, (hc _).symm ▸ h.c3, (hc _).symm ▸ h.c4, A, c, (hc _).trans h5, hr.keep hs hb hS⟩
/-- Blocks below n. -/
abbrev Lo (n : Nat) : Nat → Prop := fun k => k < n
theorem FAt.below {n : Nat} {f : Fm} {g o : Nat} (h : FAt (Lo n) w f g o) (hb : Below n w w') : FAt (Lo n) w' f g o :=
  h.keep hb.size (fun b hS _ => hb.block b hS) fun _ h _ => h
theorem rd_below {n : Nat} {d : D} {v : Value} (h : Rd (Lo n) w d v) (hb : Below n w w') : Rd (Lo n) w' d v :=
  h.keep hb.size (fun b hS _ => hb.block b hS) fun _ h _ => h
theorem rd_int {k : IntKind} {x : Int} {v : Value} (h : Rd S w (.n k x) v) : v = .int k x := by cases h; rfl
theorem rd_len {xs : List Fm} {A : Option Addr} {n c : Nat} (h : Rd S w (.l 6 (fds xs)) (.slice A n c)) : n = xs.length := by
  have hl := fds_len xs
  generalize fds xs = ds at h hl
  cases h with
  | nil => simp at hl; omega
  | l _ _ g o _ _ f h1 => omega
theorem rd_caps {ds : List D} {A : Option Addr} {sz n c : Nat} (h : Rd S w (.l sz ds) (.slice A n c)) : n ≤ maxLen := by
  cases h with
  | nil => exact Nat.zero_le _
  | l _ _ g o _ _ f h1 h2 h3 => omega
/-- The cells of a list of forms are forms, one behind the other. -/
theorem rd_at {xs : List Fm} {A : Option Addr} {n c i : Nat} {a : Fm} (h : Rd S w (.l 6 (fds xs)) (.slice A n c)) (hi : xs[i]? = some a) :
    ∃ g o, A = some ⟨g, o, none⟩ ∧ FAt S w a g (o + i * 6) := by
  have hl := fds_len xs
  have hlt : i < xs.length := (List.getElem?_eq_some_iff.1 hi).1
  have hget := fun j hj => fds_get hi j hj
  generalize fds xs = ds at h hl hget
  cases h with
  | nil => simp at hl; omega
  | l _ _ g o _ _ f h1 h2 h3 hS hg hf hr =>
    refine ⟨g, o, rfl, ?_⟩
    have hd : ∀ j d, j < 6 → (fd a)[j]? = some d → ∃ v, w.cell? ⟨g, o + i * 6 + j, none⟩ = some v ∧ Rd S w d v := fun j d hj e =>
      ⟨f (i * 6 + j), by rw [Nat.add_assoc]; exact hf _ (by omega), hr _ _ ((hget j hj).trans e)⟩
    rw [fd_eq] at hd
    obtain ⟨v0, k0, r0⟩ := hd 0 _ (by omega) rfl
    obtain ⟨v1, k1, r1⟩ := hd 1 _ (by omega) rfl
    obtain ⟨v2, k2, _⟩ := hd 2 _ (by omega) rfl
    obtain ⟨v3, k3, _⟩ := hd 3 _ (by omega) rfl
    obtain ⟨v4, k4, _⟩ := hd 4 _ (by omega) rfl
    obtain ⟨v5, k5, r5⟩ := hd 5 _ (by omega) rfl
    have e0 := rd_int r0
    have e1 := rd_int r1
    subst e0; subst e1
    have h5 : ∃ A' n' c', v5 = .slice A' n' c' := by
      generalize fds a.args = ds at r5
      cases r5 <;> exact ⟨_, _, _, rfl⟩
    obtain ⟨A', n', c', e5⟩ := h5
    subst e5
    have := rd_len r5
    subst this
    exact ⟨hS, hg, k0, k1, ⟨_, k2⟩, ⟨_, k3⟩, ⟨_, k4⟩, A', c', k5, r5⟩
end

/-- The parts of a form with their levels, in the order of the text, k levels deep, the first of which is lv. -/
def parts : Nat → Nat → Fm → List (Nat × Fm)
  | 0, _, _ => []
  | k + 1, lv, f => (lv, f) :: f.args.flatMap (parts k (lv + 1))
theorem parts_level {k lv : Nat} {f : Fm} {p : Nat × Fm} (h : p ∈ parts k lv f) : lv ≤ p.1 ∧ p.1 < lv + k := by
  induction k generalizing lv f with
  | zero => simp [parts] at h
  | succ k ih =>
    simp only [parts, List.mem_cons, List.mem_flatMap] at h
    rcases h with rfl | ⟨a, _, h⟩
    · exact ⟨Nat.le_refl _, by simp⟩
    · have := ih h; omega

/-- How many arguments an operator has. -/
def arity (o : Int) : Int :=
  if o = 1 ∨ o = 2 ∨ o = 3 then 0 else if o = 4 then 1 else if 5 ≤ o ∧ o ≤ 12 then 2 else if o = 13 then 3 else -1
def broken (f : Fm) : Bool := decide ((f.args.length : Int) ≠ arity f.op)
def unknown (n : Nat) (f : Fm) : Bool := decide (f.op = 3 ∧ ¬ (0 ≤ f.num ∧ f.num < n))
/-- The error of a form where there are n variables. -/
def ferr (n : Nat) (f : Fm) : Int :=
  let l := parts 201 1 f
  if l.any (fun p => decide (200 < p.1)) then 9 else if l.any (fun p => broken p.2) then 2 else if l.any (fun p => decide (p.2.op = 2)) then 8 else if l.any (fun p => unknown n p.2) then 1 else 0

def truth (b : Bool) : Int := if b then 1 else 0
def limited (n : Int) : Int := max (-1073741824) (min n 1073741824)
theorem limited_range (n : Int) : -1073741824 ≤ limited n ∧ limited n ≤ 1073741824 := by unfold limited; omega
def operate (o a b : Int) : Int :=
  if o = 5 then truth (a != 0 && b != 0) else if o = 6 then truth (a != 0 || b != 0) else if o = 7 then truth (a == b) else if o = 8 then truth (decide (a < b)) else if o = 9 then truth (decide (a ≤ b))
  else if o = 10 then limited (a + b) else if o = 11 then limited (a - b) else limited (a * b)
def ev1 (s : Nat → Int) (o n : Int) (vs : List Int) : Int :=
  if o = 1 then limited n else if o = 3 then limited (s n.toNat) else if o = 4 then truth (vs[0]?.getD 0 == 0) else if o = 13 then (if vs[0]?.getD 0 ≠ 0 then vs[1]?.getD 0 else vs[2]?.getD 0)
  else operate o (vs[0]?.getD 0) (vs[1]?.getD 0)
mutual
/-- The value of a form where the variable i is s i. -/
def ev (s : Nat → Int) : Fm → Int
  | .mk o n xs => ev1 s o n (evs s xs)
def evs (s : Nat → Int) : List Fm → List Int
  | [] => []
  | a :: xs => ev s a :: evs s xs
end
theorem evs_map (s : Nat → Int) (xs : List Fm) : evs s xs = xs.map (ev s) := by
  induction xs with
  | nil => simp [evs]
  | cons a xs ih => simp [evs, ih]
theorem ev_eq (s : Nat → Int) (f : Fm) : ev s f = ev1 s f.op f.num (f.args.map (ev s)) := by
  cases f; simp [ev, evs_map, Fm.op, Fm.num, Fm.args]
theorem truth_range (b : Bool) : 0 ≤ truth b ∧ truth b ≤ 1 := by cases b <;> decide
theorem operate_range (o a b : Int) : -1073741824 ≤ operate o a b ∧ operate o a b ≤ 1073741824 := by
  unfold operate
  have h1 := truth_range (a != 0 && b != 0)
  have h2 := truth_range (a != 0 || b != 0)
  have h3 := truth_range (a == b)
  have h4 := truth_range (decide (a < b))
  have h5 := truth_range (decide (a ≤ b))
  have h6 := limited_range (a + b)
  have h7 := limited_range (a - b)
  have h8 := limited_range (a * b)
  repeat' split
  all_goals omega
theorem ev_range (s : Nat → Int) : ∀ f : Fm, -1073741824 ≤ ev s f ∧ ev s f ≤ 1073741824 := by
  refine Fm.ind' fun f ih => ?_
  rw [ev_eq]
  have hv : ∀ i : Nat, -1073741824 ≤ (f.args.map (ev s))[i]?.getD 0 ∧ (f.args.map (ev s))[i]?.getD 0 ≤ 1073741824 := by
    intro i
    rw [List.getElem?_map]
    cases h : f.args[i]? with
    | none => simp
    | some a => simpa using ih a (List.mem_of_getElem? h)
  unfold ev1
  have h0 := hv 0
  have h1 := hv 1
  have h2 := hv 2
  have h3 := limited_range f.num
  have h4 := limited_range (s f.num.toNat)
  have h5 := truth_range ((f.args.map (ev s))[0]?.getD 0 == 0)
  have h6 := operate_range f.op ((f.args.map (ev s))[0]?.getD 0) ((f.args.map (ev s))[1]?.getD 0)
  repeat' split
  all_goals omega

/-- Every part has its arguments, is no fraction, and names one of n variables. -/
inductive Fine (n : Nat) : Fm → Prop
  | mk (o k : Int) (xs : List Fm) (h0 : (xs.length : Int) = arity o) (h1 : o ≠ 2) (h2 : o = 3 → 0 ≤ k ∧ k < n) (h : ∀ a ∈ xs, Fine n a) : Fine n (.mk o k xs)
theorem Fine.eq {n : Nat} {f : Fm} (h : Fine n f) : (f.args.length : Int) = arity f.op ∧ f.op ≠ 2 ∧ (f.op = 3 → 0 ≤ f.num ∧ f.num < n) ∧ ∀ a ∈ f.args, Fine n a := by
  cases h with
  | mk o k xs h0 h1 h2 h => exact ⟨h0, h1, h2, h⟩
theorem Fine.of {n : Nat} {f : Fm} (h0 : (f.args.length : Int) = arity f.op) (h1 : f.op ≠ 2) (h2 : f.op = 3 → 0 ≤ f.num ∧ f.num < n) (h : ∀ a ∈ f.args, Fine n a) : Fine n f := by
  cases f; exact .mk _ _ _ h0 h1 h2 h
/-- How deep a form is. -/
inductive Deep : Nat → Fm → Prop
  | mk (d : Nat) (o k : Int) (xs : List Fm) (h : ∀ a ∈ xs, Deep d a) : Deep (d + 1) (.mk o k xs)
theorem Deep.args {d : Nat} {f : Fm} (h : Deep d f) : ∃ d', d = d' + 1 ∧ ∀ a ∈ f.args, Deep d' a := by
  cases h with
  | mk d o k xs h => exact ⟨d, rfl, h⟩
theorem Deep.of {d : Nat} {f : Fm} (h : ∀ a ∈ f.args, Deep d a) : Deep (d + 1) f := by cases f; exact .mk _ _ _ _ h
theorem Deep.up {d : Nat} {f : Fm} (h : Deep d f) : ∀ d', d ≤ d' → Deep d' f := by
  induction h with
  | mk d o k xs _ ih =>
    intro d' hd
    obtain ⟨e, rfl⟩ : ∃ e, d' = e + 1 := ⟨d' - 1, by omega⟩
    exact .mk _ _ _ _ fun a ha => ih a ha e (by omega)
/-- Without an error all parts are fine, and there is no level beyond the last. -/
theorem fine_of_parts {n : Nat} : ∀ (k lv : Nat) (f : Fm), (∀ p ∈ parts k lv f, p.1 < lv + k - 1 ∧ broken p.2 = false ∧ p.2.op ≠ 2 ∧ unknown n p.2 = false) → 0 < k → Fine n f ∧ Deep (k - 1) f := by
  intro k
  induction k with
  | zero => intro lv f _ h; omega
  | succ k ih =>
    intro lv f h _
    have h0 := h (lv, f) (by simp [parts])
    have hk : 0 < k := by have := h0.1; simp at this; omega
    have ih2 : ∀ a ∈ f.args, Fine n a ∧ Deep (k - 1) a := fun a ha => ih (lv + 1) a (fun p hp => by
      have := h p (by simp only [parts, List.mem_cons, List.mem_flatMap]; exact .inr ⟨a, ha, hp⟩)
      exact ⟨by omega, this.2⟩) hk
    have hb : (f.args.length : Int) = arity f.op := by
      have := h0.2.1
      simpa [broken] using this
    have hu : f.op = 3 → 0 ≤ f.num ∧ f.num < n := by
      have := h0.2.2.2
      intro e
      simp [unknown, e] at this
      omega
    refine ⟨Fine.of hb h0.2.2.1 hu fun a ha => (ih2 a ha).1, ?_⟩
    obtain ⟨j, rfl⟩ : ∃ j, k = j + 1 := ⟨k - 1, by omega⟩
    exact Deep.of fun a ha => (ih2 a ha).2
theorem parts_of_fine {n : Nat} : ∀ (k lv : Nat) (f : Fm), Fine n f → Deep k f → ∀ j p, p ∈ parts (k + j) lv f → p.1 < lv + k ∧ broken p.2 = false ∧ p.2.op ≠ 2 ∧ unknown n p.2 = false := by
  intro k
  induction k with
  | zero => intro lv f _ h; obtain ⟨_, e, _⟩ := h.args; omega
  | succ k ih =>
    intro lv f hf hd j p hp
    obtain ⟨k', e, hd'⟩ := hd.args
    obtain rfl : k' = k := by omega
    obtain ⟨h0, h1, h2, h3⟩ := hf.eq
    rw [show k' + 1 + j = k' + j + 1 by omega] at hp
    simp only [parts, List.mem_cons, List.mem_flatMap] at hp
    rcases hp with rfl | ⟨a, ha, hp⟩
    · refine ⟨by simp, by simpa [broken] using h0, h1, ?_⟩
      simp only [unknown, decide_eq_false_iff_not]
      rintro ⟨e, hn⟩
      exact hn (h2 e)
    · have := ih (lv + 1) a (h3 a ha) (hd' a ha) j p hp
      exact ⟨by omega, this.2⟩
theorem ferr_zero {n : Nat} {f : Fm} : ferr n f = 0 ↔ Fine n f ∧ Deep 200 f := by
  constructor
  · intro h
    unfold ferr at h
    simp only at h
    split at h
    · cases h
    split at h
    · cases h
    split at h
    · cases h
    split at h
    · cases h
    rename_i a1 a2 a3 a4
    simp only [List.any_eq_true, decide_eq_true_eq, not_exists, not_and] at a1 a2 a3 a4
    refine fine_of_parts 201 1 f (fun p hp => ⟨?_, ?_, a3 p hp, ?_⟩) (by omega)
    · have := a1 p hp; omega
    · simpa using a2 p hp
    · simpa using a4 p hp
  · rintro ⟨h, hd⟩
    have hp := parts_of_fine 200 1 f h hd 1
    unfold ferr
    simp only
    rw [if_neg, if_neg, if_neg, if_neg]
    · simp only [List.any_eq_true, not_exists, not_and]; intro p hm; simp [(hp p hm).2.2.2]
    · simp only [List.any_eq_true, not_exists, not_and]; intro p hm; simp [(hp p hm).2.2.1]
    · simp only [List.any_eq_true, not_exists, not_and]; intro p hm; simp [(hp p hm).2.1]
    · simp only [List.any_eq_true, not_exists, not_and, decide_eq_true_eq]; intro p hm; have := (hp p hm).1; omega
end Fx
end Go.Proofs.Ytlhncmnhpnhfhaa
