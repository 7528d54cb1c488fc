/-
  Plain facts on lists of limbs of 32 bits: the number that such a list stands for, the list without the zeros at its end, and that two such lists of one number are one list. No program is named here.
-/
namespace Go.Proofs.YtebbnmjmjoklmaaGreatDoor

/-- The number that a list of limbs stands for, the least significant limb first. -/
def val : List Int → Int
  | [] => 0
  | x :: xs => x + 4294967296 * val xs
/-- Each limb has 32 bits. -/
def Lims (l : List Int) : Prop := ∀ x ∈ l, 0 ≤ x ∧ x < 4294967296
/-- The list without the zeros at its end. -/
def trim : List Int → List Int
  | [] => []
  | x :: xs => if trim xs = [] ∧ x = 0 then [] else x :: trim xs
/-- 4294967296 to the power n. -/
def pw : Nat → Int
  | 0 => 1
  | n + 1 => 4294967296 * pw n

theorem val_nil : val [] = 0 := rfl
theorem val_cons (x : Int) (xs : List Int) : val (x :: xs) = x + 4294967296 * val xs := rfl
theorem pw_zero : pw 0 = 1 := rfl
theorem pw_succ (n : Nat) : pw (n + 1) = 4294967296 * pw n := rfl
theorem pw_pos (n : Nat) : 0 < pw n := by
  induction n with
  | zero => decide
  | succ n ih => rw [pw_succ]; omega
theorem pw_add (m n : Nat) : pw (m + n) = pw m * pw n := by
  induction n with
  | zero => simp [pw]
  | succ n ih => rw [← Nat.add_assoc, pw_succ, pw_succ, ih]; grind
theorem Lims.nil : Lims [] := by intro x h; cases h
theorem Lims.cons {x : Int} {xs : List Int} (h0 : 0 ≤ x) (h1 : x < 4294967296) (h : Lims xs) : Lims (x :: xs) := by
  intro y hy
  rcases List.mem_cons.1 hy with rfl | hy
  · exact ⟨h0, h1⟩
  · exact h y hy
theorem Lims.head {x : Int} {xs : List Int} (h : Lims (x :: xs)) : 0 ≤ x ∧ x < 4294967296 := h x (List.mem_cons_self ..)
theorem Lims.tail {x : Int} {xs : List Int} (h : Lims (x :: xs)) : Lims xs := fun y hy => h y (List.mem_cons_of_mem _ hy)
theorem Lims.append {a b : List Int} (ha : Lims a) (hb : Lims b) : Lims (a ++ b) := by
  intro x hx
  rcases List.mem_append.1 hx with h | h
  · exact ha x h
  · exact hb x h
theorem Lims.left {a b : List Int} (h : Lims (a ++ b)) : Lims a := fun x hx => h x (List.mem_append_left _ hx)
theorem Lims.right {a b : List Int} (h : Lims (a ++ b)) : Lims b := fun x hx => h x (List.mem_append_right _ hx)
theorem Lims.take {a : List Int} (h : Lims a) (n : Nat) : Lims (a.take n) := fun x hx => h x (List.mem_of_mem_take hx)
theorem Lims.drop {a : List Int} (h : Lims a) (n : Nat) : Lims (a.drop n) := fun x hx => h x (List.mem_of_mem_drop hx)
theorem Lims.getD {a : List Int} (h : Lims a) (i : Nat) : 0 ≤ a.getD i 0 ∧ a.getD i 0 < 4294967296 := by
  by_cases hi : i < a.length
  · rw [List.getD_eq_getElem?_getD, List.getElem?_eq_getElem hi]; exact h _ (List.getElem_mem hi)
  · rw [List.getD_eq_getElem?_getD, List.getElem?_eq_none (by omega)]; decide
theorem Lims.get {a : List Int} (h : Lims a) (i : Nat) (hi : i < a.length) : 0 ≤ a[i] ∧ a[i] < 4294967296 := h _ (List.getElem_mem hi)
theorem Lims.set {a : List Int} (h : Lims a) (i : Nat) {x : Int} (h0 : 0 ≤ x) (h1 : x < 4294967296) : Lims (a.set i x) := by
  intro y hy
  rcases List.mem_or_eq_of_mem_set hy with hy | rfl
  · exact h y hy
  · exact ⟨h0, h1⟩
theorem Lims.replicate (n : Nat) : Lims (List.replicate n 0) := by
  intro x hx
  rw [List.eq_of_mem_replicate hx]; decide
theorem val_nonneg {l : List Int} (h : Lims l) : 0 ≤ val l := by
  induction l with
  | nil => exact Int.le_refl 0
  | cons x xs ih => have := ih h.tail; have := h.head; rw [val_cons]; omega
theorem val_lt {l : List Int} (h : Lims l) : val l < pw l.length := by
  induction l with
  | nil => decide
  | cons x xs ih => have := ih h.tail; have := h.head; rw [val_cons, List.length_cons, pw_succ]; omega
theorem val_append (a b : List Int) : val (a ++ b) = val a + pw a.length * val b := by
  induction a with
  | nil => simp [val, pw]
  | cons x xs ih => rw [List.cons_append, val_cons, ih, val_cons, List.length_cons, pw_succ]; grind
theorem val_snoc (a : List Int) (x : Int) : val (a ++ [x]) = val a + pw a.length * x := by rw [val_append]; simp [val]
theorem val_replicate (n : Nat) : val (List.replicate n 0) = 0 := by
  induction n with
  | zero => rfl
  | succ n ih => rw [List.replicate_succ, val_cons, ih]; rfl
theorem val_split (l : List Int) (k : Nat) : val l = val (l.take k) + pw (l.take k).length * val (l.drop k) := by
  rw [← val_append, List.take_append_drop]
theorem val_take_succ (l : List Int) (k : Nat) (h : k < l.length) : val (l.take (k + 1)) = val (l.take k) + pw k * l[k] := by
  rw [List.take_succ_eq_append_getElem h, val_snoc, List.length_take_of_le (by omega)]
theorem val_set (l : List Int) (k : Nat) (x : Int) (h : k < l.length) : val (l.set k x) = val l + pw k * (x - l[k]) := by
  induction l generalizing k with
  | nil => simp at h
  | cons y ys ih =>
    match k with
    | 0 => simp [val, pw]; omega
    | k + 1 =>
      have h' : k < ys.length := by simpa using h
      have := ih k h'
      rw [List.set_cons_succ, val_cons, this, val_cons, pw_succ, List.getElem_cons_succ]; grind

theorem trim_nil : trim [] = [] := rfl
theorem val_trim (l : List Int) : val (trim l) = val l := by
  induction l with
  | nil => rfl
  | cons x xs ih =>
    unfold trim
    split
    · next h => rw [val_cons, ← ih, h.1, h.2]; rfl
    · rw [val_cons, ih, val_cons]
theorem trim_of_zero {l : List Int} (h : Lims l) (hv : val l = 0) : trim l = [] := by
  induction l with
  | nil => rfl
  | cons x xs ih =>
    have h1 := h.head
    have h2 := val_nonneg h.tail
    rw [val_cons] at hv
    have hx : x = 0 := by omega
    have hxs : val xs = 0 := by omega
    unfold trim
    rw [if_pos ⟨ih h.tail hxs, hx⟩]
theorem trim_unique {a b : List Int} (ha : Lims a) (hb : Lims b) (h : val a = val b) : trim a = trim b := by
  induction a generalizing b with
  | nil => rw [trim_of_zero hb (by rw [← h]; rfl)]; rfl
  | cons x xs ih =>
    match b with
    | [] => rw [trim_of_zero ha (by rw [h]; rfl)]; rfl
    | y :: ys =>
      have h1 := ha.head
      have h2 := hb.head
      rw [val_cons, val_cons] at h
      have hx : x = y := by omega
      have hv : val xs = val ys := by omega
      unfold trim
      rw [ih ha.tail hb.tail hv, hx]
theorem trim_trim (l : List Int) : trim (trim l) = trim l := by
  induction l with
  | nil => rfl
  | cons x xs ih =>
    have e : trim (x :: xs) = if trim xs = [] ∧ x = 0 then [] else x :: trim xs := rfl
    rw [e]
    split
    · rfl
    · next h =>
      show (if trim (trim xs) = [] ∧ x = 0 then [] else x :: trim (trim xs)) = x :: trim xs
      rw [ih, if_neg h]
theorem trim_length_le (l : List Int) : (trim l).length ≤ l.length := by
  induction l with
  | nil => exact Nat.le_refl _
  | cons x xs ih =>
    unfold trim
    split
    · simp
    · simp; exact ih
theorem trim_take (l : List Int) : trim l = l.take (trim l).length := by
  induction l with
  | nil => rfl
  | cons x xs ih =>
    unfold trim
    split
    · rfl
    · rw [List.length_cons, List.take_succ_cons, ← ih]
theorem Lims.trim {l : List Int} (h : Lims l) : Lims (trim l) := by rw [trim_take]; exact h.take _
theorem trim_snoc_zero (l : List Int) : trim (l ++ [0]) = trim l := by
  induction l with
  | nil => rfl
  | cons x xs ih => rw [List.cons_append]; unfold trim; rw [ih]
theorem trim_snoc_ne (l : List Int) (x : Int) (h : x ≠ 0) : trim (l ++ [x]) = l ++ [x] := by
  induction l with
  | nil => simp [trim, h]
  | cons y ys ih => rw [List.cons_append]; unfold trim; rw [ih]; simp
/-- L is the list of the limbs of n, without zeros at its end. -/
structure Is (L : List Int) (n : Int) : Prop where
  lims : Lims L
  nrm : trim L = L
  eq : val L = n
theorem Is.unique {L M : List Int} {n : Int} (h : Is L n) (k : Is M n) : L = M := by
  rw [← h.nrm, ← k.nrm]; exact trim_unique h.lims k.lims (h.eq.trans k.eq.symm)
theorem Is.mk_trim {l : List Int} (h : Lims l) : Is (trim l) (val l) := ⟨h.trim, trim_trim l, val_trim l⟩
theorem Is.zero : Is [] 0 := ⟨Lims.nil, rfl, rfl⟩
theorem Is.nonneg {L : List Int} {n : Int} (h : Is L n) : 0 ≤ n := by rw [← h.eq]; exact val_nonneg h.lims
theorem Is.lt {L : List Int} {n : Int} (h : Is L n) : n < pw L.length := by rw [← h.eq]; exact val_lt h.lims
theorem Is.eq_of_nil {n : Int} (h : Is [] n) : n = 0 := by rw [← h.eq]; rfl
/-- The last limb of a list without zeros at its end is not zero. -/
theorem last_ne {l : List Int} (h : trim l = l) (k : Nat) (hk : l.length = k + 1) : l.getD k 0 ≠ 0 := by
  intro h0
  have hs : l = l.take k ++ [0] := by
    have h1 := List.take_append_drop k l
    have h2 : l.drop k = [0] := by
      rw [List.drop_eq_getElem_cons (by omega), List.drop_eq_nil_of_le (by omega)]
      rw [List.getD_eq_getElem?_getD, List.getElem?_eq_getElem (by omega)] at h0
      simpa using h0
    rw [h2] at h1; exact h1.symm
  have h3 := trim_length_le (l.take k)
  have h4 : trim l = trim (l.take k) := by
    have := congrArg trim hs
    rwa [trim_snoc_zero] at this
  rw [h] at h4
  rw [← h4, List.length_take] at h3
  omega
theorem Is.ge {L : List Int} {n : Int} (h : Is L n) {k : Nat} (hk : L.length = k + 1) : pw k ≤ n := by
  have h1 := last_ne h.nrm k hk
  have h2 : 0 ≤ L.getD k 0 := (h.lims.getD k).1
  have h3 := val_take_succ L k (by omega)
  rw [List.take_of_length_le (by omega), h.eq] at h3
  have h4 := val_nonneg (h.lims.take k)
  have h5 : L.getD k 0 = L[k] := by rw [List.getD_eq_getElem?_getD, List.getElem?_eq_getElem (by omega)]; rfl
  rw [h5] at h1 h2
  have h6 := pw_pos k
  have h7 : pw k * 1 ≤ pw k * L[k] := Int.mul_le_mul_of_nonneg_left (by omega) (by omega)
  omega
theorem pw_mono {m n : Nat} (h : m ≤ n) : pw m ≤ pw n := by
  obtain ⟨k, rfl⟩ := Nat.exists_eq_add_of_le h
  have h1 := pw_pos m
  have h2 := pw_pos k
  rw [pw_add]
  have : pw m * 1 ≤ pw m * pw k := Int.mul_le_mul_of_nonneg_left (by omega) (by omega)
  omega
/-- A shorter number is less. -/
theorem Is.lt_of_length {L M : List Int} {m n : Int} (h : Is L m) (k : Is M n) (hl : L.length < M.length) : m < n := by
  have h1 := h.lt
  obtain ⟨j, hj⟩ : ∃ j, M.length = j + 1 := ⟨M.length - 1, by omega⟩
  have h2 := k.ge hj
  have h3 := pw_mono (m := L.length) (n := j) (by omega)
  omega

theorem getD_of_lt (L : List Int) (k : Nat) (h : k < L.length) : L.getD k 0 = L[k] := by
  rw [List.getD_eq_getElem?_getD, List.getElem?_eq_getElem h]; rfl
/-- How two numbers compare: -1, 0 or 1. -/
def cmpZ (a b : Int) : Int := if a < b then -1 else if b < a then 1 else 0
theorem cmpZ_lt {a b : Int} (h : a < b) : cmpZ a b = -1 := by unfold cmpZ; rw [if_pos h]
theorem cmpZ_gt {a b : Int} (h : b < a) : cmpZ a b = 1 := by unfold cmpZ; rw [if_neg (by omega), if_pos h]
theorem cmpZ_eq {a b : Int} (h : a = b) : cmpZ a b = 0 := by unfold cmpZ; rw [if_neg (by omega), if_neg (by omega)]
theorem drop_val (L : List Int) (k : Nat) (h : k < L.length) : val L = val (L.take k) + pw k * (L.getD k 0) + pw (k + 1) * val (L.drop (k + 1)) := by
  have h1 := val_split L (k + 1)
  rw [val_take_succ L k h, List.length_take_of_le (by omega)] at h1
  rw [h1, getD_of_lt L k h]
/-- The limbs above place k agree, and the one at k is less: the number is less. -/
theorem val_lt_at {L M : List Int} (hL : Lims L) (hM : Lims M) (k : Nat) (h1 : k < L.length) (h2 : k < M.length) (hd : val (L.drop (k + 1)) = val (M.drop (k + 1))) (hx : L.getD k 0 < M.getD k 0) : val L < val M := by
  rw [drop_val L k h1, drop_val M k h2, hd]
  have a1 := val_lt (hL.take k)
  rw [List.length_take_of_le (by omega)] at a1
  have a2 := val_nonneg (hM.take k)
  have a3 := pw_pos k
  have a4 : pw k * (L.getD k 0 + 1) ≤ pw k * M.getD k 0 := Int.mul_le_mul_of_nonneg_left (by omega) (by omega)
  rw [Int.mul_add] at a4
  omega

theorem val_take_getD (L : List Int) (k : Nat) : val (L.take (k + 1)) = val (L.take k) + pw k * L.getD k 0 := by
  by_cases h : k < L.length
  · rw [val_take_succ L k h, getD_of_lt L k h]
  · rw [List.take_of_length_le (by omega), List.take_of_length_le (by omega), List.getD_eq_getElem?_getD, List.getElem?_eq_none (by omega)]; simp
theorem take_set_succ (S : List Int) (k : Nat) (x : Int) (h : k < S.length) : (S.set k x).take (k + 1) = S.take k ++ [x] := by
  rw [List.take_succ_eq_append_getElem (by simpa using h), List.getElem_set_self, List.take_set_of_le (Nat.le_refl k)]
theorem val_set_take (S : List Int) (k : Nat) (x : Int) (h : k < S.length) : val ((S.set k x).take (k + 1)) = val (S.take k) + pw k * x := by
  rw [take_set_succ S k x h, val_snoc, List.length_take_of_le (by omega)]
theorem getD_ge (L : List Int) (k : Nat) (h : L.length ≤ k) : L.getD k 0 = 0 := by
  rw [List.getD_eq_getElem?_getD, List.getElem?_eq_none h]; rfl
/-- One round of an addition: the sums of the limbs below k, and the carry. -/
theorem add_step {S P Q : List Int} {k : Nat} {cr u v : Int} (hk : k < S.length) (hu : P.getD k 0 = u) (hv : Q.getD k 0 = v)
    (h : val (S.take k) + pw k * cr = val (P.take k) + val (Q.take k)) :
    val ((S.set k ((u + v + cr) % 4294967296)).take (k + 1)) + pw (k + 1) * ((u + v + cr) / 4294967296) = val (P.take (k + 1)) + val (Q.take (k + 1)) := by
  rw [val_set_take S k _ hk, val_take_getD P, val_take_getD Q, hu, hv, pw_succ]
  have e : u + v + cr = (u + v + cr) % 4294967296 + 4294967296 * ((u + v + cr) / 4294967296) := by omega
  generalize (u + v + cr) % 4294967296 = r at *
  generalize (u + v + cr) / 4294967296 = q at *
  have : pw k * (u + v + cr) = pw k * (r + 4294967296 * q) := by rw [e]
  grind
theorem add_last {S : List Int} {p : Nat} {cr m : Int} (hS : S.length = p + 1) (h : val (S.take p) + pw p * cr = m) : val (S.set p cr) = m := by
  have h1 := val_set_take S p cr (by omega)
  rw [List.take_of_length_le (by simp [hS])] at h1
  omega

/-- The borrow out of x - y - c. -/
def borrowOf (x y c : Int) : Int := if x < y + c then 1 else 0
theorem borrowOf_range (x y c : Int) : 0 ≤ borrowOf x y c ∧ borrowOf x y c < 2 := by unfold borrowOf; split <;> omega
theorem borrowOf_eq (x y c : Int) (x0 : 0 ≤ x) (x1 : x < 4294967296) (y0 : 0 ≤ y) (y1 : y < 4294967296) (c0 : 0 ≤ c) (c1 : c < 2) :
    (x - y - c) % 4294967296 = x - y - c + 4294967296 * borrowOf x y c := by
  unfold borrowOf; split <;> omega
/-- One round of a subtraction. -/
theorem sub_step {S P Q : List Int} {k : Nat} {b u v : Int} (hk : k < S.length) (hu : P.getD k 0 = u) (hv : Q.getD k 0 = v) (u0 : 0 ≤ u ∧ u < 4294967296) (v0 : 0 ≤ v ∧ v < 4294967296) (b0 : 0 ≤ b ∧ b < 2)
    (h : val (S.take k) + val (Q.take k) = val (P.take k) + pw k * b) :
    val ((S.set k ((u - v - b) % 4294967296)).take (k + 1)) + val (Q.take (k + 1)) = val (P.take (k + 1)) + pw (k + 1) * borrowOf u v b := by
  rw [val_set_take S k _ hk, val_take_getD P, val_take_getD Q, hu, hv, pw_succ, borrowOf_eq u v b u0.1 u0.2 v0.1 v0.2 b0.1 b0.2]
  grind
theorem drop_set (S : List Int) (k : Nat) (x : Int) : (S.set k x).drop (k + 1) = S.drop (k + 1) := List.drop_set_of_lt (by omega)
theorem getD_of_drop {S P : List Int} {k : Nat} (h : S.drop k = P.drop k) : S.getD k 0 = P.getD k 0 := by
  have e : ∀ l : List Int, l.getD k 0 = ((l.drop k)[0]?).getD 0 := fun l => by rw [List.getElem?_drop, List.getD_eq_getElem?_getD]; rfl
  rw [e, e, h]
theorem drop_succ {S P : List Int} {k : Nat} (h : S.drop k = P.drop k) : S.drop (k + 1) = P.drop (k + 1) := by
  have e : ∀ l : List Int, l.drop (k + 1) = (l.drop k).drop 1 := fun l => by rw [List.drop_drop]
  rw [e, e, h]
/-- The end of a subtraction: no borrow is left. -/
theorem sub_last {S P Q : List Int} {n : Nat} {b : Int} (hS : Lims S) (hs : S.length = n) (hp : P.length = n) (hq : Q.length ≤ n) (b0 : 0 ≤ b) (hle : val Q ≤ val P)
    (h : val (S.take n) + val (Q.take n) = val (P.take n) + pw n * b) : val S = val P - val Q := by
  rw [List.take_of_length_le (by omega), List.take_of_length_le (by omega), List.take_of_length_le (by omega)] at h
  have h1 := val_lt hS
  rw [hs] at h1
  have h2 := pw_pos n
  have h3 : b = 0 := by
    rcases Int.lt_or_le b 1 with h4 | h4
    · omega
    · have : pw n * 1 ≤ pw n * b := Int.mul_le_mul_of_nonneg_left h4 (by omega)
      omega
  rw [h3] at h
  omega

/-- One round of the inner loop of a multiplication. -/
theorem mul_step {S T Q : List Int} {i j : Nat} {x y t cr V : Int} (hk : i + j < S.length) (hT : T.getD (i + j) 0 = t) (hy : Q.getD j 0 = y)
    (h : val (S.take (i + j)) + pw (i + j) * cr = val (T.take (i + j)) + V * val (Q.take j)) (hV : V = pw i * x) :
    val ((S.set (i + j) ((x * y + t + cr) % 4294967296)).take (i + (j + 1))) + pw (i + (j + 1)) * ((x * y + t + cr) / 4294967296) = val (T.take (i + (j + 1))) + V * val (Q.take (j + 1)) := by
  rw [← Nat.add_assoc, val_set_take S _ _ hk, val_take_getD T, val_take_getD Q, hT, hy, pw_succ, pw_add] at *
  have e : x * y + t + cr = (x * y + t + cr) % 4294967296 + 4294967296 * ((x * y + t + cr) / 4294967296) := by omega
  generalize (x * y + t + cr) % 4294967296 = r at *
  generalize (x * y + t + cr) / 4294967296 = q at *
  have e2 : pw i * pw j * (x * y + t + cr) = pw i * pw j * (r + 4294967296 * q) := by rw [e]
  subst hV
  grind
theorem mul_last {S : List Int} {k : Nat} {cr m : Int} (hS : k < S.length) (h : val (S.take k) + pw k * cr = m) : val ((S.set k cr).take (k + 1)) = m := by
  rw [val_set_take S k cr hS]; exact h

/-- One round of a division by one limb, from the top. -/
theorem div_step {S L : List Int} {j : Nat} {d r l : Int} (hS : j < S.length) (hL : j < L.length) (hl : L.getD j 0 = l)
    (h : val (L.drop (j + 1)) = d * val (S.drop (j + 1)) + r) :
    val (L.drop j) = d * val ((S.set j ((r * 4294967296 + l) / d)).drop j) + (r * 4294967296 + l) % d := by
  rw [List.drop_eq_getElem_cons (l := L) hL, List.drop_eq_getElem_cons (l := S.set j _) (by simpa using hS), val_cons, val_cons, List.getElem_set_self, drop_set, h, ← getD_of_lt L j hL, hl]
  have e := Int.mul_ediv_add_emod (r * 4294967296 + l) d
  generalize (r * 4294967296 + l) / d = q at *
  generalize (r * 4294967296 + l) % d = m at *
  grind
theorem take_set_of (S : List Int) (j : Nat) (x : Int) : (S.set j x).take j = S.take j := List.take_set_of_le (Nat.le_refl j)
theorem take_less {S P : List Int} {k j : Nat} (h : S.take k = P.take k) (hj : j ≤ k) : S.take j = P.take j := by
  have e : ∀ l : List Int, l.take j = (l.take k).take j := fun l => by rw [List.take_take, Nat.min_eq_left hj]
  rw [e, e P, h]
theorem getD_of_take {S P : List Int} {k j : Nat} (h : S.take k = P.take k) (hj : j < k) : S.getD j 0 = P.getD j 0 := by
  have e : ∀ l : List Int, l.getD j 0 = ((l.take k)[j]?).getD 0 := fun l => by rw [List.getElem?_take_of_lt hj, List.getD_eq_getElem?_getD]
  rw [e, e P, h]

theorem is_one {x : Int} (x0 : 0 < x) (x1 : x < 4294967296) : Is [x] x := by
  refine ⟨Lims.cons (by omega) x1 Lims.nil, ?_, by simp [val]⟩
  simp [trim]; omega

theorem pow_bound {x : Int} {n : Nat} (x0 : 0 ≤ x) (h : x < pw n) (e : Nat) : x ^ e ≤ pw (n * e) := by
  induction e with
  | zero => simp [pw]
  | succ e ih =>
    have h0 : 0 ≤ x ^ e := Int.pow_nonneg x0
    have h1 : x ^ e * x ≤ x ^ e * pw n := Int.mul_le_mul_of_nonneg_left (by omega) h0
    have h2 : x ^ e * pw n ≤ pw (n * e) * pw n := Int.mul_le_mul_of_nonneg_right ih (Int.le_of_lt (pw_pos n))
    rw [Int.pow_succ, Nat.mul_succ, pw_add]
    omega
theorem pow_lt {x : Int} {n : Nat} (x0 : 0 ≤ x) (h : x < pw n) (e : Nat) : x ^ e < pw (n * e + 1) := by
  have h1 := pow_bound x0 h e
  have h2 := pw_pos (n * e)
  rw [pw_succ]
  omega

/-- A number that is great enough for its length has no zero limb at its end. -/
theorem nrm_of_ge {S : List Int} (hS : Lims S) {j : Nat} (hl : S.length = j + 1) (h : pw j ≤ val S) : trim S = S := by
  have h1 := trim_length_le S
  rcases Nat.lt_or_ge (trim S).length (j + 1) with h2 | h2
  · exfalso
    have h3 := val_lt hS.trim
    rw [val_trim] at h3
    have h4 := pw_mono (m := (trim S).length) (n := j) (by omega)
    omega
  · rw [trim_take, List.take_of_length_le (by omega)]
/-- One round of a multiplication by one limb. -/
theorem scale_step {S L : List Int} {k : Nat} {x t d cr : Int} (hk : k < S.length) (ht : L.getD k 0 = t)
    (h : val (S.take k) + pw k * cr = x * val (L.take k) + d) :
    val ((S.set k ((t * x + 0 + cr) % 4294967296)).take (k + 1)) + pw (k + 1) * ((t * x + 0 + cr) / 4294967296) = x * val (L.take (k + 1)) + d := by
  rw [val_set_take S k _ hk, val_take_getD L, ht, pw_succ]
  have e : t * x + 0 + cr = (t * x + 0 + cr) % 4294967296 + 4294967296 * ((t * x + 0 + cr) / 4294967296) := by omega
  generalize (t * x + 0 + cr) % 4294967296 = r at *
  generalize (t * x + 0 + cr) / 4294967296 = q at *
  have : pw k * (t * x + 0 + cr) = pw k * (r + 4294967296 * q) := by rw [e]
  grind
theorem scale_end {S L : List Int} {n : Nat} {d cr : Int} (hS : Lims S) (hs : S.length = n) (hl : L.length = n) (hI : trim L = L) (hL : Lims L) (d0 : 0 ≤ d) (c0 : 0 ≤ cr)
    (h : val (S.take n) + pw n * cr = 10 * val (L.take n) + d) :
    (cr = 0 → Is S (10 * val L + d)) ∧ (0 < cr → cr < 4294967296 → Is (S ++ [cr]) (10 * val L + d)) := by
  rw [List.take_of_length_le (by omega), List.take_of_length_le (by omega)] at h
  constructor
  · rintro rfl
    refine ⟨hS, ?_, by omega⟩
    match n, hs, hl with
    | 0, hs, _ => rw [List.eq_nil_of_length_eq_zero hs]; rfl
    | j + 1, hs, hl =>
      have h1 : pw j ≤ val L := Is.ge ⟨hL, hI, rfl⟩ hl
      have h2 := pw_pos j
      exact nrm_of_ge hS hs (by omega)
  · intro c1 c2
    refine ⟨hS.append (Lims.cons c0 c2 Lims.nil), trim_snoc_ne _ _ (by omega), ?_⟩
    rw [val_snoc, hs]; exact h

end Go.Proofs.YtebbnmjmjoklmaaGreatDoor
