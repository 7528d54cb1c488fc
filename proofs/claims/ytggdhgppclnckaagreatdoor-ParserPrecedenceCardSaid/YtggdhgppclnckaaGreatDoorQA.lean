/-
  What the rows of numbers and fractions of the reference need, part A.
-/
import Derived.Below
import Derived.Laws.OwnMore
import Derived.Deep.AppendLies
import Derived.Deep.Draws
import Derived.OwnWalk
import Derived.Lib.Hide
import Derived.Test.YtggdhgppclnckaaGreatDoorChecked
import Derived.WalkKit
import Derived.Handy
import Derived.Outline
import Derived.Laws.BitsAllLaws
import Derived.Laws.BitsLemmas
import Derived.BigQuiet
import Derived.Deep.QuietTactic
import Derived.Laws.AppendOwnNone
import Derived.Lib.BitFns
import Derived.WalkSpells
import Derived.Laws.IdiomStrings
import Derived.Deep.LoopGhost
import Derived.WalkMore
import Derived.Lib.Strings
import Derived.Test.YtggdhgppclnckaaGreatDoorShelf
import Derived.Lib.CutLaws
import Derived.Lib.IndexBytes
import Derived.Lib.IndexLaws
import Derived.Deep.RegionWith
namespace Go.Proofs.YtggdhgppclnckaaGreatDoor.Q

/-- The number that a list of limbs stands for, the least significant limb first. -/
def val : List Int → Int
  | [] => 0
  | x :: xs => x + 4294967296 * val xs
/-- Each limb has 32 bits. -/
def Lims (l : List Int) : Prop := ∀ x ∈ l, 0 ≤ x ∧ x < 4294967296
/-- The list without the zeros at its end. -/
def trim : List Int → List Int
  | [] => []
  | x :: xs => if trim xs = [] ∧ x = 0 then [] else x :: trim xs
/-- 4294967296 to the power n. -/
def pw : Nat → Int
  | 0 => 1
  | n + 1 => 4294967296 * pw n

theorem val_cons (x : Int) (xs : List Int) : val (x :: xs) = x + 4294967296 * val xs := rfl
theorem pw_zero : pw 0 = 1 := rfl
theorem pw_succ (n : Nat) : pw (n + 1) = 4294967296 * pw n := rfl
theorem pw_pos (n : Nat) : 0 < pw n := by
  induction n with
  | zero => decide
  | succ n ih => rw [pw_succ]; omega
theorem pw_add (m n : Nat) : pw (m + n) = pw m * pw n := by
  induction n with
  | zero => simp [pw]
  | succ n ih => rw [← Nat.add_assoc, pw_succ, pw_succ, ih]; grind
theorem Lims.nil : Lims [] := by intro x h; cases h
theorem Lims.cons {x : Int} {xs : List Int} (h0 : 0 ≤ x) (h1 : x < 4294967296) (h : Lims xs) : Lims (x :: xs) := by
  intro y hy
  rcases List.mem_cons.1 hy with rfl | hy
  · exact ⟨h0, h1⟩
  · exact h y hy
theorem Lims.head {x : Int} {xs : List Int} (h : Lims (x :: xs)) : 0 ≤ x ∧ x < 4294967296 := h x (List.mem_cons_self ..)
theorem Lims.tail {x : Int} {xs : List Int} (h : Lims (x :: xs)) : Lims xs := fun y hy => h y (List.mem_cons_of_mem _ hy)
theorem Lims.append {a b : List Int} (ha : Lims a) (hb : Lims b) : Lims (a ++ b) := by
  intro x hx
  rcases List.mem_append.1 hx with h | h
  · exact ha x h
  · exact hb x h
theorem Lims.left {a b : List Int} (h : Lims (a ++ b)) : Lims a := fun x hx => h x (List.mem_append_left _ hx)
theorem Lims.right {a b : List Int} (h : Lims (a ++ b)) : Lims b := fun x hx => h x (List.mem_append_right _ hx)
theorem Lims.take {a : List Int} (h : Lims a) (n : Nat) : Lims (a.take n) := fun x hx => h x (List.mem_of_mem_take hx)
theorem Lims.drop {a : List Int} (h : Lims a) (n : Nat) : Lims (a.drop n) := fun x hx => h x (List.mem_of_mem_drop hx)
theorem Lims.getD {a : List Int} (h : Lims a) (i : Nat) : 0 ≤ a.getD i 0 ∧ a.getD i 0 < 4294967296 := by
  by_cases hi : i < a.length
  · rw [List.getD_eq_getElem?_getD, List.getElem?_eq_getElem hi]; exact h _ (List.getElem_mem hi)
  · rw [List.getD_eq_getElem?_getD, List.getElem?_eq_none (by omega)]; decide
theorem Lims.set {a : List Int} (h : Lims a) (i : Nat) {x : Int} (h0 : 0 ≤ x) (h1 : x < 4294967296) : Lims (a.set i x) := by
  intro y hy
  rcases List.mem_or_eq_of_mem_set hy with hy | rfl
  · exact h y hy
  · exact ⟨h0, h1⟩
theorem Lims.replicate (n : Nat) : Lims (List.replicate n 0) := by
  intro x hx
  rw [List.eq_of_mem_replicate hx]; decide
theorem val_nonneg {l : List Int} (h : Lims l) : 0 ≤ val l := by
  induction l with
  | nil => exact Int.le_refl 0
  | cons x xs ih => have := ih h.tail; have := h.head; rw [val_cons]; omega
theorem val_lt {l : List Int} (h : Lims l) : val l < pw l.length := by
  induction l with
  | nil => decide
  | cons x xs ih => have := ih h.tail; have := h.head; rw [val_cons, List.length_cons, pw_succ]; omega
theorem val_append (a b : List Int) : val (a ++ b) = val a + pw a.length * val b := by
  induction a with
  | nil => simp [val, pw]
  | cons x xs ih => rw [List.cons_append, val_cons, ih, val_cons, List.length_cons, pw_succ]; grind
theorem val_snoc (a : List Int) (x : Int) : val (a ++ [x]) = val a + pw a.length * x := by rw [val_append]; simp [val]
theorem val_replicate (n : Nat) : val (List.replicate n 0) = 0 := by
  induction n with
  | zero => rfl
  | succ n ih => rw [List.replicate_succ, val_cons, ih]; rfl
theorem val_split (l : List Int) (k : Nat) : val l = val (l.take k) + pw (l.take k).length * val (l.drop k) := by
  rw [← val_append, List.take_append_drop]
theorem val_take_succ (l : List Int) (k : Nat) (h : k < l.length) : val (l.take (k + 1)) = val (l.take k) + pw k * l[k] := by
  rw [List.take_succ_eq_append_getElem h, val_snoc, List.length_take_of_le (by omega)]
theorem val_trim (l : List Int) : val (trim l) = val l := by
  induction l with
  | nil => rfl
  | cons x xs ih =>
    unfold trim
    split
    · next h => rw [val_cons, ← ih, h.1, h.2]; rfl
    · rw [val_cons, ih, val_cons]
theorem trim_of_zero {l : List Int} (h : Lims l) (hv : val l = 0) : trim l = [] := by
  induction l with
  | nil => rfl
  | cons x xs ih =>
    have h1 := h.head
    have h2 := val_nonneg h.tail
    rw [val_cons] at hv
    have hx : x = 0 := by omega
    have hxs : val xs = 0 := by omega
    unfold trim
    rw [if_pos ⟨ih h.tail hxs, hx⟩]
theorem trim_unique {a b : List Int} (ha : Lims a) (hb : Lims b) (h : val a = val b) : trim a = trim b := by
  induction a generalizing b with
  | nil => rw [trim_of_zero hb (by rw [← h]; rfl)]; rfl
  | cons x xs ih =>
    match b with
    | [] => rw [trim_of_zero ha (by rw [h]; rfl)]; rfl
    | y :: ys =>
      have h1 := ha.head
      have h2 := hb.head
      rw [val_cons, val_cons] at h
      have hx : x = y := by omega
      have hv : val xs = val ys := by omega
      unfold trim
      rw [ih ha.tail hb.tail hv, hx]
theorem trim_trim (l : List Int) : trim (trim l) = trim l := by
  induction l with
  | nil => rfl
  | cons x xs ih =>
    have e : trim (x :: xs) = if trim xs = [] ∧ x = 0 then [] else x :: trim xs := rfl
    rw [e]
    split
    · rfl
    · next h =>
      show (if trim (trim xs) = [] ∧ x = 0 then [] else x :: trim (trim xs)) = x :: trim xs
      rw [ih, if_neg h]
theorem trim_length_le (l : List Int) : (trim l).length ≤ l.length := by
  induction l with
  | nil => exact Nat.le_refl _
  | cons x xs ih =>
    unfold trim
    split
    · simp
    · simp; exact ih
theorem trim_take (l : List Int) : trim l = l.take (trim l).length := by
  induction l with
  | nil => rfl
  | cons x xs ih =>
    unfold trim
    split
    · rfl
    · rw [List.length_cons, List.take_succ_cons, ← ih]
theorem Lims.trim {l : List Int} (h : Lims l) : Lims (trim l) := by rw [trim_take]; exact h.take _
theorem trim_snoc_zero (l : List Int) : trim (l ++ [0]) = trim l := by
  induction l with
  | nil => rfl
  | cons x xs ih => rw [List.cons_append]; unfold trim; rw [ih]
theorem trim_snoc_ne (l : List Int) (x : Int) (h : x ≠ 0) : trim (l ++ [x]) = l ++ [x] := by
  induction l with
  | nil => simp [trim, h]
  | cons y ys ih => rw [List.cons_append]; unfold trim; rw [ih]; simp
/-- L is the list of the limbs of n, without zeros at its end. -/
structure Is (L : List Int) (n : Int) : Prop where
  lims : Lims L
  nrm : trim L = L
  eq : val L = n
theorem Is.unique {L M : List Int} {n : Int} (h : Is L n) (k : Is M n) : L = M := by
  rw [← h.nrm, ← k.nrm]; exact trim_unique h.lims k.lims (h.eq.trans k.eq.symm)
theorem Is.mk_trim {l : List Int} (h : Lims l) : Is (trim l) (val l) := ⟨h.trim, trim_trim l, val_trim l⟩
theorem Is.zero : Is [] 0 := ⟨Lims.nil, rfl, rfl⟩
theorem Is.nonneg {L : List Int} {n : Int} (h : Is L n) : 0 ≤ n := by rw [← h.eq]; exact val_nonneg h.lims
theorem Is.lt {L : List Int} {n : Int} (h : Is L n) : n < pw L.length := by rw [← h.eq]; exact val_lt h.lims
theorem Is.eq_of_nil {n : Int} (h : Is [] n) : n = 0 := by rw [← h.eq]; rfl
/-- The last limb of a list without zeros at its end is not zero. -/
theorem last_ne {l : List Int} (h : trim l = l) (k : Nat) (hk : l.length = k + 1) : l.getD k 0 ≠ 0 := by
  intro h0
  have hs : l = l.take k ++ [0] := by
    have h1 := List.take_append_drop k l
    have h2 : l.drop k = [0] := by
      rw [List.drop_eq_getElem_cons (by omega), List.drop_eq_nil_of_le (by omega)]
      rw [List.getD_eq_getElem?_getD, List.getElem?_eq_getElem (by omega)] at h0
      simpa using h0
    rw [h2] at h1; exact h1.symm
  have h3 := trim_length_le (l.take k)
  have h4 : trim l = trim (l.take k) := by
    have := congrArg trim hs
    rwa [trim_snoc_zero] at this
  rw [h] at h4
  rw [← h4, List.length_take] at h3
  omega
theorem Is.ge {L : List Int} {n : Int} (h : Is L n) {k : Nat} (hk : L.length = k + 1) : pw k ≤ n := by
  have h1 := last_ne h.nrm k hk
  have h2 : 0 ≤ L.getD k 0 := (h.lims.getD k).1
  have h3 := val_take_succ L k (by omega)
  rw [List.take_of_length_le (by omega), h.eq] at h3
  have h4 := val_nonneg (h.lims.take k)
  have h5 : L.getD k 0 = L[k] := by rw [List.getD_eq_getElem?_getD, List.getElem?_eq_getElem (by omega)]; rfl
  rw [h5] at h1 h2
  have h6 := pw_pos k
  have h7 : pw k * 1 ≤ pw k * L[k] := Int.mul_le_mul_of_nonneg_left (by omega) (by omega)
  omega
theorem pw_mono {m n : Nat} (h : m ≤ n) : pw m ≤ pw n := by
  obtain ⟨k, rfl⟩ := Nat.exists_eq_add_of_le h
  have h1 := pw_pos m
  have h2 := pw_pos k
  rw [pw_add]
  have : pw m * 1 ≤ pw m * pw k := Int.mul_le_mul_of_nonneg_left (by omega) (by omega)
  omega
/-- A shorter number is less. -/
theorem Is.lt_of_length {L M : List Int} {m n : Int} (h : Is L m) (k : Is M n) (hl : L.length < M.length) : m < n := by
  have h1 := h.lt
  obtain ⟨j, hj⟩ : ∃ j, M.length = j + 1 := ⟨M.length - 1, by omega⟩
  have h2 := k.ge hj
  have h3 := pw_mono (m := L.length) (n := j) (by omega)
  omega

theorem getD_of_lt (L : List Int) (k : Nat) (h : k < L.length) : L.getD k 0 = L[k] := by
  rw [List.getD_eq_getElem?_getD, List.getElem?_eq_getElem h]; rfl
/-- How two numbers compare: -1, 0 or 1. -/
def cmpZ (a b : Int) : Int := if a < b then -1 else if b < a then 1 else 0
theorem cmpZ_lt {a b : Int} (h : a < b) : cmpZ a b = -1 := by unfold cmpZ; rw [if_pos h]
theorem cmpZ_gt {a b : Int} (h : b < a) : cmpZ a b = 1 := by unfold cmpZ; rw [if_neg (by omega), if_pos h]
theorem cmpZ_eq {a b : Int} (h : a = b) : cmpZ a b = 0 := by unfold cmpZ; rw [if_neg (by omega), if_neg (by omega)]
theorem drop_val (L : List Int) (k : Nat) (h : k < L.length) : val L = val (L.take k) + pw k * (L.getD k 0) + pw (k + 1) * val (L.drop (k + 1)) := by
  have h1 := val_split L (k + 1)
  rw [val_take_succ L k h, List.length_take_of_le (by omega)] at h1
  rw [h1, getD_of_lt L k h]
/-- The limbs above place k agree, and the one at k is less: the number is less. -/
theorem val_lt_at {L M : List Int} (hL : Lims L) (hM : Lims M) (k : Nat) (h1 : k < L.length) (h2 : k < M.length) (hd : val (L.drop (k + 1)) = val (M.drop (k + 1))) (hx : L.getD k 0 < M.getD k 0) : val L < val M := by
  rw [drop_val L k h1, drop_val M k h2, hd]
  have a1 := val_lt (hL.take k)
  rw [List.length_take_of_le (by omega)] at a1
  have a2 := val_nonneg (hM.take k)
  have a3 := pw_pos k
  have a4 : pw k * (L.getD k 0 + 1) ≤ pw k * M.getD k 0 := Int.mul_le_mul_of_nonneg_left (by omega) (by omega)
  rw [Int.mul_add] at a4
  omega

theorem val_take_getD (L : List Int) (k : Nat) : val (L.take (k + 1)) = val (L.take k) + pw k * L.getD k 0 := by
  by_cases h : k < L.length
  · rw [val_take_succ L k h, getD_of_lt L k h]
  · rw [List.take_of_length_le (by omega), List.take_of_length_le (by omega), List.getD_eq_getElem?_getD, List.getElem?_eq_none (by omega)]; simp
theorem take_set_succ (S : List Int) (k : Nat) (x : Int) (h : k < S.length) : (S.set k x).take (k + 1) = S.take k ++ [x] := by
  rw [List.take_succ_eq_append_getElem (by simpa using h), List.getElem_set_self, List.take_set_of_le (Nat.le_refl k)]
theorem val_set_take (S : List Int) (k : Nat) (x : Int) (h : k < S.length) : val ((S.set k x).take (k + 1)) = val (S.take k) + pw k * x := by
  rw [take_set_succ S k x h, val_snoc, List.length_take_of_le (by omega)]
theorem getD_ge (L : List Int) (k : Nat) (h : L.length ≤ k) : L.getD k 0 = 0 := by
  rw [List.getD_eq_getElem?_getD, List.getElem?_eq_none h]; rfl
/-- The borrow out of x - y - c. -/
def borrowOf (x y c : Int) : Int := if x < y + c then 1 else 0
theorem borrowOf_range (x y c : Int) : 0 ≤ borrowOf x y c ∧ borrowOf x y c < 2 := by unfold borrowOf; split <;> omega
theorem borrowOf_eq (x y c : Int) (x0 : 0 ≤ x) (x1 : x < 4294967296) (y0 : 0 ≤ y) (y1 : y < 4294967296) (c0 : 0 ≤ c) (c1 : c < 2) :
    (x - y - c) % 4294967296 = x - y - c + 4294967296 * borrowOf x y c := by
  unfold borrowOf; split <;> omega
theorem drop_set (S : List Int) (k : Nat) (x : Int) : (S.set k x).drop (k + 1) = S.drop (k + 1) := List.drop_set_of_lt (by omega)
theorem getD_of_drop {S P : List Int} {k : Nat} (h : S.drop k = P.drop k) : S.getD k 0 = P.getD k 0 := by
  have e : ∀ l : List Int, l.getD k 0 = ((l.drop k)[0]?).getD 0 := fun l => by rw [List.getElem?_drop, List.getD_eq_getElem?_getD]; rfl
  rw [e, e, h]
theorem drop_succ {S P : List Int} {k : Nat} (h : S.drop k = P.drop k) : S.drop (k + 1) = P.drop (k + 1) := by
  have e : ∀ l : List Int, l.drop (k + 1) = (l.drop k).drop 1 := fun l => by rw [List.drop_drop]
  rw [e, e, h]
/-- One round of a division by one limb, from the top. -/
theorem div_step {S L : List Int} {j : Nat} {d r l : Int} (hS : j < S.length) (hL : j < L.length) (hl : L.getD j 0 = l)
    (h : val (L.drop (j + 1)) = d * val (S.drop (j + 1)) + r) :
    val (L.drop j) = d * val ((S.set j ((r * 4294967296 + l) / d)).drop j) + (r * 4294967296 + l) % d := by
  rw [List.drop_eq_getElem_cons (l := L) hL, List.drop_eq_getElem_cons (l := S.set j _) (by simpa using hS), val_cons, val_cons, List.getElem_set_self, drop_set, h, ← getD_of_lt L j hL, hl]
  have e := Int.mul_ediv_add_emod (r * 4294967296 + l) d
  generalize (r * 4294967296 + l) / d = q at *
  generalize (r * 4294967296 + l) % d = m at *
  grind
theorem take_set_of (S : List Int) (j : Nat) (x : Int) : (S.set j x).take j = S.take j := List.take_set_of_le (Nat.le_refl j)
theorem take_less {S P : List Int} {k j : Nat} (h : S.take k = P.take k) (hj : j ≤ k) : S.take j = P.take j := by
  have e : ∀ l : List Int, l.take j = (l.take k).take j := fun l => by rw [List.take_take, Nat.min_eq_left hj]
  rw [e, e P, h]
theorem getD_of_take {S P : List Int} {k j : Nat} (h : S.take k = P.take k) (hj : j < k) : S.getD j 0 = P.getD j 0 := by
  have e : ∀ l : List Int, l.getD j 0 = ((l.take k)[j]?).getD 0 := fun l => by rw [List.getElem?_take_of_lt hj, List.getD_eq_getElem?_getD]
  rw [e, e P, h]

/-- A number that is great enough for its length has no zero limb at its end. -/
theorem nrm_of_ge {S : List Int} (hS : Lims S) {j : Nat} (hl : S.length = j + 1) (h : pw j ≤ val S) : trim S = S := by
  have h1 := trim_length_le S
  rcases Nat.lt_or_ge (trim S).length (j + 1) with h2 | h2
  · exfalso
    have h3 := val_lt hS.trim
    rw [val_trim] at h3
    have h4 := pw_mono (m := (trim S).length) (n := j) (by omega)
    omega
  · rw [trim_take, List.take_of_length_le (by omega)]
/-- One round of a multiplication by one limb. -/
theorem scale_step {S L : List Int} {k : Nat} {x t d cr : Int} (hk : k < S.length) (ht : L.getD k 0 = t)
    (h : val (S.take k) + pw k * cr = x * val (L.take k) + d) :
    val ((S.set k ((t * x + 0 + cr) % 4294967296)).take (k + 1)) + pw (k + 1) * ((t * x + 0 + cr) / 4294967296) = x * val (L.take (k + 1)) + d := by
  rw [val_set_take S k _ hk, val_take_getD L, ht, pw_succ]
  have e : t * x + 0 + cr = (t * x + 0 + cr) % 4294967296 + 4294967296 * ((t * x + 0 + cr) / 4294967296) := by omega
  generalize (t * x + 0 + cr) % 4294967296 = r at *
  generalize (t * x + 0 + cr) / 4294967296 = q at *
  have : pw k * (t * x + 0 + cr) = pw k * (r + 4294967296 * q) := by rw [e]
  grind
theorem scale_end {S L : List Int} {n : Nat} {d cr : Int} (hS : Lims S) (hs : S.length = n) (hl : L.length = n) (hI : trim L = L) (hL : Lims L) (d0 : 0 ≤ d) (c0 : 0 ≤ cr)
    (h : val (S.take n) + pw n * cr = 10 * val (L.take n) + d) :
    (cr = 0 → Is S (10 * val L + d)) ∧ (0 < cr → cr < 4294967296 → Is (S ++ [cr]) (10 * val L + d)) := by
  rw [List.take_of_length_le (by omega), List.take_of_length_le (by omega)] at h
  constructor
  · rintro rfl
    refine ⟨hS, ?_, by omega⟩
    match n, hs, hl with
    | 0, hs, _ => rw [List.eq_nil_of_length_eq_zero hs]; rfl
    | j + 1, hs, hl =>
      have h1 : pw j ≤ val L := Is.ge ⟨hL, hI, rfl⟩ hl
      have h2 := pw_pos j
      exact nrm_of_ge hS hs (by omega)
  · intro c1 c2
    refine ⟨hS.append (Lims.cons c0 c2 Lims.nil), trim_snoc_ne _ _ (by omega), ?_⟩
    rw [val_snoc, hs]; exact h

end Go.Proofs.YtggdhgppclnckaaGreatDoor.Q
namespace Go.Proofs.YtggdhgppclnckaaGreatDoor.Q
open Go.RowKit
set_option maxRecDepth 20000

theorem addr_block (p : Addr) (k : Nat) : (p.add k).block = p.block := by
  rw [Addr.add]; split
  · rfl
  · rfl

/-- The limbs as the cells hold them. -/
def cells (L : List Int) : List Value := L.map (Value.int .u32)
theorem cells_length (L : List Int) : (cells L).length = L.length := List.length_map ..
theorem cells_get (L : List Int) (i : Nat) (h : i < L.length) : (cells L)[i]? = some (.int .u32 (L.getD i 0)) := by
  unfold cells
  rw [List.getElem?_map, List.getElem?_eq_getElem h, List.getD_eq_getElem?_getD, List.getElem?_eq_getElem h]; rfl

/-- The slice value with address A, length n and capacity c reads as the limbs L in w. -/
structure Rd (w : World) (A : Option Addr) (n c : Nat) (L : List Int) : Prop where
  len : L.length = n
  lims : Lims L
  cap : n ≤ c
  top : c ≤ maxLen
  at_ : 0 < n → ∃ ad, A = some ad ∧ ad.block < w.heap.size ∧ ∀ i, i < n → w.cell? (ad.add i) = some (.int .u32 (L.getD i 0))

section
variable {w w' : World} {A : Option Addr} {n c : Nat} {L : List Int}
theorem Rd.nil (w : World) : Rd w none 0 0 [] := ⟨rfl, Lims.nil, Nat.le_refl _, Nat.zero_le _, fun h => absurd h (by omega)⟩
theorem Rd.keep (h : Rd w A n c L) (hs : w.heap.size ≤ w'.heap.size) (hk : ∀ p : Addr, p.block < w.heap.size → w'.cell? p = w.cell? p) : Rd w' A n c L :=
  ⟨h.len, h.lims, h.cap, h.top, fun hn => by
    obtain ⟨ad, e, hb, hc⟩ := h.at_ hn
    exact ⟨ad, e, by omega, fun i hi => (hk _ (by rw [addr_block]; exact hb)).trans (hc i hi)⟩⟩
theorem Rd.below (h : Rd w A n c L) (hb : Below w.heap.size w w') : Rd w' A n c L := h.keep hb.size fun _ hp => hb.cell hp
theorem Rd.drew (h : Rd w A n c L) : Rd w.drew A n c L := ⟨h.len, h.lims, h.cap, h.top, h.at_⟩
theorem Rd.drewN (h : Rd w A n c L) (k : Nat) : Rd (w.drewN k) A n c L := ⟨h.len, h.lims, h.cap, h.top, h.at_⟩
theorem Rd.alloc (h : Rd w A n c L) (o : Obj) : Rd (w.alloc o) A n c L := h.keep (by simp) fun p hp => World.cell?_alloc_lt w o p hp
theorem Rd.take (h : Rd w A n c L) {k : Nat} (hk : k ≤ n) : Rd w A k c (L.take k) :=
  ⟨by rw [List.length_take, h.len]; omega, h.lims.take k, Nat.le_trans hk h.cap, h.top, fun hn => by
    obtain ⟨ad, e, hb, hc⟩ := h.at_ (by omega)
    refine ⟨ad, e, hb, fun i hi => ?_⟩
    rw [hc i (by omega), List.getD_eq_getElem?_getD, List.getD_eq_getElem?_getD, List.getElem?_take_of_lt hi]⟩
theorem Rd.cast (h : Rd w A n c L) {n' : Nat} {L' : List Int} (hn : n = n') (hL : L = L') : Rd w A n' c L' := by subst hn; subst hL; exact h
end

/-- The slice value is nil, or lies at the head of a block of the call's own (base or later), and holds the limbs L. -/
structure Mine (w : World) (base : Nat) (A : Option Addr) (n c : Nat) (L : List Int) : Prop where
  row : w.ownsRow base 146 1 (.slice A n c) n (cells L)
  lims : Lims L

section
variable {w w' : World} {base : Nat} {A : Option Addr} {n c : Nat} {L : List Int}
theorem Mine.nil (w : World) (base : Nat) : Mine w base none 0 0 [] := ⟨World.ownsRow_nil w base _ _, Lims.nil⟩
theorem Mine.len (h : Mine w base A n c L) : L.length = n := by
  have := h.row.1
  rw [cells_length] at this; omega
theorem Mine.rd (h : Mine w base A n c L) : Rd w A n c L := by
  refine ⟨h.len, h.lims, ?_, ?_, fun hn => ?_⟩
  · rcases h.row.2 with ⟨e, h0⟩ | ⟨g, cap, cur, e, _, _, h1, _⟩
    · omega
    · injection e with _ _ e; subst e; exact h1
  · rcases h.row.2 with ⟨e, h0⟩ | ⟨g, cap, cur, e, _, _, _, h1, _⟩
    · injection e with _ _ e; subst e; exact Nat.zero_le _
    · injection e with _ _ e; subst e; exact h1
  · rcases h.row.2 with ⟨_, h0⟩ | ⟨g, cap, cur, e, _, hg, _⟩
    · omega
    · injection e with e _ _
      subst e
      refine ⟨_, rfl, (Array.getElem?_eq_some_iff.1 hg).1, fun i hi => ?_⟩
      exact h.row.cells (g := g) rfl i _ (cells_get L i (by rw [h.len]; exact hi))
theorem Mine.form (h : Mine w base A n c L) (hn : 0 < n) : ∃ g, A = some ⟨g, 0, none⟩ ∧ base ≤ g ∧ g < w.heap.size := by
  rcases h.row.2 with ⟨_, h0⟩ | ⟨g, cap, cur, e, hb, hg, _⟩
  · omega
  · injection e with e _ _
    exact ⟨g, e, hb, (Array.getElem?_eq_some_iff.1 hg).1⟩
theorem Mine.lt (h : Mine w base A n c L) : ∀ a, A = some a → base ≤ a.block ∧ a.block < w.heap.size := by
  rintro a rfl
  exact h.row.lt a.block rfl
/-- Whatever leaves the slice's own block alone keeps it. -/
theorem Mine.keep (h : Mine w base A n c L) (hk : ∀ a, A = some a → w'.heap[a.block]? = w.heap[a.block]?) : Mine w' base A n c L := by
  refine ⟨⟨h.row.1, ?_⟩, h.lims⟩
  rcases h.row.2 with e | ⟨g, cap, cur, e, hb, hg, rest⟩
  · exact .inl e
  · refine .inr ⟨g, cap, cur, e, hb, ?_, rest⟩
    injection e with e _ _
    rw [hk _ e]; exact hg
theorem Mine.below (h : Mine w base A n c L) (hb : Below w.heap.size w w') : Mine w' base A n c L := h.keep fun a ha => hb.block _ (h.lt a ha).2
theorem Mine.drewN (h : Mine w base A n c L) (k : Nat) : Mine (w.drewN k) base A n c L := ⟨h.row, h.lims⟩
theorem Mine.drew (h : Mine w base A n c L) : Mine w.drew base A n c L := ⟨h.row, h.lims⟩
theorem Mine.alloc (h : Mine w base A n c L) (o : Obj) : Mine (w.alloc o) base A n c L := ⟨h.row.alloc o, h.lims⟩
theorem Mine.far (h : Mine w base A n c L) {p : Addr} (hp : ∀ a, A = some a → a.block ≠ p.block) (u : Value) : Mine (w.setCell p u) base A n c L :=
  h.keep fun a ha => Below.heap_setCell _ _ _ _ (hp a ha)
theorem Mine.more (h : Mine w base A n c L) {base' : Nat} (hb : base' ≤ base) : Mine w base' A n c L := by
  refine ⟨⟨h.row.1, ?_⟩, h.lims⟩
  rcases h.row.2 with e | ⟨g, cap, cur, e, hg, rest⟩
  · exact .inl e
  · exact .inr ⟨g, cap, cur, e, Nat.le_trans hb hg, rest⟩
theorem Mine.cast (h : Mine w base A n c L) {n' : Nat} {L' : List Int} (hn : n = n') (hL : L = L') : Mine w base A n' c L' := by subst hn; subst hL; exact h
theorem Mine.take (h : Mine w base A n c L) {k : Nat} (hk : k ≤ n) (h0 : 0 < n) : Mine w base A k c (L.take k) := by
  have hl := h.len
  refine ⟨⟨by rw [cells_length, List.length_take]; omega, ?_⟩, h.lims.take k⟩
  rcases h.row.2 with ⟨_, e0⟩ | ⟨g, cap, cur, e, hb, hg, h1, h2, h3, h4⟩
  · omega
  · injection e with e1 _ e2
    subst e1; subst e2
    refine .inr ⟨g, c, cur, rfl, hb, hg, by omega, h2, h3, ?_⟩
    have : (cells L).take k = cells (L.take k) := by unfold cells; rw [List.map_take]
    rw [← this, ← h4, List.take_take]
    congr 1
    omega
section
variable {g : Nat}
theorem Mine.cellAt (h : Mine w base (some ⟨g, 0, none⟩) n c L) {i : Nat} (hi : i < n) : w.cell? ⟨g, i, none⟩ = some (.int .u32 (L.getD i 0)) := by
  have := h.row.cellAt i (by omega)
  rw [this, cells_get _ _ (by rw [h.len]; exact hi)]
theorem Mine.frozenAt (h : Mine w base (some ⟨g, 0, none⟩) n c L) (i : Nat) : w.frozen? ⟨g, i, none⟩ = false := h.row.frozenAt i
theorem Mine.stored (h : Mine w base (some ⟨g, 0, none⟩) n c L) (i : Nat) {x : Int} (x0 : 0 ≤ x) (x1 : x < 4294967296) : Mine (w.setCell ⟨g, i, none⟩ (.int .u32 x)) base (some ⟨g, 0, none⟩) n c (L.set i x) := by
  refine ⟨?_, h.lims.set i x0 x1⟩
  have : cells (L.set i x) = (cells L).set i (.int .u32 x) := by unfold cells; rw [List.map_set]
  rw [this]
  exact (h.row.stored i _).1
end
end
/-- A block that holds the limbs L, laid by the call. -/
theorem Mine.lit (w : World) {base : Nat} (hb : base ≤ w.heap.size) (cs : Array Value) (L : List Int) (hL : Lims L) (hs : cs.toList = cells L) (hm : L.length ≤ maxLen) :
    Mine (w.alloc (.cells cs 146)) base (some ⟨w.heap.size, 0, none⟩) L.length L.length L := by
  refine ⟨⟨by rw [cells_length]; omega, .inr ⟨w.heap.size, L.length, cs, rfl, hb, heap_alloc_new w _, Nat.le_refl _, hm, ?_, ?_⟩⟩, hL⟩
  · rw [Nat.mul_one, ← Array.length_toList, hs, cells_length]
  · rw [Nat.mul_one, hs, List.take_of_length_le (by rw [cells_length]; omega)]
theorem Mine.of_row {w : World} {base : Nat} {v : Value} {n : Nat} {L : List Int} (h : w.ownsRow base 146 1 v n (cells L)) (hL : Lims L) : ∃ A c, v = .slice A n c ∧ Mine w base A n c L := by
  rcases h.2 with ⟨e, h0⟩ | ⟨g, cap, cur, e, _⟩
  · subst h0
    exact ⟨none, 0, e, e ▸ h, hL⟩
  · exact ⟨_, _, e, e ▸ h, hL⟩
theorem oneCell_cells (L : List Int) : ∀ u ∈ cells L, u.oneCell' = true := ints_oneCell _ _

theorem drewN_below {B : Nat} {a w : World} (h : Below B a w) (n : Nat) : Below B a (w.drewN n) := ⟨h.os, h.tape, h.output, h.size, h.block⟩

theorem cells_zero (n : Nat) : (madeCells #[Value.int .u32 0] n).toList = cells (List.replicate n 0) := by
  rw [toList_madeCells_one, cells, List.map_replicate]
theorem Mine.zero {w : World} {base : Nat} {A : Option Addr} {n c : Nat} (h : w.ownsRow base 146 1 (.slice A n c) n (madeCells #[Value.int .u32 0] n).toList) : Mine w base A n c (List.replicate n 0) :=
  ⟨by rw [← cells_zero]; exact h, Lims.replicate n⟩
theorem below_of_grown {w w' : World} (h : w.grownBy w' none) : Below w.heap.size w w' := (Below.refl _ _).grown h (Nat.le_refl _) (fun k hk => by cases hk)

/-- Of what was there, at most the block of A is changed, and no block is new. -/
structure Only (A : Option Addr) (w w' : World) : Prop where
  os : w'.os = w.os
  tape : w'.tape = w.tape
  output : w'.output = w.output
  size : w'.heap.size = w.heap.size
  block : ∀ k, (∀ a, A = some a → a.block ≠ k) → w'.heap[k]? = w.heap[k]?
section
variable {w w' w2 : World} {A : Option Addr}
theorem Only.refl (A : Option Addr) (w : World) : Only A w w := ⟨rfl, rfl, rfl, rfl, fun _ _ => rfl⟩
theorem Only.drewN (h : Only A w w') (k : Nat) : Only A w (w'.drewN k) := ⟨h.os, h.tape, h.output, h.size, h.block⟩
theorem Only.drew (h : Only A w w') : Only A w w'.drew := ⟨h.os, h.tape, h.output, h.size, h.block⟩
theorem Only.set {g : Nat} (h : Only (some ⟨g, 0, none⟩) w w') (i : Nat) (u : Value) : Only (some ⟨g, 0, none⟩) w (w'.setCell ⟨g, i, none⟩ u) :=
  ⟨h.os, h.tape, h.output, by rw [← h.size]; simp [World.setCell], fun k hk => (Below.heap_setCell w' ⟨g, i, none⟩ u k (fun e => hk _ rfl e.symm)).trans (h.block k hk)⟩
theorem Only.below {B : Nat} (h : Only A w w') (hA : ∀ a, A = some a → B ≤ a.block) : Below B w w' :=
  ⟨h.os, h.tape, h.output, by rw [h.size]; exact Nat.le_refl _, fun k hk => h.block k (fun a ha => by have := hA a ha; omega)⟩
theorem Mine.other {base n c : Nat} {A' : Option Addr} {L : List Int} (h : Mine w base A' n c L) (ho : Only A w w') (hne : ∀ a a', A = some a → A' = some a' → a.block ≠ a'.block) : Mine w' base A' n c L :=
  h.keep fun a' ha' => ho.block _ (fun a ha => hne a a' ha ha')
end

theorem nextB {w w1 w2 : World} (h : Below w.heap.size w w1) (k : Below w1.heap.size w1 w2) : Below w.heap.size w w2 := h.trans (k.mono h.size)

theorem Only.farCell {w w' : World} {g : Nat} (h : Only (some ⟨g, 0, none⟩) w w') {p : Addr} (hp : p.block ≠ g) : w'.cell? p = w.cell? p :=
  World.cell?_of_block (h.block _ (by intro a ha; injection ha with ha; rw [← ha]; exact fun e => hp e.symm))

theorem add_plain (g i k : Nat) : (⟨g, i, none⟩ : Addr).add k = ⟨g, i + k, none⟩ := by
  rw [Addr.add]
  split
  · next h => rw [h, Nat.add_zero]
  · rfl
theorem Rd.cellAt {w : World} {g i n c : Nat} {L : List Int} (h : Rd w (some ⟨g, i, none⟩) n c L) {k : Nat} (hk : k < n) : w.cell? ⟨g, i + k, none⟩ = some (.int .u32 (L.getD k 0)) := by
  obtain ⟨ad, e, _, hc⟩ := h.at_ (by omega)
  injection e with e
  rw [← e] at hc
  have := hc k hk
  rwa [add_plain] at this
theorem Mine.window {w : World} {base g N C i k : Nat} {R : List Int} (h : Mine w base (some ⟨g, 0, none⟩) N C R) (hk : i + k ≤ N) (hC : i ≤ C) : Rd w (some ⟨g, i, none⟩) k (C - i) ((R.drop i).take k) := by
  have hl := h.len
  have hc := h.rd.cap
  refine ⟨by rw [List.length_take, List.length_drop]; omega, (h.lims.drop i).take k, by omega, by have := h.rd.top; omega, fun h0 => ⟨_, rfl, (h.lt _ rfl).2, fun j hj => ?_⟩⟩
  rw [add_plain, h.cellAt (by omega)]
  rw [List.getD_eq_getElem?_getD, List.getD_eq_getElem?_getD, List.getElem?_take_of_lt hj, List.getElem?_drop]

end Go.Proofs.YtggdhgppclnckaaGreatDoor.Q

namespace Go.Proofs.YtggdhgppclnckaaGreatDoor.Q
open Go.RowKit
set_option maxRecDepth 20000

/-- What strip hands back for the slice (A, n, c) that reads as L. -/
def Stripped (A : Option Addr) (c : Nat) (L : List Int) (A' : Option Addr) (n' c' : Nat) : Prop :=
  n' = (trim L).length ∧ ((n' = 0 ∧ A' = none ∧ c' = 0) ∨ (0 < n' ∧ A' = A ∧ c' = c))
def StripPost (A : Option Addr) (c : Nat) (L : List Int) (w : World) (e : Ending) (w' : World) : Prop :=
  ∃ A' n' c', e = .returned (.slice A' n' c') ∧ Stripped A c L A' n' c' ∧ w = w'
theorem Stripped.rd {w : World} {A A' : Option Addr} {n c n' c' : Nat} {L : List Int} (h : Stripped A c L A' n' c') (hr : Rd w A n c L) : Rd w A' n' c' (trim L) := by
  obtain ⟨hn, ⟨h0, rfl, rfl⟩ | ⟨h0, rfl, rfl⟩⟩ := h
  · subst h0
    have : trim L = [] := List.eq_nil_of_length_eq_zero hn.symm
    rw [this]; exact Rd.nil w
  · have hle := trim_length_le L
    have := hr.len
    exact (hr.take (k := n') (by omega)).cast rfl (by rw [hn, ← trim_take])

theorem Stripped.mine {w : World} {base : Nat} {A A' : Option Addr} {n c n' c' : Nat} {L : List Int} (h : Stripped A c L A' n' c') (hr : Mine w base A n c L) : Mine w base A' n' c' (trim L) := by
  obtain ⟨hn, ⟨h0, rfl, rfl⟩ | ⟨h0, rfl, rfl⟩⟩ := h
  · subst h0
    have : trim L = [] := List.eq_nil_of_length_eq_zero hn.symm
    rw [this]; exact Mine.nil w base
  · have hle := trim_length_le L
    have := hr.len
    exact (hr.take (k := n') (by omega) (by omega)).cast rfl (by rw [hn, ← trim_take])

theorem trim_take_succ (L : List Int) (k : Nat) (hk : k < L.length) (h : L.getD k 0 = 0) : trim (L.take (k + 1)) = trim (L.take k) := by
  rw [List.take_succ_eq_append_getElem hk]
  have : L[k] = 0 := by rw [List.getD_eq_getElem?_getD, List.getElem?_eq_getElem hk] at h; exact h
  rw [this, trim_snoc_zero]
theorem trim_take_ne (L : List Int) (k : Nat) (hk : k < L.length) (h : L.getD k 0 ≠ 0) : trim (L.take (k + 1)) = L.take (k + 1) := by
  rw [List.take_succ_eq_append_getElem hk]
  have : L[k] ≠ 0 := by rw [List.getD_eq_getElem?_getD, List.getElem?_eq_getElem hk] at h; exact h
  rw [trim_snoc_ne _ _ this]

set_option maxHeartbeats 400000 in
theorem strip_any (A : Option Addr) (n c : Nat) (L : List Int) (w : World) (hr : Rd w A n c L) :
    Calls Tryz.prog 258 #[.slice A n c] w (StripPost A c L w) := by
  have hlen := hr.len
  have hcap := hr.cap
  have htop := hr.top
  unfold maxLen at htop
  go_enter Tryz.func258, Tryz.ntmps258
  go_wp2
  go_loop [3] (fun i => ∃ k : Nat, k ≤ n ∧ i = .int .i64 k ∧ Hid (trim (L.take k) = trim L)) (fun i => (intOf i).toNat)
  case atStart => exact ⟨n, Nat.le_refl _, rfl, by show trim _ = _; rw [List.take_of_length_le (by omega)]⟩
  case round =>
    obtain ⟨k, hk, rfl, hT⟩ := hrel
    clear hlen
    by_cases h0 : 0 < k
    · obtain ⟨j, rfl⟩ : ∃ j, k = j + 1 := ⟨k - 1, by omega⟩
      obtain ⟨ad, rfl, hb, hc⟩ := hr.at_ (by omega)
      have hcj := hc j (by omega)
      clear hc
      by_cases hz : L.getD j 0 = 0
      · rw [hz] at hcj
        go_wp2
        go_round
        case rel => exact ⟨j, by omega, rfl, (congrArg (· = trim L) (trim_take_succ L j (by have := hr.len; omega) hz)).mp hT⟩
        case measure => simp [intOf] <;> omega
      · have hz' : (L.getD j 0 == 0) = false := by simpa using hz
        have HZ : Hid (L.getD j 0 ≠ 0) := hz
        clear hz
        obtain ⟨x, hx⟩ : ∃ x, L.getD j 0 = x := ⟨_, rfl⟩
        rw [hx] at hcj hz'
        clear hx
        go_wp2
        go_ret
        refine ⟨_, _, _, rfl, ⟨?_, .inr ⟨Nat.succ_pos _, rfl, rfl⟩⟩, rfl⟩
        rw [← hT, trim_take_ne L j (by have := hr.len; omega) HZ, List.length_take]
        have := hr.len
        omega
    · obtain rfl : k = 0 := by omega
      clear h0
      go_wp2
      go_ret
      refine ⟨_, _, _, rfl, ⟨?_, .inl ⟨rfl, rfl, rfl⟩⟩, rfl⟩
      rw [← hT]; rfl

end Go.Proofs.YtggdhgppclnckaaGreatDoor.Q

namespace Go.Proofs.YtggdhgppclnckaaGreatDoor.Q
open Go.RowKit
set_option maxRecDepth 20000

theorem ret_int {k : IntKind} {a b : Int} (h : a = b) : Ending.returned (.int k a) = .returned (.int k b) := by rw [h]
theorem ret2_int {k k' : IntKind} {a b a' b' : Int} (h : a = b) (h' : a' = b') : Ending.returned (.tuple #[.int k a, .int k' a']) = .returned (.tuple #[.int k b, .int k' b']) := by rw [h, h']
theorem u32_bits_lt (op : BinOp) (h : op = .and ∨ op = .or ∨ op = .xor) (a b : Int) (h1 : 0 ≤ a) (h2 : a < 4294967296) (h3 : 0 ≤ b) (h4 : b < 4294967296) : 0 ≤ bits op .u32 a b ∧ bits op .u32 a b < 4294967296 := by
  have e : (4294967296 : Nat) = 2 ^ 32 := by decide
  have ha : a.toNat < 2 ^ 32 := by omega
  have hb : b.toNat < 2 ^ 32 := by omega
  rcases h with rfl | rfl | rfl
  · rw [u32_and a b h1 h2 h3 h4]
    have := Nat.and_lt_two_pow a.toNat hb
    omega
  · rw [u32_or a b h1 h2 h3 h4]
    have := Nat.or_lt_two_pow ha hb
    omega
  · rw [u32_xor a b h1 h2 h3 h4]
    have := Nat.xor_lt_two_pow ha hb
    omega

theorem top_bit (n : Nat) (h : n < 4294967296) : n / 2147483648 = 0 ∨ n / 2147483648 = 1 := by omega
theorem borrow_bits (x y d : Nat) :
    (((4294967295 ^^^ x) &&& y) ||| ((4294967295 ^^^ (x ^^^ y)) &&& d)) / 2147483648 = ((1 ^^^ (x / 2147483648)) &&& (y / 2147483648)) ||| ((1 ^^^ ((x / 2147483648) ^^^ (y / 2147483648))) &&& (d / 2147483648)) := by
  have e : (2147483648 : Nat) = 2 ^ 31 := by decide
  rw [e, Nat.or_div_two_pow, Nat.and_div_two_pow, Nat.and_div_two_pow, Nat.xor_div_two_pow, Nat.xor_div_two_pow, Nat.xor_div_two_pow]
theorem borrow_word (x y c : Int) (x0 : 0 ≤ x) (x1 : x < 4294967296) (y0 : 0 ≤ y) (y1 : y < 4294967296) (c0 : 0 ≤ c) (c1 : c < 2) :
    bits .or .u32 (bits .and .u32 (bits .xor .u32 IntKind.u32.max x) y) (bits .and .u32 (bits .xor .u32 IntKind.u32.max (bits .xor .u32 x y)) ((x - y - c) % 4294967296)) / 2147483648 = borrowOf x y c := by
  have m : IntKind.u32.max = 4294967295 := by decide
  have m0 : (4294967295 : Int).toNat = 4294967295 := by decide
  obtain ⟨d, hd⟩ : ∃ d : Int, d = (x - y - c) % 4294967296 := ⟨_, rfl⟩
  have d0 : 0 ≤ d := by omega
  have d1 : d < 4294967296 := by omega
  rw [m, ← hd]
  have a1 := u32_bits_lt .xor (.inr (.inr rfl)) 4294967295 x (by omega) (by omega) x0 x1
  have a2 := u32_bits_lt .and (.inl rfl) _ y a1.1 a1.2 y0 y1
  have a3 := u32_bits_lt .xor (.inr (.inr rfl)) x y x0 x1 y0 y1
  have a4 := u32_bits_lt .xor (.inr (.inr rfl)) 4294967295 _ (by omega) (by omega) a3.1 a3.2
  have a5 := u32_bits_lt .and (.inl rfl) _ d a4.1 a4.2 d0 d1
  rw [u32_or _ _ a2.1 a2.2 a5.1 a5.2, u32_and _ _ a1.1 a1.2 y0 y1, u32_and _ _ a4.1 a4.2 d0 d1, u32_xor _ _ (by omega) (by omega) x0 x1, u32_xor _ _ (by omega) (by omega) a3.1 a3.2, u32_xor _ _ x0 x1 y0 y1]
  simp only [Int.toNat_natCast, m0]
  have B := borrow_bits x.toNat y.toNat d.toNat
  have T1 := top_bit x.toNat (by omega)
  have T2 := top_bit y.toNat (by omega)
  have T3 := top_bit d.toNat (by omega)
  have key : ((((4294967295 ^^^ x.toNat) &&& y.toNat) ||| ((4294967295 ^^^ (x.toNat ^^^ y.toNat)) &&& d.toNat)) / 2147483648 : Nat) = (borrowOf x y c).toNat := by
    rw [B]
    unfold borrowOf
    rcases T1 with t1 | t1 <;> rcases T2 with t2 | t2 <;> rcases T3 with t3 | t3 <;> rw [t1, t2, t3] <;> simp <;> omega
  have r := borrowOf_range x y c
  omega

theorem add32_any (x y c : Int) (w : World) (hx : 0 ≤ x ∧ x < 4294967296) (hy : 0 ≤ y ∧ y < 4294967296) (hc : 0 ≤ c ∧ c < 4294967296) :
    Calls Tryz.prog 257 #[.int .u32 x, .int .u32 y, .int .u32 c] w fun e w' => e = .returned (.tuple #[.int .u32 ((x + y + c) % 4294967296), .int .u32 ((x + y + c) / 4294967296)]) ∧ w = w' := by
  obtain ⟨x0, x1⟩ := hx
  obtain ⟨y0, y1⟩ := hy
  obtain ⟨c0, c1⟩ := hc
  go_enter Tryz.func257, Tryz.ntmps257
  go_wp2
  go_ret2
  exact ⟨rfl, rfl⟩

theorem mul_limbs (x y : Int) (hx : 0 ≤ x ∧ x < 4294967296) (hy : 0 ≤ y ∧ y < 4294967296) : 0 ≤ x * y ∧ x * y ≤ 18446744065119617025 :=
  ⟨Int.mul_nonneg hx.1 hy.1, by
    have h1 : x * y ≤ 4294967295 * y := Int.mul_le_mul_of_nonneg_right (by omega) hy.1
    omega⟩

theorem mul32_any (x y : Int) (w : World) (hx : 0 ≤ x ∧ x < 4294967296) (hy : 0 ≤ y ∧ y < 4294967296) :
    Calls Tryz.prog 256 #[.int .u32 x, .int .u32 y] w fun e w' => e = .returned (.tuple #[.int .u32 (x * y / 4294967296), .int .u32 (x * y % 4294967296)]) ∧ w = w' := by
  obtain ⟨p0, p1⟩ := mul_limbs x y hx hy
  obtain ⟨x0, x1⟩ := hx
  obtain ⟨y0, y1⟩ := hy
  have p2 : x * y / 4294967296 < 4294967296 := by omega
  go_enter Tryz.func256, Tryz.ntmps256
  go_wp2
  go_ret2
  exact ⟨rfl, rfl⟩

theorem sub32_any (x y c : Int) (w : World) (hx : 0 ≤ x ∧ x < 4294967296) (hy : 0 ≤ y ∧ y < 4294967296) (hc : 0 ≤ c ∧ c < 2) :
    Calls Tryz.prog 288 #[.int .u32 x, .int .u32 y, .int .u32 c] w fun e w' => e = .returned (.tuple #[.int .u32 ((x - y - c) % 4294967296), .int .u32 (borrowOf x y c)]) ∧ w = w' := by
  obtain ⟨x0, x1⟩ := hx
  obtain ⟨y0, y1⟩ := hy
  obtain ⟨c0, c1⟩ := hc
  have W := borrow_word x y c x0 x1 y0 y1 c0 c1
  have HW := Lib.hid W
  clear W
  go_enter Tryz.func288, Tryz.ntmps288
  go_wp2
  all_goals first
    | (exfalso; rename_i h; exact h rfl)
    | (go_ret2; exact ⟨by rw [← HW.out]; rfl, rfl⟩)

theorem or_join (x y : Int) (x0 : 0 ≤ x) (x1 : x < 4294967296) (y0 : 0 ≤ y) (y1 : y < 4294967296) : bits .or .u64 (x * 4294967296) y = x * 4294967296 + y := by
  rw [u64_or _ _ (by omega) (by omega) (by omega) (by omega), nat_join 32 _ _ (by omega) (by omega)]
  omega

theorem div32_any (x y d : Int) (w : World) (hx : 0 ≤ x ∧ x < d) (hy : 0 ≤ y ∧ y < 4294967296) (hd : d < 4294967296) :
    Calls Tryz.prog 281 #[.int .u32 x, .int .u32 y, .int .u32 d] w fun e w' => e = .returned (.tuple #[.int .u32 ((x * 4294967296 + y) / d), .int .u32 ((x * 4294967296 + y) % d)]) ∧ ∃ n, w' = w.drewN n := by
  obtain ⟨x0, x1⟩ := hx
  obtain ⟨y0, y1⟩ := hy
  have hd0 : (d != 0) = true := by simp; omega
  have hd1 : ¬ d ≤ x := by omega
  have J := or_join x y x0 (by omega) y0 y1
  have d0 : 1 ≤ d := by omega
  have q0 : (x * 4294967296 + y) / d < 4294967296 := Int.ediv_lt_of_lt_mul (by omega) (by
    have : x * 4294967296 + 4294967296 ≤ d * 4294967296 := by omega
    rw [Int.mul_comm 4294967296 d]; omega)
  have q1 : 0 ≤ (x * 4294967296 + y) / d := Int.ediv_nonneg (by omega) (by omega)
  have r0 := Int.emod_nonneg (x * 4294967296 + y) (show d ≠ 0 by omega)
  have r1 := Int.emod_lt_of_pos (x * 4294967296 + y) (show 0 < d by omega)
  have r2 : (x * 4294967296 + y) % d < 4294967296 := by omega
  go_enter Tryz.func281, Tryz.ntmps281
  go_wp2
  go_quiet (fail)
  go_wp2
  go_ret2
  exact ⟨rfl, _, rfl⟩

theorem multiplyAdd_any (x y a c : Int) (w : World) (hx : 0 ≤ x ∧ x < 4294967296) (hy : 0 ≤ y ∧ y < 4294967296) (ha : 0 ≤ a ∧ a < 4294967296) (hc : 0 ≤ c ∧ c < 4294967296) :
    Calls Tryz.prog 242 #[.int .u32 x, .int .u32 y, .int .u32 a, .int .u32 c] w fun e w' =>
      e = .returned (.tuple #[.int .u32 ((x * y + a + c) / 4294967296), .int .u32 ((x * y + a + c) % 4294967296)]) ∧ w = w' := by
  obtain ⟨p0, p1⟩ := mul_limbs x y hx hy
  have M := mul32_any x y w hx hy
  have HM := Lib.hid M
  clear M
  obtain ⟨x0, x1⟩ := hx
  obtain ⟨y0, y1⟩ := hy
  obtain ⟨a0, a1⟩ := ha
  obtain ⟨c0, c1⟩ := hc
  have b1 : 0 ≤ x * y / 4294967296 := by omega
  have b2 : x * y / 4294967296 + (x * y % 4294967296 + a) / 4294967296 < 4294967296 := by omega
  have b3 : x * y / 4294967296 + (x * y % 4294967296 + a) / 4294967296 + ((x * y % 4294967296 + a) % 4294967296 + c) / 4294967296 < 4294967296 := by omega
  go_enter Tryz.func242, Tryz.ntmps242
  go_wp2_with fail
  refine HM.out.mono ?_
  rintro e w' ⟨rfl, rfl⟩
  go_wp2_with fail
  refine (add32_any _ _ _ _ (by omega) (by omega) (by omega)).mono ?_
  rintro e w' ⟨rfl, rfl⟩
  go_wp2_with fail
  refine (add32_any _ _ _ _ (by omega) (by omega) (by omega)).mono ?_
  rintro e w' ⟨rfl, rfl⟩
  go_wp2_with fail
  go_ret2
  exact ⟨ret2_int (by omega) (by omega), rfl⟩

end Go.Proofs.YtggdhgppclnckaaGreatDoor.Q

namespace Go.Proofs.YtggdhgppclnckaaGreatDoor.Q
open Go.RowKit
set_option maxRecDepth 20000

theorem info_limb : (Tryz.prog.info? 146).map (fun i => (i.zero, i.size, i.bytes)) = some (some (.int .u32 0), 1, 4) := by kernel_rfl

theorem cells_at {w : World} {ad : Addr} {n : Nat} {L : List Int} (hl : L.length = n) (hc : ∀ i, i < n → w.cell? (ad.add i) = some (.int .u32 (L.getD i 0))) :
    ∀ j u, (cells L)[j]? = some u → w.cell? (ad.add j) = some u := by
  intro j u hj
  have hlt : j < L.length := by
    have := (List.getElem?_eq_some_iff.1 hj).1
    rwa [cells_length] at this
  rw [cells_get L j hlt] at hj
  rw [hc j (by omega), hj]

/-- A slice of the call's own with the limbs of m comes back; what was there before is as it was. -/
def Gives (w : World) (m : Int) (e : Ending) (w' : World) : Prop :=
  ∃ A n c L, e = .returned (.slice A n c) ∧ Mine w' w.heap.size A n c L ∧ Is L m ∧ Below w.heap.size w w'

theorem trim_any (A : Option Addr) (n c : Nat) (L : List Int) (w : World) (hr : Rd w A n c L) (hn : n ≤ 1000000) :
    Calls Tryz.prog 260 #[.slice A n c] w (Gives w (val L)) := by
  obtain ⟨i0, hi, hz0, hz1, hz2⟩ := info_parts info_limb
  have hl := hr.len
  have hle := trim_length_le L
  go_enter Tryz.func260, Tryz.ntmps260
  go_wp2_with fail
  refine (strip_any A n c L w hr).mono ?_
  rintro e w' ⟨A', n', c', rfl, hS, rfl⟩
  have hr' := hS.rd hr
  have hn' := hr'.len
  rcases Nat.eq_zero_or_pos n' with h0 | h0
  · obtain ⟨hE, ⟨_, rfl, rfl⟩ | ⟨h1, _, _⟩⟩ := hS
    · have hT : trim L = [] := List.eq_nil_of_length_eq_zero (by omega)
      have HT := Lib.hid hT
      subst h0
      clear hr' hn' hT hE hle
      go_wp2_with (at_builtin; refine wpList_append_own_none rfl _ _ 48 rfl w.heap.size 146 i0 1 Tryz.underlying48 hi (.slice none 0 0) 0 [] rfl (World.ownsRow_nil _ _ _ _) rfl ?_)
      go_ret
      exact ⟨none, 0, 0, _, rfl, (Mine.nil w _).cast rfl HT.out.symm, Is.mk_trim hr.lims, Below.refl _ _⟩
    · omega
  · obtain ⟨ad, rfl, hb, hc⟩ := hr'.at_ h0
    go_wp2_with (at_builtin; refine wpList_append_own _ rfl _ _ 48 rfl w.heap.size 146 i0 (.int .u32 0) 1 4 Tryz.underlying48 hi hz0 hz1 hz2 rfl (by decide) (.slice none 0 0) 0 [] rfl (World.ownsRow_nil _ _ _ _) ad n' c' (cells (trim L)) rfl ?c1 ?c2 ?c3 ?c4 ?c5 (Nat.le_refl _) ?_)
    case c1 => rw [cells_length]; omega
    case c2 => exact cells_at hr'.len hc
    case c3 => exact oneCell_cells _
    case c4 => unfold maxLen; omega
    case c5 => omega
    intro v' w1 hown hgrow _
    go_wp2
    go_ret
    obtain ⟨A1, c1, hv, hm⟩ := Mine.of_row (L := trim L) (by simpa using hown) hr'.lims
    exact ⟨A1, n', c1, _, congrArg Ending.returned hv, hm, Is.mk_trim hr.lims, (Below.refl _ _).grown hgrow (Nat.le_refl _) (by intro k hk; cases hk)⟩

theorem fromWord_any (x : Int) (w : World) (x0 : 0 ≤ x) (x1 : x < 18446744073709551616) :
    Calls Tryz.prog 262 #[.int .u64 x] w (Gives w x) := by
  go_enter Tryz.func262, Tryz.ntmps262
  go_wp2_with fail
  have hm := Mine.lit w (Nat.le_refl _) #[.int .u32 (x % 4294967296), .int .u32 (x / 4294967296)] [x % 4294967296, x / 4294967296]
    (Lims.cons (by omega) (by omega) (Lims.cons (by omega) (by omega) Lims.nil)) rfl (by unfold maxLen; simp)
  refine (strip_any _ _ _ _ _ hm.rd).mono ?_
  rintro e w' ⟨A', n', c', rfl, hS, rfl⟩
  have hm' := hS.mine hm
  have hI := Is.mk_trim hm.lims
  clear hS hm
  have e1 : val [x % 4294967296, x / 4294967296] = x := by simp [val]; omega
  rw [e1] at hI
  have HI := Lib.hid hI
  clear hI e1
  go_wp2
  go_ret
  exact ⟨_, _, _, _, rfl, hm', HI.out, (Below.refl _ _).alloc (Nat.le_refl _) _⟩

theorem word_step (L : List Int) (k : Nat) (hL : Lims L) (hk : k < L.length) (h2 : k < 2) :
    bits .or .u64 (val (L.take k)) (IntKind.u64.wrap (L.getD k 0 * 2 ^ (32 * k))) = val (L.take (k + 1)) := by
  have hx := hL.getD k
  have h1 := val_nonneg (hL.take k)
  have h3 := val_lt (hL.take k)
  rw [List.length_take_of_le (by omega)] at h3
  rw [val_take_succ L k hk, ← getD_of_lt L k hk]
  generalize L.getD k 0 = x at hx
  match k, h2 with
  | 0, _ =>
    have e0 : val (L.take 0) = 0 := rfl
    have e1 : IntKind.u64.wrap (x * 2 ^ (32 * 0)) = x := by simp [IntKind.wrap_u64]; omega
    rw [e0, e1, u64_or _ _ (by omega) (by omega) (by omega) (by omega)]
    simp [pw]; omega
  | 1, _ =>
    have e1 : IntKind.u64.wrap (x * 2 ^ (32 * 1)) = x * 4294967296 := by simp [IntKind.wrap_u64]; omega
    have e2 : pw 1 = 4294967296 := by decide
    rw [e1, e2]
    rw [e2] at h3
    rw [u64_or _ _ (by omega) (by omega) (by omega) (by omega), Nat.or_comm, nat_join 32 _ _ (by omega) (by omega)]
    omega

/-- The number that a list of at most two limbs stands for. -/
theorem toWord_any (A : Option Addr) (n c : Nat) (L : List Int) (w : World) (hr : Rd w A n c L) (hn : n ≤ 2) :
    Calls Tryz.prog 264 #[.slice A n c] w fun e w' => e = .returned (.int .u64 (val L)) ∧ w = w' := by
  have hlen := hr.len
  have htop := hr.top
  unfold maxLen at htop
  go_enter Tryz.func264, Tryz.ntmps264
  go_wp2
  go_loop [3, 8] (fun v i => ∃ k : Nat, k ≤ n ∧ i = .int .i64 k ∧ v = .int .u64 (val (L.take k))) (fun _ i => n - (intOf i).toNat)
  case atStart => exact ⟨0, Nat.zero_le _, rfl, rfl⟩
  case round =>
    obtain ⟨k, hk, rfl, rfl⟩ := hrel
    have hx := hr.lims.getD k
    by_cases hlt : k < n
    · obtain ⟨ad, rfl, hb, hc⟩ := hr.at_ (by omega)
      have hck := hc k hlt
      have HW := Lib.hid (word_step L k hr.lims (by omega) (by omega))
      clear hc hlen
      obtain ⟨x, hX⟩ : ∃ x, L.getD k 0 = x := ⟨_, rfl⟩
      rw [hX] at hck hx HW
      obtain ⟨hx0, hx1⟩ := hx
      clear hX
      go_wp2
      go_round
      case rel => exact ⟨k + 1, by omega, by go_num, congrArg _ HW.out⟩
      case measure => simp [intOf] <;> omega
    · obtain rfl : k = n := by omega
      clear hx
      go_wp2
      go_ret
      exact ⟨ret_int (by rw [List.take_of_length_le (by omega)]), rfl⟩

/-- A slice of the call's own with the limbs of m comes back, and no error. -/
def GivesOk (w : World) (m : Int) (e : Ending) (w' : World) : Prop :=
  ∃ A n c L, e = .returned (.tuple #[.slice A n c, .int .i64 0]) ∧ Mine w' w.heap.size A n c L ∧ Is L m ∧ Below w.heap.size w w'

end Go.Proofs.YtggdhgppclnckaaGreatDoor.Q

namespace Go.Proofs.YtggdhgppclnckaaGreatDoor.Q
open Go.RowKit
set_option maxRecDepth 20000

def SameNum (w : World) (a b : Int) (e : Ending) (w' : World) : Prop := e = .returned (.int .i64 (cmpZ a b)) ∧ ∃ k, w' = w.drewN k

theorem drewN2 (w : World) (a b : Nat) : ∃ k, (w.drewN a).drewN b = w.drewN k := ⟨a + b, World.drewN_drewN ..⟩
theorem drewN3 (w : World) (a b c : Nat) : ∃ k, ((w.drewN a).drewN b).drewN c = w.drewN k := ⟨a + (b + c), by rw [World.drewN_drewN, World.drewN_drewN]⟩

set_option maxHeartbeats 400000 in
theorem cmp_any (A B : Option Addr) (n c m d : Nat) (L M : List Int) (w : World) (hr : Rd w A n c L) (hs : Rd w B m d M) :
    Calls Tryz.prog 243 #[.slice A n c, .slice B m d] w (SameNum w (val L) (val M)) := by
  go_enter Tryz.func243, Tryz.ntmps243
  go_wp2_with fail
  refine (strip_any A n c L w hr).mono ?_
  rintro e w' ⟨A', n', c', rfl, hS, rfl⟩
  have hr' := hS.rd hr
  clear hS
  go_wp2_with fail
  refine (strip_any B m d M w hs).mono ?_
  rintro e w' ⟨B', m', d', rfl, hS, rfl⟩
  have hs' := hS.rd hs
  clear hS
  have hI := Is.mk_trim hr.lims
  have hJ := Is.mk_trim hs.lims
  clear hr hs
  generalize val L = x at *
  generalize val M = y at *
  generalize trim L = L' at *
  generalize trim M = M' at *
  have l1 := hr'.len
  have l2 := hs'.len
  have t1 := hr'.top
  have t2 := hs'.top
  have c1 := hr'.cap
  have c2 := hs'.cap
  unfold maxLen at t1 t2
  by_cases h1 : n' < m'
  · have hlt := hI.lt_of_length hJ (by omega)
    have HE := Lib.hid (cmpZ_lt hlt)
    clear hlt l1 l2 hI hJ
    go_wp2
    go_ret
    exact ⟨by rw [HE.out]; rfl, 0, rfl⟩
  by_cases h2 : m' < n'
  · have hlt := hJ.lt_of_length hI (by omega)
    have HE := Lib.hid (cmpZ_gt hlt)
    clear hlt l1 l2 hI hJ
    go_wp2
    go_ret
    exact ⟨by rw [HE.out]; rfl, 0, rfl⟩
  obtain rfl : n' = m' := by omega
  have L1 := Lib.hid l1
  have L2 := Lib.hid l2
  have HI := Lib.hid hI
  have HJ := Lib.hid hJ
  clear l1 l2 hI hJ h1 h2
  go_wp2
  go_loopw [5] (fun i wr => ∃ k q : Nat, k ≤ n' ∧ i = .int .i64 ((k : Int) - 1) ∧ Hid (val (L'.drop k) = val (M'.drop k)) ∧ wr = w.drewN q) (fun i _ => (intOf i + 1).toNat)
  case atStart => exact ⟨n', 0, Nat.le_refl _, rfl, by show val _ = val _; rw [List.drop_eq_nil_of_le (by have := L1.out; omega), List.drop_eq_nil_of_le (by have := L2.out; omega)], rfl⟩
  case round =>
    obtain ⟨k, q, hk, rfl, hD, rfl⟩ := hrel
    by_cases h0 : k = 0
    · subst h0
      go_wp2
      go_ret
      refine ⟨ret_int ?_, q, rfl⟩
      rw [cmpZ_eq]
      have := hD.out
      rw [List.drop_zero, List.drop_zero, HI.out.eq, HJ.out.eq] at this
      exact this
    · obtain ⟨j, rfl⟩ : ∃ j, k = j + 1 := ⟨k - 1, by omega⟩
      obtain ⟨ad, rfl, hb, hc⟩ := hr'.at_ (by omega)
      obtain ⟨ad', rfl, hb', hc'⟩ := hs'.at_ (by omega)
      have h1 := hc j (by omega)
      have h2 := hc' j (by omega)
      have X1 := Lib.hid (drop_val L' j (by have := L1.out; omega))
      clear hc hc'
      obtain ⟨x1, e1⟩ : ∃ x1, L'.getD j 0 = x1 := ⟨_, rfl⟩
      obtain ⟨x2, e2⟩ : ∃ x2, M'.getD j 0 = x2 := ⟨_, rfl⟩
      have E1 := Lib.hid e1
      have E2 := Lib.hid e2
      rw [e1] at h1
      rw [e2] at h2
      clear e1 e2
      rcases Int.lt_trichotomy x1 x2 with hlt | heq | hgt
      · have HE : Hid (cmpZ x y = -1) := by
          refine cmpZ_lt ?_
          rw [← HI.out.eq, ← HJ.out.eq]
          exact val_lt_at HI.out.lims HJ.out.lims j (by have := L1.out; omega) (by have := L2.out; omega) hD.out (by rw [E1.out, E2.out]; exact hlt)
        go_wp2_with fail
        go_quiet (fail)
        go_wp2
        go_ret
        exact ⟨by rw [HE.out]; rfl, drewN2 ..⟩
      · subst heq
        have hD' : Hid (val (L'.drop j) = val (M'.drop j)) := by
          show _ = _
          rw [List.drop_eq_getElem_cons (l := L') (i := j) (by have := L1.out; omega), List.drop_eq_getElem_cons (l := M') (i := j) (by have := L2.out; omega), val_cons, val_cons, hD.out, ← getD_of_lt, ← getD_of_lt, E1.out, E2.out]
        go_wp2_with fail
        go_quiet (fail)
        go_wp2_with fail
        go_quiet (fail)
        go_wp2
        go_roundw
        case rel => exact ⟨j, _, by omega, by go_num, hD', rfl⟩
        case measure => simp [intOf] <;> omega
      · have HE : Hid (cmpZ x y = 1) := by
          refine cmpZ_gt ?_
          rw [← HI.out.eq, ← HJ.out.eq]
          exact val_lt_at HJ.out.lims HI.out.lims j (by have := L2.out; omega) (by have := L1.out; omega) hD.out.symm (by rw [E1.out, E2.out]; exact hgt)
        go_wp2_with fail
        go_quiet (fail)
        go_wp2_with fail
        go_quiet (fail)
        go_wp2
        go_ret
        exact ⟨by rw [HE.out]; rfl, drewN3 ..⟩

end Go.Proofs.YtggdhgppclnckaaGreatDoor.Q

namespace Go.Proofs.YtggdhgppclnckaaGreatDoor.Q
open Go.RowKit
set_option maxRecDepth 20000

theorem wrap_len (b k : Int) (h0 : 0 ≤ b) (h1 : b ≤ 255) (k0 : 0 ≤ k) (k1 : k ≤ 64) : wrap64 (k + wrap64 (Lib.len8 b)) = k + (Lib.bitLen b.toNat : Int) := by
  have l := Lib.bitLen_le8' b h0 h1
  rw [Lib.len8_of b h0 h1]
  unfold wrap64
  omega
theorem wrap_len0 (b : Int) (h0 : 0 ≤ b) (h1 : b ≤ 255) : wrap64 (wrap64 (Lib.len8 b)) = (Lib.bitLen b.toNat : Int) := by
  have l := Lib.bitLen_le8' b h0 h1
  rw [Lib.len8_of b h0 h1]
  unfold wrap64
  omega

set_option maxHeartbeats 1000000 in
theorem len32_any (x : Int) (w : World) (h0 : 0 ≤ x) (h1 : x < 4294967296) :
    Calls Tryz.prog 287 #[.int .u32 x] w fun e w' => e = .returned (.int .i64 (Lib.bitLen x.toNat)) ∧ w = w' := by
  by_cases a : 65536 ≤ x
  · by_cases b : 256 ≤ x / 65536
    · have c0 : 0 ≤ x / 65536 / 256 := by omega
      have c1 : x / 65536 / 256 ≤ 255 := by omega
      have HL := Lib.hid (wrap_len _ 24 c0 c1 (by decide) (by decide))
      go_enter Tryz.func287, Tryz.ntmps287
      go_wp2
      go_ret
      refine ⟨congrArg Ending.returned (congrArg (Value.int IntKind.i64) (HL.out.trans ?_)), rfl⟩
      have s := Lib.bitLen_shift24 x.toNat (by omega) (by omega)
      have e : (x / 65536 / 256).toNat = x.toNat / 16777216 := by omega
      rw [e]
      omega
    · have c0 : 0 ≤ x / 65536 := by omega
      have c1 : x / 65536 ≤ 255 := by omega
      have HL := Lib.hid (wrap_len _ 16 c0 c1 (by decide) (by decide))
      go_enter Tryz.func287, Tryz.ntmps287
      go_wp2
      go_ret
      refine ⟨congrArg Ending.returned (congrArg (Value.int IntKind.i64) (HL.out.trans ?_)), rfl⟩
      have s := Lib.bitLen_shift16 x.toNat (by omega) (by omega)
      have e : (x / 65536).toNat = x.toNat / 65536 := by omega
      rw [e]
      omega
  · by_cases b : 256 ≤ x
    · have c0 : 0 ≤ x / 256 := by omega
      have c1 : x / 256 ≤ 255 := by omega
      have HL := Lib.hid (wrap_len _ 8 c0 c1 (by decide) (by decide))
      go_enter Tryz.func287, Tryz.ntmps287
      go_wp2
      go_ret
      refine ⟨congrArg Ending.returned (congrArg (Value.int IntKind.i64) (HL.out.trans ?_)), rfl⟩
      have s := Lib.bitLen_shift8 x.toNat (by omega) (by omega)
      have e : (x / 256).toNat = x.toNat / 256 := by omega
      rw [e]
      omega
    · have HL := Lib.hid (wrap_len0 x h0 (by omega))
      have c1 : x ≤ 255 := by omega
      go_enter Tryz.func287, Tryz.ntmps287
      go_wp2
      go_ret
      exact ⟨congrArg Ending.returned (congrArg (Value.int IntKind.i64) HL.out), rfl⟩

theorem leading_any (x : Int) (w : World) (h0 : 0 ≤ x) (h1 : x < 4294967296) :
    Calls Tryz.prog 279 #[.int .u32 x] w fun e w' => e = .returned (.int .i64 (32 - (Lib.bitLen x.toNat : Int))) ∧ w = w' := by
  have l : Lib.bitLen x.toNat ≤ 32 := Lib.bitLen_le x.toNat 32 (by decide) (by omega)
  go_enter Tryz.func279, Tryz.ntmps279
  go_wp2_with (go_at_call 287; refine (len32_any _ _ h0 h1).mono ?_; rintro e w' ⟨rfl, rfl⟩)
  go_ret
  exact ⟨rfl, rfl⟩

end Go.Proofs.YtggdhgppclnckaaGreatDoor.Q
namespace Go.Proofs.YtggdhgppclnckaaGreatDoor.Q
open Go.RowKit
set_option maxRecDepth 20000

theorem clone_any (ad : Addr) (n c : Nat) (L : List Int) (w : World) (hr : Rd w (some ad) n c L) (h0 : 0 < n) (hn : n ≤ 1000000) :
    Calls Tryz.prog 274 #[.slice (some ad) n c] w fun e w' => ∃ A' c', e = .returned (.slice A' n c') ∧ Mine w' w.heap.size A' n c' L ∧ Below w.heap.size w w' := by
  obtain ⟨i0, hi, hz0, hz1, hz2⟩ := info_parts info_limb
  obtain ⟨ad', e, hb, hc⟩ := (hr.alloc (.cells #[] 146)).at_ h0
  obtain rfl : ad = ad' := by injection e
  have HL := Lib.hid hr.len
  have hnil := fun (w : World) (n c : Nat) => Lib.run_eql_slice_nil (P := Tryz.prog) w 48 146 (some ad) n c 0 0 Tryz.underlying48
  have HC := Lib.hid hc
  clear e hc
  go_enter Tryz.func274, Tryz.ntmps274
  go_wp2_with (at_builtin; refine wpList_append_own _ rfl _ _ 48 rfl w.heap.size 146 i0 (.int .u32 0) 1 4 Tryz.underlying48 hi hz0 hz1 hz2 rfl (by decide) (.slice (some ⟨w.heap.size, 0, none⟩) 0 0) 0 [] rfl (World.ownsRow_made w #[] 0 (Nat.le_refl _) (Nat.zero_le _) rfl) ad n c (cells L) rfl ?c1 ?c2 ?c3 ?c4 ?c5 ?c6 ?_)
  case c1 => rw [cells_length]; have := HL.out; omega
  case c2 => exact cells_at HL.out HC.out
  case c3 => exact oneCell_cells _
  case c4 => unfold maxLen; omega
  case c5 => omega
  case c6 => simp
  intro v' w1 hown hgrow _
  go_wp2
  go_ret
  obtain ⟨A1, c1, hv, hm⟩ := Mine.of_row (L := L) (by simpa using hown) hr.lims
  exact ⟨A1, c1, congrArg Ending.returned hv, hm, ((Below.refl _ _).alloc (Nat.le_refl _) _).grown hgrow (by simp) (by intro k hk; cases hk; exact Nat.le_refl _)⟩

set_option maxHeartbeats 400000 in
theorem divideByLimb_any (A : Option Addr) (n c base : Nat) (L : List Int) (w : World) (d : Int) (hm : Mine w base A n c L) (d0 : 1 ≤ d) (d1 : d < 4294967296) :
    Calls Tryz.prog 275 #[.slice A n c, .int .u32 d] w fun e w' => ∃ S r, e = .returned (.int .u32 r) ∧ Mine w' base A n c S ∧ val L = d * val S + r ∧ (0 ≤ r ∧ r < d) ∧ Only A w w' := by
  have hl := hm.len
  have hcap := hm.rd.cap
  have htop := hm.rd.top
  unfold maxLen at htop
  have HL := Lib.hid hl
  clear hl
  go_enter Tryz.func275, Tryz.ntmps275
  go_wp2
  go_loopw [5, 6] (fun rv iv wr => ∃ (k : Nat) (r : Int) (S : List Int), k ≤ n ∧ iv = .int .i64 ((k : Int) - 1) ∧ rv = .int .u32 r ∧ (0 ≤ r ∧ r < d) ∧ Mine wr base A n c S ∧ Hid (S.take k = L.take k) ∧
      Hid (val (L.drop k) = d * val (S.drop k) + r) ∧ Only A w wr) (fun _ iv _ => (intOf iv + 1).toNat)
  case atStart => exact ⟨n, 0, L, Nat.le_refl _, rfl, rfl, by omega, hm, rfl, by show _ = _; rw [List.drop_eq_nil_of_le (by have := HL.out; omega)]; simp [val], Only.refl _ _⟩
  case round =>
    obtain ⟨k, r, S, hk, rfl, rfl, ⟨r0, r1⟩, hS, hT, hV, hO⟩ := hrel
    by_cases h0 : k = 0
    · subst h0
      go_wp2
      go_ret
      exact ⟨S, r, rfl, hS, by simpa using hV.out, ⟨r0, r1⟩, hO⟩
    · obtain ⟨j, rfl⟩ : ∃ j, k = j + 1 := ⟨k - 1, by omega⟩
      obtain ⟨g, rfl, hg, hg'⟩ := hS.form (by omega)
      have uL := hm.lims.getD j
      obtain ⟨l, hl⟩ : ∃ l, L.getD j 0 = l := ⟨_, rfl⟩
      have cS := hS.cellAt (i := j) (by omega)
      have fS := hS.frozenAt j
      rw [getD_of_take hT.out (Nat.lt_succ_self j), hl] at cS
      rw [hl] at uL
      have ST := Lib.hid (div_step (S := S) (L := L) (j := j) (d := d) (r := r) (by rw [hS.len]; omega) (by have := HL.out; omega) hl hV.out)
      have hT2 : Hid ((S.set j ((r * 4294967296 + l) / d)).take j = L.take j) := by
        show _ = _
        rw [take_set_of]; exact take_less hT.out (Nat.le_succ j)
      have q0 : 0 ≤ (r * 4294967296 + l) / d ∧ (r * 4294967296 + l) / d < 4294967296 := by
        refine ⟨Int.ediv_nonneg (by omega) (by omega), Int.ediv_lt_of_lt_mul (by omega) ?_⟩
        have : r * 4294967296 + 4294967296 ≤ d * 4294967296 := by omega
        rw [Int.mul_comm 4294967296 d]; omega
      have m0 := Int.emod_nonneg (r * 4294967296 + l) (show d ≠ 0 by omega)
      have m1 := Int.emod_lt_of_pos (r * 4294967296 + l) (show 0 < d by omega)
      have HA := Lib.hid (div32_any r l d)
      clear hl h0
      go_wp2_with (go_at_call 281; refine (HA.out _ ⟨r0, r1⟩ uL d1).mono ?_; rintro e w' ⟨rfl, kk, rfl⟩)
      go_roundw
      case rel => exact ⟨j, _, _, by omega, by go_num, rfl, ⟨m0, m1⟩, (hS.drewN _).stored j q0.1 q0.2, hT2, ST.out, (hO.drewN _).set j _⟩
      case measure => simp [intOf] <;> omega

end Go.Proofs.YtggdhgppclnckaaGreatDoor.Q

namespace Go.Proofs.YtggdhgppclnckaaGreatDoor.Q
open Go.RowKit
set_option maxRecDepth 20000

/-- Two slices of the call's own with the limbs of q and r come back, and no error. -/
def Gives2 (w : World) (q r : Int) (e : Ending) (w' : World) : Prop :=
  ∃ A n c Q B m d R, e = .returned (.tuple #[.slice A n c, .slice B m d, .int .i64 0]) ∧ Mine w' w.heap.size A n c Q ∧ Is Q q ∧ Mine w' w.heap.size B m d R ∧ Is R r ∧ Below w.heap.size w w'

theorem divMod_less (A B : Option Addr) (n c m d : Nat) (L M : List Int) (w : World) (hr : Rd w A n c L) (hs : Rd w B m d M) (hn : n ≤ 1000000) (hlt : (trim L).length < (trim M).length) :
    Calls Tryz.prog 265 #[.slice A n c, .slice B m d] w (Gives2 w (val L / val M) (val L % val M)) := by
  have hI := Is.mk_trim hr.lims
  have hJ := Is.mk_trim hs.lims
  have hv := hI.lt_of_length hJ hlt
  have v0 := val_nonneg hr.lims
  have hq : Hid (0 = val L / val M) := (Int.ediv_eq_zero_of_lt v0 hv).symm
  have hm : Hid (val L = val L % val M) := (Int.emod_eq_of_lt v0 hv).symm
  have y1 := trim_length_le L
  rw [hr.len] at y1
  clear hI hJ hv v0
  go_enter Tryz.func265, Tryz.ntmps265
  go_wp2_with fail
  refine (strip_any A n c L w hr).mono ?_
  rintro e w' ⟨A', n', c', rfl, hS, rfl⟩
  have hr' := hS.rd hr
  have l1 := hr'.len
  clear hS
  go_wp2_with fail
  refine (strip_any B m d M w hs).mono ?_
  rintro e w' ⟨B', m', d', rfl, hS, rfl⟩
  have hs' := hS.rd hs
  have l2 := hs'.len
  have t2 := hs'.top
  have c2 := hs'.cap
  unfold maxLen at t2
  have h1 : n' < m' := by omega
  have h2 : n' ≤ 1000000 := by omega
  clear hS l1 l2 hlt y1
  have hz : ((m' : Int) == 0) = false := by simp; omega
  go_wp2_with fail
  refine (trim_any A' n' c' (trim L) w hr' h2).mono ?_
  rintro e w1 ⟨A1, n1, c1, L1, rfl, hM1, hI1, hB1⟩
  rw [val_trim, hm.out] at hI1
  have HI := Lib.hid hI1
  clear hI1
  go_wp2
  go_ret3
  exact ⟨none, 0, 0, [], A1, n1, c1, L1, rfl, Mine.nil _ _, hq.out ▸ Is.zero, hM1, HI.out, hB1⟩

set_option maxHeartbeats 400000 in
theorem divMod_one (A B : Option Addr) (n c m d : Nat) (L M : List Int) (w : World) (hr : Rd w A n c L) (hs : Rd w B m d M) (hn : n ≤ 1000000) (h0 : 0 < (trim L).length) (h1 : (trim M).length = 1) :
    Calls Tryz.prog 265 #[.slice A n c, .slice B m d] w (Gives2 w (val L / val M) (val L % val M)) := by
  have hI := Is.mk_trim hr.lims
  have hJ := Is.mk_trim hs.lims
  have y1 := trim_length_le L
  rw [hr.len] at y1
  have hdv : val M = (trim M).getD 0 0 := by
    rw [← val_trim]
    match trim M, h1 with
    | [x], _ => simp [val]
  have hdp : (trim M).getD 0 0 ≠ 0 := last_ne hJ.nrm 0 (by omega)
  have hdr := hJ.lims.getD 0
  obtain ⟨dv, hd⟩ : ∃ dv, (trim M).getD 0 0 = dv := ⟨_, rfl⟩
  rw [hd] at hdv hdp hdr
  go_enter Tryz.func265, Tryz.ntmps265
  go_wp2_with fail
  refine (strip_any A n c L w hr).mono ?_
  rintro e w' ⟨A', n', c', rfl, hS, rfl⟩
  have hr' := hS.rd hr
  have l1 := hr'.len
  clear hS
  go_wp2_with fail
  refine (strip_any B m d M w hs).mono ?_
  rintro e w' ⟨B', m', d', rfl, hS, rfl⟩
  have hs' := hS.rd hs
  have l2 := hs'.len
  obtain rfl : m' = 1 := by omega
  have hn0 : 0 < n' := by omega
  have hn1 : n' ≤ 1000000 := by omega
  have HV := Lib.hid hdv
  obtain ⟨ad, rfl, _, _⟩ := hr'.at_ hn0
  obtain ⟨ad', rfl, hb', hc'⟩ := hs'.at_ (by omega)
  have cM := hc' 0 (by omega)
  have ea : ad'.add 0 = ad' := by simp [Addr.add]
  rw [hd, ea] at cM
  clear ea hS hc' hd hdv h1 l1 l2 h0 y1 hI hJ hs
  go_wp2_with fail
  refine (clone_any ad n' c' (trim L) w hr' hn0 hn1).mono ?_
  rintro e w1 ⟨A1, c1, rfl, hM1, hB1⟩
  have cM1 := (hB1.cell (p := ad') hb').trans cM
  go_wp2_with fail
  refine (divideByLimb_any A1 n' c1 w.heap.size (trim L) w1 dv hM1 (by omega) hdr.2).mono ?_
  rintro e w2 ⟨S, r, rfl, hM2, hV2, hr2, hO2⟩
  have hB2 : Below w.heap.size w w2 := hB1.trans (hO2.below fun a ha => (hM1.lt a ha).1)
  have hq : Hid (val S = val L / val M) := by
    show _ = _
    rw [val_trim] at hV2
    rw [HV.out, hV2, Int.mul_comm, Int.add_comm, Int.add_mul_ediv_right _ _ hdp, Int.ediv_eq_zero_of_lt hr2.1 hr2.2]
    omega
  have hrm : Hid (r = val L % val M) := by
    show _ = _
    rw [val_trim] at hV2
    rw [HV.out, hV2, Int.mul_comm, Int.add_comm, Int.add_mul_emod_self_right, Int.emod_eq_of_lt hr2.1 hr2.2]
  clear hV2
  go_wp2_with fail
  refine (strip_any _ _ _ _ _ hM2.rd).mono ?_
  rintro e w' ⟨A3, n3, c3, rfl, hS3, rfl⟩
  have hM3 := hS3.mine hM2
  clear hS3
  go_wp2_with fail
  refine (fromWord_any _ _ (by omega) (by omega)).mono ?_
  rintro e w4 ⟨A4, n4, c4, L4, rfl, hM4, hI4, hB4⟩
  have hq2 : Hid (Is (trim S) (val L / val M)) := hq.out ▸ Is.mk_trim hM2.lims
  have hr4 : Hid (Is L4 (val L % val M)) := hrm.out ▸ hI4
  clear hI4
  go_wp2
  go_ret3
  exact ⟨A3, n3, c3, _, A4, n4, c4, L4, rfl, hM3.below hB4, hq2.out, hM4.more hB2.size, hr4.out, hB2.trans (hB4.mono hB2.size)⟩

end Go.Proofs.YtggdhgppclnckaaGreatDoor.Q

namespace Go.Proofs.YtggdhgppclnckaaGreatDoor.Q
open Go.RowKit
set_option maxRecDepth 20000

/-- Rows of different element types lie in different blocks. -/
theorem rows_apart {w : World} {base base' : Nat} {e e' : TypeId} {s s' : Nat} {v v' : Value} {n n' : Nat} {xs xs' : List Value} (h : w.ownsRow base e s v n xs) (h' : w.ownsRow base' e' s' v' n' xs') (hne : e ≠ e') :
    v.ownBlock = none ∨ v.ownBlock ≠ v'.ownBlock := by
  rcases h.2 with ⟨rfl, _⟩ | ⟨g, c, cur, rfl, _, hg, _⟩
  · exact .inl rfl
  · refine .inr fun hh => ?_
    rcases h'.2 with ⟨rfl, _⟩ | ⟨g', c', cur', rfl, _, hg', _⟩
    · cases hh
    · obtain rfl : g = g' := Option.some.inj hh
      rw [hg] at hg'
      injection hg' with hg'
      injection hg' with _ hg'
      exact hne hg'
theorem Mine.grown {w w' : World} {base : Nat} {A : Option Addr} {n c : Nat} {L : List Int} {base' e' s' n' : Nat} {v' : Value} {xs' : List Value} (h : Mine w base A n c L) (h' : w.ownsRow base' e' s' v' n' xs') (hne : 146 ≠ e') (hg : w.grownBy w' v'.ownBlock) : Mine w' base A n c L :=
  ⟨h.row.kept hg (rows_apart h.row h' hne), h.lims⟩
theorem grown_below {w0 w w' : World} {B base e s n : Nat} {v : Value} {xs : List Value} (h : Below B w0 w) (hr : w.ownsRow base e s v n xs) (hg : w.grownBy w' v.ownBlock) (hB : B ≤ w.heap.size) (hb : B ≤ base) : Below B w0 w' :=
  h.grown hg hB fun k hk => Nat.le_trans hb (hr.lt k hk).1

theorem one_new (w : World) (x : Value) (t : TypeId) : ∀ j u, [x][j]? = some u → (w.alloc (.cells #[x] t)).cell? ((⟨w.heap.size, 0, none⟩ : Addr).add j) = some u := by
  intro j u hj
  match j, hj with
  | 0, hj =>
    injection hj with hj
    subst hj
    have e : (⟨w.heap.size, 0, none⟩ : Addr).add 0 = ⟨w.heap.size, 0, none⟩ := by simp [Addr.add]
    rw [e, World.cell?_alloc_mark]; rfl

theorem one_cell (x : Value) (h : x.oneCell' = true) : ∀ u ∈ [x], u.oneCell' = true := by
  intro u hu
  rw [List.mem_singleton] at hu
  rw [hu]; exact h
end Go.Proofs.YtggdhgppclnckaaGreatDoor.Q

namespace Go.Proofs.YtggdhgppclnckaaGreatDoor.Q
open Go.RowKit
set_option maxRecDepth 20000

/-- Z is T with the first i and the last i bytes exchanged. -/
def Half (T Z : List UInt8) (i : Nat) : Prop := Z.length = T.length ∧ ∀ t, t < T.length → Z[t]? = if t < i ∨ T.length < t + i + 1 then T[T.length - 1 - t]? else T[t]?
theorem Half.start (T : List UInt8) : Half T T 0 := ⟨rfl, fun t ht => by rw [if_neg (by omega)]⟩
theorem Half.done {T Z : List UInt8} {i : Nat} (h : Half T Z i) (hi : T.length ≤ 2 * i + 1) : Z = T.reverse := by
  apply List.ext_getElem?
  intro t
  by_cases ht : t < T.length
  · rw [h.2 t ht, List.getElem?_reverse ht]
    split
    · rfl
    · next hc =>
      have : T.length - 1 - t = t := by omega
      rw [this]
  · rw [List.getElem?_eq_none (by rw [h.1]; omega), List.getElem?_eq_none (by rw [List.length_reverse]; omega)]
theorem Half.step {T Z : List UInt8} {i j : Nat} (h : Half T Z i) (hij : i < j) (hj : j + i + 1 = T.length) (hi' : i < Z.length) (hj' : j < Z.length) : Half T ((Z.set i Z[j]).set j Z[i]) (i + 1) := by
  refine ⟨by simp [h.1], fun t ht => ?_⟩
  have ei : Z[i]? = T[i]? := by rw [h.2 i (by omega), if_neg (by omega)]
  have ej : Z[j]? = T[j]? := by rw [h.2 j (by omega), if_neg (by omega)]
  rw [List.getElem?_eq_getElem hi'] at ei
  rw [List.getElem?_eq_getElem hj'] at ej
  by_cases h1 : t = j
  · subst h1
    have e : T.length - 1 - t = i := by omega
    rw [List.getElem?_set_self (by simpa using hj'), if_pos (by omega), e, ei]
  · rw [List.getElem?_set_ne (by omega)]
    by_cases h2 : t = i
    · subst h2
      have e : T.length - 1 - t = j := by omega
      rw [List.getElem?_set_self hi', if_pos (by omega), e, ej]
    · rw [List.getElem?_set_ne (by omega), h.2 t ht]
      by_cases h3 : t < i ∨ T.length < t + i + 1
      · rw [if_pos h3, if_pos (by omega)]
      · rw [if_neg h3, if_neg (by omega)]

end Go.Proofs.YtggdhgppclnckaaGreatDoor.Q
namespace Go.Proofs.YtggdhgppclnckaaGreatDoor.Q
open Go.RowKit
set_option maxRecDepth 20000

end Go.Proofs.YtggdhgppclnckaaGreatDoor.Q

namespace Go.Proofs.YtggdhgppclnckaaGreatDoor.Q
open Go.RowKit
set_option maxRecDepth 20000

end Go.Proofs.YtggdhgppclnckaaGreatDoor.Q

namespace Go.Proofs.YtggdhgppclnckaaGreatDoor.Q
open Go.RowKit
set_option maxRecDepth 20000

end Go.Proofs.YtggdhgppclnckaaGreatDoor.Q

namespace Go.Proofs.YtggdhgppclnckaaGreatDoor.Q
open Go.RowKit
set_option maxRecDepth 20000

end Go.Proofs.YtggdhgppclnckaaGreatDoor.Q

namespace Go.Proofs.YtggdhgppclnckaaGreatDoor.Q
open Go.RowKit
set_option maxRecDepth 20000

/-- The slice stands for x. -/
def Num (w : World) (A : Option Addr) (n c : Nat) (x : Int) : Prop := ∃ L, Rd w A n c L ∧ val L = x
/-- The slice stands for x, without zeros at its end. -/
def Nrm (w : World) (A : Option Addr) (n c : Nat) (x : Int) : Prop := ∃ L, Rd w A n c L ∧ Is L x
section
variable {w w' : World} {A B : Option Addr} {n c m d : Nat} {x y : Int}
theorem Nrm.num (h : Nrm w A n c x) : Num w A n c x := by obtain ⟨L, h1, h2⟩ := h; exact ⟨L, h1, h2.eq⟩
theorem Num.below (h : Num w A n c x) (hb : Below w.heap.size w w') : Num w' A n c x := by obtain ⟨L, h1, h2⟩ := h; exact ⟨L, h1.below hb, h2⟩
theorem Nrm.below (h : Nrm w A n c x) (hb : Below w.heap.size w w') : Nrm w' A n c x := by obtain ⟨L, h1, h2⟩ := h; exact ⟨L, h1.below hb, h2⟩
theorem Num.drewN (h : Num w A n c x) (k : Nat) : Num (w.drewN k) A n c x := by obtain ⟨L, h1, h2⟩ := h; exact ⟨L, h1.drewN k, h2⟩
theorem Nrm.drewN (h : Nrm w A n c x) (k : Nat) : Nrm (w.drewN k) A n c x := by obtain ⟨L, h1, h2⟩ := h; exact ⟨L, h1.drewN k, h2⟩
theorem Num.nonneg (h : Num w A n c x) : 0 ≤ x := by obtain ⟨L, h1, rfl⟩ := h; exact val_nonneg h1.lims
theorem Num.lt (h : Num w A n c x) : x < pw n := by obtain ⟨L, h1, rfl⟩ := h; have := val_lt h1.lims; rwa [h1.len] at this
theorem Nrm.short (h : Nrm w A n c x) {k : Nat} (hx : x < pw k) : n ≤ k := by
  obtain ⟨L, h1, h2⟩ := h
  rcases Nat.lt_or_ge k n with h3 | h3
  · exfalso
    have hl := h1.len
    obtain ⟨j, hj⟩ : ∃ j, L.length = j + 1 := ⟨L.length - 1, by omega⟩
    have h4 := h2.ge hj
    have h5 := pw_mono (m := k) (n := j) (by omega)
    omega
  · exact h3
theorem Nrm.of_mine {base : Nat} {L : List Int} (h : Mine w base A n c L) (hI : Is L x) : Nrm w A n c x := ⟨L, h.rd, hI⟩
theorem Nrm.cast (h : Nrm w A n c x) (e : x = y) : Nrm w A n c y := by subst e; exact h
end
theorem pw_up {x : Int} {i j : Nat} (h : x < pw i) (hij : i ≤ j) : x < pw j := Int.lt_of_lt_of_le h (pw_mono hij)
/-- A slice that stands for x, in normal form, comes back; what was there before is as it was. -/
def GivesN (w : World) (x : Int) (e : Ending) (w' : World) : Prop := ∃ A n c, e = .returned (.slice A n c) ∧ Nrm w' A n c x ∧ Below w.heap.size w w'
def GivesNOk (w : World) (x : Int) (e : Ending) (w' : World) : Prop := ∃ A n c, e = .returned (.tuple #[.slice A n c, .int .i64 0]) ∧ Nrm w' A n c x ∧ Below w.heap.size w w'
theorem Gives.n {w : World} {x : Int} {e : Ending} {w' : World} (h : Gives w x e w') : GivesN w x e w' := by
  obtain ⟨A, n, c, L, h1, h2, h3, h4⟩ := h
  exact ⟨A, n, c, h1, Nrm.of_mine h2 h3, h4⟩
theorem GivesOk.n {w : World} {x : Int} {e : Ending} {w' : World} (h : GivesOk w x e w') : GivesNOk w x e w' := by
  obtain ⟨A, n, c, L, h1, h2, h3, h4⟩ := h
  exact ⟨A, n, c, h1, Nrm.of_mine h2 h3, h4⟩
section
variable {w : World} {A B : Option Addr} {n c m d : Nat} {x y : Int}
end

end Go.Proofs.YtggdhgppclnckaaGreatDoor.Q
namespace Go.Proofs.YtggdhgppclnckaaGreatDoor.Q
open Go.RowKit
set_option maxRecDepth 20000

def Appended (w : World) (base : Nat) (x : Int) (e : Ending) (w' : World) : Prop :=
  ∃ A n c L, e = .returned (.slice A n c) ∧ Mine w' base A n c L ∧ Is L x ∧ Below base w w'

set_option maxHeartbeats 1000000 in
theorem appendDigit_any (A : Option Addr) (n c base : Nat) (L : List Int) (w : World) (d : Int) (hm : Mine w base A n c L) (hI : trim L = L) (hb : base ≤ w.heap.size) (hn : n ≤ 1000000) (d0 : 0 ≤ d) (d1 : d ≤ 9) :
    Calls Tryz.prog 231 #[.slice A n c, .int .u8 d] w (Appended w base (10 * val L + d)) := by
  obtain ⟨i0, hi, hz0, hz1, hz2⟩ := info_parts info_limb
  have HL := Lib.hid hm.len
  have HI := Lib.hid hI
  have hcap := hm.rd.cap
  clear hI
  go_enter Tryz.func231, Tryz.ntmps231
  go_wp2
  go_loopw [5, 12] (fun cv iv wr => ∃ (k : Nat) (cr : Int) (S : List Int), k ≤ n ∧ iv = .int .i64 k ∧ cv = .int .u32 cr ∧ (0 ≤ cr ∧ cr < 4294967296) ∧ Mine wr base A n c S ∧ Hid (S.drop k = L.drop k) ∧
      Hid (val (S.take k) + pw k * cr = 10 * val (L.take k) + d) ∧ Only A w wr) (fun _ iv _ => n - (intOf iv).toNat)
  case atStart => exact ⟨0, d, L, Nat.zero_le _, rfl, rfl, by omega, hm, rfl, by show _ = _; simp [val, pw], Only.refl _ _⟩
  case round =>
    obtain ⟨k, cr, S, hk, rfl, rfl, ⟨c0, c1⟩, hS, hD, hV, hO⟩ := hrel
    by_cases hkn : k < n
    · obtain ⟨g, rfl, hg, _⟩ := hS.form (by omega)
      have uL := hm.lims.getD k
      obtain ⟨t, ht⟩ : ∃ t, L.getD k 0 = t := ⟨_, rfl⟩
      have cS := hS.cellAt hkn
      rw [getD_of_drop hD.out, ht] at cS
      rw [ht] at uL
      have fS := hS.frozenAt k
      have ST := Lib.hid (scale_step (S := S) (k := k) (cr := cr) (by rw [hS.len]; exact hkn) ht hV.out)
      have hD2 : Hid ((S.set k ((t * 10 + 0 + cr) % 4294967296)).drop (k + 1) = L.drop (k + 1)) := by
        show _ = _
        rw [drop_set]; exact drop_succ hD.out
      have HA := Lib.hid (multiplyAdd_any t 10 0 cr)
      have s0 : 0 ≤ (t * 10 + 0 + cr) % 4294967296 ∧ (t * 10 + 0 + cr) % 4294967296 < 4294967296 := by omega
      have s1 : 0 ≤ (t * 10 + 0 + cr) / 4294967296 ∧ (t * 10 + 0 + cr) / 4294967296 < 4294967296 := by omega
      clear ht
      simp only [Int.add_zero] at ST hD2 s0 s1
      go_wp2_with (go_at_call 242; refine (HA.out _ uL (by omega) (by omega) ⟨c0, c1⟩).mono ?_; rintro e w' ⟨rfl, rfl⟩)
      go_roundw
      case rel => exact ⟨k + 1, _, _, by omega, by go_num, rfl, s1, hS.stored k s0.1 s0.2, hD2, ST.out, hO.set k _⟩
      case measure => simp [intOf] <;> omega
    · obtain rfl : k = n := by omega
      have hE := scale_end hS.lims hS.len HL.out HI.out hm.lims d0 c0 hV.out
      have hB : Below base w wr := hO.below fun a ha => (hm.lt a ha).1
      by_cases hc : cr = 0
      · have hI2 := Lib.hid (hE.1 hc)
        subst hc
        clear hE hkn
        go_wp2
        go_ret
        exact ⟨_, _, _, _, rfl, hS, hI2.out, hB⟩
      · have hI2 := Lib.hid (hE.2 (by omega) c1)
        have hne : (cr != 0) = true := by simpa using hc
        have hsz := hO.size
        have hrow := hS.row.alloc (.cells #[.int .u32 cr] 146)
        have HB1 : Hid (k + 1 ≤ maxLen) := by show _ ≤ _; unfold maxLen; omega
        have HB2 : Hid ((k + 1) * 4 ≤ 140737488355328) := by show _ ≤ _; omega
        have HB3 : Hid (base ≤ (wr.alloc (.cells #[.int .u32 cr] 146)).heap.size) := by show _ ≤ _; simp; omega
        have HN : Hid (∀ j u, [Value.int .u32 cr][j]? = some u → (wr.alloc (.cells #[.int .u32 cr] 146)).cell? ((⟨wr.heap.size, 0, none⟩ : Addr).add j) = some u) := one_new _ _ _
        clear hE hc hkn hsz
        go_wp2_with (at_builtin; refine wpList_append_own _ rfl _ _ 48 rfl base 146 i0 (.int .u32 0) 1 4 Tryz.underlying48 hi hz0 hz1 hz2 rfl (by decide) _ _ _ rfl hrow ⟨wr.heap.size, 0, none⟩ 1 1 [.int .u32 cr] rfl rfl HN.out (one_cell _ rfl) HB1.out HB2.out HB3.out ?_)
        intro v' w3 hown hgrow _
        have hcat : cells S ++ [Value.int .u32 cr] = cells (S ++ [cr]) := by unfold cells; rw [List.map_append]; rfl
        rw [hcat] at hown
        obtain ⟨A1, c1', hv, hm1⟩ := Mine.of_row hown hI2.out.lims
        have hB3 := grown_below (hB.alloc (by have := HB3.out; have := hO.size; omega) (.cells #[.int .u32 cr] 146)) hrow hgrow HB3.out (Nat.le_refl _)
        go_wp2
        go_ret
        exact ⟨A1, _, c1', _, congrArg Ending.returned hv, hm1, hI2.out, hB3⟩

/-- The number that decimal digits stand for. -/
def dv (l : List UInt8) : Int := l.foldl (fun v b => 10 * v + ((b.toNat : Int) - 48)) 0
theorem dv_snoc (l : List UInt8) (b : UInt8) : dv (l ++ [b]) = 10 * dv l + ((b.toNat : Int) - 48) := by unfold dv; rw [List.foldl_append]; rfl
/-- Each byte is a decimal digit. -/
def Digs (s : ByteArray) : Prop := ∀ i (h : i < s.size), 48 ≤ (s[i].toNat : Int) ∧ (s[i].toNat : Int) ≤ 57
theorem take_byte (s : ByteArray) (k : Nat) (h : k < s.size) : s.data.toList.take (k + 1) = s.data.toList.take k ++ [s[k]] := by
  rw [List.take_succ_eq_append_getElem (by simpa using h)]; rfl

theorem not_empty (s : ByteArray) (h : 0 < s.size) : s.toList.isEmpty = false := by
  rw [Lib.toList_data]
  have h1 : s.data.toList.length = s.size := by simp
  cases hl : s.data.toList with
  | nil => rw [hl] at h1; simp at h1; omega
  | cons a l => rfl
theorem is_len {L : List Int} {x : Int} (h : Is L x) {k : Nat} (hx : x < pw k) : L.length ≤ k := by
  rcases Nat.lt_or_ge k L.length with h3 | h3
  · exfalso
    obtain ⟨j, hj⟩ : ∃ j, L.length = j + 1 := ⟨L.length - 1, by omega⟩
    have h4 := h.ge hj
    have h5 := pw_mono (m := k) (n := j) (by omega)
    omega
  · exact h3
theorem dv_lt (s : ByteArray) (hd : Digs s) (k : Nat) (hk : k ≤ s.size) : 0 ≤ dv (s.data.toList.take k) ∧ dv (s.data.toList.take k) < pw k := by
  induction k with
  | zero => rw [List.take_zero]; exact ⟨by decide, by decide⟩
  | succ k ih =>
    obtain ⟨h1, h2⟩ := ih (by omega)
    obtain ⟨b0, b1⟩ := hd k (by omega)
    rw [take_byte s k (by omega), dv_snoc, pw_succ]
    omega

set_option maxHeartbeats 1000000 in
theorem parse_ok (s : ByteArray) (w : World) (hd : Digs s) (h0 : 0 < s.size) (h1 : s.size ≤ 60) :
    Calls Tryz.prog 224 #[.string s] w (GivesNOk w (dv s.data.toList)) := by
  have hne := not_empty s h0
  go_enter Tryz.func224, Tryz.ntmps224
  go_wp2
  go_loop [11] (fun i => ∃ k : Nat, k ≤ s.size ∧ i = .int .i64 k) (fun i => s.size - (intOf i).toNat)
  case atStart => exact ⟨0, Nat.zero_le _, rfl⟩
  case round =>
    obtain ⟨k, hk, rfl⟩ := hrel
    by_cases hlt : k < s.size
    · obtain ⟨b0, b1⟩ := hd k hlt
      go_wp2
      go_round
      case rel => exact ⟨k + 1, by omega, by go_num⟩
      case measure => simp [intOf] <;> omega
    · obtain rfl : k = s.size := by omega
      clear hlt hk
      go_wp2
      go_loopw [5, 30] (fun nv iv wr => ∃ (k : Nat) (A : Option Addr) (n c : Nat) (L : List Int), k ≤ s.size ∧ iv = .int .i64 k ∧ nv = .slice A n c ∧ Mine wr w.heap.size A n c L ∧ Is L (dv (s.data.toList.take k)) ∧ Below w.heap.size w wr)
        (fun _ iv _ => s.size - (intOf iv).toNat)
      case atStart => exact ⟨0, none, 0, 0, [], Nat.zero_le _, rfl, rfl, Mine.nil w _, Is.zero, Below.refl _ _⟩
      case round =>
        obtain ⟨k, A, n, c, L, hk, rfl, rfl, hM, hI, hB⟩ := hrel
        by_cases hlt : k < s.size
        · obtain ⟨b0, b1⟩ := hd k hlt
          have hn : n ≤ 1000000 := by have h2 := is_len hI (dv_lt s hd k hk).2; have h3 := hM.len; omega
          have happ := appendDigit_any A n c w.heap.size L wr ((s[k].toNat : Int) - 48) hM hI.nrm hB.size hn (by omega) (by omega)
          have he : 10 * val L + ((s[k].toNat : Int) - 48) = dv (s.data.toList.take (k + 1)) := by rw [take_byte s k hlt, dv_snoc, hI.eq]
          rw [he] at happ
          have HA := Lib.hid happ
          clear happ he hI
          go_wp2_with fail
          refine HA.out.mono ?_
          rintro e w1 ⟨A1, n1, c1, L1, rfl, hM1, hI1, hB1⟩
          go_wp2
          go_roundw
          case rel => exact ⟨k + 1, _, _, _, _, by omega, by go_num, rfl, hM1, hI1, hB.trans hB1⟩
          case measure => simp [intOf] <;> omega
        · obtain rfl : k = s.size := by omega
          have hI2 : Is L (dv s.data.toList) := by rw [List.take_of_length_le (by simp)] at hI; exact hI
          have hN := Nrm.of_mine hM hI2
          clear hI hI2
          go_wp2
          go_ret2
          exact ⟨_, _, _, rfl, hN, hB⟩

theorem parse_long (s : ByteArray) (w : World) (hd : Digs s) (h1 : 60 < s.size) (h2 : s.size ≤ 1000000) :
    Calls Tryz.prog 224 #[.string s] w fun e w' => e = .returned (.tuple #[.slice none 0 0, .int .i64 9]) ∧ w = w' := by
  have hne := not_empty s (by omega)
  go_enter Tryz.func224, Tryz.ntmps224
  go_wp2
  go_loop [11] (fun i => ∃ k : Nat, k ≤ s.size ∧ i = .int .i64 k) (fun i => s.size - (intOf i).toNat)
  case atStart => exact ⟨0, Nat.zero_le _, rfl⟩
  case round =>
    obtain ⟨k, hk, rfl⟩ := hrel
    by_cases hlt : k < s.size
    · obtain ⟨b0, b1⟩ := hd k hlt
      go_wp2
      go_round
      case rel => exact ⟨k + 1, by omega, by go_num⟩
      case measure => simp [intOf] <;> omega
    · obtain rfl : k = s.size := by omega
      clear hlt hk
      go_wp2
      go_ret2
      exact ⟨rfl, rfl⟩

end Go.Proofs.YtggdhgppclnckaaGreatDoor.Q
namespace Go.Proofs.YtggdhgppclnckaaGreatDoor.Q
open Go.RowKit
set_option maxRecDepth 20000

/-- The first byte that is no digit stands at j. -/
def BadAt (s : ByteArray) (j : Nat) : Prop := ∃ h : j < s.size, (∀ i (hi : i < s.size), i < j → 48 ≤ s[i].toNat ∧ s[i].toNat ≤ 57) ∧ (s[j].toNat < 48 ∨ 57 < s[j].toNat)

theorem parse_empty (s : ByteArray) (w : World) (h : s.size = 0) :
    Calls Tryz.prog 224 #[.string s] w fun e w' => e = .returned (.tuple #[.slice none 0 0, .int .i64 4]) ∧ w = w' := by
  obtain rfl : s = ByteArray.empty := by
    apply ByteArray.ext
    apply Array.eq_empty_of_size_eq_zero
    exact h
  go_enter Tryz.func224, Tryz.ntmps224
  go_wp2
  go_ret2
  exact ⟨rfl, rfl⟩

theorem parse_bad (s : ByteArray) (j : Nat) (w : World) (hb : BadAt s j) (h2 : s.size ≤ 1000000) :
    Calls Tryz.prog 224 #[.string s] w fun e w' => e = .returned (.tuple #[.slice none 0 0, .int .i64 4]) ∧ w = w' := by
  obtain ⟨hj, hlow, hbad⟩ := hb
  have hne := not_empty s (by omega)
  go_enter Tryz.func224, Tryz.ntmps224
  go_wp2
  go_loop [11] (fun i => ∃ k : Nat, k ≤ j ∧ i = .int .i64 k) (fun i => s.size - (intOf i).toNat)
  case atStart => exact ⟨0, Nat.zero_le _, rfl⟩
  case round =>
    obtain ⟨k, hk, rfl⟩ := hrel
    by_cases hlt : k < j
    · have hks : k < s.size := by omega
      obtain ⟨b0, b1⟩ := hlow k hks hlt
      clear hbad hlow
      go_wp2
      go_round
      case rel => exact ⟨k + 1, by omega, by go_num⟩
      case measure => simp [intOf] <;> omega
    · obtain rfl : k = j := by omega
      clear hlow hlt
      rcases hbad with hbad | hbad
      · go_wp2
        all_goals
          go_ret2
          exact ⟨rfl, rfl⟩
      · go_wp2
        all_goals
          go_ret2
          exact ⟨rfl, rfl⟩

end Go.Proofs.YtggdhgppclnckaaGreatDoor.Q
namespace Go.Proofs.YtggdhgppclnckaaGreatDoor.Q
open Go.RowKit
set_option maxRecDepth 20000

/-- The first '/' of s is at place i; or there is none and i is the length. -/
def CutAt (s : ByteArray) (i : Nat) : Prop := i ≤ s.size ∧ (∀ k (_ : k < s.size), k < i → s[k] ≠ 47) ∧ (∀ _ : i < s.size, s[i] = 47)

theorem at_getQ (s : ByteArray) (k : Nat) (h : k < s.size) : s.data.toList[k]? = some s[k] := by
  have h1 : k < s.data.toList.length := by rw [← Lib.size_eq]; exact h
  rw [List.getElem?_eq_getElem h1]; rfl
theorem CutAt.miss {s : ByteArray} {i : Nat} (h : CutAt s i) (hi : i = s.size) : Lib.indexB s ⟨#[47]⟩ = -1 := by
  show Lib.index s.data.toList [47] = -1
  rw [Lib.index_one]
  have hge := Lib.indexByte_ge s.data.toList 47
  rcases Int.lt_or_le (Lib.indexByte s.data.toList 47) 0 with h3 | h3
  · omega
  · exfalso
    obtain ⟨j, hj⟩ := Int.eq_ofNat_of_zero_le h3
    obtain ⟨h1, _⟩ := Lib.indexByte_some hj
    have hlt : j < s.size := by rw [Lib.size_eq]; exact (List.getElem?_eq_some_iff.1 h1).1
    rw [at_getQ s j hlt] at h1
    injection h1 with h1
    exact h.2.1 j hlt (by omega) h1
theorem CutAt.hit {s : ByteArray} {i : Nat} (h : CutAt s i) (hi : i < s.size) : Lib.indexB s ⟨#[47]⟩ = i := by
  show Lib.index s.data.toList [47] = i
  rw [Lib.index_one]
  have hge := Lib.indexByte_ge s.data.toList 47
  have hs := h.2.2 hi
  rcases Int.lt_or_le (Lib.indexByte s.data.toList 47) 0 with h3 | h3
  · exfalso
    exact Lib.indexByte_none (show Lib.indexByte s.data.toList 47 = -1 by omega) i (by rw [at_getQ s i hi, hs])
  · obtain ⟨j, hj⟩ := Int.eq_ofNat_of_zero_le h3
    obtain ⟨h1, h2⟩ := Lib.indexByte_some hj
    have hlt : j < s.size := by rw [Lib.size_eq]; exact (List.getElem?_eq_some_iff.1 h1).1
    rw [at_getQ s j hlt] at h1
    injection h1 with h1
    rw [hj]
    rcases Nat.lt_trichotomy i j with h4 | h4 | h4
    · exact absurd (by rw [at_getQ s i hi, hs]) (h2 i h4)
    · rw [h4]
    · exact absurd h1 (h.2.1 j hlt h4)
/-- Where no byte of t is '/', the first '/' of t/u is behind t. -/
theorem CutAt.of_append (t u : ByteArray) (h : ∀ k (_ : k < t.size), t[k] ≠ 47) : CutAt (t ++ (⟨#[47]⟩ ++ u)) t.size := by
  have hz : (t ++ (⟨#[47]⟩ ++ u)).size = t.size + (1 + u.size) := by rw [ByteArray.size_append, ByteArray.size_append]; rfl
  refine ⟨by omega, fun k hk hki => ?_, fun hk => ?_⟩
  · rw [ByteArray.getElem_append_left hki]; exact h k hki
  · rw [ByteArray.getElem_append_right (Nat.le_refl _)]
    simp only [Nat.sub_self]
    rfl
theorem CutAt.whole (t : ByteArray) (h : ∀ k (_ : k < t.size), t[k] ≠ 47) : CutAt t t.size :=
  ⟨Nat.le_refl _, fun k hk _ => h k hk, fun h => absurd h (Nat.lt_irrefl _)⟩
theorem index_slash (s : ByteArray) : Lib.indexByte s.data.toList 47 = Lib.indexB s ⟨#[47]⟩ := by
  show _ = Lib.index s.data.toList [47]
  rw [Lib.index_one]

set_option maxHeartbeats 1000000 in
theorem scut_miss (s : ByteArray) (w : World) (h : CutAt s s.size) :
    Calls Tryz.prog 230 #[.string s, .string ⟨#[47]⟩] w fun e w' => e = .returned (.tuple #[.string s, .string ByteArray.empty, .bool false]) ∧ Below w.heap.size w w' := by
  have HI := Lib.hid (h.miss rfl)
  go_enter Tryz.func230, Tryz.ntmps230
  go_wp2_with (go_at_call 241; refine (Tryz.stringslite_Index_one _ _ _).mono ?_; rintro e w' ⟨rfl, rfl⟩; rw [index_slash, HI.out])
  go_ret3
  exact ⟨rfl, Below.refl _ _⟩

set_option maxHeartbeats 1000000 in
theorem scut_hit (s : ByteArray) (i : Nat) (w : World) (h : CutAt s i) (hi : i < s.size) (hs : s.size ≤ 1000000) :
    Calls Tryz.prog 230 #[.string s, .string ⟨#[47]⟩] w fun e w' => e = .returned (.tuple #[.string (s.extract 0 i), .string (s.extract (i + 1) s.size), .bool true]) ∧ Below w.heap.size w w' := by
  have HI := Lib.hid (h.hit hi)
  have c1 : (0 : Int) ≤ ↑i := by omega
  have c2 : (↑i : Int) ≤ ↑s.size := by omega
  have c3 : (0 : Int) ≤ ↑i + 1 := by omega
  have c4 : (↑i + 1 : Int) ≤ ↑s.size := by omega
  have c5 : wrap64 ((i : Int) + 1) = i + 1 := by unfold wrap64; omega
  go_enter Tryz.func230, Tryz.ntmps230
  go_wp2_with (go_at_call 241; refine (Tryz.stringslite_Index_one _ _ _).mono ?_; rintro e w' ⟨rfl, rfl⟩; rw [index_slash, HI.out])
  go_region
  go_wp2
  go_ret3
  exact ⟨rfl, (Below.refl _ _).drew⟩

set_option maxHeartbeats 1000000 in
theorem cut_miss (s : ByteArray) (w : World) (h : CutAt s s.size) :
    Calls Tryz.prog 223 #[.string s, .string ⟨#[47]⟩] w fun e w' => e = .returned (.tuple #[.string s, .string ByteArray.empty, .bool false]) ∧ Below w.heap.size w w' := by
  go_enter Tryz.func223, Tryz.ntmps223
  go_wp2_with (go_at_call 230; refine (scut_miss _ _ h).mono ?_; rintro e w' ⟨rfl, hb⟩)
  go_ret3
  exact ⟨rfl, hb⟩

set_option maxHeartbeats 1000000 in
theorem cut_hit (s : ByteArray) (i : Nat) (w : World) (h : CutAt s i) (hi : i < s.size) (hs : s.size ≤ 1000000) :
    Calls Tryz.prog 223 #[.string s, .string ⟨#[47]⟩] w fun e w' => e = .returned (.tuple #[.string (s.extract 0 i), .string (s.extract (i + 1) s.size), .bool true]) ∧ Below w.heap.size w w' := by
  go_enter Tryz.func223, Tryz.ntmps223
  go_wp2_with (go_at_call 230; refine (scut_hit _ _ _ h hi hs).mono ?_; rintro e w' ⟨rfl, hb⟩)
  go_ret3
  exact ⟨rfl, hb⟩

/-- What stands behind a minus sign, and whether there is one. -/
def signed (s : ByteArray) : Bool := s.data.toList.head? == some 45
def unsigned (s : ByteArray) : ByteArray := if signed s then s.extract 1 s.size else s
theorem hasMinus (s : ByteArray) : Lib.hasPrefix s.data.toList [45] = signed s := by
  unfold Lib.hasPrefix signed
  cases s.data.toList with
  | nil => rfl
  | cons b l =>
    by_cases h : b = 45
    · subst h; simp [List.isPrefixOf]
    · simp [List.isPrefixOf, beq_eq_false_iff_ne.2 h, beq_eq_false_iff_ne.2 (fun e : (45 : UInt8) = b => h e.symm)]
theorem trimMinus (s : ByteArray) : (⟨(Lib.trimPrefix s.data.toList [45]).toArray⟩ : ByteArray) = unsigned s := by
  unfold Lib.trimPrefix unsigned
  rw [hasMinus]
  by_cases h : signed s
  · rw [if_pos h, if_pos h, Lib.extract_eq]
    have ht : List.take (s.size - 1) (List.drop 1 s.data.toList) = List.drop 1 s.data.toList := List.take_of_length_le (by rw [List.length_drop, ← Lib.size_eq]; exact Nat.le_refl _)
    rw [ht]; rfl
  · rw [if_neg h, if_neg h]
theorem unsigned_size (s : ByteArray) : (unsigned s).size ≤ s.size := by
  unfold unsigned
  split
  · simp
  · exact Nat.le_refl _
theorem cutPrefix_b (s : ByteArray) (w : World) :
    Calls Tryz.prog 222 #[.string s, .string ⟨#[45]⟩] w fun e w' => e = .returned (.tuple #[.string (unsigned s), .bool (signed s)]) ∧ w' = w := by
  refine (Tryz.strings_CutPrefix s ⟨#[45]⟩ w).mono fun e w' h => ?_
  rw [← hasMinus, ← trimMinus]
  exact h
end Go.Proofs.YtggdhgppclnckaaGreatDoor.Q
namespace Go.Proofs.YtggdhgppclnckaaGreatDoor.Q

theorem le_mul {a b c : Int} (h : a ≤ b) (hc : 0 ≤ c) : a * c ≤ b * c := Int.mul_le_mul_of_nonneg_right h hc
theorem le_mul' {a b c : Int} (h : a ≤ b) (hc : 0 ≤ c) : c * a ≤ c * b := Int.mul_le_mul_of_nonneg_left h hc

/-- The number of binary digits: between which powers of two a number lies. -/
theorem bits_between (f : Nat) : ∀ x, 0 < x → x < 2 ^ f → x < 2 ^ Lib.bitLenAux f x ∧ 2 ^ Lib.bitLenAux f x ≤ 2 * x := by
  induction f with
  | zero => intro x h0 h1; simp at h1; omega
  | succ f ih =>
    intro x h0 h1
    have e : Lib.bitLenAux (f + 1) x = 1 + Lib.bitLenAux f (x / 2) := by rw [Lib.bitLenAux, if_neg (by omega)]
    rw [e, Nat.add_comm, Nat.pow_succ]
    rcases Nat.eq_zero_or_pos (x / 2) with h | h
    · have h2 : Lib.bitLenAux f (x / 2) = 0 := by
        rw [h]
        cases f with
        | zero => rfl
        | succ f => rw [Lib.bitLenAux, if_pos rfl]
      rw [h2]; omega
    · have := ih (x / 2) h (by rw [Nat.pow_succ] at h1; omega)
      omega
/-- The shift that sets the top bit of a limb. -/
theorem top_shift {d : Int} {s : Nat} (d0 : 0 < d) (d1 : d < 4294967296) (hs : (s : Int) = 32 - (Lib.bitLen d.toNat : Int)) : s ≤ 31 ∧ 2147483648 ≤ d * 2 ^ s ∧ d * 2 ^ s < 4294967296 := by
  obtain ⟨n, rfl⟩ := Int.eq_ofNat_of_zero_le (Int.le_of_lt d0)
  have h := bits_between 64 n (by omega) (by omega)
  rw [Int.toNat_natCast] at hs
  change n < 2 ^ Lib.bitLen n ∧ 2 ^ Lib.bitLen n ≤ 2 * n at h
  have hb : Lib.bitLen n ≤ 32 := Lib.bitLen_le n 32 (by decide) (by omega)
  have hb0 : Lib.bitLen n ≠ 0 := by intro h0; rw [h0] at h; simp at h; omega
  generalize Lib.bitLen n = k at *
  have hsk : s = 32 - k := by omega
  have e : 2 ^ k * 2 ^ s = 4294967296 := by
    rw [← Nat.pow_add, hsk, show k + (32 - k) = 32 from by omega]
  have h1 : n * 2 ^ s < 2 ^ k * 2 ^ s := Nat.mul_lt_mul_of_pos_right h.1 (Nat.pow_pos (by decide))
  have h2 : 2 ^ k * 2 ^ s ≤ 2 * n * 2 ^ s := Nat.mul_le_mul_right _ h.2
  rw [Nat.mul_assoc] at h2
  rw [e] at h1 h2
  have c : (n : Int) * 2 ^ s = ((n * 2 ^ s : Nat) : Int) := by simp
  rw [c]
  omega

section
/- f, s: the first two limbs of the divisor; t: the first two limbs of the window; u: the third; P: the weight of what is below. -/
variable {f s dl t u wl P g r : Int}
theorem guess_top (s1 : s < 4294967296) (u0 : 0 ≤ u) (P0 : 0 < P) (d1 : dl < P) (w0 : 0 ≤ wl)
    (h : (t * 4294967296 + u) * P + wl < ((f * 4294967296 + s) * P + dl) * 4294967296) : t < (f + 1) * 4294967296 := by
  rcases Int.lt_or_le t ((f + 1) * 4294967296) with h1 | h1
  · exact h1
  · exfalso
    have h2 : ((f + 1) * 4294967296 * 4294967296) * P ≤ (t * 4294967296 + u) * P := le_mul (by omega) (by omega)
    have h3 : ((f * 4294967296 + s) + 1) * P ≤ ((f + 1) * 4294967296) * P := le_mul (by omega) (by omega)
    have e1 : ((f + 1) * 4294967296 * 4294967296) * P = (((f + 1) * 4294967296) * P) * 4294967296 := by grind
    have e2 : ((f * 4294967296 + s) + 1) * P = (f * 4294967296 + s) * P + P := by grind
    omega
theorem guess_high (g0 : 0 ≤ g) (P0 : 0 < P) (d0 : 0 ≤ dl) (w1 : wl < P) (e : g * f + r = t) (h : r * 4294967296 + u < g * s) :
    (t * 4294967296 + u) * P + wl < g * ((f * 4294967296 + s) * P + dl) := by
  have h1 : (t * 4294967296 + u + 1) * P ≤ (g * f * 4294967296 + g * s) * P := le_mul (by omega) (by omega)
  have h2 : 0 ≤ g * dl := Int.mul_nonneg g0 d0
  have e1 : g * ((f * 4294967296 + s) * P + dl) = (g * f * 4294967296 + g * s) * P + g * dl := by grind
  have e2 : (t * 4294967296 + u + 1) * P = (t * 4294967296 + u) * P + P := by grind
  omega
theorem guess_over {V W : Int} (hV : 0 < V) (h : W < V * 4294967296) (hg : 4294967296 ≤ g) : W < g * V := by
  have : 4294967296 * V ≤ g * V := le_mul hg (by omega)
  omega
theorem guess_end (f0 : 1 ≤ f) (s0 : 0 ≤ s) (s1 : s < 4294967296) (u0 : 0 ≤ u) (P0 : 0 < P) (d0 : 0 ≤ dl) (d1 : dl < P) (w0 : 0 ≤ wl) (t0 : 0 ≤ t) (g0 : 0 ≤ g) (g1 : g < 4294967296) (e : g * f + r = t)
    (h : 4294967296 ≤ r ∨ g * s ≤ r * 4294967296 + u) : (g - 1) * ((f * 4294967296 + s) * P + dl) ≤ (t * 4294967296 + u) * P + wl := by
  have hgs : g * s ≤ r * 4294967296 + u := by
    rcases h with h | h
    · have : g * s ≤ 4294967295 * s := le_mul (by omega) s0
      omega
    · exact h
  have hW : 0 ≤ (t * 4294967296 + u) * P := Int.mul_nonneg (by omega) (by omega)
  rcases Int.lt_or_le g 1 with h1 | h1
  · have hg : g = 0 := by omega
    subst hg
    have hV : 0 ≤ (f * 4294967296 + s) * P := Int.mul_nonneg (by omega) (by omega)
    omega
  · have h2 : (g - 1) * ((f * 4294967296 + s) * P + dl) ≤ (g - 1) * ((f * 4294967296 + s) * P + P) := le_mul' (by omega) (by omega)
    have e1 : (g - 1) * ((f * 4294967296 + s) * P + P) = (g * f * 4294967296 + g * s - f * 4294967296 - s + g - 1) * P := by grind
    have h3 : (g * f * 4294967296 + g * s - f * 4294967296 - s + g - 1) * P ≤ (t * 4294967296 + u) * P := le_mul (by omega) (by omega)
    omega
end

/-- One round of the subtraction of a multiple. -/
theorem subMul_step {Z R D : List Int} {i k : Nat} {t c b d z : Int} (hk : i + k < Z.length) (hz : R.getD (i + k) 0 = z) (hd : D.getD k 0 = d)
    (z0 : 0 ≤ z ∧ z < 4294967296) (b0 : 0 ≤ b ∧ b < 2) (pt : Int) (hpt : pt = pw i * t)
    (h : val (Z.take (i + k)) + pt * val (D.take k) = val (R.take (i + k)) + pw (i + k) * (c + b)) :
    val ((Z.set (i + k) ((z - (d * t + 0 + c) % 4294967296 - b) % 4294967296)).take (i + (k + 1))) + pt * val (D.take (k + 1)) =
      val (R.take (i + (k + 1))) + pw (i + (k + 1)) * ((d * t + 0 + c) / 4294967296 + borrowOf z ((d * t + 0 + c) % 4294967296) b) := by
  have hlo : 0 ≤ (d * t + 0 + c) % 4294967296 ∧ (d * t + 0 + c) % 4294967296 < 4294967296 := by omega
  have hbo := borrowOf_eq z _ b z0.1 z0.2 hlo.1 hlo.2 b0.1 b0.2
  have e : d * t + 0 + c = (d * t + 0 + c) % 4294967296 + 4294967296 * ((d * t + 0 + c) / 4294967296) := by omega
  rw [← Nat.add_assoc, val_set_take Z _ _ hk, val_take_getD R, val_take_getD D, hz, hd, pw_succ, hbo]
  generalize borrowOf z ((d * t + 0 + c) % 4294967296) b = b' at *
  generalize (d * t + 0 + c) % 4294967296 = lo at *
  generalize (d * t + 0 + c) / 4294967296 = hi at *
  rw [pw_add] at *
  subst hpt
  have e2 : pw i * pw k * (d * t + 0 + c) = pw i * pw k * (lo + 4294967296 * hi) := by rw [e]
  grind
theorem subMul_last {Z R D : List Int} {i n : Nat} {c b z pt : Int} (hk : i + n < Z.length) (hz : R.getD (i + n) 0 = z) (z0 : 0 ≤ z ∧ z < 4294967296) (c0 : 0 ≤ c ∧ c < 4294967296) (b0 : 0 ≤ b ∧ b < 2) (hD : D.length = n)
    (h : val (Z.take (i + n)) + pt * val (D.take n) = val (R.take (i + n)) + pw (i + n) * (c + b)) :
    val ((Z.set (i + n) ((z - c - b) % 4294967296)).take (i + n + 1)) + pt * val D = val (R.take (i + n + 1)) + pw (i + n + 1) * borrowOf z c b := by
  have hbo := borrowOf_eq z c b z0.1 z0.2 c0.1 c0.2 b0.1 b0.2
  rw [List.take_of_length_le (l := D) (by omega)] at h
  rw [val_set_take Z _ _ hk, val_take_getD R, hz, pw_succ, hbo]
  generalize borrowOf z c b = b' at *
  grind
theorem addBack_step {Z R D : List Int} {i k : Nat} {c d z : Int} (hk : i + k < Z.length) (hz : R.getD (i + k) 0 = z) (hd : D.getD k 0 = d)
    (h : val (Z.take (i + k)) + pw (i + k) * c = val (R.take (i + k)) + pw i * val (D.take k)) :
    val ((Z.set (i + k) ((z + d + c) % 4294967296)).take (i + (k + 1))) + pw (i + (k + 1)) * ((z + d + c) / 4294967296) = val (R.take (i + (k + 1))) + pw i * val (D.take (k + 1)) := by
  have e : z + d + c = (z + d + c) % 4294967296 + 4294967296 * ((z + d + c) / 4294967296) := by omega
  rw [← Nat.add_assoc, val_set_take Z _ _ hk, val_take_getD R, val_take_getD D, hz, hd, pw_succ]
  generalize (z + d + c) % 4294967296 = lo at *
  generalize (z + d + c) / 4294967296 = hi at *
  rw [pw_add] at *
  have e2 : pw i * pw k * (z + d + c) = pw i * pw k * (lo + 4294967296 * hi) := by rw [e]
  grind
theorem addBack_last {Z R D : List Int} {i n : Nat} {c z : Int} (hk : i + n < Z.length) (hz : R.getD (i + n) 0 = z) (hD : D.length = n)
    (h : val (Z.take (i + n)) + pw (i + n) * c = val (R.take (i + n)) + pw i * val (D.take n)) :
    val ((Z.set (i + n) ((z + c) % 4294967296)).take (i + n + 1)) + pw (i + n + 1) * ((z + c) / 4294967296) = val (R.take (i + n + 1)) + pw i * val D := by
  have e : z + c = (z + c) % 4294967296 + 4294967296 * ((z + c) / 4294967296) := by omega
  rw [List.take_of_length_le (l := D) (by omega)] at h
  rw [val_set_take Z _ _ hk, val_take_getD R, hz, pw_succ]
  generalize (z + c) % 4294967296 = lo at *
  generalize (z + c) / 4294967296 = hi at *
  have e2 : pw (i + n) * (z + c) = pw (i + n) * (lo + 4294967296 * hi) := by rw [e]
  grind

/-- One round of a shift to the left. -/
theorem shl_step {S L : List Int} {k : Nat} {l h q : Int} (hk : k + 1 < S.length) (hl : L.getD k 0 = l) (hh : S.getD k 0 = h)
    (hv : val (S.take (k + 1)) = val (L.take k) * q) :
    val (((S.set k (h + l * q % 4294967296)).set (k + 1) (l * q / 4294967296)).take (k + 1 + 1)) = val (L.take (k + 1)) * q := by
  have e : l * q = l * q % 4294967296 + 4294967296 * (l * q / 4294967296) := by omega
  rw [val_set_take _ (k + 1) _ (by simpa using hk), val_set_take _ k _ (by omega), val_take_getD L, hl, pw_succ]
  rw [val_take_getD, hh] at hv
  generalize l * q % 4294967296 = lo at *
  generalize l * q / 4294967296 = hi at *
  have e2 : pw k * (l * q) = pw k * (lo + 4294967296 * hi) := by rw [e]
  grind
/-- One round of a shift to the right, from the top. -/
theorem shr_step {S L : List Int} {j : Nat} {l a q : Int} (hS : j < S.length) (hL : j < L.length) (hl : L.getD j 0 = l) (l0 : 0 ≤ l ∧ l < 4294967296) (q0 : 0 < q) (m : Int) (hq : q * m = 4294967296)
    (ha : a = val (L.drop (j + 1)) % 4294967296) (hv : val (S.drop (j + 1)) = val (L.drop (j + 1)) / q) :
    val ((S.set j ((a * 4294967296 + l) / q % 4294967296)).drop j) = val (L.drop j) / q := by
  rw [List.drop_eq_getElem_cons (l := S.set j _) (by simpa using hS), val_cons, List.getElem_set_self, List.drop_set_of_lt (by omega), hv, List.drop_eq_getElem_cons (l := L) hL, val_cons, ← getD_of_lt L j hL, hl]
  generalize val (L.drop (j + 1)) = Y at *
  -- X = (l + B Y) / q : its last limb and the rest
  have h1 : (l + 4294967296 * Y) / q / 4294967296 = Y / q := by
    rw [Int.ediv_ediv_of_nonneg (by omega), Int.mul_comm q, ← Int.ediv_ediv_of_nonneg (by omega)]
    congr 1
    omega
  have h2 : (l + 4294967296 * Y) / q % 4294967296 = (a * 4294967296 + l) / q % 4294967296 := by
    have e : l + 4294967296 * Y = (a * 4294967296 + l) + q * (m * (4294967296 * (Y / 4294967296))) := by
      have : Y = a + 4294967296 * (Y / 4294967296) := by omega
      generalize Y / 4294967296 = Z at *
      have e3 : q * (m * (4294967296 * Z)) = (q * m) * (4294967296 * Z) := by grind
      rw [e3, hq]
      omega
    rw [e, Int.add_mul_ediv_left _ _ (by omega)]
    have e4 : m * (4294967296 * (Y / 4294967296)) = 4294967296 * (m * (Y / 4294967296)) := by grind
    rw [e4, Int.add_mul_emod_self_left]
  have h3 := Int.mul_ediv_add_emod ((l + 4294967296 * Y) / q) 4294967296
  rw [h1, h2] at h3
  omega

end Go.Proofs.YtggdhgppclnckaaGreatDoor.Q

namespace Go.Proofs.YtggdhgppclnckaaGreatDoor.Q
open Go.RowKit
set_option maxRecDepth 20000

theorem or_low (h p : Int) (s : Nat) (hs : s ≤ 31) (h0 : 0 ≤ h) (h1 : h < 2 ^ s) (p0 : 0 ≤ p) (p1 : p < 4294967296) (m : Int) (hp : p = m * 2 ^ s) : bits .or .u32 h p = h + p := by
  have e32 : (2 : Int) ^ s ≤ 2 ^ 31 := by
    have h2 : (2 : Nat) ^ s ≤ 2 ^ 31 := Nat.pow_le_pow_right (by decide) hs
    exact_mod_cast h2
  have e31 : (2 : Int) ^ 31 = 2147483648 := by decide
  rw [u32_or _ _ h0 (by omega) p0 p1, Nat.or_comm, nat_join s]
  · omega
  · obtain ⟨n, rfl⟩ := Int.eq_ofNat_of_zero_le p0
    rw [Int.toNat_natCast]
    have h3 : ((2 ^ s : Nat) : Int) ∣ (n : Int) := ⟨m, by rw [hp]; push_cast; rw [Int.mul_comm]⟩
    exact Nat.mod_eq_zero_of_dvd (Int.natCast_dvd_natCast.1 h3)
  · obtain ⟨n, rfl⟩ := Int.eq_ofNat_of_zero_le h0
    rw [Int.toNat_natCast]
    exact_mod_cast h1

/-- The product of a limb and a power of two: its halves. -/
theorem limb_shift (l : Int) (s : Nat) (hs : s ≤ 31) (l0 : 0 ≤ l ∧ l < 4294967296) :
    0 ≤ l * 2 ^ s ∧ l * 2 ^ s < 9223372036854775808 ∧ 0 ≤ l * 2 ^ s / 4294967296 ∧ l * 2 ^ s / 4294967296 < 2 ^ s ∧ (2 : Int) ^ s ≤ 2147483648 ∧ ∃ m, l * 2 ^ s % 4294967296 = m * 2 ^ s := by
  have e32 : (2 : Int) ^ s ≤ 2 ^ 31 := by
    have h2 : (2 : Nat) ^ s ≤ 2 ^ 31 := Nat.pow_le_pow_right (by decide) hs
    exact_mod_cast h2
  have e31 : (2 : Int) ^ 31 = 2147483648 := by decide
  have hp : (0 : Int) < 2 ^ s := Int.pow_pos (by decide)
  have e : (2 : Int) ^ s * 2 ^ (32 - s) = 4294967296 := by
    rw [← Int.pow_add, show s + (32 - s) = 32 from by omega]; decide
  have h1 : 0 ≤ l * 2 ^ s := Int.mul_nonneg l0.1 (Int.le_of_lt hp)
  have h2 : (l + 1) * 2 ^ s ≤ 4294967296 * 2 ^ s := le_mul (by omega) (Int.le_of_lt hp)
  rw [Int.add_mul] at h2
  refine ⟨h1, by omega, by omega, Int.ediv_lt_of_lt_mul (by decide) (by omega), by omega, l % 2 ^ (32 - s), ?_⟩
  rw [← e, Int.mul_comm l, Int.mul_emod_mul_of_pos _ _ hp, Int.mul_comm]

def Shifted (w : World) (n : Nat) (x : Int) (e : Ending) (w' : World) : Prop :=
  ∃ g S, e = .returned (.slice (some ⟨g, 0, none⟩) n n) ∧ Mine w' w.heap.size (some ⟨g, 0, none⟩) n n S ∧ val S = x ∧ Below w.heap.size w w'

set_option maxHeartbeats 1000000 in
theorem shiftLeft_any (A : Option Addr) (n c s : Nat) (L : List Int) (w : World) (hr : Rd w A n c L) (hn : n ≤ 1000000) (hs : s ≤ 31) :
    Calls Tryz.prog 282 #[.slice A n c, .int .i64 (s : Int)] w (Shifted w (n + 1) (val L * 2 ^ s)) := by
  obtain ⟨i0, hi, hz0, hz1, hz2⟩ := info_parts info_limb
  have HL := Lib.hid hr.len
  go_enter Tryz.func282, Tryz.ntmps282
  go_wp2_with (at_make; refine wpList_make_full _ rfl _ _ 48 rfl w.heap.size 146 i0 (.int .u32 0) 1 Tryz.underlying48 hi hz0 hz1 _ _ _ _ (n + 1) rfl rfl ?b0 ?b1 ?b2 ?b3 (Nat.le_refl _) ?_)
  case b0 => go_num
  case b1 => go_num
  case b2 => rw [hz2]; omega
  case b3 => unfold maxLen; omega
  intro w0 hown hgrow
  have hM0 := Mine.zero hown
  have hB0 := below_of_grown hgrow
  clear hown hgrow
  go_wp2
  go_loopw [15] (fun iv wr => ∃ (k : Nat) (S : List Int), k ≤ n ∧ iv = .int .i64 k ∧ Mine wr w.heap.size (some ⟨w.heap.size, 0, none⟩) (n + 1) (n + 1) S ∧
      Hid (val (S.take (k + 1)) = val (L.take k) * 2 ^ s) ∧ Hid (S.getD k 0 < 2 ^ s) ∧ Below w.heap.size w wr) (fun iv _ => n - (intOf iv).toNat)
  case atStart =>
    refine ⟨0, _, Nat.zero_le _, rfl, hM0, ?_, ?_, hB0⟩
    · show _ = _
      rw [List.take_replicate, val_replicate]; simp [val]
    · show _ < _
      rw [List.getD_eq_getElem?_getD, List.getElem?_replicate]
      have : (0 : Int) < 2 ^ s := Int.pow_pos (by decide)
      split <;> simpa using this
  case round =>
    obtain ⟨k, S, hk, rfl, hM, hV, hT, hB⟩ := hrel
    clear hM0 hB0
    by_cases hkn : k < n
    · obtain ⟨ad, rfl, _, hc⟩ := (hr.below hB).at_ (by omega)
      have cL := hc k hkn
      have uL := hr.lims.getD k
      have uS := hM.lims.getD k
      have uS2 := hM.lims.getD (k + 1)
      obtain ⟨l, hl⟩ : ∃ l, L.getD k 0 = l := ⟨_, rfl⟩
      obtain ⟨h, hh⟩ : ∃ h, S.getD k 0 = h := ⟨_, rfl⟩
      have cS := hM.cellAt (i := k) (by omega)
      have fS := hM.frozenAt k
      rw [hl] at cL uL
      rw [hh] at cS uS
      obtain ⟨p0, p1, q0, q1, p2, m, hm⟩ := limb_shift l s hs uL
      have hor := or_low h (l * 2 ^ s % 4294967296) s hs uS.1 (by have := hT.out; rwa [hh] at this) (by omega) (by omega) m hm
      have hsum : h + l * 2 ^ s % 4294967296 < 4294967296 := by
        have h3 := u32_bits_lt .or (.inr (.inl rfl)) h (l * 2 ^ s % 4294967296) uS.1 uS.2 (by omega) (by omega)
        rw [hor] at h3; exact h3.2
      have ST := Lib.hid (shl_step (S := S) (L := L) (k := k) (q := 2 ^ s) (by rw [hM.len]; omega) hl hh hV.out)
      have hM1 := hM.stored k (x := h + l * 2 ^ s % 4294967296) (by omega) hsum
      have cS1 := hM1.cellAt (i := k + 1) (by omega)
      have fS1 := hM1.frozenAt (k + 1)
      have hM2 := hM1.stored (k + 1) (x := l * 2 ^ s / 4294967296) q0 (by omega)
      have hget : Hid (((S.set k (h + l * 2 ^ s % 4294967296)).set (k + 1) (l * 2 ^ s / 4294967296)).getD (k + 1) 0 < 2 ^ s) := by
        show _ < _
        rw [getD_of_lt _ _ (by simp [hM.len]; omega), List.getElem_set_self]; exact q1
      clear hc hl hh hm
      generalize (S.set k (h + l * 2 ^ s % 4294967296)).getD (k + 1) 0 = y at *
      go_wp2
      go_roundw
      case rel => exact ⟨k + 1, _, by omega, by go_num, hM2, ST.out, hget, (hB.setCell (Nat.le_refl _) _).setCell (Nat.le_refl _) _⟩
      case measure => simp [intOf] <;> omega
    · obtain rfl : k = n := by omega
      have hF : Hid (val S = val L * 2 ^ s) := by
        have h1 := hV.out
        rw [List.take_of_length_le (l := S) (by rw [hM.len]; exact Nat.le_refl _), List.take_of_length_le (l := L) (by have := HL.out; omega)] at h1
        exact h1
      go_wp2
      go_ret
      exact ⟨_, S, rfl, hM, hF.out, hB⟩

theorem far_add {ad : Addr} {g i j : Nat} (h : ad.block < g) : ad.add i ≠ ⟨g, j, none⟩ := by
  intro e
  have h1 := congrArg Addr.block e
  rw [addr_block] at h1
  simp at h1
  omega

def Halved (w : World) (n : Nat) (x : Int) (e : Ending) (w' : World) : Prop :=
  ∃ A c S, e = .returned (.slice A n c) ∧ Mine w' w.heap.size A n c S ∧ val S = x ∧ Below w.heap.size w w'

theorem shr_word (a l : Int) (s : Nat) (a0 : 0 ≤ a ∧ a < 4294967296) (l0 : 0 ≤ l ∧ l < 4294967296) : 0 ≤ (a * 4294967296 + l) / 2 ^ s ∧ (a * 4294967296 + l) / 2 ^ s < 18446744073709551616 := by
  have hp : (0 : Int) < 2 ^ s := Int.pow_pos (by decide)
  have h1 := Int.ediv_nonneg (a := a * 4294967296 + l) (by omega) (Int.le_of_lt hp)
  have h2 := Int.ediv_le_self (2 ^ s) (show 0 ≤ a * 4294967296 + l by omega)
  omega

set_option maxHeartbeats 1000000 in
theorem shiftRight_any (A : Option Addr) (n c s : Nat) (L : List Int) (w : World) (hr : Rd w A n c L) (hn : n ≤ 1000000) (hs : s ≤ 31) :
    Calls Tryz.prog 286 #[.slice A n c, .int .i64 (s : Int)] w (Halved w n (val L / 2 ^ s)) := by
  obtain ⟨i0, hi, hz0, hz1, hz2⟩ := info_parts info_limb
  have HL := Lib.hid hr.len
  go_enter Tryz.func286, Tryz.ntmps286
  go_wp2_with (at_make; refine wpList_make_full _ rfl _ _ 48 rfl w.heap.size 146 i0 (.int .u32 0) 1 Tryz.underlying48 hi hz0 hz1 _ _ _ _ n rfl rfl ?b0 ?b1 ?b2 ?b3 (Nat.le_refl _) ?_)
  case b0 => rfl
  case b1 => rfl
  case b2 => rw [hz2]; omega
  case b3 => unfold maxLen; omega
  intro w0 hown hgrow
  have hM0 := Mine.zero hown
  have hB0 := below_of_grown hgrow
  clear hown hgrow
  go_wp2
  go_loopw [6, 7] (fun av iv wr => ∃ (k : Nat) (a : Int) (S : List Int), k ≤ n ∧ iv = .int .i64 ((k : Int) - 1) ∧ av = .int .u32 a ∧ (0 ≤ a ∧ a < 4294967296) ∧ Mine wr w.heap.size (some ⟨w.heap.size, 0, none⟩) n n S ∧
      Hid (a = val (L.drop k) % 4294967296) ∧ Hid (val (S.drop k) = val (L.drop k) / 2 ^ s) ∧ Below w.heap.size w wr) (fun _ iv _ => (intOf iv + 1).toNat)
  case atStart =>
    refine ⟨n, 0, _, Nat.le_refl _, rfl, rfl, by omega, hM0, ?_, ?_, hB0⟩
    · show _ = _
      rw [List.drop_eq_nil_of_le (by have := HL.out; omega)]; rfl
    · show _ = _
      rw [List.drop_eq_nil_of_le (by simp), List.drop_eq_nil_of_le (by have := HL.out; omega)]; simp [val]
  case round =>
    obtain ⟨k, a, S, hk, rfl, rfl, ⟨a0, a1⟩, hM, hA, hV, hB⟩ := hrel
    clear hM0 hB0
    by_cases h0 : k = 0
    · subst h0
      have hF : Hid (val S = val L / 2 ^ s) := by simpa using hV
      go_wp2
      go_ret
      exact ⟨_, _, S, rfl, hM, hF.out, hB⟩
    · obtain ⟨j, rfl⟩ : ∃ j, k = j + 1 := ⟨k - 1, by omega⟩
      obtain ⟨ad, rfl, hadB, hc0⟩ := hr.at_ (by omega)
      have cL := (hB.cell (p := ad.add j) (by rw [addr_block]; exact hadB)).trans (hc0 j (by omega))
      have uL := hr.lims.getD j
      have uS := hM.lims.getD j
      obtain ⟨l, hl⟩ : ∃ l, L.getD j 0 = l := ⟨_, rfl⟩
      have cS := hM.cellAt (i := j) (by omega)
      have fS := hM.frozenAt j
      rw [hl] at cL uL
      have J := or_join a l a0 a1 uL.1 uL.2
      have W := shr_word a l s ⟨a0, a1⟩ uL
      have hp : (0 : Int) < 2 ^ s := Int.pow_pos (by decide)
      have hm : (2 : Int) ^ s * 2 ^ (32 - s) = 4294967296 := by
        rw [← Int.pow_add, show s + (32 - s) = 32 from by omega]; decide
      have ST := Lib.hid (shr_step (S := S) (L := L) (j := j) (a := a) (q := 2 ^ s) (by rw [hM.len]; omega) (by have := HL.out; omega) hl uL hp _ hm hA.out hV.out)
      have hA2 : Hid (l = val (L.drop j) % 4294967296) := by
        show _ = _
        rw [List.drop_eq_getElem_cons (l := L) (i := j) (by have := HL.out; omega), val_cons, ← getD_of_lt, hl]; omega
      have s0 : 0 ≤ (a * 4294967296 + l) / 2 ^ s % 4294967296 ∧ (a * 4294967296 + l) / 2 ^ s % 4294967296 < 4294967296 := by omega
      have hM1 := hM.stored j s0.1 s0.2
      have cL2 := (World.cell?_setCell_other wr ⟨w.heap.size, j, none⟩ (ad.add j) (.int .u32 ((a * 4294967296 + l) / 2 ^ s % 4294967296)) (far_add hadB).symm).trans cL
      clear hc0 hl hm hp h0
      generalize S.getD j 0 = y at *
      go_wp2
      go_roundw
      case rel => exact ⟨j, l, _, by omega, by go_num, rfl, uL, hM1, hA2.out, ST.out, hB.setCell (Nat.le_refl _) _⟩
      case measure => simp [intOf] <;> omega

/-- The window of n + 1 limbs from place i on has become what it was less pt times D, plus b times the weight above it. -/
structure WinSub (g base N C i n : Nat) (R D : List Int) (pt b : Int) (w w' : World) (R' : List Int) : Prop where
  mine : Mine w' base (some ⟨g, 0, none⟩) N C R'
  low : R'.take i = R.take i
  high : R'.drop (i + n + 1) = R.drop (i + n + 1)
  value : val (R'.take (i + n + 1)) + pt * val D = val (R.take (i + n + 1)) + pw (i + n + 1) * b
  only : Only (some ⟨g, 0, none⟩) w w'

def SubMulPost (g base N C i n : Nat) (R D : List Int) (pt : Int) (w : World) (e : Ending) (w' : World) : Prop :=
  (∃ R', e = .returned (.bool false) ∧ WinSub g base N C i n R D pt 0 w w' R') ∨ (∃ R', e = .returned (.bool true) ∧ WinSub g base N C i n R D pt 1 w w' R')

theorem take_set_ge (S : List Int) (i j : Nat) (x : Int) (h : i ≤ j) : (S.set j x).take i = S.take i := List.take_set_of_le h

set_option maxHeartbeats 2000000 in
theorem subMul_any (g base N C i n wc dc : Nat) (dA : Option Addr) (R D : List Int) (w : World) (t : Int) (hR : Mine w base (some ⟨g, 0, none⟩) N C R) (hD : Rd w dA n dc D) (hfar : ∀ a, dA = some a → a.block ≠ g)
    (hN : i + n + 1 ≤ N) (hn : N ≤ 1000000) (hwc : n + 1 ≤ wc) (t0 : 0 ≤ t) (t1 : t < 4294967296) :
    Calls Tryz.prog 284 #[.slice (some ⟨g, i, none⟩) (n + 1) wc, .slice dA n dc, .int .u32 t] w (SubMulPost g base N C i n R D (pw i * t) w) := by
  have HD := Lib.hid hD.len
  obtain ⟨pt, hpt⟩ : ∃ pt, pt = pw i * t := ⟨_, rfl⟩
  rw [← hpt]
  have HP := Lib.hid hpt
  clear hpt
  go_enter Tryz.func284, Tryz.ntmps284
  go_wp2
  go_loopw [7, 8, 15] (fun cv bv kv wr => ∃ (k : Nat) (c b : Int) (Z : List Int), k ≤ n ∧ kv = .int .i64 k ∧ cv = .int .u32 c ∧ bv = .int .u32 b ∧ (0 ≤ c ∧ c < 4294967296) ∧ (0 ≤ b ∧ b < 2) ∧ Mine wr base (some ⟨g, 0, none⟩) N C Z ∧
      Hid (Z.take i = R.take i) ∧ Hid (Z.drop (i + k) = R.drop (i + k)) ∧ Hid (val (Z.take (i + k)) + pt * val (D.take k) = val (R.take (i + k)) + pw (i + k) * (c + b)) ∧ Only (some ⟨g, 0, none⟩) w wr) (fun _ _ kv _ => n - (intOf kv).toNat)
  case atStart => exact ⟨0, 0, 0, R, Nat.zero_le _, rfl, rfl, rfl, by omega, by omega, hR, rfl, rfl, by show _ = _; simp [val], Only.refl _ _⟩
  case round =>
    obtain ⟨k, c, b, Z, hk, rfl, rfl, rfl, ⟨c0, c1⟩, ⟨b0, b1⟩, hZ, hlow, hhigh, hV, hO⟩ := hrel
    by_cases hkn : k < n
    · obtain ⟨ad, rfl, _, hc⟩ := hD.at_ (by omega)
      have hne := hfar ad rfl
      have cD := hc k hkn
      have cD' : wr.cell? (ad.add k) = w.cell? (ad.add k) := hO.farCell (by rw [addr_block]; exact hne)
      rw [cD] at cD'
      have uD := hD.lims.getD k
      have uZ := hZ.lims.getD (i + k)
      have cZ := hZ.cellAt (i := i + k) (by omega)
      have fZ := hZ.frozenAt (i + k)
      obtain ⟨d, hd⟩ : ∃ d, D.getD k 0 = d := ⟨_, rfl⟩
      obtain ⟨z, hz⟩ : ∃ z, R.getD (i + k) 0 = z := ⟨_, rfl⟩
      rw [getD_of_drop hhigh.out, hz] at cZ uZ
      rw [hd] at cD' uD
      have ST := Lib.hid (subMul_step (Z := Z) (R := R) (D := D) (i := i) (k := k) (t := t) (c := c) (b := b) (by rw [hZ.len]; omega) hz hd uZ ⟨b0, b1⟩ pt HP.out hV.out)
      have hD2 : Hid ((Z.set (i + k) ((z - (d * t + 0 + c) % 4294967296 - b) % 4294967296)).drop (i + (k + 1)) = R.drop (i + (k + 1))) := by
        show _ = _
        rw [← Nat.add_assoc, drop_set]; exact drop_succ hhigh.out
      have hL2 : Hid ((Z.set (i + k) ((z - (d * t + 0 + c) % 4294967296 - b) % 4294967296)).take i = R.take i) := by
        show _ = _
        rw [take_set_ge _ _ _ _ (by omega)]; exact hlow.out
      have pr := mul_limbs d t uD ⟨t0, t1⟩
      have s1 : 0 ≤ (d * t + 0 + c) / 4294967296 ∧ (d * t + 0 + c) / 4294967296 < 4294967296 := by omega
      have s2 : 0 ≤ (d * t + 0 + c) % 4294967296 ∧ (d * t + 0 + c) % 4294967296 < 4294967296 := by omega
      have s3 := borrowOf_range z ((d * t + 0 + c) % 4294967296) b
      have s0 : 0 ≤ (z - (d * t + 0 + c) % 4294967296 - b) % 4294967296 ∧ (z - (d * t + 0 + c) % 4294967296 - b) % 4294967296 < 4294967296 := by omega
      have HA := Lib.hid (multiplyAdd_any d t 0 c)
      simp only [Int.add_zero] at ST hD2 hL2 s0 s1 s2 s3
      obtain ⟨lo, hlo⟩ : ∃ lo, (d * t + c) % 4294967296 = lo := ⟨_, rfl⟩
      obtain ⟨hi', hhi⟩ : ∃ hi', (d * t + c) / 4294967296 = hi' := ⟨_, rfl⟩
      rw [hlo] at ST hD2 hL2 s0 s2 s3
      rw [hhi] at ST s1
      clear hc cD hd hz pr
      go_wp2_with fail
      refine (HA.out _ uD ⟨t0, t1⟩ (by omega) ⟨c0, c1⟩).mono ?_
      rintro e w' ⟨rfl, rfl⟩
      go_wp2_with fail
      refine (sub32_any z lo b _ uZ s2 ⟨b0, b1⟩).mono ?_
      rintro e w' ⟨rfl, rfl⟩
      have hZ2 := hZ.stored (i + k) s0.1 s0.2
      go_wp2
      go_roundw
      case rel => exact ⟨k + 1, _, _, _, by omega, by go_num, rfl, rfl, s1, s3, hZ2, hL2.out, hD2.out, ST.out, hO.set (i + k) _⟩
      case measure => simp [intOf] <;> omega
    · obtain rfl : k = n := by omega
      have uZ := hZ.lims.getD (i + k)
      have cZ := hZ.cellAt (i := i + k) (by omega)
      have fZ := hZ.frozenAt (i + k)
      obtain ⟨z, hz⟩ : ∃ z, R.getD (i + k) 0 = z := ⟨_, rfl⟩
      rw [getD_of_drop hhigh.out, hz] at cZ uZ
      have ST := subMul_last (Z := Z) (R := R) (D := D) (i := i) (n := k) (c := c) (b := b) (pt := pt) (by rw [hZ.len]; omega) hz uZ ⟨c0, c1⟩ ⟨b0, b1⟩ HD.out hV.out
      have s0 : 0 ≤ (z - c - b) % 4294967296 ∧ (z - c - b) % 4294967296 < 4294967296 := by omega
      have s3 := borrowOf_range z c b
      have hA := sub32_any z c b wr uZ ⟨c0, c1⟩ ⟨b0, b1⟩
      have hZ2 := hZ.stored (i + k) s0.1 s0.2
      have hD2 : Hid ((Z.set (i + k) ((z - c - b) % 4294967296)).drop (i + k + 1) = R.drop (i + k + 1)) := by
        show _ = _
        rw [drop_set]; exact drop_succ hhigh.out
      have hL2 : Hid ((Z.set (i + k) ((z - c - b) % 4294967296)).take i = R.take i) := by
        show _ = _
        rw [take_set_ge _ _ _ _ (by omega)]; exact hlow.out
      obtain ⟨b', hb'⟩ : ∃ b', borrowOf z c b = b' := ⟨_, rfl⟩
      rw [hb'] at ST s3 hA
      clear hb' hz hkn
      have hO2 := hO.set (i + k) (.int .u32 ((z - c - b) % 4294967296))
      rcases (show b' = 0 ∨ b' = 1 by omega) with rfl | rfl
      all_goals
        have HS := Lib.hid ST
        have HA := Lib.hid hA
        clear ST hA
        go_wp2_with fail
        refine HA.out.mono ?_
        rintro e w' ⟨rfl, rfl⟩
        go_wp2
        go_ret
        first
          | exact .inl ⟨_, rfl, hZ2, hL2.out, hD2.out, HS.out, hO2⟩
          | exact .inr ⟨_, rfl, hZ2, hL2.out, hD2.out, HS.out, hO2⟩

def AddBackPost (g base N C i n : Nat) (R D : List Int) (w : World) (e : Ending) (w' : World) : Prop :=
  ∃ R' o, e = .returned (.tuple #[]) ∧ Mine w' base (some ⟨g, 0, none⟩) N C R' ∧ R'.take i = R.take i ∧ R'.drop (i + n + 1) = R.drop (i + n + 1) ∧
    val (R'.take (i + n + 1)) + pw (i + n + 1) * o = val (R.take (i + n + 1)) + pw i * val D ∧ (0 ≤ o ∧ o ≤ 1) ∧ Only (some ⟨g, 0, none⟩) w w'

set_option maxHeartbeats 2000000 in
theorem addBack_any (g base N C i n wc dc : Nat) (dA : Option Addr) (R D : List Int) (w : World) (hR : Mine w base (some ⟨g, 0, none⟩) N C R) (hD : Rd w dA n dc D) (hfar : ∀ a, dA = some a → a.block ≠ g)
    (hN : i + n + 1 ≤ N) (hn : N ≤ 1000000) (hwc : n + 1 ≤ wc) :
    Calls Tryz.prog 285 #[.slice (some ⟨g, i, none⟩) (n + 1) wc, .slice dA n dc] w (AddBackPost g base N C i n R D w) := by
  have HD := Lib.hid hD.len
  go_enter Tryz.func285, Tryz.ntmps285
  go_wp2
  go_loopw [4, 9] (fun cv kv wr => ∃ (k : Nat) (c : Int) (Z : List Int), k ≤ n ∧ kv = .int .i64 k ∧ cv = .int .u32 c ∧ (0 ≤ c ∧ c ≤ 1) ∧ Mine wr base (some ⟨g, 0, none⟩) N C Z ∧
      Hid (Z.take i = R.take i) ∧ Hid (Z.drop (i + k) = R.drop (i + k)) ∧ Hid (val (Z.take (i + k)) + pw (i + k) * c = val (R.take (i + k)) + pw i * val (D.take k)) ∧ Only (some ⟨g, 0, none⟩) w wr) (fun _ kv _ => n - (intOf kv).toNat)
  case atStart => exact ⟨0, 0, R, Nat.zero_le _, rfl, rfl, by omega, hR, rfl, rfl, by show _ = _; simp [val], Only.refl _ _⟩
  case round =>
    obtain ⟨k, c, Z, hk, rfl, rfl, ⟨c0, c1⟩, hZ, hlow, hhigh, hV, hO⟩ := hrel
    by_cases hkn : k < n
    · obtain ⟨ad, rfl, _, hc⟩ := hD.at_ (by omega)
      have hne := hfar ad rfl
      have cD := hc k hkn
      have cD' : wr.cell? (ad.add k) = w.cell? (ad.add k) := hO.farCell (by rw [addr_block]; exact hne)
      rw [cD] at cD'
      have uD := hD.lims.getD k
      have uZ := hZ.lims.getD (i + k)
      have cZ := hZ.cellAt (i := i + k) (by omega)
      have fZ := hZ.frozenAt (i + k)
      obtain ⟨d, hd⟩ : ∃ d, D.getD k 0 = d := ⟨_, rfl⟩
      obtain ⟨z, hz⟩ : ∃ z, R.getD (i + k) 0 = z := ⟨_, rfl⟩
      rw [getD_of_drop hhigh.out, hz] at cZ uZ
      rw [hd] at cD' uD
      have ST := Lib.hid (addBack_step (Z := Z) (R := R) (D := D) (i := i) (k := k) (c := c) (by rw [hZ.len]; omega) hz hd hV.out)
      have hD2 : Hid ((Z.set (i + k) ((z + d + c) % 4294967296)).drop (i + (k + 1)) = R.drop (i + (k + 1))) := by
        show _ = _
        rw [← Nat.add_assoc, drop_set]; exact drop_succ hhigh.out
      have hL2 : Hid ((Z.set (i + k) ((z + d + c) % 4294967296)).take i = R.take i) := by
        show _ = _
        rw [take_set_ge _ _ _ _ (by omega)]; exact hlow.out
      have s1 : 0 ≤ (z + d + c) / 4294967296 ∧ (z + d + c) / 4294967296 ≤ 1 := by omega
      have s0 : 0 ≤ (z + d + c) % 4294967296 ∧ (z + d + c) % 4294967296 < 4294967296 := by omega
      have hZ2 := hZ.stored (i + k) s0.1 s0.2
      clear hc cD hd hz
      go_wp2_with fail
      refine (add32_any z d c _ uZ uD (by omega)).mono ?_
      rintro e w' ⟨rfl, rfl⟩
      go_wp2
      go_roundw
      case rel => exact ⟨k + 1, _, _, by omega, by go_num, rfl, s1, hZ2, hL2.out, hD2.out, ST.out, hO.set (i + k) _⟩
      case measure => simp [intOf] <;> omega
    · obtain rfl : k = n := by omega
      have uZ := hZ.lims.getD (i + k)
      have cZ := hZ.cellAt (i := i + k) (by omega)
      have fZ := hZ.frozenAt (i + k)
      obtain ⟨z, hz⟩ : ∃ z, R.getD (i + k) 0 = z := ⟨_, rfl⟩
      rw [getD_of_drop hhigh.out, hz] at cZ uZ
      have ST := Lib.hid (addBack_last (Z := Z) (R := R) (D := D) (i := i) (n := k) (c := c) (by rw [hZ.len]; omega) hz HD.out hV.out)
      have s0 : 0 ≤ (z + c) % 4294967296 ∧ (z + c) % 4294967296 < 4294967296 := by omega
      have s1 : 0 ≤ (z + c) / 4294967296 ∧ (z + c) / 4294967296 ≤ 1 := by omega
      have hZ2 := hZ.stored (i + k) s0.1 s0.2
      have hD2 : Hid ((Z.set (i + k) ((z + c) % 4294967296)).drop (i + k + 1) = R.drop (i + k + 1)) := by
        show _ = _
        rw [drop_set]; exact drop_succ hhigh.out
      have hL2 : Hid ((Z.set (i + k) ((z + c) % 4294967296)).take i = R.take i) := by
        show _ = _
        rw [take_set_ge _ _ _ _ (by omega)]; exact hlow.out
      have hO2 := hO.set (i + k) (.int .u32 ((z + c) % 4294967296))
      clear hz hkn
      go_wp2
      go_end0
      exact ⟨_, _, rfl, hZ2, hL2.out, hD2.out, ST.out, s1, hO2⟩

end Go.Proofs.YtggdhgppclnckaaGreatDoor.Q

namespace Go.Proofs.YtggdhgppclnckaaGreatDoor.Q
open Go.RowKit
set_option maxRecDepth 20000

theorem top_two {X : List Int} {m : Nat} (h : X.length = m + 2) : val X = (X.getD (m + 1) 0 * 4294967296 + X.getD m 0) * pw m + val (X.take m) := by
  have h1 := val_take_getD X (m + 1)
  rw [List.take_of_length_le (by omega), val_take_getD X m, pw_succ] at h1
  rw [h1]; grind
theorem top_three {X : List Int} {m : Nat} (h : X.length = m + 3) : val X = ((X.getD (m + 2) 0 * 4294967296 + X.getD (m + 1) 0) * 4294967296 + X.getD m 0) * pw m + val (X.take m) := by
  have h1 := val_take_getD X (m + 2)
  rw [List.take_of_length_le (by omega), val_take_getD X (m + 1), val_take_getD X m] at h1
  simp only [pw_succ] at h1
  rw [h1]; grind

/-- g is the limb of the quotient of W by V, or one more. -/
def Near (V W g : Int) : Prop := 0 ≤ g ∧ g < 4294967296 ∧ W < (g + 1) * V ∧ (g - 1) * V ≤ W
def GuessPost (V W : Int) (w : World) (e : Ending) (w' : World) : Prop := ∃ g, e = .returned (.int .u32 g) ∧ Near V W g ∧ ∃ k, w' = w.drewN k

set_option maxHeartbeats 2000000 in
theorem guess_any (gx i gd m wc dc : Nat) (X D : List Int) (w : World) (hX : Rd w (some ⟨gx, i, none⟩) (m + 3) wc X) (hD : Rd w (some ⟨gd, 0, none⟩) (m + 2) dc D) (hf : 2147483648 ≤ D.getD (m + 1) 0) (hlt : val X < val D * 4294967296) (hm : m ≤ 1000000) :
    Calls Tryz.prog 283 #[.slice (some ⟨gx, i, none⟩) (m + 3 : Nat) wc, .slice (some ⟨gd, 0, none⟩) (m + 2 : Nat) dc] w (GuessPost (val D) (val X) w) := by
  have d1 := hD.cellAt (k := m + 1) (by omega)
  have d2 := hD.cellAt (k := m) (by omega)
  have x1 := hX.cellAt (k := m + 2) (by omega)
  have x2 := hX.cellAt (k := m + 1) (by omega)
  have x3 := hX.cellAt (k := m) (by omega)
  simp only [Nat.zero_add] at d1 d2
  have uf := hD.lims.getD (m + 1)
  have us := hD.lims.getD m
  have u1 := hX.lims.getD (m + 2)
  have u2 := hX.lims.getD (m + 1)
  have u3 := hX.lims.getD m
  have hV := top_two hD.len
  have hW := top_three hX.len
  have P0 := pw_pos m
  have dl0 := val_nonneg (hD.lims.take m)
  have dl1 := val_lt (hD.lims.take m)
  have wl0 := val_nonneg (hX.lims.take m)
  have wl1 := val_lt (hX.lims.take m)
  rw [List.length_take_of_le (by rw [hD.len]; omega)] at dl1
  rw [List.length_take_of_le (by rw [hX.len]; omega)] at wl1
  have V0 : 0 < val D := by
    have h1 : 1 * pw m ≤ (D.getD (m + 1) 0 * 4294967296 + D.getD m 0) * pw m := le_mul (by omega) (by omega)
    omega
  generalize val (D.take m) = dl at *
  generalize val (X.take m) = wl at *
  generalize D.getD (m + 1) 0 = f at *
  generalize D.getD m 0 = s at *
  generalize X.getD (m + 2) 0 = a at *
  generalize X.getD (m + 1) 0 = b at *
  generalize X.getD m 0 = u at *
  obtain ⟨V, eV⟩ : ∃ V, val D = V := ⟨_, rfl⟩
  obtain ⟨W, eW⟩ : ∃ W, val X = W := ⟨_, rfl⟩
  rw [eV] at hV hlt V0 ⊢
  rw [eW] at hW hlt ⊢
  have J1 := or_join a b u1.1 u1.2 u2.1 u2.2
  obtain ⟨t, et⟩ : ∃ t, a * 4294967296 + b = t := ⟨_, rfl⟩
  have t0 : 0 ≤ t := by omega
  have t64 : t < 18446744073709551616 := by omega
  rw [et] at J1 hW
  have htop : t < (f + 1) * 4294967296 := guess_top us.2 u3.1 P0 dl1 wl0 (by rw [← hW, ← hV]; exact hlt)
  have q0 := Int.ediv_nonneg t0 (show 0 ≤ f by omega)
  have q1 : t / f ≤ 4294967297 := by
    refine Int.le_of_lt_add_one (Int.ediv_lt_of_lt_mul (by omega) ?_)
    omega
  have r0 := Int.emod_nonneg t (show f ≠ 0 by omega)
  have r1 := Int.emod_lt_of_pos t (show 0 < f by omega)
  have hqr := Int.mul_ediv_add_emod t f
  have hgt : t < (t / f + 1) * f := by rw [Int.add_mul, Int.mul_comm]; omega
  have hst : Hid (W < (t / f + 1) * V) := by
    show _ < _
    have h1 : (t * 4294967296 + u + 1) * pw m ≤ ((t / f + 1) * f * 4294967296) * pw m := le_mul (by omega) (by omega)
    have e1 : (t * 4294967296 + u + 1) * pw m = (t * 4294967296 + u) * pw m + pw m := by grind
    have h2 : (t / f + 1) * ((f * 4294967296) * pw m) ≤ (t / f + 1) * V := by
      refine le_mul' ?_ (by omega)
      rw [hV]
      have h3 : (f * 4294967296) * pw m ≤ (f * 4294967296 + s) * pw m := le_mul (by omega) (by omega)
      omega
    have e2 : (t / f + 1) * f * 4294967296 * pw m = (t / f + 1) * ((f * 4294967296) * pw m) := by grind
    omega
  have hqr' : Hid (t / f * f + t % f = t) := by show _ = _; rw [Int.mul_comm]; exact hqr
  have HV := Lib.hid hV
  have HW := Lib.hid hW
  have HT := Lib.hid htop
  have HLT := Lib.hid hlt
  clear hV hW eV eW et hqr hgt htop hlt
  have n1 : IntKind.i64.wrap ((m : Int) + 2 - 1) = (m : Int) + 1 := by rw [IntKind.wrap_i64]; omega
  have n2 : IntKind.i64.wrap ((m : Int) + 2 - 2) = (m : Int) := by rw [IntKind.wrap_i64]; omega
  have n3 : ((m : Int) + 1).toNat = m + 1 := by omega
  have n4 : ((m : Int) + 2).toNat = m + 2 := by omega
  have n5 : (0 : Int) ≤ (m : Int) + 1 := by omega
  have n6 : (m : Int) + 1 < (m : Int) + 2 := by omega
  have n7 : (m : Int) < (m : Int) + 2 := by omega
  have n8 : (m : Int) + 2 < (m : Int) + 3 := by omega
  have n9 : (m : Int) + 1 < (m : Int) + 3 := by omega
  have n10 : (m : Int) < (m : Int) + 3 := by omega
  generalize pw m = P at *
  go_enter Tryz.func283, Tryz.ntmps283
  go_wp2_with fail
  go_quiet (fail)
  go_wp2_with fail
  go_quiet (fail)
  go_wp2_with fail
  go_quiet (fail)
  go_wp2
  clear n1 n3 n4 n5 n6 n7 n8 n9 d1 d2 x1 x2 J1
  go_loopw [9, 10] (fun gv rv wr => ∃ (g r : Int) (q : Nat), gv = .int .u64 g ∧ rv = .int .u64 r ∧ (0 ≤ g ∧ g ≤ 4294967297) ∧ (0 ≤ r ∧ r < 8589934592) ∧ Hid (g * f + r = t) ∧ Hid (W < (g + 1) * V) ∧ wr = w.drewN q) (fun gv _ _ => (intOf gv).toNat)
  case atStart => exact ⟨_, _, _, rfl, rfl, ⟨q0, q1⟩, ⟨r0, by omega⟩, hqr'.out, hst.out, by rw [World.drewN_drewN, World.drewN_drewN]⟩
  case round =>
    obtain ⟨g, r, q, rfl, rfl, ⟨g0, g1⟩, ⟨r0', r1'⟩, hG, hU, rfl⟩ := hrel
    clear q0 q1 r0 r1 hst hqr'
    have hgs0 := Int.mul_nonneg g0 us.1
    have hgs1 : g * s ≤ 4294967297 * s := le_mul g1 us.1
    by_cases hr : 4294967296 ≤ r
    · have b1 : (r / 4294967296 == 0) = false := by simp; omega
      have hg : g < 4294967296 := by
        rcases Int.lt_or_le g 4294967296 with h | h
        · exact h
        · exfalso
          have h1 : 4294967296 * f ≤ g * f := le_mul h (by omega)
          have := hG.out
          have := HT.out
          omega
      have hEnd := guess_end (dl := dl) (wl := wl) (P := P) (by omega) us.1 us.2 u3.1 P0 dl0 dl1 wl0 t0 g0 hg hG.out (.inl hr)
      rw [← HV.out, ← HW.out] at hEnd
      have HE := Lib.hid hEnd
      clear hEnd
      go_wp2
      go_ret
      exact ⟨g, rfl, ⟨g0, hg, hU.out, HE.out⟩, q, rfl⟩
    · have b1 : (r / 4294967296 == 0) = true := by simp; omega
      have J2 := or_join r u r0' (by omega) u3.1 u3.2
      have hG2 : Hid ((g - 1) * f + (r + f) = t) := by show _ = _; have := hG.out; grind
      by_cases hg : 4294967296 ≤ g
      · have b2 : (g / 4294967296 != 0) = true := by simp; omega
        have hU2 : Hid (W < (g - 1 + 1) * V) := by
          show _ < _
          rw [Int.sub_add_cancel]; exact guess_over V0 HLT.out hg
        go_wp2
        go_roundw
        case rel => exact ⟨g - 1, r + f, q, rfl, rfl, by omega, by omega, hG2.out, hU2.out, rfl⟩
        case measure => simp [intOf] <;> omega
      · have b2 : (g / 4294967296 != 0) = false := by simp; omega
        by_cases hc : r * 4294967296 + u < g * s
        · have hg1 : 1 ≤ g := by
            rcases Int.lt_or_le g 1 with h | h
            · have : g = 0 := by omega
              subst this
              simp at hc
              omega
            · exact h
          have hU2 : Hid (W < (g - 1 + 1) * V) := by
            show _ < _
            rw [Int.sub_add_cancel, HW.out, HV.out]; exact guess_high g0 P0 dl0 wl1 hG.out hc
          go_wp2
          go_roundw
          case rel => exact ⟨g - 1, r + f, q, rfl, rfl, by omega, by omega, hG2.out, hU2.out, rfl⟩
          case measure => simp [intOf] <;> omega
        · have hEnd := guess_end (dl := dl) (wl := wl) (P := P) (by omega) us.1 us.2 u3.1 P0 dl0 dl1 wl0 t0 g0 (by omega) hG.out (.inr (by omega))
          rw [← HV.out, ← HW.out] at hEnd
          have HE := Lib.hid hEnd
          clear hEnd
          go_wp2
          go_ret
          exact ⟨g, rfl, ⟨g0, by omega, hU.out, HE.out⟩, q, rfl⟩

theorem guess_n (gx i gd n wc dc : Nat) (X D : List Int) (w : World) (h2 : 2 ≤ n) (hX : Rd w (some ⟨gx, i, none⟩) (n + 1) wc X) (hD : Rd w (some ⟨gd, 0, none⟩) n dc D) (hf : 2147483648 ≤ D.getD (n - 1) 0) (hlt : val X < val D * 4294967296) (hn : n ≤ 1000000) :
    Calls Tryz.prog 283 #[.slice (some ⟨gx, i, none⟩) (n + 1) wc, .slice (some ⟨gd, 0, none⟩) n dc] w (GuessPost (val D) (val X) w) := by
  obtain ⟨m, rfl⟩ : ∃ m, n = m + 2 := ⟨n - 2, by omega⟩
  exact guess_any gx i gd m wc dc X D w hX hD hf hlt (by omega)

end Go.Proofs.YtggdhgppclnckaaGreatDoor.Q

namespace Go.Proofs.YtggdhgppclnckaaGreatDoor.Q
open Go.RowKit
set_option maxRecDepth 20000

theorem val_high {R : List Int} (hR : Lims R) {k : Nat} (hk : k ≤ R.length) (h : val R < pw k) : val (R.drop k) = 0 ∧ val (R.take k) = val R := by
  have h1 := val_split R k
  rw [List.length_take_of_le hk] at h1
  have h2 := val_nonneg (hR.take k)
  have h3 := val_nonneg (hR.drop k)
  have h4 : val (R.drop k) = 0 := by
    rcases Int.lt_or_le (val (R.drop k)) 1 with h5 | h5
    · omega
    · have : pw k * 1 ≤ pw k * val (R.drop k) := le_mul' h5 (Int.le_of_lt (pw_pos k))
      omega
  rw [h4] at h1
  exact ⟨h4, by omega⟩
theorem val_window (R : List Int) (i n : Nat) (h : i + n + 1 ≤ R.length) : val (R.take (i + n + 1)) = val (R.take i) + pw i * val ((R.drop i).take (n + 1)) := by
  have e : R.take (i + n + 1) = R.take i ++ (R.drop i).take (n + 1) := by rw [Nat.add_assoc, List.take_add]
  rw [e, val_append, List.length_take_of_le (by omega)]
theorem cancel_lt {p a b : Int} (hp : 0 < p) (h : p * a < p * b) : a < b := Int.lt_of_mul_lt_mul_left h (Int.le_of_lt hp)

section
variable {T T' low p W V g q X : Int}
/-- The window less the guessed multiple, nothing borrowed. -/
theorem round_fit (p0 : 0 < p) (l1 : low < p) (hT : T = low + p * W) (hW : W < (g + 1) * V) (hX : X = T + V * (4294967296 * p * q)) (h : T' + p * g * V = T) :
    X = T' + V * (p * (g + 4294967296 * q)) ∧ T' < V * p := by
  constructor
  · rw [hX, ← h]; grind
  · have h1 : p * (W + 1) ≤ p * ((g + 1) * V) := le_mul' (by omega) (by omega)
    rw [Int.mul_add] at h1
    have e : p * ((g + 1) * V) = p * g * V + V * p := by grind
    omega
/-- The window less one multiple too many, and added back. -/
theorem round_back {P o T2 : Int} (p0 : 0 < p) (l0 : 0 ≤ low) (hT : T = low + p * W) (hW : (g - 1) * V ≤ W) (hX : X = T + V * (4294967296 * p * q)) (h : T' + p * g * V = T + P) (hlt : T' < P)
    (h2 : T2 + P * o = T' + p * V) (o0 : 0 ≤ o) (o1 : o ≤ 1) (hlt2 : T2 < P) : X = T2 + V * (p * (g - 1 + 4294967296 * q)) ∧ T2 < V * p := by
  have h3 : p * ((g - 1) * V) ≤ p * W := le_mul' hW (by omega)
  have e : p * ((g - 1) * V) = p * g * V - p * V := by grind
  have ho : o = 1 := by
    rcases Int.lt_or_le o 1 with h4 | h4
    · have : o = 0 := by omega
      subst this
      omega
    · omega
  subst ho
  have hT2 : T2 = T - p * ((g - 1) * V) := by omega
  constructor
  · rw [hX, hT2]; grind
  · have e2 : V * p = p * V := Int.mul_comm ..
    omega
end
theorem drop_set_val {Q : List Int} {i : Nat} {g : Int} (h : i < Q.length) : val ((Q.set i g).drop i) = g + 4294967296 * val (Q.drop (i + 1)) := by
  rw [List.drop_eq_getElem_cons (l := Q.set i g) (by simpa using h), val_cons, List.getElem_set_self, drop_set]

/-- The quotient and the remainder, from what the loop leaves. -/
theorem long_end {a b q r t : Int} (t0 : 0 < t) (h : a * t = r + b * t * q) (r0 : 0 ≤ r) (r1 : r < b * t) : q = a / b ∧ r / t = a % b := by
  have e : r = t * (a - b * q) := by grind
  have b0 : 0 < b := by
    rcases Int.lt_or_le 0 b with h1 | h1
    · exact h1
    · exfalso
      have : b * t ≤ 0 * t := le_mul h1 (by omega)
      omega
  have h2 : 0 ≤ a - b * q := by
    rcases Int.lt_or_le (a - b * q) 0 with h3 | h3
    · exfalso
      have : t * (a - b * q) ≤ t * (-1) := le_mul' (by omega) (by omega)
      omega
    · exact h3
  have h4 : a - b * q < b := by
    refine cancel_lt t0 ?_
    rw [← e, Int.mul_comm t b]; exact r1
  have h5 : a = (a - b * q) + b * q := by omega
  have hq : q = a / b := by
    rw [h5, Int.add_mul_ediv_left _ _ (by omega), Int.ediv_eq_zero_of_lt h2 h4]; omega
  refine ⟨hq, ?_⟩
  rw [e, Int.mul_ediv_cancel_left _ (by omega)]
  have := Int.mul_ediv_add_emod a b
  rw [← hq] at this
  omega

theorem guess_w (gx i gd n wl wc dc : Nat) (X D : List Int) (w : World) (hwl : wl = n + 1) (h2 : 2 ≤ n) (hX : Rd w (some ⟨gx, i, none⟩) (n + 1) wc X) (hD : Rd w (some ⟨gd, 0, none⟩) n dc D) (hf : 2147483648 ≤ D.getD (n - 1) 0) (hlt : val X < val D * 4294967296) (hn : n ≤ 1000000) :
    Calls Tryz.prog 283 #[.slice (some ⟨gx, i, none⟩) wl wc, .slice (some ⟨gd, 0, none⟩) n dc] w (GuessPost (val D) (val X) w) := by
  subst hwl
  exact guess_n gx i gd n wc dc X D w h2 hX hD hf hlt hn
theorem subMul_w (g base N C i n wl wc dc : Nat) (dA : Option Addr) (R D : List Int) (w : World) (t : Int) (hwl : wl = n + 1) (hR : Mine w base (some ⟨g, 0, none⟩) N C R) (hD : Rd w dA n dc D) (hfar : ∀ a, dA = some a → a.block ≠ g)
    (hN : i + n + 1 ≤ N) (hn : N ≤ 1000000) (hwc : n + 1 ≤ wc) (t0 : 0 ≤ t) (t1 : t < 4294967296) :
    Calls Tryz.prog 284 #[.slice (some ⟨g, i, none⟩) wl wc, .slice dA n dc, .int .u32 t] w (SubMulPost g base N C i n R D (pw i * t) w) := by
  subst hwl
  exact subMul_any g base N C i n wc dc dA R D w t hR hD hfar hN hn hwc t0 t1
theorem addBack_w (g base N C i n wl wc dc : Nat) (dA : Option Addr) (R D : List Int) (w : World) (hwl : wl = n + 1) (hR : Mine w base (some ⟨g, 0, none⟩) N C R) (hD : Rd w dA n dc D) (hfar : ∀ a, dA = some a → a.block ≠ g)
    (hN : i + n + 1 ≤ N) (hn : N ≤ 1000000) (hwc : n + 1 ≤ wc) :
    Calls Tryz.prog 285 #[.slice (some ⟨g, i, none⟩) wl wc, .slice dA n dc] w (AddBackPost g base N C i n R D w) := by
  subst hwl
  exact addBack_any g base N C i n wc dc dA R D w hR hD hfar hN hn hwc

def GivesQR (w : World) (q r : Int) (e : Ending) (w' : World) : Prop :=
  ∃ A n c Q B m d R, e = .returned (.tuple #[.slice A n c, .slice B m d]) ∧ Mine w' w.heap.size A n c Q ∧ Is Q q ∧ Mine w' w.heap.size B m d R ∧ Is R r ∧ Below w.heap.size w w'

set_option maxHeartbeats 4000000 in
theorem divideLong_any (A B : Option Addr) (la ca n cb : Nat) (L M : List Int) (w : World) (hr : Rd w A la ca L) (hs : Rd w B n cb M) (h2n : 2 ≤ n) (hM : trim M = M) (hle : n ≤ la) (hn : la ≤ 900000) :
    Calls Tryz.prog 276 #[.slice A la ca, .slice B n cb] w (GivesQR w (val L / val M) (val L % val M)) := by
  obtain ⟨i0, hi, hz0, hz1, hz2⟩ := info_parts info_limb
  -- the top limb of the divisor, and the shift
  obtain ⟨ab, rfl, habw, hcM⟩ := hs.at_ (by omega)
  have en : n - 1 + 1 = n := by omega
  have hpn : pw n = 4294967296 * pw (n - 1) := by rw [← pw_succ, en]
  have cM := hcM (n - 1) (by omega)
  have uM := hs.lims.getD (n - 1)
  have hne := last_ne hM (n - 1) (by rw [hs.len]; omega)
  have hMv := val_take_getD M (n - 1)
  rw [List.take_of_length_le (by rw [hs.len]; omega)] at hMv
  have hM0 := val_nonneg (hs.lims.take (n - 1))
  have hM1 := val_lt (hs.lims.take (n - 1))
  rw [List.length_take_of_le (by rw [hs.len]; omega)] at hM1
  obtain ⟨d, hd⟩ : ∃ d, M.getD (n - 1) 0 = d := ⟨_, rfl⟩
  rw [hd] at cM uM hne hMv
  have hbl : Lib.bitLen d.toNat ≤ 32 := Lib.bitLen_le d.toNat 32 (by decide) (by omega)
  obtain ⟨s, hsE⟩ := Int.eq_ofNat_of_zero_le (show 0 ≤ 32 - (Lib.bitLen d.toNat : Int) by omega)
  obtain ⟨s31, t0, t1⟩ := top_shift (d := d) (s := s) (by omega) uM.2 hsE.symm
  have hlz := leading_any d w uM.1 uM.2
  rw [hsE] at hlz
  have HLZ := Lib.hid hlz
  have tp : (0 : Int) < 2 ^ s := Int.pow_pos (by decide)
  -- the shifted divisor fits into its own limbs, and its top bit is set
  have hVlt : val M * 2 ^ s < pw n := by
    have h1 : val M * 2 ^ s ≤ ((d + 1) * pw (n - 1) - 1) * 2 ^ s := by
      refine le_mul ?_ (by omega)
      rw [hMv]
      have e : (d + 1) * pw (n - 1) = pw (n - 1) + pw (n - 1) * d := by grind
      omega
    have h2 : pw (n - 1) * ((d + 1) * 2 ^ s) ≤ pw (n - 1) * 4294967296 := by
      refine le_mul' ?_ (Int.le_of_lt (pw_pos _))
      have e31 : (2 : Int) ^ s * 2 ^ (32 - s) = 4294967296 := by rw [← Int.pow_add, show s + (32 - s) = 32 from by omega]; decide
      have h3 : d * 2 ^ s < 2 ^ (32 - s) * 2 ^ s := by rw [Int.mul_comm (2 ^ (32 - s)), e31]; exact t1
      have h4 : d < 2 ^ (32 - s) := Int.lt_of_mul_lt_mul_right h3 (by omega)
      have h5 : (d + 1) * 2 ^ s ≤ 2 ^ (32 - s) * 2 ^ s := le_mul (by omega) (by omega)
      rw [Int.mul_comm (2 ^ (32 - s)), e31] at h5
      exact h5
    have e2 : ((d + 1) * pw (n - 1) - 1) * 2 ^ s = pw (n - 1) * ((d + 1) * 2 ^ s) - 2 ^ s := by grind
    rw [hpn]
    omega
  have hVge : 2147483648 * pw (n - 1) ≤ val M * 2 ^ s := by
    have h1 : pw (n - 1) * d * 2 ^ s ≤ val M * 2 ^ s := le_mul (by omega) (by omega)
    have h2 : pw (n - 1) * 2147483648 ≤ pw (n - 1) * (d * 2 ^ s) := le_mul' t0 (Int.le_of_lt (pw_pos _))
    have e : pw (n - 1) * d * 2 ^ s = pw (n - 1) * (d * 2 ^ s) := Int.mul_assoc ..
    omega
  have sp : (2 : Int) ^ s ≤ 2147483648 := by
    have h2 : (2 : Nat) ^ s ≤ 2 ^ 31 := Nat.pow_le_pow_right (by decide) s31
    have h3 : (2 : Int) ^ s ≤ 2 ^ 31 := by exact_mod_cast h2
    have e31 : (2 : Int) ^ 31 = 2147483648 := by decide
    omega
  have LT := val_lt hr.lims
  rw [hr.len] at LT
  have L0 := val_nonneg hr.lims
  obtain ⟨V, hV⟩ : ∃ V, V = val M * 2 ^ s := ⟨_, rfl⟩
  obtain ⟨X, hX⟩ : ∃ X, X = val L * 2 ^ s := ⟨_, rfl⟩
  rw [← hV] at hVlt hVge
  have hXlt : X < V * pw (la - (n - 1)) := by
    have h1 : (val L + 1) * 2 ^ s ≤ pw la * 2 ^ s := le_mul (by omega) (by omega)
    have h2 : pw la * 2 ^ s ≤ pw la * 2147483648 := le_mul' sp (Int.le_of_lt (pw_pos _))
    have h3 : 2147483648 * pw (n - 1) * pw (la - (n - 1)) ≤ V * pw (la - (n - 1)) := le_mul hVge (Int.le_of_lt (pw_pos _))
    have e : 2147483648 * pw (n - 1) * pw (la - (n - 1)) = pw la * 2147483648 := by
      rw [Int.mul_assoc, ← pw_add, show n - 1 + (la - (n - 1)) = la from by omega, Int.mul_comm]
    rw [Int.add_mul] at h1
    omega
  have V0 : 0 < V := by have := pw_pos (n - 1); omega
  have HV := Lib.hid hV
  have HX := Lib.hid hX
  have HVlt := Lib.hid hVlt
  have HVge := Lib.hid hVge
  have HXlt := Lib.hid hXlt
  have HMl := Lib.hid hs.len
  have HEN := Lib.hid en
  have HPN := Lib.hid hpn
  clear en hpn hlz hcM hd hsE hMv hM0 hM1 hVlt hVge hXlt hV hX t0 t1 sp LT hM hne hbl
  go_enter Tryz.func276, Tryz.ntmps276
  go_wp2_with fail
  refine HLZ.out.mono ?_
  rintro e w' ⟨rfl, rfl⟩
  go_wp2_with fail
  refine (shiftLeft_any _ _ _ s M w hs (by omega) s31).mono ?_
  rintro e w1 ⟨gD, S, rfl, hS, hSv, hB1⟩
  have hgD := hS.lt _ rfl
  rw [← HV.out] at hSv
  obtain ⟨D, hD⟩ : ∃ D, D = S.take n := ⟨_, rfl⟩
  have hDm := hS.take (k := n) (by omega) (by omega)
  rw [← hD] at hDm
  have hDv : Hid (val D = V) := by
    show _ = _
    rw [hD, (val_high hS.lims (by rw [hS.len]; omega) (by rw [hSv]; exact HVlt.out)).2, hSv]
  have hDt : Hid (2147483648 ≤ D.getD (n - 1) 0) := by
    show _ ≤ _
    have h1 := val_take_getD D (n - 1)
    rw [List.take_of_length_le (by rw [hDm.len]; omega), hDv.out] at h1
    have h2 := val_lt (hDm.lims.take (n - 1))
    rw [List.length_take_of_le (by rw [hDm.len]; omega)] at h2
    have h3 := HVge.out
    rcases Int.lt_or_le (D.getD (n - 1) 0) 2147483648 with h4 | h4
    · exfalso
      have h5 : pw (n - 1) * (D.getD (n - 1) 0 + 1) ≤ pw (n - 1) * 2147483648 := le_mul' (by omega) (Int.le_of_lt (pw_pos _))
      rw [Int.mul_add] at h5
      omega
    · exact h4
  clear hS hSv hD cM HLZ
  have hr1 := hr.below hB1
  go_wp2_with fail
  refine (shiftLeft_any _ _ _ s L w1 hr1 (by omega) s31).mono ?_
  rintro e w2 ⟨gR, R0, rfl, hR0, hR0v, hB2⟩
  have hgR := hR0.lt _ rfl
  have hDm2 := hDm.below hB2
  rw [← HX.out] at hR0v
  have hW2 := nextB hB1 hB2
  have HR0v := Lib.hid hR0v
  clear hr1 hDm hR0v
  go_wp2_with (at_make; refine wpList_make_full _ rfl _ _ 48 rfl w2.heap.size 146 i0 (.int .u32 0) 1 Tryz.underlying48 hi hz0 hz1 _ _ _ _ (la - n + 1) rfl rfl ?b0 ?b1 ?b2 ?b3 (Nat.le_refl _) ?_)
  case b0 => go_num
  case b1 => go_num
  case b2 => rw [hz2]; omega
  case b3 => unfold maxLen; omega
  intro w3 hown hgrow
  have hQ0 := (Mine.zero hown).more hW2.size
  have hB3 := below_of_grown hgrow
  have hR3 := (hR0.below hB3).more hB1.size
  have hD3 := hDm2.below hB3
  have hW3 := nextB hW2 hB3
  have hDR : gD ≠ gR := by omega
  have hRQ : gR ≠ w2.heap.size := by omega
  have hDQ : gD ≠ w2.heap.size := by have := hB2.size; omega
  obtain ⟨gQ, hgQ⟩ : ∃ gQ, gQ = w2.heap.size := ⟨_, rfl⟩
  have hgQw : w.heap.size ≤ gQ := by have := hW2.size; omega
  rw [← hgQ] at hQ0 hRQ hDQ ⊢
  have hgRw : w.heap.size ≤ gR := by have := hB1.size; omega
  clear hown hgrow hB1 hB2 hB3 hW2 hR0 hDm2 hgR hgD hgQ hi hz0 hz1 hz2
  go_wp2
  go_loopw [10] (fun iv wr => ∃ (k : Nat) (R Q : List Int), k ≤ la - n + 1 ∧ iv = .int .i64 ((k : Int) - 1) ∧ Mine wr w.heap.size (some ⟨gR, 0, none⟩) (la + 1) (la + 1) R ∧ Mine wr w.heap.size (some ⟨gQ, 0, none⟩) (la - n + 1) (la - n + 1) Q ∧
      Mine wr w.heap.size (some ⟨gD, 0, none⟩) n (n + 1) D ∧ Hid (X = val R + V * (pw k * val (Q.drop k))) ∧ Hid (val R < V * pw k) ∧ Below w.heap.size w wr) (fun iv _ => (intOf iv + 1).toNat)
  case atStart =>
    refine ⟨la - n + 1, R0, _, Nat.le_refl _, by go_num, hR3, hQ0, hD3, ?_, ?_, hW3⟩
    · show _ = _
      rw [List.drop_eq_nil_of_le (by simp), HR0v.out]; simp [val]
    · show _ < _
      have h1 := HXlt.out
      rw [HR0v.out, show la - n + 1 = la - (n - 1) from by omega]; exact h1
  case round =>
    obtain ⟨k, R, Q, hk, rfl, hR, hQ, hDw, hE, hlt, hB⟩ := hrel
    clear hR3 hQ0 hD3 hW3 HR0v
    by_cases h0 : k = 0
    · subst h0
      have hend := long_end (a := val L) (b := val M) (q := val Q) (r := val R) tp (by
        have h1 := hE.out
        rw [HX.out, HV.out] at h1
        simp only [pw_zero, Int.one_mul, List.drop_zero] at h1
        exact h1) (val_nonneg hR.lims) (by
        have h1 := hlt.out
        rw [pw_zero, Int.mul_one, HV.out] at h1
        exact h1)
      have hRt := (val_high hR.lims (k := n) (by rw [hR.len]; omega) (by
        have h1 := hlt.out
        have h2 := HVlt.out
        rw [pw_zero, Int.mul_one] at h1
        omega)).2
      have hQI : Is (trim Q) (val L / val M) := by
        have h1 := Is.mk_trim hQ.lims
        rw [hend.1] at h1
        exact h1
      have HE := Lib.hid hend
      have HR := Lib.hid hRt
      have HQI := Lib.hid hQI
      have HST := Lib.hid (strip_any _ _ _ _ wr.drew hQ.drew.rd)
      have hRn := hR.take (k := n) (by omega) (by omega)
      have HSH := Lib.hid (shiftRight_any _ _ _ s _ wr.drew hRn.drew.rd (by omega) s31)
      have hQd := hQ.drew
      have hBd := hB.drew
      clear hE hlt hDw hR hQ hB hRn hend hRt hQI
      go_wp2
      go_region_with (first
        | (go_at_call_of 258 gQ; refine HST.out.mono ?_; rintro e w' ⟨A1, n1, c1, rfl, hS1, rfl⟩)
        | (go_at_call 286; refine HSH.out.mono ?_; rintro e w5 ⟨A2, c2, S2, rfl, hS2, hv2, hB2⟩)
        | (go_at_call 258; refine (strip_any _ _ _ _ _ hS2.rd).mono ?_; rintro e w' ⟨A3, n3, c3, rfl, hS3, rfl⟩))
      all_goals
        have hI2 := Is.mk_trim hS2.lims
        rw [hv2, HR.out, HE.out.2] at hI2
        have HI2 := Lib.hid hI2
        have hM1 := (hS1.mine hQd).below hB2
        have hM3 := (hS3.mine hS2).more hBd.size
        have hB4 := hBd.trans (hB2.mono hBd.size)
        clear hI2 hv2 hS1 hS2 hS3
        go_wp2
        go_ret2
        exact ⟨A1, n1, c1, _, A3, n3, c3, _, rfl, hM1, HQI.out, hM3, HI2.out, hB4⟩
    · obtain ⟨i, rfl⟩ : ∃ i, k = i + 1 := ⟨k - 1, by omega⟩
      have hin : i + n + 1 ≤ la + 1 := by omega
      have hRl := hR.len
      have HRl := Lib.hid hRl
      have hhigh := val_high hR.lims (k := i + n + 1) (by omega) (by
        have h1 : V * pw (i + 1) ≤ pw n * pw (i + 1) := le_mul (Int.le_of_lt HVlt.out) (Int.le_of_lt (pw_pos _))
        rw [← pw_add, show n + (i + 1) = i + n + 1 from by omega] at h1
        have := hlt.out
        omega)
      have hwin := val_window R i n (by omega)
      have hwr := hR.window (i := i) (k := n + 1) (by omega) (by omega)
      have hWlt : val ((R.drop i).take (n + 1)) < val D * 4294967296 := by
        refine cancel_lt (pw_pos i) ?_
        have h1 := val_nonneg (hR.lims.take i)
        have h2 := hlt.out
        rw [pw_succ] at h2
        have e : pw i * (val D * 4294967296) = V * (4294967296 * pw i) := by rw [hDv.out]; grind
        rw [hhigh.2] at hwin
        omega
      have hg := guess_w gR i gD n (i + n + 1 - i) (la + 1 - i) (n + 1) _ D wr (by omega) h2n hwr hDw.rd hDt.out hWlt (by omega)
      rw [hDv.out] at hg
      have HG := Lib.hid hg
      have HH := Lib.hid hhigh
      have HWI := Lib.hid hwin
      clear hg hhigh hwin hwr hWlt hRl h0
      go_wp2_with fail
      refine HG.out.mono ?_
      rintro e w' ⟨q, rfl, hnear, kk, rfl⟩
      obtain ⟨q0, q1, qlo, qhi⟩ := hnear
      have HLO := Lib.hid qlo
      have HHI := Lib.hid qhi
      have hRd := hR.drewN kk
      have hQd := hQ.drewN kk
      have hDd := hDw.drewN kk
      have hBd := drewN_below hB kk
      have hlenQ := hQ.len
      have HQl := Lib.hid hlenQ
      clear qlo qhi HG hR hQ hDw hB hlenQ
      go_wp2_with fail
      refine (subMul_w gR w.heap.size (la + 1) (la + 1) i n _ (la + 1 - i) (n + 1) _ R D _ q (by omega) hRd hDd.rd (by intro a ha; injection ha with ha; rw [← ha]; exact hDR) hin (by omega) (by omega) q0 q1).mono ?_
      rintro e w4 hpost
      rcases hpost with ⟨R', rfl, hwin'⟩ | ⟨R', rfl, hwin'⟩
      · obtain ⟨hR4, hlow, hhi, hval, hO⟩ := hwin'
        have hQ4 := hQd.other hO (by intro a a' ha ha'; injection ha with ha; injection ha' with ha'; rw [← ha, ← ha']; exact hRQ)
        have hD4 := hDd.other hO (by intro a a' ha ha'; injection ha with ha; injection ha' with ha'; rw [← ha, ← ha']; exact fun e => hDR e.symm)
        have hB4 := hBd.trans (hO.below fun a ha => by injection ha with ha; rw [← ha]; exact hgRw)
        have cQ := hQ4.cellAt (i := i) (by omega)
        have fQ := hQ4.frozenAt i
        have hQ5 := hQ4.stored i q0 q1
        have hD5 := hD4.far (p := ⟨gQ, i, none⟩) (by intro a ha; injection ha with ha; rw [← ha]; exact hDQ) (.int .u32 q)
        have hR5 := hR4.far (p := ⟨gQ, i, none⟩) (by intro a ha; injection ha with ha; rw [← ha]; exact hRQ) (.int .u32 q)
        have hfin : Hid (X = val R' + V * (pw i * val ((Q.set i q).drop i)) ∧ val R' < V * pw i) := by
          show _ ∧ _
          have h1 : val R' = val (R'.take (i + n + 1)) := by
            have h2 := val_split R' (i + n + 1)
            rw [hhi, HH.out.1] at h2
            omega
          rw [drop_set_val (by rw [HQl.out]; omega), h1]
          refine round_fit (pw_pos i) ?_ HWI.out HLO.out ?_ ?_
          · have := val_lt (hRd.lims.take i)
            rwa [List.length_take_of_le (by rw [HRl.out]; omega)] at this
          · rw [HH.out.2, hE.out, pw_succ]
          · rw [hDv.out] at hval; omega
        clear hval hhi hlow hRd hQd hDd hBd
        generalize Q.getD i 0 = y at *
        go_wp2
        go_roundw
        case rel => exact ⟨i, R', _, by omega, by go_num, hR5, hQ5, hD5, hfin.out.1, hfin.out.2, hB4.setCell hgQw _⟩
        case measure => simp [intOf] <;> omega
      · obtain ⟨hR4, hlow, hhi, hval, hO⟩ := hwin'
        have hQ4 := hQd.other hO (by intro a a' ha ha'; injection ha with ha; injection ha' with ha'; rw [← ha, ← ha']; exact hRQ)
        have hD4 := hDd.other hO (by intro a a' ha ha'; injection ha with ha; injection ha' with ha'; rw [← ha, ← ha']; exact fun e => hDR e.symm)
        have hB4 := hBd.trans (hO.below fun a ha => by injection ha with ha; rw [← ha]; exact hgRw)
        have hlow2 := val_lt (hRd.lims.take i)
        rw [List.length_take_of_le (by rw [HRl.out]; omega)] at hlow2
        have hT1 := val_lt (hR4.lims.take (i + n + 1))
        rw [List.length_take_of_le (by rw [hR4.len]; omega)] at hT1
        have hlow0 := val_nonneg (hRd.lims.take i)
        have hT0 := val_nonneg (hRd.lims.take (i + n + 1))
        have q2 : 1 ≤ q := by
          rcases Int.lt_or_le q 1 with h | h
          · exfalso
            have : q = 0 := by omega
            subst this
            simp only [Int.mul_zero, Int.zero_mul, Int.add_zero, Int.mul_one] at hval
            omega
          · exact h
        have HVAL := Lib.hid hval
        have HT1 := Lib.hid hT1
        have HL2 := Lib.hid hlow2
        have HHI2 := Lib.hid hhi
        clear hval hT1 hlow2 hlow0 hT0 hhi hlow
        go_wp2_with fail
        refine (addBack_w gR w.heap.size (la + 1) (la + 1) i n _ (la + 1 - i) (n + 1) _ R' D _ (by omega) hR4 hD4.rd (by intro a ha; injection ha with ha; rw [← ha]; exact hDR) hin (by omega) (by omega)).mono ?_
        rintro e w5 ⟨R2, o, rfl, hR5, _, hhi3, hval3, ⟨o0, o1⟩, hO5⟩
        have hQ5 := hQ4.other hO5 (by intro a a' ha ha'; injection ha with ha; injection ha' with ha'; rw [← ha, ← ha']; exact hRQ)
        have hD5 := hD4.other hO5 (by intro a a' ha ha'; injection ha with ha; injection ha' with ha'; rw [← ha, ← ha']; exact fun e => hDR e.symm)
        have hB5 := hB4.trans (hO5.below fun a ha => by injection ha with ha; rw [← ha]; exact hgRw)
        have cQ := hQ5.cellAt (i := i) (by omega)
        have fQ := hQ5.frozenAt i
        have hQ6 := hQ5.stored i (x := q - 1) (by omega) (by omega)
        have hD6 := hD5.far (p := ⟨gQ, i, none⟩) (by intro a ha; injection ha with ha; rw [← ha]; exact hDQ) (.int .u32 (q - 1))
        have hR6 := hR5.far (p := ⟨gQ, i, none⟩) (by intro a ha; injection ha with ha; rw [← ha]; exact hRQ) (.int .u32 (q - 1))
        have hfin : Hid (X = val R2 + V * (pw i * val ((Q.set i (q - 1)).drop i)) ∧ val R2 < V * pw i) := by
          show _ ∧ _
          have h1 : val R2 = val (R2.take (i + n + 1)) := by
            have h2 := val_split R2 (i + n + 1)
            rw [hhi3, HHI2.out, HH.out.1] at h2
            omega
          have h3 := val_lt (hR5.lims.take (i + n + 1))
          rw [List.length_take_of_le (by rw [hR5.len]; omega)] at h3
          rw [drop_set_val (by rw [HQl.out]; omega), h1]
          refine round_back (P := pw (i + n + 1)) (o := o) (T' := val (R'.take (i + n + 1))) (pw_pos i) (val_nonneg (hRd.lims.take i)) HWI.out HHI.out ?_ ?_ HT1.out ?_ o0 o1 h3
          · rw [HH.out.2, hE.out, pw_succ]
          · have := HVAL.out
            rw [hDv.out] at this
            omega
          · rw [hDv.out] at hval3; exact hval3
        clear hval3 hhi3 hRd hQd hDd hBd hR4 hD4 hQ4
        generalize Q.getD i 0 = y at *
        go_wp2
        go_roundw
        case rel => exact ⟨i, R2, _, by omega, by go_num, hR6, hQ6, hD6, hfin.out.1, hfin.out.2, hB5.setCell hgQw _⟩
        case measure => simp [intOf] <;> omega

theorem divMod_long (A B : Option Addr) (n c m d : Nat) (L M : List Int) (w : World) (hr : Rd w A n c L) (hs : Rd w B m d M) (hn : n ≤ 900000) (h1 : 2 ≤ (trim M).length) (h2 : (trim M).length ≤ (trim L).length) :
    Calls Tryz.prog 265 #[.slice A n c, .slice B m d] w (Gives2 w (val L / val M) (val L % val M)) := by
  have y1 := trim_length_le L
  rw [hr.len] at y1
  go_enter Tryz.func265, Tryz.ntmps265
  go_wp2_with fail
  refine (strip_any A n c L w hr).mono ?_
  rintro e w' ⟨A', n', c', rfl, hS, rfl⟩
  have hr' := hS.rd hr
  have l1 := hr'.len
  clear hS
  go_wp2_with fail
  refine (strip_any B m d M w hs).mono ?_
  rintro e w' ⟨B', m', d', rfl, hS, rfl⟩
  have hs' := hS.rd hs
  have l2 := hs'.len
  have hcap := hr'.cap
  have htop := hr'.top
  unfold maxLen at htop
  have b1 : 2 ≤ m' := by omega
  have b2 : m' ≤ n' := by omega
  have b3 : n' ≤ 900000 := by omega
  have hz : ((m' : Int) == 0) = false := by simp; omega
  have hz1 : ((m' : Int) == 1) = false := by simp; omega
  have HD := divideLong_any A' B' n' c' m' d' (trim L) (trim M) w hr' hs' b1 (trim_trim M) b2 b3
  rw [val_trim, val_trim] at HD
  have HDH := Lib.hid HD
  clear HD hS l1 l2 h1 h2 y1
  go_wp2_with fail
  refine HDH.out.mono ?_
  rintro e w1 ⟨A1, n1, c1, Q, A2, n2, c2, R, rfl, hQ, iQ, hR, iR, hB⟩
  have IQ := Lib.hid iQ
  have IR := Lib.hid iR
  clear iQ iR
  go_wp2
  go_ret3
  exact ⟨A1, n1, c1, Q, A2, n2, c2, R, rfl, hQ, IQ.out, hR, IR.out, hB⟩

/-- natural.DivMod, whatever the divisor but zero. -/
theorem divMod_any (A B : Option Addr) (n c m d : Nat) (L M : List Int) (w : World) (hr : Rd w A n c L) (hs : Rd w B m d M) (hn : n ≤ 900000) (h0 : val M ≠ 0) :
    Calls Tryz.prog 265 #[.slice A n c, .slice B m d] w (Gives2 w (val L / val M) (val L % val M)) := by
  rcases Nat.lt_or_ge (trim L).length (trim M).length with h1 | h1
  · exact divMod_less A B n c m d L M w hr hs (by omega) h1
  · match h2 : (trim M).length with
    | 0 =>
      exfalso
      have h3 : trim M = [] := List.eq_nil_of_length_eq_zero h2
      have h4 := val_trim M
      rw [h3] at h4
      exact h0 h4.symm
    | 1 => exact divMod_one A B n c m d L M w hr hs (by omega) (by omega) h2
    | k + 2 => exact divMod_long A B n c m d L M w hr hs hn (by omega) h1

end Go.Proofs.YtggdhgppclnckaaGreatDoor.Q
