/-
  What the rows of numbers and fractions of the reference need, part A.
-/
import Derived.Below
import Derived.Laws.OwnMore
import Derived.Deep.AppendLies
import Derived.Deep.Draws
import Derived.OwnWalk
import Derived.Lib.Hide
import Derived.Test.YtklndjkblfncjaaGreatDoorChecked
import Derived.WalkKit
import Derived.Handy
import Derived.Outline
import Derived.Laws.BitsAllLaws
import Derived.Laws.BitsLemmas
import Derived.BigQuiet
import Derived.Deep.QuietTactic
import Derived.Laws.AppendOwnNone
import Derived.Lib.BitFns
import Derived.WalkSpells
import Derived.Laws.IdiomStrings
import Derived.Deep.LoopGhost
import Derived.WalkMore
import Derived.Deep.RegionWith
namespace Go.Proofs.YtklndjkblfncjaaGreatDoor.Q

/-- The number that a list of limbs stands for, the least significant limb first. -/
def val : List Int → Int
  | [] => 0
  | x :: xs => x + 4294967296 * val xs
/-- Each limb has 32 bits. -/
def Lims (l : List Int) : Prop := ∀ x ∈ l, 0 ≤ x ∧ x < 4294967296
/-- The list without the zeros at its end. -/
def trim : List Int → List Int
  | [] => []
  | x :: xs => if trim xs = [] ∧ x = 0 then [] else x :: trim xs
/-- 4294967296 to the power n. -/
def pw : Nat → Int
  | 0 => 1
  | n + 1 => 4294967296 * pw n

theorem val_cons (x : Int) (xs : List Int) : val (x :: xs) = x + 4294967296 * val xs := rfl
theorem pw_zero : pw 0 = 1 := rfl
theorem pw_succ (n : Nat) : pw (n + 1) = 4294967296 * pw n := rfl
theorem pw_pos (n : Nat) : 0 < pw n := by
  induction n with
  | zero => decide
  | succ n ih => rw [pw_succ]; omega
theorem pw_add (m n : Nat) : pw (m + n) = pw m * pw n := by
  induction n with
  | zero => simp [pw]
  | succ n ih => rw [← Nat.add_assoc, pw_succ, pw_succ, ih]; grind
theorem Lims.nil : Lims [] := by intro x h; cases h
theorem Lims.cons {x : Int} {xs : List Int} (h0 : 0 ≤ x) (h1 : x < 4294967296) (h : Lims xs) : Lims (x :: xs) := by
  intro y hy
  rcases List.mem_cons.1 hy with rfl | hy
  · exact ⟨h0, h1⟩
  · exact h y hy
theorem Lims.head {x : Int} {xs : List Int} (h : Lims (x :: xs)) : 0 ≤ x ∧ x < 4294967296 := h x (List.mem_cons_self ..)
theorem Lims.tail {x : Int} {xs : List Int} (h : Lims (x :: xs)) : Lims xs := fun y hy => h y (List.mem_cons_of_mem _ hy)
theorem Lims.append {a b : List Int} (ha : Lims a) (hb : Lims b) : Lims (a ++ b) := by
  intro x hx
  rcases List.mem_append.1 hx with h | h
  · exact ha x h
  · exact hb x h
theorem Lims.left {a b : List Int} (h : Lims (a ++ b)) : Lims a := fun x hx => h x (List.mem_append_left _ hx)
theorem Lims.right {a b : List Int} (h : Lims (a ++ b)) : Lims b := fun x hx => h x (List.mem_append_right _ hx)
theorem Lims.take {a : List Int} (h : Lims a) (n : Nat) : Lims (a.take n) := fun x hx => h x (List.mem_of_mem_take hx)
theorem Lims.drop {a : List Int} (h : Lims a) (n : Nat) : Lims (a.drop n) := fun x hx => h x (List.mem_of_mem_drop hx)
theorem Lims.getD {a : List Int} (h : Lims a) (i : Nat) : 0 ≤ a.getD i 0 ∧ a.getD i 0 < 4294967296 := by
  by_cases hi : i < a.length
  · rw [List.getD_eq_getElem?_getD, List.getElem?_eq_getElem hi]; exact h _ (List.getElem_mem hi)
  · rw [List.getD_eq_getElem?_getD, List.getElem?_eq_none (by omega)]; decide
theorem Lims.get {a : List Int} (h : Lims a) (i : Nat) (hi : i < a.length) : 0 ≤ a[i] ∧ a[i] < 4294967296 := h _ (List.getElem_mem hi)
theorem Lims.set {a : List Int} (h : Lims a) (i : Nat) {x : Int} (h0 : 0 ≤ x) (h1 : x < 4294967296) : Lims (a.set i x) := by
  intro y hy
  rcases List.mem_or_eq_of_mem_set hy with hy | rfl
  · exact h y hy
  · exact ⟨h0, h1⟩
theorem Lims.replicate (n : Nat) : Lims (List.replicate n 0) := by
  intro x hx
  rw [List.eq_of_mem_replicate hx]; decide
theorem val_nonneg {l : List Int} (h : Lims l) : 0 ≤ val l := by
  induction l with
  | nil => exact Int.le_refl 0
  | cons x xs ih => have := ih h.tail; have := h.head; rw [val_cons]; omega
theorem val_lt {l : List Int} (h : Lims l) : val l < pw l.length := by
  induction l with
  | nil => decide
  | cons x xs ih => have := ih h.tail; have := h.head; rw [val_cons, List.length_cons, pw_succ]; omega
theorem val_append (a b : List Int) : val (a ++ b) = val a + pw a.length * val b := by
  induction a with
  | nil => simp [val, pw]
  | cons x xs ih => rw [List.cons_append, val_cons, ih, val_cons, List.length_cons, pw_succ]; grind
theorem val_snoc (a : List Int) (x : Int) : val (a ++ [x]) = val a + pw a.length * x := by rw [val_append]; simp [val]
theorem val_split (l : List Int) (k : Nat) : val l = val (l.take k) + pw (l.take k).length * val (l.drop k) := by
  rw [← val_append, List.take_append_drop]
theorem val_take_succ (l : List Int) (k : Nat) (h : k < l.length) : val (l.take (k + 1)) = val (l.take k) + pw k * l[k] := by
  rw [List.take_succ_eq_append_getElem h, val_snoc, List.length_take_of_le (by omega)]
theorem val_trim (l : List Int) : val (trim l) = val l := by
  induction l with
  | nil => rfl
  | cons x xs ih =>
    unfold trim
    split
    · next h => rw [val_cons, ← ih, h.1, h.2]; rfl
    · rw [val_cons, ih, val_cons]
theorem trim_of_zero {l : List Int} (h : Lims l) (hv : val l = 0) : trim l = [] := by
  induction l with
  | nil => rfl
  | cons x xs ih =>
    have h1 := h.head
    have h2 := val_nonneg h.tail
    rw [val_cons] at hv
    have hx : x = 0 := by omega
    have hxs : val xs = 0 := by omega
    unfold trim
    rw [if_pos ⟨ih h.tail hxs, hx⟩]
theorem trim_unique {a b : List Int} (ha : Lims a) (hb : Lims b) (h : val a = val b) : trim a = trim b := by
  induction a generalizing b with
  | nil => rw [trim_of_zero hb (by rw [← h]; rfl)]; rfl
  | cons x xs ih =>
    match b with
    | [] => rw [trim_of_zero ha (by rw [h]; rfl)]; rfl
    | y :: ys =>
      have h1 := ha.head
      have h2 := hb.head
      rw [val_cons, val_cons] at h
      have hx : x = y := by omega
      have hv : val xs = val ys := by omega
      unfold trim
      rw [ih ha.tail hb.tail hv, hx]
theorem trim_trim (l : List Int) : trim (trim l) = trim l := by
  induction l with
  | nil => rfl
  | cons x xs ih =>
    have e : trim (x :: xs) = if trim xs = [] ∧ x = 0 then [] else x :: trim xs := rfl
    rw [e]
    split
    · rfl
    · next h =>
      show (if trim (trim xs) = [] ∧ x = 0 then [] else x :: trim (trim xs)) = x :: trim xs
      rw [ih, if_neg h]
theorem trim_length_le (l : List Int) : (trim l).length ≤ l.length := by
  induction l with
  | nil => exact Nat.le_refl _
  | cons x xs ih =>
    unfold trim
    split
    · simp
    · simp; exact ih
theorem trim_take (l : List Int) : trim l = l.take (trim l).length := by
  induction l with
  | nil => rfl
  | cons x xs ih =>
    unfold trim
    split
    · rfl
    · rw [List.length_cons, List.take_succ_cons, ← ih]
theorem Lims.trim {l : List Int} (h : Lims l) : Lims (trim l) := by rw [trim_take]; exact h.take _
theorem trim_snoc_zero (l : List Int) : trim (l ++ [0]) = trim l := by
  induction l with
  | nil => rfl
  | cons x xs ih => rw [List.cons_append]; unfold trim; rw [ih]
theorem trim_snoc_ne (l : List Int) (x : Int) (h : x ≠ 0) : trim (l ++ [x]) = l ++ [x] := by
  induction l with
  | nil => simp [trim, h]
  | cons y ys ih => rw [List.cons_append]; unfold trim; rw [ih]; simp
/-- L is the list of the limbs of n, without zeros at its end. -/
structure Is (L : List Int) (n : Int) : Prop where
  lims : Lims L
  nrm : trim L = L
  eq : val L = n
theorem Is.unique {L M : List Int} {n : Int} (h : Is L n) (k : Is M n) : L = M := by
  rw [← h.nrm, ← k.nrm]; exact trim_unique h.lims k.lims (h.eq.trans k.eq.symm)
theorem Is.mk_trim {l : List Int} (h : Lims l) : Is (trim l) (val l) := ⟨h.trim, trim_trim l, val_trim l⟩
theorem Is.zero : Is [] 0 := ⟨Lims.nil, rfl, rfl⟩
theorem Is.nonneg {L : List Int} {n : Int} (h : Is L n) : 0 ≤ n := by rw [← h.eq]; exact val_nonneg h.lims
theorem Is.lt {L : List Int} {n : Int} (h : Is L n) : n < pw L.length := by rw [← h.eq]; exact val_lt h.lims
theorem Is.eq_of_nil {n : Int} (h : Is [] n) : n = 0 := by rw [← h.eq]; rfl
/-- The last limb of a list without zeros at its end is not zero. -/
theorem last_ne {l : List Int} (h : trim l = l) (k : Nat) (hk : l.length = k + 1) : l.getD k 0 ≠ 0 := by
  intro h0
  have hs : l = l.take k ++ [0] := by
    have h1 := List.take_append_drop k l
    have h2 : l.drop k = [0] := by
      rw [List.drop_eq_getElem_cons (by omega), List.drop_eq_nil_of_le (by omega)]
      rw [List.getD_eq_getElem?_getD, List.getElem?_eq_getElem (by omega)] at h0
      simpa using h0
    rw [h2] at h1; exact h1.symm
  have h3 := trim_length_le (l.take k)
  have h4 : trim l = trim (l.take k) := by
    have := congrArg trim hs
    rwa [trim_snoc_zero] at this
  rw [h] at h4
  rw [← h4, List.length_take] at h3
  omega
theorem Is.ge {L : List Int} {n : Int} (h : Is L n) {k : Nat} (hk : L.length = k + 1) : pw k ≤ n := by
  have h1 := last_ne h.nrm k hk
  have h2 : 0 ≤ L.getD k 0 := (h.lims.getD k).1
  have h3 := val_take_succ L k (by omega)
  rw [List.take_of_length_le (by omega), h.eq] at h3
  have h4 := val_nonneg (h.lims.take k)
  have h5 : L.getD k 0 = L[k] := by rw [List.getD_eq_getElem?_getD, List.getElem?_eq_getElem (by omega)]; rfl
  rw [h5] at h1 h2
  have h6 := pw_pos k
  have h7 : pw k * 1 ≤ pw k * L[k] := Int.mul_le_mul_of_nonneg_left (by omega) (by omega)
  omega
theorem pw_mono {m n : Nat} (h : m ≤ n) : pw m ≤ pw n := by
  obtain ⟨k, rfl⟩ := Nat.exists_eq_add_of_le h
  have h1 := pw_pos m
  have h2 := pw_pos k
  rw [pw_add]
  have : pw m * 1 ≤ pw m * pw k := Int.mul_le_mul_of_nonneg_left (by omega) (by omega)
  omega
/-- A shorter number is less. -/
theorem Is.lt_of_length {L M : List Int} {m n : Int} (h : Is L m) (k : Is M n) (hl : L.length < M.length) : m < n := by
  have h1 := h.lt
  obtain ⟨j, hj⟩ : ∃ j, M.length = j + 1 := ⟨M.length - 1, by omega⟩
  have h2 := k.ge hj
  have h3 := pw_mono (m := L.length) (n := j) (by omega)
  omega

theorem getD_of_lt (L : List Int) (k : Nat) (h : k < L.length) : L.getD k 0 = L[k] := by
  rw [List.getD_eq_getElem?_getD, List.getElem?_eq_getElem h]; rfl
/-- How two numbers compare: -1, 0 or 1. -/
def cmpZ (a b : Int) : Int := if a < b then -1 else if b < a then 1 else 0
theorem cmpZ_lt {a b : Int} (h : a < b) : cmpZ a b = -1 := by unfold cmpZ; rw [if_pos h]
theorem cmpZ_gt {a b : Int} (h : b < a) : cmpZ a b = 1 := by unfold cmpZ; rw [if_neg (by omega), if_pos h]
theorem cmpZ_eq {a b : Int} (h : a = b) : cmpZ a b = 0 := by unfold cmpZ; rw [if_neg (by omega), if_neg (by omega)]
theorem drop_val (L : List Int) (k : Nat) (h : k < L.length) : val L = val (L.take k) + pw k * (L.getD k 0) + pw (k + 1) * val (L.drop (k + 1)) := by
  have h1 := val_split L (k + 1)
  rw [val_take_succ L k h, List.length_take_of_le (by omega)] at h1
  rw [h1, getD_of_lt L k h]
/-- The limbs above place k agree, and the one at k is less: the number is less. -/
theorem val_lt_at {L M : List Int} (hL : Lims L) (hM : Lims M) (k : Nat) (h1 : k < L.length) (h2 : k < M.length) (hd : val (L.drop (k + 1)) = val (M.drop (k + 1))) (hx : L.getD k 0 < M.getD k 0) : val L < val M := by
  rw [drop_val L k h1, drop_val M k h2, hd]
  have a1 := val_lt (hL.take k)
  rw [List.length_take_of_le (by omega)] at a1
  have a2 := val_nonneg (hM.take k)
  have a3 := pw_pos k
  have a4 : pw k * (L.getD k 0 + 1) ≤ pw k * M.getD k 0 := Int.mul_le_mul_of_nonneg_left (by omega) (by omega)
  rw [Int.mul_add] at a4
  omega

theorem val_take_getD (L : List Int) (k : Nat) : val (L.take (k + 1)) = val (L.take k) + pw k * L.getD k 0 := by
  by_cases h : k < L.length
  · rw [val_take_succ L k h, getD_of_lt L k h]
  · rw [List.take_of_length_le (by omega), List.take_of_length_le (by omega), List.getD_eq_getElem?_getD, List.getElem?_eq_none (by omega)]; simp
theorem take_set_succ (S : List Int) (k : Nat) (x : Int) (h : k < S.length) : (S.set k x).take (k + 1) = S.take k ++ [x] := by
  rw [List.take_succ_eq_append_getElem (by simpa using h), List.getElem_set_self, List.take_set_of_le (Nat.le_refl k)]
theorem val_set_take (S : List Int) (k : Nat) (x : Int) (h : k < S.length) : val ((S.set k x).take (k + 1)) = val (S.take k) + pw k * x := by
  rw [take_set_succ S k x h, val_snoc, List.length_take_of_le (by omega)]
theorem getD_ge (L : List Int) (k : Nat) (h : L.length ≤ k) : L.getD k 0 = 0 := by
  rw [List.getD_eq_getElem?_getD, List.getElem?_eq_none h]; rfl
/-- One round of an addition: the sums of the limbs below k, and the carry. -/
theorem add_step {S P Q : List Int} {k : Nat} {cr u v : Int} (hk : k < S.length) (hu : P.getD k 0 = u) (hv : Q.getD k 0 = v)
    (h : val (S.take k) + pw k * cr = val (P.take k) + val (Q.take k)) :
    val ((S.set k ((u + v + cr) % 4294967296)).take (k + 1)) + pw (k + 1) * ((u + v + cr) / 4294967296) = val (P.take (k + 1)) + val (Q.take (k + 1)) := by
  rw [val_set_take S k _ hk, val_take_getD P, val_take_getD Q, hu, hv, pw_succ]
  have e : u + v + cr = (u + v + cr) % 4294967296 + 4294967296 * ((u + v + cr) / 4294967296) := by omega
  generalize (u + v + cr) % 4294967296 = r at *
  generalize (u + v + cr) / 4294967296 = q at *
  have : pw k * (u + v + cr) = pw k * (r + 4294967296 * q) := by rw [e]
  grind
theorem add_last {S : List Int} {p : Nat} {cr m : Int} (hS : S.length = p + 1) (h : val (S.take p) + pw p * cr = m) : val (S.set p cr) = m := by
  have h1 := val_set_take S p cr (by omega)
  rw [List.take_of_length_le (by simp [hS])] at h1
  omega

/-- The borrow out of x - y - c. -/
def borrowOf (x y c : Int) : Int := if x < y + c then 1 else 0
theorem borrowOf_eq (x y c : Int) (x0 : 0 ≤ x) (x1 : x < 4294967296) (y0 : 0 ≤ y) (y1 : y < 4294967296) (c0 : 0 ≤ c) (c1 : c < 2) :
    (x - y - c) % 4294967296 = x - y - c + 4294967296 * borrowOf x y c := by
  unfold borrowOf; split <;> omega
theorem drop_set (S : List Int) (k : Nat) (x : Int) : (S.set k x).drop (k + 1) = S.drop (k + 1) := List.drop_set_of_lt (by omega)
theorem getD_of_drop {S P : List Int} {k : Nat} (h : S.drop k = P.drop k) : S.getD k 0 = P.getD k 0 := by
  have e : ∀ l : List Int, l.getD k 0 = ((l.drop k)[0]?).getD 0 := fun l => by rw [List.getElem?_drop, List.getD_eq_getElem?_getD]; rfl
  rw [e, e, h]
theorem drop_succ {S P : List Int} {k : Nat} (h : S.drop k = P.drop k) : S.drop (k + 1) = P.drop (k + 1) := by
  have e : ∀ l : List Int, l.drop (k + 1) = (l.drop k).drop 1 := fun l => by rw [List.drop_drop]
  rw [e, e, h]
theorem is_one {x : Int} (x0 : 0 < x) (x1 : x < 4294967296) : Is [x] x := by
  refine ⟨Lims.cons (by omega) x1 Lims.nil, ?_, by simp [val]⟩
  simp [trim]; omega

end Go.Proofs.YtklndjkblfncjaaGreatDoor.Q
namespace Go.Proofs.YtklndjkblfncjaaGreatDoor.Q
open Go.RowKit
set_option maxRecDepth 20000

theorem addr_block (p : Addr) (k : Nat) : (p.add k).block = p.block := by
  rw [Addr.add]; split
  · rfl
  · rfl

/-- The limbs as the cells hold them. -/
def cells (L : List Int) : List Value := L.map (Value.int .u32)
theorem cells_length (L : List Int) : (cells L).length = L.length := List.length_map ..
theorem cells_get (L : List Int) (i : Nat) (h : i < L.length) : (cells L)[i]? = some (.int .u32 (L.getD i 0)) := by
  unfold cells
  rw [List.getElem?_map, List.getElem?_eq_getElem h, List.getD_eq_getElem?_getD, List.getElem?_eq_getElem h]; rfl

/-- The slice value with address A, length n and capacity c reads as the limbs L in w. -/
structure Rd (w : World) (A : Option Addr) (n c : Nat) (L : List Int) : Prop where
  len : L.length = n
  lims : Lims L
  cap : n ≤ c
  top : c ≤ maxLen
  at_ : 0 < n → ∃ ad, A = some ad ∧ ad.block < w.heap.size ∧ ∀ i, i < n → w.cell? (ad.add i) = some (.int .u32 (L.getD i 0))

section
variable {w w' : World} {A : Option Addr} {n c : Nat} {L : List Int}
theorem Rd.nil (w : World) : Rd w none 0 0 [] := ⟨rfl, Lims.nil, Nat.le_refl _, Nat.zero_le _, fun h => absurd h (by omega)⟩
theorem Rd.keep (h : Rd w A n c L) (hs : w.heap.size ≤ w'.heap.size) (hk : ∀ p : Addr, p.block < w.heap.size → w'.cell? p = w.cell? p) : Rd w' A n c L :=
  ⟨h.len, h.lims, h.cap, h.top, fun hn => by
    obtain ⟨ad, e, hb, hc⟩ := h.at_ hn
    exact ⟨ad, e, by omega, fun i hi => (hk _ (by rw [addr_block]; exact hb)).trans (hc i hi)⟩⟩
theorem Rd.below (h : Rd w A n c L) (hb : Below w.heap.size w w') : Rd w' A n c L := h.keep hb.size fun _ hp => hb.cell hp
theorem Rd.drew (h : Rd w A n c L) : Rd w.drew A n c L := ⟨h.len, h.lims, h.cap, h.top, h.at_⟩
theorem Rd.drewN (h : Rd w A n c L) (k : Nat) : Rd (w.drewN k) A n c L := ⟨h.len, h.lims, h.cap, h.top, h.at_⟩
theorem Rd.alloc (h : Rd w A n c L) (o : Obj) : Rd (w.alloc o) A n c L := h.keep (by simp) fun p hp => World.cell?_alloc_lt w o p hp
theorem Rd.take (h : Rd w A n c L) {k : Nat} (hk : k ≤ n) : Rd w A k c (L.take k) :=
  ⟨by rw [List.length_take, h.len]; omega, h.lims.take k, Nat.le_trans hk h.cap, h.top, fun hn => by
    obtain ⟨ad, e, hb, hc⟩ := h.at_ (by omega)
    refine ⟨ad, e, hb, fun i hi => ?_⟩
    rw [hc i (by omega), List.getD_eq_getElem?_getD, List.getD_eq_getElem?_getD, List.getElem?_take_of_lt hi]⟩
theorem Rd.cast (h : Rd w A n c L) {n' : Nat} {L' : List Int} (hn : n = n') (hL : L = L') : Rd w A n' c L' := by subst hn; subst hL; exact h
end

/-- The slice value is nil, or lies at the head of a block of the call's own (base or later), and holds the limbs L. -/
structure Mine (w : World) (base : Nat) (A : Option Addr) (n c : Nat) (L : List Int) : Prop where
  row : w.ownsRow base 96 1 (.slice A n c) n (cells L)
  lims : Lims L

section
variable {w w' : World} {base : Nat} {A : Option Addr} {n c : Nat} {L : List Int}
theorem Mine.nil (w : World) (base : Nat) : Mine w base none 0 0 [] := ⟨World.ownsRow_nil w base _ _, Lims.nil⟩
theorem Mine.len (h : Mine w base A n c L) : L.length = n := by
  have := h.row.1
  rw [cells_length] at this; omega
theorem Mine.rd (h : Mine w base A n c L) : Rd w A n c L := by
  refine ⟨h.len, h.lims, ?_, ?_, fun hn => ?_⟩
  · rcases h.row.2 with ⟨e, h0⟩ | ⟨g, cap, cur, e, _, _, h1, _⟩
    · omega
    · injection e with _ _ e; subst e; exact h1
  · rcases h.row.2 with ⟨e, h0⟩ | ⟨g, cap, cur, e, _, _, _, h1, _⟩
    · injection e with _ _ e; subst e; exact Nat.zero_le _
    · injection e with _ _ e; subst e; exact h1
  · rcases h.row.2 with ⟨_, h0⟩ | ⟨g, cap, cur, e, _, hg, _⟩
    · omega
    · injection e with e _ _
      subst e
      refine ⟨_, rfl, (Array.getElem?_eq_some_iff.1 hg).1, fun i hi => ?_⟩
      exact h.row.cells (g := g) rfl i _ (cells_get L i (by rw [h.len]; exact hi))
theorem Mine.form (h : Mine w base A n c L) (hn : 0 < n) : ∃ g, A = some ⟨g, 0, none⟩ ∧ base ≤ g ∧ g < w.heap.size := by
  rcases h.row.2 with ⟨_, h0⟩ | ⟨g, cap, cur, e, hb, hg, _⟩
  · omega
  · injection e with e _ _
    exact ⟨g, e, hb, (Array.getElem?_eq_some_iff.1 hg).1⟩
theorem Mine.lt (h : Mine w base A n c L) : ∀ a, A = some a → base ≤ a.block ∧ a.block < w.heap.size := by
  rintro a rfl
  exact h.row.lt a.block rfl
/-- Whatever leaves the slice's own block alone keeps it. -/
theorem Mine.keep (h : Mine w base A n c L) (hk : ∀ a, A = some a → w'.heap[a.block]? = w.heap[a.block]?) : Mine w' base A n c L := by
  refine ⟨⟨h.row.1, ?_⟩, h.lims⟩
  rcases h.row.2 with e | ⟨g, cap, cur, e, hb, hg, rest⟩
  · exact .inl e
  · refine .inr ⟨g, cap, cur, e, hb, ?_, rest⟩
    injection e with e _ _
    rw [hk _ e]; exact hg
theorem Mine.below (h : Mine w base A n c L) (hb : Below w.heap.size w w') : Mine w' base A n c L := h.keep fun a ha => hb.block _ (h.lt a ha).2
theorem Mine.drewN (h : Mine w base A n c L) (k : Nat) : Mine (w.drewN k) base A n c L := ⟨h.row, h.lims⟩
theorem Mine.drew (h : Mine w base A n c L) : Mine w.drew base A n c L := ⟨h.row, h.lims⟩
theorem Mine.alloc (h : Mine w base A n c L) (o : Obj) : Mine (w.alloc o) base A n c L := ⟨h.row.alloc o, h.lims⟩
theorem Mine.far (h : Mine w base A n c L) {p : Addr} (hp : ∀ a, A = some a → a.block ≠ p.block) (u : Value) : Mine (w.setCell p u) base A n c L :=
  h.keep fun a ha => Below.heap_setCell _ _ _ _ (hp a ha)
theorem Mine.more (h : Mine w base A n c L) {base' : Nat} (hb : base' ≤ base) : Mine w base' A n c L := by
  refine ⟨⟨h.row.1, ?_⟩, h.lims⟩
  rcases h.row.2 with e | ⟨g, cap, cur, e, hg, rest⟩
  · exact .inl e
  · exact .inr ⟨g, cap, cur, e, Nat.le_trans hb hg, rest⟩
theorem Mine.cast (h : Mine w base A n c L) {n' : Nat} {L' : List Int} (hn : n = n') (hL : L = L') : Mine w base A n' c L' := by subst hn; subst hL; exact h
theorem Mine.take (h : Mine w base A n c L) {k : Nat} (hk : k ≤ n) (h0 : 0 < n) : Mine w base A k c (L.take k) := by
  have hl := h.len
  refine ⟨⟨by rw [cells_length, List.length_take]; omega, ?_⟩, h.lims.take k⟩
  rcases h.row.2 with ⟨_, e0⟩ | ⟨g, cap, cur, e, hb, hg, h1, h2, h3, h4⟩
  · omega
  · injection e with e1 _ e2
    subst e1; subst e2
    refine .inr ⟨g, c, cur, rfl, hb, hg, by omega, h2, h3, ?_⟩
    have : (cells L).take k = cells (L.take k) := by unfold cells; rw [List.map_take]
    rw [← this, ← h4, List.take_take]
    congr 1
    omega
section
variable {g : Nat}
theorem Mine.cellAt (h : Mine w base (some ⟨g, 0, none⟩) n c L) {i : Nat} (hi : i < n) : w.cell? ⟨g, i, none⟩ = some (.int .u32 (L.getD i 0)) := by
  have := h.row.cellAt i (by omega)
  rw [this, cells_get _ _ (by rw [h.len]; exact hi)]
theorem Mine.frozenAt (h : Mine w base (some ⟨g, 0, none⟩) n c L) (i : Nat) : w.frozen? ⟨g, i, none⟩ = false := h.row.frozenAt i
theorem Mine.stored (h : Mine w base (some ⟨g, 0, none⟩) n c L) (i : Nat) {x : Int} (x0 : 0 ≤ x) (x1 : x < 4294967296) : Mine (w.setCell ⟨g, i, none⟩ (.int .u32 x)) base (some ⟨g, 0, none⟩) n c (L.set i x) := by
  refine ⟨?_, h.lims.set i x0 x1⟩
  have : cells (L.set i x) = (cells L).set i (.int .u32 x) := by unfold cells; rw [List.map_set]
  rw [this]
  exact (h.row.stored i _).1
end
end
/-- A block that holds the limbs L, laid by the call. -/
theorem Mine.lit (w : World) {base : Nat} (hb : base ≤ w.heap.size) (cs : Array Value) (L : List Int) (hL : Lims L) (hs : cs.toList = cells L) (hm : L.length ≤ maxLen) :
    Mine (w.alloc (.cells cs 96)) base (some ⟨w.heap.size, 0, none⟩) L.length L.length L := by
  refine ⟨⟨by rw [cells_length]; omega, .inr ⟨w.heap.size, L.length, cs, rfl, hb, heap_alloc_new w _, Nat.le_refl _, hm, ?_, ?_⟩⟩, hL⟩
  · rw [Nat.mul_one, ← Array.length_toList, hs, cells_length]
  · rw [Nat.mul_one, hs, List.take_of_length_le (by rw [cells_length]; omega)]
theorem Mine.of_row {w : World} {base : Nat} {v : Value} {n : Nat} {L : List Int} (h : w.ownsRow base 96 1 v n (cells L)) (hL : Lims L) : ∃ A c, v = .slice A n c ∧ Mine w base A n c L := by
  rcases h.2 with ⟨e, h0⟩ | ⟨g, cap, cur, e, _⟩
  · subst h0
    exact ⟨none, 0, e, e ▸ h, hL⟩
  · exact ⟨_, _, e, e ▸ h, hL⟩
theorem oneCell_cells (L : List Int) : ∀ u ∈ cells L, u.oneCell' = true := ints_oneCell _ _

theorem drewN_below {B : Nat} {a w : World} (h : Below B a w) (n : Nat) : Below B a (w.drewN n) := ⟨h.os, h.tape, h.output, h.size, h.block⟩

theorem cells_zero (n : Nat) : (madeCells #[Value.int .u32 0] n).toList = cells (List.replicate n 0) := by
  rw [toList_madeCells_one, cells, List.map_replicate]
theorem Mine.zero {w : World} {base : Nat} {A : Option Addr} {n c : Nat} (h : w.ownsRow base 96 1 (.slice A n c) n (madeCells #[Value.int .u32 0] n).toList) : Mine w base A n c (List.replicate n 0) :=
  ⟨by rw [← cells_zero]; exact h, Lims.replicate n⟩
theorem below_of_grown {w w' : World} (h : w.grownBy w' none) : Below w.heap.size w w' := (Below.refl _ _).grown h (Nat.le_refl _) (fun k hk => by cases hk)

/-- Of what was there, at most the block of A is changed, and no block is new. -/
structure Only (A : Option Addr) (w w' : World) : Prop where
  os : w'.os = w.os
  tape : w'.tape = w.tape
  output : w'.output = w.output
  size : w'.heap.size = w.heap.size
  block : ∀ k, (∀ a, A = some a → a.block ≠ k) → w'.heap[k]? = w.heap[k]?
section
variable {w w' w2 : World} {A : Option Addr}
theorem Only.refl (A : Option Addr) (w : World) : Only A w w := ⟨rfl, rfl, rfl, rfl, fun _ _ => rfl⟩
theorem Only.drewN (h : Only A w w') (k : Nat) : Only A w (w'.drewN k) := ⟨h.os, h.tape, h.output, h.size, h.block⟩
theorem Only.drew (h : Only A w w') : Only A w w'.drew := ⟨h.os, h.tape, h.output, h.size, h.block⟩
theorem Only.set {g : Nat} (h : Only (some ⟨g, 0, none⟩) w w') (i : Nat) (u : Value) : Only (some ⟨g, 0, none⟩) w (w'.setCell ⟨g, i, none⟩ u) :=
  ⟨h.os, h.tape, h.output, by rw [← h.size]; simp [World.setCell], fun k hk => (Below.heap_setCell w' ⟨g, i, none⟩ u k (fun e => hk _ rfl e.symm)).trans (h.block k hk)⟩
theorem Only.below {B : Nat} (h : Only A w w') (hA : ∀ a, A = some a → B ≤ a.block) : Below B w w' :=
  ⟨h.os, h.tape, h.output, by rw [h.size]; exact Nat.le_refl _, fun k hk => h.block k (fun a ha => by have := hA a ha; omega)⟩
theorem Mine.other {base n c : Nat} {A' : Option Addr} {L : List Int} (h : Mine w base A' n c L) (ho : Only A w w') (hne : ∀ a a', A = some a → A' = some a' → a.block ≠ a'.block) : Mine w' base A' n c L :=
  h.keep fun a' ha' => ho.block _ (fun a ha => hne a a' ha ha')
end

theorem nextB {w w1 w2 : World} (h : Below w.heap.size w w1) (k : Below w1.heap.size w1 w2) : Below w.heap.size w w2 := h.trans (k.mono h.size)

theorem Only.farCell {w w' : World} {g : Nat} (h : Only (some ⟨g, 0, none⟩) w w') {p : Addr} (hp : p.block ≠ g) : w'.cell? p = w.cell? p :=
  World.cell?_of_block (h.block _ (by intro a ha; injection ha with ha; rw [← ha]; exact fun e => hp e.symm))

theorem add_plain (g i k : Nat) : (⟨g, i, none⟩ : Addr).add k = ⟨g, i + k, none⟩ := by
  rw [Addr.add]
  split
  · next h => rw [h, Nat.add_zero]
  · rfl
theorem Rd.cellAt {w : World} {g i n c : Nat} {L : List Int} (h : Rd w (some ⟨g, i, none⟩) n c L) {k : Nat} (hk : k < n) : w.cell? ⟨g, i + k, none⟩ = some (.int .u32 (L.getD k 0)) := by
  obtain ⟨ad, e, _, hc⟩ := h.at_ (by omega)
  injection e with e
  rw [← e] at hc
  have := hc k hk
  rwa [add_plain] at this
theorem Mine.window {w : World} {base g N C i k : Nat} {R : List Int} (h : Mine w base (some ⟨g, 0, none⟩) N C R) (hk : i + k ≤ N) (hC : i ≤ C) : Rd w (some ⟨g, i, none⟩) k (C - i) ((R.drop i).take k) := by
  have hl := h.len
  have hc := h.rd.cap
  refine ⟨by rw [List.length_take, List.length_drop]; omega, (h.lims.drop i).take k, by omega, by have := h.rd.top; omega, fun h0 => ⟨_, rfl, (h.lt _ rfl).2, fun j hj => ?_⟩⟩
  rw [add_plain, h.cellAt (by omega)]
  rw [List.getD_eq_getElem?_getD, List.getD_eq_getElem?_getD, List.getElem?_take_of_lt hj, List.getElem?_drop]

end Go.Proofs.YtklndjkblfncjaaGreatDoor.Q

namespace Go.Proofs.YtklndjkblfncjaaGreatDoor.Q
open Go.RowKit
set_option maxRecDepth 20000

/-- What strip hands back for the slice (A, n, c) that reads as L. -/
def Stripped (A : Option Addr) (c : Nat) (L : List Int) (A' : Option Addr) (n' c' : Nat) : Prop :=
  n' = (trim L).length ∧ ((n' = 0 ∧ A' = none ∧ c' = 0) ∨ (0 < n' ∧ A' = A ∧ c' = c))
theorem Stripped.rd {w : World} {A A' : Option Addr} {n c n' c' : Nat} {L : List Int} (h : Stripped A c L A' n' c') (hr : Rd w A n c L) : Rd w A' n' c' (trim L) := by
  obtain ⟨hn, ⟨h0, rfl, rfl⟩ | ⟨h0, rfl, rfl⟩⟩ := h
  · subst h0
    have : trim L = [] := List.eq_nil_of_length_eq_zero hn.symm
    rw [this]; exact Rd.nil w
  · have hle := trim_length_le L
    have := hr.len
    exact (hr.take (k := n') (by omega)).cast rfl (by rw [hn, ← trim_take])

theorem Stripped.mine {w : World} {base : Nat} {A A' : Option Addr} {n c n' c' : Nat} {L : List Int} (h : Stripped A c L A' n' c') (hr : Mine w base A n c L) : Mine w base A' n' c' (trim L) := by
  obtain ⟨hn, ⟨h0, rfl, rfl⟩ | ⟨h0, rfl, rfl⟩⟩ := h
  · subst h0
    have : trim L = [] := List.eq_nil_of_length_eq_zero hn.symm
    rw [this]; exact Mine.nil w base
  · have hle := trim_length_le L
    have := hr.len
    exact (hr.take (k := n') (by omega) (by omega)).cast rfl (by rw [hn, ← trim_take])

theorem trim_take_succ (L : List Int) (k : Nat) (hk : k < L.length) (h : L.getD k 0 = 0) : trim (L.take (k + 1)) = trim (L.take k) := by
  rw [List.take_succ_eq_append_getElem hk]
  have : L[k] = 0 := by rw [List.getD_eq_getElem?_getD, List.getElem?_eq_getElem hk] at h; exact h
  rw [this, trim_snoc_zero]
theorem trim_take_ne (L : List Int) (k : Nat) (hk : k < L.length) (h : L.getD k 0 ≠ 0) : trim (L.take (k + 1)) = L.take (k + 1) := by
  rw [List.take_succ_eq_append_getElem hk]
  have : L[k] ≠ 0 := by rw [List.getD_eq_getElem?_getD, List.getElem?_eq_getElem hk] at h; exact h
  rw [trim_snoc_ne _ _ this]

end Go.Proofs.YtklndjkblfncjaaGreatDoor.Q

namespace Go.Proofs.YtklndjkblfncjaaGreatDoor.Q
open Go.RowKit
set_option maxRecDepth 20000

theorem ret_int {k : IntKind} {a b : Int} (h : a = b) : Ending.returned (.int k a) = .returned (.int k b) := by rw [h]
theorem and_mask (a : Int) (k m : Nat) (hm : m + 1 = 2 ^ k) (hk : k ≤ 62) (a0 : 0 ≤ a) (a1 : a ≤ 9223372036854775807) : bits .and .i64 a (m : Int) = a % ((m : Int) + 1) := by
  have hk2 : 2 ^ k ≤ 2 ^ 62 := Nat.pow_le_pow_right (by decide) hk
  have e62 : (2 : Nat) ^ 62 = 4611686018427387904 := by decide
  have h1 : ∀ x : Nat, x < 9223372036854775808 → (BitVec.ofInt 64 (x : Int)).toNat = x := by
    intro x hx
    rw [BitVec.ofInt_natCast, BitVec.toNat_ofNat]
    exact Nat.mod_eq_of_lt (by omega)
  obtain ⟨n, rfl⟩ := Int.eq_ofNat_of_zero_le a0
  have e : m = 2 ^ k - 1 := by omega
  have h2 : n &&& m = n % (m + 1) := by rw [hm, e, Nat.and_two_pow_sub_one_eq_mod]
  show IntKind.i64.wrap ((BitVec.ofInt 64 (n : Int) &&& BitVec.ofInt 64 (m : Int)).toNat : Int) = _
  rw [BitVec.toNat_and, h1 n (by omega), h1 m (by omega), h2, IntKind.wrap_i64]
  have h3 : n % (m + 1) < m + 1 := Nat.mod_lt _ (by omega)
  have h4 : ((n % (m + 1) : Nat) : Int) = (n : Int) % ((m : Int) + 1) := by simp
  omega

theorem mul_limbs (x y : Int) (hx : 0 ≤ x ∧ x < 4294967296) (hy : 0 ≤ y ∧ y < 4294967296) : 0 ≤ x * y ∧ x * y ≤ 18446744065119617025 :=
  ⟨Int.mul_nonneg hx.1 hy.1, by
    have h1 : x * y ≤ 4294967295 * y := Int.mul_le_mul_of_nonneg_right (by omega) hy.1
    omega⟩

theorem or_join (x y : Int) (x0 : 0 ≤ x) (x1 : x < 4294967296) (y0 : 0 ≤ y) (y1 : y < 4294967296) : bits .or .u64 (x * 4294967296) y = x * 4294967296 + y := by
  rw [u64_or _ _ (by omega) (by omega) (by omega) (by omega), nat_join 32 _ _ (by omega) (by omega)]
  omega

end Go.Proofs.YtklndjkblfncjaaGreatDoor.Q

namespace Go.Proofs.YtklndjkblfncjaaGreatDoor.Q
open Go.RowKit
set_option maxRecDepth 20000

theorem info_limb : (Tryz.prog.info? 96).map (fun i => (i.zero, i.size, i.bytes)) = some (some (.int .u32 0), 1, 4) := by kernel_rfl

theorem cells_at {w : World} {ad : Addr} {n : Nat} {L : List Int} (hl : L.length = n) (hc : ∀ i, i < n → w.cell? (ad.add i) = some (.int .u32 (L.getD i 0))) :
    ∀ j u, (cells L)[j]? = some u → w.cell? (ad.add j) = some u := by
  intro j u hj
  have hlt : j < L.length := by
    have := (List.getElem?_eq_some_iff.1 hj).1
    rwa [cells_length] at this
  rw [cells_get L j hlt] at hj
  rw [hc j (by omega), hj]

/-- A slice of the call's own with the limbs of m comes back; what was there before is as it was. -/
def Gives (w : World) (m : Int) (e : Ending) (w' : World) : Prop :=
  ∃ A n c L, e = .returned (.slice A n c) ∧ Mine w' w.heap.size A n c L ∧ Is L m ∧ Below w.heap.size w w'

/-- A slice of the call's own with the limbs of m comes back, and no error. -/
def GivesOk (w : World) (m : Int) (e : Ending) (w' : World) : Prop :=
  ∃ A n c L, e = .returned (.tuple #[.slice A n c, .int .i64 0]) ∧ Mine w' w.heap.size A n c L ∧ Is L m ∧ Below w.heap.size w w'

end Go.Proofs.YtklndjkblfncjaaGreatDoor.Q

namespace Go.Proofs.YtklndjkblfncjaaGreatDoor.Q
open Go.RowKit
set_option maxRecDepth 20000

end Go.Proofs.YtklndjkblfncjaaGreatDoor.Q

namespace Go.Proofs.YtklndjkblfncjaaGreatDoor.Q
open Go.RowKit
set_option maxRecDepth 20000

end Go.Proofs.YtklndjkblfncjaaGreatDoor.Q
namespace Go.Proofs.YtklndjkblfncjaaGreatDoor.Q
open Go.RowKit
set_option maxRecDepth 20000

end Go.Proofs.YtklndjkblfncjaaGreatDoor.Q

namespace Go.Proofs.YtklndjkblfncjaaGreatDoor.Q
open Go.RowKit
set_option maxRecDepth 20000

/-- Two slices of the call's own with the limbs of q and r come back, and no error. -/
def Gives2 (w : World) (q r : Int) (e : Ending) (w' : World) : Prop :=
  ∃ A n c Q B m d R, e = .returned (.tuple #[.slice A n c, .slice B m d, .int .i64 0]) ∧ Mine w' w.heap.size A n c Q ∧ Is Q q ∧ Mine w' w.heap.size B m d R ∧ Is R r ∧ Below w.heap.size w w'

end Go.Proofs.YtklndjkblfncjaaGreatDoor.Q

namespace Go.Proofs.YtklndjkblfncjaaGreatDoor.Q
open Go.RowKit
set_option maxRecDepth 20000

/-- The decimal digits of n, the last one first, as bytes of text. -/
def revDig (n : Nat) : List UInt8 := UInt8.ofNat (48 + n % 10) :: (if n < 10 then [] else revDig (n / 10))
termination_by n
decreasing_by omega
theorem revDig_small {n : Nat} (h : n < 10) : revDig n = [UInt8.ofNat (48 + n % 10)] := by rw [revDig, if_pos h]
theorem revDig_big {n : Nat} (h : 10 ≤ n) : revDig n = UInt8.ofNat (48 + n % 10) :: revDig (n / 10) := by rw [revDig, if_neg (by omega)]
theorem revDig_len (k : Nat) : ∀ n, n < 10 ^ (k + 1) → (revDig n).length ≤ k + 1 := by
  induction k with
  | zero => intro n h; rw [revDig_small (by simpa using h)]; simp
  | succ k ih =>
    intro n h
    rcases Nat.lt_or_ge n 10 with h1 | h1
    · rw [revDig_small h1]; simp
    · rw [revDig_big h1, List.length_cons]
      have := ih (n / 10) (by rw [Nat.pow_succ] at h; omega)
      omega
theorem digit_byte (n : Nat) : ((UInt8.ofNat (48 + n % 10)).toNat : Int) = 48 + (n : Int) % 10 := by
  rw [UInt8.toNat_ofNat']; omega
theorem ten_le (n : Nat) : pw n ≤ (10 : Int) ^ (10 * n) := by
  induction n with
  | zero => decide
  | succ n ih =>
    rw [pw_succ, Nat.mul_succ, Int.pow_add]
    have h0 : (0 : Int) ≤ 10 ^ (10 * n) := Int.le_of_lt (Int.pow_pos (by decide))
    have h1 : 4294967296 * pw n ≤ 4294967296 * 10 ^ (10 * n) := Int.mul_le_mul_of_nonneg_left ih (by decide)
    have h2 : (10 : Int) ^ (10 * n) * 4294967296 ≤ 10 ^ (10 * n) * 10 ^ 10 := Int.mul_le_mul_of_nonneg_left (by decide) h0
    omega
/-- A number of n limbs has at most 10 n + 1 digits. -/
theorem revDig_limbs {x : Int} {n N : Nat} (hx : x < pw n) (hN : x = (N : Int)) : (revDig N).length ≤ 10 * n + 1 := by
  refine revDig_len (10 * n) N ?_
  have h1 := ten_le n
  have h2 : (N : Int) < 10 ^ (10 * n) := by omega
  have h3 : N < 10 ^ (10 * n) := by exact_mod_cast h2
  exact Nat.lt_of_lt_of_le h3 (Nat.pow_le_pow_right (by decide) (by omega))

/-- The bytes as the cells hold them. -/
def bcells (T : List UInt8) : List Value := T.map fun b => .int .u8 (b.toNat : Int)
theorem bcells_length (T : List UInt8) : (bcells T).length = T.length := List.length_map ..
theorem bcells_get (T : List UInt8) (i : Nat) (h : i < T.length) : (bcells T)[i]? = some (.int .u8 (T[i].toNat : Int)) := by
  unfold bcells
  rw [List.getElem?_map, List.getElem?_eq_getElem h]; rfl
theorem bcells_snoc (T : List UInt8) (b : UInt8) : bcells (T ++ [b]) = bcells T ++ [.int .u8 (b.toNat : Int)] := by unfold bcells; rw [List.map_append]; rfl
/-- Rows of different element types lie in different blocks. -/
theorem rows_apart {w : World} {base base' : Nat} {e e' : TypeId} {s s' : Nat} {v v' : Value} {n n' : Nat} {xs xs' : List Value} (h : w.ownsRow base e s v n xs) (h' : w.ownsRow base' e' s' v' n' xs') (hne : e ≠ e') :
    v.ownBlock = none ∨ v.ownBlock ≠ v'.ownBlock := by
  rcases h.2 with ⟨rfl, _⟩ | ⟨g, c, cur, rfl, _, hg, _⟩
  · exact .inl rfl
  · refine .inr fun hh => ?_
    rcases h'.2 with ⟨rfl, _⟩ | ⟨g', c', cur', rfl, _, hg', _⟩
    · cases hh
    · obtain rfl : g = g' := Option.some.inj hh
      rw [hg] at hg'
      injection hg' with hg'
      injection hg' with _ hg'
      exact hne hg'
theorem row_below {w w' : World} {base : Nat} {e : TypeId} {s n : Nat} {v : Value} {xs : List Value} (h : w.ownsRow base e s v n xs) (hb : Below w.heap.size w w') : w'.ownsRow base e s v n xs := by
  refine ⟨h.1, ?_⟩
  rcases h.2 with e0 | ⟨g, cap, cur, rfl, hg0, hg, rest⟩
  · exact .inl e0
  · exact .inr ⟨g, cap, cur, rfl, hg0, (hb.block g (Array.getElem?_eq_some_iff.1 hg).1).trans hg, rest⟩
theorem Mine.grown {w w' : World} {base : Nat} {A : Option Addr} {n c : Nat} {L : List Int} {base' e' s' n' : Nat} {v' : Value} {xs' : List Value} (h : Mine w base A n c L) (h' : w.ownsRow base' e' s' v' n' xs') (hne : 96 ≠ e') (hg : w.grownBy w' v'.ownBlock) : Mine w' base A n c L :=
  ⟨h.row.kept hg (rows_apart h.row h' hne), h.lims⟩
theorem grown_below {w0 w w' : World} {B base e s n : Nat} {v : Value} {xs : List Value} (h : Below B w0 w) (hr : w.ownsRow base e s v n xs) (hg : w.grownBy w' v.ownBlock) (hB : B ≤ w.heap.size) (hb : B ≤ base) : Below B w0 w' :=
  h.grown hg hB fun k hk => Nat.le_trans hb (hr.lt k hk).1

theorem one_new (w : World) (x : Value) (t : TypeId) : ∀ j u, [x][j]? = some u → (w.alloc (.cells #[x] t)).cell? ((⟨w.heap.size, 0, none⟩ : Addr).add j) = some u := by
  intro j u hj
  match j, hj with
  | 0, hj =>
    injection hj with hj
    subst hj
    have e : (⟨w.heap.size, 0, none⟩ : Addr).add 0 = ⟨w.heap.size, 0, none⟩ := by simp [Addr.add]
    rw [e, World.cell?_alloc_mark]; rfl

theorem one_cell (x : Value) (h : x.oneCell' = true) : ∀ u ∈ [x], u.oneCell' = true := by
  intro u hu
  rw [List.mem_singleton] at hu
  rw [hu]; exact h
theorem le_alloc {B : Nat} {w : World} (h : B ≤ w.heap.size) (o : Obj) : B ≤ (w.alloc o).heap.size := by simp; omega
theorem room_one {n : Nat} (h : n < 10000001) : n + 1 ≤ maxLen := by unfold maxLen; omega
theorem room_one' {n : Nat} (h : n < 10000001) : (n + 1) * 1 ≤ 140737488355328 := by omega

theorem row_form {w : World} {base : Nat} {e : TypeId} {s n : Nat} {v : Value} {xs : List Value} (h : w.ownsRow base e s v n xs) : ∃ A c, v = .slice A n c := by
  rcases h.2 with ⟨e, h0⟩ | ⟨g, cap, cur, e, _⟩
  · subst h0; exact ⟨_, _, e⟩
  · exact ⟨_, _, e⟩

end Go.Proofs.YtklndjkblfncjaaGreatDoor.Q

namespace Go.Proofs.YtklndjkblfncjaaGreatDoor.Q
open Go.RowKit
set_option maxRecDepth 20000

theorem info_byte : (Tryz.prog.info? 5).map (fun i => (i.zero, i.size, i.bytes)) = some (some (.int .u8 0), 1, 1) := by kernel_rfl

/-- Z is T with the first i and the last i bytes exchanged. -/
def Half (T Z : List UInt8) (i : Nat) : Prop := Z.length = T.length ∧ ∀ t, t < T.length → Z[t]? = if t < i ∨ T.length < t + i + 1 then T[T.length - 1 - t]? else T[t]?
theorem Half.start (T : List UInt8) : Half T T 0 := ⟨rfl, fun t ht => by rw [if_neg (by omega)]⟩
theorem Half.done {T Z : List UInt8} {i : Nat} (h : Half T Z i) (hi : T.length ≤ 2 * i + 1) : Z = T.reverse := by
  apply List.ext_getElem?
  intro t
  by_cases ht : t < T.length
  · rw [h.2 t ht, List.getElem?_reverse ht]
    split
    · rfl
    · next hc =>
      have : T.length - 1 - t = t := by omega
      rw [this]
  · rw [List.getElem?_eq_none (by rw [h.1]; omega), List.getElem?_eq_none (by rw [List.length_reverse]; omega)]
theorem Half.step {T Z : List UInt8} {i j : Nat} (h : Half T Z i) (hij : i < j) (hj : j + i + 1 = T.length) (hi' : i < Z.length) (hj' : j < Z.length) : Half T ((Z.set i Z[j]).set j Z[i]) (i + 1) := by
  refine ⟨by simp [h.1], fun t ht => ?_⟩
  have ei : Z[i]? = T[i]? := by rw [h.2 i (by omega), if_neg (by omega)]
  have ej : Z[j]? = T[j]? := by rw [h.2 j (by omega), if_neg (by omega)]
  rw [List.getElem?_eq_getElem hi'] at ei
  rw [List.getElem?_eq_getElem hj'] at ej
  by_cases h1 : t = j
  · subst h1
    have e : T.length - 1 - t = i := by omega
    rw [List.getElem?_set_self (by simpa using hj'), if_pos (by omega), e, ei]
  · rw [List.getElem?_set_ne (by omega)]
    by_cases h2 : t = i
    · subst h2
      have e : T.length - 1 - t = j := by omega
      rw [List.getElem?_set_self hi', if_pos (by omega), e, ej]
    · rw [List.getElem?_set_ne (by omega), h.2 t ht]
      by_cases h3 : t < i ∨ T.length < t + i + 1
      · rw [if_pos h3, if_pos (by omega)]
      · rw [if_neg h3, if_neg (by omega)]

theorem bcells_swap (Z : List UInt8) (i j : Nat) (hi : i < Z.length) (hj : j < Z.length) : ((bcells Z).set i (.int .u8 (Z[j].toNat : Int))).set j (.int .u8 (Z[i].toNat : Int)) = bcells ((Z.set i Z[j]).set j Z[i]) := by
  unfold bcells
  rw [List.map_set, List.map_set]

theorem string_of_row {w : World} {A : Option Addr} {n c base : Nat} {l : List UInt8} (h : w.ownsRow base 5 1 (.slice A n c) n (bcells l)) (h0 : 0 < n) :
    (convert 103 9 (.slice A n c)).run Tryz.prog w = .ok (.string ⟨l.toArray⟩) w := by
  have hl := h.1
  rw [bcells_length, Nat.mul_one] at hl
  subst hl
  rcases h.2 with ⟨_, e0⟩ | ⟨g, cap, cur, e, _⟩
  · omega
  · injection e with e _ _
    subst e
    refine run_convert_bytes_back w 103 9 5 ⟨g, 0, none⟩ c l Tryz.underlying103 Tryz.underlying5 Tryz.underlying9 fun j hj => ?_
    exact h.cells (g := g) rfl j _ (bcells_get l j hj)

end Go.Proofs.YtklndjkblfncjaaGreatDoor.Q
namespace Go.Proofs.YtklndjkblfncjaaGreatDoor.Q
open Go.RowKit
set_option maxRecDepth 20000

theorem lit1 (w : World) (x : Int) (x0 : 0 ≤ x) (x1 : x < 4294967296) : Rd (w.alloc (.cells #[.int .u32 x] 96)) (some ⟨w.heap.size, 0, none⟩) 1 1 [x] :=
  (Mine.lit w (Nat.le_refl _) #[.int .u32 x] [x] (Lims.cons x0 x1 Lims.nil) rfl (by unfold maxLen; simp)).rd
theorem lit2 (w : World) (x y : Int) (x0 : 0 ≤ x) (x1 : x < 4294967296) (y0 : 0 ≤ y) (y1 : y < 4294967296) : Rd (w.alloc (.cells #[.int .u32 x, .int .u32 y] 96)) (some ⟨w.heap.size, 0, none⟩) 2 2 [x, y] :=
  (Mine.lit w (Nat.le_refl _) #[.int .u32 x, .int .u32 y] [x, y] (Lims.cons x0 x1 (Lims.cons y0 y1 Lims.nil)) rfl (by unfold maxLen; simp)).rd

end Go.Proofs.YtklndjkblfncjaaGreatDoor.Q

namespace Go.Proofs.YtklndjkblfncjaaGreatDoor.Q
open Go.RowKit
set_option maxRecDepth 20000

end Go.Proofs.YtklndjkblfncjaaGreatDoor.Q

namespace Go.Proofs.YtklndjkblfncjaaGreatDoor.Q
open Go.RowKit
set_option maxRecDepth 20000

end Go.Proofs.YtklndjkblfncjaaGreatDoor.Q

namespace Go.Proofs.YtklndjkblfncjaaGreatDoor.Q
open Go.RowKit
set_option maxRecDepth 20000

end Go.Proofs.YtklndjkblfncjaaGreatDoor.Q

namespace Go.Proofs.YtklndjkblfncjaaGreatDoor.Q
open Go.RowKit
set_option maxRecDepth 20000

/-- The slice stands for x. -/
def Num (w : World) (A : Option Addr) (n c : Nat) (x : Int) : Prop := ∃ L, Rd w A n c L ∧ val L = x
/-- The slice stands for x, without zeros at its end. -/
def Nrm (w : World) (A : Option Addr) (n c : Nat) (x : Int) : Prop := ∃ L, Rd w A n c L ∧ Is L x
section
variable {w w' : World} {A B : Option Addr} {n c m d : Nat} {x y : Int}
theorem Nrm.num (h : Nrm w A n c x) : Num w A n c x := by obtain ⟨L, h1, h2⟩ := h; exact ⟨L, h1, h2.eq⟩
theorem Num.below (h : Num w A n c x) (hb : Below w.heap.size w w') : Num w' A n c x := by obtain ⟨L, h1, h2⟩ := h; exact ⟨L, h1.below hb, h2⟩
theorem Nrm.below (h : Nrm w A n c x) (hb : Below w.heap.size w w') : Nrm w' A n c x := by obtain ⟨L, h1, h2⟩ := h; exact ⟨L, h1.below hb, h2⟩
theorem Num.drewN (h : Num w A n c x) (k : Nat) : Num (w.drewN k) A n c x := by obtain ⟨L, h1, h2⟩ := h; exact ⟨L, h1.drewN k, h2⟩
theorem Nrm.drewN (h : Nrm w A n c x) (k : Nat) : Nrm (w.drewN k) A n c x := by obtain ⟨L, h1, h2⟩ := h; exact ⟨L, h1.drewN k, h2⟩
theorem Num.nonneg (h : Num w A n c x) : 0 ≤ x := by obtain ⟨L, h1, rfl⟩ := h; exact val_nonneg h1.lims
theorem Num.lt (h : Num w A n c x) : x < pw n := by obtain ⟨L, h1, rfl⟩ := h; have := val_lt h1.lims; rwa [h1.len] at this
theorem Nrm.short (h : Nrm w A n c x) {k : Nat} (hx : x < pw k) : n ≤ k := by
  obtain ⟨L, h1, h2⟩ := h
  rcases Nat.lt_or_ge k n with h3 | h3
  · exfalso
    have hl := h1.len
    obtain ⟨j, hj⟩ : ∃ j, L.length = j + 1 := ⟨L.length - 1, by omega⟩
    have h4 := h2.ge hj
    have h5 := pw_mono (m := k) (n := j) (by omega)
    omega
  · exact h3
theorem Nrm.of_mine {base : Nat} {L : List Int} (h : Mine w base A n c L) (hI : Is L x) : Nrm w A n c x := ⟨L, h.rd, hI⟩
theorem Nrm.cast (h : Nrm w A n c x) (e : x = y) : Nrm w A n c y := by subst e; exact h
end
theorem pw_up {x : Int} {i j : Nat} (h : x < pw i) (hij : i ≤ j) : x < pw j := Int.lt_of_lt_of_le h (pw_mono hij)
/-- A slice that stands for x, in normal form, comes back; what was there before is as it was. -/
def GivesN (w : World) (x : Int) (e : Ending) (w' : World) : Prop := ∃ A n c, e = .returned (.slice A n c) ∧ Nrm w' A n c x ∧ Below w.heap.size w w'
def GivesNOk (w : World) (x : Int) (e : Ending) (w' : World) : Prop := ∃ A n c, e = .returned (.tuple #[.slice A n c, .int .i64 0]) ∧ Nrm w' A n c x ∧ Below w.heap.size w w'
theorem Gives.n {w : World} {x : Int} {e : Ending} {w' : World} (h : Gives w x e w') : GivesN w x e w' := by
  obtain ⟨A, n, c, L, h1, h2, h3, h4⟩ := h
  exact ⟨A, n, c, h1, Nrm.of_mine h2 h3, h4⟩
theorem GivesOk.n {w : World} {x : Int} {e : Ending} {w' : World} (h : GivesOk w x e w') : GivesNOk w x e w' := by
  obtain ⟨A, n, c, L, h1, h2, h3, h4⟩ := h
  exact ⟨A, n, c, h1, Nrm.of_mine h2 h3, h4⟩
section
variable {w : World} {A B : Option Addr} {n c m d : Nat} {x y : Int}
end

end Go.Proofs.YtklndjkblfncjaaGreatDoor.Q
namespace Go.Proofs.YtklndjkblfncjaaGreatDoor.Q

theorem le_mul {a b c : Int} (h : a ≤ b) (hc : 0 ≤ c) : a * c ≤ b * c := Int.mul_le_mul_of_nonneg_right h hc
theorem le_mul' {a b c : Int} (h : a ≤ b) (hc : 0 ≤ c) : c * a ≤ c * b := Int.mul_le_mul_of_nonneg_left h hc

section
/- f, s: the first two limbs of the divisor; t: the first two limbs of the window; u: the third; P: the weight of what is below. -/
variable {f s dl t u wl P g r : Int}
theorem guess_top (s1 : s < 4294967296) (u0 : 0 ≤ u) (P0 : 0 < P) (d1 : dl < P) (w0 : 0 ≤ wl)
    (h : (t * 4294967296 + u) * P + wl < ((f * 4294967296 + s) * P + dl) * 4294967296) : t < (f + 1) * 4294967296 := by
  rcases Int.lt_or_le t ((f + 1) * 4294967296) with h1 | h1
  · exact h1
  · exfalso
    have h2 : ((f + 1) * 4294967296 * 4294967296) * P ≤ (t * 4294967296 + u) * P := le_mul (by omega) (by omega)
    have h3 : ((f * 4294967296 + s) + 1) * P ≤ ((f + 1) * 4294967296) * P := le_mul (by omega) (by omega)
    have e1 : ((f + 1) * 4294967296 * 4294967296) * P = (((f + 1) * 4294967296) * P) * 4294967296 := by grind
    have e2 : ((f * 4294967296 + s) + 1) * P = (f * 4294967296 + s) * P + P := by grind
    omega
theorem guess_high (g0 : 0 ≤ g) (P0 : 0 < P) (d0 : 0 ≤ dl) (w1 : wl < P) (e : g * f + r = t) (h : r * 4294967296 + u < g * s) :
    (t * 4294967296 + u) * P + wl < g * ((f * 4294967296 + s) * P + dl) := by
  have h1 : (t * 4294967296 + u + 1) * P ≤ (g * f * 4294967296 + g * s) * P := le_mul (by omega) (by omega)
  have h2 : 0 ≤ g * dl := Int.mul_nonneg g0 d0
  have e1 : g * ((f * 4294967296 + s) * P + dl) = (g * f * 4294967296 + g * s) * P + g * dl := by grind
  have e2 : (t * 4294967296 + u + 1) * P = (t * 4294967296 + u) * P + P := by grind
  omega
theorem guess_over {V W : Int} (hV : 0 < V) (h : W < V * 4294967296) (hg : 4294967296 ≤ g) : W < g * V := by
  have : 4294967296 * V ≤ g * V := le_mul hg (by omega)
  omega
theorem guess_end (f0 : 1 ≤ f) (s0 : 0 ≤ s) (s1 : s < 4294967296) (u0 : 0 ≤ u) (P0 : 0 < P) (d0 : 0 ≤ dl) (d1 : dl < P) (w0 : 0 ≤ wl) (t0 : 0 ≤ t) (g0 : 0 ≤ g) (g1 : g < 4294967296) (e : g * f + r = t)
    (h : 4294967296 ≤ r ∨ g * s ≤ r * 4294967296 + u) : (g - 1) * ((f * 4294967296 + s) * P + dl) ≤ (t * 4294967296 + u) * P + wl := by
  have hgs : g * s ≤ r * 4294967296 + u := by
    rcases h with h | h
    · have : g * s ≤ 4294967295 * s := le_mul (by omega) s0
      omega
    · exact h
  have hW : 0 ≤ (t * 4294967296 + u) * P := Int.mul_nonneg (by omega) (by omega)
  rcases Int.lt_or_le g 1 with h1 | h1
  · have hg : g = 0 := by omega
    subst hg
    have hV : 0 ≤ (f * 4294967296 + s) * P := Int.mul_nonneg (by omega) (by omega)
    omega
  · have h2 : (g - 1) * ((f * 4294967296 + s) * P + dl) ≤ (g - 1) * ((f * 4294967296 + s) * P + P) := le_mul' (by omega) (by omega)
    have e1 : (g - 1) * ((f * 4294967296 + s) * P + P) = (g * f * 4294967296 + g * s - f * 4294967296 - s + g - 1) * P := by grind
    have h3 : (g * f * 4294967296 + g * s - f * 4294967296 - s + g - 1) * P ≤ (t * 4294967296 + u) * P := le_mul (by omega) (by omega)
    omega
end

/-- One round of the subtraction of a multiple. -/
theorem subMul_step {Z R D : List Int} {i k : Nat} {t c b d z : Int} (hk : i + k < Z.length) (hz : R.getD (i + k) 0 = z) (hd : D.getD k 0 = d)
    (z0 : 0 ≤ z ∧ z < 4294967296) (b0 : 0 ≤ b ∧ b < 2) (pt : Int) (hpt : pt = pw i * t)
    (h : val (Z.take (i + k)) + pt * val (D.take k) = val (R.take (i + k)) + pw (i + k) * (c + b)) :
    val ((Z.set (i + k) ((z - (d * t + 0 + c) % 4294967296 - b) % 4294967296)).take (i + (k + 1))) + pt * val (D.take (k + 1)) =
      val (R.take (i + (k + 1))) + pw (i + (k + 1)) * ((d * t + 0 + c) / 4294967296 + borrowOf z ((d * t + 0 + c) % 4294967296) b) := by
  have hlo : 0 ≤ (d * t + 0 + c) % 4294967296 ∧ (d * t + 0 + c) % 4294967296 < 4294967296 := by omega
  have hbo := borrowOf_eq z _ b z0.1 z0.2 hlo.1 hlo.2 b0.1 b0.2
  have e : d * t + 0 + c = (d * t + 0 + c) % 4294967296 + 4294967296 * ((d * t + 0 + c) / 4294967296) := by omega
  rw [← Nat.add_assoc, val_set_take Z _ _ hk, val_take_getD R, val_take_getD D, hz, hd, pw_succ, hbo]
  generalize borrowOf z ((d * t + 0 + c) % 4294967296) b = b' at *
  generalize (d * t + 0 + c) % 4294967296 = lo at *
  generalize (d * t + 0 + c) / 4294967296 = hi at *
  rw [pw_add] at *
  subst hpt
  have e2 : pw i * pw k * (d * t + 0 + c) = pw i * pw k * (lo + 4294967296 * hi) := by rw [e]
  grind
theorem addBack_step {Z R D : List Int} {i k : Nat} {c d z : Int} (hk : i + k < Z.length) (hz : R.getD (i + k) 0 = z) (hd : D.getD k 0 = d)
    (h : val (Z.take (i + k)) + pw (i + k) * c = val (R.take (i + k)) + pw i * val (D.take k)) :
    val ((Z.set (i + k) ((z + d + c) % 4294967296)).take (i + (k + 1))) + pw (i + (k + 1)) * ((z + d + c) / 4294967296) = val (R.take (i + (k + 1))) + pw i * val (D.take (k + 1)) := by
  have e : z + d + c = (z + d + c) % 4294967296 + 4294967296 * ((z + d + c) / 4294967296) := by omega
  rw [← Nat.add_assoc, val_set_take Z _ _ hk, val_take_getD R, val_take_getD D, hz, hd, pw_succ]
  generalize (z + d + c) % 4294967296 = lo at *
  generalize (z + d + c) / 4294967296 = hi at *
  rw [pw_add] at *
  have e2 : pw i * pw k * (z + d + c) = pw i * pw k * (lo + 4294967296 * hi) := by rw [e]
  grind
end Go.Proofs.YtklndjkblfncjaaGreatDoor.Q

namespace Go.Proofs.YtklndjkblfncjaaGreatDoor.Q
open Go.RowKit
set_option maxRecDepth 20000

/-- The product of a limb and a power of two: its halves. -/
theorem limb_shift (l : Int) (s : Nat) (hs : s ≤ 31) (l0 : 0 ≤ l ∧ l < 4294967296) :
    0 ≤ l * 2 ^ s ∧ l * 2 ^ s < 9223372036854775808 ∧ 0 ≤ l * 2 ^ s / 4294967296 ∧ l * 2 ^ s / 4294967296 < 2 ^ s ∧ (2 : Int) ^ s ≤ 2147483648 ∧ ∃ m, l * 2 ^ s % 4294967296 = m * 2 ^ s := by
  have e32 : (2 : Int) ^ s ≤ 2 ^ 31 := by
    have h2 : (2 : Nat) ^ s ≤ 2 ^ 31 := Nat.pow_le_pow_right (by decide) hs
    exact_mod_cast h2
  have e31 : (2 : Int) ^ 31 = 2147483648 := by decide
  have hp : (0 : Int) < 2 ^ s := Int.pow_pos (by decide)
  have e : (2 : Int) ^ s * 2 ^ (32 - s) = 4294967296 := by
    rw [← Int.pow_add, show s + (32 - s) = 32 from by omega]; decide
  have h1 : 0 ≤ l * 2 ^ s := Int.mul_nonneg l0.1 (Int.le_of_lt hp)
  have h2 : (l + 1) * 2 ^ s ≤ 4294967296 * 2 ^ s := le_mul (by omega) (Int.le_of_lt hp)
  rw [Int.add_mul] at h2
  refine ⟨h1, by omega, by omega, Int.ediv_lt_of_lt_mul (by decide) (by omega), by omega, l % 2 ^ (32 - s), ?_⟩
  rw [← e, Int.mul_comm l, Int.mul_emod_mul_of_pos _ _ hp, Int.mul_comm]

def Halved (w : World) (n : Nat) (x : Int) (e : Ending) (w' : World) : Prop :=
  ∃ A c S, e = .returned (.slice A n c) ∧ Mine w' w.heap.size A n c S ∧ val S = x ∧ Below w.heap.size w w'

/-- The window of n + 1 limbs from place i on has become what it was less pt times D, plus b times the weight above it. -/
structure WinSub (g base N C i n : Nat) (R D : List Int) (pt b : Int) (w w' : World) (R' : List Int) : Prop where
  mine : Mine w' base (some ⟨g, 0, none⟩) N C R'
  low : R'.take i = R.take i
  high : R'.drop (i + n + 1) = R.drop (i + n + 1)
  value : val (R'.take (i + n + 1)) + pt * val D = val (R.take (i + n + 1)) + pw (i + n + 1) * b
  only : Only (some ⟨g, 0, none⟩) w w'

end Go.Proofs.YtklndjkblfncjaaGreatDoor.Q

namespace Go.Proofs.YtklndjkblfncjaaGreatDoor.Q
open Go.RowKit
set_option maxRecDepth 20000

theorem top_two {X : List Int} {m : Nat} (h : X.length = m + 2) : val X = (X.getD (m + 1) 0 * 4294967296 + X.getD m 0) * pw m + val (X.take m) := by
  have h1 := val_take_getD X (m + 1)
  rw [List.take_of_length_le (by omega), val_take_getD X m, pw_succ] at h1
  rw [h1]; grind
theorem top_three {X : List Int} {m : Nat} (h : X.length = m + 3) : val X = ((X.getD (m + 2) 0 * 4294967296 + X.getD (m + 1) 0) * 4294967296 + X.getD m 0) * pw m + val (X.take m) := by
  have h1 := val_take_getD X (m + 2)
  rw [List.take_of_length_le (by omega), val_take_getD X (m + 1), val_take_getD X m] at h1
  simp only [pw_succ] at h1
  rw [h1]; grind

/-- g is the limb of the quotient of W by V, or one more. -/
def Near (V W g : Int) : Prop := 0 ≤ g ∧ g < 4294967296 ∧ W < (g + 1) * V ∧ (g - 1) * V ≤ W
end Go.Proofs.YtklndjkblfncjaaGreatDoor.Q

namespace Go.Proofs.YtklndjkblfncjaaGreatDoor.Q
open Go.RowKit
set_option maxRecDepth 20000

theorem val_high {R : List Int} (hR : Lims R) {k : Nat} (hk : k ≤ R.length) (h : val R < pw k) : val (R.drop k) = 0 ∧ val (R.take k) = val R := by
  have h1 := val_split R k
  rw [List.length_take_of_le hk] at h1
  have h2 := val_nonneg (hR.take k)
  have h3 := val_nonneg (hR.drop k)
  have h4 : val (R.drop k) = 0 := by
    rcases Int.lt_or_le (val (R.drop k)) 1 with h5 | h5
    · omega
    · have : pw k * 1 ≤ pw k * val (R.drop k) := le_mul' h5 (Int.le_of_lt (pw_pos k))
      omega
  rw [h4] at h1
  exact ⟨h4, by omega⟩
theorem val_window (R : List Int) (i n : Nat) (h : i + n + 1 ≤ R.length) : val (R.take (i + n + 1)) = val (R.take i) + pw i * val ((R.drop i).take (n + 1)) := by
  have e : R.take (i + n + 1) = R.take i ++ (R.drop i).take (n + 1) := by rw [Nat.add_assoc, List.take_add]
  rw [e, val_append, List.length_take_of_le (by omega)]
theorem cancel_lt {p a b : Int} (hp : 0 < p) (h : p * a < p * b) : a < b := Int.lt_of_mul_lt_mul_left h (Int.le_of_lt hp)

section
variable {T T' low p W V g q X : Int}
/-- The window less the guessed multiple, nothing borrowed. -/
theorem round_fit (p0 : 0 < p) (l1 : low < p) (hT : T = low + p * W) (hW : W < (g + 1) * V) (hX : X = T + V * (4294967296 * p * q)) (h : T' + p * g * V = T) :
    X = T' + V * (p * (g + 4294967296 * q)) ∧ T' < V * p := by
  constructor
  · rw [hX, ← h]; grind
  · have h1 : p * (W + 1) ≤ p * ((g + 1) * V) := le_mul' (by omega) (by omega)
    rw [Int.mul_add] at h1
    have e : p * ((g + 1) * V) = p * g * V + V * p := by grind
    omega
/-- The window less one multiple too many, and added back. -/
theorem round_back {P o T2 : Int} (p0 : 0 < p) (l0 : 0 ≤ low) (hT : T = low + p * W) (hW : (g - 1) * V ≤ W) (hX : X = T + V * (4294967296 * p * q)) (h : T' + p * g * V = T + P) (hlt : T' < P)
    (h2 : T2 + P * o = T' + p * V) (o0 : 0 ≤ o) (o1 : o ≤ 1) (hlt2 : T2 < P) : X = T2 + V * (p * (g - 1 + 4294967296 * q)) ∧ T2 < V * p := by
  have h3 : p * ((g - 1) * V) ≤ p * W := le_mul' hW (by omega)
  have e : p * ((g - 1) * V) = p * g * V - p * V := by grind
  have ho : o = 1 := by
    rcases Int.lt_or_le o 1 with h4 | h4
    · have : o = 0 := by omega
      subst this
      omega
    · omega
  subst ho
  have hT2 : T2 = T - p * ((g - 1) * V) := by omega
  constructor
  · rw [hX, hT2]; grind
  · have e2 : V * p = p * V := Int.mul_comm ..
    omega
end
theorem drop_set_val {Q : List Int} {i : Nat} {g : Int} (h : i < Q.length) : val ((Q.set i g).drop i) = g + 4294967296 * val (Q.drop (i + 1)) := by
  rw [List.drop_eq_getElem_cons (l := Q.set i g) (by simpa using h), val_cons, List.getElem_set_self, drop_set]

/-- The quotient and the remainder, from what the loop leaves. -/
theorem long_end {a b q r t : Int} (t0 : 0 < t) (h : a * t = r + b * t * q) (r0 : 0 ≤ r) (r1 : r < b * t) : q = a / b ∧ r / t = a % b := by
  have e : r = t * (a - b * q) := by grind
  have b0 : 0 < b := by
    rcases Int.lt_or_le 0 b with h1 | h1
    · exact h1
    · exfalso
      have : b * t ≤ 0 * t := le_mul h1 (by omega)
      omega
  have h2 : 0 ≤ a - b * q := by
    rcases Int.lt_or_le (a - b * q) 0 with h3 | h3
    · exfalso
      have : t * (a - b * q) ≤ t * (-1) := le_mul' (by omega) (by omega)
      omega
    · exact h3
  have h4 : a - b * q < b := by
    refine cancel_lt t0 ?_
    rw [← e, Int.mul_comm t b]; exact r1
  have h5 : a = (a - b * q) + b * q := by omega
  have hq : q = a / b := by
    rw [h5, Int.add_mul_ediv_left _ _ (by omega), Int.ediv_eq_zero_of_lt h2 h4]; omega
  refine ⟨hq, ?_⟩
  rw [e, Int.mul_ediv_cancel_left _ (by omega)]
  have := Int.mul_ediv_add_emod a b
  rw [← hq] at this
  omega

end Go.Proofs.YtklndjkblfncjaaGreatDoor.Q
