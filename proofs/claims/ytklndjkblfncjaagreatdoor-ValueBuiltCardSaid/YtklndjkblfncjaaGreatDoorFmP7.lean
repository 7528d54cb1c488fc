/-
  How long the text of a value is; strings.Join of a row of strings, strconv.Itoa and strconv.FormatBool, in the words of the walks.
-/
import Derived.Test.YtklndjkblfncjaaGreatDoorShelf
import Derived.Test.YtklndjkblfncjaaGreatDoorZerP
import Derived.Test.YtklndjkblfncjaaGreatDoorValC
import Derived.Lib.SmallJoins
import Derived.Lib.ItoaLen
import Derived.Lib.AppendIntMem
namespace Go.Proofs.YtklndjkblfncjaaGreatDoor
open Go Go.RowKit
set_option maxRecDepth 20000

theorem tail_len {K : Nat} : ∀ {xs : List By}, (∀ x ∈ xs, x.length ≤ K) → (Lib.joinTail [44, 32] xs).length ≤ xs.length * (K + 2)
  | [], _ => by simp [Lib.joinTail]
  | x :: xs, h => by
    have ih := tail_len (xs := xs) fun y hy => h y (List.mem_cons_of_mem _ hy)
    have hx := h x (by simp)
    have e : (Lib.joinTail [44, 32] (x :: xs)).length = 2 + x.length + (Lib.joinTail [44, 32] xs).length := by
      have : Lib.joinTail [44, 32] (x :: xs) = 44 :: 32 :: (x ++ Lib.joinTail [44, 32] xs) := by simp [Lib.joinTail]
      rw [this, List.length_cons, List.length_cons, List.length_append]; omega
    rw [e, List.length_cons, Nat.succ_mul]; omega
theorem join_le {K : Nat} {xs : List By} (h : ∀ x ∈ xs, x.length ≤ K) : (Lib.join xs [44, 32]).length ≤ xs.length * (K + 2) := by
  cases xs with
  | nil => rw [Lib.join_nil]; exact Nat.zero_le _
  | cons x r =>
    have h1 := tail_len (xs := r) fun y hy => h y (List.mem_cons_of_mem _ hy)
    have h2 := h x (by simp)
    rw [Lib.join_cons, List.length_append, List.length_cons, Nat.succ_mul]; omega
/-- What zipWith joins stands at one place. -/
theorem zip_at {α β γ : Type} {f : α → β → γ} {l : List α} {r : List β} {z : γ} (h : z ∈ List.zipWith f l r) : ∃ (i : Nat) (a : α) (b : β), l[i]? = some a ∧ r[i]? = some b ∧ z = f a b := by
  obtain ⟨i, hi⟩ := List.getElem?_of_mem h
  rw [List.getElem?_zipWith] at hi
  cases ha : l[i]? with
  | none => rw [ha] at hi; simp at hi
  | some a =>
    cases hb : r[i]? with
    | none => rw [ha, hb] at hi; simp at hi
    | some b =>
      rw [ha, hb] at hi
      exact ⟨i, a, b, ha, hb, by simpa using hi.symm⟩
theorem leaf_range {d : Nat} {T : Ty} {V : Vl} (hok : TyOk (d + 1) T) (k5 : T.k ≠ 5) (k6 : T.k ≠ 6) (h : verr (d + 1) T V = 0) : -9223372036854775808 ≤ V.i ∧ V.i ≤ 9223372036854775807 := by
  obtain ⟨_, h1, h2⟩ := verr_leaf k5 k6 h
  unfold tlow at h1
  unfold thigh at h2
  by_cases k1 : T.k = 1
  · rw [if_pos k1] at h1 h2; omega
  · rw [if_neg k1] at h1 h2
    by_cases k3 : T.k = 3
    · rw [if_pos k3] at h1 h2; omega
    · rw [if_neg k3] at h1 h2
      by_cases k2 : T.k = 2
      · have := (hok.int k2).1; omega
      · have := hok.leaf (by have := hok.kinds; omega); omega
theorem fmt_len : ∀ (d : Nat) (T : Ty) (V : Vl), TyOk d T → verr d T V = 0 → (vfmt d T V).length ≤ 30 * 8 ^ d
  | 0, _, _, _, _ => by simp [vfmt]
  | d + 1, T, V, hok, h => by
    have IH := fmt_len d
    have hp : 1 ≤ 8 ^ d := Nat.pos_of_ne_zero (by simp)
    rw [Nat.pow_succ]
    by_cases k1 : T.k = 1
    · simp only [vfmt, if_pos k1]
      split <;> simp only [List.length_cons, List.length_nil] <;> omega
    · by_cases k5 : T.k = 5
      · obtain ⟨_, _, h4, hels⟩ := hok.tuple k5
        obtain ⟨hl, _, hf⟩ := verr_tuple k5 h
        have hz : ∀ x ∈ List.zipWith (vfmt d) T.es V.es, x.length ≤ 30 * 8 ^ d := fun x hx => by
          obtain ⟨i, e, f, he, hfi, rfl⟩ := zip_at hx
          exact IH e f (hels e (List.mem_of_getElem? he)).1 (zip_zero hf i e f he hfi)
        have hj := join_le hz
        have hn : (List.zipWith (vfmt d) T.es V.es).length ≤ 4 := by rw [List.length_zipWith]; omega
        have hm := Nat.mul_le_mul_right (30 * 8 ^ d + 2) hn
        simp only [vfmt, if_neg k1, if_pos k5, List.length_cons, List.length_append, List.length_nil]
        omega
      · by_cases k6 : T.k = 6
        · obtain ⟨_, _, h4, t, ht, hto, _⟩ := hok.list k6
          obtain ⟨hl, _, hf⟩ := verr_list k5 k6 h
          rw [ht] at hf
          have hz : ∀ x ∈ List.zipWith (vfmt d) (List.replicate V.es.length (T.es.headD (.mk 0 0 0 0 []))) V.es, x.length ≤ 30 * 8 ^ d := fun x hx => by
            rw [ht] at hx
            obtain ⟨i, e, f, he, hfi, rfl⟩ := zip_at hx
            obtain rfl : e = t := List.eq_of_mem_replicate (List.mem_of_getElem? he)
            exact IH e f hto (firstE_zero.1 hf _ (List.mem_map_of_mem (List.mem_of_getElem? hfi)))
          have hj := join_le hz
          have hn : (List.zipWith (vfmt d) (List.replicate V.es.length (T.es.headD (.mk 0 0 0 0 []))) V.es).length ≤ 4 := by rw [List.length_zipWith]; omega
          have hm := Nat.mul_le_mul_right (30 * 8 ^ d + 2) hn
          simp only [vfmt, if_neg k1, if_neg k5, if_pos k6, List.length_cons, List.length_append, List.length_nil]
          omega
        · obtain ⟨h1, h2⟩ := leaf_range hok k5 k6 h
          have := Lib.itoa_length_le V.i h1 h2
          simp only [vfmt, if_neg k1, if_neg k5, if_neg k6]
          omega

def str (l : By) : Value := .string ⟨l.toArray⟩
def strRow (l : List By) : List Value := l.map str
theorem strRow_length (l : List By) : (strRow l).length = l.length := List.length_map ..
theorem strRow_append (l m : List By) : strRow (l ++ m) = strRow l ++ strRow m := by unfold strRow; simp
theorem info_str : (Tryz.prog.info? 9).map (fun i => (i.zero, i.size, i.bytes)) = some (some (.string ⟨#[]⟩), 1, 16) := by kernel_rfl
/-- The table of the powers of ten lies as the program's text lays it. -/
def Tab (w : World) : Prop := Lib.TabIs Tryz.prog w "internal/strconv.uint64pow10" .u64 Lib.pow10Tab
theorem Tab.below {w w' : World} (h : Tab w) (hb : Below w.heap.size w w') : Tab w' := by
  cases hg : Tryz.prog.globalNamed "internal/strconv.uint64pow10" with
  | none => unfold Tab Lib.TabIs World.var? at h; rw [hg] at h; simp at h
  | some g => exact Joins.tab_stays hg h hb (Nat.le_refl _)
def GivesStr (l : By) (w : World) (e : Ending) (w' : World) : Prop := e = .returned (.string ⟨l.toArray⟩) ∧ Below w.heap.size w w'
theorem itoa_x (n : Int) (h0 : -9223372036854775808 ≤ n) (h1 : n ≤ 9223372036854775807) (w : World) (h : Tab w) : Calls Tryz.prog 59 #[.int .i64 n] w (GivesStr (Lib.itoa n) w) := by
  refine (Tryz.strconv_Itoa n h0 h1 w h).mono ?_
  rintro e w' ⟨rfl, k, os, rfl⟩
  exact ⟨rfl, Lib.below_grow _ w (Nat.le_refl _) k os⟩
theorem formatBool_x (b : Bool) (w : World) : Calls Tryz.prog 57 #[.bool b] w (GivesStr (if b then [116, 114, 117, 101] else [102, 97, 108, 115, 101]) w) := by
  refine (Tryz.strconv_FormatBool b w).mono ?_
  rintro e w' ⟨rfl, rfl⟩
  refine ⟨?_, Below.refl _ _⟩
  have h : Lib.formatBool b = if b then [116, 114, 117, 101] else [102, 97, 108, 115, 101] := by
    unfold Lib.formatBool
    cases b <;> decide
  rw [h]
theorem join_row {w : World} {base : Nat} {Q : Option Addr} {n q : Nat} {Z : List By} (h : w.ownsRow base 9 1 (.slice Q n q) n (strRow Z)) (hlen : (Lib.join Z [44, 32]).length ≤ 140737488355328) (hn : n ≤ 140737488355328) :
    Calls Tryz.prog 70 #[.slice Q n q, .string ⟨#[44, 32]⟩] w (GivesStr (Lib.join Z [44, 32]) w) := by
  have hl : Z.length = n := by have := h.1; rw [strRow_length] at this; omega
  cases Z with
  | nil =>
    obtain rfl : n = 0 := by simpa using hl.symm
    refine (Tryz.strings_Join_none Q q _ w).mono ?_
    rintro e w' ⟨rfl, rfl⟩
    exact ⟨rfl, Below.refl _ _⟩
  | cons z Z' =>
    obtain ⟨g, rfl, _, hg⟩ := row_form h (by rw [← hl]; simp)
    have hX : ((z :: Z').map fun l => (⟨l.toArray⟩ : ByteArray)).length = n := by rw [List.length_map]; exact hl
    have hY : ((z :: Z').map fun l => (⟨l.toArray⟩ : ByteArray)).map (·.data.toList) = z :: Z' := by rw [List.map_map]; simp [Function.comp_def]
    have hc : ∀ (j : Nat) x, ((z :: Z').map fun l => (⟨l.toArray⟩ : ByteArray))[j]? = some x → w.cell? ⟨g, 0 + j, none⟩ = some (.string x) := fun j x hx => by
      have hj : j < n := by
        rw [← hX]
        exact (List.getElem?_eq_some_iff.1 hx).1
      rw [Nat.zero_add, h.cellAt j (by omega)]
      unfold strRow str
      rw [List.getElem?_map] at hx ⊢
      cases hz : (z :: Z')[j]? with
      | none => rw [hz] at hx; simp at hx
      | some y => rw [hz] at hx; simp at hx ⊢; rw [hx]
    have := Tryz.strings_Join g 0 q ((z :: Z').map fun l => ⟨l.toArray⟩) ⟨#[44, 32]⟩ w hc hg (by rw [hX]; exact hn) (by rw [hX]; exact (row_caps h).1) (by rw [hY]; exact hlen)
    rw [hX, hY] at this
    exact this
end Go.Proofs.YtklndjkblfncjaaGreatDoor
