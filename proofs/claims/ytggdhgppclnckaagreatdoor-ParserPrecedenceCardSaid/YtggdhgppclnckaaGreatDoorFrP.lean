/-
  Fractions: the texts that the parsers hand to layer 2, and what layer 2 gives for them.
-/
import Derived.Test.YtggdhgppclnckaaGreatDoorQE
import Derived.Test.YtggdhgppclnckaaGreatDoorPasF
import Derived.Deep.MidRow
namespace Go.Proofs.YtggdhgppclnckaaGreatDoor
open Go Go.RowKit Lx
set_option maxRecDepth 20000

namespace Ps
theorem limbs_is : ∀ f n : Nat, n ≤ f → Q.Is (limbs f n) n := by
  intro f
  induction f with
  | zero =>
    intro n h
    obtain rfl : n = 0 := by omega
    exact Q.Is.zero
  | succ f ih =>
    intro n h
    unfold limbs
    by_cases h0 : n = 0
    · subst h0; rw [if_pos rfl]; exact Q.Is.zero
    · rw [if_neg h0]
      have hk := ih (n / 4294967296) (by have := Nat.div_lt_self (n := n) (k := 4294967296) (by omega) (by omega); omega)
      refine ⟨Q.Lims.cons (by omega) (by omega) hk.lims, ?_, ?_⟩
      · unfold Q.trim
        rw [hk.nrm, if_neg]
        rintro ⟨e, h1⟩
        rw [e] at hk
        have := hk.eq_of_nil
        omega
      · rw [Q.val_cons, hk.eq]; omega
theorem spot_none {w : World} {a : Addr} {v : Value} (h : w.cell? a = some v) : a.spot = none := by
  unfold World.cell? at h
  split at h
  · cases hs : a.spot with
    | none => rfl
    | some p => rw [hs] at h; cases h
  · cases h
theorem nrm_rd {w : World} {A : Option Addr} {n c x B : Nat} (h : Q.Nrm w A n c x) (ha : Q.Off B A) : Rd (Fr B) w (.l 1 ((limbs x x).map (.n .u32 ·))) (.slice A n c) := by
  obtain ⟨L, hr, hi⟩ := h
  obtain rfl := hi.unique (limbs_is x x (Nat.le_refl _))
  have hl := hr.len
  rcases Nat.eq_zero_or_pos n with rfl | hn
  · rw [List.eq_nil_of_length_eq_zero hl]
    exact .nil 1
  · obtain ⟨⟨g, o, sp⟩, rfl, hb, hc⟩ := hr.at_ hn
    obtain rfl : sp = none := spot_none (hc 0 hn)
    refine .l 1 _ g o n c (fun i => .int .u32 ((limbs x x).getD i 0)) (by simp [hl]) hr.cap hr.top (ha _ rfl) hb (fun i hi => ?_) fun i d hd => ?_
    · have := hc i (by simpa [hl] using hi)
      rwa [Addr.add_mid] at this
    · rw [List.getElem?_map] at hd
      rw [List.getD_eq_getElem?_getD]
      cases he : (limbs x x)[i]? with
      | none => rw [he] at hd; cases hd
      | some y => rw [he] at hd; cases hd; exact .n _ _
theorem bt_app (a b : Bs) : bt a ++ bt b = bt (a ++ b) := by
  apply ByteArray.ext
  simp [bt]
theorem bt_ext (l : Bs) (i j : Nat) : (bt l).extract i j = bt ((l.take j).drop i) := by
  apply ByteArray.ext
  simp [bt, ByteArray.data_extract]
  exact (List.drop_take ..).symm
theorem bt_size (l : Bs) : (bt l).size = l.length := by simp [bt, ByteArray.size]
theorem bt_get (l : Bs) (i : Nat) (h : i < (bt l).size) : (bt l)[i] = l[i]'(by rwa [bt_size] at h) := by simp [bt, ByteArray.getElem_eq_getElem_data]
section
variable {t u : Bs} (hd : ∀ c ∈ t, isD c.toNat = true)
include hd
theorem num_digs : Q.Digs (bt t) := fun i h => by
  rw [bt_get]
  have := hd _ (List.getElem_mem (l := t) (by rwa [bt_size] at h))
  simp [isD] at this
  omega
theorem num_fold (a : Nat) : t.foldl (fun v b => 10 * v + ((b.toNat : Int) - 48)) (a : Int) = (t.foldl (fun n c => n * 10 + (c.toNat - 48)) a : Nat) := by
  induction t generalizing a with
  | nil => rfl
  | cons x t ih =>
    have h1 := hd x (by simp)
    simp [isD] at h1
    simp only [List.foldl_cons]
    rw [show (10 * (a : Int) + ((x.toNat : Int) - 48)) = ((a * 10 + (x.toNat - 48) : Nat) : Int) by omega]
    exact ih (fun c hc => hd c (by simp [hc])) _
theorem num_reads (h0 : 0 < t.length) (h1 : t.length ≤ 60) : Q.ReadsAs (bt t) (numv t) 0 := by
  refine .inl ⟨rfl, num_digs hd, by rw [bt_size]; exact h0, by rw [bt_size]; exact h1, ?_⟩
  exact (num_fold hd 0).symm
theorem num_noslash (k : Nat) (h : k < (bt t).size) : (bt t)[k] ≠ 47 := fun e => by
  have := num_digs hd k h
  rw [e] at this
  revert this; decide
theorem num_signed (s : Bool) (r : Bs) (h0 : 0 < t.length) : Q.signed (bt ((if s then [45] else []) ++ (t ++ r))) = s ∧ Q.unsigned (bt ((if s then [45] else []) ++ (t ++ r))) = bt (t ++ r) := by
  have hs : Q.signed (bt ((if s then [45] else []) ++ (t ++ r))) = s := by
    cases s
    · obtain ⟨x, t', rfl⟩ : ∃ x t', t = x :: t' := by
        cases t with
        | nil => cases h0
        | cons x t' => exact ⟨x, t', rfl⟩
      have h1 := hd x (by simp)
      simp [isD] at h1
      show (((bt (([] : Bs) ++ (x :: t' ++ r))).data.toList.head? == some 45) = false)
      simp only [bt, List.nil_append, List.cons_append, List.head?_cons]
      have : x ≠ 45 := fun e => by subst e; revert h1; decide
      simp [this]
    · rfl
  refine ⟨hs, ?_⟩
  unfold Q.unsigned
  rw [hs]
  cases s
  · rfl
  · rw [if_pos rfl, bt_size, bt_ext]
    simp
    rw [List.take_of_length_le (by simp)]
end
/-- What a text with a slash is cut into. -/
theorem cut_two {t : Bs} (u : Bs) (hd : ∀ c ∈ t, isD c.toNat = true) : Q.CutAt (bt (t ++ 47 :: u)) t.length ∧ (bt (t ++ 47 :: u)).extract 0 t.length = bt t ∧ Q.second (bt (t ++ 47 :: u)) t.length = bt u := by
  have h := Q.CutAt.of_append (bt t) (bt u) (num_noslash hd)
  rw [show (⟨#[47]⟩ : ByteArray) = bt [47] from rfl, bt_app, bt_app, bt_size] at h
  refine ⟨h, ?_, ?_⟩
  · rw [bt_ext]; simp
  · unfold Q.second
    rw [if_pos (by rw [bt_size]; simp), bt_size, bt_ext]
    congr 1
    rw [List.take_of_length_le (Nat.le_refl _), show t ++ 47 :: u = (t ++ [47]) ++ u by simp, List.drop_left' (by simp)]
theorem cut_one {t : Bs} (hd : ∀ c ∈ t, isD c.toNat = true) : Q.CutAt (bt t) t.length ∧ (bt t).extract 0 t.length = bt t ∧ Q.second (bt t) t.length = bt [49] := by
  have h := Q.CutAt.whole (bt t) (num_noslash hd)
  rw [bt_size] at h
  refine ⟨h, ?_, ?_⟩
  · rw [bt_ext]; simp
  · unfold Q.second
    rw [if_neg (by rw [bt_size]; omega)]
    rfl
/-- The fraction in its normal form. -/
theorem ratv_rd {w : World} {t s : Bool} {A A' : Option Addr} {n c m d k B a b : Nat} (h : Q.RN w t A n c A' m d (Q.rat s a b) k) (b0 : 0 < b) (ha : Q.Off B A) (ha' : Q.Off B A') : rdR B w (ratv s a b) (.agg #[.bool t, .slice A n c, .slice A' m d]) := by
  obtain ⟨h1, h2, h3, _⟩ := h
  have e2 := Q.rat_abs s (x := (a : Int)) (y := (b : Int)) (by omega) (by omega)
  have e3 := Q.rat_den s (x := (a : Int)) (y := (b : Int)) (by omega)
  have hg : (Int.gcd (a : Int) (b : Int)) = Nat.gcd a b := rfl
  rw [hg, ← Int.natCast_ediv] at e2 e3
  rw [e2] at h2
  rw [e3] at h3
  have hn : t = (s && decide (a ≠ 0)) := by
    rw [h1, Q.rat_num s (by omega), hg, ← Int.natCast_ediv]
    have hgp : 0 < Nat.gcd a b := Nat.gcd_pos_of_pos_right a b0
    have hz : a / Nat.gcd a b = 0 ↔ a = 0 := by
      constructor
      · intro e
        have := Nat.div_mul_cancel (Nat.gcd_dvd_left a b)
        rw [e] at this
        omega
      · intro e; subst e; simp
    cases s
    · simp [Q.sg]
      omega
    · simp only [Q.sg, if_true, Bool.true_and]
      by_cases ha0 : a = 0
      · simp [ha0]
      · have : a / Nat.gcd a b ≠ 0 := fun e => ha0 (hz.1 e)
        simp [ha0]; omega
  refine ⟨_, _, _, rfl, ?_⟩
  unfold ratv Rv.d
  subst hn
  exact .cons (.b _) (.cons (nrm_rd h2 ha) (.cons (nrm_rd h3 ha') .nil))
end Ps
end Go.Proofs.YtggdhgppclnckaaGreatDoor
