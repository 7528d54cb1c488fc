/-
  rational.Format: the text of a fraction; exactppllaw02.awake.
-/
import Derived.Test.YtebbnmjmjoklmaaGreatDoorRatDiv
import Derived.Test.YtebbnmjmjoklmaaGreatDoorFmt
namespace Go.Proofs.YtebbnmjmjoklmaaGreatDoor
open Go.RowKit
set_option maxRecDepth 20000

/-- A natural number in decimal. -/
def dec (n : Nat) : ByteArray := ⟨(revDig n).reverse.toArray⟩
theorem dec_one : dec 1 = ⟨#[49]⟩ := by unfold dec; rw [revDig_small (by decide)]; rfl
theorem revDig_inj : ∀ m n : Nat, revDig m = revDig n → m = n := by
  intro m
  induction m using Nat.strongRecOn with
  | _ m ih =>
    intro n h
    rw [revDig, revDig.eq_def n] at h
    injection h with h1 h2
    have h3 : (48 + m % 10) = (48 + n % 10) := by
      have a : (UInt8.ofNat (48 + m % 10)).toNat = 48 + m % 10 := UInt8.toNat_ofNat_of_lt (by show _ < 256; omega)
      have b : (UInt8.ofNat (48 + n % 10)).toNat = 48 + n % 10 := UInt8.toNat_ofNat_of_lt (by show _ < 256; omega)
      rw [← a, ← b, h1]
    by_cases hm : m < 10
    · by_cases hn : n < 10
      · omega
      · rw [if_pos hm, if_neg hn, revDig] at h2; cases h2
    · by_cases hn : n < 10
      · rw [if_neg hm, if_pos hn, revDig] at h2; cases h2
      · rw [if_neg hm, if_neg hn] at h2
        have := ih (m / 10) (by omega) (n / 10) h2
        omega
theorem dec_inj {m n : Nat} (h : dec m = dec n) : m = n := by
  unfold dec at h
  injection h with h
  have h2 := congrArg Array.toList h
  simp at h2
  exact revDig_inj m n h2
theorem dec_ne_one {n : Nat} (h : n ≠ 1) : dec n ≠ ⟨#[49]⟩ := by
  rw [← dec_one]; exact fun e => h (dec_inj e)

theorem format_n {w : World} {A : Option Addr} {n c : Nat} {x : Int} (hx : Num w A n c x) (hn : n ≤ 1000000) (N : Nat) (hN : x = (N : Int)) : Calls Tryz.prog 88 #[.slice A n c] w fun e w' => e = .returned (.string (dec N)) ∧ Below w.heap.size w w' := by
  obtain ⟨L, h1, rfl⟩ := hx
  exact format_any A n c L w N h1 hn hN

theorem dec_list (n : Nat) : (dec n).toList = (revDig n).reverse := by
  rw [ByteArray.toList_eq]; unfold dec; simp
theorem dec_test_one {n : Nat} (h : n = 1) : ((dec n).toList == [49]) = true := by
  subst h
  rw [dec_list, revDig_small (by decide)]; rfl
theorem dec_test_ne {n : Nat} (h : n ≠ 1) : ((dec n).toList == [49]) = false := by
  rw [dec_list, beq_eq_false_iff_ne]
  intro e
  have e2 : revDig n = revDig 1 := by
    have := congrArg List.reverse e
    rw [List.reverse_reverse] at this
    rw [this, revDig_small (by decide)]; rfl
  exact h (revDig_inj _ _ e2)
theorem dec_size {n : Nat} {k : Nat} (h : (n : Int) < pw k) : (dec n).size ≤ 10 * k + 1 := by
  have := revDig_limbs h rfl
  unfold dec
  simp only [ByteArray.size]
  simpa using this

/-- The text of a fraction. -/
def ratText (q : Rat) : ByteArray :=
  if q.num < 0 then (if q.den = 1 then ⟨#[45]⟩ ++ dec q.num.natAbs else ⟨#[45]⟩ ++ dec q.num.natAbs ++ (⟨#[47]⟩ ++ dec q.den))
  else (if q.den = 1 then dec q.num.natAbs else dec q.num.natAbs ++ (⟨#[47]⟩ ++ dec q.den))
def TextB (w : World) (t : ByteArray) (e : Ending) (w' : World) : Prop := e = .returned (.string t) ∧ Below w.heap.size w w'

set_option maxHeartbeats 1000000 in
theorem ratFormat_r {w : World} {s : Bool} {A B : Option Addr} {n c m d k : Nat} {q : Rat} (hl : Laid w) (h : Loose w s A n c B m d q k) (k0 : 1 ≤ k) (hk8 : k ≤ 800000) :
    Calls Tryz.prog 69 #[.agg #[.bool s, .slice A n c, .slice B m d]] w (TextB w (ratText q)) := by
  have hb1 := (Below.refl w.heap.size w).alloc (Nat.le_refl _) (.cells #[.bool s, .slice A n c, .slice B m d] 42)
  have HN := Lib.hid (norm_r (hl.below hb1) (h.below hb1) k0 hk8)
  clear h
  go_enter Tryz.func69, Tryz.ntmps69
  go_wp2_with fail
  refine HN.out.mono ?_
  rintro e w5 ⟨t9, A9, n9, c9, B9, m9, d9, rfl, r9, oA9, oB9, b9⟩
  obtain ⟨rt, hN1, hN2, l1, l2⟩ := r9
  have HRT := Lib.hid rt
  clear rt
  have ba := (Below.refl w5.heap.size w5).alloc (Nat.le_refl _) (.cells #[.bool t9, .slice A9 n9 c9, .slice B9 m9 d9] 42)
  have hgb : w5.heap.size < (w5.alloc (.cells #[.bool t9, .slice A9 n9 c9, .slice B9 m9 d9] 42)).heap.size := by rw [World.size_alloc]; exact Nat.lt_succ_self _
  have HC := Lib.hid (three_cells hgb ((World.cell?_alloc_new ..).trans rfl) ((World.cell?_alloc_new ..).trans rfl) ((World.cell?_alloc_new ..).trans rfl))
  have F1 := Lib.hid (format_n (hN1.num.below ba) (by omega) q.num.natAbs rfl)
  go_wp2_with fail
  refine F1.out.mono ?_
  rintro e w6 ⟨rfl, b6⟩
  have F2 := Lib.hid (format_n (hN2.num.below (nextB ba b6)) (by omega) q.den rfl)
  obtain ⟨o0, o1, o2⟩ := HC.out w6 b6
  have hk6 := nextB (nextB hb1 b9) (nextB ba b6)
  have z1 := dec_size (n := q.num.natAbs) (k := k) (pw_up hN1.num.lt l1)
  have z2 := dec_size (n := q.den) (k := k) (pw_up hN2.num.lt l2)
  cases t9
  · have hq : ¬ q.num < 0 := of_decide_eq_false HRT.out.symm
    have HQ : Hid (¬ q.num < 0) := hq
    clear hq
    by_cases hd : q.den = 1
    · have T := dec_test_one hd
      have HD := Lib.hid hd
      clear hd
      go_wp2_with fail
      refine F2.out.mono ?_
      rintro e w7 ⟨rfl, b7⟩
      go_wp2
      go_ret
      exact ⟨by unfold ratText; rw [if_neg (by have := HQ.out; omega), if_pos HD.out]; rfl, nextB hk6 b7⟩
    · have T := dec_test_ne hd
      have HD : Hid (¬ q.den = 1) := hd
      clear hd
      go_wp2_with fail
      refine F2.out.mono ?_
      rintro e w7 ⟨rfl, b7⟩
      go_wp2
      go_ret
      exact ⟨by unfold ratText; rw [if_neg (by have := HQ.out; omega), if_neg HD.out]; rfl, nextB hk6 b7⟩
  · have hq : q.num < 0 := of_decide_eq_true HRT.out.symm
    have HQ : Hid (q.num < 0) := hq
    clear hq
    by_cases hd : q.den = 1
    · have T := dec_test_one hd
      have HD := Lib.hid hd
      clear hd
      go_wp2_with fail
      refine F2.out.mono ?_
      rintro e w7 ⟨rfl, b7⟩
      go_wp2
      go_ret
      exact ⟨by unfold ratText; rw [if_pos HQ.out, if_pos HD.out]; rfl, nextB hk6 b7⟩
    · have T := dec_test_ne hd
      have HD : Hid (¬ q.den = 1) := hd
      clear hd
      go_wp2_with fail
      refine F2.out.mono ?_
      rintro e w7 ⟨rfl, b7⟩
      go_wp2
      go_ret
      exact ⟨by unfold ratText; rw [if_pos HQ.out, if_neg HD.out]; rfl, nextB hk6 b7⟩

theorem half_text : ratText (Rat.divInt 1 6 + Rat.divInt 1 3) = ⟨#[49, 47, 50]⟩ := by
  have e : Rat.divInt 1 6 + Rat.divInt 1 3 = Rat.divInt 1 2 := by
    rw [Rat.divInt_add_divInt _ _ (by decide) (by decide)]
    exact (Rat.divInt_eq_divInt_iff (by decide) (by decide)).2 (by decide)
  have n1 : (Rat.divInt 1 2).num = 1 := by rw [Rat.num_divInt]; decide
  have d1 : (Rat.divInt 1 2).den = 2 := by rw [Rat.den_divInt]; decide
  rw [e]
  unfold ratText
  rw [n1, d1, if_neg (by decide), if_neg (by decide)]
  have e1 : dec (1 : Int).natAbs = ⟨#[49]⟩ := dec_one
  have e2 : dec 2 = ⟨#[50]⟩ := by unfold dec; rw [revDig_small (by decide)]; rfl
  rw [e1, e2]
  rfl

end Go.Proofs.YtebbnmjmjoklmaaGreatDoor
