/-
  Plain facts on fractions: what a sign, a numerator and a denominator denote, its lowest terms, and the operations on such triples. No program is named here.
-/
import Derived.Test.YtebbnmjmjoklmaaGreatDoorNum
namespace Go.Proofs.YtebbnmjmjoklmaaGreatDoor

def sg (s : Bool) (x : Int) : Int := if s then -x else x
/-- What a sign, a numerator and a denominator denote; over a zero denominator: 0. -/
def rat (s : Bool) (x y : Int) : Rat := Rat.divInt (sg s x) y
theorem sg_true (x : Int) : sg true x = -x := rfl
theorem sg_false (x : Int) : sg false x = x := rfl
theorem rat_over_zero (s : Bool) (x : Int) : rat s x 0 = 0 := Rat.divInt_zero _
theorem rat_zero (s : Bool) (y : Int) : rat s 0 y = 0 := by
  have : sg s 0 = 0 := by cases s <;> rfl
  unfold rat; rw [this, Rat.zero_divInt]
theorem sg_natAbs (s : Bool) {x : Int} (x0 : 0 ≤ x) : ((sg s x).natAbs : Int) = x := by
  cases s
  · rw [sg_false]; omega
  · rw [sg_true]; omega
theorem rat_num (s : Bool) {x y : Int} (y0 : 0 < y) : (rat s x y).num = sg s (x / (Int.gcd x y : Int)) := by
  unfold rat
  rw [Rat.num_divInt, Int.sign_eq_one_of_pos y0, Int.one_mul, Int.gcd_comm]
  cases s
  · rw [sg_false, sg_false]
  · rw [sg_true, sg_true, Int.neg_gcd, Int.neg_ediv_of_dvd (Int.gcd_dvd_left ..)]
theorem rat_den (s : Bool) {x y : Int} (y0 : 0 < y) : ((rat s x y).den : Int) = y / (Int.gcd x y : Int) := by
  unfold rat
  rw [Rat.den_divInt, if_neg (by omega), Int.gcd_comm]
  have h : Int.gcd (sg s x) y = Int.gcd x y := by
    cases s
    · rfl
    · rw [sg_true, Int.neg_gcd]
  rw [h]
  push_cast
  rw [Int.ofNat_natAbs_of_nonneg (Int.le_of_lt y0)]
theorem rat_abs (s : Bool) {x y : Int} (x0 : 0 ≤ x) (y0 : 0 < y) : ((rat s x y).num.natAbs : Int) = x / (Int.gcd x y : Int) := by
  rw [rat_num s y0, sg_natAbs]
  exact Int.ediv_nonneg x0 (by omega)
theorem gcd_pos_of {x y : Int} (y0 : 0 < y) : 0 < (Int.gcd x y : Int) := by
  have : Int.gcd x y ≠ 0 := by
    intro h
    have := (Int.gcd_eq_zero_iff.1 h).2
    omega
  omega
theorem ediv_zero_of_dvd {g x : Int} (h : g ∣ x) (h2 : x / g = 0) : x = 0 := by
  have := Int.ediv_mul_cancel h
  rw [h2] at this
  omega
theorem rat_neg (s : Bool) {x y : Int} (x0 : 0 ≤ x) (y0 : 0 < y) : decide ((rat s x y).num < 0) = (s && !decide (x = 0)) := by
  rw [rat_num s y0]
  have g0 := gcd_pos_of (x := x) y0
  have h1 : x / (Int.gcd x y : Int) = 0 ↔ x = 0 := by
    constructor
    · exact fun h => ediv_zero_of_dvd (Int.gcd_dvd_left ..) h
    · rintro rfl; exact Int.zero_ediv _
  have h2 : 0 ≤ x / (Int.gcd x y : Int) := Int.ediv_nonneg x0 (by omega)
  cases s
  · rw [sg_false]; simp; omega
  · rw [sg_true]
    by_cases hx : x = 0
    · rw [h1.2 hx]; simp [hx]
    · have : ¬ x / (Int.gcd x y : Int) = 0 := fun h => hx (h1.1 h)
      simp [hx]; omega
/-- The lowest terms denote the number. -/
theorem rat_self (q : Rat) : rat (decide (q.num < 0)) (q.num.natAbs : Int) (q.den : Int) = q := by
  have h : sg (decide (q.num < 0)) (q.num.natAbs : Int) = q.num := by
    by_cases hq : q.num < 0
    · rw [decide_eq_true hq, sg_true]; omega
    · rw [decide_eq_false hq, sg_false]; omega
  unfold rat
  rw [h, Rat.num_divInt_den]
theorem sg_mul (s t : Bool) (x u : Int) : sg s x * sg t u = sg (s != t) (x * u) := by
  cases s <;> cases t <;> simp [sg, Int.neg_mul, Int.mul_neg]
theorem sg_scale (s : Bool) (x v : Int) : sg s x * v = sg s (x * v) := by cases s <;> simp [sg, Int.neg_mul]
theorem rat_mul (s t : Bool) (x y u v : Int) : rat s x y * rat t u v = rat (s != t) (x * u) (y * v) := by
  unfold rat
  rw [Rat.divInt_mul_divInt, sg_mul]
theorem rat_add (s t : Bool) {x y u v : Int} (y0 : y ≠ 0) (v0 : v ≠ 0) : rat s x y + rat t u v = Rat.divInt (sg s (x * v) + sg t (u * y)) (y * v) := by
  unfold rat
  rw [Rat.divInt_add_divInt _ _ y0 v0, sg_scale, sg_scale]
theorem rat_add_same (s : Bool) {x y u v : Int} (y0 : y ≠ 0) (v0 : v ≠ 0) : rat s x y + rat s u v = rat s (x * v + u * y) (y * v) := by
  rw [rat_add s s y0 v0]
  unfold rat
  congr 1
  cases s <;> simp [sg]; omega
theorem rat_add_left {s t : Bool} {x y u v : Int} (h : s ≠ t) (y0 : y ≠ 0) (v0 : v ≠ 0) : rat s x y + rat t u v = rat s (x * v - u * y) (y * v) := by
  rw [rat_add s t y0 v0]
  unfold rat
  congr 1
  cases s <;> cases t <;> simp [sg] at * <;> omega
theorem rat_add_right {s t : Bool} {x y u v : Int} (h : s ≠ t) (y0 : y ≠ 0) (v0 : v ≠ 0) : rat s x y + rat t u v = rat t (u * y - x * v) (y * v) := by
  rw [rat_add s t y0 v0]
  unfold rat
  congr 1
  cases s <;> cases t <;> simp [sg] at * <;> omega
theorem rat_opp (s : Bool) (x y : Int) : rat (!s) x y = -(rat s x y) := by
  unfold rat
  rw [Rat.neg_divInt]
  cases s <;> simp [sg]
theorem rat_inv (s : Bool) (x y : Int) : rat s y x = (rat s x y)⁻¹ := by
  unfold rat
  rw [Rat.inv_divInt]
  cases s
  · rfl
  · rw [sg_true, sg_true, Rat.divInt_neg']
theorem rat_eq_zero (s : Bool) {x y : Int} (y0 : 0 < y) : rat s x y = 0 ↔ x = 0 := by
  constructor
  · intro h
    have h1 := rat_num s (x := x) y0
    rw [h] at h1
    have h2 : x / (Int.gcd x y : Int) = 0 := by
      cases s
      · rw [sg_false] at h1; exact h1.symm
      · rw [sg_true] at h1; simp at h1; omega
    exact ediv_zero_of_dvd (Int.gcd_dvd_left ..) h2
  · rintro rfl; exact rat_zero s y
theorem rat_nonneg (s : Bool) {x y : Int} (y0 : 0 < y) : 0 ≤ rat s x y ↔ 0 ≤ sg s x := Rat.divInt_nonneg_iff_of_pos_right y0
theorem rat_neg_iff (s : Bool) {x y : Int} (x0 : 0 ≤ x) (y0 : 0 < y) : rat s x y < 0 ↔ s = true ∧ x ≠ 0 := by
  rw [← Rat.not_le, rat_nonneg s y0]
  cases s
  · rw [sg_false]; simp; exact x0
  · rw [sg_true]; simp; omega
theorem rat_pos_iff (s : Bool) {x y : Int} (x0 : 0 ≤ x) (y0 : 0 < y) : 0 < rat s x y ↔ s = false ∧ x ≠ 0 := by
  have h := rat_neg_iff (!s) x0 y0
  rw [rat_opp] at h
  have e : -(rat s x y) < 0 ↔ 0 < rat s x y := by
    constructor
    · intro h; have := Rat.neg_lt_iff.1 h; simpa using this
    · intro h; apply Rat.neg_lt_iff.2; simpa using h
  rw [← e, h]
  cases s <;> simp
/-- Signs and products decide the order. -/
theorem rat_le (s t : Bool) {x y u v : Int} (y0 : 0 < y) (v0 : 0 < v) : rat s x y ≤ rat t u v ↔ sg s (x * v) ≤ sg t (u * y) := by
  have h : rat t u v - rat s x y = Rat.divInt (sg t (u * y) - sg s (x * v)) (v * y) := by
    unfold rat
    rw [Rat.divInt_sub_divInt _ _ (by omega) (by omega), sg_scale, sg_scale]
  rw [Rat.le_iff_sub_nonneg, h, Rat.divInt_nonneg_iff_of_pos_right (Int.mul_pos v0 y0)]
  omega
/-- How two fractions compare: -1, 0 or 1. -/
def cmpR (a b : Rat) : Int := if a < b then -1 else if b < a then 1 else 0
theorem cmpR_lt {a b : Rat} (h : a < b) : cmpR a b = -1 := by unfold cmpR; rw [if_pos h]
theorem cmpR_gt {a b : Rat} (h : b < a) : cmpR a b = 1 := by
  unfold cmpR
  have h3 : ¬ a < b := Rat.not_lt.2 (Rat.le_of_lt h)
  rw [if_neg h3, if_pos h]
theorem cmpR_eq {a b : Rat} (h : a = b) : cmpR a b = 0 := by
  subst h
  unfold cmpR
  rw [if_neg Rat.lt_irrefl, if_neg Rat.lt_irrefl]
theorem rat_cmp (s t : Bool) {x y u v : Int} (y0 : 0 < y) (v0 : 0 < v) : cmpR (rat s x y) (rat t u v) = cmpZ (sg s (x * v)) (sg t (u * y)) := by
  have h1 := rat_le s t (x := x) (u := u) y0 v0
  have h2 := rat_le t s (x := u) (u := x) v0 y0
  have e1 : rat s x y < rat t u v ↔ sg s (x * v) < sg t (u * y) := by rw [← Rat.not_le, h2, Int.not_le]
  have e2 : rat t u v < rat s x y ↔ sg t (u * y) < sg s (x * v) := by rw [← Rat.not_le, h1, Int.not_le]
  unfold cmpR cmpZ
  simp only [e1, e2]

end Go.Proofs.YtebbnmjmjoklmaaGreatDoor
