/-
  Plain facts for the greatest common divisor: a step that does several divisions at once, found from the leading bits alone. No program is named here.
-/
import Derived.Test.YtdimajnadmkhiaaDoorKnu
namespace Go.Proofs.YtdimajnadmkhiaaDoor

/-- A combination with determinant 1 or -1 keeps the greatest common divisor. -/
theorem gcd_combo {a b u0 v0 u1 v1 : Int} (h : u0 * v1 - u1 * v0 = 1 ∨ u0 * v1 - u1 * v0 = -1) : Int.gcd (u0 * a + v0 * b) (u1 * a + v1 * b) = Int.gcd a b := by
  apply Nat.dvd_antisymm
  · have d1 : ((Int.gcd (u0 * a + v0 * b) (u1 * a + v1 * b) : Nat) : Int) ∣ u0 * a + v0 * b := Int.gcd_dvd_left ..
    have d2 : ((Int.gcd (u0 * a + v0 * b) (u1 * a + v1 * b) : Nat) : Int) ∣ u1 * a + v1 * b := Int.gcd_dvd_right ..
    refine Int.natCast_dvd_natCast.1 (Int.dvd_coe_gcd ?_ ?_)
    · have e : (u0 * v1 - u1 * v0) * a = v1 * (u0 * a + v0 * b) - v0 * (u1 * a + v1 * b) := by grind
      have d3 : ((Int.gcd (u0 * a + v0 * b) (u1 * a + v1 * b) : Nat) : Int) ∣ (u0 * v1 - u1 * v0) * a := by
        rw [e]; exact Int.dvd_sub (Int.dvd_mul_of_dvd_right d1) (Int.dvd_mul_of_dvd_right d2)
      rcases h with h | h <;> rw [h] at d3
      · simpa using d3
      · simpa using d3
    · have e : (u0 * v1 - u1 * v0) * b = u0 * (u1 * a + v1 * b) - u1 * (u0 * a + v0 * b) := by grind
      have d3 : ((Int.gcd (u0 * a + v0 * b) (u1 * a + v1 * b) : Nat) : Int) ∣ (u0 * v1 - u1 * v0) * b := by
        rw [e]; exact Int.dvd_sub (Int.dvd_mul_of_dvd_right d2) (Int.dvd_mul_of_dvd_right d1)
      rcases h with h | h <;> rw [h] at d3
      · simpa using d3
      · simpa using d3
  · have d1 : ((Int.gcd a b : Nat) : Int) ∣ a := Int.gcd_dvd_left ..
    have d2 : ((Int.gcd a b : Nat) : Int) ∣ b := Int.gcd_dvd_right ..
    exact Int.natCast_dvd_natCast.1 (Int.dvd_coe_gcd (Int.dvd_add (Int.dvd_mul_of_dvd_right d1) (Int.dvd_mul_of_dvd_right d2)) (Int.dvd_add (Int.dvd_mul_of_dvd_right d1) (Int.dvd_mul_of_dvd_right d2)))

/-- What a step (u0 = σ p0, v0 = -σ m0, u1 = -σ p1, v1 = σ m1) that was found for the leading bits A, B does to all numbers with these leading bits. -/
structure Lem (A B σ p0 m0 p1 m1 : Int) : Prop where
  sg : σ = 1 ∨ σ = -1
  p0n : 0 ≤ p0
  m0n : 0 ≤ m0
  p1n : 0 ≤ p1
  m1n : 1 ≤ m1
  p1m : p1 ≤ m1
  m0m : m0 ≤ m1
  p0m : p0 ≤ m1
  top : m1 < 2147483648
  det : p0 * m1 - p1 * m0 = 1 ∨ p0 * m1 - p1 * m0 = -1
  real : ∀ K α β : Int, 0 < K → 0 ≤ α → α < K → 0 ≤ β → β < K → B * K + β ≤ A * K + α →
    0 ≤ σ * (m1 * (B * K + β) - p1 * (A * K + α)) ∧ σ * (m1 * (B * K + β) - p1 * (A * K + α)) ≤ σ * (p0 * (A * K + α) - m0 * (B * K + β))
  first : (σ = 1 ∧ p0 = 1 ∧ m0 = 0 ∧ p1 = 0 ∧ m1 = 1) ∨
    (p0 ≤ m0 ∧ ∀ K α β : Int, 0 < K → 0 ≤ α → α < K → 0 ≤ β → β < K → B * K + β ≤ A * K + α → σ * (p0 * (A * K + α) - m0 * (B * K + β)) ≤ B * K + β ∧ σ * (m1 * (B * K + β) - p1 * (A * K + α)) < σ * (p0 * (A * K + α) - m0 * (B * K + β)))

theorem Lem.none (A B : Int) (hB : 0 ≤ B) : Lem A B 1 1 0 0 1 := by
  refine ⟨.inl rfl, by decide, by decide, by decide, by decide, by decide, by decide, by decide, by decide, .inl (by decide), ?_, .inl ⟨rfl, rfl, rfl, rfl, rfl⟩⟩
  intro K α β hK a0 a1 b0 b1 h
  have e1 : 1 * (1 * (B * K + β) - 0 * (A * K + α)) = B * K + β := by grind
  have e2 : 1 * (1 * (A * K + α) - 0 * (B * K + β)) = A * K + α := by grind
  rw [e1, e2]
  have h2 : 0 ≤ B * K := Int.mul_nonneg hB (by omega)
  exact ⟨by omega, h⟩

/-- The loop's own numbers. -/
structure LemAt (A B σ p0 m0 p1 m1 a b : Int) : Prop where
  lem : Lem A B σ p0 m0 p1 m1
  ha : a = σ * (p0 * A - m0 * B)
  hb : b = σ * (m1 * B - p1 * A)
  b0 : 0 ≤ b
  ba : b ≤ a
  aA : a ≤ A
  room : b ≠ 0 → m1 ≤ b

theorem LemAt.next {A B σ p0 m0 p1 m1 a b q r : Int} (h : LemAt A B σ p0 m0 p1 m1 a b) (hA : A < 4611686018427387904) (e : a = b * q + r) (q1 : 1 ≤ q) (r0 : 0 ≤ r) (rb : r < b)
    (acc1 : m0 + q * m1 ≤ r) (acc2 : m1 + (m0 + q * m1) ≤ b - r) : LemAt A B (-σ) p1 m1 (p0 + q * p1) (m0 + q * m1) b r := by
  obtain ⟨hl, ha, hb, b0, ba, aA, room⟩ := h
  have l1 := hl.p0n
  have l2 := hl.m0n
  have l3 := hl.p1n
  have l4 := hl.m1n
  have l5 := hl.p1m
  have l6 := hl.m0m
  have g1 : 0 ≤ q * p1 := Int.mul_nonneg (by omega) l3
  have g2 : 1 * m1 ≤ q * m1 := le_mul q1 (by omega)
  have g3 : q * p1 ≤ q * m1 := le_mul' l5 (by omega)
  have g4 : p0 + q * p1 ≤ m0 + q * m1 := by
    rcases hl.first with ⟨_, f1, f2, f3, f4⟩ | ⟨f, _⟩
    · rw [f1, f2, f3, f4]; omega
    · omega
  have hr : r = -σ * ((m0 + q * m1) * B - (p0 + q * p1) * A) := by
    have e2 : r = a - b * q := by omega
    rw [e2, ha, hb]; grind
  have hb' : b = -σ * (p1 * A - m1 * B) := by rw [hb]; grind
  have hdet : p1 * (m0 + q * m1) - (p0 + q * p1) * m1 = -(p0 * m1 - p1 * m0) := by grind
  have htop : m0 + q * m1 < 2147483648 := by
    have e3 : (m0 + q * m1) * b + m1 * r = σ * (p0 * m1 - p1 * m0) * A := by rw [hr, hb]; grind
    have h1 : (m0 + q * m1) * b ≤ A := by
      have h2 : 0 ≤ m1 * r := Int.mul_nonneg (by omega) r0
      have h3 : 0 ≤ (m0 + q * m1) * b := Int.mul_nonneg (by omega) b0
      have h4 : σ * (p0 * m1 - p1 * m0) * A = A ∨ σ * (p0 * m1 - p1 * m0) * A = -A := by
        rcases hl.sg with s1 | s1 <;> rcases hl.det with d1 | d1 <;> rw [s1, d1] <;> first | (left; omega) | (right; omega)
      omega
    rcases Int.lt_or_le (m0 + q * m1) 2147483648 with h5 | h5
    · exact h5
    · exfalso
      have h6 : (m0 + q * m1) * 4294967296 ≤ (m0 + q * m1) * b := le_mul' (by omega) (by omega)
      omega
  generalize q * m1 = qm at *
  generalize q * p1 = qp at *
  have x0 : m1 ≤ m0 + qm := by omega
  have x00 : 0 ≤ p0 + qp := by omega
  generalize m0 + qm = m2 at *
  generalize p0 + qp = p2 at *
  have hreal : ∀ K α β : Int, 0 < K → 0 ≤ α → α < K → 0 ≤ β → β < K →
      0 ≤ -σ * (m2 * (B * K + β) - p2 * (A * K + α)) ∧ -σ * (m2 * (B * K + β) - p2 * (A * K + α)) < -σ * (p1 * (A * K + α) - m1 * (B * K + β)) := by
    intro K α β hK a0 a1 b0' b1
    have k1 : m2 * K ≤ r * K := le_mul acc1 (by omega)
    have k2 : (m1 + m2) * K ≤ (b - r) * K := le_mul acc2 (by omega)
    have k3 : m2 * β ≤ m2 * K := le_mul' (by omega) (by omega)
    have k4 : (m1 + m2) * (β + 1) ≤ (m1 + m2) * K := le_mul' (by omega) (by omega)
    have k5 : p2 * α ≤ p2 * K := le_mul' (by omega) (by omega)
    have k6 : p2 * K ≤ m2 * K := le_mul g4 (by omega)
    have k7 : (p1 + p2) * α ≤ (m1 + m2) * α := le_mul (by omega) a0
    have k8 : (m1 + m2) * (α + 1) ≤ (m1 + m2) * K := le_mul' (by omega) (by omega)
    have k9 : 0 ≤ p2 * α := Int.mul_nonneg (by omega) a0
    have k10 : 0 ≤ m2 * β := Int.mul_nonneg (by omega) b0'
    have k11 : 0 ≤ (p1 + p2) * α := Int.mul_nonneg (by omega) a0
    have k12 : 0 ≤ (m1 + m2) * β := Int.mul_nonneg (by omega) b0'
    rw [Int.mul_add] at k4 k8
    have eS : -σ * (m2 * (B * K + β) - p2 * (A * K + α)) = r * K + -σ * (m2 * β - p2 * α) := by
      have : r * K = -σ * (m2 * B - p2 * A) * K := by rw [← hr]
      grind
    have eF : -σ * (p1 * (A * K + α) - m1 * (B * K + β)) = b * K + -σ * (p1 * α - m1 * β) := by
      have : b * K = -σ * (p1 * A - m1 * B) * K := by rw [← hb']
      grind
    rw [eS, eF]
    have x1 : (b - r) * K = b * K - r * K := Int.sub_mul ..
    have x2 : (p1 + p2) * α = p1 * α + p2 * α := Int.add_mul ..
    have x3 : (m1 + m2) * β = m1 * β + m2 * β := Int.add_mul ..
    rcases hl.sg with s1 | s1 <;> rw [s1]
    · have y1 : -(1 : Int) * (m2 * β - p2 * α) = p2 * α - m2 * β := by omega
      have y2 : -(1 : Int) * (p1 * α - m1 * β) = m1 * β - p1 * α := by omega
      rw [y1, y2]
      constructor <;> omega
    · have y1 : -(-1 : Int) * (m2 * β - p2 * α) = m2 * β - p2 * α := by omega
      have y2 : -(-1 : Int) * (p1 * α - m1 * β) = p1 * α - m1 * β := by omega
      rw [y1, y2]
      constructor <;> omega
  refine ⟨⟨?_, l3, by omega, by omega, by omega, g4, by omega, by omega, htop, ?_, ?_, .inr ⟨l5, ?_⟩⟩, hb', hr, r0, by omega, by omega, fun _ => acc1⟩
  · rcases hl.sg with s1 | s1
    · right; omega
    · left; omega
  · rw [hdet]
    rcases hl.det with d1 | d1
    · right; omega
    · left; omega
  · intro K α β hK a0 a1 b0' b1 _
    have := hreal K α β hK a0 a1 b0' b1
    omega
  · intro K α β hK a0 a1 b0' b1 hle
    have hre := hl.real K α β hK a0 a1 b0' b1 hle
    have h2 := hreal K α β hK a0 a1 b0' b1
    refine ⟨?_, h2.2⟩
    have e4 : -σ * (p1 * (A * K + α) - m1 * (B * K + β)) = σ * (m1 * (B * K + β) - p1 * (A * K + α)) := by grind
    rw [e4]
    rcases hl.first with ⟨f0, f1, f2, f3, f4⟩ | ⟨_, f⟩
    · rw [f0, f3, f4]; omega
    · have := f K α β hK a0 a1 b0' b1 hle
      omega

theorem LemAt.start (A B : Int) (hB : 0 ≤ B) (hBA : B ≤ A) : LemAt A B 1 1 0 0 1 A B :=
  ⟨Lem.none A B hB, by omega, by omega, hB, hBA, Int.le_refl _, fun h => by omega⟩

end Go.Proofs.YtdimajnadmkhiaaDoor
