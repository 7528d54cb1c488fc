/-
  What the rows of numbers and fractions of the reference need, part B.
-/
import Derived.Test.YtggdhgppclnckaaGreatDoorQA
import Derived.Deep.RegionHeld3
import Derived.Deep.RegionWith
import Derived.Deep.DeepCutAuto
import Derived.Laws.ResultCell
namespace Go.Proofs.YtggdhgppclnckaaGreatDoor.Q
open Go.RowKit
set_option maxRecDepth 20000

end Go.Proofs.YtggdhgppclnckaaGreatDoor.Q

namespace Go.Proofs.YtggdhgppclnckaaGreatDoor.Q
open Go.RowKit
set_option maxRecDepth 20000

theorem cmp_n {w : World} {A B : Option Addr} {n c m d : Nat} {x y : Int} (hx : Num w A n c x) (hy : Num w B m d y) :
    Calls Tryz.prog 243 #[.slice A n c, .slice B m d] w (SameNum w x y) := by
  obtain ⟨L, h1, rfl⟩ := hx
  obtain ⟨M, h2, rfl⟩ := hy
  exact cmp_any A B n c m d L M w h1 h2
theorem Nrm.zero_len {w : World} {A : Option Addr} {n c : Nat} (h : Nrm w A n c 0) : n = 0 := by
  have := h.short (k := 0) (by decide)
  omega
end Go.Proofs.YtggdhgppclnckaaGreatDoor.Q
namespace Go.Proofs.YtggdhgppclnckaaGreatDoor.Q
open Go.RowKit
set_option maxRecDepth 20000

end Go.Proofs.YtggdhgppclnckaaGreatDoor.Q
namespace Go.Proofs.YtggdhgppclnckaaGreatDoor.Q
open Go.RowKit
set_option maxRecDepth 20000

end Go.Proofs.YtggdhgppclnckaaGreatDoor.Q
namespace Go.Proofs.YtggdhgppclnckaaGreatDoor.Q
open Go.RowKit
set_option maxRecDepth 20000

end Go.Proofs.YtggdhgppclnckaaGreatDoor.Q
namespace Go.Proofs.YtggdhgppclnckaaGreatDoor.Q
open Go.RowKit
set_option maxRecDepth 20000

end Go.Proofs.YtggdhgppclnckaaGreatDoor.Q

namespace Go.Proofs.YtggdhgppclnckaaGreatDoor.Q
open Go.RowKit
set_option maxRecDepth 20000

end Go.Proofs.YtggdhgppclnckaaGreatDoor.Q

namespace Go.Proofs.YtggdhgppclnckaaGreatDoor.Q
open Go.RowKit
set_option maxRecDepth 20000

end Go.Proofs.YtggdhgppclnckaaGreatDoor.Q
namespace Go.Proofs.YtggdhgppclnckaaGreatDoor.Q
open Go.RowKit
set_option maxRecDepth 20000

end Go.Proofs.YtggdhgppclnckaaGreatDoor.Q

namespace Go.Proofs.YtggdhgppclnckaaGreatDoor.Q
open Go.RowKit
set_option maxRecDepth 20000

end Go.Proofs.YtggdhgppclnckaaGreatDoor.Q
namespace Go.Proofs.YtggdhgppclnckaaGreatDoor.Q

/-- A combination with determinant 1 or -1 keeps the greatest common divisor. -/
theorem gcd_combo {a b u0 v0 u1 v1 : Int} (h : u0 * v1 - u1 * v0 = 1 ∨ u0 * v1 - u1 * v0 = -1) : Int.gcd (u0 * a + v0 * b) (u1 * a + v1 * b) = Int.gcd a b := by
  apply Nat.dvd_antisymm
  · have d1 : ((Int.gcd (u0 * a + v0 * b) (u1 * a + v1 * b) : Nat) : Int) ∣ u0 * a + v0 * b := Int.gcd_dvd_left ..
    have d2 : ((Int.gcd (u0 * a + v0 * b) (u1 * a + v1 * b) : Nat) : Int) ∣ u1 * a + v1 * b := Int.gcd_dvd_right ..
    refine Int.natCast_dvd_natCast.1 (Int.dvd_coe_gcd ?_ ?_)
    · have e : (u0 * v1 - u1 * v0) * a = v1 * (u0 * a + v0 * b) - v0 * (u1 * a + v1 * b) := by grind
      have d3 : ((Int.gcd (u0 * a + v0 * b) (u1 * a + v1 * b) : Nat) : Int) ∣ (u0 * v1 - u1 * v0) * a := by
        rw [e]; exact Int.dvd_sub (Int.dvd_mul_of_dvd_right d1) (Int.dvd_mul_of_dvd_right d2)
      rcases h with h | h <;> rw [h] at d3
      · simpa using d3
      · simpa using d3
    · have e : (u0 * v1 - u1 * v0) * b = u0 * (u1 * a + v1 * b) - u1 * (u0 * a + v0 * b) := by grind
      have d3 : ((Int.gcd (u0 * a + v0 * b) (u1 * a + v1 * b) : Nat) : Int) ∣ (u0 * v1 - u1 * v0) * b := by
        rw [e]; exact Int.dvd_sub (Int.dvd_mul_of_dvd_right d2) (Int.dvd_mul_of_dvd_right d1)
      rcases h with h | h <;> rw [h] at d3
      · simpa using d3
      · simpa using d3
  · have d1 : ((Int.gcd a b : Nat) : Int) ∣ a := Int.gcd_dvd_left ..
    have d2 : ((Int.gcd a b : Nat) : Int) ∣ b := Int.gcd_dvd_right ..
    exact Int.natCast_dvd_natCast.1 (Int.dvd_coe_gcd (Int.dvd_add (Int.dvd_mul_of_dvd_right d1) (Int.dvd_mul_of_dvd_right d2)) (Int.dvd_add (Int.dvd_mul_of_dvd_right d1) (Int.dvd_mul_of_dvd_right d2)))

/-- What a step (u0 = σ p0, v0 = -σ m0, u1 = -σ p1, v1 = σ m1) that was found for the leading bits A, B does to all numbers with these leading bits. -/
structure Lem (A B σ p0 m0 p1 m1 : Int) : Prop where
  sg : σ = 1 ∨ σ = -1
  p0n : 0 ≤ p0
  m0n : 0 ≤ m0
  p1n : 0 ≤ p1
  m1n : 1 ≤ m1
  p1m : p1 ≤ m1
  m0m : m0 ≤ m1
  p0m : p0 ≤ m1
  top : m1 < 2147483648
  det : p0 * m1 - p1 * m0 = 1 ∨ p0 * m1 - p1 * m0 = -1
  real : ∀ K α β : Int, 0 < K → 0 ≤ α → α < K → 0 ≤ β → β < K → B * K + β ≤ A * K + α →
    0 ≤ σ * (m1 * (B * K + β) - p1 * (A * K + α)) ∧ σ * (m1 * (B * K + β) - p1 * (A * K + α)) ≤ σ * (p0 * (A * K + α) - m0 * (B * K + β))
  first : (σ = 1 ∧ p0 = 1 ∧ m0 = 0 ∧ p1 = 0 ∧ m1 = 1) ∨
    (p0 ≤ m0 ∧ ∀ K α β : Int, 0 < K → 0 ≤ α → α < K → 0 ≤ β → β < K → B * K + β ≤ A * K + α → σ * (p0 * (A * K + α) - m0 * (B * K + β)) ≤ B * K + β ∧ σ * (m1 * (B * K + β) - p1 * (A * K + α)) < σ * (p0 * (A * K + α) - m0 * (B * K + β)))

theorem Lem.none (A B : Int) (hB : 0 ≤ B) : Lem A B 1 1 0 0 1 := by
  refine ⟨.inl rfl, by decide, by decide, by decide, by decide, by decide, by decide, by decide, by decide, .inl (by decide), ?_, .inl ⟨rfl, rfl, rfl, rfl, rfl⟩⟩
  intro K α β hK a0 a1 b0 b1 h
  have e1 : 1 * (1 * (B * K + β) - 0 * (A * K + α)) = B * K + β := by grind
  have e2 : 1 * (1 * (A * K + α) - 0 * (B * K + β)) = A * K + α := by grind
  rw [e1, e2]
  have h2 : 0 ≤ B * K := Int.mul_nonneg hB (by omega)
  exact ⟨by omega, h⟩

/-- The loop's own numbers. -/
structure LemAt (A B σ p0 m0 p1 m1 a b : Int) : Prop where
  lem : Lem A B σ p0 m0 p1 m1
  ha : a = σ * (p0 * A - m0 * B)
  hb : b = σ * (m1 * B - p1 * A)
  b0 : 0 ≤ b
  ba : b ≤ a
  aA : a ≤ A
  room : b ≠ 0 → m1 ≤ b

theorem LemAt.next {A B σ p0 m0 p1 m1 a b q r : Int} (h : LemAt A B σ p0 m0 p1 m1 a b) (hA : A < 4611686018427387904) (e : a = b * q + r) (q1 : 1 ≤ q) (r0 : 0 ≤ r) (rb : r < b)
    (acc1 : m0 + q * m1 ≤ r) (acc2 : m1 + (m0 + q * m1) ≤ b - r) : LemAt A B (-σ) p1 m1 (p0 + q * p1) (m0 + q * m1) b r := by
  obtain ⟨hl, ha, hb, b0, ba, aA, room⟩ := h
  have l1 := hl.p0n
  have l2 := hl.m0n
  have l3 := hl.p1n
  have l4 := hl.m1n
  have l5 := hl.p1m
  have l6 := hl.m0m
  have g1 : 0 ≤ q * p1 := Int.mul_nonneg (by omega) l3
  have g2 : 1 * m1 ≤ q * m1 := le_mul q1 (by omega)
  have g3 : q * p1 ≤ q * m1 := le_mul' l5 (by omega)
  have g4 : p0 + q * p1 ≤ m0 + q * m1 := by
    rcases hl.first with ⟨_, f1, f2, f3, f4⟩ | ⟨f, _⟩
    · rw [f1, f2, f3, f4]; omega
    · omega
  have hr : r = -σ * ((m0 + q * m1) * B - (p0 + q * p1) * A) := by
    have e2 : r = a - b * q := by omega
    rw [e2, ha, hb]; grind
  have hb' : b = -σ * (p1 * A - m1 * B) := by rw [hb]; grind
  have hdet : p1 * (m0 + q * m1) - (p0 + q * p1) * m1 = -(p0 * m1 - p1 * m0) := by grind
  have htop : m0 + q * m1 < 2147483648 := by
    have e3 : (m0 + q * m1) * b + m1 * r = σ * (p0 * m1 - p1 * m0) * A := by rw [hr, hb]; grind
    have h1 : (m0 + q * m1) * b ≤ A := by
      have h2 : 0 ≤ m1 * r := Int.mul_nonneg (by omega) r0
      have h3 : 0 ≤ (m0 + q * m1) * b := Int.mul_nonneg (by omega) b0
      have h4 : σ * (p0 * m1 - p1 * m0) * A = A ∨ σ * (p0 * m1 - p1 * m0) * A = -A := by
        rcases hl.sg with s1 | s1 <;> rcases hl.det with d1 | d1 <;> rw [s1, d1] <;> first | (left; omega) | (right; omega)
      omega
    rcases Int.lt_or_le (m0 + q * m1) 2147483648 with h5 | h5
    · exact h5
    · exfalso
      have h6 : (m0 + q * m1) * 4294967296 ≤ (m0 + q * m1) * b := le_mul' (by omega) (by omega)
      omega
  generalize q * m1 = qm at *
  generalize q * p1 = qp at *
  have x0 : m1 ≤ m0 + qm := by omega
  have x00 : 0 ≤ p0 + qp := by omega
  generalize m0 + qm = m2 at *
  generalize p0 + qp = p2 at *
  have hreal : ∀ K α β : Int, 0 < K → 0 ≤ α → α < K → 0 ≤ β → β < K →
      0 ≤ -σ * (m2 * (B * K + β) - p2 * (A * K + α)) ∧ -σ * (m2 * (B * K + β) - p2 * (A * K + α)) < -σ * (p1 * (A * K + α) - m1 * (B * K + β)) := by
    intro K α β hK a0 a1 b0' b1
    have k1 : m2 * K ≤ r * K := le_mul acc1 (by omega)
    have k2 : (m1 + m2) * K ≤ (b - r) * K := le_mul acc2 (by omega)
    have k3 : m2 * β ≤ m2 * K := le_mul' (by omega) (by omega)
    have k4 : (m1 + m2) * (β + 1) ≤ (m1 + m2) * K := le_mul' (by omega) (by omega)
    have k5 : p2 * α ≤ p2 * K := le_mul' (by omega) (by omega)
    have k6 : p2 * K ≤ m2 * K := le_mul g4 (by omega)
    have k7 : (p1 + p2) * α ≤ (m1 + m2) * α := le_mul (by omega) a0
    have k8 : (m1 + m2) * (α + 1) ≤ (m1 + m2) * K := le_mul' (by omega) (by omega)
    have k9 : 0 ≤ p2 * α := Int.mul_nonneg (by omega) a0
    have k10 : 0 ≤ m2 * β := Int.mul_nonneg (by omega) b0'
    have k11 : 0 ≤ (p1 + p2) * α := Int.mul_nonneg (by omega) a0
    have k12 : 0 ≤ (m1 + m2) * β := Int.mul_nonneg (by omega) b0'
    rw [Int.mul_add] at k4 k8
    have eS : -σ * (m2 * (B * K + β) - p2 * (A * K + α)) = r * K + -σ * (m2 * β - p2 * α) := by
      have : r * K = -σ * (m2 * B - p2 * A) * K := by rw [← hr]
      grind
    have eF : -σ * (p1 * (A * K + α) - m1 * (B * K + β)) = b * K + -σ * (p1 * α - m1 * β) := by
      have : b * K = -σ * (p1 * A - m1 * B) * K := by rw [← hb']
      grind
    rw [eS, eF]
    have x1 : (b - r) * K = b * K - r * K := Int.sub_mul ..
    have x2 : (p1 + p2) * α = p1 * α + p2 * α := Int.add_mul ..
    have x3 : (m1 + m2) * β = m1 * β + m2 * β := Int.add_mul ..
    rcases hl.sg with s1 | s1 <;> rw [s1]
    · have y1 : -(1 : Int) * (m2 * β - p2 * α) = p2 * α - m2 * β := by omega
      have y2 : -(1 : Int) * (p1 * α - m1 * β) = m1 * β - p1 * α := by omega
      rw [y1, y2]
      constructor <;> omega
    · have y1 : -(-1 : Int) * (m2 * β - p2 * α) = m2 * β - p2 * α := by omega
      have y2 : -(-1 : Int) * (p1 * α - m1 * β) = p1 * α - m1 * β := by omega
      rw [y1, y2]
      constructor <;> omega
  refine ⟨⟨?_, l3, by omega, by omega, by omega, g4, by omega, by omega, htop, ?_, ?_, .inr ⟨l5, ?_⟩⟩, hb', hr, r0, by omega, by omega, fun _ => acc1⟩
  · rcases hl.sg with s1 | s1
    · right; omega
    · left; omega
  · rw [hdet]
    rcases hl.det with d1 | d1
    · right; omega
    · left; omega
  · intro K α β hK a0 a1 b0' b1 _
    have := hreal K α β hK a0 a1 b0' b1
    omega
  · intro K α β hK a0 a1 b0' b1 hle
    have hre := hl.real K α β hK a0 a1 b0' b1 hle
    have h2 := hreal K α β hK a0 a1 b0' b1
    refine ⟨?_, h2.2⟩
    have e4 : -σ * (p1 * (A * K + α) - m1 * (B * K + β)) = σ * (m1 * (B * K + β) - p1 * (A * K + α)) := by grind
    rw [e4]
    rcases hl.first with ⟨f0, f1, f2, f3, f4⟩ | ⟨_, f⟩
    · rw [f0, f3, f4]; omega
    · have := f K α β hK a0 a1 b0' b1 hle
      omega

theorem LemAt.start (A B : Int) (hB : 0 ≤ B) (hBA : B ≤ A) : LemAt A B 1 1 0 0 1 A B :=
  ⟨Lem.none A B hB, by omega, by omega, hB, hBA, Int.le_refl _, fun h => by omega⟩

end Go.Proofs.YtggdhgppclnckaaGreatDoor.Q

namespace Go.Proofs.YtggdhgppclnckaaGreatDoor.Q
open Go.RowKit
set_option maxRecDepth 20000

/-- The package-level variable noStep reads as the program's text lays it. -/
structure Laid (w : World) : Prop where
  size : 4 < w.heap.size
  c0 : w.cell? ⟨4, 0, none⟩ = some (.int .i64 1)
  c1 : w.cell? ⟨4, 1, none⟩ = some (.int .i64 0)
  c2 : w.cell? ⟨4, 2, none⟩ = some (.int .i64 0)
  c3 : w.cell? ⟨4, 3, none⟩ = some (.int .i64 1)
theorem Laid.below {w w' : World} (h : Laid w) (hb : Below w.heap.size w w') : Laid w' :=
  ⟨Nat.lt_of_lt_of_le h.size hb.size, (hb.cell (p := ⟨_, 0, none⟩) h.size).trans h.c0, (hb.cell (p := ⟨_, 1, none⟩) h.size).trans h.c1, (hb.cell (p := ⟨_, 2, none⟩) h.size).trans h.c2, (hb.cell (p := ⟨_, 3, none⟩) h.size).trans h.c3⟩
theorem Laid.drewN {w : World} (h : Laid w) (k : Nat) : Laid (w.drewN k) := ⟨h.size, h.c0, h.c1, h.c2, h.c3⟩

theorem abs_any (x : Int) (w : World) (h0 : -9223372036854775808 < x) (h1 : x ≤ 9223372036854775807) :
    Calls Tryz.prog 278 #[.int .i64 x] w fun e w' => e = .returned (.int .i64 (x.natAbs : Int)) ∧ w = w' := by
  go_enter Tryz.func278, Tryz.ntmps278
  go_wp2
  all_goals
    go_ret
    exact ⟨ret_int (by omega), rfl⟩

/-- Block g holds a step with these four numbers. -/
structure S4 (w : World) (g : Nat) (a b c d : Int) : Prop where
  lt : g < w.heap.size
  c0 : w.cell? ⟨g, 0, none⟩ = some (.int .i64 a)
  c1 : w.cell? ⟨g, 1, none⟩ = some (.int .i64 b)
  c2 : w.cell? ⟨g, 2, none⟩ = some (.int .i64 c)
  c3 : w.cell? ⟨g, 3, none⟩ = some (.int .i64 d)
  fz : ∀ i, w.frozen? ⟨g, i, none⟩ = false
theorem S4.keep {w w' : World} {g : Nat} {a b c d : Int} (h : S4 w g a b c d) (hs : w.heap.size ≤ w'.heap.size) (hk : w'.heap[g]? = w.heap[g]?) : S4 w' g a b c d :=
  ⟨by have := h.lt; omega, (World.cell?_of_block (a := ⟨g, 0, none⟩) hk).trans h.c0, (World.cell?_of_block (a := ⟨g, 1, none⟩) hk).trans h.c1, (World.cell?_of_block (a := ⟨g, 2, none⟩) hk).trans h.c2, (World.cell?_of_block (a := ⟨g, 3, none⟩) hk).trans h.c3,
    fun i => (World.frozen?_of_block (a := ⟨g, i, none⟩) hk).trans (h.fz i)⟩
theorem S4.alloc {w : World} {g : Nat} {a b c d : Int} (h : S4 w g a b c d) (o : Obj) : S4 (w.alloc o) g a b c d := h.keep (by simp) (Below.heap_alloc w o g h.lt)
theorem S4.drew {w : World} {g : Nat} {a b c d : Int} (h : S4 w g a b c d) : S4 w.drew g a b c d := h.keep (Nat.le_refl _) rfl
theorem S4.drewN {w : World} {g : Nat} {a b c d : Int} (h : S4 w g a b c d) (k : Nat) : S4 (w.drewN k) g a b c d := h.keep (Nat.le_refl _) rfl
theorem S4.far {w : World} {g : Nat} {a b c d : Int} (h : S4 w g a b c d) {p : Addr} (hp : g ≠ p.block) (u : Value) : S4 (w.setCell p u) g a b c d := h.keep (by simp [World.setCell]) (Below.heap_setCell w p u g hp)
theorem S4.new (w : World) (a b c d : Int) (t : TypeId) : S4 (w.alloc (.cells #[.int .i64 a, .int .i64 b, .int .i64 c, .int .i64 d] t)) w.heap.size a b c d :=
  ⟨by simp, by rw [World.cell?_alloc_mark]; rfl, by rw [World.cell?_alloc_mark]; rfl, by rw [World.cell?_alloc_mark]; rfl, by rw [World.cell?_alloc_mark]; rfl,
    fun i => by rw [World.frozen?_alloc_mark]; simp⟩

theorem S4.set0 {w : World} {g : Nat} {a b c d : Int} (h : S4 w g a b c d) (x : Int) : S4 (w.setCell ⟨g, 0, none⟩ (.int .i64 x)) g x b c d :=
  ⟨by simpa [World.setCell] using h.lt, World.cell?_setCell_same w _ _ h.c0, (World.cell?_setCell_other w _ _ _ (by simp)).trans h.c1, (World.cell?_setCell_other w _ _ _ (by simp)).trans h.c2, (World.cell?_setCell_other w _ _ _ (by simp)).trans h.c3, fun i => by rw [World.frozen?_setCell]; exact h.fz i⟩
theorem S4.set1 {w : World} {g : Nat} {a b c d : Int} (h : S4 w g a b c d) (x : Int) : S4 (w.setCell ⟨g, 1, none⟩ (.int .i64 x)) g a x c d :=
  ⟨by simpa [World.setCell] using h.lt, (World.cell?_setCell_other w _ _ _ (by simp)).trans h.c0, World.cell?_setCell_same w _ _ h.c1, (World.cell?_setCell_other w _ _ _ (by simp)).trans h.c2, (World.cell?_setCell_other w _ _ _ (by simp)).trans h.c3, fun i => by rw [World.frozen?_setCell]; exact h.fz i⟩
theorem S4.set2 {w : World} {g : Nat} {a b c d : Int} (h : S4 w g a b c d) (x : Int) : S4 (w.setCell ⟨g, 2, none⟩ (.int .i64 x)) g a b x d :=
  ⟨by simpa [World.setCell] using h.lt, (World.cell?_setCell_other w _ _ _ (by simp)).trans h.c0, (World.cell?_setCell_other w _ _ _ (by simp)).trans h.c1, World.cell?_setCell_same w _ _ h.c2, (World.cell?_setCell_other w _ _ _ (by simp)).trans h.c3, fun i => by rw [World.frozen?_setCell]; exact h.fz i⟩
theorem S4.set3 {w : World} {g : Nat} {a b c d : Int} (h : S4 w g a b c d) (x : Int) : S4 (w.setCell ⟨g, 3, none⟩ (.int .i64 x)) g a b c x :=
  ⟨by simpa [World.setCell] using h.lt, (World.cell?_setCell_other w _ _ _ (by simp)).trans h.c0, (World.cell?_setCell_other w _ _ _ (by simp)).trans h.c1, (World.cell?_setCell_other w _ _ _ (by simp)).trans h.c2, World.cell?_setCell_same w _ _ h.c3, fun i => by rw [World.frozen?_setCell]; exact h.fz i⟩

def StepPost (A B : Int) (w : World) (e : Ending) (w' : World) : Prop :=
  ∃ u0 v0 u1 v1 σ p0 m0 p1 m1, e = .returned (.agg #[.int .i64 u0, .int .i64 v0, .int .i64 u1, .int .i64 v1]) ∧ Lem A B σ p0 m0 p1 m1 ∧ u0 = σ * p0 ∧ v0 = -(σ * m0) ∧ u1 = -(σ * p1) ∧ v1 = σ * m1 ∧ Below w.heap.size w w'

set_option maxHeartbeats 2000000 in
theorem findStep_any (A B : Int) (w : World) (hl : Laid w) (hB : 0 ≤ B) (hBA : B ≤ A) (hA : A < 4611686018427387904) :
    Calls Tryz.prog 271 #[.int .i64 A, .int .i64 B] w (StepPost A B w) := by
  obtain ⟨l0, l1, l2, l3, l4⟩ := hl
  go_enter Tryz.func271, Tryz.ntmps271
  go_wp2
  have hs0 := S4.new w 0 0 0 0 265
  have hs1 := S4.new (w.alloc (.cells #[.int .i64 0, .int .i64 0, .int .i64 0, .int .i64 0] 265)) 1 0 0 1 265
  have hs0' := hs0.alloc (.cells #[.int .i64 1, .int .i64 0, .int .i64 0, .int .i64 1] 265)
  rw [World.size_alloc] at hs1
  have hB0 := ((Below.refl w.heap.size w).alloc (Nat.le_refl _) (.cells #[.int .i64 0, .int .i64 0, .int .i64 0, .int .i64 0] 265)).alloc (by simp) (.cells #[.int .i64 1, .int .i64 0, .int .i64 0, .int .i64 1] 265)
  go_loopw [0, 1] (fun av bv wr => ∃ a b σ p0 m0 p1 m1 u0 v0 u1 v1 : Int, av = .int .i64 a ∧ bv = .int .i64 b ∧ Hid (LemAt A B σ p0 m0 p1 m1 a b) ∧ Hid (u0 = σ * p0 ∧ v0 = -(σ * m0) ∧ u1 = -(σ * p1) ∧ v1 = σ * m1) ∧
      (0 ≤ b ∧ b ≤ a ∧ a < 4611686018427387904) ∧ S4 wr w.heap.size 0 0 0 0 ∧ S4 wr (w.heap.size + 1) u0 v0 u1 v1 ∧ Below w.heap.size w wr) (fun _ bv _ => (intOf bv).toNat)
  case atStart => exact ⟨A, B, 1, 1, 0, 0, 1, 1, 0, 0, 1, rfl, rfl, LemAt.start A B hB hBA, ⟨by omega, by omega, by omega, by omega⟩, ⟨hB, hBA, hA⟩, hs0', hs1, hB0⟩
  case round =>
    obtain ⟨a, b, σ, p0, m0, p1, m1, u0, v0, u1, v1, rfl, rfl, hL, hE, ⟨b0, b1, b2⟩, hr0, hr1, hBw⟩ := hrel
    clear hs0 hs1 hs0' hB0 l0 l1 l2 l3 l4
    by_cases hz : b = 0
    · subst hz
      obtain ⟨x0, y0, y1, y2, y3, yf⟩ := hr1
      obtain ⟨z0, r0, r1, r2, r3, rf⟩ := hr0
      have f0 := yf 0
      have f1 := yf 1
      have f2 := yf 2
      have f3 := yf 3
      have g0 := rf 0
      have g1 := rf 1
      have g2 := rf 2
      have g3 := rf 3
      have YF := Lib.hid yf
      have RF := Lib.hid rf
      clear yf rf
      go_wp2
      refine bodyPost_ret (v := .agg #[.int .i64 u0, .int .i64 v0, .int .i64 u1, .int .i64 v1]) (by simp [results, Tryz.results271, go_sem, r0, r1, r2, r3]) rfl ?_
      exact ⟨u0, v0, u1, v1, σ, p0, m0, p1, m1, rfl, hL.out.lem, hE.out.1, hE.out.2.1, hE.out.2.2.1, hE.out.2.2.2,
        (((hBw.setCell (Nat.le_refl _) _).setCell (Nat.le_refl _) _).setCell (Nat.le_refl _) _).setCell (Nat.le_refl _) _⟩
    · have b1' : 1 ≤ b := by omega
      obtain ⟨hl, ha, hb, _, _, aA, room⟩ := hL.out
      obtain ⟨e1, e2, e3, e4⟩ := hE.out
      have hm1b := room hz
      have q1 : 1 ≤ a / b := Int.le_ediv_of_mul_le (by omega) (by omega)
      have r0' := Int.emod_nonneg a hz
      have r1' := Int.emod_lt_of_pos a (show 0 < b by omega)
      have hqr := Int.mul_ediv_add_emod a b
      have hqb : a / b * b ≤ a := by rw [Int.mul_comm]; omega
      have l3 := hl.p1n
      have l4 := hl.m1n
      have l5 := hl.p1m
      have l2 := hl.m0n
      have l1 := hl.p0n
      have l6 := hl.m0m
      have l7 := hl.p0m
      have ltop := hl.top
      have k1 : a / b * m1 ≤ a / b * b := le_mul' hm1b (by omega)
      have k2 : a / b * p1 ≤ a / b * m1 := le_mul' l5 (by omega)
      have k3 : 0 ≤ a / b * p1 := Int.mul_nonneg (by omega) l3
      have k4 : 1 * m1 ≤ a / b * m1 := le_mul q1 (by omega)
      have w1 : a / b * u1 = -(σ * (a / b * p1)) := by rw [e3]; grind
      have w2 : a / b * v1 = σ * (a / b * m1) := by rw [e4]; grind
      obtain ⟨m2, hm2⟩ : ∃ m2, m2 = m0 + a / b * m1 := ⟨_, rfl⟩
      have hbd : (-4611686018427387904 ≤ a / b * u1 ∧ a / b * u1 ≤ 4611686018427387904) ∧ (-4611686018427387904 ≤ a / b * v1 ∧ a / b * v1 ≤ 4611686018427387904) ∧ (-2147483648 ≤ u0 ∧ u0 ≤ 2147483648) ∧ (-2147483648 ≤ v0 ∧ v0 ≤ 2147483648) ∧
          (-2147483648 ≤ v1 ∧ v1 ≤ 2147483648) ∧ ((v0 - a / b * v1).natAbs : Int) = m2 ∧ ((v1 - (v0 - a / b * v1)).natAbs : Int) = m1 + m2 := by
        rw [w1, w2, e1, e2, e4]
        rcases hl.sg with s1 | s1 <;> rw [s1] <;> refine ⟨by omega, by omega, by omega, by omega, by omega, by omega, by omega⟩
      obtain ⟨⟨c1, c2⟩, ⟨c3, c4⟩, ⟨c5, c6⟩, ⟨c7, c8⟩, ⟨c9, c10⟩, n1, n2⟩ := hbd
      have HNX := Lib.hid (fun (acc1 : m0 + a / b * m1 ≤ a % b) (acc2 : m1 + (m0 + a / b * m1) ≤ b - a % b) => hL.out.next hA (by omega) q1 r0' r1' acc1 acc2)
      have HE2 : Hid (u1 = -σ * p1 ∧ v1 = -(-σ * m1) ∧ u0 - a / b * u1 = -(-σ * (p0 + a / b * p1)) ∧ v0 - a / b * v1 = -σ * (m0 + a / b * m1)) := by
        show _ ∧ _ ∧ _ ∧ _
        rw [w1, w2, e1, e2, e3, e4]
        refine ⟨by grind, by grind, by grind, by grind⟩
      have HM2 := Lib.hid hm2
      clear w1 w2 k1 k2 k3 k4 hqr hqb hm2 e1 e2 e3 e4 room ha hb hl l1 l2 l3 l4 l5 l6 l7
      generalize hq : a / b = q at *
      generalize hr : a % b = r at *
      go_wp2_with fail
      go_quiet (fail)
      have hr0q := hr0.drewN nq
      have hr1q := hr1.drewN nq
      have hBq := drewN_below hBw nq
      clear hr0 hr1 hBw
      generalize wr.drewN nq = wq at *
      have hr0a := hr0q.alloc (.cells #[.int .i64 u1, .int .i64 v1, .int .i64 (u0 - q * u1), .int .i64 (v0 - q * v1)] 265)
      have hr1a := hr1q.alloc (.cells #[.int .i64 u1, .int .i64 v1, .int .i64 (u0 - q * u1), .int .i64 (v0 - q * v1)] 265)
      have hr2a := S4.new wq u1 v1 (u0 - q * u1) (v0 - q * v1) 265
      have hBa := hBq.alloc hBq.size (.cells #[.int .i64 u1, .int .i64 v1, .int .i64 (u0 - q * u1), .int .i64 (v0 - q * v1)] 265)
      subst hq hr
      have hq' : True := trivial
      obtain ⟨x0, y0, y1, y2, y3, yf⟩ := hr2a
      obtain ⟨v0', z0, z1, z2, z3, zf⟩ := hr1q
      have YF := Lib.hid yf
      have ZF := Lib.hid zf
      clear yf zf
      go_wp2_with fail
      refine (abs_any (v0 - a / b * v1) _ (by omega) (by omega)).mono ?_
      rintro _ _ ⟨rfl, rfl⟩
      have hm2 := HM2.out
      by_cases hc1 : a % b < m2
      · have hc1' : a % b < ((v0 - a / b * v1).natAbs : Int) := by omega
        obtain ⟨x0, Y0, Y1, Y2, Y3, Yf⟩ := hr1a
        obtain ⟨X0, r0, r1, r2, r3, rf⟩ := hr0a
        have f0 := Yf 0
        have f1 := Yf 1
        have f2 := Yf 2
        have f3 := Yf 3
        have g0 := rf 0
        have g1 := rf 1
        have g2 := rf 2
        have g3 := rf 3
        clear Yf rf
        clear HNX HE2 n2
        go_wp2_with fail
        refine bodyPost_ret (v := .agg #[.int .i64 u0, .int .i64 v0, .int .i64 u1, .int .i64 v1]) (by simp [results, Tryz.results271, go_sem, r0, r1, r2, r3]) rfl ?_
        exact ⟨u0, v0, u1, v1, σ, p0, m0, p1, m1, rfl, hL.out.lem, hE.out.1, hE.out.2.1, hE.out.2.2.1, hE.out.2.2.2,
          (((hBa.setCell (Nat.le_refl _) _).setCell (Nat.le_refl _) _).setCell (Nat.le_refl _) _).setCell (Nat.le_refl _) _⟩
      · have hc1' : ¬ a % b < ((v0 - a / b * v1).natAbs : Int) := by omega
        go_wp2_with fail
        refine (abs_any (v1 - (v0 - a / b * v1)) _ (by omega) (by omega)).mono ?_
        rintro _ _ ⟨rfl, rfl⟩
        by_cases hc2 : b - a % b < m1 + m2
        · have hc2' : b - a % b < ((v1 - (v0 - a / b * v1)).natAbs : Int) := by omega
          obtain ⟨x0, Y0, Y1, Y2, Y3, Yf⟩ := hr1a
          obtain ⟨X0, r0, r1, r2, r3, rf⟩ := hr0a
          have f0 := Yf 0
          have f1 := Yf 1
          have f2 := Yf 2
          have f3 := Yf 3
          have g0 := rf 0
          have g1 := rf 1
          have g2 := rf 2
          have g3 := rf 3
          clear Yf rf
          clear HNX HE2 n2
          go_wp2_with fail
          refine bodyPost_ret (v := .agg #[.int .i64 u0, .int .i64 v0, .int .i64 u1, .int .i64 v1]) (by simp [results, Tryz.results271, go_sem, r0, r1, r2, r3]) rfl ?_
          exact ⟨u0, v0, u1, v1, σ, p0, m0, p1, m1, rfl, hL.out.lem, hE.out.1, hE.out.2.1, hE.out.2.2.1, hE.out.2.2.2,
            (((hBa.setCell (Nat.le_refl _) _).setCell (Nat.le_refl _) _).setCell (Nat.le_refl _) _).setCell (Nat.le_refl _) _⟩
        · have hc2' : ¬ b - a % b < ((v1 - (v0 - a / b * v1)).natAbs : Int) := by omega
          have hnx := HNX.out (by omega) (by omega)
          have HN := Lib.hid hnx
          clear hnx HNX
          have hr1k := hr1a
          obtain ⟨x1, Y0, Y1, Y2, Y3, Yf⟩ := hr1a
          have f0 := Yf 0
          have f1 := Yf 1
          have f2 := Yf 2
          have f3 := Yf 3
          have hr1b := Lib.hid hr1k
          have hr0b := Lib.hid hr0a
          clear Yf hr1k hr0a
          go_wp2_with fail
          generalize wq.alloc (.cells #[.int .i64 u1, .int .i64 v1, .int .i64 (u0 - a / b * u1), .int .i64 (v0 - a / b * v1)] 265) = wz at *
          go_region
          have hs1 := ((((hr1b.out.set0 u1).set1 v1).set2 (u0 - a / b * u1)).set3 (v0 - a / b * v1)).drew
          have hs0 := ((((hr0b.out.far (p := ⟨w.heap.size + 1, 0, none⟩) (by show _ ≠ _ + 1; omega) (.int .i64 u1)).far (p := ⟨w.heap.size + 1, 1, none⟩) (by show _ ≠ _ + 1; omega) (.int .i64 v1)).far (p := ⟨w.heap.size + 1, 2, none⟩) (by show _ ≠ _ + 1; omega) (.int .i64 (u0 - a / b * u1))).far (p := ⟨w.heap.size + 1, 3, none⟩) (by show _ ≠ _ + 1; omega) (.int .i64 (v0 - a / b * v1))).drew
          have hbb := drewN_below ((((hBa.setCell (p := ⟨w.heap.size + 1, 0, none⟩) (by show _ ≤ _ + 1; omega) (.int .i64 u1)).setCell (p := ⟨w.heap.size + 1, 1, none⟩) (by show _ ≤ _ + 1; omega) (.int .i64 v1)).setCell (p := ⟨w.heap.size + 1, 2, none⟩) (by show _ ≤ _ + 1; omega) (.int .i64 (u0 - a / b * u1))).setCell (p := ⟨w.heap.size + 1, 3, none⟩) (by show _ ≤ _ + 1; omega) (.int .i64 (v0 - a / b * v1))) 1
          go_wp2
          go_roundw
          case rel =>
            exact ⟨b, a % b, -σ, p1, m1, p0 + a / b * p1, m0 + a / b * m1, u1, v1, u0 - a / b * u1, v0 - a / b * v1, rfl, rfl, HN, HE2, ⟨r0', by omega, by omega⟩, hs0, hs1, hbb⟩
          case measure => simp [intOf] <;> omega

end Go.Proofs.YtggdhgppclnckaaGreatDoor.Q

namespace Go.Proofs.YtggdhgppclnckaaGreatDoor.Q
open Go.RowKit
set_option maxRecDepth 20000

theorem or_low64 (x y : Int) (s : Nat) (x0 : 0 ≤ x * 2 ^ s) (x1 : x * 2 ^ s < 18446744073709551616) (y0 : 0 ≤ y) (y1 : y < 2 ^ s) (hs : s ≤ 31) : bits .or .u64 (x * 2 ^ s) y = x * 2 ^ s + y := by
  have e32 : (2 : Int) ^ s ≤ 2 ^ 31 := by
    have h2 : (2 : Nat) ^ s ≤ 2 ^ 31 := Nat.pow_le_pow_right (by decide) hs
    exact_mod_cast h2
  have e31 : (2 : Int) ^ 31 = 2147483648 := by decide
  rw [u64_or _ _ x0 x1 y0 (by omega), nat_join s]
  · omega
  · obtain ⟨n, hn⟩ := Int.eq_ofNat_of_zero_le x0
    rw [hn, Int.toNat_natCast]
    have h3 : ((2 ^ s : Nat) : Int) ∣ (n : Int) := ⟨x, by rw [← hn]; push_cast; rw [Int.mul_comm]⟩
    exact Nat.mod_eq_zero_of_dvd (Int.natCast_dvd_natCast.1 h3)
  · obtain ⟨n, rfl⟩ := Int.eq_ofNat_of_zero_le y0
    rw [Int.toNat_natCast]
    exact_mod_cast y1

/-- The weight of the last of the leading bits of a number of n limbs whose first s bits are zero. -/
def lastBit (n s : Nat) : Int := pw (n - 3) * 2 ^ (32 - s) * 4
theorem lastBit_pos (n s : Nat) : 0 < lastBit n s := by
  have h1 := pw_pos (n - 3)
  have h2 : (0 : Int) < 2 ^ (32 - s) := Int.pow_pos (by decide)
  exact Int.mul_pos (Int.mul_pos h1 h2) (by decide)

theorem two_split (s : Nat) (hs : s ≤ 31) : (2 : Int) ^ s * 2 ^ (32 - s) = 4294967296 := by
  rw [← Int.pow_add, show s + (32 - s) = 32 from by omega]; decide

theorem val_three (L : List Int) (n : Nat) (h3 : 3 ≤ n) (hl : L.length ≤ n) :
    val L = val (L.take (n - 3)) + pw (n - 3) * (L.getD (n - 3) 0 + 4294967296 * L.getD (n - 2) 0 + 18446744073709551616 * L.getD (n - 1) 0) := by
  have e1 := val_take_getD L (n - 3)
  have e2 := val_take_getD L (n - 3 + 1)
  have e3 := val_take_getD L (n - 3 + 1 + 1)
  rw [List.take_of_length_le (l := L) (i := n - 3 + 1 + 1 + 1) (by omega)] at e3
  have p1 := pw_succ (n - 3)
  have p2 := pw_succ (n - 3 + 1)
  rw [show n - 3 + 1 = n - 2 from by omega] at e1 e2 e3 p1 p2
  rw [show n - 2 + 1 = n - 1 from by omega] at e2 e3 p2
  rw [e3, e2, e1, p2, p1]
  grind

/-- The leading bits, by the first three limbs. -/
theorem lead_word (L : List Int) (n s : Nat) (h3 : 3 ≤ n) (hs : s ≤ 31) (hl : L.length ≤ n) (hL : Lims L) (hV : val L * 2 ^ s < pw n) :
    ∃ t0 t1 t2, L.getD (n - 1) 0 = t0 ∧ L.getD (n - 2) 0 = t1 ∧ L.getD (n - 3) 0 = t2 ∧ (0 ≤ t0 ∧ t0 < 4294967296) ∧ (0 ≤ t1 ∧ t1 < 4294967296) ∧ (0 ≤ t2 ∧ t2 < 4294967296) ∧
      0 ≤ (t0 * 4294967296 + t1) * 2 ^ s ∧ (t0 * 4294967296 + t1) * 2 ^ s < 18446744073709551616 ∧ 0 ≤ t2 / 2 ^ (32 - s) ∧ t2 / 2 ^ (32 - s) < 2 ^ s ∧
      (t0 * 4294967296 + t1) * 2 ^ s + t2 / 2 ^ (32 - s) < 18446744073709551616 ∧ 0 ≤ val L / lastBit n s ∧ val L / lastBit n s < 4611686018427387904 ∧
      ((t0 * 4294967296 + t1) * 2 ^ s + t2 / 2 ^ (32 - s)) / 4 = val L / lastBit n s := by
  have u0 := hL.getD (n - 1)
  have u1 := hL.getD (n - 2)
  have u2 := hL.getD (n - 3)
  have e := val_three L n h3 hl
  have p0 := pw_pos (n - 3)
  have lo0 := val_nonneg (hL.take (n - 3))
  have lo1 := val_lt (hL.take (n - 3))
  have lo2 : pw (L.take (n - 3)).length ≤ pw (n - 3) := pw_mono (by rw [List.length_take]; omega)
  have hm := two_split s hs
  have hp : (0 : Int) < 2 ^ s := Int.pow_pos (by decide)
  have hq : (0 : Int) < 2 ^ (32 - s) := Int.pow_pos (by decide)
  have hpn : pw n = pw (n - 3) * 79228162514264337593543950336 := by
    have p1 := pw_succ (n - 3)
    have p2 := pw_succ (n - 3 + 1)
    have p3 := pw_succ (n - 3 + 1 + 1)
    rw [show n - 3 + 1 + 1 + 1 = n from by omega] at p3
    rw [p3, p2, p1]; omega
  unfold lastBit
  generalize L.getD (n - 1) 0 = t0 at *
  generalize L.getD (n - 2) 0 = t1 at *
  generalize L.getD (n - 3) 0 = t2 at *
  generalize val (L.take (n - 3)) = lo at *
  generalize pw (n - 3) = P at *
  generalize (2 : Int) ^ s = S at *
  generalize (2 : Int) ^ (32 - s) = Q at *
  obtain ⟨X, hX⟩ : ∃ X, X = t2 + 4294967296 * t1 + 18446744073709551616 * t0 := ⟨_, rfl⟩
  rw [← hX] at e
  have dV : val L / P = X := by
    rw [e, Int.add_mul_ediv_left _ _ (by omega), Int.ediv_eq_zero_of_lt lo0 (by omega)]; omega
  have dX : X / Q = (t0 * 4294967296 + t1) * S + t2 / Q := by
    have : X = t2 + Q * ((t0 * 4294967296 + t1) * S) := by
      have h1 : Q * ((t0 * 4294967296 + t1) * S) = (S * Q) * (t0 * 4294967296 + t1) := by grind
      rw [h1, hm, hX]; omega
    rw [this, Int.add_mul_ediv_left _ _ (by omega), Int.add_comm]
  have hXS : X * S < 79228162514264337593543950336 := by
    have h1 : P * X * S ≤ val L * S := le_mul (by rw [e]; omega) (by omega)
    have h2 : P * (X * S) < P * 79228162514264337593543950336 := by rw [← Int.mul_assoc, ← hpn]; omega
    exact Int.lt_of_mul_lt_mul_left h2 (by omega)
  have hXQ : X / Q < 18446744073709551616 := by
    apply Int.ediv_lt_of_lt_mul hq
    have h1 : X * S < 18446744073709551616 * Q * S := by
      have : 18446744073709551616 * Q * S = 18446744073709551616 * (S * Q) := by grind
      rw [this, hm]; omega
    exact Int.lt_of_mul_lt_mul_right h1 (by omega)
  have y0 : 0 ≤ t2 / Q := Int.ediv_nonneg u2.1 (by omega)
  have y1 : t2 / Q < S := by
    apply Int.ediv_lt_of_lt_mul hq
    rw [hm]; exact u2.2
  have z0 : 0 ≤ (t0 * 4294967296 + t1) * S := Int.mul_nonneg (by omega) (by omega)
  have hR : val L / (P * Q * 4) = ((t0 * 4294967296 + t1) * S + t2 / Q) / 4 := by
    rw [Int.mul_assoc, ← Int.ediv_ediv_of_nonneg (by omega), dV, ← Int.ediv_ediv_of_nonneg (by omega), dX]
  rw [dX] at hXQ
  refine ⟨t0, t1, t2, rfl, rfl, rfl, u0, u1, u2, z0, by omega, y0, y1, hXQ, ?_, ?_, hR.symm⟩
  · rw [hR]; omega
  · rw [hR]; omega

/-- Block g holds three words. -/
structure T3 (w : World) (g : Nat) (a b c : Int) : Prop where
  lt : g < w.heap.size
  c0 : w.cell? ⟨g, 0, none⟩ = some (.int .u64 a)
  c1 : w.cell? ⟨g, 1, none⟩ = some (.int .u64 b)
  c2 : w.cell? ⟨g, 2, none⟩ = some (.int .u64 c)
  fz : ∀ i, w.frozen? ⟨g, i, none⟩ = false
theorem T3.set0 {w : World} {g : Nat} {a b c : Int} (h : T3 w g a b c) (x : Int) : T3 (w.setCell ⟨g, 0, none⟩ (.int .u64 x)) g x b c :=
  ⟨by simpa [World.setCell] using h.lt, World.cell?_setCell_same w _ _ h.c0, (World.cell?_setCell_other w _ _ _ (by simp)).trans h.c1, (World.cell?_setCell_other w _ _ _ (by simp)).trans h.c2, fun i => by rw [World.frozen?_setCell]; exact h.fz i⟩
theorem T3.set1 {w : World} {g : Nat} {a b c : Int} (h : T3 w g a b c) (x : Int) : T3 (w.setCell ⟨g, 1, none⟩ (.int .u64 x)) g a x c :=
  ⟨by simpa [World.setCell] using h.lt, (World.cell?_setCell_other w _ _ _ (by simp)).trans h.c0, World.cell?_setCell_same w _ _ h.c1, (World.cell?_setCell_other w _ _ _ (by simp)).trans h.c2, fun i => by rw [World.frozen?_setCell]; exact h.fz i⟩
theorem T3.set2 {w : World} {g : Nat} {a b c : Int} (h : T3 w g a b c) (x : Int) : T3 (w.setCell ⟨g, 2, none⟩ (.int .u64 x)) g a b x :=
  ⟨by simpa [World.setCell] using h.lt, (World.cell?_setCell_other w _ _ _ (by simp)).trans h.c0, (World.cell?_setCell_other w _ _ _ (by simp)).trans h.c1, World.cell?_setCell_same w _ _ h.c2, fun i => by rw [World.frozen?_setCell]; exact h.fz i⟩
theorem T3.new (w : World) (a b c : Int) (t : TypeId) : T3 (w.alloc (.cells #[.int .u64 a, .int .u64 b, .int .u64 c] t)) w.heap.size a b c :=
  ⟨by simp, by rw [World.cell?_alloc_mark]; rfl, by rw [World.cell?_alloc_mark]; rfl, by rw [World.cell?_alloc_mark]; rfl,
    fun i => by rw [World.frozen?_alloc_mark]; simp⟩

def ifk (k j : Nat) (t : Int) : Int := if j < k then t else 0

theorem window_any (A : Option Addr) (N c n s : Nat) (L : List Int) (w : World) (hr : Rd w A N c L) (hN : N ≤ n) (h3 : 3 ≤ n) (hn : n ≤ 1000000) (hs : s ≤ 31) (hV : val L * 2 ^ s < pw n) :
    Calls Tryz.prog 280 #[.slice A N c, .int .i64 (n : Int), .int .i64 (s : Int)] w fun e w' => e = .returned (.int .i64 (val L / lastBit n s)) ∧ Below w.heap.size w w' := by
  have HN := hr.len
  obtain ⟨t0, t1, t2, e0, e1, e2, u0, u1, u2, z0, z1, y0, y1, z2, r0, r1, hR⟩ := lead_word L n s h3 hs (by omega) hr.lims hV
  have E0 := Lib.hid e0
  have E1 := Lib.hid e1
  have E2 := Lib.hid e2
  have HR := Lib.hid hR
  have J := or_join t0 t1 u0.1 u0.2 u1.1 u1.2
  have J2 := or_low64 (t0 * 4294967296 + t1) (t2 / 2 ^ (32 - s)) s z0 z1 y0 y1 hs
  have JH := Lib.hid J
  have JH2 := Lib.hid J2
  have HL := Lib.hid HN
  clear e0 e1 e2 hR J J2 HN
  go_enter Tryz.func280, Tryz.ntmps280
  go_wp2
  have hT0 := T3.new w 0 0 0 279
  have hB0 := (Below.refl w.heap.size w).alloc (Nat.le_refl _) (.cells #[.int .u64 0, .int .u64 0, .int .u64 0] 279)
  go_loopw [11] (fun iv wr => ∃ k : Nat, k ≤ 3 ∧ iv = .int .i64 (k : Int) ∧ T3 wr w.heap.size (ifk k 0 t0) (ifk k 1 t1) (ifk k 2 t2) ∧ Below w.heap.size w wr) (fun iv _ => (3 - intOf iv).toNat)
  case atStart => exact ⟨0, by omega, rfl, hT0, hB0⟩
  case round =>
    obtain ⟨k, hk, rfl, hT, hB⟩ := hrel
    clear hT0 hB0
    have hrb := hr.below hB
    obtain rfl | rfl | rfl | rfl : k = 0 ∨ k = 1 ∨ k = 2 ∨ k = 3 := by omega
    · simp only [ifk] at hT
      have cT := hT.c0
      have fT := hT.fz 0
      have hB1 := hB
      have hT1 := Lib.hid hT
      by_cases hin : n - 1 - 0 < N
      · obtain ⟨ad, rfl, _, hc⟩ := hrb.at_ (by omega)
        have cL := hc (n - 1 - 0) hin
        rw [show n - 1 - 0 = n - 1 from by omega, E0.out] at cL
        have hnt : ((n : Int) - 1 - 0).toNat = n - 1 := by omega
        clear hc hT
        go_wp2
        go_roundw
        case rel => exact ⟨1, by omega, rfl, hT1.out.set0 t0, hB.setCell (Nat.le_refl _) _⟩
        case measure => simp [intOf] <;> omega
      · have hz : t0 = 0 := by rw [← E0.out]; exact getD_ge _ _ (by have := HL.out; omega)
        clear hT
        go_wp2
        go_roundw
        case rel => exact ⟨1, by omega, rfl, by simpa [ifk, hz] using hT1.out, hB⟩
        case measure => simp [intOf] <;> omega
    · simp only [ifk] at hT
      have cT := hT.c1
      have fT := hT.fz 1
      have hB1 := hB
      have hT1 := Lib.hid hT
      by_cases hin : n - 1 - 1 < N
      · obtain ⟨ad, rfl, _, hc⟩ := hrb.at_ (by omega)
        have cL := hc (n - 1 - 1) hin
        rw [show n - 1 - 1 = n - 2 from by omega, E1.out] at cL
        have hnt : ((n : Int) - 1 - 1).toNat = n - 2 := by omega
        clear hc hT
        go_wp2
        go_roundw
        case rel => exact ⟨2, by omega, rfl, hT1.out.set1 t1, hB.setCell (Nat.le_refl _) _⟩
        case measure => simp [intOf] <;> omega
      · have hz : t1 = 0 := by rw [← E1.out]; exact getD_ge _ _ (by have := HL.out; omega)
        clear hT
        go_wp2
        go_roundw
        case rel => exact ⟨2, by omega, rfl, by simpa [ifk, hz] using hT1.out, hB⟩
        case measure => simp [intOf] <;> omega
    · simp only [ifk] at hT
      have cT := hT.c2
      have fT := hT.fz 2
      have hB1 := hB
      have hT1 := Lib.hid hT
      by_cases hin : n - 1 - 2 < N
      · obtain ⟨ad, rfl, _, hc⟩ := hrb.at_ (by omega)
        have cL := hc (n - 1 - 2) hin
        rw [show n - 1 - 2 = n - 3 from by omega, E2.out] at cL
        have hnt : ((n : Int) - 1 - 2).toNat = n - 3 := by omega
        clear hc hT
        go_wp2
        go_roundw
        case rel => exact ⟨3, by omega, rfl, hT1.out.set2 t2, hB.setCell (Nat.le_refl _) _⟩
        case measure => simp [intOf] <;> omega
      · have hz : t2 = 0 := by rw [← E2.out]; exact getD_ge _ _ (by have := HL.out; omega)
        clear hT
        go_wp2
        go_roundw
        case rel => exact ⟨3, by omega, rfl, by simpa [ifk, hz] using hT1.out, hB⟩
        case measure => simp [intOf] <;> omega
    · simp only [ifk] at hT
      obtain ⟨_, c0, c1, c2, _⟩ := hT
      have J := JH.out
      have J2 := JH2.out
      have hsh : (32 - (s : Int)).toNat = 32 - s := by omega
      go_wp2_with fail
      go_quiet (fail)
      go_wp2
      go_ret
      exact ⟨ret_int HR.out, drewN_below hB _⟩

end Go.Proofs.YtggdhgppclnckaaGreatDoor.Q

namespace Go.Proofs.YtggdhgppclnckaaGreatDoor.Q
open Go.RowKit
set_option maxRecDepth 20000

theorem remainder_any (A B : Option Addr) (n c m d : Nat) (L M : List Int) (w : World) (hr : Rd w A n c L) (hs : Rd w B m d M) (hn : n ≤ 900000) (h0 : val M ≠ 0) :
    Calls Tryz.prog 261 #[.slice A n c, .slice B m d] w (Gives w (val L % val M)) := by
  go_enter Tryz.func261, Tryz.ntmps261
  go_wp2_with fail
  refine (divMod_any A B n c m d L M w hr hs hn h0).mono ?_
  rintro e w' ⟨A1, n1, c1, Q, A2, n2, c2, R, rfl, hQ, IQ, hR, IR, hB⟩
  have HI := Lib.hid IR
  clear IQ IR hQ
  go_wp2
  go_ret
  exact ⟨_, _, _, R, rfl, hR, HI.out, hB⟩

theorem gcd_rest (a b : Int) : Int.gcd b (a % b) = Int.gcd a b := by
  rw [Int.emod_def, Int.gcd_comm a b]; simp

def WordPost (w : World) (x : Int) (e : Ending) (w' : World) : Prop := e = .returned (.int .u64 x) ∧ Below w.heap.size w w'

theorem gcdWords_any (x y : Int) (w : World) (hx : 0 ≤ x ∧ x < 18446744073709551616) (hy : 0 ≤ y ∧ y < 18446744073709551616) :
    Calls Tryz.prog 263 #[.int .u64 x, .int .u64 y] w (WordPost w (Int.gcd x y : Int)) := by
  go_enter Tryz.func263, Tryz.ntmps263
  go_wp2
  go_loopw [0, 1] (fun av bv wr => ∃ a b : Int, av = .int .u64 a ∧ bv = .int .u64 b ∧ (0 ≤ a ∧ a < 18446744073709551616) ∧ (0 ≤ b ∧ b < 18446744073709551616) ∧ Hid (Int.gcd a b = Int.gcd x y) ∧ Below w.heap.size w wr) (fun _ bv _ => (intOf bv).toNat)
  case atStart => exact ⟨x, y, rfl, rfl, hx, hy, rfl, Below.refl _ _⟩
  case round =>
    obtain ⟨a, b, rfl, rfl, ⟨a0, a1⟩, ⟨b0, b1⟩, hG, hB⟩ := hrel
    by_cases hz : b = 0
    · have hF : Hid (a = (Int.gcd x y : Int)) := by
        show _ = _
        rw [← hG.out, hz, Int.gcd_zero_right]; omega
      subst hz
      go_wp2
      go_ret
      exact ⟨ret_int hF.out, hB⟩
    · have r0 := Int.emod_nonneg a hz
      have r1 := Int.emod_lt_of_pos a (show 0 < b by omega)
      have hG2 : Hid (Int.gcd b (a % b) = Int.gcd x y) := by
        show _ = _
        rw [← hG.out, gcd_rest]
      go_wp2_with fail
      go_quiet (fail)
      go_wp2
      go_roundw
      case rel => exact ⟨b, a % b, rfl, rfl, ⟨b0, b1⟩, ⟨r0, by omega⟩, hG2, drewN_below hB _⟩
      case measure => simp [intOf] <;> omega

/-- A number of n limbs whose top limb has s leading zeros. -/
theorem top_fit {L : List Int} {n s : Nat} {d : Int} (hL : Lims L) (hl : L.length = n) (h1 : 1 ≤ n) (hd : L.getD (n - 1) 0 = d) (s31 : s ≤ 31) (t1 : d * 2 ^ s < 4294967296) : val L * 2 ^ s < pw n := by
  have en : n - 1 + 1 = n := by omega
  have hpn : pw n = 4294967296 * pw (n - 1) := by rw [← pw_succ, en]
  have hMv := val_take_getD L (n - 1)
  rw [List.take_of_length_le (by omega)] at hMv
  have hM0 := val_nonneg (hL.take (n - 1))
  have hM1 := val_lt (hL.take (n - 1))
  rw [List.length_take_of_le (by omega)] at hM1
  rw [hd] at hMv
  have tp : (0 : Int) < 2 ^ s := Int.pow_pos (by decide)
  have h1 : val L * 2 ^ s ≤ ((d + 1) * pw (n - 1) - 1) * 2 ^ s := by
    refine le_mul ?_ (by omega)
    rw [hMv]
    have e : (d + 1) * pw (n - 1) = pw (n - 1) + pw (n - 1) * d := by grind
    omega
  have h2 : pw (n - 1) * ((d + 1) * 2 ^ s) ≤ pw (n - 1) * 4294967296 := by
    refine le_mul' ?_ (Int.le_of_lt (pw_pos _))
    have e31 := two_split s s31
    have h3 : d * 2 ^ s < 2 ^ (32 - s) * 2 ^ s := by rw [Int.mul_comm (2 ^ (32 - s)), e31]; exact t1
    have h4 : d < 2 ^ (32 - s) := Int.lt_of_mul_lt_mul_right h3 (by omega)
    have h5 : (d + 1) * 2 ^ s ≤ 2 ^ (32 - s) * 2 ^ s := le_mul (by omega) (by omega)
    rw [Int.mul_comm (2 ^ (32 - s)), e31] at h5
    exact h5
  have e2 : ((d + 1) * pw (n - 1) - 1) * 2 ^ s = pw (n - 1) * ((d + 1) * 2 ^ s) - 2 ^ s := by grind
  rw [hpn]
  omega

def LeadPost (w : World) (n : Nat) (x y : Int) (e : Ending) (w' : World) : Prop :=
  ∃ s, e = .returned (.tuple #[.int .i64 (x / lastBit n s), .int .i64 (y / lastBit n s)]) ∧ s ≤ 31 ∧ x / lastBit n s < 4611686018427387904 ∧ Below w.heap.size w w'

theorem leadingBits_any (A B : Option Addr) (n c m d : Nat) (L M : List Int) (w : World) (hr : Rd w A n c L) (hs : Rd w B m d M) (h3 : 3 ≤ n) (hn : n ≤ 1000000) (hmn : m ≤ n) (hL : trim L = L) (hle : val M ≤ val L) :
    Calls Tryz.prog 272 #[.slice A n c, .slice B m d] w (LeadPost w n (val L) (val M)) := by
  obtain ⟨aa, rfl, haw, hcL⟩ := hr.at_ (by omega)
  have cL := hcL (n - 1) (by omega)
  have uL := hr.lims.getD (n - 1)
  have hne := last_ne hL (n - 1) (by rw [hr.len]; omega)
  obtain ⟨t, ht⟩ : ∃ t, L.getD (n - 1) 0 = t := ⟨_, rfl⟩
  rw [ht] at cL uL hne
  have hbl : Lib.bitLen t.toNat ≤ 32 := Lib.bitLen_le t.toNat 32 (by decide) (by omega)
  obtain ⟨s, hsE⟩ := Int.eq_ofNat_of_zero_le (show 0 ≤ 32 - (Lib.bitLen t.toNat : Int) by omega)
  obtain ⟨s31, t0, t1⟩ := top_shift (d := t) (s := s) (by omega) uL.2 hsE.symm
  have hlz := leading_any t w uL.1 uL.2
  rw [hsE] at hlz
  have HLZ := Lib.hid hlz
  have hV := top_fit hr.lims hr.len (by omega) ht s31 t1
  have tp : (0 : Int) < 2 ^ s := Int.pow_pos (by decide)
  have hV2 : val M * 2 ^ s < pw n := Int.lt_of_le_of_lt (le_mul hle (Int.le_of_lt tp)) hV
  have W1 := Lib.hid (window_any (some aa) n c n s L w hr (Nat.le_refl _) h3 hn s31 hV)
  obtain ⟨_, _, _, _, _, _, _, _, _, _, _, _, _, _, _, hTop, _⟩ := lead_word L n s h3 s31 (by have := hr.len; omega) hr.lims hV
  have HT := Lib.hid hTop
  have HV2 := Lib.hid hV2
  have hnt : ((n : Int) - 1).toNat = n - 1 := by omega
  clear hcL hbl hsE hlz hV hV2 hTop t0 t1 tp ht hne hL
  go_enter Tryz.func272, Tryz.ntmps272
  go_wp2_with fail
  refine HLZ.out.mono ?_
  rintro e w' ⟨rfl, rfl⟩
  go_wp2_with fail
  refine W1.out.mono ?_
  rintro e w1 ⟨rfl, hB1⟩
  have W2 := Lib.hid (window_any B m d n s M w1 (hs.below hB1) hmn h3 hn s31 HV2.out)
  go_wp2_with fail
  refine W2.out.mono ?_
  rintro e w2 ⟨rfl, hB2⟩
  go_wp2
  go_ret2
  exact ⟨s, rfl, s31, HT.out, nextB hB1 hB2⟩

end Go.Proofs.YtggdhgppclnckaaGreatDoor.Q

namespace Go.Proofs.YtggdhgppclnckaaGreatDoor.Q
open Go.RowKit
set_option maxRecDepth 20000

/-- u and v, less than 2^31, with different signs. -/
def Opp (u v : Int) : Prop := ((0 ≤ u ∧ v ≤ 0) ∨ (u ≤ 0 ∧ 0 ≤ v)) ∧ -2147483648 < u ∧ u < 2147483648 ∧ -2147483648 < v ∧ v < 2147483648

theorem prod_fit {u x : Int} (hu : -2147483648 < u ∧ u < 2147483648) (hx : 0 ≤ x ∧ x < 4294967296) : (0 ≤ u → 0 ≤ u * x) ∧ (u ≤ 0 → u * x ≤ 0) ∧ -9223372030412324865 ≤ u * x ∧ u * x ≤ 9223372030412324865 := by
  rcases Int.lt_or_le u 0 with h | h
  · have h1 : (-u) * x ≤ 2147483647 * x := le_mul (by omega) hx.1
    have h2 : 0 ≤ (-u) * x := Int.mul_nonneg (by omega) hx.1
    rw [Int.neg_mul] at h1 h2
    refine ⟨fun _ => by omega, fun _ => by omega, by omega, by omega⟩
  · have h1 : u * x ≤ 2147483647 * x := le_mul (by omega) hx.1
    have h2 : 0 ≤ u * x := Int.mul_nonneg (by omega) hx.1
    refine ⟨fun _ => by omega, fun h3 => ?_, by omega, by omega⟩
    have : u = 0 := by omega
    subst this; simp

theorem combo_fit {u v x y f : Int} (h : Opp u v) (hx : 0 ≤ x ∧ x < 4294967296) (hy : 0 ≤ y ∧ y < 4294967296) (hf : -2147483648 ≤ f ∧ f < 2147483648) :
    (-9223372030412324865 ≤ u * x ∧ u * x ≤ 9223372030412324865) ∧ (-9223372030412324865 ≤ v * y ∧ v * y ≤ 9223372030412324865) ∧
    (-9223372030412324865 ≤ u * x + v * y ∧ u * x + v * y ≤ 9223372030412324865) ∧ (-2147483648 ≤ (f + (u * x + v * y)) / 4294967296 ∧ (f + (u * x + v * y)) / 4294967296 < 2147483648) := by
  obtain ⟨hs, u0, u1, v0, v1⟩ := h
  obtain ⟨p1, p2, p3, p4⟩ := prod_fit ⟨u0, u1⟩ hx
  obtain ⟨q1, q2, q3, q4⟩ := prod_fit ⟨v0, v1⟩ hy
  rcases hs with ⟨h1, h2⟩ | ⟨h1, h2⟩
  · have := p1 h1; have := q2 h2
    refine ⟨by omega, by omega, by omega, by omega, by omega⟩
  · have := p2 h1; have := q1 h2
    refine ⟨by omega, by omega, by omega, by omega, by omega⟩

/-- One round of a combination, for one of the two numbers. -/
theorem combo_step {S L M : List Int} {k : Nat} {u v x y f : Int} (hk : k < S.length) (hx : L.getD k 0 = x) (hy : M.getD k 0 = y)
    (h : val (S.take k) + pw k * f = u * val (L.take k) + v * val (M.take k)) :
    val ((S.set k ((f + (u * x + v * y)) % 4294967296)).take (k + 1)) + pw (k + 1) * ((f + (u * x + v * y)) / 4294967296) = u * val (L.take (k + 1)) + v * val (M.take (k + 1)) := by
  rw [val_set_take S k _ hk, val_take_getD L k, val_take_getD M k, hx, hy, pw_succ]
  have e := Int.emod_add_mul_ediv (f + (u * x + v * y)) 4294967296
  generalize (f + (u * x + v * y)) % 4294967296 = r at *
  generalize (f + (u * x + v * y)) / 4294967296 = q at *
  have e2 : pw k * r + 4294967296 * pw k * q = pw k * (f + (u * x + v * y)) := by rw [← e]; grind
  have e3 : pw k * (f + (u * x + v * y)) = pw k * f + u * (pw k * x) + v * (pw k * y) := by grind
  grind

def ApplyPost (base ga gb n c m d : Nat) (u0 v0 u1 v1 : Int) (L M : List Int) (w : World) (e : Ending) (w' : World) : Prop :=
  ∃ S T f g, e = .returned (.tuple #[]) ∧ Mine w' base (some ⟨ga, 0, none⟩) n c S ∧ Mine w' base (some ⟨gb, 0, none⟩) m d T ∧
    val (S.take m) + pw m * f = u0 * val (L.take m) + v0 * val M ∧ val T + pw m * g = u1 * val (L.take m) + v1 * val M ∧ Below base w w'

set_option maxHeartbeats 1000000 in
theorem apply_any (base ga gb n c m d : Nat) (u0 v0 u1 v1 : Int) (L M : List Int) (w : World) (hr : Mine w base (some ⟨ga, 0, none⟩) n c L) (hs : Mine w base (some ⟨gb, 0, none⟩) m d M)
    (hne : ga ≠ gb) (hmn : m ≤ n) (hm : 0 < m) (hn : n ≤ 1000000) (hu : Opp u0 v0) (hv : Opp u1 v1) (hb : base ≤ w.heap.size) :
    Calls Tryz.prog 273 #[.agg #[.int .i64 u0, .int .i64 v0, .int .i64 u1, .int .i64 v1], .slice (some ⟨ga, 0, none⟩) n c, .slice (some ⟨gb, 0, none⟩) m d] w
      (ApplyPost base ga gb n c m d u0 v0 u1 v1 L M w) := by
  have lga := (hr.lt _ rfl).2
  have lgb := (hs.lt _ rfl).2
  have bga := (hr.lt _ rfl).1
  have bgb := (hs.lt _ rfl).1
  have hcap := hr.rd.cap
  have hcap2 := hs.rd.cap
  have HL := Lib.hid hr.len
  have HM := Lib.hid hs.len
  have uL := hr.lims
  have uM := hs.lims
  go_enter Tryz.func273, Tryz.ntmps273
  go_wp2
  have h40 := S4.new w u0 v0 u1 v1 265
  have hr0 := hr.alloc (.cells #[.int .i64 u0, .int .i64 v0, .int .i64 u1, .int .i64 v1] 265)
  have hs0 := hs.alloc (.cells #[.int .i64 u0, .int .i64 v0, .int .i64 u1, .int .i64 v1] 265)
  have hB0 := (Below.refl base w).alloc hb (.cells #[.int .i64 u0, .int .i64 v0, .int .i64 u1, .int .i64 v1] 265)
  go_loopw [6, 7, 13] (fun fv gv iv wr => ∃ (k : Nat) (f g : Int) (S T : List Int), k ≤ m ∧ iv = .int .i64 (k : Int) ∧ fv = .int .i64 f ∧ gv = .int .i64 g ∧ (-2147483648 ≤ f ∧ f < 2147483648) ∧ (-2147483648 ≤ g ∧ g < 2147483648) ∧
      Mine wr base (some ⟨ga, 0, none⟩) n c S ∧ Mine wr base (some ⟨gb, 0, none⟩) m d T ∧ Hid (S.drop k = L.drop k) ∧ Hid (T.drop k = M.drop k) ∧
      Hid (val (S.take k) + pw k * f = u0 * val (L.take k) + v0 * val (M.take k)) ∧ Hid (val (T.take k) + pw k * g = u1 * val (L.take k) + v1 * val (M.take k)) ∧ S4 wr w.heap.size u0 v0 u1 v1 ∧ Below base w wr) (fun _ _ iv _ => m - (intOf iv).toNat)
  case atStart => exact ⟨0, 0, 0, L, M, Nat.zero_le _, rfl, rfl, rfl, by omega, by omega, hr0, hs0, rfl, rfl, by show _ = _; simp [val, pw], by show _ = _; simp [val, pw], h40, hB0⟩
  case round =>
    obtain ⟨k, f, g, S, T, hk, rfl, rfl, rfl, ⟨f0, f1⟩, ⟨g0, g1⟩, hS, hT, hSD, hTD, hF, hG, h4, hB⟩ := hrel
    clear h40 hr0 hs0 hB0 hr hs
    by_cases hkn : k < m
    · have cS := hS.cellAt (i := k) (by omega)
      have fS := hS.frozenAt k
      have cT := hT.cellAt (i := k) hkn
      have fT := hT.frozenAt k
      have ux := uL.getD k
      have uy := uM.getD k
      rw [getD_of_drop hSD.out] at cS
      rw [getD_of_drop hTD.out] at cT
      have FS := Lib.hid (combo_step (S := S) (L := L) (M := M) (u := u0) (v := v0) (f := f) (by rw [hS.len]; omega) rfl rfl hF.out)
      have GS := Lib.hid (combo_step (S := T) (L := L) (M := M) (u := u1) (v := v1) (f := g) (by rw [hT.len]; omega) rfl rfl hG.out)
      generalize L.getD k 0 = x at *
      generalize M.getD k 0 = y at *
      obtain ⟨⟨a1, a2⟩, ⟨a3, a4⟩, ⟨a5, a6⟩, a7⟩ := combo_fit hu ux uy ⟨f0, f1⟩
      obtain ⟨⟨b1, b2⟩, ⟨b3, b4⟩, ⟨b5, b6⟩, b7⟩ := combo_fit hv ux uy ⟨g0, g1⟩
      obtain ⟨_, c0, c1, c2, c3, cf⟩ := h4
      go_wp2_with fail
      go_quiet (fail)
      have hS1 := ((hS.drewN nq).stored k (x := (f + (u0 * x + v0 * y)) % 4294967296) (by omega) (by omega)).far (p := ⟨gb, k, none⟩) (by intro a ha; injection ha with ha; rw [← ha]; exact hne) (.int .u32 ((g + (u1 * x + v1 * y)) % 4294967296))
      have hT1 := ((hT.drewN nq).far (p := ⟨ga, k, none⟩) (by intro a ha; injection ha with ha; rw [← ha]; exact hne.symm) (.int .u32 ((f + (u0 * x + v0 * y)) % 4294967296))).stored k (x := (g + (u1 * x + v1 * y)) % 4294967296) (by omega) (by omega)
      have h41 := (((S4.mk ‹_› c0 c1 c2 c3 cf).drewN nq).far (p := ⟨ga, k, none⟩) (by show _ ≠ ga; omega) (.int .u32 ((f + (u0 * x + v0 * y)) % 4294967296))).far (p := ⟨gb, k, none⟩) (by show _ ≠ gb; omega) (.int .u32 ((g + (u1 * x + v1 * y)) % 4294967296))
      have hB1 := ((drewN_below hB nq).setCell (p := ⟨ga, k, none⟩) bga (.int .u32 ((f + (u0 * x + v0 * y)) % 4294967296))).setCell (p := ⟨gb, k, none⟩) bgb (.int .u32 ((g + (u1 * x + v1 * y)) % 4294967296))
      have hSD2 : Hid ((S.set k ((f + (u0 * x + v0 * y)) % 4294967296)).drop (k + 1) = L.drop (k + 1)) := by
        show _ = _
        rw [drop_set]; exact drop_succ hSD.out
      have hTD2 : Hid ((T.set k ((g + (u1 * x + v1 * y)) % 4294967296)).drop (k + 1) = M.drop (k + 1)) := by
        show _ = _
        rw [drop_set]; exact drop_succ hTD.out
      have HS1 := Lib.hid hS1
      have HT1 := Lib.hid hT1
      have H41 := Lib.hid h41
      have HB1 := Lib.hid hB1
      clear hS1 hT1 h41 hB1 hS hT cf hB
      go_wp2
      go_roundw
      case rel => exact ⟨k + 1, _, _, _, _, by omega, by go_num, rfl, rfl, a7, b7, HS1.out, HT1.out, hSD2, hTD2, FS, GS, H41.out, HB1.out⟩
      case measure => simp [intOf] <;> omega
    · obtain rfl : k = m := by omega
      have hF2 : Hid (val (S.take k) + pw k * f = u0 * val (L.take k) + v0 * val M) := by
        have h1 := hF.out
        rwa [List.take_of_length_le (l := M) (by have := HM.out; omega)] at h1
      have hG2 : Hid (val T + pw k * g = u1 * val (L.take k) + v1 * val M) := by
        have h1 := hG.out
        rwa [List.take_of_length_le (l := M) (by have := HM.out; omega), List.take_of_length_le (l := T) (by rw [hT.len]; exact Nat.le_refl _)] at h1
      go_wp2
      go_end0
      exact ⟨S, T, f, g, rfl, hS, hT, hF2.out, hG2.out, hB⟩

end Go.Proofs.YtggdhgppclnckaaGreatDoor.Q

namespace Go.Proofs.YtggdhgppclnckaaGreatDoor.Q
open Go.RowKit
set_option maxRecDepth 20000

theorem Laid.under {w w' : World} {base : Nat} (h : Laid w) (hb : Below base w w') (hg : 4 < base) : Laid w' :=
  ⟨Nat.lt_of_lt_of_le h.size hb.size, (hb.cell (p := ⟨_, 0, none⟩) hg).trans h.c0, (hb.cell (p := ⟨_, 1, none⟩) hg).trans h.c1, (hb.cell (p := ⟨_, 2, none⟩) hg).trans h.c2, (hb.cell (p := ⟨_, 3, none⟩) hg).trans h.c3⟩

/-- The number that a slice's limbs stand for, read from the world. -/
def valOf (w : World) : Value → Nat
  | .slice (some ad) n _ => (val ((List.range n).map fun i => match w.cell? (ad.add i) with | some (.int _ x) => x | _ => 0)).toNat
  | _ => 0
theorem valOf_rd {w : World} {A : Option Addr} {n c : Nat} {L : List Int} (h : Rd w A n c L) : valOf w (.slice A n c) = (val L).toNat := by
  rcases Nat.eq_zero_or_pos n with h0 | h0
  · have hl : L = [] := List.eq_nil_of_length_eq_zero (by rw [h.len, h0])
    subst h0
    subst hl
    cases A <;> rfl
  · obtain ⟨ad, rfl, _, hc⟩ := h.at_ h0
    show (val _).toNat = _
    congr 2
    apply List.ext_getElem
    · simp [h.len]
    · intro i h1 h2
      have h3 : i < n := by simpa using h1
      rw [List.getElem_map, List.getElem_range, hc i h3, getD_of_lt L i h2]

theorem mod_one {P a b q : Int} (_hP : 0 < P) (a0 : 0 ≤ a) (a1 : a < P) (b0 : 0 ≤ b) (b1 : b < P) (e : a + P * q = b) : a = b := by
  have h1 : b % P = a := by rw [← e, Int.add_mul_emod_self_left, Int.emod_eq_of_lt a0 a1]
  rw [← h1, Int.emod_eq_of_lt b0 b1]

theorem opp_lem {A B σ p0 m0 p1 m1 : Int} (h : Lem A B σ p0 m0 p1 m1) : Opp (σ * p0) (-(σ * m0)) ∧ Opp (-(σ * p1)) (σ * m1) := by
  have := h.p0n; have := h.m0n; have := h.p1n; have := h.m1n; have := h.p1m; have := h.m0m; have := h.p0m; have := h.top
  unfold Opp
  rcases h.sg with s | s <;> rw [s] <;> constructor <;> refine ⟨by omega, by omega, by omega, by omega, by omega⟩

/-- A step that is not the empty one, applied to the limbs: the two new numbers. -/
theorem apply_end {L M S T : List Int} {m : Nat} {f g σ p0 m0 p1 m1 K : Int} (hK : 0 < K) (h : Lem (val L / K) (val M / K) σ p0 m0 p1 m1) (hno : ¬ (σ * p0 = 1 ∧ -(σ * m0) = 0 ∧ -(σ * p1) = 0 ∧ σ * m1 = 1))
    (_hL : Lims L) (hM : Lims M) (hS : Lims S) (hT : Lims T) (lM : M.length = m) (lT : T.length = m) (lS : m ≤ S.length) (lL : m ≤ L.length) (hle : val M ≤ val L)
    (hF : val (S.take m) + pw m * f = σ * p0 * val (L.take m) + -(σ * m0) * val M) (hG : val T + pw m * g = -(σ * p1) * val (L.take m) + σ * m1 * val M) :
    val T < val (S.take m) ∧ val (S.take m) ≤ val M ∧ Int.gcd (val (S.take m)) (val T) = Int.gcd (val L) (val M) := by
  have ea := Int.mul_ediv_add_emod (val L) K
  have eb := Int.mul_ediv_add_emod (val M) K
  rw [Int.mul_comm] at ea eb
  have a0 := Int.emod_nonneg (val L) (show K ≠ 0 by omega)
  have a1 := Int.emod_lt_of_pos (val L) hK
  have b0 := Int.emod_nonneg (val M) (show K ≠ 0 by omega)
  have b1 := Int.emod_lt_of_pos (val M) hK
  have hre := h.real K (val L % K) (val M % K) hK a0 a1 b0 b1 (by rw [ea, eb]; exact hle)
  rcases h.first with ⟨x0, x1, x2, x3, x4⟩ | ⟨_, hf⟩
  · exfalso; apply hno; rw [x0, x1, x2, x3, x4]; simp
  have hfi := hf K (val L % K) (val M % K) hK a0 a1 b0 b1 (by rw [ea, eb]; exact hle)
  rw [ea, eb] at hre hfi
  have hsp := val_split L m
  rw [List.length_take_of_le lL] at hsp
  have p := pw_pos m
  have s0 := val_nonneg (hS.take m)
  have s1 := val_lt (hS.take m)
  rw [List.length_take_of_le lS] at s1
  have t0 := val_nonneg hT
  have t1 := val_lt hT
  have m1' := val_lt hM
  rw [lT] at t1
  rw [lM] at m1'
  have eF : val (S.take m) = σ * (p0 * val L - m0 * val M) := by
    have e : val (S.take m) + pw m * (f + σ * p0 * val (L.drop m)) = σ * (p0 * val L - m0 * val M) := by rw [hsp]; grind
    exact mod_one p s0 s1 (by omega) (by omega) e
  have eG : val T = σ * (m1 * val M - p1 * val L) := by
    have e : val T + pw m * (g - σ * p1 * val (L.drop m)) = σ * (m1 * val M - p1 * val L) := by rw [hsp]; grind
    exact mod_one p t0 t1 (by omega) (by omega) e
  refine ⟨by rw [eF, eG]; exact hfi.2, by rw [eF]; exact hfi.1, ?_⟩
  have hc := gcd_combo (a := val L) (b := val M) (u0 := σ * p0) (v0 := -(σ * m0)) (u1 := -(σ * p1)) (v1 := σ * m1) (by
    have e : σ * p0 * (σ * m1) - -(σ * p1) * -(σ * m0) = σ * σ * (p0 * m1 - p1 * m0) := by grind
    rw [e]
    rcases h.sg with s | s <;> rw [s] <;> simpa using h.det)
  rw [← hc, eF, eG]
  congr 1 <;> grind

end Go.Proofs.YtggdhgppclnckaaGreatDoor.Q

namespace Go.Proofs.YtggdhgppclnckaaGreatDoor.Q
open Go.RowKit
set_option maxRecDepth 20000

theorem len_of_le {L M : List Int} (hL : Lims L) (hM : Lims M) (tL : trim L = L) (tM : trim M = M) (h : val M ≤ val L) : M.length ≤ L.length := by
  rcases Nat.lt_or_ge L.length M.length with h1 | h1
  · have := Is.lt_of_length (L := L) (M := M) ⟨hL, tL, rfl⟩ ⟨hM, tM, rfl⟩ h1
    omega
  · exact h1

def ReducePost (base : Nat) (x y : Int) (w : World) (e : Ending) (w' : World) : Prop :=
  ∃ A n c L B m d M, e = .returned (.tuple #[.slice A n c, .slice B m d]) ∧ Mine w' base A n c L ∧ trim L = L ∧ Mine w' base B m d M ∧ trim M = M ∧ m ≤ 2 ∧ n ≤ 900000 ∧ val M ≤ val L ∧
    Int.gcd (val L) (val M) = Int.gcd x y ∧ Below base w w'

def RedInv (base : Nat) (x y : Int) (w wr : World) (A B : Option Addr) (n c m d : Nat) (L M : List Int) : Prop :=
  Mine wr base A n c L ∧ trim L = L ∧ Mine wr base B m d M ∧ trim M = M ∧ n ≤ 900000 ∧ val M ≤ val L ∧ (∀ a b, A = some a → B = some b → a.block ≠ b.block) ∧
    Int.gcd (val L) (val M) = Int.gcd x y ∧ Below base w wr

set_option maxHeartbeats 2000000 in
theorem reduce_any (base n c m d : Nat) (A B : Option Addr) (L M : List Int) (w : World) (hr : Mine w base A n c L) (hL : trim L = L) (hs : Mine w base B m d M) (hM : trim M = M) (hn : n ≤ 900000) (hle : val M ≤ val L)
    (hne : ∀ a b, A = some a → B = some b → a.block ≠ b.block) (hl : Laid w) (hb : base ≤ w.heap.size) (hg : 4 < base) :
    Calls Tryz.prog 259 #[.slice A n c, .slice B m d] w (ReducePost base (val L) (val M) w) := by
  have HI : RedInv base (val L) (val M) w w A B n c m d L M := ⟨hr, hL, hs, hM, hn, hle, hne, rfl, Below.refl _ _⟩
  have hm1 := hs.rd
  go_enter Tryz.func259, Tryz.ntmps259
  go_wp2
  go_loopw [0, 1] (fun av bv wr => ∃ (A B : Option Addr) (n c m d : Nat) (L' M' : List Int), av = .slice A n c ∧ bv = .slice B m d ∧ Hid (RedInv base (val L) (val M) w wr A B n c m d L' M')) (fun _ bv wr => valOf wr bv)
  case atStart => exact ⟨A, B, n, c, m, d, L, M, rfl, rfl, HI⟩
  case round =>
    obtain ⟨A, B, n, c, m, d, L', M', rfl, rfl, hI⟩ := hrel
    clear HI hm1 hr hL hs hM hn hle hne
    obtain ⟨hA, tL, hB, tM, hn, hle, hne, hG, hW⟩ := hI.out
    have hsz := hW.size
    have hwb : base ≤ wr.heap.size := by omega
    have cB := hB.rd.cap
    have topB := hB.rd.top
    unfold maxLen at topB
    by_cases h2 : m ≤ 2
    · have HG := Lib.hid hG
      have HA := Lib.hid hA
      have HB := Lib.hid hB
      have HT := Lib.hid tL
      have HT2 := Lib.hid tM
      clear hA hB tL tM hG
      go_wp2
      go_ret2
      exact ⟨A, n, c, L', B, m, d, M', rfl, HA.out, HT.out, HB.out, HT2.out, h2, hn, hle, HG.out, hW⟩
    · have lL := hA.len
      have lM := hB.len
      have hmn := len_of_le hA.lims hB.lims tL tM hle
      have hl0 := hl.under hW hg
      have HLL := Lib.hid lL
      have HLM := Lib.hid lM
      have h3n : 3 ≤ n := by omega
      have hmn' : m ≤ n := by omega
      have hv0 := val_nonneg hB.lims
      have LB := Lib.hid (leadingBits_any A B n c m d L' M' wr hA.rd hB.rd h3n (by omega) hmn' tL hle)
      have hpos : Hid (val M' ≠ 0) := by
        show _ ≠ _
        intro h0
        have h1 := trim_of_zero hB.lims h0
        rw [tM] at h1
        rw [h1] at lM
        simp at lM
        omega
      have HA := Lib.hid hA
      have HB := Lib.hid hB
      have HTL := Lib.hid tL
      have HTM := Lib.hid tM
      have HG := Lib.hid hG
      clear hA hB tL tM hG lL lM hmn
      go_wp2_with fail
      refine LB.out.mono ?_
      rintro e w1 ⟨s, rfl, s31, hlt, hB1⟩
      have hK := lastBit_pos n s
      have q0 : 0 ≤ val M' / lastBit n s := Int.ediv_nonneg hv0 (Int.le_of_lt hK)
      have q1 : val M' / lastBit n s ≤ val L' / lastBit n s := Int.ediv_le_ediv hK hle
      have hl1 := hl0.below hB1
      have FSt := Lib.hid (findStep_any (val L' / lastBit n s) (val M' / lastBit n s) w1 hl1 q0 q1 hlt)
      go_wp2_with fail
      refine FSt.out.mono ?_
      rintro e w2 ⟨u0, v0, u1, v1, σ, p0, m0, p1, m1, rfl, hLem, e0, e1, e2, e3, hB2⟩
      have HE := Lib.hid (And.intro e0 (And.intro e1 (And.intro e2 e3)))
      clear e0 e1 e2 e3
      have hl2 := hl1.below hB2
      have h4 := S4.new w2 u0 v0 u1 v1 265
      have hl3 := hl2.under (Below.alloc (Below.refl w2.heap.size w2) (Nat.le_refl _) (.cells #[.int .i64 u0, .int .i64 v0, .int .i64 u1, .int .i64 v1] 265)) hl2.size
      have hB3 : Below wr.heap.size wr (w2.alloc (.cells #[.int .i64 u0, .int .i64 v0, .int .i64 u1, .int .i64 v1] 265)) := (nextB hB1 hB2).alloc (by have := hB1.size; have := hB2.size; omega) _
      obtain ⟨l0, l1, l2, l3, l4⟩ := hl2
      obtain ⟨k0, k1, k2, k3, k4⟩ := hl3
      obtain ⟨x0, x1, x2, x3, x4, x5⟩ := h4
      by_cases hno : u0 = 1 ∧ v0 = 0 ∧ u1 = 0 ∧ v1 = 1
      · obtain ⟨rfl, rfl, rfl, rfl⟩ := hno
        have REM := Lib.hid (remainder_any A B n c m d L' M' _ (HA.out.below hB3).rd (HB.out.below hB3).rd hn hpos.out)
        go_wp2_with fail
        refine REM.out.mono ?_
        rintro e w4 ⟨A4, n4, c4, R, rfl, hR, IR, hB4⟩
        have hB34 := nextB hB3 hB4
        have hsz3 := hB3.size
        have hR' := hR.more (base' := base) (by omega)
        have hMv := HB.out.below hB34
        have hMpos : 0 < val M' := by have := hpos.out; omega
        have r0 := Int.emod_nonneg (val L') hpos.out
        have r1 := Int.emod_lt_of_pos (val L') hMpos
        have hRv := IR.eq
        have hn4 : n4 ≤ 900000 := by
          have h1 := len_of_le HB.out.lims IR.lims HTM.out IR.nrm (by omega)
          have h5 := hR.len
          have h6 := HB.out.len
          omega
        have hInv : RedInv base (val L) (val M) w w4 B A4 m d n4 c4 M' R := by
          refine ⟨hMv, HTM.out, hR', IR.nrm, by omega, by omega, ?_, ?_, ?_⟩
          · intro a b ha hb'
            have h1 := (HB.out.lt a ha).2
            have h2 := (hR.lt b hb').1
            omega
          · rw [hRv, gcd_rest]; exact HG.out
          · exact hW.trans (hB34.mono hwb)
        have HInv := Lib.hid hInv
        have hmes : Hid (valOf w4 (.slice A4 n4 c4) < valOf wr (.slice B m d)) := by
          show _ < _
          rw [valOf_rd hR.rd, valOf_rd HB.out.rd, hRv]; omega
        clear hInv hMv hR' hR IR hRv
        go_wp2
        go_roundw
        case rel => exact ⟨B, A4, m, d, n4, c4, M', R, rfl, rfl, HInv⟩
        case measure => exact hmes.out
      · obtain ⟨ga, rfl, hga, hga'⟩ := HA.out.form (by omega)
        obtain ⟨gb, rfl, hgb, hgb'⟩ := HB.out.form (by omega)
        have hgne : ga ≠ gb := hne _ _ rfl rfl
        have hOpp : Opp u0 v0 ∧ Opp u1 v1 := by
          rw [HE.out.1, HE.out.2.1, HE.out.2.2.1, HE.out.2.2.2]; exact opp_lem hLem
        have APP := Lib.hid (apply_any base ga gb n c m d u0 v0 u1 v1 L' M' _ (HA.out.below hB3) (HB.out.below hB3) hgne hmn' (by omega) (by omega) hOpp.1 hOpp.2 (by have := hB3.size; omega))
        have END : Hid (∀ S T f g, Lims S → Lims T → T.length = m → m ≤ S.length → val (S.take m) + pw m * f = u0 * val (L'.take m) + v0 * val M' → val T + pw m * g = u1 * val (L'.take m) + v1 * val M' →
            val T < val (S.take m) ∧ val (S.take m) ≤ val M' ∧ Int.gcd (val (S.take m)) (val T) = Int.gcd (val L') (val M')) := by
          intro S T f g hS hT lT lS hF hG'
          rw [HE.out.1, HE.out.2.1] at hF
          rw [HE.out.2.2.1, HE.out.2.2.2] at hG'
          rw [HE.out.1, HE.out.2.1, HE.out.2.2.1, HE.out.2.2.2] at hno
          exact apply_end hK hLem hno HA.out.lims HB.out.lims hS hT HB.out.len lT lS (by rw [HA.out.len]; exact hmn') hle hF hG'
        clear hOpp hLem HE hga hgb
        go_wp2_with fail
        all_goals
          try (rename u0 = 1 => hh; subst hh)
          try (rename v0 = 0 => hh; subst hh)
          try (rename u1 = 0 => hh; subst hh)
          refine APP.out.mono ?_
          rintro e w4 ⟨S, T, f, g, rfl, hS, hT, hF, hG', hB4⟩
          have hEnd := END.out S T f g hS.lims hT.lims hT.len (by rw [hS.len]; exact hmn') hF hG'
          have hS1 := hS.take (k := m) hmn' (by omega)
          have HS1 := Lib.hid hS1
          have HT1 := Lib.hid hT
          have HEnd := Lib.hid hEnd
          have hcS := hS.rd.cap
          have hB34 : Below base wr w4 := (hB3.mono hwb).trans hB4
          clear hF hG' hEnd hS hT hS1 APP END LB FSt hne x0 x1 x2 x3 x4 x5 k0 k1 k2 k3 k4 l0 l1 l2 l3 l4
          go_wp2_with fail
          refine (strip_any _ m c (S.take m) w4 HS1.out.rd).mono ?_
          rintro e w5 ⟨A5, n5, c5, rfl, hS5, rfl⟩
          have HS5 := Lib.hid hS5
          clear hS5
          go_wp2_with fail
          refine (strip_any _ m d T w4 HT1.out.rd).mono ?_
          rintro e w5 ⟨A6, n6, c6, rfl, hS6, rfl⟩
          have HS6 := Lib.hid hS6
          clear hS6
          have hMA := HS5.out.mine HS1.out
          have hMB := HS6.out.mine HT1.out
          have hInv : RedInv base (val L) (val M) w w4 A5 A6 n5 c5 n6 c6 (trim (S.take m)) (trim T) := by
            refine ⟨hMA, trim_trim _, hMB, trim_trim _, ?_, ?_, ?_, ?_, hW.trans hB34⟩
            · have h1 := hMA.len
              have h2 := trim_length_le (S.take m)
              have h3 := HS1.out.len
              omega
            · rw [val_trim, val_trim]; have := HEnd.out.1; omega
            · intro a b ha hb'
              obtain ⟨_, ⟨_, h1, _⟩ | ⟨_, h1, _⟩⟩ := HS5.out
              · rw [h1] at ha; cases ha
              · obtain ⟨_, ⟨_, h2, _⟩ | ⟨_, h2, _⟩⟩ := HS6.out
                · rw [h2] at hb'; cases hb'
                · rw [h1] at ha
                  rw [h2] at hb'
                  injection ha with ha
                  injection hb' with hb'
                  rw [← ha, ← hb']; exact hgne
            · rw [val_trim, val_trim, HEnd.out.2.2]; exact HG.out
          have HInv := Lib.hid hInv
          have hmes : Hid (valOf w4 (.slice A6 n6 c6) < valOf wr (.slice (some ⟨gb, 0, none⟩) m d)) := by
            show _ < _
            have h0 := val_nonneg hMB.lims
            rw [valOf_rd hMB.rd, valOf_rd HB.out.rd]
            rw [val_trim] at h0 ⊢
            have := HEnd.out
            omega
          clear hInv hMA hMB
          go_wp2
          go_roundw
          case rel => exact ⟨A5, A6, n5, c5, n6, c6, _, _, rfl, rfl, HInv⟩
          case measure => exact hmes.out

end Go.Proofs.YtggdhgppclnckaaGreatDoor.Q

namespace Go.Proofs.YtggdhgppclnckaaGreatDoor.Q
open Go.RowKit
set_option maxRecDepth 20000

theorem Gives.after {w w3 w' : World} {x : Int} {e : Ending} (h : Gives w3 x e w') (hb : Below w.heap.size w w3) : Gives w x e w' := by
  obtain ⟨A, n, c, L, rfl, hm, hI, hB⟩ := h
  exact ⟨A, n, c, L, rfl, hm.more hb.size, hI, nextB hb hB⟩
theorem Gives.cast {w w' : World} {x y : Int} {e : Ending} (h : Gives w x e w') (hxy : x = y) : Gives w y e w' := by subst hxy; exact h
theorem word_fit {w : World} {A : Option Addr} {n c : Nat} {L : List Int} (h : Rd w A n c L) (hn : n ≤ 2) : 0 ≤ val L ∧ val L < 18446744073709551616 := by
  have h1 := val_nonneg h.lims
  have h2 := val_lt h.lims
  have h3 := pw_mono (m := L.length) (n := 2) (by rw [h.len]; exact hn)
  have h4 : pw 2 = 18446744073709551616 := by decide
  omega
theorem rem_fit {w w' : World} {A B : Option Addr} {n c m d : Nat} {R M : List Int} {x : Int} (hb : Rd w B m d M) (hr : Rd w' A n c R) (hI : Is R (x % val M)) (tM : trim M = M) (h2 : m ≤ 2) (h0 : val M ≠ 0) :
    n ≤ 2 ∧ 0 ≤ val R ∧ val R < 18446744073709551616 := by
  have hM0 := val_nonneg hb.lims
  have r0 := Int.emod_nonneg x h0
  have r1 := Int.emod_lt_of_pos x (show 0 < val M by omega)
  have h1 := len_of_le hb.lims hI.lims tM hI.nrm (by rw [hI.eq]; omega)
  have h3 := hr.len
  have h4 := hb.len
  exact ⟨by omega, word_fit hr (by omega)⟩
theorem gcd_fit {x y : Int} (h0 : x ≠ 0) (hx : 0 ≤ x ∧ x < 18446744073709551616) : (Int.gcd x y : Int) < 18446744073709551616 := by
  have h1 : ((Int.gcd x y : Nat) : Int) ∣ x := Int.gcd_dvd_left ..
  have h2 := Int.le_of_dvd (by omega) h1
  omega

set_option maxHeartbeats 4000000 in
set_option maxRecDepth 4000 in
theorem gcd_any (A B : Option Addr) (n c m d : Nat) (L M : List Int) (w : World) (hr : Rd w A n c L) (hs : Rd w B m d M) (hn : n ≤ 900000) (hm : m ≤ 900000) (hl : Laid w) :
    Calls Tryz.prog 244 #[.slice A n c, .slice B m d] w (Gives w (Int.gcd (val L) (val M) : Int)) := by
  have y1 := trim_length_le L
  have y2 := trim_length_le M
  rw [hr.len] at y1
  rw [hs.len] at y2
  have v0 := val_nonneg hr.lims
  have v1 := val_nonneg hs.lims
  go_enter Tryz.func244, Tryz.ntmps244
  go_wp2_with fail
  refine (strip_any A n c L w hr).mono ?_
  rintro e w' ⟨Aa, na, ca, rfl, hSa, rfl⟩
  have hra := hSa.rd hr
  clear hSa
  go_wp2_with fail
  refine (strip_any B m d M w hs).mono ?_
  rintro e w' ⟨Ab, nb, cb, rfl, hSb, rfl⟩
  have hrb := hSb.rd hs
  clear hSb
  have la := hra.len
  have lb := hrb.len
  have ca1 := hra.cap
  have cb1 := hrb.cap
  have CMP := Lib.hid (cmp_any _ _ _ _ _ _ _ _ w hra hrb)
  have HRA := Lib.hid hra
  have HRB0 := Lib.hid hrb
  clear hra hrb hr hs
  by_cases hlt : val L < val M
  · have hcz : Hid (cmpZ (val (trim L)) (val (trim M)) = -1) := by show _ = _; rw [val_trim, val_trim]; exact cmpZ_lt hlt
    have CMP2 := CMP.out
    unfold SameNum at CMP2
    rw [hcz.out] at CMP2
    have CM := Lib.hid CMP2
    clear CMP CMP2 hcz
    go_wp2_with fail
    refine CM.out.mono ?_
    rintro e w' ⟨rfl, k, rfl⟩
    have hra := HRA.out.drewN k
    have hrb := HRB0.out.drewN k
    have hle : val L ≤ val M := by omega
    have hwk := drewN_below (Below.refl w.heap.size w) k
    have HG : Hid (Int.gcd (val (trim M)) (val (trim L)) = Int.gcd (val L) (val M)) := by show _ = _; rw [val_trim, val_trim, Int.gcd_comm]
    clear HRA HRB0 CM
    generalize w.drewN k = wk at *
    by_cases h2m : na ≤ 2
    · have HTY := Lib.hid (trim_trim L)
      have hw0 := hwk
      clear hwk
      by_cases h0 : na = 0
      · have hyz : Hid (val (trim M) = (Int.gcd (val L) (val M) : Int)) := by
          show _ = _
          have h1 := hra.len
          rw [h0] at h1
          have h2 : (trim L) = [] := List.eq_nil_of_length_eq_zero h1
          have h3 := HG.out
          rw [h2] at h3
          rw [← h3]
          have h4 := val_nonneg hrb.lims
          simp [val]; omega
        subst h0
        have TR := Lib.hid (trim_any _ _ _ _ _ hrb (by omega))
        go_wp2_with fail
        refine TR.out.mono ?_
        rintro e wf hGf
        have hEnd := (hGf.after hw0).cast hyz.out
        obtain ⟨Af, nf, cf, Lf, rfl, hMf, hIf, hBf⟩ := hEnd
        have HIf := Lib.hid hIf
        clear hIf hGf
        go_wp2
        go_ret
        exact ⟨Af, nf, cf, Lf, rfl, hMf, HIf.out, hBf⟩
      · have hbne : Hid (val (trim L) ≠ 0) := by
          show _ ≠ _
          intro hz
          have h1 := trim_of_zero hra.lims hz
          rw [HTY.out] at h1
          have h2 := hra.len
          rw [h1] at h2
          exact h0 h2.symm
        have hb0 : (na : Int) ≠ 0 := by omega
        have hy2 := word_fit hra h2m
        have hcB := hra.cap
        rcases Nat.lt_or_ge 2 nb with h2n | h2n
        · have REM := Lib.hid (remainder_any _ _ _ _ _ _ _ _ _ hrb hra (by omega) hbne.out)
          go_wp2_with fail
          refine REM.out.mono ?_
          rintro e wr ⟨Ar, nr, cr, Xr, rfl, hXr, hIr, hBr⟩
          have hrr := hXr.rd
          have hrest := rem_fit hra hrr hIr HTY.out h2m hbne.out
          have HX := Lib.hid (And.intro hrr (And.intro hIr (And.intro hrest.1 hrest.2)))
          have hfit := gcd_fit (x := val (trim L)) (y := val Xr) hbne.out hy2
          have HF := Lib.hid hfit
          have HGr : Hid ((Int.gcd (val (trim L)) (val Xr) : Int) = (Int.gcd (val L) (val M) : Int)) := by
            show _ = _
            rw [hIr.eq, gcd_rest, HG.out]
          have hbb := Lib.hid (nextB (hw0) hBr)
          have HRB := Lib.hid ((hra).below hBr)
          clear hXr hIr hrr hrest hfit
          go_wp2_with fail
          refine (toWord_any _ _ _ _ _ HRB.out h2m).mono ?_
          rintro e w' ⟨rfl, rfl⟩
          go_wp2_with fail
          refine (toWord_any _ _ _ _ _ HX.out.1 HX.out.2.2.1).mono ?_
          rintro e w' ⟨rfl, rfl⟩
          go_wp2_with fail
          refine (gcdWords_any _ _ _ hy2 HX.out.2.2.2).mono ?_
          rintro e wg ⟨rfl, hBg⟩
          go_wp2_with fail
          refine (fromWord_any _ _ (by omega) HF.out).mono ?_
          rintro e wf hGf
          have hEnd := (hGf.after (nextB hbb.out hBg)).cast HGr.out
          obtain ⟨Af, nf, cf, Lf, rfl, hMf, hIf, hBf⟩ := hEnd
          have HIf := Lib.hid hIf
          clear hIf hGf
          go_wp2
          go_ret
          exact ⟨Af, nf, cf, Lf, rfl, hMf, HIf.out, hBf⟩
        · have hx2 := Lib.hid (word_fit hrb (by omega))
          go_wp2_with fail
          refine (toWord_any _ _ _ _ _ hra h2m).mono ?_
          rintro e w' ⟨rfl, rfl⟩
          go_wp2_with fail
          refine (toWord_any _ _ _ _ _ hrb h2n).mono ?_
          rintro e w' ⟨rfl, rfl⟩
          go_wp2_with fail
          refine (gcdWords_any _ _ _ hy2 hx2.out).mono ?_
          rintro e wg ⟨rfl, hBg⟩
          go_wp2_with fail
          refine (fromWord_any _ _ (by omega) (gcd_fit hbne.out hy2)).mono ?_
          rintro e wf hGf
          have hEnd := (hGf.after (nextB (hw0) hBg)).cast (by rw [Int.gcd_comm, HG.out])
          obtain ⟨Af, nf, cf, Lf, rfl, hMf, hIf, hBf⟩ := hEnd
          have HIf := Lib.hid hIf
          clear hIf hGf
          go_wp2
          go_ret
          exact ⟨Af, nf, cf, Lf, rfl, hMf, HIf.out, hBf⟩
    · have T1 := Lib.hid (trim_any _ _ _ _ _ hrb (by omega))
      go_wp2_with fail
      refine T1.out.mono ?_
      rintro e w1 ⟨A1, n1, c1, L1, rfl, hM1, hI1, hB1⟩
      have HI1 := Lib.hid hI1
      clear hI1
      have T2 := Lib.hid (trim_any _ _ _ _ w1 (hra.below hB1) (by omega))
      go_wp2_with fail
      refine T2.out.mono ?_
      rintro e w2 ⟨A2, n2, c2, L2, rfl, hM2, hI2, hB2⟩
      have HI2 := Lib.hid hI2
      clear hI2
      have hs1 := hB1.size
      have hs0 := hwk.size
      have hn1 : n1 ≤ 900000 := by
        have h1 := hM1.len
        have h2 := len_of_le hrb.lims HI1.out.lims (trim_trim _) HI1.out.nrm (by rw [HI1.out.eq]; omega)
        have h3 := hrb.len
        omega
      have hM1b := (hM1.below hB2).more (base' := w.heap.size) (by omega)
      have hM2b := hM2.more (base' := w.heap.size) (by omega)
      have hdis : ∀ a b, A1 = some a → A2 = some b → a.block ≠ b.block := by
        intro a b ha hb
        have h1 := (hM1.lt a ha).2
        have h2 := (hM2.lt b hb).1
        omega
      have hw2 := hwk.trans ((nextB hB1 hB2).mono hs0)
      have hlaid := hl.under hw2 hl.size
      have RED := Lib.hid (reduce_any w.heap.size n1 c1 n2 c2 A1 A2 L1 L2 w2 hM1b HI1.out.nrm hM2b HI2.out.nrm hn1 (by rw [HI1.out.eq, HI2.out.eq, val_trim, val_trim]; exact hle) hdis hlaid (by have := hw2.size; omega) hl.size)
      have HM1 := Lib.hid hM1b
      have HM2 := Lib.hid hM2b
      clear hM1 hM2 hM1b hM2b hdis
      go_wp2_with fail
      refine RED.out.mono ?_
      rintro e w3 ⟨A3, n3, c3, L3, B3, m3, d3, M3, rfl, hA3, tL3, hB3, tM3, h2m3, hn3, hle3, hG3, hw3⟩
      have HG3 : Hid (Int.gcd (val L3) (val M3) = Int.gcd (val L) (val M)) := by
        show _ = _
        rw [hG3, HI1.out.eq, HI2.out.eq]; exact HG.out
      have hw4 := hw2.trans hw3
      have HTY := Lib.hid tM3
      have hra := hA3.rd
      have hrb := hB3.rd
      clear hA3 hB3 tL3 tM3 hG3 T1 T2 RED HG h2m
      have HG := HG3
      have h2m := h2m3
      have hcA3 := hra.cap
      clear HG3 h2m3
      by_cases h0 : m3 = 0
      · have hyz : Hid (val L3 = (Int.gcd (val L) (val M) : Int)) := by
          show _ = _
          have h1 := hrb.len
          rw [h0] at h1
          have h2 : M3 = [] := List.eq_nil_of_length_eq_zero h1
          have h3 := HG.out
          rw [h2] at h3
          rw [← h3]
          have h4 := val_nonneg hra.lims
          simp [val]; omega
        subst h0
        have TR := Lib.hid (trim_any _ _ _ _ _ hra (by omega))
        go_wp2_with fail
        refine TR.out.mono ?_
        rintro e wf hGf
        have hEnd := (hGf.after hw4).cast hyz.out
        obtain ⟨Af, nf, cf, Lf, rfl, hMf, hIf, hBf⟩ := hEnd
        have HIf := Lib.hid hIf
        clear hIf hGf
        go_wp2
        go_ret
        exact ⟨Af, nf, cf, Lf, rfl, hMf, HIf.out, hBf⟩
      · have hbne : Hid (val M3 ≠ 0) := by
          show _ ≠ _
          intro hz
          have h1 := trim_of_zero hrb.lims hz
          rw [HTY.out] at h1
          have h2 := hrb.len
          rw [h1] at h2
          exact h0 h2.symm
        have hb0 : (m3 : Int) ≠ 0 := by omega
        have hy2 := word_fit hrb h2m
        have hcB := hrb.cap
        rcases Nat.lt_or_ge 2 n3 with h2n | h2n
        · have REM := Lib.hid (remainder_any _ _ _ _ _ _ _ _ _ hra hrb (by omega) hbne.out)
          go_wp2_with fail
          refine REM.out.mono ?_
          rintro e wr ⟨Ar, nr, cr, Xr, rfl, hXr, hIr, hBr⟩
          have hrr := hXr.rd
          have hrest := rem_fit hrb hrr hIr HTY.out h2m hbne.out
          have HX := Lib.hid (And.intro hrr (And.intro hIr (And.intro hrest.1 hrest.2)))
          have hfit := gcd_fit (x := val M3) (y := val Xr) hbne.out hy2
          have HF := Lib.hid hfit
          have HGr : Hid ((Int.gcd (val M3) (val Xr) : Int) = (Int.gcd (val L) (val M) : Int)) := by
            show _ = _
            rw [hIr.eq, gcd_rest, HG.out]
          have hbb := Lib.hid (nextB (hw4) hBr)
          have HRB := Lib.hid ((hrb).below hBr)
          clear hXr hIr hrr hrest hfit
          go_wp2_with fail
          refine (toWord_any _ _ _ _ _ HRB.out h2m).mono ?_
          rintro e w' ⟨rfl, rfl⟩
          go_wp2_with fail
          refine (toWord_any _ _ _ _ _ HX.out.1 HX.out.2.2.1).mono ?_
          rintro e w' ⟨rfl, rfl⟩
          go_wp2_with fail
          refine (gcdWords_any _ _ _ hy2 HX.out.2.2.2).mono ?_
          rintro e wg ⟨rfl, hBg⟩
          go_wp2_with fail
          refine (fromWord_any _ _ (by omega) HF.out).mono ?_
          rintro e wf hGf
          have hEnd := (hGf.after (nextB hbb.out hBg)).cast HGr.out
          obtain ⟨Af, nf, cf, Lf, rfl, hMf, hIf, hBf⟩ := hEnd
          have HIf := Lib.hid hIf
          clear hIf hGf
          go_wp2
          go_ret
          exact ⟨Af, nf, cf, Lf, rfl, hMf, HIf.out, hBf⟩
        · have hx2 := Lib.hid (word_fit hra (by omega))
          go_wp2_with fail
          refine (toWord_any _ _ _ _ _ hrb h2m).mono ?_
          rintro e w' ⟨rfl, rfl⟩
          go_wp2_with fail
          refine (toWord_any _ _ _ _ _ hra h2n).mono ?_
          rintro e w' ⟨rfl, rfl⟩
          go_wp2_with fail
          refine (gcdWords_any _ _ _ hy2 hx2.out).mono ?_
          rintro e wg ⟨rfl, hBg⟩
          go_wp2_with fail
          refine (fromWord_any _ _ (by omega) (gcd_fit hbne.out hy2)).mono ?_
          rintro e wf hGf
          have hEnd := (hGf.after (nextB (hw4) hBg)).cast (by rw [Int.gcd_comm, HG.out])
          obtain ⟨Af, nf, cf, Lf, rfl, hMf, hIf, hBf⟩ := hEnd
          have HIf := Lib.hid hIf
          clear hIf hGf
          go_wp2
          go_ret
          exact ⟨Af, nf, cf, Lf, rfl, hMf, HIf.out, hBf⟩
  · have hcz : ∃ z, cmpZ (val (trim L)) (val (trim M)) = z ∧ 0 ≤ z := by
      rw [val_trim, val_trim]
      unfold cmpZ
      rw [if_neg hlt]
      split
      · exact ⟨1, rfl, by decide⟩
      · exact ⟨0, rfl, by decide⟩
    obtain ⟨z, hz, z0⟩ := hcz
    have CMP2 := CMP.out
    unfold SameNum at CMP2
    rw [hz] at CMP2
    have CM := Lib.hid CMP2
    clear CMP CMP2 hz
    go_wp2_with fail
    refine CM.out.mono ?_
    rintro e w' ⟨rfl, k, rfl⟩
    have hra := HRA.out.drewN k
    have hrb := HRB0.out.drewN k
    have hle : val M ≤ val L := by omega
    have hwk := drewN_below (Below.refl w.heap.size w) k
    have HG : Hid (Int.gcd (val (trim L)) (val (trim M)) = Int.gcd (val L) (val M)) := by show _ = _; rw [val_trim, val_trim]
    clear HRA HRB0 CM
    generalize w.drewN k = wk at *
    by_cases h2m : nb ≤ 2
    · have HTY := Lib.hid (trim_trim M)
      have hw0 := hwk
      clear hwk
      by_cases h0 : nb = 0
      · have hyz : Hid (val (trim L) = (Int.gcd (val L) (val M) : Int)) := by
          show _ = _
          have h1 := hrb.len
          rw [h0] at h1
          have h2 : (trim M) = [] := List.eq_nil_of_length_eq_zero h1
          have h3 := HG.out
          rw [h2] at h3
          rw [← h3]
          have h4 := val_nonneg hra.lims
          simp [val]; omega
        subst h0
        have TR := Lib.hid (trim_any _ _ _ _ _ hra (by omega))
        go_wp2_with fail
        refine TR.out.mono ?_
        rintro e wf hGf
        have hEnd := (hGf.after hw0).cast hyz.out
        obtain ⟨Af, nf, cf, Lf, rfl, hMf, hIf, hBf⟩ := hEnd
        have HIf := Lib.hid hIf
        clear hIf hGf
        go_wp2
        go_ret
        exact ⟨Af, nf, cf, Lf, rfl, hMf, HIf.out, hBf⟩
      · have hbne : Hid (val (trim M) ≠ 0) := by
          show _ ≠ _
          intro hz
          have h1 := trim_of_zero hrb.lims hz
          rw [HTY.out] at h1
          have h2 := hrb.len
          rw [h1] at h2
          exact h0 h2.symm
        have hb0 : (nb : Int) ≠ 0 := by omega
        have hy2 := word_fit hrb h2m
        have hcB := hrb.cap
        rcases Nat.lt_or_ge 2 na with h2n | h2n
        · have REM := Lib.hid (remainder_any _ _ _ _ _ _ _ _ _ hra hrb (by omega) hbne.out)
          go_wp2_with fail
          refine REM.out.mono ?_
          rintro e wr ⟨Ar, nr, cr, Xr, rfl, hXr, hIr, hBr⟩
          have hrr := hXr.rd
          have hrest := rem_fit hrb hrr hIr HTY.out h2m hbne.out
          have HX := Lib.hid (And.intro hrr (And.intro hIr (And.intro hrest.1 hrest.2)))
          have hfit := gcd_fit (x := val (trim M)) (y := val Xr) hbne.out hy2
          have HF := Lib.hid hfit
          have HGr : Hid ((Int.gcd (val (trim M)) (val Xr) : Int) = (Int.gcd (val L) (val M) : Int)) := by
            show _ = _
            rw [hIr.eq, gcd_rest, HG.out]
          have hbb := Lib.hid (nextB (hw0) hBr)
          have HRB := Lib.hid ((hrb).below hBr)
          clear hXr hIr hrr hrest hfit
          go_wp2_with fail
          refine (toWord_any _ _ _ _ _ HRB.out h2m).mono ?_
          rintro e w' ⟨rfl, rfl⟩
          go_wp2_with fail
          refine (toWord_any _ _ _ _ _ HX.out.1 HX.out.2.2.1).mono ?_
          rintro e w' ⟨rfl, rfl⟩
          go_wp2_with fail
          refine (gcdWords_any _ _ _ hy2 HX.out.2.2.2).mono ?_
          rintro e wg ⟨rfl, hBg⟩
          go_wp2_with fail
          refine (fromWord_any _ _ (by omega) HF.out).mono ?_
          rintro e wf hGf
          have hEnd := (hGf.after (nextB hbb.out hBg)).cast HGr.out
          obtain ⟨Af, nf, cf, Lf, rfl, hMf, hIf, hBf⟩ := hEnd
          have HIf := Lib.hid hIf
          clear hIf hGf
          go_wp2
          go_ret
          exact ⟨Af, nf, cf, Lf, rfl, hMf, HIf.out, hBf⟩
        · have hx2 := Lib.hid (word_fit hra (by omega))
          go_wp2_with fail
          refine (toWord_any _ _ _ _ _ hrb h2m).mono ?_
          rintro e w' ⟨rfl, rfl⟩
          go_wp2_with fail
          refine (toWord_any _ _ _ _ _ hra h2n).mono ?_
          rintro e w' ⟨rfl, rfl⟩
          go_wp2_with fail
          refine (gcdWords_any _ _ _ hy2 hx2.out).mono ?_
          rintro e wg ⟨rfl, hBg⟩
          go_wp2_with fail
          refine (fromWord_any _ _ (by omega) (gcd_fit hbne.out hy2)).mono ?_
          rintro e wf hGf
          have hEnd := (hGf.after (nextB (hw0) hBg)).cast (by rw [Int.gcd_comm, HG.out])
          obtain ⟨Af, nf, cf, Lf, rfl, hMf, hIf, hBf⟩ := hEnd
          have HIf := Lib.hid hIf
          clear hIf hGf
          go_wp2
          go_ret
          exact ⟨Af, nf, cf, Lf, rfl, hMf, HIf.out, hBf⟩
    · have T1 := Lib.hid (trim_any _ _ _ _ _ hra (by omega))
      go_wp2_with fail
      refine T1.out.mono ?_
      rintro e w1 ⟨A1, n1, c1, L1, rfl, hM1, hI1, hB1⟩
      have HI1 := Lib.hid hI1
      clear hI1
      have T2 := Lib.hid (trim_any _ _ _ _ w1 (hrb.below hB1) (by omega))
      go_wp2_with fail
      refine T2.out.mono ?_
      rintro e w2 ⟨A2, n2, c2, L2, rfl, hM2, hI2, hB2⟩
      have HI2 := Lib.hid hI2
      clear hI2
      have hs1 := hB1.size
      have hs0 := hwk.size
      have hn1 : n1 ≤ 900000 := by
        have h1 := hM1.len
        have h2 := len_of_le hra.lims HI1.out.lims (trim_trim _) HI1.out.nrm (by rw [HI1.out.eq]; omega)
        have h3 := hra.len
        omega
      have hM1b := (hM1.below hB2).more (base' := w.heap.size) (by omega)
      have hM2b := hM2.more (base' := w.heap.size) (by omega)
      have hdis : ∀ a b, A1 = some a → A2 = some b → a.block ≠ b.block := by
        intro a b ha hb
        have h1 := (hM1.lt a ha).2
        have h2 := (hM2.lt b hb).1
        omega
      have hw2 := hwk.trans ((nextB hB1 hB2).mono hs0)
      have hlaid := hl.under hw2 hl.size
      have RED := Lib.hid (reduce_any w.heap.size n1 c1 n2 c2 A1 A2 L1 L2 w2 hM1b HI1.out.nrm hM2b HI2.out.nrm hn1 (by rw [HI1.out.eq, HI2.out.eq, val_trim, val_trim]; exact hle) hdis hlaid (by have := hw2.size; omega) hl.size)
      have HM1 := Lib.hid hM1b
      have HM2 := Lib.hid hM2b
      clear hM1 hM2 hM1b hM2b hdis
      go_wp2_with fail
      refine RED.out.mono ?_
      rintro e w3 ⟨A3, n3, c3, L3, B3, m3, d3, M3, rfl, hA3, tL3, hB3, tM3, h2m3, hn3, hle3, hG3, hw3⟩
      have HG3 : Hid (Int.gcd (val L3) (val M3) = Int.gcd (val L) (val M)) := by
        show _ = _
        rw [hG3, HI1.out.eq, HI2.out.eq]; exact HG.out
      have hw4 := hw2.trans hw3
      have HTY := Lib.hid tM3
      have hra := hA3.rd
      have hrb := hB3.rd
      clear hA3 hB3 tL3 tM3 hG3 T1 T2 RED HG h2m
      have HG := HG3
      have h2m := h2m3
      have hcA3 := hra.cap
      clear HG3 h2m3
      by_cases h0 : m3 = 0
      · have hyz : Hid (val L3 = (Int.gcd (val L) (val M) : Int)) := by
          show _ = _
          have h1 := hrb.len
          rw [h0] at h1
          have h2 : M3 = [] := List.eq_nil_of_length_eq_zero h1
          have h3 := HG.out
          rw [h2] at h3
          rw [← h3]
          have h4 := val_nonneg hra.lims
          simp [val]; omega
        subst h0
        have TR := Lib.hid (trim_any _ _ _ _ _ hra (by omega))
        go_wp2_with fail
        refine TR.out.mono ?_
        rintro e wf hGf
        have hEnd := (hGf.after hw4).cast hyz.out
        obtain ⟨Af, nf, cf, Lf, rfl, hMf, hIf, hBf⟩ := hEnd
        have HIf := Lib.hid hIf
        clear hIf hGf
        go_wp2
        go_ret
        exact ⟨Af, nf, cf, Lf, rfl, hMf, HIf.out, hBf⟩
      · have hbne : Hid (val M3 ≠ 0) := by
          show _ ≠ _
          intro hz
          have h1 := trim_of_zero hrb.lims hz
          rw [HTY.out] at h1
          have h2 := hrb.len
          rw [h1] at h2
          exact h0 h2.symm
        have hb0 : (m3 : Int) ≠ 0 := by omega
        have hy2 := word_fit hrb h2m
        have hcB := hrb.cap
        rcases Nat.lt_or_ge 2 n3 with h2n | h2n
        · have REM := Lib.hid (remainder_any _ _ _ _ _ _ _ _ _ hra hrb (by omega) hbne.out)
          go_wp2_with fail
          refine REM.out.mono ?_
          rintro e wr ⟨Ar, nr, cr, Xr, rfl, hXr, hIr, hBr⟩
          have hrr := hXr.rd
          have hrest := rem_fit hrb hrr hIr HTY.out h2m hbne.out
          have HX := Lib.hid (And.intro hrr (And.intro hIr (And.intro hrest.1 hrest.2)))
          have hfit := gcd_fit (x := val M3) (y := val Xr) hbne.out hy2
          have HF := Lib.hid hfit
          have HGr : Hid ((Int.gcd (val M3) (val Xr) : Int) = (Int.gcd (val L) (val M) : Int)) := by
            show _ = _
            rw [hIr.eq, gcd_rest, HG.out]
          have hbb := Lib.hid (nextB (hw4) hBr)
          have HRB := Lib.hid ((hrb).below hBr)
          clear hXr hIr hrr hrest hfit
          go_wp2_with fail
          refine (toWord_any _ _ _ _ _ HRB.out h2m).mono ?_
          rintro e w' ⟨rfl, rfl⟩
          go_wp2_with fail
          refine (toWord_any _ _ _ _ _ HX.out.1 HX.out.2.2.1).mono ?_
          rintro e w' ⟨rfl, rfl⟩
          go_wp2_with fail
          refine (gcdWords_any _ _ _ hy2 HX.out.2.2.2).mono ?_
          rintro e wg ⟨rfl, hBg⟩
          go_wp2_with fail
          refine (fromWord_any _ _ (by omega) HF.out).mono ?_
          rintro e wf hGf
          have hEnd := (hGf.after (nextB hbb.out hBg)).cast HGr.out
          obtain ⟨Af, nf, cf, Lf, rfl, hMf, hIf, hBf⟩ := hEnd
          have HIf := Lib.hid hIf
          clear hIf hGf
          go_wp2
          go_ret
          exact ⟨Af, nf, cf, Lf, rfl, hMf, HIf.out, hBf⟩
        · have hx2 := Lib.hid (word_fit hra (by omega))
          go_wp2_with fail
          refine (toWord_any _ _ _ _ _ hrb h2m).mono ?_
          rintro e w' ⟨rfl, rfl⟩
          go_wp2_with fail
          refine (toWord_any _ _ _ _ _ hra h2n).mono ?_
          rintro e w' ⟨rfl, rfl⟩
          go_wp2_with fail
          refine (gcdWords_any _ _ _ hy2 hx2.out).mono ?_
          rintro e wg ⟨rfl, hBg⟩
          go_wp2_with fail
          refine (fromWord_any _ _ (by omega) (gcd_fit hbne.out hy2)).mono ?_
          rintro e wf hGf
          have hEnd := (hGf.after (nextB (hw4) hBg)).cast (by rw [Int.gcd_comm, HG.out])
          obtain ⟨Af, nf, cf, Lf, rfl, hMf, hIf, hBf⟩ := hEnd
          have HIf := Lib.hid hIf
          clear hIf hGf
          go_wp2
          go_ret
          exact ⟨Af, nf, cf, Lf, rfl, hMf, HIf.out, hBf⟩

end Go.Proofs.YtggdhgppclnckaaGreatDoor.Q
namespace Go.Proofs.YtggdhgppclnckaaGreatDoor.Q
open Go.RowKit
set_option maxRecDepth 20000

theorem gcd_n {w : World} {A B : Option Addr} {n c m d : Nat} {x y : Int} (hl : Laid w) (hx : Num w A n c x) (hy : Num w B m d y) (hn : n ≤ 900000) (hm : m ≤ 900000) :
    Calls Tryz.prog 244 #[.slice A n c, .slice B m d] w (GivesN w (Int.gcd x y : Int)) := by
  obtain ⟨L, h1, rfl⟩ := hx
  obtain ⟨M, h2, rfl⟩ := hy
  exact (gcd_any A B n c m d L M w h1 h2 hn hm hl).mono fun _ _ h => h.n

theorem Nrm.len_iff {w : World} {A : Option Addr} {n c : Nat} {x : Int} (h : Nrm w A n c x) : n = 0 ↔ x = 0 := by
  constructor
  · intro h0
    subst h0
    have h1 := h.num.lt
    have h2 := h.num.nonneg
    have h3 : pw 0 = 1 := rfl
    omega
  · intro h0
    subst h0
    exact h.zero_len

end Go.Proofs.YtggdhgppclnckaaGreatDoor.Q
namespace Go.Proofs.YtggdhgppclnckaaGreatDoor.Q

def sg (s : Bool) (x : Int) : Int := if s then -x else x
/-- What a sign, a numerator and a denominator denote; over a zero denominator: 0. -/
def rat (s : Bool) (x y : Int) : Rat := Rat.divInt (sg s x) y
theorem sg_true (x : Int) : sg true x = -x := rfl
theorem sg_false (x : Int) : sg false x = x := rfl
theorem sg_natAbs (s : Bool) {x : Int} (x0 : 0 ≤ x) : ((sg s x).natAbs : Int) = x := by
  cases s
  · rw [sg_false]; omega
  · rw [sg_true]; omega
theorem rat_num (s : Bool) {x y : Int} (y0 : 0 < y) : (rat s x y).num = sg s (x / (Int.gcd x y : Int)) := by
  unfold rat
  rw [Rat.num_divInt, Int.sign_eq_one_of_pos y0, Int.one_mul, Int.gcd_comm]
  cases s
  · rw [sg_false, sg_false]
  · rw [sg_true, sg_true, Int.neg_gcd, Int.neg_ediv_of_dvd (Int.gcd_dvd_left ..)]
theorem rat_den (s : Bool) {x y : Int} (y0 : 0 < y) : ((rat s x y).den : Int) = y / (Int.gcd x y : Int) := by
  unfold rat
  rw [Rat.den_divInt, if_neg (by omega), Int.gcd_comm]
  have h : Int.gcd (sg s x) y = Int.gcd x y := by
    cases s
    · rfl
    · rw [sg_true, Int.neg_gcd]
  rw [h]
  push_cast
  rw [Int.ofNat_natAbs_of_nonneg (Int.le_of_lt y0)]
theorem rat_abs (s : Bool) {x y : Int} (x0 : 0 ≤ x) (y0 : 0 < y) : ((rat s x y).num.natAbs : Int) = x / (Int.gcd x y : Int) := by
  rw [rat_num s y0, sg_natAbs]
  exact Int.ediv_nonneg x0 (by omega)
theorem gcd_pos_of {x y : Int} (y0 : 0 < y) : 0 < (Int.gcd x y : Int) := by
  have : Int.gcd x y ≠ 0 := by
    intro h
    have := (Int.gcd_eq_zero_iff.1 h).2
    omega
  omega
theorem ediv_zero_of_dvd {g x : Int} (h : g ∣ x) (h2 : x / g = 0) : x = 0 := by
  have := Int.ediv_mul_cancel h
  rw [h2] at this
  omega
theorem rat_neg (s : Bool) {x y : Int} (x0 : 0 ≤ x) (y0 : 0 < y) : decide ((rat s x y).num < 0) = (s && !decide (x = 0)) := by
  rw [rat_num s y0]
  have g0 := gcd_pos_of (x := x) y0
  have h1 : x / (Int.gcd x y : Int) = 0 ↔ x = 0 := by
    constructor
    · exact fun h => ediv_zero_of_dvd (Int.gcd_dvd_left ..) h
    · rintro rfl; exact Int.zero_ediv _
  have h2 : 0 ≤ x / (Int.gcd x y : Int) := Int.ediv_nonneg x0 (by omega)
  cases s
  · rw [sg_false]; simp; omega
  · rw [sg_true]
    by_cases hx : x = 0
    · rw [h1.2 hx]; simp [hx]
    · have : ¬ x / (Int.gcd x y : Int) = 0 := fun h => hx (h1.1 h)
      simp [hx]; omega
/-- The lowest terms denote the number. -/
theorem rat_self (q : Rat) : rat (decide (q.num < 0)) (q.num.natAbs : Int) (q.den : Int) = q := by
  have h : sg (decide (q.num < 0)) (q.num.natAbs : Int) = q.num := by
    by_cases hq : q.num < 0
    · rw [decide_eq_true hq, sg_true]; omega
    · rw [decide_eq_false hq, sg_false]; omega
  unfold rat
  rw [h, Rat.num_divInt_den]
theorem rat_opp (s : Bool) (x y : Int) : rat (!s) x y = -(rat s x y) := by
  unfold rat
  rw [Rat.neg_divInt]
  cases s <;> simp [sg]
theorem rat_nonneg (s : Bool) {x y : Int} (y0 : 0 < y) : 0 ≤ rat s x y ↔ 0 ≤ sg s x := Rat.divInt_nonneg_iff_of_pos_right y0
theorem rat_neg_iff (s : Bool) {x y : Int} (x0 : 0 ≤ x) (y0 : 0 < y) : rat s x y < 0 ↔ s = true ∧ x ≠ 0 := by
  rw [← Rat.not_le, rat_nonneg s y0]
  cases s
  · rw [sg_false]; simp; exact x0
  · rw [sg_true]; simp; omega
theorem rat_pos_iff (s : Bool) {x y : Int} (x0 : 0 ≤ x) (y0 : 0 < y) : 0 < rat s x y ↔ s = false ∧ x ≠ 0 := by
  have h := rat_neg_iff (!s) x0 y0
  rw [rat_opp] at h
  have e : -(rat s x y) < 0 ↔ 0 < rat s x y := by
    constructor
    · intro h; have := Rat.neg_lt_iff.1 h; simpa using this
    · intro h; apply Rat.neg_lt_iff.2; simpa using h
  rw [← e, h]
  cases s <;> simp
/-- How two fractions compare: -1, 0 or 1. -/
def cmpR (a b : Rat) : Int := if a < b then -1 else if b < a then 1 else 0
theorem cmpR_lt {a b : Rat} (h : a < b) : cmpR a b = -1 := by unfold cmpR; rw [if_pos h]
theorem cmpR_gt {a b : Rat} (h : b < a) : cmpR a b = 1 := by
  unfold cmpR
  have h3 : ¬ a < b := Rat.not_lt.2 (Rat.le_of_lt h)
  rw [if_neg h3, if_pos h]
theorem cmpR_eq {a b : Rat} (h : a = b) : cmpR a b = 0 := by
  subst h
  unfold cmpR
  rw [if_neg Rat.lt_irrefl, if_neg Rat.lt_irrefl]
end Go.Proofs.YtggdhgppclnckaaGreatDoor.Q
namespace Go.Proofs.YtggdhgppclnckaaGreatDoor.Q
open Go.RowKit
set_option maxRecDepth 20000

def Bool1 (w : World) (b : Bool) (e : Ending) (w' : World) : Prop := e = .returned (.bool b) ∧ ∃ k, w' = w.drewN k

theorem num_nil (w : World) : Num w none 0 0 0 := ⟨[], Rd.nil w, rfl⟩

theorem isZero_any {w : World} {A : Option Addr} {n c : Nat} {x : Int} (hx : Num w A n c x) : Calls Tryz.prog 232 #[.slice A n c] w (Bool1 w (decide (x = 0))) := by
  have x0 := hx.nonneg
  have hc := cmp_n hx (num_nil w)
  unfold SameNum at hc
  by_cases h : x = 0
  · rw [cmpZ_eq h] at hc
    have HB : Hid (decide (x = 0) = true) := decide_eq_true h
    have HC := Lib.hid hc
    clear hc h hx
    go_enter Tryz.func232, Tryz.ntmps232
    go_wp2_with fail
    refine HC.out.mono ?_
    rintro e w' ⟨rfl, k, rfl⟩
    go_wp2
    go_ret
    exact ⟨by rw [HB.out]; rfl, k, rfl⟩
  · rw [cmpZ_gt (by omega)] at hc
    have HB : Hid (decide (x = 0) = false) := decide_eq_false h
    have HC := Lib.hid hc
    clear hc h hx
    go_enter Tryz.func232, Tryz.ntmps232
    go_wp2_with fail
    refine HC.out.mono ?_
    rintro e w' ⟨rfl, k, rfl⟩
    go_wp2
    go_ret
    exact ⟨by rw [HB.out]; rfl, k, rfl⟩

/-- The same, of the memory alone. -/
def BoolB (w : World) (b : Bool) (e : Ending) (w' : World) : Prop := e = .returned (.bool b) ∧ Below w.heap.size w w'
theorem isZero_b {w : World} {A : Option Addr} {n c : Nat} {x : Int} (hx : Num w A n c x) : Calls Tryz.prog 232 #[.slice A n c] w (BoolB w (decide (x = 0))) :=
  (isZero_any hx).mono fun _ _ ⟨he, k, hw⟩ => ⟨he, by rw [hw]; exact drewN_below (Below.refl _ _) k⟩

/-- The slice lies in a block from base on. -/
def Off (base : Nat) (A : Option Addr) : Prop := ∀ a, A = some a → base ≤ a.block
theorem Off.mono {base base' : Nat} {A : Option Addr} (h : Off base A) (hb : base' ≤ base) : Off base' A := fun a ha => Nat.le_trans hb (h a ha)
theorem Off.of_mine {w : World} {base n c : Nat} {A : Option Addr} {L : List Int} (h : Mine w base A n c L) : Off base A := fun a ha => (h.lt a ha).1
theorem Off.none (base : Nat) : Off base .none := fun _ h => by cases h
theorem Rd.far {w : World} {A : Option Addr} {n c : Nat} {L : List Int} (h : Rd w A n c L) {p : Addr} (hne : 0 < n → ∀ a, A = some a → a.block ≠ p.block) (v : Value) : Rd (w.setCell p v) A n c L := by
  refine ⟨h.len, h.lims, h.cap, h.top, fun hn => ?_⟩
  obtain ⟨ad, e, hb, hc⟩ := h.at_ hn
  refine ⟨ad, e, by simp [World.setCell]; exact hb, fun i hi => ?_⟩
  rw [World.cell?_setCell_other _ _ _ _ (fun e2 => hne (by omega) ad e (by rw [e2, addr_block]))]
  exact hc i hi
theorem Nrm.far {w : World} {A : Option Addr} {n c : Nat} {x : Int} (h : Nrm w A n c x) {p : Addr} (hne : 0 < n → ∀ a, A = some a → a.block ≠ p.block) (v : Value) : Nrm (w.setCell p v) A n c x := by
  obtain ⟨L, h1, h2⟩ := h
  exact ⟨L, h1.far hne v, h2⟩
theorem Num.far {w : World} {A : Option Addr} {n c : Nat} {x : Int} (h : Num w A n c x) {p : Addr} (hne : 0 < n → ∀ a, A = some a → a.block ≠ p.block) (v : Value) : Num (w.setCell p v) A n c x := by
  obtain ⟨L, h1, h2⟩ := h
  exact ⟨L, h1.far hne v, h2⟩
theorem Nrm.old {w : World} {A : Option Addr} {n c : Nat} {x : Int} (h : Nrm w A n c x) : 0 < n → ∀ a, A = some a → a.block < w.heap.size := by
  intro hn a ha
  obtain ⟨L, h1, _⟩ := h
  obtain ⟨ad, e, hb, _⟩ := h1.at_ hn
  rw [ha] at e
  injection e with e
  rw [e]; exact hb
theorem Num.old {w : World} {A : Option Addr} {n c : Nat} {x : Int} (h : Num w A n c x) : 0 < n → ∀ a, A = some a → a.block < w.heap.size := by
  intro hn a ha
  obtain ⟨L, h1, _⟩ := h
  obtain ⟨ad, e, hb, _⟩ := h1.at_ hn
  rw [ha] at e
  injection e with e
  rw [e]; exact hb
/-- Three stores into a block that the slice does not lie in. -/
theorem Nrm.far3 {w : World} {A : Option Addr} {n c g : Nat} {x : Int} (h : Nrm w A n c x) (hne : 0 < n → ∀ a, A = some a → a.block ≠ g) (i j k : Nat) (u v z : Value) :
    Nrm (((w.setCell ⟨g, i, Option.none⟩ u).setCell ⟨g, j, Option.none⟩ v).setCell ⟨g, k, Option.none⟩ z) A n c x := ((h.far hne u).far hne v).far hne z
theorem Num.far3 {w : World} {A : Option Addr} {n c g : Nat} {x : Int} (h : Num w A n c x) (hne : 0 < n → ∀ a, A = some a → a.block ≠ g) (i j k : Nat) (u v z : Value) :
    Num (((w.setCell ⟨g, i, Option.none⟩ u).setCell ⟨g, j, Option.none⟩ v).setCell ⟨g, k, Option.none⟩ z) A n c x := ((h.far hne u).far hne v).far hne z
/-- A slice in normal form, in a block of its own, comes back. -/
def GivesO (w : World) (x : Int) (e : Ending) (w' : World) : Prop := ∃ A n c, e = .returned (.slice A n c) ∧ Nrm w' A n c x ∧ Off w.heap.size A ∧ Below w.heap.size w w'
theorem Gives.o {w : World} {x : Int} {e : Ending} {w' : World} (h : Gives w x e w') : GivesO w x e w' := by
  obtain ⟨A, n, c, L, h1, h2, h3, h4⟩ := h
  exact ⟨A, n, c, h1, Nrm.of_mine h2 h3, Off.of_mine h2, h4⟩

theorem quotient_n {w : World} {A B : Option Addr} {n c m d : Nat} {x y : Int} (hx : Num w A n c x) (hy : Num w B m d y) (hn : n ≤ 900000) (h0 : y ≠ 0) :
    Calls Tryz.prog 245 #[.slice A n c, .slice B m d] w (GivesO w (x / y)) := by
  obtain ⟨L, h1, rfl⟩ := hx
  obtain ⟨M, h2, rfl⟩ := hy
  have HD := Lib.hid (divMod_any A B n c m d L M w h1 h2 hn h0)
  clear h1 h2
  go_enter Tryz.func245, Tryz.ntmps245
  go_wp2_with fail
  refine HD.out.mono ?_
  rintro e w' ⟨A1, n1, c1, Q, B1, m1, d1, R, rfl, hQ, iQ, hR, iR, hb⟩
  have hq := Nrm.of_mine hQ iQ
  have ho := Off.of_mine hQ
  clear hR iR iQ hQ
  go_wp2
  go_ret
  exact ⟨A1, n1, c1, rfl, hq, ho, hb⟩

/-- The three parts of a fraction in memory: it denotes q; its slices have at most k limbs. The denominator may be zero. -/
def Loose (w : World) (s : Bool) (A : Option Addr) (n c : Nat) (B : Option Addr) (m d : Nat) (q : Rat) (k : Nat) : Prop :=
  ∃ x y, Num w A n c x ∧ Num w B m d y ∧ rat s x y = q ∧ n ≤ k ∧ m ≤ k
/-- The same, over a denominator that is not zero. -/
def Frac (w : World) (s : Bool) (A : Option Addr) (n c : Nat) (B : Option Addr) (m d : Nat) (q : Rat) (k : Nat) : Prop :=
  ∃ x y, Num w A n c x ∧ Num w B m d y ∧ 0 < y ∧ rat s x y = q ∧ n ≤ k ∧ m ≤ k
/-- In normal form. -/
def RN (w : World) (s : Bool) (A : Option Addr) (n c : Nat) (B : Option Addr) (m d : Nat) (q : Rat) (k : Nat) : Prop :=
  s = decide (q.num < 0) ∧ Nrm w A n c (q.num.natAbs : Int) ∧ Nrm w B m d (q.den : Int) ∧ n ≤ k ∧ m ≤ k
section
variable {w w' : World} {s : Bool} {A B : Option Addr} {n c m d k j : Nat} {q p : Rat}
theorem Loose.below (h : Loose w s A n c B m d q k) (hb : Below w.heap.size w w') : Loose w' s A n c B m d q k := by
  obtain ⟨x, y, h1, h2, h3⟩ := h
  exact ⟨x, y, h1.below hb, h2.below hb, h3⟩
theorem Frac.below (h : Frac w s A n c B m d q k) (hb : Below w.heap.size w w') : Frac w' s A n c B m d q k := by
  obtain ⟨x, y, h1, h2, h3⟩ := h
  exact ⟨x, y, h1.below hb, h2.below hb, h3⟩
theorem RN.below (h : RN w s A n c B m d q k) (hb : Below w.heap.size w w') : RN w' s A n c B m d q k :=
  ⟨h.1, h.2.1.below hb, h.2.2.1.below hb, h.2.2.2⟩
theorem Loose.mono (h : Loose w s A n c B m d q k) (hk : k ≤ j) : Loose w s A n c B m d q j := by
  obtain ⟨x, y, h1, h2, h3, h4, h5⟩ := h
  exact ⟨x, y, h1, h2, h3, by omega, by omega⟩
theorem Frac.mono (h : Frac w s A n c B m d q k) (hk : k ≤ j) : Frac w s A n c B m d q j := by
  obtain ⟨x, y, h1, h2, h0, h3, h4, h5⟩ := h
  exact ⟨x, y, h1, h2, h0, h3, by omega, by omega⟩
theorem RN.mono (h : RN w s A n c B m d q k) (hk : k ≤ j) : RN w s A n c B m d q j :=
  ⟨h.1, h.2.1, h.2.2.1, by have := h.2.2.2; omega, by have := h.2.2.2; omega⟩
theorem RN.frac (h : RN w s A n c B m d q k) : Frac w s A n c B m d q k := by
  obtain ⟨rfl, h1, h2, h3, h4⟩ := h
  refine ⟨_, _, h1.num, h2.num, ?_, rat_self q, h3, h4⟩
  have := q.den_pos
  omega
theorem Frac.loose (h : Frac w s A n c B m d q k) : Loose w s A n c B m d q k := by
  obtain ⟨x, y, h1, h2, _, h3⟩ := h
  exact ⟨x, y, h1, h2, h3⟩
theorem RN.loose (h : RN w s A n c B m d q k) : Loose w s A n c B m d q k := h.frac.loose
theorem RN.cast (h : RN w s A n c B m d q k) (e : q = p) : RN w s A n c B m d p k := by subst e; exact h
theorem Frac.cast (h : Frac w s A n c B m d q k) (e : q = p) : Frac w s A n c B m d p k := by subst e; exact h
theorem Loose.cast (h : Loose w s A n c B m d q k) (e : q = p) : Loose w s A n c B m d p k := by subst e; exact h
end
def GivesR (w : World) (q : Rat) (k : Nat) (e : Ending) (w' : World) : Prop :=
  ∃ s A n c B m d, e = .returned (.agg #[.bool s, .slice A n c, .slice B m d]) ∧ RN w' s A n c B m d q k ∧ Off w.heap.size A ∧ Off w.heap.size B ∧ Below w.heap.size w w'

/-- Three cells of a block that are there stay in all that is made afterwards. -/
theorem three_cells {v : World} {g : Nat} {a b c : Value} (hg : g < v.heap.size) (h0 : v.cell? ⟨g, 0, none⟩ = some a) (h1 : v.cell? ⟨g, 1, none⟩ = some b) (h2 : v.cell? ⟨g, 2, none⟩ = some c) :
    ∀ W, Below v.heap.size v W → W.cell? ⟨g, 0, none⟩ = some a ∧ W.cell? ⟨g, 1, none⟩ = some b ∧ W.cell? ⟨g, 2, none⟩ = some c :=
  fun _ hb => ⟨(hb.cell (p := ⟨g, 0, none⟩) hg).trans h0, (hb.cell (p := ⟨g, 1, none⟩) hg).trans h1, (hb.cell (p := ⟨g, 2, none⟩) hg).trans h2⟩
theorem three_free {v : World} {g : Nat} (hg : g < v.heap.size) (h0 : ∀ i, v.frozen? ⟨g, i, none⟩ = false) :
    ∀ W, Below v.heap.size v W → W.frozen? ⟨g, 0, none⟩ = false ∧ W.frozen? ⟨g, 1, none⟩ = false ∧ W.frozen? ⟨g, 2, none⟩ = false :=
  fun _ hb => ⟨(hb.frozen (p := ⟨g, 0, none⟩) hg).trans (h0 0), (hb.frozen (p := ⟨g, 1, none⟩) hg).trans (h0 1), (hb.frozen (p := ⟨g, 2, none⟩) hg).trans (h0 2)⟩

theorem ediv_lt_pw {x G : Int} {k : Nat} (x0 : 0 ≤ x) (h : x < pw k) : x / G < pw k := Int.lt_of_le_of_lt (Int.ediv_le_self _ x0) h
theorem normal_end {w v1 wp wq w' : World} {gw k n m n5 c5 n6 c6 : Nat} {A B A5 A6 : Option Addr} {c d : Nat} {x y G : Int} {q : Rat} {s : Bool} (hb3 : Below w.heap.size w v1) (hgw : gw = w.heap.size) (hsz : gw + 1 < v1.heap.size)
    (hx : Num v1 A n c x) (hy : Num v1 B m d y) (hn : n ≤ k) (hm : m ≤ k)
    (ha : (q.num.natAbs : Int) = x / G) (hd : (q.den : Int) = y / G) (hs : decide (q.num < 0) = s) (h5 : Nrm wq A5 n5 c5 (x / G)) (ho5 : Off wp.heap.size A5) (hs5 : v1.heap.size ≤ wp.heap.size) (h56 : Below wq.heap.size wq w') (h6 : Nrm w' A6 n6 c6 (y / G)) (ho6 : Off wq.heap.size A6) (hs6 : v1.heap.size ≤ wq.heap.size) (hk : Below v1.heap.size v1 w') :
    RN (((w'.setCell ⟨gw + 1, 0, none⟩ (.bool s)).setCell ⟨gw + 1, 1, none⟩ (.slice A5 n5 c5)).setCell ⟨gw + 1, 2, none⟩ (.slice A6 n6 c6)) s A5 n5 c5 A6 n6 c6 q k ∧ Off w.heap.size A5 ∧ Off w.heap.size A6 ∧
      Below w.heap.size w (((w'.setCell ⟨gw + 1, 0, none⟩ (.bool s)).setCell ⟨gw + 1, 1, none⟩ (.slice A5 n5 c5)).setCell ⟨gw + 1, 2, none⟩ (.slice A6 n6 c6)) := by
  have l5 := h5.short (ediv_lt_pw (G := G) hx.nonneg (pw_up hx.lt hn))
  have l6 := h6.short (ediv_lt_pw (G := G) hy.nonneg (pw_up hy.lt hm))
  have hb0 := hb3.size
  refine ⟨⟨hs.symm, ?_, ?_, l5, l6⟩, ho5.mono (by omega), ho6.mono (by omega), ?_⟩
  · rw [ha]
    exact (h5.below h56).far3 (fun _ a e => by have := ho5 a e; omega) _ _ _ _ _ _
  · rw [hd]
    exact h6.far3 (fun _ a e => by have := ho6 a e; omega) _ _ _ _ _ _
  · exact (((nextB hb3 hk).setCell (by simp; omega) _).setCell (by simp; omega) _).setCell (by simp; omega) _

set_option maxHeartbeats 4000000 in
theorem normal_any {w : World} {s : Bool} {A B : Option Addr} {n c m d k : Nat} {q : Rat} (hl : Laid w) (h : Frac w s A n c B m d q k) (hk8 : k ≤ 800000) :
    Calls Tryz.prog 233 #[.agg #[.bool s, .slice A n c, .slice B m d]] w (GivesR w q k) := by
  obtain ⟨x, y, hx, hy, y0, hq, hn, hm⟩ := h
  have x0 := hx.nonneg
  have hb2 := ((Below.refl w.heap.size w).alloc (Nat.le_refl _) (.cells #[.bool s, .slice A n c, .slice B m d] 240)).alloc (by simp) (.cells #[.bool false, .slice none 0 0, .slice none 0 0] 50)
  have HGC := Lib.hid (gcd_n (hl.below hb2) (hx.below hb2) (hy.below hb2) (by omega) (by omega))
  have g0 := gcd_pos_of (x := x) y0
  have ha : Hid ((q.num.natAbs : Int) = x / (Int.gcd x y : Int)) := by show _ = _; rw [← hq]; exact rat_abs s x0 y0
  have hd : Hid ((q.den : Int) = y / (Int.gcd x y : Int)) := by show _ = _; rw [← hq]; exact rat_den s y0
  have hs : Hid (decide (q.num < 0) = (s && !decide (x = 0))) := by show _ = _; rw [← hq]; exact rat_neg s x0 y0
  generalize (Int.gcd x y : Int) = G at *
  have HQ := Lib.hid hq
  clear hq
  go_enter Tryz.func233, Tryz.ntmps233
  go_wp2_with fail
  refine HGC.out.mono ?_
  rintro e v1 ⟨A1, n1, c1, rfl, hG, hB⟩
  clear HGC
  have hb3 := nextB hb2 hB
  have hx1 := hx.below hb3
  have hy1 := hy.below hb3
  have hsz : w.heap.size + 1 < v1.heap.size := by have := hB.size; simp at this; omega
  have HC := Lib.hid (three_cells (v := v1) (g := w.heap.size) (a := .bool s) (b := .slice A n c) (c := .slice B m d) (by omega)
    (by rw [hB.cell (p := ⟨w.heap.size, 0, none⟩) (by simp; omega)]; simp) (by rw [hB.cell (p := ⟨w.heap.size, 1, none⟩) (by simp; omega)]; simp) (by rw [hB.cell (p := ⟨w.heap.size, 2, none⟩) (by simp; omega)]; simp))
  have HO := Lib.hid (three_cells (v := v1) (g := w.heap.size + 1) (a := .bool false) (b := .slice none 0 0) (c := .slice none 0 0) (by omega)
    (by rw [hB.cell (p := ⟨w.heap.size + 1, 0, none⟩) (by simp)]; simp) (by rw [hB.cell (p := ⟨w.heap.size + 1, 1, none⟩) (by simp)]; simp) (by rw [hB.cell (p := ⟨w.heap.size + 1, 2, none⟩) (by simp)]; simp))
  have HF := Lib.hid (three_free (v := v1) (g := w.heap.size + 1) (by omega) (fun i => by rw [hB.frozen (p := ⟨w.heap.size + 1, i, none⟩) (by simp)]; simp))
  have hG1 := hG.num
  obtain ⟨gw, hgw⟩ : ∃ gw, gw = w.heap.size := ⟨_, rfl⟩
  rw [← hgw] at HC HO HF hsz ⊢
  have HGW := Lib.hid hgw
  obtain ⟨c0, c1', c2'⟩ := HC.out v1 (Below.refl _ _)
  clear hb2 hx hy hB hgw
  have hk : Below v1.heap.size v1 v1.drew := (Below.refl _ _).drew
  cases s
  · go_wp2_with fail
    refine wp_region_held_drew (S := (fun W => W.cell? ⟨gw, 0, none⟩ = some (.bool false) ∧ W.cell? ⟨gw, 1, none⟩ = some (.slice A n c) ∧ W.cell? ⟨gw, 2, none⟩ = some (.slice B m d))) (by kernel_rfl) ?_ (fun hHeld => ?_)
    · exact HC.out _ hk
    refine wpAnyH_take (i := 0) (oi := ⟨some 11, _, _, _, _, _⟩) (v := ?_) rfl (by kernel_rfl) (by kernel_rfl) (by kernel_rfl) (fun _ _ _ h => h) (Or.inl ⟨by rfl, ?_⟩) (by assumption) ?_
    rotate_left
    · intro w hSw
      (try dsimp only at hSw)
      go_simp
      try with_reducible rfl
    try simp only [Act.put, List.setIfInBounds_toArray, List.set_cons_zero, List.set_cons_succ]
    refine wpAnyH_take (i := 1) (oi := ⟨some 12, _, _, _, _, _⟩) (v := ?_) rfl (by kernel_rfl) (by kernel_rfl) (by kernel_rfl) (fun _ _ _ h => h) (Or.inl ⟨by rfl, ?_⟩) (by assumption) ?_
    rotate_left
    · intro w hSw
      (try dsimp only at hSw)
      go_simp
      try with_reducible rfl
    try simp only [Act.put, List.setIfInBounds_toArray, List.set_cons_zero, List.set_cons_succ]
    refine wpAnyH_take (i := 2) (oi := ⟨some 13, _, _, _, _, _⟩) (v := ?_) rfl (by kernel_rfl) (by kernel_rfl) (by kernel_rfl) (fun _ _ _ h => h) (Or.inl ⟨by rfl, ?_⟩) (by assumption) ?_
    rotate_left
    · intro w hSw
      (try dsimp only at hSw)
      go_simp
      try with_reducible rfl
    try simp only [Act.put, List.setIfInBounds_toArray, List.set_cons_zero, List.set_cons_succ]
    refine wpAnyH_take (i := 3) (oi := ⟨some 14, _, _, _, _, _⟩) (v := ?_) rfl (by kernel_rfl) (by kernel_rfl) (by kernel_rfl) (fun _ _ _ h => h) (Or.inl ⟨by rfl, ?_⟩) (by assumption) ?_
    rotate_left
    · intro w hSw
      (try dsimp only at hSw)
      go_simp
      try with_reducible rfl
    try simp only [Act.put, List.setIfInBounds_toArray, List.set_cons_zero, List.set_cons_succ]
    refine wpAnyH_take (i := 10) (oi := ⟨some 21, _, _, _, _, _⟩) (v := ?_) rfl (by kernel_rfl) (by kernel_rfl) (by kernel_rfl) (fun _ _ _ h => h) (Or.inl ⟨by rfl, ?_⟩) (by assumption) ?_
    rotate_left
    · intro w hSw
      (try dsimp only at hSw)
      go_simp
      try with_reducible rfl
    try simp only [Act.put, List.setIfInBounds_toArray, List.set_cons_zero, List.set_cons_succ]
    refine wpAnyH_take (i := 11) (oi := ⟨some 22, _, _, _, _, _⟩) (v := ?_) rfl (by kernel_rfl) (by kernel_rfl) (by kernel_rfl) (fun _ _ _ h => h) (Or.inl ⟨by rfl, ?_⟩) (by assumption) ?_
    rotate_left
    · intro w hSw
      (try dsimp only at hSw)
      go_simp
      try with_reducible rfl
    try simp only [Act.put, List.setIfInBounds_toArray, List.set_cons_zero, List.set_cons_succ]
    refine wpAnyH_take (i := 12) (oi := ⟨some 23, _, _, _, _, _⟩) (v := ?_) rfl (by kernel_rfl) (by kernel_rfl) (by kernel_rfl) (fun _ _ _ h => h) (Or.inl ⟨by rfl, ?_⟩) (by assumption) ?_
    rotate_left
    · intro w hSw
      (try dsimp only at hSw)
      go_simp
      try with_reducible rfl
    try simp only [Act.put, List.setIfInBounds_toArray, List.set_cons_zero, List.set_cons_succ]
    refine wpAnyH_take (i := 13) (oi := ⟨some 24, _, _, _, _, _⟩) (v := ?_) rfl (by kernel_rfl) (by kernel_rfl) (by kernel_rfl) (fun _ _ _ h => h) (Or.inl ⟨by rfl, ?_⟩) (by assumption) ?_
    rotate_left
    · intro w hSw
      (try dsimp only at hSw)
      go_simp
      try with_reducible rfl
    try simp only [Act.put, List.setIfInBounds_toArray, List.set_cons_zero, List.set_cons_succ]
    refine wpAnyH_take (i := 15) (oi := ⟨some 26, _, _, _, _, _⟩) (v := ?_) rfl (by kernel_rfl) (by kernel_rfl) (by kernel_rfl) (fun _ _ _ h => h) (Or.inl ⟨by rfl, ?_⟩) (by assumption) ?_
    rotate_left
    · intro w hSw
      (try dsimp only at hSw)
      go_simp
      try with_reducible rfl
    try simp only [Act.put, List.setIfInBounds_toArray, List.set_cons_zero, List.set_cons_succ]
    refine wpAnyH_take (i := 16) (oi := ⟨some 27, _, _, _, _, _⟩) (v := ?_) rfl (by kernel_rfl) (by kernel_rfl) (by kernel_rfl) (fun _ _ _ h => h) (Or.inl ⟨by rfl, ?_⟩) (by assumption) ?_
    rotate_left
    · intro w hSw
      (try dsimp only at hSw)
      go_simp
      try with_reducible rfl
    try simp only [Act.put, List.setIfInBounds_toArray, List.set_cons_zero, List.set_cons_succ]
    refine wpAnyH_take (i := 17) (oi := ⟨some 28, _, _, _, _, _⟩) (v := ?_) rfl (by kernel_rfl) (by kernel_rfl) (by kernel_rfl) (fun _ _ _ h => h) (Or.inl ⟨by rfl, ?_⟩) (by assumption) ?_
    rotate_left
    · intro w hSw
      (try dsimp only at hSw)
      go_simp
      try with_reducible rfl
    try simp only [Act.put, List.setIfInBounds_toArray, List.set_cons_zero, List.set_cons_succ]
    refine wpAnyH_take (i := 18) (oi := ⟨some 29, _, _, _, _, _⟩) (v := ?_) rfl (by kernel_rfl) (by kernel_rfl) (by kernel_rfl) (fun _ _ _ h => h) (Or.inl ⟨by rfl, ?_⟩) (by assumption) ?_
    rotate_left
    · intro w hSw
      (try dsimp only at hSw)
      go_simp
      try with_reducible rfl
    try simp only [Act.put, List.setIfInBounds_toArray, List.set_cons_zero, List.set_cons_succ]
    refine wpAnyH_take (i := 4) (oi := ⟨some 15, _, _, _, _, _⟩) (v := undef) rfl (by kernel_rfl) (by kernel_rfl) (by kernel_rfl) (fun _ _ _ h => h) (Or.inr ⟨by rfl, rfl⟩) (by assumption) ?_
    try simp only [Act.put, List.setIfInBounds_toArray, List.set_cons_zero, List.set_cons_succ]
    refine wpAnyH_take (i := 5) (oi := ⟨some 16, _, _, _, _, _⟩) (v := undef) rfl (by kernel_rfl) (by kernel_rfl) (by kernel_rfl) (fun _ _ _ h => h) (Or.inr ⟨by rfl, rfl⟩) (by assumption) ?_
    try simp only [Act.put, List.setIfInBounds_toArray, List.set_cons_zero, List.set_cons_succ]
    refine wpAnyH_take (i := 6) (oi := ⟨some 17, _, _, _, _, _⟩) (v := undef) rfl (by kernel_rfl) (by kernel_rfl) (by kernel_rfl) (fun _ _ _ h => h) (Or.inr ⟨by rfl, rfl⟩) (by assumption) ?_
    try simp only [Act.put, List.setIfInBounds_toArray, List.set_cons_zero, List.set_cons_succ]
    refine wpAnyH_take (i := 7) (oi := ⟨some 18, _, _, _, _, _⟩) (v := undef) rfl (by kernel_rfl) (by kernel_rfl) (by kernel_rfl) (fun _ _ _ h => h) (Or.inr ⟨by rfl, rfl⟩) (by assumption) ?_
    try simp only [Act.put, List.setIfInBounds_toArray, List.set_cons_zero, List.set_cons_succ]
    refine wpAnyH_take (i := 8) (oi := ⟨some 19, _, _, _, _, _⟩) (v := undef) rfl (by kernel_rfl) (by kernel_rfl) (by kernel_rfl) (fun _ _ _ h => h) (Or.inr ⟨by rfl, rfl⟩) (by assumption) ?_
    try simp only [Act.put, List.setIfInBounds_toArray, List.set_cons_zero, List.set_cons_succ]
    refine wpAnyH_take (i := 9) (oi := ⟨some 20, _, _, _, _, _⟩) (v := ?_) rfl (by kernel_rfl) (by kernel_rfl) (by kernel_rfl) (fun _ _ _ h => h) (Or.inl ⟨by rfl, ?_⟩) (by assumption) ?_
    rotate_left
    · intro w hSw
      (try dsimp only at hSw)
      go_simp
      try with_reducible rfl
    try simp only [Act.put, List.setIfInBounds_toArray, List.set_cons_zero, List.set_cons_succ]
    refine wpAnyH_ready (rs := [14]) (by kernel_rfl) (by simp) ?_
    refine AllReadyH.cons (o := ⟨some 25, _, _, _, _, _⟩) rfl (fun K hK => ?_) AllReadyH.nil
    go_simp
    go_at_call 245
    refine (quotient_n (hx1.below hk) (hG1.below hk) (by omega) (by omega)).mono ?_
    rintro e w' ⟨A5, n5, c5, rfl, hq5, ho5, hB5⟩
    have hsz5 := hk.size
    have hkk5 := hk
    replace hk := nextB hk hB5
    go_wp2_with fail
    refine hK.out _ _ (HC.out _ hk) (fun hHeld => ?_)
    clear hK K
    try simp only [Act.put, List.setIfInBounds_toArray, List.set_cons_zero, List.set_cons_succ]
    refine wpAnyH_ready (rs := [19]) (by kernel_rfl) (by simp) ?_
    refine AllReadyH.cons (o := ⟨some 30, _, _, _, _, _⟩) rfl (fun K hK => ?_) AllReadyH.nil
    go_simp
    go_at_call 245
    refine (quotient_n (hy1.below hk) (hG1.below hk) (by omega) (by omega)).mono ?_
    rintro e w' ⟨A6, n6, c6, rfl, hq6, ho6, hB6⟩
    have hsz6 := hk.size
    replace hk := nextB hk hB6
    obtain ⟨o0, o1, o2⟩ := HO.out _ hk
    obtain ⟨f0, f1, f2⟩ := HF.out _ hk
    go_wp2_with fail
    refine hK.out _ _ (HC.out _ hk) (fun hHeld => ?_)
    clear hK K
    try simp only [Act.put, List.setIfInBounds_toArray, List.set_cons_zero, List.set_cons_succ]
    refine wpAnyH_take (i := 20) (oi := ⟨some 31, _, _, _, _, _⟩) (v := ?_) rfl (by kernel_rfl) (by kernel_rfl) (by kernel_rfl) (fun _ _ _ h => h) (Or.inl ⟨by rfl, ?_⟩) (by assumption) ?_
    rotate_left
    · intro w hSw
      (try dsimp only at hSw)
      go_simp
      try with_reducible rfl
    try simp only [Act.put, List.setIfInBounds_toArray, List.set_cons_zero, List.set_cons_succ]
    refine wpAnyH_ready (rs := [21]) (by kernel_rfl) (by simp) ?_
    refine AllReadyH.cons (o := ⟨none, _, _, _, _, _⟩) rfl (fun K hK => ?_) AllReadyH.nil
    go_simp
    refine hK.out _ _ (by go_keep) (fun hHeld => ?_)
    clear hK K
    try simp only [Act.put, List.setIfInBounds_toArray, List.set_cons_zero, List.set_cons_succ]
    refine wpAnyH_done (by kernel_rfl) ?_ _
    go_wp2
    exact bodyPost_ret (v := .agg #[.bool false, .slice A5 n5 c5, .slice A6 n6 c6]) (by simp [results, Tryz.results233, go_sem, o0, o1, o2]) rfl ⟨_, _, _, _, _, _, _, rfl, normal_end hb3 HGW.out hsz hx1 hy1 hn hm ha.out hd.out hs.out hq5 ho5 hsz5 hB6 hq6 ho6 hsz6 hk⟩
  · go_wp2_with fail
    go_region_held3 (fun W => W.cell? ⟨gw, 0, none⟩ = some (.bool true) ∧ W.cell? ⟨gw, 1, none⟩ = some (.slice A n c) ∧ W.cell? ⟨gw, 2, none⟩ = some (.slice B m d)) (first | exact HC.out _ hk | go_keep)
      (first
        | (go_at_call 232; refine (isZero_b (hx1.below hk)).mono ?_; rintro e w' ⟨rfl, hB4⟩; have hk := nextB hk hB4)
        | (go_at_call_of 245 B; refine (quotient_n (hy1.below hk) (hG1.below hk) (by omega) (by omega)).mono ?_; rintro e w' ⟨A6, n6, c6, rfl, hq6, ho6, hB6⟩; have hsz6 := hk.size; have hk := nextB hk hB6; obtain ⟨o0, o1, o2⟩ := HO.out _ hk; obtain ⟨f0, f1, f2⟩ := HF.out _ hk)
        | (go_at_call_of 245 A; refine (quotient_n (hx1.below hk) (hG1.below hk) (by omega) (by omega)).mono ?_; rintro e w' ⟨A5, n5, c5, rfl, hq5, ho5, hB5⟩; have hsz5 := hk.size; have hk := nextB hk hB5; obtain ⟨o0, o1, o2⟩ := HO.out _ hk; obtain ⟨f0, f1, f2⟩ := HF.out _ hk))
    all_goals
      go_wp2
      exact bodyPost_ret (v := .agg #[.bool (!decide (x = 0)), .slice A5 n5 c5, .slice A6 n6 c6]) (by simp [results, Tryz.results233, go_sem, o0, o1, o2]) rfl ⟨_, _, _, _, _, _, _, rfl, normal_end hb3 HGW.out hsz hx1 hy1 hn hm ha.out hd.out hs.out hq5 ho5 hsz5 hB6 hq6 ho6 hsz6 hk⟩
end Go.Proofs.YtggdhgppclnckaaGreatDoor.Q
namespace Go.Proofs.YtggdhgppclnckaaGreatDoor.Q
open Go.RowKit
set_option maxRecDepth 20000

end Go.Proofs.YtggdhgppclnckaaGreatDoor.Q
