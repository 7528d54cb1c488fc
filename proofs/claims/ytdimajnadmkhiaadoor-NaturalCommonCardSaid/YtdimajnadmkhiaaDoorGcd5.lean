/-
  natural.reduce: two numbers with the same greatest common divisor, of which the second one fits into a word.
-/
import Derived.Test.YtdimajnadmkhiaaDoorGcd4
namespace Go.Proofs.YtdimajnadmkhiaaDoor
open Go.RowKit

theorem Laid.under {w w' : World} {base : Nat} (h : Laid w) (hb : Below base w w') (hg : 0 < base) : Laid w' :=
  ⟨Nat.lt_of_lt_of_le h.size hb.size, (hb.cell (p := ⟨_, 0, none⟩) hg).trans h.c0, (hb.cell (p := ⟨_, 1, none⟩) hg).trans h.c1, (hb.cell (p := ⟨_, 2, none⟩) hg).trans h.c2, (hb.cell (p := ⟨_, 3, none⟩) hg).trans h.c3⟩

/-- The number that a slice's limbs stand for, read from the world. -/
def valOf (w : World) : Value → Nat
  | .slice (some ad) n _ => (val ((List.range n).map fun i => match w.cell? (ad.add i) with | some (.int _ x) => x | _ => 0)).toNat
  | _ => 0
theorem valOf_rd {w : World} {A : Option Addr} {n c : Nat} {L : List Int} (h : Rd w A n c L) : valOf w (.slice A n c) = (val L).toNat := by
  rcases Nat.eq_zero_or_pos n with h0 | h0
  · have hl : L = [] := List.eq_nil_of_length_eq_zero (by rw [h.len, h0])
    subst h0
    subst hl
    cases A <;> rfl
  · obtain ⟨ad, rfl, _, hc⟩ := h.at_ h0
    show (val _).toNat = _
    congr 2
    apply List.ext_getElem
    · simp [h.len]
    · intro i h1 h2
      have h3 : i < n := by simpa using h1
      rw [List.getElem_map, List.getElem_range, hc i h3, getD_of_lt L i h2]

theorem mod_one {P a b q : Int} (_hP : 0 < P) (a0 : 0 ≤ a) (a1 : a < P) (b0 : 0 ≤ b) (b1 : b < P) (e : a + P * q = b) : a = b := by
  have h1 : b % P = a := by rw [← e, Int.add_mul_emod_self_left, Int.emod_eq_of_lt a0 a1]
  rw [← h1, Int.emod_eq_of_lt b0 b1]

theorem opp_lem {A B σ p0 m0 p1 m1 : Int} (h : Lem A B σ p0 m0 p1 m1) : Opp (σ * p0) (-(σ * m0)) ∧ Opp (-(σ * p1)) (σ * m1) := by
  have := h.p0n; have := h.m0n; have := h.p1n; have := h.m1n; have := h.p1m; have := h.m0m; have := h.p0m; have := h.top
  unfold Opp
  rcases h.sg with s | s <;> rw [s] <;> constructor <;> refine ⟨by omega, by omega, by omega, by omega, by omega⟩

/-- A step that is not the empty one, applied to the limbs: the two new numbers. -/
theorem apply_end {L M S T : List Int} {m : Nat} {f g σ p0 m0 p1 m1 K : Int} (hK : 0 < K) (h : Lem (val L / K) (val M / K) σ p0 m0 p1 m1) (hno : ¬ (σ * p0 = 1 ∧ -(σ * m0) = 0 ∧ -(σ * p1) = 0 ∧ σ * m1 = 1))
    (_hL : Lims L) (hM : Lims M) (hS : Lims S) (hT : Lims T) (lM : M.length = m) (lT : T.length = m) (lS : m ≤ S.length) (lL : m ≤ L.length) (hle : val M ≤ val L)
    (hF : val (S.take m) + pw m * f = σ * p0 * val (L.take m) + -(σ * m0) * val M) (hG : val T + pw m * g = -(σ * p1) * val (L.take m) + σ * m1 * val M) :
    val T < val (S.take m) ∧ val (S.take m) ≤ val M ∧ Int.gcd (val (S.take m)) (val T) = Int.gcd (val L) (val M) := by
  have ea := Int.mul_ediv_add_emod (val L) K
  have eb := Int.mul_ediv_add_emod (val M) K
  rw [Int.mul_comm] at ea eb
  have a0 := Int.emod_nonneg (val L) (show K ≠ 0 by omega)
  have a1 := Int.emod_lt_of_pos (val L) hK
  have b0 := Int.emod_nonneg (val M) (show K ≠ 0 by omega)
  have b1 := Int.emod_lt_of_pos (val M) hK
  have hre := h.real K (val L % K) (val M % K) hK a0 a1 b0 b1 (by rw [ea, eb]; exact hle)
  rcases h.first with ⟨x0, x1, x2, x3, x4⟩ | ⟨_, hf⟩
  · exfalso; apply hno; rw [x0, x1, x2, x3, x4]; simp
  have hfi := hf K (val L % K) (val M % K) hK a0 a1 b0 b1 (by rw [ea, eb]; exact hle)
  rw [ea, eb] at hre hfi
  have hsp := val_split L m
  rw [List.length_take_of_le lL] at hsp
  have p := pw_pos m
  have s0 := val_nonneg (hS.take m)
  have s1 := val_lt (hS.take m)
  rw [List.length_take_of_le lS] at s1
  have t0 := val_nonneg hT
  have t1 := val_lt hT
  have m1' := val_lt hM
  rw [lT] at t1
  rw [lM] at m1'
  have eF : val (S.take m) = σ * (p0 * val L - m0 * val M) := by
    have e : val (S.take m) + pw m * (f + σ * p0 * val (L.drop m)) = σ * (p0 * val L - m0 * val M) := by rw [hsp]; grind
    exact mod_one p s0 s1 (by omega) (by omega) e
  have eG : val T = σ * (m1 * val M - p1 * val L) := by
    have e : val T + pw m * (g - σ * p1 * val (L.drop m)) = σ * (m1 * val M - p1 * val L) := by rw [hsp]; grind
    exact mod_one p t0 t1 (by omega) (by omega) e
  refine ⟨by rw [eF, eG]; exact hfi.2, by rw [eF]; exact hfi.1, ?_⟩
  have hc := gcd_combo (a := val L) (b := val M) (u0 := σ * p0) (v0 := -(σ * m0)) (u1 := -(σ * p1)) (v1 := σ * m1) (by
    have e : σ * p0 * (σ * m1) - -(σ * p1) * -(σ * m0) = σ * σ * (p0 * m1 - p1 * m0) := by grind
    rw [e]
    rcases h.sg with s | s <;> rw [s] <;> simpa using h.det)
  rw [← hc, eF, eG]
  congr 1 <;> grind

end Go.Proofs.YtdimajnadmkhiaaDoor
