/-
  Plain facts for the long division: shifting a list of limbs, guessing a limb of the quotient, subtracting a multiple, adding back. No program is named here.
-/
import Derived.Test.YtdimajnadmkhiaaDoorNum
import Derived.Lib.BitFns
namespace Go.Proofs.YtdimajnadmkhiaaDoor

theorem le_mul {a b c : Int} (h : a ≤ b) (hc : 0 ≤ c) : a * c ≤ b * c := Int.mul_le_mul_of_nonneg_right h hc
theorem le_mul' {a b c : Int} (h : a ≤ b) (hc : 0 ≤ c) : c * a ≤ c * b := Int.mul_le_mul_of_nonneg_left h hc

/-- The number of binary digits: between which powers of two a number lies. -/
theorem bits_between (f : Nat) : ∀ x, 0 < x → x < 2 ^ f → x < 2 ^ Lib.bitLenAux f x ∧ 2 ^ Lib.bitLenAux f x ≤ 2 * x := by
  induction f with
  | zero => intro x h0 h1; simp at h1; omega
  | succ f ih =>
    intro x h0 h1
    have e : Lib.bitLenAux (f + 1) x = 1 + Lib.bitLenAux f (x / 2) := by rw [Lib.bitLenAux, if_neg (by omega)]
    rw [e, Nat.add_comm, Nat.pow_succ]
    rcases Nat.eq_zero_or_pos (x / 2) with h | h
    · have h2 : Lib.bitLenAux f (x / 2) = 0 := by
        rw [h]
        cases f with
        | zero => rfl
        | succ f => rw [Lib.bitLenAux, if_pos rfl]
      rw [h2]; omega
    · have := ih (x / 2) h (by rw [Nat.pow_succ] at h1; omega)
      omega
/-- The shift that sets the top bit of a limb. -/
theorem top_shift {d : Int} {s : Nat} (d0 : 0 < d) (d1 : d < 4294967296) (hs : (s : Int) = 32 - (Lib.bitLen d.toNat : Int)) : s ≤ 31 ∧ 2147483648 ≤ d * 2 ^ s ∧ d * 2 ^ s < 4294967296 := by
  obtain ⟨n, rfl⟩ := Int.eq_ofNat_of_zero_le (Int.le_of_lt d0)
  have h := bits_between 64 n (by omega) (by omega)
  rw [Int.toNat_natCast] at hs
  change n < 2 ^ Lib.bitLen n ∧ 2 ^ Lib.bitLen n ≤ 2 * n at h
  have hb : Lib.bitLen n ≤ 32 := Lib.bitLen_le n 32 (by decide) (by omega)
  have hb0 : Lib.bitLen n ≠ 0 := by intro h0; rw [h0] at h; simp at h; omega
  generalize Lib.bitLen n = k at *
  have hsk : s = 32 - k := by omega
  have e : 2 ^ k * 2 ^ s = 4294967296 := by
    rw [← Nat.pow_add, hsk, show k + (32 - k) = 32 from by omega]
  have h1 : n * 2 ^ s < 2 ^ k * 2 ^ s := Nat.mul_lt_mul_of_pos_right h.1 (Nat.pow_pos (by decide))
  have h2 : 2 ^ k * 2 ^ s ≤ 2 * n * 2 ^ s := Nat.mul_le_mul_right _ h.2
  rw [Nat.mul_assoc] at h2
  rw [e] at h1 h2
  have c : (n : Int) * 2 ^ s = ((n * 2 ^ s : Nat) : Int) := by simp
  rw [c]
  omega

section
/- f, s: the first two limbs of the divisor; t: the first two limbs of the window; u: the third; P: the weight of what is below. -/
variable {f s dl t u wl P g r : Int}
theorem guess_top (s1 : s < 4294967296) (u0 : 0 ≤ u) (P0 : 0 < P) (d1 : dl < P) (w0 : 0 ≤ wl)
    (h : (t * 4294967296 + u) * P + wl < ((f * 4294967296 + s) * P + dl) * 4294967296) : t < (f + 1) * 4294967296 := by
  rcases Int.lt_or_le t ((f + 1) * 4294967296) with h1 | h1
  · exact h1
  · exfalso
    have h2 : ((f + 1) * 4294967296 * 4294967296) * P ≤ (t * 4294967296 + u) * P := le_mul (by omega) (by omega)
    have h3 : ((f * 4294967296 + s) + 1) * P ≤ ((f + 1) * 4294967296) * P := le_mul (by omega) (by omega)
    have e1 : ((f + 1) * 4294967296 * 4294967296) * P = (((f + 1) * 4294967296) * P) * 4294967296 := by grind
    have e2 : ((f * 4294967296 + s) + 1) * P = (f * 4294967296 + s) * P + P := by grind
    omega
theorem guess_high (g0 : 0 ≤ g) (P0 : 0 < P) (d0 : 0 ≤ dl) (w1 : wl < P) (e : g * f + r = t) (h : r * 4294967296 + u < g * s) :
    (t * 4294967296 + u) * P + wl < g * ((f * 4294967296 + s) * P + dl) := by
  have h1 : (t * 4294967296 + u + 1) * P ≤ (g * f * 4294967296 + g * s) * P := le_mul (by omega) (by omega)
  have h2 : 0 ≤ g * dl := Int.mul_nonneg g0 d0
  have e1 : g * ((f * 4294967296 + s) * P + dl) = (g * f * 4294967296 + g * s) * P + g * dl := by grind
  have e2 : (t * 4294967296 + u + 1) * P = (t * 4294967296 + u) * P + P := by grind
  omega
theorem guess_over {V W : Int} (hV : 0 < V) (h : W < V * 4294967296) (hg : 4294967296 ≤ g) : W < g * V := by
  have : 4294967296 * V ≤ g * V := le_mul hg (by omega)
  omega
theorem guess_end (f0 : 1 ≤ f) (s0 : 0 ≤ s) (s1 : s < 4294967296) (u0 : 0 ≤ u) (P0 : 0 < P) (d0 : 0 ≤ dl) (d1 : dl < P) (w0 : 0 ≤ wl) (t0 : 0 ≤ t) (g0 : 0 ≤ g) (g1 : g < 4294967296) (e : g * f + r = t)
    (h : 4294967296 ≤ r ∨ g * s ≤ r * 4294967296 + u) : (g - 1) * ((f * 4294967296 + s) * P + dl) ≤ (t * 4294967296 + u) * P + wl := by
  have hgs : g * s ≤ r * 4294967296 + u := by
    rcases h with h | h
    · have : g * s ≤ 4294967295 * s := le_mul (by omega) s0
      omega
    · exact h
  have hW : 0 ≤ (t * 4294967296 + u) * P := Int.mul_nonneg (by omega) (by omega)
  rcases Int.lt_or_le g 1 with h1 | h1
  · have hg : g = 0 := by omega
    subst hg
    have hV : 0 ≤ (f * 4294967296 + s) * P := Int.mul_nonneg (by omega) (by omega)
    omega
  · have h2 : (g - 1) * ((f * 4294967296 + s) * P + dl) ≤ (g - 1) * ((f * 4294967296 + s) * P + P) := le_mul' (by omega) (by omega)
    have e1 : (g - 1) * ((f * 4294967296 + s) * P + P) = (g * f * 4294967296 + g * s - f * 4294967296 - s + g - 1) * P := by grind
    have h3 : (g * f * 4294967296 + g * s - f * 4294967296 - s + g - 1) * P ≤ (t * 4294967296 + u) * P := le_mul (by omega) (by omega)
    omega
end

/-- One round of the subtraction of a multiple. -/
theorem subMul_step {Z R D : List Int} {i k : Nat} {t c b d z : Int} (hk : i + k < Z.length) (hz : R.getD (i + k) 0 = z) (hd : D.getD k 0 = d)
    (z0 : 0 ≤ z ∧ z < 4294967296) (b0 : 0 ≤ b ∧ b < 2) (pt : Int) (hpt : pt = pw i * t)
    (h : val (Z.take (i + k)) + pt * val (D.take k) = val (R.take (i + k)) + pw (i + k) * (c + b)) :
    val ((Z.set (i + k) ((z - (d * t + 0 + c) % 4294967296 - b) % 4294967296)).take (i + (k + 1))) + pt * val (D.take (k + 1)) =
      val (R.take (i + (k + 1))) + pw (i + (k + 1)) * ((d * t + 0 + c) / 4294967296 + borrowOf z ((d * t + 0 + c) % 4294967296) b) := by
  have hlo : 0 ≤ (d * t + 0 + c) % 4294967296 ∧ (d * t + 0 + c) % 4294967296 < 4294967296 := by omega
  have hbo := borrowOf_eq z _ b z0.1 z0.2 hlo.1 hlo.2 b0.1 b0.2
  have e : d * t + 0 + c = (d * t + 0 + c) % 4294967296 + 4294967296 * ((d * t + 0 + c) / 4294967296) := by omega
  rw [← Nat.add_assoc, val_set_take Z _ _ hk, val_take_getD R, val_take_getD D, hz, hd, pw_succ, hbo]
  generalize borrowOf z ((d * t + 0 + c) % 4294967296) b = b' at *
  generalize (d * t + 0 + c) % 4294967296 = lo at *
  generalize (d * t + 0 + c) / 4294967296 = hi at *
  rw [pw_add] at *
  subst hpt
  have e2 : pw i * pw k * (d * t + 0 + c) = pw i * pw k * (lo + 4294967296 * hi) := by rw [e]
  grind
theorem subMul_last {Z R D : List Int} {i n : Nat} {c b z pt : Int} (hk : i + n < Z.length) (hz : R.getD (i + n) 0 = z) (z0 : 0 ≤ z ∧ z < 4294967296) (c0 : 0 ≤ c ∧ c < 4294967296) (b0 : 0 ≤ b ∧ b < 2) (hD : D.length = n)
    (h : val (Z.take (i + n)) + pt * val (D.take n) = val (R.take (i + n)) + pw (i + n) * (c + b)) :
    val ((Z.set (i + n) ((z - c - b) % 4294967296)).take (i + n + 1)) + pt * val D = val (R.take (i + n + 1)) + pw (i + n + 1) * borrowOf z c b := by
  have hbo := borrowOf_eq z c b z0.1 z0.2 c0.1 c0.2 b0.1 b0.2
  rw [List.take_of_length_le (l := D) (by omega)] at h
  rw [val_set_take Z _ _ hk, val_take_getD R, hz, pw_succ, hbo]
  generalize borrowOf z c b = b' at *
  grind
theorem addBack_step {Z R D : List Int} {i k : Nat} {c d z : Int} (hk : i + k < Z.length) (hz : R.getD (i + k) 0 = z) (hd : D.getD k 0 = d)
    (h : val (Z.take (i + k)) + pw (i + k) * c = val (R.take (i + k)) + pw i * val (D.take k)) :
    val ((Z.set (i + k) ((z + d + c) % 4294967296)).take (i + (k + 1))) + pw (i + (k + 1)) * ((z + d + c) / 4294967296) = val (R.take (i + (k + 1))) + pw i * val (D.take (k + 1)) := by
  have e : z + d + c = (z + d + c) % 4294967296 + 4294967296 * ((z + d + c) / 4294967296) := by omega
  rw [← Nat.add_assoc, val_set_take Z _ _ hk, val_take_getD R, val_take_getD D, hz, hd, pw_succ]
  generalize (z + d + c) % 4294967296 = lo at *
  generalize (z + d + c) / 4294967296 = hi at *
  rw [pw_add] at *
  have e2 : pw i * pw k * (z + d + c) = pw i * pw k * (lo + 4294967296 * hi) := by rw [e]
  grind
theorem addBack_last {Z R D : List Int} {i n : Nat} {c z : Int} (hk : i + n < Z.length) (hz : R.getD (i + n) 0 = z) (hD : D.length = n)
    (h : val (Z.take (i + n)) + pw (i + n) * c = val (R.take (i + n)) + pw i * val (D.take n)) :
    val ((Z.set (i + n) ((z + c) % 4294967296)).take (i + n + 1)) + pw (i + n + 1) * ((z + c) / 4294967296) = val (R.take (i + n + 1)) + pw i * val D := by
  have e : z + c = (z + c) % 4294967296 + 4294967296 * ((z + c) / 4294967296) := by omega
  rw [List.take_of_length_le (l := D) (by omega)] at h
  rw [val_set_take Z _ _ hk, val_take_getD R, hz, pw_succ]
  generalize (z + c) % 4294967296 = lo at *
  generalize (z + c) / 4294967296 = hi at *
  have e2 : pw (i + n) * (z + c) = pw (i + n) * (lo + 4294967296 * hi) := by rw [e]
  grind

/-- One round of a shift to the left. -/
theorem shl_step {S L : List Int} {k : Nat} {l h q : Int} (hk : k + 1 < S.length) (hl : L.getD k 0 = l) (hh : S.getD k 0 = h)
    (hv : val (S.take (k + 1)) = val (L.take k) * q) :
    val (((S.set k (h + l * q % 4294967296)).set (k + 1) (l * q / 4294967296)).take (k + 1 + 1)) = val (L.take (k + 1)) * q := by
  have e : l * q = l * q % 4294967296 + 4294967296 * (l * q / 4294967296) := by omega
  rw [val_set_take _ (k + 1) _ (by simpa using hk), val_set_take _ k _ (by omega), val_take_getD L, hl, pw_succ]
  rw [val_take_getD, hh] at hv
  generalize l * q % 4294967296 = lo at *
  generalize l * q / 4294967296 = hi at *
  have e2 : pw k * (l * q) = pw k * (lo + 4294967296 * hi) := by rw [e]
  grind
/-- One round of a shift to the right, from the top. -/
theorem shr_step {S L : List Int} {j : Nat} {l a q : Int} (hS : j < S.length) (hL : j < L.length) (hl : L.getD j 0 = l) (l0 : 0 ≤ l ∧ l < 4294967296) (q0 : 0 < q) (m : Int) (hq : q * m = 4294967296)
    (ha : a = val (L.drop (j + 1)) % 4294967296) (hv : val (S.drop (j + 1)) = val (L.drop (j + 1)) / q) :
    val ((S.set j ((a * 4294967296 + l) / q % 4294967296)).drop j) = val (L.drop j) / q := by
  rw [List.drop_eq_getElem_cons (l := S.set j _) (by simpa using hS), val_cons, List.getElem_set_self, List.drop_set_of_lt (by omega), hv, List.drop_eq_getElem_cons (l := L) hL, val_cons, ← getD_of_lt L j hL, hl]
  generalize val (L.drop (j + 1)) = Y at *
  -- X = (l + B Y) / q : its last limb and the rest
  have h1 : (l + 4294967296 * Y) / q / 4294967296 = Y / q := by
    rw [Int.ediv_ediv_of_nonneg (by omega), Int.mul_comm q, ← Int.ediv_ediv_of_nonneg (by omega)]
    congr 1
    omega
  have h2 : (l + 4294967296 * Y) / q % 4294967296 = (a * 4294967296 + l) / q % 4294967296 := by
    have e : l + 4294967296 * Y = (a * 4294967296 + l) + q * (m * (4294967296 * (Y / 4294967296))) := by
      have : Y = a + 4294967296 * (Y / 4294967296) := by omega
      generalize Y / 4294967296 = Z at *
      have e3 : q * (m * (4294967296 * Z)) = (q * m) * (4294967296 * Z) := by grind
      rw [e3, hq]
      omega
    rw [e, Int.add_mul_ediv_left _ _ (by omega)]
    have e4 : m * (4294967296 * (Y / 4294967296)) = 4294967296 * (m * (Y / 4294967296)) := by grind
    rw [e4, Int.add_mul_emod_self_left]
  have h3 := Int.mul_ediv_add_emod ((l + 4294967296 * Y) / q) 4294967296
  rw [h1, h2] at h3
  omega

end Go.Proofs.YtdimajnadmkhiaaDoor
