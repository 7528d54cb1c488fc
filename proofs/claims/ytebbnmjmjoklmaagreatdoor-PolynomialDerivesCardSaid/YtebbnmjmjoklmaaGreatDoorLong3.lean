/-
  Plain facts for the long division: shifting a list of limbs, guessing a limb of the quotient, subtracting a multiple, adding back. No program is named here.
  natural.shiftLeft, shiftRight, subtractMultiple and addBack: what they return, and what they leave in the window that they write to.
  natural.guessLimb: the limb of the quotient of a window by a divisor whose top bit is set, or one more than it.
  natural.divideLong and natural.DivMod: for every two lists of limbs the quotient and the remainder.
-/
import Derived.Test.YtebbnmjmjoklmaaGreatDoorNum
import Derived.Lib.BitFns
import Derived.Test.YtebbnmjmjoklmaaGreatDoorLen
import Derived.Test.YtebbnmjmjoklmaaGreatDoorFmt
import Derived.Deep.RegionWith
namespace Go.Proofs.YtebbnmjmjoklmaaGreatDoor

theorem le_mul {a b c : Int} (h : a ≤ b) (hc : 0 ≤ c) : a * c ≤ b * c := Int.mul_le_mul_of_nonneg_right h hc
theorem le_mul' {a b c : Int} (h : a ≤ b) (hc : 0 ≤ c) : c * a ≤ c * b := Int.mul_le_mul_of_nonneg_left h hc

/-- The number of binary digits: between which powers of two a number lies. -/
theorem bits_between (f : Nat) : ∀ x, 0 < x → x < 2 ^ f → x < 2 ^ Lib.bitLenAux f x ∧ 2 ^ Lib.bitLenAux f x ≤ 2 * x := by
  induction f with
  | zero => intro x h0 h1; simp at h1; omega
  | succ f ih =>
    intro x h0 h1
    have e : Lib.bitLenAux (f + 1) x = 1 + Lib.bitLenAux f (x / 2) := by rw [Lib.bitLenAux, if_neg (by omega)]
    rw [e, Nat.add_comm, Nat.pow_succ]
    rcases Nat.eq_zero_or_pos (x / 2) with h | h
    · have h2 : Lib.bitLenAux f (x / 2) = 0 := by
        rw [h]
        cases f with
        | zero => rfl
        | succ f => rw [Lib.bitLenAux, if_pos rfl]
      rw [h2]; omega
    · have := ih (x / 2) h (by rw [Nat.pow_succ] at h1; omega)
      omega
/-- The shift that sets the top bit of a limb. -/
theorem top_shift {d : Int} {s : Nat} (d0 : 0 < d) (d1 : d < 4294967296) (hs : (s : Int) = 32 - (Lib.bitLen d.toNat : Int)) : s ≤ 31 ∧ 2147483648 ≤ d * 2 ^ s ∧ d * 2 ^ s < 4294967296 := by
  obtain ⟨n, rfl⟩ := Int.eq_ofNat_of_zero_le (Int.le_of_lt d0)
  have h := bits_between 64 n (by omega) (by omega)
  rw [Int.toNat_natCast] at hs
  change n < 2 ^ Lib.bitLen n ∧ 2 ^ Lib.bitLen n ≤ 2 * n at h
  have hb : Lib.bitLen n ≤ 32 := Lib.bitLen_le n 32 (by decide) (by omega)
  have hb0 : Lib.bitLen n ≠ 0 := by intro h0; rw [h0] at h; simp at h; omega
  generalize Lib.bitLen n = k at *
  have hsk : s = 32 - k := by omega
  have e : 2 ^ k * 2 ^ s = 4294967296 := by
    rw [← Nat.pow_add, hsk, show k + (32 - k) = 32 from by omega]
  have h1 : n * 2 ^ s < 2 ^ k * 2 ^ s := Nat.mul_lt_mul_of_pos_right h.1 (Nat.pow_pos (by decide))
  have h2 : 2 ^ k * 2 ^ s ≤ 2 * n * 2 ^ s := Nat.mul_le_mul_right _ h.2
  rw [Nat.mul_assoc] at h2
  rw [e] at h1 h2
  have c : (n : Int) * 2 ^ s = ((n * 2 ^ s : Nat) : Int) := by simp
  rw [c]
  omega

section
/- f, s: the first two limbs of the divisor; t: the first two limbs of the window; u: the third; P: the weight of what is below. -/
variable {f s dl t u wl P g r : Int}
theorem guess_top (s1 : s < 4294967296) (u0 : 0 ≤ u) (P0 : 0 < P) (d1 : dl < P) (w0 : 0 ≤ wl)
    (h : (t * 4294967296 + u) * P + wl < ((f * 4294967296 + s) * P + dl) * 4294967296) : t < (f + 1) * 4294967296 := by
  rcases Int.lt_or_le t ((f + 1) * 4294967296) with h1 | h1
  · exact h1
  · exfalso
    have h2 : ((f + 1) * 4294967296 * 4294967296) * P ≤ (t * 4294967296 + u) * P := le_mul (by omega) (by omega)
    have h3 : ((f * 4294967296 + s) + 1) * P ≤ ((f + 1) * 4294967296) * P := le_mul (by omega) (by omega)
    have e1 : ((f + 1) * 4294967296 * 4294967296) * P = (((f + 1) * 4294967296) * P) * 4294967296 := by grind
    have e2 : ((f * 4294967296 + s) + 1) * P = (f * 4294967296 + s) * P + P := by grind
    omega
theorem guess_high (g0 : 0 ≤ g) (P0 : 0 < P) (d0 : 0 ≤ dl) (w1 : wl < P) (e : g * f + r = t) (h : r * 4294967296 + u < g * s) :
    (t * 4294967296 + u) * P + wl < g * ((f * 4294967296 + s) * P + dl) := by
  have h1 : (t * 4294967296 + u + 1) * P ≤ (g * f * 4294967296 + g * s) * P := le_mul (by omega) (by omega)
  have h2 : 0 ≤ g * dl := Int.mul_nonneg g0 d0
  have e1 : g * ((f * 4294967296 + s) * P + dl) = (g * f * 4294967296 + g * s) * P + g * dl := by grind
  have e2 : (t * 4294967296 + u + 1) * P = (t * 4294967296 + u) * P + P := by grind
  omega
theorem guess_over {V W : Int} (hV : 0 < V) (h : W < V * 4294967296) (hg : 4294967296 ≤ g) : W < g * V := by
  have : 4294967296 * V ≤ g * V := le_mul hg (by omega)
  omega
theorem guess_end (f0 : 1 ≤ f) (s0 : 0 ≤ s) (s1 : s < 4294967296) (u0 : 0 ≤ u) (P0 : 0 < P) (d0 : 0 ≤ dl) (d1 : dl < P) (w0 : 0 ≤ wl) (t0 : 0 ≤ t) (g0 : 0 ≤ g) (g1 : g < 4294967296) (e : g * f + r = t)
    (h : 4294967296 ≤ r ∨ g * s ≤ r * 4294967296 + u) : (g - 1) * ((f * 4294967296 + s) * P + dl) ≤ (t * 4294967296 + u) * P + wl := by
  have hgs : g * s ≤ r * 4294967296 + u := by
    rcases h with h | h
    · have : g * s ≤ 4294967295 * s := le_mul (by omega) s0
      omega
    · exact h
  have hW : 0 ≤ (t * 4294967296 + u) * P := Int.mul_nonneg (by omega) (by omega)
  rcases Int.lt_or_le g 1 with h1 | h1
  · have hg : g = 0 := by omega
    subst hg
    have hV : 0 ≤ (f * 4294967296 + s) * P := Int.mul_nonneg (by omega) (by omega)
    omega
  · have h2 : (g - 1) * ((f * 4294967296 + s) * P + dl) ≤ (g - 1) * ((f * 4294967296 + s) * P + P) := le_mul' (by omega) (by omega)
    have e1 : (g - 1) * ((f * 4294967296 + s) * P + P) = (g * f * 4294967296 + g * s - f * 4294967296 - s + g - 1) * P := by grind
    have h3 : (g * f * 4294967296 + g * s - f * 4294967296 - s + g - 1) * P ≤ (t * 4294967296 + u) * P := le_mul (by omega) (by omega)
    omega
end

/-- One round of the subtraction of a multiple. -/
theorem subMul_step {Z R D : List Int} {i k : Nat} {t c b d z : Int} (hk : i + k < Z.length) (hz : R.getD (i + k) 0 = z) (hd : D.getD k 0 = d)
    (z0 : 0 ≤ z ∧ z < 4294967296) (b0 : 0 ≤ b ∧ b < 2) (pt : Int) (hpt : pt = pw i * t)
    (h : val (Z.take (i + k)) + pt * val (D.take k) = val (R.take (i + k)) + pw (i + k) * (c + b)) :
    val ((Z.set (i + k) ((z - (d * t + 0 + c) % 4294967296 - b) % 4294967296)).take (i + (k + 1))) + pt * val (D.take (k + 1)) =
      val (R.take (i + (k + 1))) + pw (i + (k + 1)) * ((d * t + 0 + c) / 4294967296 + borrowOf z ((d * t + 0 + c) % 4294967296) b) := by
  have hlo : 0 ≤ (d * t + 0 + c) % 4294967296 ∧ (d * t + 0 + c) % 4294967296 < 4294967296 := by omega
  have hbo := borrowOf_eq z _ b z0.1 z0.2 hlo.1 hlo.2 b0.1 b0.2
  have e : d * t + 0 + c = (d * t + 0 + c) % 4294967296 + 4294967296 * ((d * t + 0 + c) / 4294967296) := by omega
  rw [← Nat.add_assoc, val_set_take Z _ _ hk, val_take_getD R, val_take_getD D, hz, hd, pw_succ, hbo]
  generalize borrowOf z ((d * t + 0 + c) % 4294967296) b = b' at *
  generalize (d * t + 0 + c) % 4294967296 = lo at *
  generalize (d * t + 0 + c) / 4294967296 = hi at *
  rw [pw_add] at *
  subst hpt
  have e2 : pw i * pw k * (d * t + 0 + c) = pw i * pw k * (lo + 4294967296 * hi) := by rw [e]
  grind
theorem subMul_last {Z R D : List Int} {i n : Nat} {c b z pt : Int} (hk : i + n < Z.length) (hz : R.getD (i + n) 0 = z) (z0 : 0 ≤ z ∧ z < 4294967296) (c0 : 0 ≤ c ∧ c < 4294967296) (b0 : 0 ≤ b ∧ b < 2) (hD : D.length = n)
    (h : val (Z.take (i + n)) + pt * val (D.take n) = val (R.take (i + n)) + pw (i + n) * (c + b)) :
    val ((Z.set (i + n) ((z - c - b) % 4294967296)).take (i + n + 1)) + pt * val D = val (R.take (i + n + 1)) + pw (i + n + 1) * borrowOf z c b := by
  have hbo := borrowOf_eq z c b z0.1 z0.2 c0.1 c0.2 b0.1 b0.2
  rw [List.take_of_length_le (l := D) (by omega)] at h
  rw [val_set_take Z _ _ hk, val_take_getD R, hz, pw_succ, hbo]
  generalize borrowOf z c b = b' at *
  grind
theorem addBack_step {Z R D : List Int} {i k : Nat} {c d z : Int} (hk : i + k < Z.length) (hz : R.getD (i + k) 0 = z) (hd : D.getD k 0 = d)
    (h : val (Z.take (i + k)) + pw (i + k) * c = val (R.take (i + k)) + pw i * val (D.take k)) :
    val ((Z.set (i + k) ((z + d + c) % 4294967296)).take (i + (k + 1))) + pw (i + (k + 1)) * ((z + d + c) / 4294967296) = val (R.take (i + (k + 1))) + pw i * val (D.take (k + 1)) := by
  have e : z + d + c = (z + d + c) % 4294967296 + 4294967296 * ((z + d + c) / 4294967296) := by omega
  rw [← Nat.add_assoc, val_set_take Z _ _ hk, val_take_getD R, val_take_getD D, hz, hd, pw_succ]
  generalize (z + d + c) % 4294967296 = lo at *
  generalize (z + d + c) / 4294967296 = hi at *
  rw [pw_add] at *
  have e2 : pw i * pw k * (z + d + c) = pw i * pw k * (lo + 4294967296 * hi) := by rw [e]
  grind
theorem addBack_last {Z R D : List Int} {i n : Nat} {c z : Int} (hk : i + n < Z.length) (hz : R.getD (i + n) 0 = z) (hD : D.length = n)
    (h : val (Z.take (i + n)) + pw (i + n) * c = val (R.take (i + n)) + pw i * val (D.take n)) :
    val ((Z.set (i + n) ((z + c) % 4294967296)).take (i + n + 1)) + pw (i + n + 1) * ((z + c) / 4294967296) = val (R.take (i + n + 1)) + pw i * val D := by
  have e : z + c = (z + c) % 4294967296 + 4294967296 * ((z + c) / 4294967296) := by omega
  rw [List.take_of_length_le (l := D) (by omega)] at h
  rw [val_set_take Z _ _ hk, val_take_getD R, hz, pw_succ]
  generalize (z + c) % 4294967296 = lo at *
  generalize (z + c) / 4294967296 = hi at *
  have e2 : pw (i + n) * (z + c) = pw (i + n) * (lo + 4294967296 * hi) := by rw [e]
  grind

/-- One round of a shift to the left. -/
theorem shl_step {S L : List Int} {k : Nat} {l h q : Int} (hk : k + 1 < S.length) (hl : L.getD k 0 = l) (hh : S.getD k 0 = h)
    (hv : val (S.take (k + 1)) = val (L.take k) * q) :
    val (((S.set k (h + l * q % 4294967296)).set (k + 1) (l * q / 4294967296)).take (k + 1 + 1)) = val (L.take (k + 1)) * q := by
  have e : l * q = l * q % 4294967296 + 4294967296 * (l * q / 4294967296) := by omega
  rw [val_set_take _ (k + 1) _ (by simpa using hk), val_set_take _ k _ (by omega), val_take_getD L, hl, pw_succ]
  rw [val_take_getD, hh] at hv
  generalize l * q % 4294967296 = lo at *
  generalize l * q / 4294967296 = hi at *
  have e2 : pw k * (l * q) = pw k * (lo + 4294967296 * hi) := by rw [e]
  grind
/-- One round of a shift to the right, from the top. -/
theorem shr_step {S L : List Int} {j : Nat} {l a q : Int} (hS : j < S.length) (hL : j < L.length) (hl : L.getD j 0 = l) (l0 : 0 ≤ l ∧ l < 4294967296) (q0 : 0 < q) (m : Int) (hq : q * m = 4294967296)
    (ha : a = val (L.drop (j + 1)) % 4294967296) (hv : val (S.drop (j + 1)) = val (L.drop (j + 1)) / q) :
    val ((S.set j ((a * 4294967296 + l) / q % 4294967296)).drop j) = val (L.drop j) / q := by
  rw [List.drop_eq_getElem_cons (l := S.set j _) (by simpa using hS), val_cons, List.getElem_set_self, List.drop_set_of_lt (by omega), hv, List.drop_eq_getElem_cons (l := L) hL, val_cons, ← getD_of_lt L j hL, hl]
  generalize val (L.drop (j + 1)) = Y at *
  -- X = (l + B Y) / q : its last limb and the rest
  have h1 : (l + 4294967296 * Y) / q / 4294967296 = Y / q := by
    rw [Int.ediv_ediv_of_nonneg (by omega), Int.mul_comm q, ← Int.ediv_ediv_of_nonneg (by omega)]
    congr 1
    omega
  have h2 : (l + 4294967296 * Y) / q % 4294967296 = (a * 4294967296 + l) / q % 4294967296 := by
    have e : l + 4294967296 * Y = (a * 4294967296 + l) + q * (m * (4294967296 * (Y / 4294967296))) := by
      have : Y = a + 4294967296 * (Y / 4294967296) := by omega
      generalize Y / 4294967296 = Z at *
      have e3 : q * (m * (4294967296 * Z)) = (q * m) * (4294967296 * Z) := by grind
      rw [e3, hq]
      omega
    rw [e, Int.add_mul_ediv_left _ _ (by omega)]
    have e4 : m * (4294967296 * (Y / 4294967296)) = 4294967296 * (m * (Y / 4294967296)) := by grind
    rw [e4, Int.add_mul_emod_self_left]
  have h3 := Int.mul_ediv_add_emod ((l + 4294967296 * Y) / q) 4294967296
  rw [h1, h2] at h3
  omega

end Go.Proofs.YtebbnmjmjoklmaaGreatDoor

namespace Go.Proofs.YtebbnmjmjoklmaaGreatDoor
open Go.RowKit
set_option maxRecDepth 20000

theorem or_low (h p : Int) (s : Nat) (hs : s ≤ 31) (h0 : 0 ≤ h) (h1 : h < 2 ^ s) (p0 : 0 ≤ p) (p1 : p < 4294967296) (m : Int) (hp : p = m * 2 ^ s) : bits .or .u32 h p = h + p := by
  have e32 : (2 : Int) ^ s ≤ 2 ^ 31 := by
    have h2 : (2 : Nat) ^ s ≤ 2 ^ 31 := Nat.pow_le_pow_right (by decide) hs
    exact_mod_cast h2
  have e31 : (2 : Int) ^ 31 = 2147483648 := by decide
  rw [u32_or _ _ h0 (by omega) p0 p1, Nat.or_comm, nat_join s]
  · omega
  · obtain ⟨n, rfl⟩ := Int.eq_ofNat_of_zero_le p0
    rw [Int.toNat_natCast]
    have h3 : ((2 ^ s : Nat) : Int) ∣ (n : Int) := ⟨m, by rw [hp]; push_cast; rw [Int.mul_comm]⟩
    exact Nat.mod_eq_zero_of_dvd (Int.natCast_dvd_natCast.1 h3)
  · obtain ⟨n, rfl⟩ := Int.eq_ofNat_of_zero_le h0
    rw [Int.toNat_natCast]
    exact_mod_cast h1

/-- The product of a limb and a power of two: its halves. -/
theorem limb_shift (l : Int) (s : Nat) (hs : s ≤ 31) (l0 : 0 ≤ l ∧ l < 4294967296) :
    0 ≤ l * 2 ^ s ∧ l * 2 ^ s < 9223372036854775808 ∧ 0 ≤ l * 2 ^ s / 4294967296 ∧ l * 2 ^ s / 4294967296 < 2 ^ s ∧ (2 : Int) ^ s ≤ 2147483648 ∧ ∃ m, l * 2 ^ s % 4294967296 = m * 2 ^ s := by
  have e32 : (2 : Int) ^ s ≤ 2 ^ 31 := by
    have h2 : (2 : Nat) ^ s ≤ 2 ^ 31 := Nat.pow_le_pow_right (by decide) hs
    exact_mod_cast h2
  have e31 : (2 : Int) ^ 31 = 2147483648 := by decide
  have hp : (0 : Int) < 2 ^ s := Int.pow_pos (by decide)
  have e : (2 : Int) ^ s * 2 ^ (32 - s) = 4294967296 := by
    rw [← Int.pow_add, show s + (32 - s) = 32 from by omega]; decide
  have h1 : 0 ≤ l * 2 ^ s := Int.mul_nonneg l0.1 (Int.le_of_lt hp)
  have h2 : (l + 1) * 2 ^ s ≤ 4294967296 * 2 ^ s := le_mul (by omega) (Int.le_of_lt hp)
  rw [Int.add_mul] at h2
  refine ⟨h1, by omega, by omega, Int.ediv_lt_of_lt_mul (by decide) (by omega), by omega, l % 2 ^ (32 - s), ?_⟩
  rw [← e, Int.mul_comm l, Int.mul_emod_mul_of_pos _ _ hp, Int.mul_comm]

def Shifted (w : World) (n : Nat) (x : Int) (e : Ending) (w' : World) : Prop :=
  ∃ g S, e = .returned (.slice (some ⟨g, 0, none⟩) n n) ∧ Mine w' w.heap.size (some ⟨g, 0, none⟩) n n S ∧ val S = x ∧ Below w.heap.size w w'

set_option maxHeartbeats 1000000 in
theorem shiftLeft_any (A : Option Addr) (n c s : Nat) (L : List Int) (w : World) (hr : Rd w A n c L) (hn : n ≤ 1000000) (hs : s ≤ 31) :
    Calls Tryz.prog 152 #[.slice A n c, .int .i64 (s : Int)] w (Shifted w (n + 1) (val L * 2 ^ s)) := by
  obtain ⟨i0, hi, hz0, hz1, hz2⟩ := info_parts info_limb
  have HL := Lib.hid hr.len
  go_enter Tryz.func152, Tryz.ntmps152
  go_wp2_with (at_make; refine wpList_make_full _ rfl _ _ 40 rfl w.heap.size 71 i0 (.int .u32 0) 1 Tryz.underlying40 hi hz0 hz1 _ _ _ _ (n + 1) rfl rfl ?b0 ?b1 ?b2 ?b3 (Nat.le_refl _) ?_)
  case b0 => go_num
  case b1 => go_num
  case b2 => rw [hz2]; omega
  case b3 => unfold maxLen; omega
  intro w0 hown hgrow
  have hM0 := Mine.zero hown
  have hB0 := below_of_grown hgrow
  clear hown hgrow
  go_wp2
  go_loopw [15] (fun iv wr => ∃ (k : Nat) (S : List Int), k ≤ n ∧ iv = .int .i64 k ∧ Mine wr w.heap.size (some ⟨w.heap.size, 0, none⟩) (n + 1) (n + 1) S ∧
      Hid (val (S.take (k + 1)) = val (L.take k) * 2 ^ s) ∧ Hid (S.getD k 0 < 2 ^ s) ∧ Below w.heap.size w wr) (fun iv _ => n - (intOf iv).toNat)
  case atStart =>
    refine ⟨0, _, Nat.zero_le _, rfl, hM0, ?_, ?_, hB0⟩
    · show _ = _
      rw [List.take_replicate, val_replicate]; simp [val]
    · show _ < _
      rw [List.getD_eq_getElem?_getD, List.getElem?_replicate]
      have : (0 : Int) < 2 ^ s := Int.pow_pos (by decide)
      split <;> simpa using this
  case round =>
    obtain ⟨k, S, hk, rfl, hM, hV, hT, hB⟩ := hrel
    clear hM0 hB0
    by_cases hkn : k < n
    · obtain ⟨ad, rfl, _, hc⟩ := (hr.below hB).at_ (by omega)
      have cL := hc k hkn
      have uL := hr.lims.getD k
      have uS := hM.lims.getD k
      have uS2 := hM.lims.getD (k + 1)
      obtain ⟨l, hl⟩ : ∃ l, L.getD k 0 = l := ⟨_, rfl⟩
      obtain ⟨h, hh⟩ : ∃ h, S.getD k 0 = h := ⟨_, rfl⟩
      have cS := hM.cellAt (i := k) (by omega)
      have fS := hM.frozenAt k
      rw [hl] at cL uL
      rw [hh] at cS uS
      obtain ⟨p0, p1, q0, q1, p2, m, hm⟩ := limb_shift l s hs uL
      have hor := or_low h (l * 2 ^ s % 4294967296) s hs uS.1 (by have := hT.out; rwa [hh] at this) (by omega) (by omega) m hm
      have hsum : h + l * 2 ^ s % 4294967296 < 4294967296 := by
        have h3 := u32_bits_lt .or (.inr (.inl rfl)) h (l * 2 ^ s % 4294967296) uS.1 uS.2 (by omega) (by omega)
        rw [hor] at h3; exact h3.2
      have ST := Lib.hid (shl_step (S := S) (L := L) (k := k) (q := 2 ^ s) (by rw [hM.len]; omega) hl hh hV.out)
      have hM1 := hM.stored k (x := h + l * 2 ^ s % 4294967296) (by omega) hsum
      have cS1 := hM1.cellAt (i := k + 1) (by omega)
      have fS1 := hM1.frozenAt (k + 1)
      have hM2 := hM1.stored (k + 1) (x := l * 2 ^ s / 4294967296) q0 (by omega)
      have hget : Hid (((S.set k (h + l * 2 ^ s % 4294967296)).set (k + 1) (l * 2 ^ s / 4294967296)).getD (k + 1) 0 < 2 ^ s) := by
        show _ < _
        rw [getD_of_lt _ _ (by simp [hM.len]; omega), List.getElem_set_self]; exact q1
      clear hc hl hh hm
      generalize (S.set k (h + l * 2 ^ s % 4294967296)).getD (k + 1) 0 = y at *
      go_wp2
      go_roundw
      case rel => exact ⟨k + 1, _, by omega, by go_num, hM2, ST.out, hget, (hB.setCell (Nat.le_refl _) _).setCell (Nat.le_refl _) _⟩
      case measure => simp [intOf] <;> omega
    · obtain rfl : k = n := by omega
      have hF : Hid (val S = val L * 2 ^ s) := by
        have h1 := hV.out
        rw [List.take_of_length_le (l := S) (by rw [hM.len]; exact Nat.le_refl _), List.take_of_length_le (l := L) (by have := HL.out; omega)] at h1
        exact h1
      go_wp2
      go_ret
      exact ⟨_, S, rfl, hM, hF.out, hB⟩

theorem far_add {ad : Addr} {g i j : Nat} (h : ad.block < g) : ad.add i ≠ ⟨g, j, none⟩ := by
  intro e
  have h1 := congrArg Addr.block e
  rw [addr_block] at h1
  simp at h1
  omega

def Halved (w : World) (n : Nat) (x : Int) (e : Ending) (w' : World) : Prop :=
  ∃ A c S, e = .returned (.slice A n c) ∧ Mine w' w.heap.size A n c S ∧ val S = x ∧ Below w.heap.size w w'

theorem shr_word (a l : Int) (s : Nat) (a0 : 0 ≤ a ∧ a < 4294967296) (l0 : 0 ≤ l ∧ l < 4294967296) : 0 ≤ (a * 4294967296 + l) / 2 ^ s ∧ (a * 4294967296 + l) / 2 ^ s < 18446744073709551616 := by
  have hp : (0 : Int) < 2 ^ s := Int.pow_pos (by decide)
  have h1 := Int.ediv_nonneg (a := a * 4294967296 + l) (by omega) (Int.le_of_lt hp)
  have h2 := Int.ediv_le_self (2 ^ s) (show 0 ≤ a * 4294967296 + l by omega)
  omega

set_option maxHeartbeats 1000000 in
theorem shiftRight_any (A : Option Addr) (n c s : Nat) (L : List Int) (w : World) (hr : Rd w A n c L) (hn : n ≤ 1000000) (hs : s ≤ 31) :
    Calls Tryz.prog 156 #[.slice A n c, .int .i64 (s : Int)] w (Halved w n (val L / 2 ^ s)) := by
  obtain ⟨i0, hi, hz0, hz1, hz2⟩ := info_parts info_limb
  have HL := Lib.hid hr.len
  go_enter Tryz.func156, Tryz.ntmps156
  go_wp2_with (at_make; refine wpList_make_full _ rfl _ _ 40 rfl w.heap.size 71 i0 (.int .u32 0) 1 Tryz.underlying40 hi hz0 hz1 _ _ _ _ n rfl rfl ?b0 ?b1 ?b2 ?b3 (Nat.le_refl _) ?_)
  case b0 => rfl
  case b1 => rfl
  case b2 => rw [hz2]; omega
  case b3 => unfold maxLen; omega
  intro w0 hown hgrow
  have hM0 := Mine.zero hown
  have hB0 := below_of_grown hgrow
  clear hown hgrow
  go_wp2
  go_loopw [6, 7] (fun av iv wr => ∃ (k : Nat) (a : Int) (S : List Int), k ≤ n ∧ iv = .int .i64 ((k : Int) - 1) ∧ av = .int .u32 a ∧ (0 ≤ a ∧ a < 4294967296) ∧ Mine wr w.heap.size (some ⟨w.heap.size, 0, none⟩) n n S ∧
      Hid (a = val (L.drop k) % 4294967296) ∧ Hid (val (S.drop k) = val (L.drop k) / 2 ^ s) ∧ Below w.heap.size w wr) (fun _ iv _ => (intOf iv + 1).toNat)
  case atStart =>
    refine ⟨n, 0, _, Nat.le_refl _, rfl, rfl, by omega, hM0, ?_, ?_, hB0⟩
    · show _ = _
      rw [List.drop_eq_nil_of_le (by have := HL.out; omega)]; rfl
    · show _ = _
      rw [List.drop_eq_nil_of_le (by simp), List.drop_eq_nil_of_le (by have := HL.out; omega)]; simp [val]
  case round =>
    obtain ⟨k, a, S, hk, rfl, rfl, ⟨a0, a1⟩, hM, hA, hV, hB⟩ := hrel
    clear hM0 hB0
    by_cases h0 : k = 0
    · subst h0
      have hF : Hid (val S = val L / 2 ^ s) := by simpa using hV
      go_wp2
      go_ret
      exact ⟨_, _, S, rfl, hM, hF.out, hB⟩
    · obtain ⟨j, rfl⟩ : ∃ j, k = j + 1 := ⟨k - 1, by omega⟩
      obtain ⟨ad, rfl, hadB, hc0⟩ := hr.at_ (by omega)
      have cL := (hB.cell (p := ad.add j) (by rw [addr_block]; exact hadB)).trans (hc0 j (by omega))
      have uL := hr.lims.getD j
      have uS := hM.lims.getD j
      obtain ⟨l, hl⟩ : ∃ l, L.getD j 0 = l := ⟨_, rfl⟩
      have cS := hM.cellAt (i := j) (by omega)
      have fS := hM.frozenAt j
      rw [hl] at cL uL
      have J := or_join a l a0 a1 uL.1 uL.2
      have W := shr_word a l s ⟨a0, a1⟩ uL
      have hp : (0 : Int) < 2 ^ s := Int.pow_pos (by decide)
      have hm : (2 : Int) ^ s * 2 ^ (32 - s) = 4294967296 := by
        rw [← Int.pow_add, show s + (32 - s) = 32 from by omega]; decide
      have ST := Lib.hid (shr_step (S := S) (L := L) (j := j) (a := a) (q := 2 ^ s) (by rw [hM.len]; omega) (by have := HL.out; omega) hl uL hp _ hm hA.out hV.out)
      have hA2 : Hid (l = val (L.drop j) % 4294967296) := by
        show _ = _
        rw [List.drop_eq_getElem_cons (l := L) (i := j) (by have := HL.out; omega), val_cons, ← getD_of_lt, hl]; omega
      have s0 : 0 ≤ (a * 4294967296 + l) / 2 ^ s % 4294967296 ∧ (a * 4294967296 + l) / 2 ^ s % 4294967296 < 4294967296 := by omega
      have hM1 := hM.stored j s0.1 s0.2
      have cL2 := (World.cell?_setCell_other wr ⟨w.heap.size, j, none⟩ (ad.add j) (.int .u32 ((a * 4294967296 + l) / 2 ^ s % 4294967296)) (far_add hadB).symm).trans cL
      clear hc0 hl hm hp h0
      generalize S.getD j 0 = y at *
      go_wp2
      go_roundw
      case rel => exact ⟨j, l, _, by omega, by go_num, rfl, uL, hM1, hA2.out, ST.out, hB.setCell (Nat.le_refl _) _⟩
      case measure => simp [intOf] <;> omega

/-- The window of n + 1 limbs from place i on has become what it was less pt times D, plus b times the weight above it. -/
structure WinSub (g base N C i n : Nat) (R D : List Int) (pt b : Int) (w w' : World) (R' : List Int) : Prop where
  mine : Mine w' base (some ⟨g, 0, none⟩) N C R'
  low : R'.take i = R.take i
  high : R'.drop (i + n + 1) = R.drop (i + n + 1)
  value : val (R'.take (i + n + 1)) + pt * val D = val (R.take (i + n + 1)) + pw (i + n + 1) * b
  only : Only (some ⟨g, 0, none⟩) w w'

def SubMulPost (g base N C i n : Nat) (R D : List Int) (pt : Int) (w : World) (e : Ending) (w' : World) : Prop :=
  (∃ R', e = .returned (.bool false) ∧ WinSub g base N C i n R D pt 0 w w' R') ∨ (∃ R', e = .returned (.bool true) ∧ WinSub g base N C i n R D pt 1 w w' R')

theorem take_set_ge (S : List Int) (i j : Nat) (x : Int) (h : i ≤ j) : (S.set j x).take i = S.take i := List.take_set_of_le h

set_option maxHeartbeats 2000000 in
theorem subMul_any (g base N C i n wc dc : Nat) (dA : Option Addr) (R D : List Int) (w : World) (t : Int) (hR : Mine w base (some ⟨g, 0, none⟩) N C R) (hD : Rd w dA n dc D) (hfar : ∀ a, dA = some a → a.block ≠ g)
    (hN : i + n + 1 ≤ N) (hn : N ≤ 1000000) (hwc : n + 1 ≤ wc) (t0 : 0 ≤ t) (t1 : t < 4294967296) :
    Calls Tryz.prog 154 #[.slice (some ⟨g, i, none⟩) (n + 1) wc, .slice dA n dc, .int .u32 t] w (SubMulPost g base N C i n R D (pw i * t) w) := by
  have HD := Lib.hid hD.len
  obtain ⟨pt, hpt⟩ : ∃ pt, pt = pw i * t := ⟨_, rfl⟩
  rw [← hpt]
  have HP := Lib.hid hpt
  clear hpt
  go_enter Tryz.func154, Tryz.ntmps154
  go_wp2
  go_loopw [7, 8, 15] (fun cv bv kv wr => ∃ (k : Nat) (c b : Int) (Z : List Int), k ≤ n ∧ kv = .int .i64 k ∧ cv = .int .u32 c ∧ bv = .int .u32 b ∧ (0 ≤ c ∧ c < 4294967296) ∧ (0 ≤ b ∧ b < 2) ∧ Mine wr base (some ⟨g, 0, none⟩) N C Z ∧
      Hid (Z.take i = R.take i) ∧ Hid (Z.drop (i + k) = R.drop (i + k)) ∧ Hid (val (Z.take (i + k)) + pt * val (D.take k) = val (R.take (i + k)) + pw (i + k) * (c + b)) ∧ Only (some ⟨g, 0, none⟩) w wr) (fun _ _ kv _ => n - (intOf kv).toNat)
  case atStart => exact ⟨0, 0, 0, R, Nat.zero_le _, rfl, rfl, rfl, by omega, by omega, hR, rfl, rfl, by show _ = _; simp [val], Only.refl _ _⟩
  case round =>
    obtain ⟨k, c, b, Z, hk, rfl, rfl, rfl, ⟨c0, c1⟩, ⟨b0, b1⟩, hZ, hlow, hhigh, hV, hO⟩ := hrel
    by_cases hkn : k < n
    · obtain ⟨ad, rfl, _, hc⟩ := hD.at_ (by omega)
      have hne := hfar ad rfl
      have cD := hc k hkn
      have cD' : wr.cell? (ad.add k) = w.cell? (ad.add k) := hO.farCell (by rw [addr_block]; exact hne)
      rw [cD] at cD'
      have uD := hD.lims.getD k
      have uZ := hZ.lims.getD (i + k)
      have cZ := hZ.cellAt (i := i + k) (by omega)
      have fZ := hZ.frozenAt (i + k)
      obtain ⟨d, hd⟩ : ∃ d, D.getD k 0 = d := ⟨_, rfl⟩
      obtain ⟨z, hz⟩ : ∃ z, R.getD (i + k) 0 = z := ⟨_, rfl⟩
      rw [getD_of_drop hhigh.out, hz] at cZ uZ
      rw [hd] at cD' uD
      have ST := Lib.hid (subMul_step (Z := Z) (R := R) (D := D) (i := i) (k := k) (t := t) (c := c) (b := b) (by rw [hZ.len]; omega) hz hd uZ ⟨b0, b1⟩ pt HP.out hV.out)
      have hD2 : Hid ((Z.set (i + k) ((z - (d * t + 0 + c) % 4294967296 - b) % 4294967296)).drop (i + (k + 1)) = R.drop (i + (k + 1))) := by
        show _ = _
        rw [← Nat.add_assoc, drop_set]; exact drop_succ hhigh.out
      have hL2 : Hid ((Z.set (i + k) ((z - (d * t + 0 + c) % 4294967296 - b) % 4294967296)).take i = R.take i) := by
        show _ = _
        rw [take_set_ge _ _ _ _ (by omega)]; exact hlow.out
      have pr := mul_limbs d t uD ⟨t0, t1⟩
      have s1 : 0 ≤ (d * t + 0 + c) / 4294967296 ∧ (d * t + 0 + c) / 4294967296 < 4294967296 := by omega
      have s2 : 0 ≤ (d * t + 0 + c) % 4294967296 ∧ (d * t + 0 + c) % 4294967296 < 4294967296 := by omega
      have s3 := borrowOf_range z ((d * t + 0 + c) % 4294967296) b
      have s0 : 0 ≤ (z - (d * t + 0 + c) % 4294967296 - b) % 4294967296 ∧ (z - (d * t + 0 + c) % 4294967296 - b) % 4294967296 < 4294967296 := by omega
      have HA := Lib.hid (multiplyAdd_any d t 0 c)
      simp only [Int.add_zero] at ST hD2 hL2 s0 s1 s2 s3
      obtain ⟨lo, hlo⟩ : ∃ lo, (d * t + c) % 4294967296 = lo := ⟨_, rfl⟩
      obtain ⟨hi', hhi⟩ : ∃ hi', (d * t + c) / 4294967296 = hi' := ⟨_, rfl⟩
      rw [hlo] at ST hD2 hL2 s0 s2 s3
      rw [hhi] at ST s1
      clear hc cD hd hz pr
      go_wp2_with fail
      refine (HA.out _ uD ⟨t0, t1⟩ (by omega) ⟨c0, c1⟩).mono ?_
      rintro e w' ⟨rfl, rfl⟩
      go_wp2_with fail
      refine (sub32_any z lo b _ uZ s2 ⟨b0, b1⟩).mono ?_
      rintro e w' ⟨rfl, rfl⟩
      have hZ2 := hZ.stored (i + k) s0.1 s0.2
      go_wp2
      go_roundw
      case rel => exact ⟨k + 1, _, _, _, by omega, by go_num, rfl, rfl, s1, s3, hZ2, hL2.out, hD2.out, ST.out, hO.set (i + k) _⟩
      case measure => simp [intOf] <;> omega
    · obtain rfl : k = n := by omega
      have uZ := hZ.lims.getD (i + k)
      have cZ := hZ.cellAt (i := i + k) (by omega)
      have fZ := hZ.frozenAt (i + k)
      obtain ⟨z, hz⟩ : ∃ z, R.getD (i + k) 0 = z := ⟨_, rfl⟩
      rw [getD_of_drop hhigh.out, hz] at cZ uZ
      have ST := subMul_last (Z := Z) (R := R) (D := D) (i := i) (n := k) (c := c) (b := b) (pt := pt) (by rw [hZ.len]; omega) hz uZ ⟨c0, c1⟩ ⟨b0, b1⟩ HD.out hV.out
      have s0 : 0 ≤ (z - c - b) % 4294967296 ∧ (z - c - b) % 4294967296 < 4294967296 := by omega
      have s3 := borrowOf_range z c b
      have hA := sub32_any z c b wr uZ ⟨c0, c1⟩ ⟨b0, b1⟩
      have hZ2 := hZ.stored (i + k) s0.1 s0.2
      have hD2 : Hid ((Z.set (i + k) ((z - c - b) % 4294967296)).drop (i + k + 1) = R.drop (i + k + 1)) := by
        show _ = _
        rw [drop_set]; exact drop_succ hhigh.out
      have hL2 : Hid ((Z.set (i + k) ((z - c - b) % 4294967296)).take i = R.take i) := by
        show _ = _
        rw [take_set_ge _ _ _ _ (by omega)]; exact hlow.out
      obtain ⟨b', hb'⟩ : ∃ b', borrowOf z c b = b' := ⟨_, rfl⟩
      rw [hb'] at ST s3 hA
      clear hb' hz hkn
      have hO2 := hO.set (i + k) (.int .u32 ((z - c - b) % 4294967296))
      rcases (show b' = 0 ∨ b' = 1 by omega) with rfl | rfl
      all_goals
        have HS := Lib.hid ST
        have HA := Lib.hid hA
        clear ST hA
        go_wp2_with fail
        refine HA.out.mono ?_
        rintro e w' ⟨rfl, rfl⟩
        go_wp2
        go_ret
        first
          | exact .inl ⟨_, rfl, hZ2, hL2.out, hD2.out, HS.out, hO2⟩
          | exact .inr ⟨_, rfl, hZ2, hL2.out, hD2.out, HS.out, hO2⟩

def AddBackPost (g base N C i n : Nat) (R D : List Int) (w : World) (e : Ending) (w' : World) : Prop :=
  ∃ R' o, e = .returned (.tuple #[]) ∧ Mine w' base (some ⟨g, 0, none⟩) N C R' ∧ R'.take i = R.take i ∧ R'.drop (i + n + 1) = R.drop (i + n + 1) ∧
    val (R'.take (i + n + 1)) + pw (i + n + 1) * o = val (R.take (i + n + 1)) + pw i * val D ∧ (0 ≤ o ∧ o ≤ 1) ∧ Only (some ⟨g, 0, none⟩) w w'

set_option maxHeartbeats 2000000 in
theorem addBack_any (g base N C i n wc dc : Nat) (dA : Option Addr) (R D : List Int) (w : World) (hR : Mine w base (some ⟨g, 0, none⟩) N C R) (hD : Rd w dA n dc D) (hfar : ∀ a, dA = some a → a.block ≠ g)
    (hN : i + n + 1 ≤ N) (hn : N ≤ 1000000) (hwc : n + 1 ≤ wc) :
    Calls Tryz.prog 155 #[.slice (some ⟨g, i, none⟩) (n + 1) wc, .slice dA n dc] w (AddBackPost g base N C i n R D w) := by
  have HD := Lib.hid hD.len
  go_enter Tryz.func155, Tryz.ntmps155
  go_wp2
  go_loopw [4, 9] (fun cv kv wr => ∃ (k : Nat) (c : Int) (Z : List Int), k ≤ n ∧ kv = .int .i64 k ∧ cv = .int .u32 c ∧ (0 ≤ c ∧ c ≤ 1) ∧ Mine wr base (some ⟨g, 0, none⟩) N C Z ∧
      Hid (Z.take i = R.take i) ∧ Hid (Z.drop (i + k) = R.drop (i + k)) ∧ Hid (val (Z.take (i + k)) + pw (i + k) * c = val (R.take (i + k)) + pw i * val (D.take k)) ∧ Only (some ⟨g, 0, none⟩) w wr) (fun _ kv _ => n - (intOf kv).toNat)
  case atStart => exact ⟨0, 0, R, Nat.zero_le _, rfl, rfl, by omega, hR, rfl, rfl, by show _ = _; simp [val], Only.refl _ _⟩
  case round =>
    obtain ⟨k, c, Z, hk, rfl, rfl, ⟨c0, c1⟩, hZ, hlow, hhigh, hV, hO⟩ := hrel
    by_cases hkn : k < n
    · obtain ⟨ad, rfl, _, hc⟩ := hD.at_ (by omega)
      have hne := hfar ad rfl
      have cD := hc k hkn
      have cD' : wr.cell? (ad.add k) = w.cell? (ad.add k) := hO.farCell (by rw [addr_block]; exact hne)
      rw [cD] at cD'
      have uD := hD.lims.getD k
      have uZ := hZ.lims.getD (i + k)
      have cZ := hZ.cellAt (i := i + k) (by omega)
      have fZ := hZ.frozenAt (i + k)
      obtain ⟨d, hd⟩ : ∃ d, D.getD k 0 = d := ⟨_, rfl⟩
      obtain ⟨z, hz⟩ : ∃ z, R.getD (i + k) 0 = z := ⟨_, rfl⟩
      rw [getD_of_drop hhigh.out, hz] at cZ uZ
      rw [hd] at cD' uD
      have ST := Lib.hid (addBack_step (Z := Z) (R := R) (D := D) (i := i) (k := k) (c := c) (by rw [hZ.len]; omega) hz hd hV.out)
      have hD2 : Hid ((Z.set (i + k) ((z + d + c) % 4294967296)).drop (i + (k + 1)) = R.drop (i + (k + 1))) := by
        show _ = _
        rw [← Nat.add_assoc, drop_set]; exact drop_succ hhigh.out
      have hL2 : Hid ((Z.set (i + k) ((z + d + c) % 4294967296)).take i = R.take i) := by
        show _ = _
        rw [take_set_ge _ _ _ _ (by omega)]; exact hlow.out
      have s1 : 0 ≤ (z + d + c) / 4294967296 ∧ (z + d + c) / 4294967296 ≤ 1 := by omega
      have s0 : 0 ≤ (z + d + c) % 4294967296 ∧ (z + d + c) % 4294967296 < 4294967296 := by omega
      have hZ2 := hZ.stored (i + k) s0.1 s0.2
      clear hc cD hd hz
      go_wp2_with fail
      refine (add32_any z d c _ uZ uD (by omega)).mono ?_
      rintro e w' ⟨rfl, rfl⟩
      go_wp2
      go_roundw
      case rel => exact ⟨k + 1, _, _, by omega, by go_num, rfl, s1, hZ2, hL2.out, hD2.out, ST.out, hO.set (i + k) _⟩
      case measure => simp [intOf] <;> omega
    · obtain rfl : k = n := by omega
      have uZ := hZ.lims.getD (i + k)
      have cZ := hZ.cellAt (i := i + k) (by omega)
      have fZ := hZ.frozenAt (i + k)
      obtain ⟨z, hz⟩ : ∃ z, R.getD (i + k) 0 = z := ⟨_, rfl⟩
      rw [getD_of_drop hhigh.out, hz] at cZ uZ
      have ST := Lib.hid (addBack_last (Z := Z) (R := R) (D := D) (i := i) (n := k) (c := c) (by rw [hZ.len]; omega) hz HD.out hV.out)
      have s0 : 0 ≤ (z + c) % 4294967296 ∧ (z + c) % 4294967296 < 4294967296 := by omega
      have s1 : 0 ≤ (z + c) / 4294967296 ∧ (z + c) / 4294967296 ≤ 1 := by omega
      have hZ2 := hZ.stored (i + k) s0.1 s0.2
      have hD2 : Hid ((Z.set (i + k) ((z + c) % 4294967296)).drop (i + k + 1) = R.drop (i + k + 1)) := by
        show _ = _
        rw [drop_set]; exact drop_succ hhigh.out
      have hL2 : Hid ((Z.set (i + k) ((z + c) % 4294967296)).take i = R.take i) := by
        show _ = _
        rw [take_set_ge _ _ _ _ (by omega)]; exact hlow.out
      have hO2 := hO.set (i + k) (.int .u32 ((z + c) % 4294967296))
      clear hz hkn
      go_wp2
      go_end0
      exact ⟨_, _, rfl, hZ2, hL2.out, hD2.out, ST.out, s1, hO2⟩

end Go.Proofs.YtebbnmjmjoklmaaGreatDoor

namespace Go.Proofs.YtebbnmjmjoklmaaGreatDoor
open Go.RowKit
set_option maxRecDepth 20000

theorem top_two {X : List Int} {m : Nat} (h : X.length = m + 2) : val X = (X.getD (m + 1) 0 * 4294967296 + X.getD m 0) * pw m + val (X.take m) := by
  have h1 := val_take_getD X (m + 1)
  rw [List.take_of_length_le (by omega), val_take_getD X m, pw_succ] at h1
  rw [h1]; grind
theorem top_three {X : List Int} {m : Nat} (h : X.length = m + 3) : val X = ((X.getD (m + 2) 0 * 4294967296 + X.getD (m + 1) 0) * 4294967296 + X.getD m 0) * pw m + val (X.take m) := by
  have h1 := val_take_getD X (m + 2)
  rw [List.take_of_length_le (by omega), val_take_getD X (m + 1), val_take_getD X m] at h1
  simp only [pw_succ] at h1
  rw [h1]; grind

/-- g is the limb of the quotient of W by V, or one more. -/
def Near (V W g : Int) : Prop := 0 ≤ g ∧ g < 4294967296 ∧ W < (g + 1) * V ∧ (g - 1) * V ≤ W
def GuessPost (V W : Int) (w : World) (e : Ending) (w' : World) : Prop := ∃ g, e = .returned (.int .u32 g) ∧ Near V W g ∧ ∃ k, w' = w.drewN k

set_option maxHeartbeats 2000000 in
theorem guess_any (gx i gd m wc dc : Nat) (X D : List Int) (w : World) (hX : Rd w (some ⟨gx, i, none⟩) (m + 3) wc X) (hD : Rd w (some ⟨gd, 0, none⟩) (m + 2) dc D) (hf : 2147483648 ≤ D.getD (m + 1) 0) (hlt : val X < val D * 4294967296) (hm : m ≤ 1000000) :
    Calls Tryz.prog 153 #[.slice (some ⟨gx, i, none⟩) (m + 3 : Nat) wc, .slice (some ⟨gd, 0, none⟩) (m + 2 : Nat) dc] w (GuessPost (val D) (val X) w) := by
  have d1 := hD.cellAt (k := m + 1) (by omega)
  have d2 := hD.cellAt (k := m) (by omega)
  have x1 := hX.cellAt (k := m + 2) (by omega)
  have x2 := hX.cellAt (k := m + 1) (by omega)
  have x3 := hX.cellAt (k := m) (by omega)
  simp only [Nat.zero_add] at d1 d2
  have uf := hD.lims.getD (m + 1)
  have us := hD.lims.getD m
  have u1 := hX.lims.getD (m + 2)
  have u2 := hX.lims.getD (m + 1)
  have u3 := hX.lims.getD m
  have hV := top_two hD.len
  have hW := top_three hX.len
  have P0 := pw_pos m
  have dl0 := val_nonneg (hD.lims.take m)
  have dl1 := val_lt (hD.lims.take m)
  have wl0 := val_nonneg (hX.lims.take m)
  have wl1 := val_lt (hX.lims.take m)
  rw [List.length_take_of_le (by rw [hD.len]; omega)] at dl1
  rw [List.length_take_of_le (by rw [hX.len]; omega)] at wl1
  have V0 : 0 < val D := by
    have h1 : 1 * pw m ≤ (D.getD (m + 1) 0 * 4294967296 + D.getD m 0) * pw m := le_mul (by omega) (by omega)
    omega
  generalize val (D.take m) = dl at *
  generalize val (X.take m) = wl at *
  generalize D.getD (m + 1) 0 = f at *
  generalize D.getD m 0 = s at *
  generalize X.getD (m + 2) 0 = a at *
  generalize X.getD (m + 1) 0 = b at *
  generalize X.getD m 0 = u at *
  obtain ⟨V, eV⟩ : ∃ V, val D = V := ⟨_, rfl⟩
  obtain ⟨W, eW⟩ : ∃ W, val X = W := ⟨_, rfl⟩
  rw [eV] at hV hlt V0 ⊢
  rw [eW] at hW hlt ⊢
  have J1 := or_join a b u1.1 u1.2 u2.1 u2.2
  obtain ⟨t, et⟩ : ∃ t, a * 4294967296 + b = t := ⟨_, rfl⟩
  have t0 : 0 ≤ t := by omega
  have t64 : t < 18446744073709551616 := by omega
  rw [et] at J1 hW
  have htop : t < (f + 1) * 4294967296 := guess_top us.2 u3.1 P0 dl1 wl0 (by rw [← hW, ← hV]; exact hlt)
  have q0 := Int.ediv_nonneg t0 (show 0 ≤ f by omega)
  have q1 : t / f ≤ 4294967297 := by
    refine Int.le_of_lt_add_one (Int.ediv_lt_of_lt_mul (by omega) ?_)
    omega
  have r0 := Int.emod_nonneg t (show f ≠ 0 by omega)
  have r1 := Int.emod_lt_of_pos t (show 0 < f by omega)
  have hqr := Int.mul_ediv_add_emod t f
  have hgt : t < (t / f + 1) * f := by rw [Int.add_mul, Int.mul_comm]; omega
  have hst : Hid (W < (t / f + 1) * V) := by
    show _ < _
    have h1 : (t * 4294967296 + u + 1) * pw m ≤ ((t / f + 1) * f * 4294967296) * pw m := le_mul (by omega) (by omega)
    have e1 : (t * 4294967296 + u + 1) * pw m = (t * 4294967296 + u) * pw m + pw m := by grind
    have h2 : (t / f + 1) * ((f * 4294967296) * pw m) ≤ (t / f + 1) * V := by
      refine le_mul' ?_ (by omega)
      rw [hV]
      have h3 : (f * 4294967296) * pw m ≤ (f * 4294967296 + s) * pw m := le_mul (by omega) (by omega)
      omega
    have e2 : (t / f + 1) * f * 4294967296 * pw m = (t / f + 1) * ((f * 4294967296) * pw m) := by grind
    omega
  have hqr' : Hid (t / f * f + t % f = t) := by show _ = _; rw [Int.mul_comm]; exact hqr
  have HV := Lib.hid hV
  have HW := Lib.hid hW
  have HT := Lib.hid htop
  have HLT := Lib.hid hlt
  clear hV hW eV eW et hqr hgt htop hlt
  have n1 : IntKind.i64.wrap ((m : Int) + 2 - 1) = (m : Int) + 1 := by rw [IntKind.wrap_i64]; omega
  have n2 : IntKind.i64.wrap ((m : Int) + 2 - 2) = (m : Int) := by rw [IntKind.wrap_i64]; omega
  have n3 : ((m : Int) + 1).toNat = m + 1 := by omega
  have n4 : ((m : Int) + 2).toNat = m + 2 := by omega
  have n5 : (0 : Int) ≤ (m : Int) + 1 := by omega
  have n6 : (m : Int) + 1 < (m : Int) + 2 := by omega
  have n7 : (m : Int) < (m : Int) + 2 := by omega
  have n8 : (m : Int) + 2 < (m : Int) + 3 := by omega
  have n9 : (m : Int) + 1 < (m : Int) + 3 := by omega
  have n10 : (m : Int) < (m : Int) + 3 := by omega
  generalize pw m = P at *
  go_enter Tryz.func153, Tryz.ntmps153
  go_wp2_with fail
  go_quiet (fail)
  go_wp2_with fail
  go_quiet (fail)
  go_wp2_with fail
  go_quiet (fail)
  go_wp2
  clear n1 n3 n4 n5 n6 n7 n8 n9 d1 d2 x1 x2 J1
  go_loopw [9, 10] (fun gv rv wr => ∃ (g r : Int) (q : Nat), gv = .int .u64 g ∧ rv = .int .u64 r ∧ (0 ≤ g ∧ g ≤ 4294967297) ∧ (0 ≤ r ∧ r < 8589934592) ∧ Hid (g * f + r = t) ∧ Hid (W < (g + 1) * V) ∧ wr = w.drewN q) (fun gv _ _ => (intOf gv).toNat)
  case atStart => exact ⟨_, _, _, rfl, rfl, ⟨q0, q1⟩, ⟨r0, by omega⟩, hqr'.out, hst.out, by rw [World.drewN_drewN, World.drewN_drewN]⟩
  case round =>
    obtain ⟨g, r, q, rfl, rfl, ⟨g0, g1⟩, ⟨r0', r1'⟩, hG, hU, rfl⟩ := hrel
    clear q0 q1 r0 r1 hst hqr'
    have hgs0 := Int.mul_nonneg g0 us.1
    have hgs1 : g * s ≤ 4294967297 * s := le_mul g1 us.1
    by_cases hr : 4294967296 ≤ r
    · have b1 : (r / 4294967296 == 0) = false := by simp; omega
      have hg : g < 4294967296 := by
        rcases Int.lt_or_le g 4294967296 with h | h
        · exact h
        · exfalso
          have h1 : 4294967296 * f ≤ g * f := le_mul h (by omega)
          have := hG.out
          have := HT.out
          omega
      have hEnd := guess_end (dl := dl) (wl := wl) (P := P) (by omega) us.1 us.2 u3.1 P0 dl0 dl1 wl0 t0 g0 hg hG.out (.inl hr)
      rw [← HV.out, ← HW.out] at hEnd
      have HE := Lib.hid hEnd
      clear hEnd
      go_wp2
      go_ret
      exact ⟨g, rfl, ⟨g0, hg, hU.out, HE.out⟩, q, rfl⟩
    · have b1 : (r / 4294967296 == 0) = true := by simp; omega
      have J2 := or_join r u r0' (by omega) u3.1 u3.2
      have hG2 : Hid ((g - 1) * f + (r + f) = t) := by show _ = _; have := hG.out; grind
      by_cases hg : 4294967296 ≤ g
      · have b2 : (g / 4294967296 != 0) = true := by simp; omega
        have hU2 : Hid (W < (g - 1 + 1) * V) := by
          show _ < _
          rw [Int.sub_add_cancel]; exact guess_over V0 HLT.out hg
        go_wp2
        go_roundw
        case rel => exact ⟨g - 1, r + f, q, rfl, rfl, by omega, by omega, hG2.out, hU2.out, rfl⟩
        case measure => simp [intOf] <;> omega
      · have b2 : (g / 4294967296 != 0) = false := by simp; omega
        by_cases hc : r * 4294967296 + u < g * s
        · have hg1 : 1 ≤ g := by
            rcases Int.lt_or_le g 1 with h | h
            · have : g = 0 := by omega
              subst this
              simp at hc
              omega
            · exact h
          have hU2 : Hid (W < (g - 1 + 1) * V) := by
            show _ < _
            rw [Int.sub_add_cancel, HW.out, HV.out]; exact guess_high g0 P0 dl0 wl1 hG.out hc
          go_wp2
          go_roundw
          case rel => exact ⟨g - 1, r + f, q, rfl, rfl, by omega, by omega, hG2.out, hU2.out, rfl⟩
          case measure => simp [intOf] <;> omega
        · have hEnd := guess_end (dl := dl) (wl := wl) (P := P) (by omega) us.1 us.2 u3.1 P0 dl0 dl1 wl0 t0 g0 (by omega) hG.out (.inr (by omega))
          rw [← HV.out, ← HW.out] at hEnd
          have HE := Lib.hid hEnd
          clear hEnd
          go_wp2
          go_ret
          exact ⟨g, rfl, ⟨g0, by omega, hU.out, HE.out⟩, q, rfl⟩

theorem guess_n (gx i gd n wc dc : Nat) (X D : List Int) (w : World) (h2 : 2 ≤ n) (hX : Rd w (some ⟨gx, i, none⟩) (n + 1) wc X) (hD : Rd w (some ⟨gd, 0, none⟩) n dc D) (hf : 2147483648 ≤ D.getD (n - 1) 0) (hlt : val X < val D * 4294967296) (hn : n ≤ 1000000) :
    Calls Tryz.prog 153 #[.slice (some ⟨gx, i, none⟩) (n + 1) wc, .slice (some ⟨gd, 0, none⟩) n dc] w (GuessPost (val D) (val X) w) := by
  obtain ⟨m, rfl⟩ : ∃ m, n = m + 2 := ⟨n - 2, by omega⟩
  exact guess_any gx i gd m wc dc X D w hX hD hf hlt (by omega)

end Go.Proofs.YtebbnmjmjoklmaaGreatDoor

namespace Go.Proofs.YtebbnmjmjoklmaaGreatDoor
open Go.RowKit
set_option maxRecDepth 20000

theorem val_high {R : List Int} (hR : Lims R) {k : Nat} (hk : k ≤ R.length) (h : val R < pw k) : val (R.drop k) = 0 ∧ val (R.take k) = val R := by
  have h1 := val_split R k
  rw [List.length_take_of_le hk] at h1
  have h2 := val_nonneg (hR.take k)
  have h3 := val_nonneg (hR.drop k)
  have h4 : val (R.drop k) = 0 := by
    rcases Int.lt_or_le (val (R.drop k)) 1 with h5 | h5
    · omega
    · have : pw k * 1 ≤ pw k * val (R.drop k) := le_mul' h5 (Int.le_of_lt (pw_pos k))
      omega
  rw [h4] at h1
  exact ⟨h4, by omega⟩
theorem val_window (R : List Int) (i n : Nat) (h : i + n + 1 ≤ R.length) : val (R.take (i + n + 1)) = val (R.take i) + pw i * val ((R.drop i).take (n + 1)) := by
  have e : R.take (i + n + 1) = R.take i ++ (R.drop i).take (n + 1) := by rw [Nat.add_assoc, List.take_add]
  rw [e, val_append, List.length_take_of_le (by omega)]
theorem cancel_lt {p a b : Int} (hp : 0 < p) (h : p * a < p * b) : a < b := Int.lt_of_mul_lt_mul_left h (Int.le_of_lt hp)

section
variable {T T' low p W V g q X : Int}
/-- The window less the guessed multiple, nothing borrowed. -/
theorem round_fit (p0 : 0 < p) (l1 : low < p) (hT : T = low + p * W) (hW : W < (g + 1) * V) (hX : X = T + V * (4294967296 * p * q)) (h : T' + p * g * V = T) :
    X = T' + V * (p * (g + 4294967296 * q)) ∧ T' < V * p := by
  constructor
  · rw [hX, ← h]; grind
  · have h1 : p * (W + 1) ≤ p * ((g + 1) * V) := le_mul' (by omega) (by omega)
    rw [Int.mul_add] at h1
    have e : p * ((g + 1) * V) = p * g * V + V * p := by grind
    omega
/-- The window less one multiple too many, and added back. -/
theorem round_back {P o T2 : Int} (p0 : 0 < p) (l0 : 0 ≤ low) (hT : T = low + p * W) (hW : (g - 1) * V ≤ W) (hX : X = T + V * (4294967296 * p * q)) (h : T' + p * g * V = T + P) (hlt : T' < P)
    (h2 : T2 + P * o = T' + p * V) (o0 : 0 ≤ o) (o1 : o ≤ 1) (hlt2 : T2 < P) : X = T2 + V * (p * (g - 1 + 4294967296 * q)) ∧ T2 < V * p := by
  have h3 : p * ((g - 1) * V) ≤ p * W := le_mul' hW (by omega)
  have e : p * ((g - 1) * V) = p * g * V - p * V := by grind
  have ho : o = 1 := by
    rcases Int.lt_or_le o 1 with h4 | h4
    · have : o = 0 := by omega
      subst this
      omega
    · omega
  subst ho
  have hT2 : T2 = T - p * ((g - 1) * V) := by omega
  constructor
  · rw [hX, hT2]; grind
  · have e2 : V * p = p * V := Int.mul_comm ..
    omega
end
theorem drop_set_val {Q : List Int} {i : Nat} {g : Int} (h : i < Q.length) : val ((Q.set i g).drop i) = g + 4294967296 * val (Q.drop (i + 1)) := by
  rw [List.drop_eq_getElem_cons (l := Q.set i g) (by simpa using h), val_cons, List.getElem_set_self, drop_set]

/-- The quotient and the remainder, from what the loop leaves. -/
theorem long_end {a b q r t : Int} (t0 : 0 < t) (h : a * t = r + b * t * q) (r0 : 0 ≤ r) (r1 : r < b * t) : q = a / b ∧ r / t = a % b := by
  have e : r = t * (a - b * q) := by grind
  have b0 : 0 < b := by
    rcases Int.lt_or_le 0 b with h1 | h1
    · exact h1
    · exfalso
      have : b * t ≤ 0 * t := le_mul h1 (by omega)
      omega
  have h2 : 0 ≤ a - b * q := by
    rcases Int.lt_or_le (a - b * q) 0 with h3 | h3
    · exfalso
      have : t * (a - b * q) ≤ t * (-1) := le_mul' (by omega) (by omega)
      omega
    · exact h3
  have h4 : a - b * q < b := by
    refine cancel_lt t0 ?_
    rw [← e, Int.mul_comm t b]; exact r1
  have h5 : a = (a - b * q) + b * q := by omega
  have hq : q = a / b := by
    rw [h5, Int.add_mul_ediv_left _ _ (by omega), Int.ediv_eq_zero_of_lt h2 h4]; omega
  refine ⟨hq, ?_⟩
  rw [e, Int.mul_ediv_cancel_left _ (by omega)]
  have := Int.mul_ediv_add_emod a b
  rw [← hq] at this
  omega

theorem guess_w (gx i gd n wl wc dc : Nat) (X D : List Int) (w : World) (hwl : wl = n + 1) (h2 : 2 ≤ n) (hX : Rd w (some ⟨gx, i, none⟩) (n + 1) wc X) (hD : Rd w (some ⟨gd, 0, none⟩) n dc D) (hf : 2147483648 ≤ D.getD (n - 1) 0) (hlt : val X < val D * 4294967296) (hn : n ≤ 1000000) :
    Calls Tryz.prog 153 #[.slice (some ⟨gx, i, none⟩) wl wc, .slice (some ⟨gd, 0, none⟩) n dc] w (GuessPost (val D) (val X) w) := by
  subst hwl
  exact guess_n gx i gd n wc dc X D w h2 hX hD hf hlt hn
theorem subMul_w (g base N C i n wl wc dc : Nat) (dA : Option Addr) (R D : List Int) (w : World) (t : Int) (hwl : wl = n + 1) (hR : Mine w base (some ⟨g, 0, none⟩) N C R) (hD : Rd w dA n dc D) (hfar : ∀ a, dA = some a → a.block ≠ g)
    (hN : i + n + 1 ≤ N) (hn : N ≤ 1000000) (hwc : n + 1 ≤ wc) (t0 : 0 ≤ t) (t1 : t < 4294967296) :
    Calls Tryz.prog 154 #[.slice (some ⟨g, i, none⟩) wl wc, .slice dA n dc, .int .u32 t] w (SubMulPost g base N C i n R D (pw i * t) w) := by
  subst hwl
  exact subMul_any g base N C i n wc dc dA R D w t hR hD hfar hN hn hwc t0 t1
theorem addBack_w (g base N C i n wl wc dc : Nat) (dA : Option Addr) (R D : List Int) (w : World) (hwl : wl = n + 1) (hR : Mine w base (some ⟨g, 0, none⟩) N C R) (hD : Rd w dA n dc D) (hfar : ∀ a, dA = some a → a.block ≠ g)
    (hN : i + n + 1 ≤ N) (hn : N ≤ 1000000) (hwc : n + 1 ≤ wc) :
    Calls Tryz.prog 155 #[.slice (some ⟨g, i, none⟩) wl wc, .slice dA n dc] w (AddBackPost g base N C i n R D w) := by
  subst hwl
  exact addBack_any g base N C i n wc dc dA R D w hR hD hfar hN hn hwc

def GivesQR (w : World) (q r : Int) (e : Ending) (w' : World) : Prop :=
  ∃ A n c Q B m d R, e = .returned (.tuple #[.slice A n c, .slice B m d]) ∧ Mine w' w.heap.size A n c Q ∧ Is Q q ∧ Mine w' w.heap.size B m d R ∧ Is R r ∧ Below w.heap.size w w'

set_option maxHeartbeats 4000000 in
theorem divideLong_any (A B : Option Addr) (la ca n cb : Nat) (L M : List Int) (w : World) (hr : Rd w A la ca L) (hs : Rd w B n cb M) (h2n : 2 ≤ n) (hM : trim M = M) (hle : n ≤ la) (hn : la ≤ 900000) :
    Calls Tryz.prog 133 #[.slice A la ca, .slice B n cb] w (GivesQR w (val L / val M) (val L % val M)) := by
  obtain ⟨i0, hi, hz0, hz1, hz2⟩ := info_parts info_limb
  -- the top limb of the divisor, and the shift
  obtain ⟨ab, rfl, habw, hcM⟩ := hs.at_ (by omega)
  have en : n - 1 + 1 = n := by omega
  have hpn : pw n = 4294967296 * pw (n - 1) := by rw [← pw_succ, en]
  have cM := hcM (n - 1) (by omega)
  have uM := hs.lims.getD (n - 1)
  have hne := last_ne hM (n - 1) (by rw [hs.len]; omega)
  have hMv := val_take_getD M (n - 1)
  rw [List.take_of_length_le (by rw [hs.len]; omega)] at hMv
  have hM0 := val_nonneg (hs.lims.take (n - 1))
  have hM1 := val_lt (hs.lims.take (n - 1))
  rw [List.length_take_of_le (by rw [hs.len]; omega)] at hM1
  obtain ⟨d, hd⟩ : ∃ d, M.getD (n - 1) 0 = d := ⟨_, rfl⟩
  rw [hd] at cM uM hne hMv
  have hbl : Lib.bitLen d.toNat ≤ 32 := Lib.bitLen_le d.toNat 32 (by decide) (by omega)
  obtain ⟨s, hsE⟩ := Int.eq_ofNat_of_zero_le (show 0 ≤ 32 - (Lib.bitLen d.toNat : Int) by omega)
  obtain ⟨s31, t0, t1⟩ := top_shift (d := d) (s := s) (by omega) uM.2 hsE.symm
  have hlz := leading_any d w uM.1 uM.2
  rw [hsE] at hlz
  have HLZ := Lib.hid hlz
  have tp : (0 : Int) < 2 ^ s := Int.pow_pos (by decide)
  -- the shifted divisor fits into its own limbs, and its top bit is set
  have hVlt : val M * 2 ^ s < pw n := by
    have h1 : val M * 2 ^ s ≤ ((d + 1) * pw (n - 1) - 1) * 2 ^ s := by
      refine le_mul ?_ (by omega)
      rw [hMv]
      have e : (d + 1) * pw (n - 1) = pw (n - 1) + pw (n - 1) * d := by grind
      omega
    have h2 : pw (n - 1) * ((d + 1) * 2 ^ s) ≤ pw (n - 1) * 4294967296 := by
      refine le_mul' ?_ (Int.le_of_lt (pw_pos _))
      have e31 : (2 : Int) ^ s * 2 ^ (32 - s) = 4294967296 := by rw [← Int.pow_add, show s + (32 - s) = 32 from by omega]; decide
      have h3 : d * 2 ^ s < 2 ^ (32 - s) * 2 ^ s := by rw [Int.mul_comm (2 ^ (32 - s)), e31]; exact t1
      have h4 : d < 2 ^ (32 - s) := Int.lt_of_mul_lt_mul_right h3 (by omega)
      have h5 : (d + 1) * 2 ^ s ≤ 2 ^ (32 - s) * 2 ^ s := le_mul (by omega) (by omega)
      rw [Int.mul_comm (2 ^ (32 - s)), e31] at h5
      exact h5
    have e2 : ((d + 1) * pw (n - 1) - 1) * 2 ^ s = pw (n - 1) * ((d + 1) * 2 ^ s) - 2 ^ s := by grind
    rw [hpn]
    omega
  have hVge : 2147483648 * pw (n - 1) ≤ val M * 2 ^ s := by
    have h1 : pw (n - 1) * d * 2 ^ s ≤ val M * 2 ^ s := le_mul (by omega) (by omega)
    have h2 : pw (n - 1) * 2147483648 ≤ pw (n - 1) * (d * 2 ^ s) := le_mul' t0 (Int.le_of_lt (pw_pos _))
    have e : pw (n - 1) * d * 2 ^ s = pw (n - 1) * (d * 2 ^ s) := Int.mul_assoc ..
    omega
  have sp : (2 : Int) ^ s ≤ 2147483648 := by
    have h2 : (2 : Nat) ^ s ≤ 2 ^ 31 := Nat.pow_le_pow_right (by decide) s31
    have h3 : (2 : Int) ^ s ≤ 2 ^ 31 := by exact_mod_cast h2
    have e31 : (2 : Int) ^ 31 = 2147483648 := by decide
    omega
  have LT := val_lt hr.lims
  rw [hr.len] at LT
  have L0 := val_nonneg hr.lims
  obtain ⟨V, hV⟩ : ∃ V, V = val M * 2 ^ s := ⟨_, rfl⟩
  obtain ⟨X, hX⟩ : ∃ X, X = val L * 2 ^ s := ⟨_, rfl⟩
  rw [← hV] at hVlt hVge
  have hXlt : X < V * pw (la - (n - 1)) := by
    have h1 : (val L + 1) * 2 ^ s ≤ pw la * 2 ^ s := le_mul (by omega) (by omega)
    have h2 : pw la * 2 ^ s ≤ pw la * 2147483648 := le_mul' sp (Int.le_of_lt (pw_pos _))
    have h3 : 2147483648 * pw (n - 1) * pw (la - (n - 1)) ≤ V * pw (la - (n - 1)) := le_mul hVge (Int.le_of_lt (pw_pos _))
    have e : 2147483648 * pw (n - 1) * pw (la - (n - 1)) = pw la * 2147483648 := by
      rw [Int.mul_assoc, ← pw_add, show n - 1 + (la - (n - 1)) = la from by omega, Int.mul_comm]
    rw [Int.add_mul] at h1
    omega
  have V0 : 0 < V := by have := pw_pos (n - 1); omega
  have HV := Lib.hid hV
  have HX := Lib.hid hX
  have HVlt := Lib.hid hVlt
  have HVge := Lib.hid hVge
  have HXlt := Lib.hid hXlt
  have HMl := Lib.hid hs.len
  have HEN := Lib.hid en
  have HPN := Lib.hid hpn
  clear en hpn hlz hcM hd hsE hMv hM0 hM1 hVlt hVge hXlt hV hX t0 t1 sp LT hM hne hbl
  go_enter Tryz.func133, Tryz.ntmps133
  go_wp2_with fail
  refine HLZ.out.mono ?_
  rintro e w' ⟨rfl, rfl⟩
  go_wp2_with fail
  refine (shiftLeft_any _ _ _ s M w hs (by omega) s31).mono ?_
  rintro e w1 ⟨gD, S, rfl, hS, hSv, hB1⟩
  have hgD := hS.lt _ rfl
  rw [← HV.out] at hSv
  obtain ⟨D, hD⟩ : ∃ D, D = S.take n := ⟨_, rfl⟩
  have hDm := hS.take (k := n) (by omega) (by omega)
  rw [← hD] at hDm
  have hDv : Hid (val D = V) := by
    show _ = _
    rw [hD, (val_high hS.lims (by rw [hS.len]; omega) (by rw [hSv]; exact HVlt.out)).2, hSv]
  have hDt : Hid (2147483648 ≤ D.getD (n - 1) 0) := by
    show _ ≤ _
    have h1 := val_take_getD D (n - 1)
    rw [List.take_of_length_le (by rw [hDm.len]; omega), hDv.out] at h1
    have h2 := val_lt (hDm.lims.take (n - 1))
    rw [List.length_take_of_le (by rw [hDm.len]; omega)] at h2
    have h3 := HVge.out
    rcases Int.lt_or_le (D.getD (n - 1) 0) 2147483648 with h4 | h4
    · exfalso
      have h5 : pw (n - 1) * (D.getD (n - 1) 0 + 1) ≤ pw (n - 1) * 2147483648 := le_mul' (by omega) (Int.le_of_lt (pw_pos _))
      rw [Int.mul_add] at h5
      omega
    · exact h4
  clear hS hSv hD cM HLZ
  have hr1 := hr.below hB1
  go_wp2_with fail
  refine (shiftLeft_any _ _ _ s L w1 hr1 (by omega) s31).mono ?_
  rintro e w2 ⟨gR, R0, rfl, hR0, hR0v, hB2⟩
  have hgR := hR0.lt _ rfl
  have hDm2 := hDm.below hB2
  rw [← HX.out] at hR0v
  have hW2 := nextB hB1 hB2
  have HR0v := Lib.hid hR0v
  clear hr1 hDm hR0v
  go_wp2_with (at_make; refine wpList_make_full _ rfl _ _ 40 rfl w2.heap.size 71 i0 (.int .u32 0) 1 Tryz.underlying40 hi hz0 hz1 _ _ _ _ (la - n + 1) rfl rfl ?b0 ?b1 ?b2 ?b3 (Nat.le_refl _) ?_)
  case b0 => go_num
  case b1 => go_num
  case b2 => rw [hz2]; omega
  case b3 => unfold maxLen; omega
  intro w3 hown hgrow
  have hQ0 := (Mine.zero hown).more hW2.size
  have hB3 := below_of_grown hgrow
  have hR3 := (hR0.below hB3).more hB1.size
  have hD3 := hDm2.below hB3
  have hW3 := nextB hW2 hB3
  have hDR : gD ≠ gR := by omega
  have hRQ : gR ≠ w2.heap.size := by omega
  have hDQ : gD ≠ w2.heap.size := by have := hB2.size; omega
  obtain ⟨gQ, hgQ⟩ : ∃ gQ, gQ = w2.heap.size := ⟨_, rfl⟩
  have hgQw : w.heap.size ≤ gQ := by have := hW2.size; omega
  rw [← hgQ] at hQ0 hRQ hDQ ⊢
  have hgRw : w.heap.size ≤ gR := by have := hB1.size; omega
  clear hown hgrow hB1 hB2 hB3 hW2 hR0 hDm2 hgR hgD hgQ hi hz0 hz1 hz2
  go_wp2
  go_loopw [10] (fun iv wr => ∃ (k : Nat) (R Q : List Int), k ≤ la - n + 1 ∧ iv = .int .i64 ((k : Int) - 1) ∧ Mine wr w.heap.size (some ⟨gR, 0, none⟩) (la + 1) (la + 1) R ∧ Mine wr w.heap.size (some ⟨gQ, 0, none⟩) (la - n + 1) (la - n + 1) Q ∧
      Mine wr w.heap.size (some ⟨gD, 0, none⟩) n (n + 1) D ∧ Hid (X = val R + V * (pw k * val (Q.drop k))) ∧ Hid (val R < V * pw k) ∧ Below w.heap.size w wr) (fun iv _ => (intOf iv + 1).toNat)
  case atStart =>
    refine ⟨la - n + 1, R0, _, Nat.le_refl _, by go_num, hR3, hQ0, hD3, ?_, ?_, hW3⟩
    · show _ = _
      rw [List.drop_eq_nil_of_le (by simp), HR0v.out]; simp [val]
    · show _ < _
      have h1 := HXlt.out
      rw [HR0v.out, show la - n + 1 = la - (n - 1) from by omega]; exact h1
  case round =>
    obtain ⟨k, R, Q, hk, rfl, hR, hQ, hDw, hE, hlt, hB⟩ := hrel
    clear hR3 hQ0 hD3 hW3 HR0v
    by_cases h0 : k = 0
    · subst h0
      have hend := long_end (a := val L) (b := val M) (q := val Q) (r := val R) tp (by
        have h1 := hE.out
        rw [HX.out, HV.out] at h1
        simp only [pw_zero, Int.one_mul, List.drop_zero] at h1
        exact h1) (val_nonneg hR.lims) (by
        have h1 := hlt.out
        rw [pw_zero, Int.mul_one, HV.out] at h1
        exact h1)
      have hRt := (val_high hR.lims (k := n) (by rw [hR.len]; omega) (by
        have h1 := hlt.out
        have h2 := HVlt.out
        rw [pw_zero, Int.mul_one] at h1
        omega)).2
      have hQI : Is (trim Q) (val L / val M) := by
        have h1 := Is.mk_trim hQ.lims
        rw [hend.1] at h1
        exact h1
      have HE := Lib.hid hend
      have HR := Lib.hid hRt
      have HQI := Lib.hid hQI
      have HST := Lib.hid (strip_any _ _ _ _ wr.drew hQ.drew.rd)
      have hRn := hR.take (k := n) (by omega) (by omega)
      have HSH := Lib.hid (shiftRight_any _ _ _ s _ wr.drew hRn.drew.rd (by omega) s31)
      have hQd := hQ.drew
      have hBd := hB.drew
      clear hE hlt hDw hR hQ hB hRn hend hRt hQI
      go_wp2
      go_region_with (first
        | (go_at_call_of 94 gQ; refine HST.out.mono ?_; rintro e w' ⟨A1, n1, c1, rfl, hS1, rfl⟩)
        | (go_at_call 156; refine HSH.out.mono ?_; rintro e w5 ⟨A2, c2, S2, rfl, hS2, hv2, hB2⟩)
        | (go_at_call 94; refine (strip_any _ _ _ _ _ hS2.rd).mono ?_; rintro e w' ⟨A3, n3, c3, rfl, hS3, rfl⟩))
      all_goals
        have hI2 := Is.mk_trim hS2.lims
        rw [hv2, HR.out, HE.out.2] at hI2
        have HI2 := Lib.hid hI2
        have hM1 := (hS1.mine hQd).below hB2
        have hM3 := (hS3.mine hS2).more hBd.size
        have hB4 := hBd.trans (hB2.mono hBd.size)
        clear hI2 hv2 hS1 hS2 hS3
        go_wp2
        go_ret2
        exact ⟨A1, n1, c1, _, A3, n3, c3, _, rfl, hM1, HQI.out, hM3, HI2.out, hB4⟩
    · obtain ⟨i, rfl⟩ : ∃ i, k = i + 1 := ⟨k - 1, by omega⟩
      have hin : i + n + 1 ≤ la + 1 := by omega
      have hRl := hR.len
      have HRl := Lib.hid hRl
      have hhigh := val_high hR.lims (k := i + n + 1) (by omega) (by
        have h1 : V * pw (i + 1) ≤ pw n * pw (i + 1) := le_mul (Int.le_of_lt HVlt.out) (Int.le_of_lt (pw_pos _))
        rw [← pw_add, show n + (i + 1) = i + n + 1 from by omega] at h1
        have := hlt.out
        omega)
      have hwin := val_window R i n (by omega)
      have hwr := hR.window (i := i) (k := n + 1) (by omega) (by omega)
      have hWlt : val ((R.drop i).take (n + 1)) < val D * 4294967296 := by
        refine cancel_lt (pw_pos i) ?_
        have h1 := val_nonneg (hR.lims.take i)
        have h2 := hlt.out
        rw [pw_succ] at h2
        have e : pw i * (val D * 4294967296) = V * (4294967296 * pw i) := by rw [hDv.out]; grind
        rw [hhigh.2] at hwin
        omega
      have hg := guess_w gR i gD n (i + n + 1 - i) (la + 1 - i) (n + 1) _ D wr (by omega) h2n hwr hDw.rd hDt.out hWlt (by omega)
      rw [hDv.out] at hg
      have HG := Lib.hid hg
      have HH := Lib.hid hhigh
      have HWI := Lib.hid hwin
      clear hg hhigh hwin hwr hWlt hRl h0
      go_wp2_with fail
      refine HG.out.mono ?_
      rintro e w' ⟨q, rfl, hnear, kk, rfl⟩
      obtain ⟨q0, q1, qlo, qhi⟩ := hnear
      have HLO := Lib.hid qlo
      have HHI := Lib.hid qhi
      have hRd := hR.drewN kk
      have hQd := hQ.drewN kk
      have hDd := hDw.drewN kk
      have hBd := drewN_below hB kk
      have hlenQ := hQ.len
      have HQl := Lib.hid hlenQ
      clear qlo qhi HG hR hQ hDw hB hlenQ
      go_wp2_with fail
      refine (subMul_w gR w.heap.size (la + 1) (la + 1) i n _ (la + 1 - i) (n + 1) _ R D _ q (by omega) hRd hDd.rd (by intro a ha; injection ha with ha; rw [← ha]; exact hDR) hin (by omega) (by omega) q0 q1).mono ?_
      rintro e w4 hpost
      rcases hpost with ⟨R', rfl, hwin'⟩ | ⟨R', rfl, hwin'⟩
      · obtain ⟨hR4, hlow, hhi, hval, hO⟩ := hwin'
        have hQ4 := hQd.other hO (by intro a a' ha ha'; injection ha with ha; injection ha' with ha'; rw [← ha, ← ha']; exact hRQ)
        have hD4 := hDd.other hO (by intro a a' ha ha'; injection ha with ha; injection ha' with ha'; rw [← ha, ← ha']; exact fun e => hDR e.symm)
        have hB4 := hBd.trans (hO.below fun a ha => by injection ha with ha; rw [← ha]; exact hgRw)
        have cQ := hQ4.cellAt (i := i) (by omega)
        have fQ := hQ4.frozenAt i
        have hQ5 := hQ4.stored i q0 q1
        have hD5 := hD4.far (p := ⟨gQ, i, none⟩) (by intro a ha; injection ha with ha; rw [← ha]; exact hDQ) (.int .u32 q)
        have hR5 := hR4.far (p := ⟨gQ, i, none⟩) (by intro a ha; injection ha with ha; rw [← ha]; exact hRQ) (.int .u32 q)
        have hfin : Hid (X = val R' + V * (pw i * val ((Q.set i q).drop i)) ∧ val R' < V * pw i) := by
          show _ ∧ _
          have h1 : val R' = val (R'.take (i + n + 1)) := by
            have h2 := val_split R' (i + n + 1)
            rw [hhi, HH.out.1] at h2
            omega
          rw [drop_set_val (by rw [HQl.out]; omega), h1]
          refine round_fit (pw_pos i) ?_ HWI.out HLO.out ?_ ?_
          · have := val_lt (hRd.lims.take i)
            rwa [List.length_take_of_le (by rw [HRl.out]; omega)] at this
          · rw [HH.out.2, hE.out, pw_succ]
          · rw [hDv.out] at hval; omega
        clear hval hhi hlow hRd hQd hDd hBd
        generalize Q.getD i 0 = y at *
        go_wp2
        go_roundw
        case rel => exact ⟨i, R', _, by omega, by go_num, hR5, hQ5, hD5, hfin.out.1, hfin.out.2, hB4.setCell hgQw _⟩
        case measure => simp [intOf] <;> omega
      · obtain ⟨hR4, hlow, hhi, hval, hO⟩ := hwin'
        have hQ4 := hQd.other hO (by intro a a' ha ha'; injection ha with ha; injection ha' with ha'; rw [← ha, ← ha']; exact hRQ)
        have hD4 := hDd.other hO (by intro a a' ha ha'; injection ha with ha; injection ha' with ha'; rw [← ha, ← ha']; exact fun e => hDR e.symm)
        have hB4 := hBd.trans (hO.below fun a ha => by injection ha with ha; rw [← ha]; exact hgRw)
        have hlow2 := val_lt (hRd.lims.take i)
        rw [List.length_take_of_le (by rw [HRl.out]; omega)] at hlow2
        have hT1 := val_lt (hR4.lims.take (i + n + 1))
        rw [List.length_take_of_le (by rw [hR4.len]; omega)] at hT1
        have hlow0 := val_nonneg (hRd.lims.take i)
        have hT0 := val_nonneg (hRd.lims.take (i + n + 1))
        have q2 : 1 ≤ q := by
          rcases Int.lt_or_le q 1 with h | h
          · exfalso
            have : q = 0 := by omega
            subst this
            simp only [Int.mul_zero, Int.zero_mul, Int.add_zero, Int.mul_one] at hval
            omega
          · exact h
        have HVAL := Lib.hid hval
        have HT1 := Lib.hid hT1
        have HL2 := Lib.hid hlow2
        have HHI2 := Lib.hid hhi
        clear hval hT1 hlow2 hlow0 hT0 hhi hlow
        go_wp2_with fail
        refine (addBack_w gR w.heap.size (la + 1) (la + 1) i n _ (la + 1 - i) (n + 1) _ R' D _ (by omega) hR4 hD4.rd (by intro a ha; injection ha with ha; rw [← ha]; exact hDR) hin (by omega) (by omega)).mono ?_
        rintro e w5 ⟨R2, o, rfl, hR5, _, hhi3, hval3, ⟨o0, o1⟩, hO5⟩
        have hQ5 := hQ4.other hO5 (by intro a a' ha ha'; injection ha with ha; injection ha' with ha'; rw [← ha, ← ha']; exact hRQ)
        have hD5 := hD4.other hO5 (by intro a a' ha ha'; injection ha with ha; injection ha' with ha'; rw [← ha, ← ha']; exact fun e => hDR e.symm)
        have hB5 := hB4.trans (hO5.below fun a ha => by injection ha with ha; rw [← ha]; exact hgRw)
        have cQ := hQ5.cellAt (i := i) (by omega)
        have fQ := hQ5.frozenAt i
        have hQ6 := hQ5.stored i (x := q - 1) (by omega) (by omega)
        have hD6 := hD5.far (p := ⟨gQ, i, none⟩) (by intro a ha; injection ha with ha; rw [← ha]; exact hDQ) (.int .u32 (q - 1))
        have hR6 := hR5.far (p := ⟨gQ, i, none⟩) (by intro a ha; injection ha with ha; rw [← ha]; exact hRQ) (.int .u32 (q - 1))
        have hfin : Hid (X = val R2 + V * (pw i * val ((Q.set i (q - 1)).drop i)) ∧ val R2 < V * pw i) := by
          show _ ∧ _
          have h1 : val R2 = val (R2.take (i + n + 1)) := by
            have h2 := val_split R2 (i + n + 1)
            rw [hhi3, HHI2.out, HH.out.1] at h2
            omega
          have h3 := val_lt (hR5.lims.take (i + n + 1))
          rw [List.length_take_of_le (by rw [hR5.len]; omega)] at h3
          rw [drop_set_val (by rw [HQl.out]; omega), h1]
          refine round_back (P := pw (i + n + 1)) (o := o) (T' := val (R'.take (i + n + 1))) (pw_pos i) (val_nonneg (hRd.lims.take i)) HWI.out HHI.out ?_ ?_ HT1.out ?_ o0 o1 h3
          · rw [HH.out.2, hE.out, pw_succ]
          · have := HVAL.out
            rw [hDv.out] at this
            omega
          · rw [hDv.out] at hval3; exact hval3
        clear hval3 hhi3 hRd hQd hDd hBd hR4 hD4 hQ4
        generalize Q.getD i 0 = y at *
        go_wp2
        go_roundw
        case rel => exact ⟨i, R2, _, by omega, by go_num, hR6, hQ6, hD6, hfin.out.1, hfin.out.2, hB5.setCell hgQw _⟩
        case measure => simp [intOf] <;> omega

theorem divMod_long (A B : Option Addr) (n c m d : Nat) (L M : List Int) (w : World) (hr : Rd w A n c L) (hs : Rd w B m d M) (hn : n ≤ 900000) (h1 : 2 ≤ (trim M).length) (h2 : (trim M).length ≤ (trim L).length) :
    Calls Tryz.prog 102 #[.slice A n c, .slice B m d] w (Gives2 w (val L / val M) (val L % val M)) := by
  have y1 := trim_length_le L
  rw [hr.len] at y1
  go_enter Tryz.func102, Tryz.ntmps102
  go_wp2_with fail
  refine (strip_any A n c L w hr).mono ?_
  rintro e w' ⟨A', n', c', rfl, hS, rfl⟩
  have hr' := hS.rd hr
  have l1 := hr'.len
  clear hS
  go_wp2_with fail
  refine (strip_any B m d M w hs).mono ?_
  rintro e w' ⟨B', m', d', rfl, hS, rfl⟩
  have hs' := hS.rd hs
  have l2 := hs'.len
  have hcap := hr'.cap
  have htop := hr'.top
  unfold maxLen at htop
  have b1 : 2 ≤ m' := by omega
  have b2 : m' ≤ n' := by omega
  have b3 : n' ≤ 900000 := by omega
  have hz : ((m' : Int) == 0) = false := by simp; omega
  have hz1 : ((m' : Int) == 1) = false := by simp; omega
  have HD := divideLong_any A' B' n' c' m' d' (trim L) (trim M) w hr' hs' b1 (trim_trim M) b2 b3
  rw [val_trim, val_trim] at HD
  have HDH := Lib.hid HD
  clear HD hS l1 l2 h1 h2 y1
  go_wp2_with fail
  refine HDH.out.mono ?_
  rintro e w1 ⟨A1, n1, c1, Q, A2, n2, c2, R, rfl, hQ, iQ, hR, iR, hB⟩
  have IQ := Lib.hid iQ
  have IR := Lib.hid iR
  clear iQ iR
  go_wp2
  go_ret3
  exact ⟨A1, n1, c1, Q, A2, n2, c2, R, rfl, hQ, IQ.out, hR, IR.out, hB⟩

/-- natural.DivMod, whatever the divisor but zero. -/
theorem divMod_any (A B : Option Addr) (n c m d : Nat) (L M : List Int) (w : World) (hr : Rd w A n c L) (hs : Rd w B m d M) (hn : n ≤ 900000) (h0 : val M ≠ 0) :
    Calls Tryz.prog 102 #[.slice A n c, .slice B m d] w (Gives2 w (val L / val M) (val L % val M)) := by
  rcases Nat.lt_or_ge (trim L).length (trim M).length with h1 | h1
  · exact divMod_less A B n c m d L M w hr hs (by omega) h1
  · match h2 : (trim M).length with
    | 0 =>
      exfalso
      have h3 : trim M = [] := List.eq_nil_of_length_eq_zero h2
      have h4 := val_trim M
      rw [h3] at h4
      exact h0 h4.symm
    | 1 => exact divMod_one A B n c m d L M w hr hs (by omega) (by omega) h2
    | k + 2 => exact divMod_long A B n c m d L M w hr hs hn (by omega) h1

end Go.Proofs.YtebbnmjmjoklmaaGreatDoor
