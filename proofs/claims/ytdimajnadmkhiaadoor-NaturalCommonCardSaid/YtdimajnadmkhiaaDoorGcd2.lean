/-
  natural.window: the leading bits of a number.
-/
import Derived.Test.YtdimajnadmkhiaaDoorGcd1
namespace Go.Proofs.YtdimajnadmkhiaaDoor
open Go.RowKit

theorem or_low64 (x y : Int) (s : Nat) (x0 : 0 ≤ x * 2 ^ s) (x1 : x * 2 ^ s < 18446744073709551616) (y0 : 0 ≤ y) (y1 : y < 2 ^ s) (hs : s ≤ 31) : bits .or .u64 (x * 2 ^ s) y = x * 2 ^ s + y := by
  have e32 : (2 : Int) ^ s ≤ 2 ^ 31 := by
    have h2 : (2 : Nat) ^ s ≤ 2 ^ 31 := Nat.pow_le_pow_right (by decide) hs
    exact_mod_cast h2
  have e31 : (2 : Int) ^ 31 = 2147483648 := by decide
  rw [u64_or _ _ x0 x1 y0 (by omega), nat_join s]
  · omega
  · obtain ⟨n, hn⟩ := Int.eq_ofNat_of_zero_le x0
    rw [hn, Int.toNat_natCast]
    have h3 : ((2 ^ s : Nat) : Int) ∣ (n : Int) := ⟨x, by rw [← hn]; push_cast; rw [Int.mul_comm]⟩
    exact Nat.mod_eq_zero_of_dvd (Int.natCast_dvd_natCast.1 h3)
  · obtain ⟨n, rfl⟩ := Int.eq_ofNat_of_zero_le y0
    rw [Int.toNat_natCast]
    exact_mod_cast y1

/-- The weight of the last of the leading bits of a number of n limbs whose first s bits are zero. -/
def lastBit (n s : Nat) : Int := pw (n - 3) * 2 ^ (32 - s) * 4
theorem lastBit_pos (n s : Nat) : 0 < lastBit n s := by
  have h1 := pw_pos (n - 3)
  have h2 : (0 : Int) < 2 ^ (32 - s) := Int.pow_pos (by decide)
  exact Int.mul_pos (Int.mul_pos h1 h2) (by decide)

theorem two_split (s : Nat) (hs : s ≤ 31) : (2 : Int) ^ s * 2 ^ (32 - s) = 4294967296 := by
  rw [← Int.pow_add, show s + (32 - s) = 32 from by omega]; decide

theorem val_three (L : List Int) (n : Nat) (h3 : 3 ≤ n) (hl : L.length ≤ n) :
    val L = val (L.take (n - 3)) + pw (n - 3) * (L.getD (n - 3) 0 + 4294967296 * L.getD (n - 2) 0 + 18446744073709551616 * L.getD (n - 1) 0) := by
  have e1 := val_take_getD L (n - 3)
  have e2 := val_take_getD L (n - 3 + 1)
  have e3 := val_take_getD L (n - 3 + 1 + 1)
  rw [List.take_of_length_le (l := L) (i := n - 3 + 1 + 1 + 1) (by omega)] at e3
  have p1 := pw_succ (n - 3)
  have p2 := pw_succ (n - 3 + 1)
  rw [show n - 3 + 1 = n - 2 from by omega] at e1 e2 e3 p1 p2
  rw [show n - 2 + 1 = n - 1 from by omega] at e2 e3 p2
  rw [e3, e2, e1, p2, p1]
  grind

/-- The leading bits, by the first three limbs. -/
theorem lead_word (L : List Int) (n s : Nat) (h3 : 3 ≤ n) (hs : s ≤ 31) (hl : L.length ≤ n) (hL : Lims L) (hV : val L * 2 ^ s < pw n) :
    ∃ t0 t1 t2, L.getD (n - 1) 0 = t0 ∧ L.getD (n - 2) 0 = t1 ∧ L.getD (n - 3) 0 = t2 ∧ (0 ≤ t0 ∧ t0 < 4294967296) ∧ (0 ≤ t1 ∧ t1 < 4294967296) ∧ (0 ≤ t2 ∧ t2 < 4294967296) ∧
      0 ≤ (t0 * 4294967296 + t1) * 2 ^ s ∧ (t0 * 4294967296 + t1) * 2 ^ s < 18446744073709551616 ∧ 0 ≤ t2 / 2 ^ (32 - s) ∧ t2 / 2 ^ (32 - s) < 2 ^ s ∧
      (t0 * 4294967296 + t1) * 2 ^ s + t2 / 2 ^ (32 - s) < 18446744073709551616 ∧ 0 ≤ val L / lastBit n s ∧ val L / lastBit n s < 4611686018427387904 ∧
      ((t0 * 4294967296 + t1) * 2 ^ s + t2 / 2 ^ (32 - s)) / 4 = val L / lastBit n s := by
  have u0 := hL.getD (n - 1)
  have u1 := hL.getD (n - 2)
  have u2 := hL.getD (n - 3)
  have e := val_three L n h3 hl
  have p0 := pw_pos (n - 3)
  have lo0 := val_nonneg (hL.take (n - 3))
  have lo1 := val_lt (hL.take (n - 3))
  have lo2 : pw (L.take (n - 3)).length ≤ pw (n - 3) := pw_mono (by rw [List.length_take]; omega)
  have hm := two_split s hs
  have hp : (0 : Int) < 2 ^ s := Int.pow_pos (by decide)
  have hq : (0 : Int) < 2 ^ (32 - s) := Int.pow_pos (by decide)
  have hpn : pw n = pw (n - 3) * 79228162514264337593543950336 := by
    have p1 := pw_succ (n - 3)
    have p2 := pw_succ (n - 3 + 1)
    have p3 := pw_succ (n - 3 + 1 + 1)
    rw [show n - 3 + 1 + 1 + 1 = n from by omega] at p3
    rw [p3, p2, p1]; omega
  unfold lastBit
  generalize L.getD (n - 1) 0 = t0 at *
  generalize L.getD (n - 2) 0 = t1 at *
  generalize L.getD (n - 3) 0 = t2 at *
  generalize val (L.take (n - 3)) = lo at *
  generalize pw (n - 3) = P at *
  generalize (2 : Int) ^ s = S at *
  generalize (2 : Int) ^ (32 - s) = Q at *
  obtain ⟨X, hX⟩ : ∃ X, X = t2 + 4294967296 * t1 + 18446744073709551616 * t0 := ⟨_, rfl⟩
  rw [← hX] at e
  have dV : val L / P = X := by
    rw [e, Int.add_mul_ediv_left _ _ (by omega), Int.ediv_eq_zero_of_lt lo0 (by omega)]; omega
  have dX : X / Q = (t0 * 4294967296 + t1) * S + t2 / Q := by
    have : X = t2 + Q * ((t0 * 4294967296 + t1) * S) := by
      have h1 : Q * ((t0 * 4294967296 + t1) * S) = (S * Q) * (t0 * 4294967296 + t1) := by grind
      rw [h1, hm, hX]; omega
    rw [this, Int.add_mul_ediv_left _ _ (by omega), Int.add_comm]
  have hXS : X * S < 79228162514264337593543950336 := by
    have h1 : P * X * S ≤ val L * S := le_mul (by rw [e]; omega) (by omega)
    have h2 : P * (X * S) < P * 79228162514264337593543950336 := by rw [← Int.mul_assoc, ← hpn]; omega
    exact Int.lt_of_mul_lt_mul_left h2 (by omega)
  have hXQ : X / Q < 18446744073709551616 := by
    apply Int.ediv_lt_of_lt_mul hq
    have h1 : X * S < 18446744073709551616 * Q * S := by
      have : 18446744073709551616 * Q * S = 18446744073709551616 * (S * Q) := by grind
      rw [this, hm]; omega
    exact Int.lt_of_mul_lt_mul_right h1 (by omega)
  have y0 : 0 ≤ t2 / Q := Int.ediv_nonneg u2.1 (by omega)
  have y1 : t2 / Q < S := by
    apply Int.ediv_lt_of_lt_mul hq
    rw [hm]; exact u2.2
  have z0 : 0 ≤ (t0 * 4294967296 + t1) * S := Int.mul_nonneg (by omega) (by omega)
  have hR : val L / (P * Q * 4) = ((t0 * 4294967296 + t1) * S + t2 / Q) / 4 := by
    rw [Int.mul_assoc, ← Int.ediv_ediv_of_nonneg (by omega), dV, ← Int.ediv_ediv_of_nonneg (by omega), dX]
  rw [dX] at hXQ
  refine ⟨t0, t1, t2, rfl, rfl, rfl, u0, u1, u2, z0, by omega, y0, y1, hXQ, ?_, ?_, hR.symm⟩
  · rw [hR]; omega
  · rw [hR]; omega

/-- Block g holds three words. -/
structure T3 (w : World) (g : Nat) (a b c : Int) : Prop where
  lt : g < w.heap.size
  c0 : w.cell? ⟨g, 0, none⟩ = some (.int .u64 a)
  c1 : w.cell? ⟨g, 1, none⟩ = some (.int .u64 b)
  c2 : w.cell? ⟨g, 2, none⟩ = some (.int .u64 c)
  fz : ∀ i, w.frozen? ⟨g, i, none⟩ = false
theorem T3.set0 {w : World} {g : Nat} {a b c : Int} (h : T3 w g a b c) (x : Int) : T3 (w.setCell ⟨g, 0, none⟩ (.int .u64 x)) g x b c :=
  ⟨by simpa [World.setCell] using h.lt, World.cell?_setCell_same w _ _ h.c0, (World.cell?_setCell_other w _ _ _ (by simp)).trans h.c1, (World.cell?_setCell_other w _ _ _ (by simp)).trans h.c2, fun i => by rw [World.frozen?_setCell]; exact h.fz i⟩
theorem T3.set1 {w : World} {g : Nat} {a b c : Int} (h : T3 w g a b c) (x : Int) : T3 (w.setCell ⟨g, 1, none⟩ (.int .u64 x)) g a x c :=
  ⟨by simpa [World.setCell] using h.lt, (World.cell?_setCell_other w _ _ _ (by simp)).trans h.c0, World.cell?_setCell_same w _ _ h.c1, (World.cell?_setCell_other w _ _ _ (by simp)).trans h.c2, fun i => by rw [World.frozen?_setCell]; exact h.fz i⟩
theorem T3.set2 {w : World} {g : Nat} {a b c : Int} (h : T3 w g a b c) (x : Int) : T3 (w.setCell ⟨g, 2, none⟩ (.int .u64 x)) g a b x :=
  ⟨by simpa [World.setCell] using h.lt, (World.cell?_setCell_other w _ _ _ (by simp)).trans h.c0, (World.cell?_setCell_other w _ _ _ (by simp)).trans h.c1, World.cell?_setCell_same w _ _ h.c2, fun i => by rw [World.frozen?_setCell]; exact h.fz i⟩
theorem T3.new (w : World) (a b c : Int) (t : TypeId) : T3 (w.alloc (.cells #[.int .u64 a, .int .u64 b, .int .u64 c] t)) w.heap.size a b c :=
  ⟨by simp, by rw [World.cell?_alloc_mark]; rfl, by rw [World.cell?_alloc_mark]; rfl, by rw [World.cell?_alloc_mark]; rfl,
    fun i => by rw [World.frozen?_alloc_mark]; simp⟩

def ifk (k j : Nat) (t : Int) : Int := if j < k then t else 0

theorem window_any (A : Option Addr) (N c n s : Nat) (L : List Int) (w : World) (hr : Rd w A N c L) (hN : N ≤ n) (h3 : 3 ≤ n) (hn : n ≤ 1000000) (hs : s ≤ 31) (hV : val L * 2 ^ s < pw n) :
    Calls Tryd.prog 72 #[.slice A N c, .int .i64 (n : Int), .int .i64 (s : Int)] w fun e w' => e = .returned (.int .i64 (val L / lastBit n s)) ∧ Below w.heap.size w w' := by
  have HN := hr.len
  obtain ⟨t0, t1, t2, e0, e1, e2, u0, u1, u2, z0, z1, y0, y1, z2, r0, r1, hR⟩ := lead_word L n s h3 hs (by omega) hr.lims hV
  have E0 := Lib.hid e0
  have E1 := Lib.hid e1
  have E2 := Lib.hid e2
  have HR := Lib.hid hR
  have J := or_join t0 t1 u0.1 u0.2 u1.1 u1.2
  have J2 := or_low64 (t0 * 4294967296 + t1) (t2 / 2 ^ (32 - s)) s z0 z1 y0 y1 hs
  have JH := Lib.hid J
  have JH2 := Lib.hid J2
  have HL := Lib.hid HN
  clear e0 e1 e2 hR J J2 HN
  go_enter Tryd.func72, Tryd.ntmps72
  go_wp2
  have hT0 := T3.new w 0 0 0 87
  have hB0 := (Below.refl w.heap.size w).alloc (Nat.le_refl _) (.cells #[.int .u64 0, .int .u64 0, .int .u64 0] 87)
  go_loopw [11] (fun iv wr => ∃ k : Nat, k ≤ 3 ∧ iv = .int .i64 (k : Int) ∧ T3 wr w.heap.size (ifk k 0 t0) (ifk k 1 t1) (ifk k 2 t2) ∧ Below w.heap.size w wr) (fun iv _ => (3 - intOf iv).toNat)
  case atStart => exact ⟨0, by omega, rfl, hT0, hB0⟩
  case round =>
    obtain ⟨k, hk, rfl, hT, hB⟩ := hrel
    clear hT0 hB0
    have hrb := hr.below hB
    obtain rfl | rfl | rfl | rfl : k = 0 ∨ k = 1 ∨ k = 2 ∨ k = 3 := by omega
    · simp only [ifk] at hT
      have cT := hT.c0
      have fT := hT.fz 0
      have hB1 := hB
      have hT1 := Lib.hid hT
      by_cases hin : n - 1 - 0 < N
      · obtain ⟨ad, rfl, _, hc⟩ := hrb.at_ (by omega)
        have cL := hc (n - 1 - 0) hin
        rw [show n - 1 - 0 = n - 1 from by omega, E0.out] at cL
        have hnt : ((n : Int) - 1 - 0).toNat = n - 1 := by omega
        clear hc hT
        go_wp2
        go_roundw
        case rel => exact ⟨1, by omega, rfl, hT1.out.set0 t0, hB.setCell (Nat.le_refl _) _⟩
        case measure => simp [intOf] <;> omega
      · have hz : t0 = 0 := by rw [← E0.out]; exact getD_ge _ _ (by have := HL.out; omega)
        clear hT
        go_wp2
        go_roundw
        case rel => exact ⟨1, by omega, rfl, by simpa [ifk, hz] using hT1.out, hB⟩
        case measure => simp [intOf] <;> omega
    · simp only [ifk] at hT
      have cT := hT.c1
      have fT := hT.fz 1
      have hB1 := hB
      have hT1 := Lib.hid hT
      by_cases hin : n - 1 - 1 < N
      · obtain ⟨ad, rfl, _, hc⟩ := hrb.at_ (by omega)
        have cL := hc (n - 1 - 1) hin
        rw [show n - 1 - 1 = n - 2 from by omega, E1.out] at cL
        have hnt : ((n : Int) - 1 - 1).toNat = n - 2 := by omega
        clear hc hT
        go_wp2
        go_roundw
        case rel => exact ⟨2, by omega, rfl, hT1.out.set1 t1, hB.setCell (Nat.le_refl _) _⟩
        case measure => simp [intOf] <;> omega
      · have hz : t1 = 0 := by rw [← E1.out]; exact getD_ge _ _ (by have := HL.out; omega)
        clear hT
        go_wp2
        go_roundw
        case rel => exact ⟨2, by omega, rfl, by simpa [ifk, hz] using hT1.out, hB⟩
        case measure => simp [intOf] <;> omega
    · simp only [ifk] at hT
      have cT := hT.c2
      have fT := hT.fz 2
      have hB1 := hB
      have hT1 := Lib.hid hT
      by_cases hin : n - 1 - 2 < N
      · obtain ⟨ad, rfl, _, hc⟩ := hrb.at_ (by omega)
        have cL := hc (n - 1 - 2) hin
        rw [show n - 1 - 2 = n - 3 from by omega, E2.out] at cL
        have hnt : ((n : Int) - 1 - 2).toNat = n - 3 := by omega
        clear hc hT
        go_wp2
        go_roundw
        case rel => exact ⟨3, by omega, rfl, hT1.out.set2 t2, hB.setCell (Nat.le_refl _) _⟩
        case measure => simp [intOf] <;> omega
      · have hz : t2 = 0 := by rw [← E2.out]; exact getD_ge _ _ (by have := HL.out; omega)
        clear hT
        go_wp2
        go_roundw
        case rel => exact ⟨3, by omega, rfl, by simpa [ifk, hz] using hT1.out, hB⟩
        case measure => simp [intOf] <;> omega
    · simp only [ifk] at hT
      obtain ⟨_, c0, c1, c2, _⟩ := hT
      have J := JH.out
      have J2 := JH2.out
      have hsh : (32 - (s : Int)).toNat = 32 - s := by omega
      go_wp2_with fail
      go_quiet (fail)
      go_wp2
      go_ret
      exact ⟨ret_int HR.out, drewN_below hB _⟩

end Go.Proofs.YtdimajnadmkhiaaDoor
