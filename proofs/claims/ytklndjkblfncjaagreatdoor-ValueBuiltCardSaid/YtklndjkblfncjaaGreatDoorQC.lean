/-
  What the rows of numbers and fractions of the reference need, part C.
-/
import Derived.Test.YtklndjkblfncjaaGreatDoorQB
import Derived.Deep.CutBlock
import Derived.Deep.DeepCutAuto
import Derived.Deep.LoopGhost
namespace Go.Proofs.YtklndjkblfncjaaGreatDoor.Q
open Go.RowKit
set_option maxRecDepth 20000

theorem RN.far3 {w : World} {s : Bool} {A B : Option Addr} {n c m d k g : Nat} {q : Rat} (h : RN w s A n c B m d q k) (hA : 0 < n → ∀ a, A = some a → a.block ≠ g) (hB : 0 < m → ∀ a, B = some a → a.block ≠ g) (i j l : Nat) (u v z : Value) :
    RN (((w.setCell ⟨g, i, none⟩ u).setCell ⟨g, j, none⟩ v).setCell ⟨g, l, none⟩ z) s A n c B m d q k :=
  ⟨h.1, h.2.1.far3 hA _ _ _ _ _ _, h.2.2.1.far3 hB _ _ _ _ _ _, h.2.2.2⟩
/-- A normal form has been stored into the result's box, which is older than its slices. -/
theorem store_end {w wp w' : World} {s : Bool} {A B : Option Addr} {n c m d k g : Nat} {q : Rat} (h : RN w' s A n c B m d q k) (oA : Off wp.heap.size A) (oB : Off wp.heap.size B) (hg : g < wp.heap.size) (hw : w.heap.size ≤ g) (hk : Below w.heap.size w w') (u v z : Value) :
    RN (((w'.setCell ⟨g, 0, none⟩ u).setCell ⟨g, 1, none⟩ v).setCell ⟨g, 2, none⟩ z) s A n c B m d q k ∧ Off w.heap.size A ∧ Off w.heap.size B ∧
      Below w.heap.size w (((w'.setCell ⟨g, 0, none⟩ u).setCell ⟨g, 1, none⟩ v).setCell ⟨g, 2, none⟩ z) :=
  ⟨h.far3 (fun _ a e => by have := oA a e; omega) (fun _ a e => by have := oB a e; omega) _ _ _ _ _ _, oA.mono (by omega), oB.mono (by omega), ((hk.setCell hw _).setCell hw _).setCell hw _⟩

end Go.Proofs.YtklndjkblfncjaaGreatDoor.Q

namespace Go.Proofs.YtklndjkblfncjaaGreatDoor.Q
open Go.RowKit
set_option maxRecDepth 20000


/-- A box for the result alone. -/
theorem boxes0 (w : World) (z0 z1 z2 : Value) (T3 : TypeId) (v : World) (hv : w.alloc (.cells #[z0, z1, z2] T3) = v) :
    ∃ g, g = w.heap.size ∧ v.heap.size = g + 1 ∧ Below w.heap.size w v ∧
      (∀ W, Below v.heap.size v W → W.cell? ⟨g, 0, none⟩ = some z0 ∧ W.cell? ⟨g, 1, none⟩ = some z1 ∧ W.cell? ⟨g, 2, none⟩ = some z2) ∧
      (∀ W, Below v.heap.size v W → W.frozen? ⟨g, 0, none⟩ = false ∧ W.frozen? ⟨g, 1, none⟩ = false ∧ W.frozen? ⟨g, 2, none⟩ = false) := by
  subst hv
  have hs : (w.alloc (.cells #[z0, z1, z2] T3)).heap.size = w.heap.size + 1 := by rw [World.size_alloc]
  refine ⟨w.heap.size, rfl, hs, (Below.refl _ _).alloc (Nat.le_refl _) _, ?_, ?_⟩
  · exact three_cells (by rw [hs]; omega) ((World.cell?_alloc_new ..).trans rfl) ((World.cell?_alloc_new ..).trans rfl) ((World.cell?_alloc_new ..).trans rfl)
  · exact three_free (by rw [hs]; omega) (fun i => World.frozen?_alloc_new ..)

end Go.Proofs.YtklndjkblfncjaaGreatDoor.Q

namespace Go.Proofs.YtklndjkblfncjaaGreatDoor.Q
open Go.RowKit
set_option maxRecDepth 20000

end Go.Proofs.YtklndjkblfncjaaGreatDoor.Q

namespace Go.Proofs.YtklndjkblfncjaaGreatDoor.Q
open Go.RowKit
set_option maxRecDepth 20000

end Go.Proofs.YtklndjkblfncjaaGreatDoor.Q
namespace Go.Proofs.YtklndjkblfncjaaGreatDoor.Q
open Go.RowKit
set_option maxRecDepth 20000

end Go.Proofs.YtklndjkblfncjaaGreatDoor.Q
namespace Go.Proofs.YtklndjkblfncjaaGreatDoor.Q
open Go.RowKit
set_option maxRecDepth 20000

theorem refShift_step {S L : List Int} {k : Nat} {l c q z : Int} (hk : k < S.length) (hl : L.getD k 0 = l) (hz : z = l * q + c) (h : val (S.take k) + pw k * c = val (L.take k) * q) :
    val ((S.set k (z % 4294967296)).take (k + 1)) + pw (k + 1) * (z / 4294967296) = val (L.take (k + 1)) * q := by
  rw [val_set_take S k _ hk, val_take_getD, hl, pw_succ]
  have e := Int.emod_add_mul_ediv z 4294967296
  generalize z % 4294967296 = r at *
  generalize z / 4294967296 = t at *
  have e2 : pw k * r + 4294967296 * pw k * t = pw k * (l * q + c) := by rw [← hz, ← e]; grind
  grind

set_option maxHeartbeats 1000000 in
theorem refShift_any (A : Option Addr) (n c s : Nat) (L : List Int) (w : World) (hr : Rd w A n c L) (hn : n ≤ 900000) (hs : s ≤ 31) :
    Calls Tryz.prog 114 #[.slice A n c, .int .i64 (s : Int)] w (Halved w (n + 1) (val L * 2 ^ s)) := by
  obtain ⟨i0, hi, hz0, hz1, hz2⟩ := info_parts info_limb
  have HL := Lib.hid hr.len
  have hcap := hr.cap
  have hp : (0 : Int) < 2 ^ s := Int.pow_pos (by decide)
  go_enter Tryz.func114, Tryz.ntmps114
  go_wp2_with (at_make; refine wpList_make_full _ rfl _ _ 90 rfl w.heap.size 96 i0 (.int .u32 0) 1 Tryz.underlying90 hi hz0 hz1 _ _ _ _ (n + 1) rfl rfl ?b0 ?b1 ?b2 ?b3 (Nat.le_refl _) ?_)
  case b0 => go_num
  case b1 => go_num
  case b2 => rw [hz2]; omega
  case b3 => unfold maxLen; omega
  intro w0 hown hgrow
  have hM0 := Mine.zero hown
  have hB0 := below_of_grown hgrow
  clear hown hgrow
  go_wp2
  go_loopw [6, 7] (fun cv iv wr => ∃ (k : Nat) (cr : Int) (S : List Int), k ≤ n ∧ iv = .int .i64 k ∧ cv = .int .u64 cr ∧ (0 ≤ cr ∧ cr < 2 ^ s) ∧ Mine wr w.heap.size (some ⟨w.heap.size, 0, none⟩) (n + 1) (n + 1) S ∧
      Hid (val (S.take k) + pw k * cr = val (L.take k) * 2 ^ s) ∧ Below w.heap.size w wr) (fun _ iv _ => n - (intOf iv).toNat)
  case atStart => exact ⟨0, 0, _, Nat.zero_le _, rfl, rfl, ⟨by omega, hp⟩, hM0, by show _ = _; simp [val], hB0⟩
  case round =>
    obtain ⟨k, cr, S, hk, rfl, rfl, ⟨c0, c1⟩, hM, hV, hB⟩ := hrel
    clear hM0 hB0
    by_cases hkn : k < n
    · obtain ⟨ad, rfl, _, hc⟩ := (hr.below hB).at_ (by omega)
      have cL := hc k hkn
      have uL := hr.lims.getD k
      obtain ⟨l, hl⟩ : ∃ l, L.getD k 0 = l := ⟨_, rfl⟩
      rw [hl] at cL uL
      have cS := hM.cellAt (i := k) (by omega)
      have fS := hM.frozenAt k
      obtain ⟨p0, p1, q0, q1, p2, _, _⟩ := limb_shift l s hs uL
      have J := or_low64 l cr s p0 (by omega) c0 c1 hs
      have hlt : (l * 2 ^ s + cr) / 4294967296 < 2 ^ s := by
        apply Int.ediv_lt_of_lt_mul (by decide)
        have h1 : (l + 1) * 2 ^ s ≤ 4294967296 * 2 ^ s := le_mul (by omega) (by omega)
        rw [Int.add_mul] at h1
        omega
      have ST := Lib.hid (refShift_step (S := S) (L := L) (k := k) (q := 2 ^ s) (c := cr) (z := l * 2 ^ s + cr) (by rw [hM.len]; omega) hl rfl hV.out)
      have s0 : 0 ≤ (l * 2 ^ s + cr) % 4294967296 ∧ (l * 2 ^ s + cr) % 4294967296 < 4294967296 := by omega
      have s1 : 0 ≤ (l * 2 ^ s + cr) / 4294967296 := by omega
      clear hc hl
      go_wp2
      go_roundw
      case rel => exact ⟨k + 1, _, _, by omega, by go_num, rfl, ⟨s1, hlt⟩, hM.stored k s0.1 s0.2, ST.out, hB.setCell (Nat.le_refl _) _⟩
      case measure => simp [intOf] <;> omega
    · obtain rfl : k = n := by omega
      have e32 : (2 : Int) ^ s ≤ 2147483648 := by
        have h2 : (2 : Nat) ^ s ≤ 2 ^ 31 := Nat.pow_le_pow_right (by decide) hs
        have h3 : (2 : Int) ^ 31 = 2147483648 := by decide
        rw [← h3]; exact_mod_cast h2
      have cS := hM.cellAt (i := k) (by omega)
      have fS := hM.frozenAt k
      have hF : Hid (val (S.set k cr) = val L * 2 ^ s) := by
        refine (add_last (S := S) (p := k) (cr := cr) hM.len hV.out).trans ?_
        rw [List.take_of_length_le (l := L) (by have := HL.out; omega)]
      have hM2 := Lib.hid (hM.stored k c0 (by omega))
      clear hM hkn
      go_wp2
      go_ret
      exact ⟨_, _, _, rfl, hM2.out, hF.out, hB.setCell (Nat.le_refl _) _⟩

end Go.Proofs.YtklndjkblfncjaaGreatDoor.Q

namespace Go.Proofs.YtklndjkblfncjaaGreatDoor.Q
open Go.RowKit
set_option maxRecDepth 20000

theorem or_join' (x y : Int) (x0 : 0 ≤ x) (x1 : x < 4294967296) (y0 : 0 ≤ y) (y1 : y < 4294967296) : bits .or .u64 y (x * 4294967296) = y + x * 4294967296 := by
  have h := or_join x y x0 x1 y0 y1
  rw [u64_or _ _ (by omega) (by omega) (by omega) (by omega)] at h ⊢
  rw [Nat.or_comm, h]; omega

theorem drop_getD (L : List Int) (k : Nat) : val (L.drop k) = L.getD k 0 + 4294967296 * val (L.drop (k + 1)) := by
  rcases Nat.lt_or_ge k L.length with h | h
  · rw [List.drop_eq_getElem_cons h, val_cons, ← getD_of_lt]
  · rw [List.drop_eq_nil_of_le h, List.drop_eq_nil_of_le (by omega), getD_ge _ _ h]; rfl

/-- A limb of the quotient. -/
theorem unshift_limb {L : List Int} {k s : Nat} (hL : Lims L) (hs : s ≤ 31) (hk : k ≤ L.length) : val L / 2 ^ s / pw k % 4294967296 = (L.getD k 0 + L.getD (k + 1) 0 * 4294967296) / 2 ^ s % 4294967296 := by
  have hp : (0 : Int) < 2 ^ s := Int.pow_pos (by decide)
  have h1 := val_split L k
  rw [List.length_take_of_le hk] at h1
  have t0 := val_nonneg (hL.take k)
  have t1 := val_lt (hL.take k)
  rw [List.length_take_of_le hk] at t1
  have e1 : val L / pw k = val (L.drop k) := by
    rw [h1, Int.add_mul_ediv_left _ _ (by have := pw_pos k; omega), Int.ediv_eq_zero_of_lt t0 t1]; omega
  have e2 : val L / 2 ^ s / pw k = val (L.drop k) / 2 ^ s := by
    rw [← e1, Int.ediv_ediv_of_nonneg (by omega), Int.ediv_ediv_of_nonneg (by have := pw_pos k; omega), Int.mul_comm]
  rw [e2, drop_getD L k, drop_getD L (k + 1)]
  generalize L.getD k 0 = l
  generalize L.getD (k + 1) 0 = h
  generalize val (L.drop (k + 1 + 1)) = D
  have hm := two_split s hs
  have e3 : l + 4294967296 * (h + 4294967296 * D) = (l + h * 4294967296) + 2 ^ s * (2 ^ (32 - s) * 4294967296 * D) := by
    have : (2 : Int) ^ s * (2 ^ (32 - s) * 4294967296 * D) = (2 ^ s * 2 ^ (32 - s)) * 4294967296 * D := by grind
    rw [this, hm]; grind
  rw [e3, Int.add_mul_ediv_left _ _ (by omega), show (2 : Int) ^ (32 - s) * 4294967296 * D = 4294967296 * (2 ^ (32 - s) * D) by grind, Int.add_mul_emod_self_left]

theorem unshift_step {S L : List Int} {k s : Nat} {l h : Int} (hS : k < S.length) (hL : Lims L) (hs : s ≤ 31) (hk : k ≤ L.length) (hl : L.getD k 0 = l) (hh : L.getD (k + 1) 0 = h) (hV : val (S.take k) = val L / 2 ^ s % pw k) :
    val ((S.set k ((l + h * 4294967296) / 2 ^ s % 4294967296)).take (k + 1)) = val L / 2 ^ s % pw (k + 1) := by
  rw [val_set_take S k _ hS, ← hl, ← hh, ← unshift_limb hL hs hk, hV, pw_succ]
  generalize val L / 2 ^ s = x
  have h1 := pw_pos k
  rw [Int.mul_comm 4294967296 (pw k)]
  generalize pw k = P at *
  have a := Int.mul_ediv_add_emod x P
  have b := Int.mul_ediv_add_emod (x / P) 4294967296
  have r0 := Int.emod_nonneg x (show P ≠ 0 by omega)
  have r1 := Int.emod_lt_of_pos x h1
  have s0 := Int.emod_nonneg (x / P) (show (4294967296 : Int) ≠ 0 by decide)
  have s1 := Int.emod_lt_of_pos (x / P) (show (0 : Int) < 4294967296 by decide)
  have e : x = (x % P + P * (x / P % 4294967296)) + P * 4294967296 * (x / P / 4294967296) := by
    have : P * (x / P) = P * (4294967296 * (x / P / 4294967296)) + P * (x / P % 4294967296) := by rw [← Int.mul_add, b]
    have h3 : P * 4294967296 * (x / P / 4294967296) = P * (4294967296 * (x / P / 4294967296)) := by grind
    omega
  have hb : P * (x / P % 4294967296 + 1) ≤ P * 4294967296 := Int.mul_le_mul_of_nonneg_left (by omega) (by omega)
  have hb0 : 0 ≤ P * (x / P % 4294967296) := Int.mul_nonneg (by omega) s0
  rw [Int.mul_add] at hb
  have e4 : x % (P * 4294967296) = x % P + P * (x / P % 4294967296) := by
    have e5 : x % (P * 4294967296) = ((x % P + P * (x / P % 4294967296)) + P * 4294967296 * (x / P / 4294967296)) % (P * 4294967296) := by rw [← e]
    rw [e5, Int.add_mul_emod_self_left, Int.emod_eq_of_lt (by omega) (by omega)]
  exact e4.symm

set_option maxHeartbeats 1000000 in
theorem refUnshift_any (A : Option Addr) (n c s : Nat) (L : List Int) (w : World) (hr : Rd w A n c L) (hn : n ≤ 900000) (hs : s ≤ 31) :
    Calls Tryz.prog 116 #[.slice A n c, .int .i64 (s : Int)] w (Gives w (val L / 2 ^ s)) := by
  obtain ⟨i0, hi, hz0, hz1, hz2⟩ := info_parts info_limb
  have HL := Lib.hid hr.len
  have hcap := hr.cap
  have hp : (0 : Int) < 2 ^ s := Int.pow_pos (by decide)
  go_enter Tryz.func116, Tryz.ntmps116
  go_wp2_with (at_make; refine wpList_make_full _ rfl _ _ 90 rfl w.heap.size 96 i0 (.int .u32 0) 1 Tryz.underlying90 hi hz0 hz1 _ _ _ _ n rfl rfl ?b0 ?b1 ?b2 ?b3 (Nat.le_refl _) ?_)
  case b0 => rfl
  case b1 => rfl
  case b2 => rw [hz2]; omega
  case b3 => unfold maxLen; omega
  intro w0 hown hgrow
  have hM0 := Mine.zero hown
  have hB0 := below_of_grown hgrow
  clear hown hgrow
  go_wp2
  go_loopw [6] (fun iv wr => ∃ (k : Nat) (S : List Int), k ≤ n ∧ iv = .int .i64 k ∧ Mine wr w.heap.size (some ⟨w.heap.size, 0, none⟩) n n S ∧
      Hid (val (S.take k) = val L / 2 ^ s % pw k) ∧ Below w.heap.size w wr) (fun iv _ => n - (intOf iv).toNat)
  case atStart => exact ⟨0, _, Nat.zero_le _, rfl, hM0, by show _ = _; simp [val, pw], hB0⟩
  case round =>
    obtain ⟨k, S, hk, rfl, hM, hV, hB⟩ := hrel
    clear hM0 hB0
    by_cases hkn : k < n
    · obtain ⟨ad, rfl, _, hc⟩ := (hr.below hB).at_ (by omega)
      have cL := hc k hkn
      have uL := hr.lims.getD k
      have uH := hr.lims.getD (k + 1)
      obtain ⟨l, hl⟩ : ∃ l, L.getD k 0 = l := ⟨_, rfl⟩
      obtain ⟨h, hh⟩ : ∃ h, L.getD (k + 1) 0 = h := ⟨_, rfl⟩
      rw [hl] at cL uL
      rw [hh] at uH
      have cS := hM.cellAt (i := k) (by omega)
      have fS := hM.frozenAt k
      have st := unshift_step (S := S) (L := L) (k := k) (s := s) (by rw [hM.len]; omega) hr.lims hs (by have := HL.out; omega) hl hh hV.out
      have a0 : 0 ≤ l + h * 4294967296 ∧ l + h * 4294967296 < 18446744073709551616 := by omega
      have d0 : 0 ≤ (l + h * 4294967296) / 2 ^ s := Int.ediv_nonneg a0.1 (by omega)
      have d1 : (l + h * 4294967296) / 2 ^ s < 18446744073709551616 := Int.lt_of_le_of_lt (Int.ediv_le_self _ a0.1) a0.2
      have s0 : 0 ≤ (l + h * 4294967296) / 2 ^ s % 4294967296 ∧ (l + h * 4294967296) / 2 ^ s % 4294967296 < 4294967296 := by omega
      by_cases hk1 : k + 1 < n
      · have cH := hc (k + 1) hk1
        rw [hh] at cH
        have cH2 : wr.cell? ⟨ad.block, ad.off + (k + 1), none⟩ = some (.int .u32 h) := by
          rcases ad with ⟨b0, o0, q0⟩
          exact cH
        have J := or_join' h l uH.1 uH.2 uL.1 uL.2
        have ST := Lib.hid st
        have hat : ((k : Int) + 1).toNat = k + 1 := by omega
        clear st hc hl hh
        go_wp2
        go_roundw
        case rel => exact ⟨k + 1, _, by omega, by go_num, hM.stored k s0.1 s0.2, ST.out, hB.setCell (Nat.le_refl _) _⟩
        case measure => simp [intOf] <;> omega
      · obtain rfl : h = 0 := by rw [← hh, getD_ge _ _ (by have := HL.out; omega)]
        simp only [Int.zero_mul, Int.add_zero] at st s0 d0 d1
        have ST := Lib.hid st
        clear st hc hl hh
        go_wp2
        go_roundw
        case rel => exact ⟨k + 1, _, by omega, by go_num, hM.stored k s0.1 s0.2, ST.out, hB.setCell (Nat.le_refl _) _⟩
        case measure => simp [intOf] <;> omega
    · obtain rfl : k = n := by omega
      have hF : val S = val L / 2 ^ s := by
        have h1 := hV.out
        have v0 := val_nonneg hr.lims
        have v1 := val_lt hr.lims
        rw [HL.out] at v1
        rw [List.take_of_length_le (by rw [hM.len]; exact Nat.le_refl _), Int.emod_eq_of_lt (Int.ediv_nonneg v0 (by omega)) (Int.lt_of_le_of_lt (Int.ediv_le_self _ v0) v1)] at h1
        exact h1
      have HF := Lib.hid hF
      have TR := Lib.hid (refTrim_any _ _ _ _ wr hM.rd (by omega))
      have hsz := hB.size
      clear hF hM hkn
      go_wp2_with fail
      refine TR.out.mono ?_
      rintro e w4 ⟨A4, n4, c4, R, rfl, hR, IR, hB4⟩
      have HI := Lib.hid IR
      clear IR
      go_wp2
      go_ret
      exact ⟨A4, n4, c4, R, rfl, hR.more hsz, by rw [← HF.out]; exact HI.out, nextB hB hB4⟩

end Go.Proofs.YtklndjkblfncjaaGreatDoor.Q
namespace Go.Proofs.YtklndjkblfncjaaGreatDoor.Q
open Go.RowKit
set_option maxRecDepth 20000

theorem u64_and_mask (a : Int) (a0 : 0 ≤ a) (a1 : a < 18446744073709551616) : bits .and .u64 a 4294967295 = a % 4294967296 := by
  obtain ⟨n, rfl⟩ := Int.eq_ofNat_of_zero_le a0
  have h1 : ∀ x : Nat, x < 18446744073709551616 → (BitVec.ofInt 64 (x : Int)).toNat = x := by
    intro x hx
    rw [BitVec.ofInt_natCast, BitVec.toNat_ofNat]
    exact Nat.mod_eq_of_lt (by omega)
  have h2 : n &&& 4294967295 = n % 4294967296 := by rw [show (4294967295 : Nat) = 2 ^ 32 - 1 by decide, Nat.and_two_pow_sub_one_eq_mod]
  show IntKind.u64.wrap ((BitVec.ofInt 64 (n : Int) &&& BitVec.ofInt 64 ((4294967295 : Nat) : Int)).toNat : Int) = _
  rw [BitVec.toNat_and, h1 n (by omega), h1 4294967295 (by omega), h2, IntKind.wrap_u64]
  omega
theorem Mine.stored' {w : World} {base g n c i : Nat} {L : List Int} {x y : Int} (h : Mine w base (some ⟨g, 0, none⟩) n c L) (e : x = y) (y0 : 0 ≤ y) (y1 : y < 4294967296) : Mine (w.setCell ⟨g, i, none⟩ (.int .u32 x)) base (some ⟨g, 0, none⟩) n c (L.set i y) := by
  subst e
  exact h.stored i y0 y1

/-- A limb of the quotient comes back; the window has lost its multiple of the divisor and is less than the divisor. -/
def DigitPost (g base N C m j : Nat) (R : List Int) (V : Int) (w : World) (e : Ending) (w' : World) : Prop :=
  ∃ q R', e = .returned (.int .u32 q) ∧ (0 ≤ q ∧ q < 4294967296) ∧ Mine w' base (some ⟨g, 0, none⟩) N C R' ∧ R'.drop (j + (m + 3)) = R.drop (j + (m + 3)) ∧
    val (R.take (j + (m + 3))) = val (R'.take (j + (m + 3))) + V * (pw j * q) ∧ val (R'.take (j + (m + 3))) < V * pw j ∧ Only (some ⟨g, 0, none⟩) w w'
/-- The guess: the limb of the quotient of W by V, or one more. -/
def CutG (V W : Int) (w : World) (v : Value) (w' : World) : Prop := ∃ (q : Int) (k : Nat), v = .int .u64 q ∧ Near V W q ∧ w' = w.drewN k

set_option maxHeartbeats 4000000 in
set_option maxRecDepth 100000 in
theorem refDigit_any (g gd base N C m dc j : Nat) (R D : List Int) (w : World) (hR : Mine w base (some ⟨g, 0, none⟩) N C R) (hD : Rd w (some ⟨gd, 0, none⟩) (m + 2) dc D) (hfar : gd ≠ g) (hN : j + (m + 2) + 1 ≤ N) (hn : N ≤ 1000000)
    (hf : 2147483648 ≤ D.getD (m + 1) 0) (hlt : val ((R.drop j).take (m + 3)) < val D * 4294967296) :
    Calls Tryz.prog 115 #[.slice (some ⟨g, 0, none⟩) N C, .slice (some ⟨gd, 0, none⟩) (m + 2 : Nat) dc, .int .i64 (j : Int)] w (DigitPost g base N C m j R (val D) w) := by
  have hX := hR.window (i := j) (k := m + 3) (by omega) (by have := hR.rd.cap; omega)
  obtain ⟨X, eX⟩ : ∃ X, (R.drop j).take (m + 3) = X := ⟨_, rfl⟩
  rw [eX] at hX hlt
  have d1 := hD.cellAt (k := m + 1) (by omega)
  have d2 := hD.cellAt (k := m) (by omega)
  have x1 := hX.cellAt (k := m + 2) (by omega)
  have x2 := hX.cellAt (k := m + 1) (by omega)
  have x3 := hX.cellAt (k := m) (by omega)
  simp only [Nat.zero_add] at d1 d2
  have uf := hD.lims.getD (m + 1)
  have us := hD.lims.getD m
  have u1 := hX.lims.getD (m + 2)
  have u2 := hX.lims.getD (m + 1)
  have u3 := hX.lims.getD m
  have hV := top_two hD.len
  have hW := top_three hX.len
  have P0 := pw_pos m
  have dl0 := val_nonneg (hD.lims.take m)
  have dl1 := val_lt (hD.lims.take m)
  have wl0 := val_nonneg (hX.lims.take m)
  have wl1 := val_lt (hX.lims.take m)
  rw [List.length_take_of_le (by rw [hD.len]; omega)] at dl1
  rw [List.length_take_of_le (by rw [hX.len]; omega)] at wl1
  have V0 : 0 < val D := by
    have h1 : 1 * pw m ≤ (D.getD (m + 1) 0 * 4294967296 + D.getD m 0) * pw m := le_mul (by omega) (by omega)
    omega
  generalize val (D.take m) = dl at *
  generalize val (X.take m) = wl at *
  generalize D.getD (m + 1) 0 = f at *
  generalize D.getD m 0 = s at *
  generalize X.getD (m + 2) 0 = a at *
  generalize X.getD (m + 1) 0 = b at *
  generalize X.getD m 0 = u at *
  obtain ⟨V, eV⟩ : ∃ V, val D = V := ⟨_, rfl⟩
  obtain ⟨W, eW⟩ : ∃ W, val X = W := ⟨_, rfl⟩
  rw [eV] at hV hlt V0 ⊢
  rw [eW] at hW hlt
  have J1 := or_join a b u1.1 u1.2 u2.1 u2.2
  obtain ⟨t, et⟩ : ∃ t, a * 4294967296 + b = t := ⟨_, rfl⟩
  have t0 : 0 ≤ t := by omega
  have t64 : t < 18446744073709551616 := by omega
  rw [et] at J1 hW
  have htop : t < (f + 1) * 4294967296 := guess_top us.2 u3.1 P0 dl1 wl0 (by rw [← hW, ← hV]; exact hlt)
  have q0 := Int.ediv_nonneg t0 (show 0 ≤ f by omega)
  have q1 : t / f ≤ 4294967297 := by
    refine Int.le_of_lt_add_one (Int.ediv_lt_of_lt_mul (by omega) ?_)
    omega
  have r0 := Int.emod_nonneg t (show f ≠ 0 by omega)
  have r1 := Int.emod_lt_of_pos t (show 0 < f by omega)
  have hqr := Int.mul_ediv_add_emod t f
  have hgt : t < (t / f + 1) * f := by rw [Int.add_mul, Int.mul_comm]; omega
  have hst : Hid (W < (t / f + 1) * V) := by
    show _ < _
    have h1 : (t * 4294967296 + u + 1) * pw m ≤ ((t / f + 1) * f * 4294967296) * pw m := le_mul (by omega) (by omega)
    have e1 : (t * 4294967296 + u + 1) * pw m = (t * 4294967296 + u) * pw m + pw m := by grind
    have h2 : (t / f + 1) * ((f * 4294967296) * pw m) ≤ (t / f + 1) * V := by
      refine le_mul' ?_ (by omega)
      rw [hV]
      have h3 : (f * 4294967296) * pw m ≤ (f * 4294967296 + s) * pw m := le_mul (by omega) (by omega)
      omega
    have e2 : (t / f + 1) * f * 4294967296 * pw m = (t / f + 1) * ((f * 4294967296) * pw m) := by grind
    omega
  have hqr' : Hid (t / f * f + t % f = t) := by show _ = _; rw [Int.mul_comm]; exact hqr
  have HV := Lib.hid hV
  have HW := Lib.hid hW
  have HT := Lib.hid htop
  have HLT := Lib.hid hlt
  have HEV := Lib.hid eV
  have HEW := Lib.hid eW
  have HEX := Lib.hid eX
  clear hV hW eV eW et hqr hgt htop hlt eX
  have n1 : IntKind.i64.wrap ((m : Int) + 2 - 1) = (m : Int) + 1 := by rw [IntKind.wrap_i64]; omega
  have n2 : IntKind.i64.wrap ((m : Int) + 2 - 2) = (m : Int) := by rw [IntKind.wrap_i64]; omega
  have n3 : ((m : Int) + 1).toNat = m + 1 := by omega
  have k1 : IntKind.i64.wrap ((j : Int) + ((m : Int) + 2)) = (j : Int) + ((m : Int) + 2) := by rw [IntKind.wrap_i64]; omega
  have k2 : IntKind.i64.wrap ((j : Int) + ((m : Int) + 2) - 1) = (j : Int) + ((m : Int) + 1) := by rw [IntKind.wrap_i64]; omega
  have k3 : IntKind.i64.wrap ((j : Int) + ((m : Int) + 2) - 2) = (j : Int) + (m : Int) := by rw [IntKind.wrap_i64]; omega
  have k4 : ((j : Int) + ((m : Int) + 2)).toNat = j + (m + 2) := by omega
  have k5 : ((j : Int) + ((m : Int) + 1)).toNat = j + (m + 1) := by omega
  have k6 : ((j : Int) + (m : Int)).toNat = j + m := by omega
  have l1 : (0 : Int) ≤ (j : Int) + ((m : Int) + 2) := by omega
  have l2 : (j : Int) + ((m : Int) + 2) < (N : Int) := by omega
  have l3 : (0 : Int) ≤ (j : Int) + ((m : Int) + 1) := by omega
  have l4 : (j : Int) + ((m : Int) + 1) < (N : Int) := by omega
  have l5 : (0 : Int) ≤ (j : Int) + (m : Int) := by omega
  have l6 : (j : Int) + (m : Int) < (N : Int) := by omega
  have l7 : (0 : Int) ≤ (m : Int) + 1 := by omega
  have l8 : (m : Int) + 1 < (m : Int) + 2 := by omega
  have l9 : (m : Int) < (m : Int) + 2 := by omega
  generalize pw m = P at *
  go_enter Tryz.func115, Tryz.ntmps115
  go_wp2_with fail
  go_quiet (fail)
  go_wp2_with fail
  go_quiet (fail)
  clear k2 k4 k5 l1 l2 l3 l4 x1 x2 J1
  go_upto_block 0 with fail
  go_cut [9] (fun qv wx => CutG V W w qv wx)
  case first =>
    go_wp2_with fail
    go_loopw [9, 10] (fun gv rv wr => ∃ (g r : Int) (q : Nat), gv = .int .u64 g ∧ rv = .int .u64 r ∧ (0 ≤ g ∧ g ≤ 4294967297) ∧ (0 ≤ r ∧ r < 4294967296) ∧ Hid (g * f + r = t) ∧ Hid (W < (g + 1) * V) ∧ wr = w.drewN q) (fun gv _ _ => (intOf gv).toNat)
    case atStart => exact ⟨_, _, _, rfl, rfl, ⟨q0, q1⟩, ⟨r0, by omega⟩, hqr'.out, hst.out, by rw [World.drewN_drewN]⟩
    case round =>
      obtain ⟨g, r, q, rfl, rfl, ⟨g0, g1⟩, ⟨r0', r1'⟩, hG, hU, rfl⟩ := hrel
      clear q0 q1 r0 r1 hst hqr'
      have hgs0 := Int.mul_nonneg g0 us.1
      have hgs1 : g * s ≤ 4294967297 * s := le_mul g1 us.1
      have J2 := or_join r u r0' (by omega) u3.1 u3.2
      have hG2 : Hid ((g - 1) * f + (r + f) = t) := by show _ = _; have := hG.out; grind
      have rs0 : 0 ≤ r + f := by omega
      have rs1 : r + f < 18446744073709551616 := by omega
      by_cases hg : 4294967296 ≤ g
      · have hU2 : Hid (W < (g - 1 + 1) * V) := by
          show _ < _
          rw [Int.sub_add_cancel]; exact guess_over V0 HLT.out hg
        have hg1 : g - 1 < 4294967296 ∨ r + f < 4294967296 := by
          rcases Int.lt_or_le (g - 1) 4294967296 with h | h
          · exact .inl h
          · right
            have h1 : 4294967296 * f ≤ (g - 1) * f := le_mul h (by omega)
            have := hG2.out
            have := HT.out
            omega
        go_wp2_with fail
        go_quiet (fail)
        by_cases hr : 4294967296 ≤ r + f
        · have hEnd := guess_end (dl := dl) (wl := wl) (P := P) (g := g - 1) (r := r + f) (by omega) us.1 us.2 u3.1 P0 dl0 dl1 wl0 t0 (by omega) (by omega) hG2.out (.inl hr)
          rw [← HV.out, ← HW.out] at hEnd
          have HE := Lib.hid hEnd
          clear hEnd
          go_wp2
          go_meet
          exact ⟨g - 1, _, rfl, ⟨by omega, by omega, hU2.out, HE.out⟩, rfl⟩
        · go_wp2
          go_roundw
          case rel => exact ⟨g - 1, r + f, _, rfl, rfl, by omega, by omega, hG2.out, hU2.out, rfl⟩
          case measure => simp [intOf] <;> omega
      · have b0 : decide (4294967296 ≤ g) = false := decide_eq_false hg
        have b1 : decide (r < 4294967296) = true := decide_eq_true r1'
        have w1 : IntKind.u64.wrap (g * s) = g * s := by rw [IntKind.wrap_u64]; omega
        have w2 : IntKind.u64.wrap (r * 4294967296) = r * 4294967296 := by rw [IntKind.wrap_u64]; omega
        by_cases hc : r * 4294967296 + u < g * s
        · have b2 : decide (r * 4294967296 + u < g * s) = true := decide_eq_true hc
          have hg1 : 1 ≤ g := by
            rcases Int.lt_or_le g 1 with h | h
            · have : g = 0 := by omega
              subst this
              simp at hc
              omega
            · exact h
          have hU2 : Hid (W < (g - 1 + 1) * V) := by
            show _ < _
            rw [Int.sub_add_cancel, HW.out, HV.out]; exact guess_high g0 P0 dl0 wl1 hG.out hc
          go_wp2_with fail
          go_quiet (fail)
          by_cases hr : 4294967296 ≤ r + f
          · have hEnd := guess_end (dl := dl) (wl := wl) (P := P) (g := g - 1) (r := r + f) (by omega) us.1 us.2 u3.1 P0 dl0 dl1 wl0 t0 (by omega) (by omega) hG2.out (.inl hr)
            rw [← HV.out, ← HW.out] at hEnd
            have HE := Lib.hid hEnd
            clear hEnd
            go_wp2
            go_meet
            exact ⟨g - 1, _, rfl, ⟨by omega, by omega, hU2.out, HE.out⟩, rfl⟩
          · go_wp2
            go_roundw
            case rel => exact ⟨g - 1, r + f, _, rfl, rfl, by omega, by omega, hG2.out, hU2.out, rfl⟩
            case measure => simp [intOf] <;> omega
        · have b2 : decide (r * 4294967296 + u < g * s) = false := decide_eq_false hc
          have hEnd := guess_end (dl := dl) (wl := wl) (P := P) (by omega) us.1 us.2 u3.1 P0 dl0 dl1 wl0 t0 g0 (by omega) hG.out (.inr (by omega))
          rw [← HV.out, ← HW.out] at hEnd
          have HE := Lib.hid hEnd
          clear hEnd
          go_wp2_with fail
          go_quiet (fail)
          go_wp2
          go_meet
          exact ⟨g, _, rfl, ⟨g0, by omega, hU.out, HE.out⟩, World.drewN_drewN ..⟩
  case rest =>
    obtain ⟨t', kk, rfl, hnear, rfl⟩ := hcut
    obtain ⟨q0', q1', qlo, qhi⟩ := hnear
    have HLO := Lib.hid qlo
    have HHI := Lib.hid qhi
    have HDl := Lib.hid hD.len
    have hO0 : Only (some ⟨g, 0, none⟩) w (w.drewN kk) := (Only.refl _ _).drewN kk
    have hRd := hR.drewN kk
    have hT := val_window R j (m + 2) (by rw [hR.len]; omega)
    have HX' : Hid ((R.drop j).take (m + 2 + 1) = X) := HEX.out
    rw [HX'.out, HEW.out] at hT
    have hL0 := val_nonneg (hR.lims.take j)
    have hL1 := val_lt (hR.lims.take j)
    rw [List.length_take_of_le (by rw [hR.len]; omega)] at hL1
    have HWin := Lib.hid hT
    have HL0 := Lib.hid hL0
    have HL1 := Lib.hid hL1
    clear hT hL0 hL1
    have hR0 : Hid (Lims R) := hR.lims
    clear qlo qhi q0 q1 r0 r1 hst hqr' d1 d2 x3 hX hR n1 n2 k3 k6 l5 l6 l7 l8 l9 n3 hf
    generalize w.drewN kk = w1 at *
    obtain ⟨pt, hpt⟩ : ∃ pt, pt = pw j * t' := ⟨_, rfl⟩
    have HP := Lib.hid hpt
    clear hpt
    go_wp2_with fail
    go_loopw [11, 12, 13] (fun bv cv iv wr => ∃ (k : Nat) (c b : Int) (Z : List Int), k ≤ m + 3 ∧ iv = .int .i64 k ∧ cv = .int .u64 c ∧ bv = .int .u64 b ∧ (0 ≤ c ∧ c < 4294967296) ∧ (0 ≤ b ∧ b < 2) ∧ Mine wr base (some ⟨g, 0, none⟩) N C Z ∧ Hid (k = m + 3 → c = 0) ∧
      Hid (Z.drop (j + k) = R.drop (j + k)) ∧ Hid (val (Z.take (j + k)) + pt * val (D.take k) = val (R.take (j + k)) + pw (j + k) * (c + b)) ∧ Only (some ⟨g, 0, none⟩) w wr) (fun _ _ iv _ => m + 3 - (intOf iv).toNat)
    case atStart => exact ⟨0, 0, 0, R, by omega, rfl, rfl, rfl, by omega, by omega, hRd, fun _ => rfl, rfl, by show _ = _; simp [val], hO0⟩
    case round =>
      obtain ⟨k, c, b, Z, hk, rfl, rfl, rfl, ⟨c0, c1⟩, ⟨b0, b1⟩, hZ, hc0, hhigh, hV, hO⟩ := hrel
      by_cases hk3 : k < m + 3
      · have uZ := hZ.lims.getD (j + k)
        have cZ := hZ.cellAt (i := j + k) (by omega)
        have fZ := hZ.frozenAt (j + k)
        obtain ⟨z, hz⟩ : ∃ z, R.getD (j + k) 0 = z := ⟨_, rfl⟩
        rw [getD_of_drop hhigh.out, hz] at cZ uZ
        have uD := hD.lims.getD k
        obtain ⟨d, hd⟩ : ∃ d, D.getD k 0 = d := ⟨_, rfl⟩
        rw [hd] at uD
        have ST := subMul_step (Z := Z) (R := R) (D := D) (i := j) (k := k) (t := t') (c := c) (b := b) (by rw [hZ.len]; omega) hz hd uZ ⟨b0, b1⟩ pt HP.out hV.out
        have pr := mul_limbs d t' uD ⟨q0', q1'⟩
        by_cases hkn : k < m + 2
        · have cD : wr.cell? ⟨gd, 0 + k, none⟩ = some (.int .u32 d) := by
            rw [hO.farCell (p := ⟨gd, 0 + k, none⟩) hfar, ← hd]; exact hD.cellAt hkn
          rw [Nat.zero_add] at cD
          have e1 : d * t' + 0 + c = c + t' * d := by rw [Int.mul_comm d t']; omega
          rw [e1] at ST
          rw [Int.mul_comm d t'] at pr
          obtain ⟨pd, hpd⟩ : ∃ pd, t' * d = pd := ⟨_, rfl⟩
          rw [hpd] at ST pr
          have p0 : 0 ≤ c + pd := by omega
          have p1 : c + pd < 18446744073709551616 := by omega
          have AN := u64_and_mask (c + pd) p0 p1
          obtain ⟨p, hp⟩ : ∃ p, c + pd = p := ⟨_, rfl⟩
          rw [hp] at ST AN p0 p1
          have l0 : 0 ≤ p % 4294967296 := by omega
          have l1 : p % 4294967296 < 4294967296 := by omega
          have hh0 : p / 4294967296 < 4294967296 := by omega
          have hh1 : 0 ≤ p / 4294967296 := by omega
          have HST := Lib.hid ST
          have hD2 : Hid ((Z.set (j + k) ((z - p % 4294967296 - b) % 4294967296)).drop (j + (k + 1)) = R.drop (j + (k + 1))) := by
            show _ = _
            rw [← Nat.add_assoc, drop_set]; exact drop_succ hhigh.out
          clear hd hz ST e1
          by_cases hlt : z < p % 4294967296 + b
          · have hbo : Hid (borrowOf z (p % 4294967296) b = 1) := by show _ = _; unfold borrowOf; rw [if_pos hlt]
            go_wp2
            go_roundw
            case rel => exact ⟨k + 1, _, 1, _, by omega, by go_num, rfl, rfl, ⟨hh1, hh0⟩, by omega, hZ.stored' (y := (z - p % 4294967296 - b) % 4294967296) (by omega) (by omega) (by omega), fun h => by omega, hD2.out, by have h := HST.out; rw [hbo.out] at h; exact h, hO.set (j + k) _⟩
            case measure => simp [intOf] <;> omega
          · have hbo : Hid (borrowOf z (p % 4294967296) b = 0) := by show _ = _; unfold borrowOf; rw [if_neg hlt]
            go_wp2
            go_roundw
            case rel => exact ⟨k + 1, _, 0, _, by omega, by go_num, rfl, rfl, ⟨hh1, hh0⟩, by omega, hZ.stored' (y := (z - p % 4294967296 - b) % 4294967296) (by omega) (by omega) (by omega), fun h => by omega, hD2.out, by have h := HST.out; rw [hbo.out] at h; exact h, hO.set (j + k) _⟩
            case measure => simp [intOf] <;> omega
        · obtain rfl : k = m + 2 := by omega
          obtain rfl : d = 0 := by rw [← hd, getD_ge _ _ (by have := HDl.out; omega)]
          have e1 : 0 * t' + 0 + c = c := by omega
          rw [e1] at ST
          have AN := u64_and_mask c (by omega) (by omega)
          have l0 : 0 ≤ c % 4294967296 := by omega
          have l1 : c % 4294967296 < 4294967296 := by omega
          have hh0 : c / 4294967296 < 4294967296 := by omega
          have hh1 : 0 ≤ c / 4294967296 := by omega
          have hh2 : Hid (c / 4294967296 = 0) := by show _ = _; omega
          have HST := Lib.hid ST
          have hD2 : Hid ((Z.set (j + (m + 2)) ((z - c % 4294967296 - b) % 4294967296)).drop (j + (m + 2 + 1)) = R.drop (j + (m + 2 + 1))) := by
            show _ = _
            rw [← Nat.add_assoc, drop_set]; exact drop_succ hhigh.out
          clear hd hz ST e1 pr
          by_cases hlt : z < c % 4294967296 + b
          · have hbo : Hid (borrowOf z (c % 4294967296) b = 1) := by show _ = _; unfold borrowOf; rw [if_pos hlt]
            go_wp2
            go_roundw
            case rel => exact ⟨m + 3, _, 1, _, by omega, by go_num, rfl, rfl, ⟨hh1, hh0⟩, by omega, hZ.stored' (y := (z - c % 4294967296 - b) % 4294967296) (by omega) (by omega) (by omega), fun h => hh2.out, hD2.out, by have h := HST.out; rw [hbo.out] at h; exact h, hO.set (j + (m + 2)) _⟩
            case measure => simp [intOf] <;> omega
          · have hbo : Hid (borrowOf z (c % 4294967296) b = 0) := by show _ = _; unfold borrowOf; rw [if_neg hlt]
            go_wp2
            go_roundw
            case rel => exact ⟨m + 3, _, 0, _, by omega, by go_num, rfl, rfl, ⟨hh1, hh0⟩, by omega, hZ.stored' (y := (z - c % 4294967296 - b) % 4294967296) (by omega) (by omega) (by omega), fun h => hh2.out, hD2.out, by have h := HST.out; rw [hbo.out] at h; exact h, hO.set (j + (m + 2)) _⟩
            case measure => simp [intOf] <;> omega
      · obtain rfl : k = m + 3 := by omega
        obtain rfl : c = 0 := hc0.out rfl
        have hE := hV.out
        rw [List.take_of_length_le (l := D) (by have := HDl.out; omega), HEV.out, HP.out, Int.zero_add] at hE
        have hz1 := val_lt (hZ.lims.take (j + (m + 3)))
        rw [List.length_take_of_le (by rw [hZ.len]; omega)] at hz1
        have hz0 := val_nonneg (hZ.lims.take (j + (m + 3)))
        have hr0 := val_nonneg (hR0.out.take (j + (m + 3)))
        have hwin := HWin.out
        rw [show j + (m + 2) + 1 = j + (m + 3) by omega] at hwin
        rcases (show b = 0 ∨ b = 1 by omega) with rfl | rfl
        · have hfit := round_fit (T := val (R.take (j + (m + 3)))) (T' := val (Z.take (j + (m + 3)))) (q := 0) (pw_pos j) HL1.out hwin HLO.out (by rw [Int.mul_zero, Int.mul_zero, Int.add_zero]) (by omega)
          rw [Int.mul_zero, Int.add_zero] at hfit
          have HF := Lib.hid hfit
          have HH := Lib.hid hhigh.out
          clear hfit hE hz0 hz1 hr0 hwin hV hhigh hc0
          go_wp2
          go_ret
          exact ⟨t', Z, rfl, ⟨q0', q1'⟩, hZ, HH.out, HF.out.1, HF.out.2, hO⟩
        · have ht1 : 1 ≤ t' := by
            rcases Int.lt_or_le t' 1 with h | h
            · have : t' = 0 := by omega
              subst this
              simp at hE
              omega
            · exact h
          have HE := Lib.hid hE
          have HZ1 := Lib.hid hz1
          have HH := Lib.hid hhigh.out
          have HW2 := Lib.hid hwin
          clear hE hz1 hhigh hz0 hr0 hwin hV hc0 c0 c1 b0 b1 hk3 hk
          go_wp2_with fail
          go_loopw [12, 17] (fun cv iv wr => ∃ (k : Nat) (c : Int) (Y : List Int), k ≤ m + 3 ∧ iv = .int .i64 k ∧ cv = .int .u64 c ∧ (0 ≤ c ∧ c ≤ 1) ∧ Mine wr base (some ⟨g, 0, none⟩) N C Y ∧
            Hid (Y.drop (j + k) = Z.drop (j + k)) ∧ Hid (val (Y.take (j + k)) + pw (j + k) * c = val (Z.take (j + k)) + pw j * val (D.take k)) ∧ Only (some ⟨g, 0, none⟩) w wr) (fun _ iv _ => m + 3 - (intOf iv).toNat)
          case atStart => exact ⟨0, 0, Z, by omega, rfl, rfl, by omega, hZ, rfl, by show _ = _; simp [val], hO⟩
          case round =>
            obtain ⟨k, c, Y, hk, rfl, rfl, ⟨c0, c1⟩, hY, hhigh, hV, hO⟩ := hrel
            clear hZ
            by_cases hk3 : k < m + 3
            · have uZ := hY.lims.getD (j + k)
              have cZ := hY.cellAt (i := j + k) (by omega)
              have fZ := hY.frozenAt (j + k)
              obtain ⟨z, hz⟩ : ∃ z, Z.getD (j + k) 0 = z := ⟨_, rfl⟩
              rw [getD_of_drop hhigh.out, hz] at cZ uZ
              have uD := hD.lims.getD k
              obtain ⟨d, hd⟩ : ∃ d, D.getD k 0 = d := ⟨_, rfl⟩
              rw [hd] at uD
              have ST := addBack_step (Z := Y) (R := Z) (D := D) (i := j) (k := k) (c := c) (by rw [hY.len]; omega) hz hd hV.out
              have HST := Lib.hid ST
              have hD2 : Hid ((Y.set (j + k) ((z + d + c) % 4294967296)).drop (j + (k + 1)) = Z.drop (j + (k + 1))) := by
                show _ = _
                rw [← Nat.add_assoc, drop_set]; exact drop_succ hhigh.out
              by_cases hkn : k < m + 2
              · have cD : wr.cell? ⟨gd, 0 + k, none⟩ = some (.int .u32 d) := by
                  rw [hO.farCell (p := ⟨gd, 0 + k, none⟩) hfar, ← hd]; exact hD.cellAt hkn
                rw [Nat.zero_add] at cD
                have e1 : Hid ((z + c + d) / 4294967296 = (z + d + c) / 4294967296) := by show _ = _; omega
                clear hd hz ST
                go_wp2
                go_roundw
                case rel => exact ⟨k + 1, (z + d + c) / 4294967296, _, by omega, by go_num, congrArg _ e1.out, by omega, hY.stored' (y := (z + d + c) % 4294967296) (by omega) (by omega) (by omega), hD2.out, HST.out, hO.set (j + k) _⟩
                case measure => simp [intOf] <;> omega
              · obtain rfl : k = m + 2 := by omega
                obtain rfl : d = 0 := by rw [← hd, getD_ge _ _ (by have := HDl.out; omega)]
                have e1 : Hid ((z + c) / 4294967296 = (z + 0 + c) / 4294967296) := by show _ = _; omega
                clear hd hz ST
                go_wp2
                go_roundw
                case rel => exact ⟨m + 3, (z + 0 + c) / 4294967296, _, by omega, by go_num, congrArg _ e1.out, by omega, hY.stored' (y := (z + 0 + c) % 4294967296) (by omega) (by omega) (by omega), hD2.out, HST.out, hO.set (j + (m + 2)) _⟩
                case measure => simp [intOf] <;> omega
            · obtain rfl : k = m + 3 := by omega
              have h2 := hV.out
              rw [List.take_of_length_le (l := D) (by have := HDl.out; omega), HEV.out] at h2
              have hy1 := val_lt (hY.lims.take (j + (m + 3)))
              rw [List.length_take_of_le (by rw [hY.len]; omega)] at hy1
              have hback := round_back (T := val (R.take (j + (m + 3)))) (T' := val (Z.take (j + (m + 3)))) (T2 := val (Y.take (j + (m + 3)))) (q := 0) (P := pw (j + (m + 3))) (o := c) (pw_pos j) HL0.out HW2.out HHI.out (by rw [Int.mul_zero, Int.mul_zero, Int.add_zero]) (by have := HE.out; omega) HZ1.out h2 c0 c1 hy1
              rw [Int.mul_zero, Int.add_zero] at hback
              have HF := Lib.hid hback
              have HH2 : Hid (Y.drop (j + (m + 3)) = R.drop (j + (m + 3))) := hhigh.out.trans HH.out
              clear hback h2 hy1 hV hhigh
              go_wp2
              go_ret
              exact ⟨t' - 1, Y, rfl, by omega, hY, HH2.out, HF.out.1, HF.out.2, hO⟩
end Go.Proofs.YtklndjkblfncjaaGreatDoor.Q
namespace Go.Proofs.YtklndjkblfncjaaGreatDoor.Q
open Go.RowKit
set_option maxRecDepth 20000

theorem refTop {M : List Int} {k s : Nat} {d : Int} (hM : Lims M) (hl : M.length = k + 1) (hd : M.getD k 0 = d) (s31 : s ≤ 31) (h1 : d * 2 ^ s < 4294967296) (h0 : 2147483648 ≤ d * 2 ^ s) :
    val M * 2 ^ s < pw (k + 1) ∧ 2147483648 * pw k ≤ val M * 2 ^ s := by
  have tp : (0 : Int) < 2 ^ s := Int.pow_pos (by decide)
  have hMv := val_take_getD M k
  rw [List.take_of_length_le (by omega), hd] at hMv
  have hM0 := val_nonneg (hM.take k)
  have hM1 := val_lt (hM.take k)
  rw [List.length_take_of_le (by omega)] at hM1
  constructor
  · have h2 : val M * 2 ^ s ≤ ((d + 1) * pw k - 1) * 2 ^ s := by
      refine le_mul ?_ (by omega)
      rw [hMv]
      have e : (d + 1) * pw k = pw k + pw k * d := by grind
      omega
    have h3 : pw k * ((d + 1) * 2 ^ s) ≤ pw k * 4294967296 := by
      refine le_mul' ?_ (Int.le_of_lt (pw_pos _))
      have e31 : (2 : Int) ^ s * 2 ^ (32 - s) = 4294967296 := by rw [← Int.pow_add, show s + (32 - s) = 32 from by omega]; decide
      have h3 : d * 2 ^ s < 2 ^ (32 - s) * 2 ^ s := by rw [Int.mul_comm (2 ^ (32 - s)), e31]; exact h1
      have h4 : d < 2 ^ (32 - s) := Int.lt_of_mul_lt_mul_right h3 (by omega)
      have h5 : (d + 1) * 2 ^ s ≤ 2 ^ (32 - s) * 2 ^ s := le_mul (by omega) (by omega)
      rw [Int.mul_comm (2 ^ (32 - s)), e31] at h5
      exact h5
    have e2 : ((d + 1) * pw k - 1) * 2 ^ s = pw k * ((d + 1) * 2 ^ s) - 2 ^ s := by grind
    rw [pw_succ]
    omega
  · have h2 : pw k * d * 2 ^ s ≤ val M * 2 ^ s := le_mul (by omega) (by omega)
    have h3 : pw k * 2147483648 ≤ pw k * (d * 2 ^ s) := le_mul' h0 (Int.le_of_lt (pw_pos _))
    have e : pw k * d * 2 ^ s = pw k * (d * 2 ^ s) := Int.mul_assoc ..
    omega

theorem refX_lt {L : List Int} {la k s : Nat} {V : Int} (hL : Lims L) (hl : L.length = la) (hle : k + 1 ≤ la) (s31 : s ≤ 31) (hV : 2147483648 * pw k ≤ V) : val L * 2 ^ s < V * pw (la - k) := by
  have tp : (0 : Int) < 2 ^ s := Int.pow_pos (by decide)
  have sp : (2 : Int) ^ s ≤ 2147483648 := by
    have h2 : (2 : Nat) ^ s ≤ 2 ^ 31 := Nat.pow_le_pow_right (by decide) s31
    have h3 : (2 : Int) ^ s ≤ 2 ^ 31 := by exact_mod_cast h2
    have e31 : (2 : Int) ^ 31 = 2147483648 := by decide
    omega
  have LT := val_lt hL
  rw [hl] at LT
  have h1 : (val L + 1) * 2 ^ s ≤ pw la * 2 ^ s := le_mul (by omega) (by omega)
  have h2 : pw la * 2 ^ s ≤ pw la * 2147483648 := le_mul' sp (Int.le_of_lt (pw_pos _))
  have h3 : 2147483648 * pw k * pw (la - k) ≤ V * pw (la - k) := le_mul hV (Int.le_of_lt (pw_pos _))
  have e : 2147483648 * pw k * pw (la - k) = pw la * 2147483648 := by
    rw [Int.mul_assoc, ← pw_add, show k + (la - k) = la from by omega, Int.mul_comm]
  rw [Int.add_mul] at h1
  omega

theorem Is.len_of {D : List Int} {V : Int} {k : Nat} (h : Is D V) (h1 : V < pw (k + 1)) (h0 : 2147483648 * pw k ≤ V) : D.length = k + 1 := by
  have p := pw_pos k
  have hlt := h.lt
  rcases Nat.lt_or_ge D.length (k + 1) with h2 | h2
  · exfalso
    have := pw_mono (m := D.length) (n := k) (by omega)
    omega
  · rcases Nat.lt_or_ge (k + 1) D.length with h3 | h3
    · exfalso
      obtain ⟨j, hj⟩ : ∃ j, D.length = j + 1 := ⟨D.length - 1, by omega⟩
      have h4 := h.ge hj
      have := pw_mono (m := k + 1) (n := j) (by omega)
      omega
    · omega

theorem digit_step {X rR rR' V p T T' q v : Int} (hX : X = rR + V * (4294967296 * p * v)) (hR : rR = T) (hR' : rR' = T') (hT : T = T' + V * (p * q)) : X = rR' + V * (p * (q + 4294967296 * v)) := by
  rw [hX, hR, hR', hT]; grind

set_option maxHeartbeats 4000000 in
theorem refDivMod_long (A B : Option Addr) (n c m d : Nat) (L M : List Int) (w : World) (hr : Rd w A n c L) (hs : Rd w B m d M) (hn : n ≤ 800000) (hm : m ≤ 800000) (m1 : 4294967296 ≤ val M) :
    Calls Tryz.prog 110 #[.slice A n c, .slice B m d] w (Gives2 w (val L / val M) (val L % val M)) := by
  have v0 := val_nonneg hr.lims
  obtain ⟨i0, hi, hz0, hz1, hz2⟩ := info_parts info_limb
  go_enter Tryz.func110, Tryz.ntmps110
  go_wp2_with fail
  refine (refTrim_any A n c L w hr (by omega)).mono ?_
  rintro e w1 ⟨A1, n1, c1, L1, rfl, hA1, hI, hB1⟩
  have HI := Lib.hid hI
  clear hI
  go_wp2_with fail
  refine (refTrim_any B m d M w1 (hs.below hB1) (by omega)).mono ?_
  rintro e w2 ⟨B1, k1, d1, M1, rfl, hA2, hJ, hB2⟩
  have hn1 : n1 ≤ 800000 := by
    have h2 := hA1.len
    have h3 := hr.len
    have h4 := HI.out.unique (Is.mk_trim hr.lims)
    have h5 := trim_length_le L
    rw [← h4] at h5
    omega
  have hm1 : k1 ≤ 800000 := by
    have h2 := hA2.len
    have h3 := hs.len
    have h4 := hJ.unique (Is.mk_trim hs.lims)
    have h5 := trim_length_le M
    rw [← h4] at h5
    omega
  have hk2 : 2 ≤ k1 := by
    have h1 := hJ.lt
    rw [hA2.len] at h1
    rcases Nat.lt_or_ge k1 2 with h | h
    · exfalso
      have h2 := pw_mono (m := k1) (n := 1) (by omega)
      have h3 : pw 1 = 4294967296 := by decide
      omega
    · exact h
  obtain ⟨k, rfl⟩ : ∃ k, k1 = k + 2 := ⟨k1 - 2, by omega⟩
  have HJ := Lib.hid hJ
  have HA1 := hA1.below hB2
  have hBB := nextB hB1 hB2
  have hs1 := hB1.size
  have CM := Lib.hid (refCmp_any _ _ _ _ _ _ _ _ w2 HA1.rd hA2.rd (by omega) (by omega))
  clear hJ hA1 hr hs
  go_wp2_with fail
  refine CM.out.mono ?_
  rintro e w3 ⟨rfl, hB3⟩
  rw [HI.out.eq, HJ.out.eq]
  have HA3 := HA1.below hB3
  have HB3 := (hA2.below hB3).more hs1
  have hB03 := nextB hBB hB3
  clear HA1 hA2 hB1 hB2 hBB hB3 CM
  by_cases hlt : val L < val M
  · have hE := cmpZ_lt hlt
    rw [hE]
    have HQ : Hid (0 = val L / val M) := (Int.ediv_eq_zero_of_lt v0 hlt).symm
    have HR : Hid (val L = val L % val M) := (Int.emod_eq_of_lt v0 hlt).symm
    clear hE
    go_wp2
    go_ret3
    refine ⟨none, 0, 0, [], A1, n1, c1, L1, rfl, Mine.nil _ _, ?_, HA3, ?_, hB03⟩
    · rw [← HQ.out]; exact Is.zero
    · rw [← HR.out]; exact HI.out
  · obtain ⟨z, hz, z0⟩ : ∃ z, cmpZ (val L) (val M) = z ∧ 0 ≤ z := by
      unfold cmpZ
      rw [if_neg hlt]
      split
      · exact ⟨1, rfl, by decide⟩
      · exact ⟨0, rfl, by decide⟩
    rw [hz]
    clear hz
    have hkn : k + 2 ≤ n1 := by
      rcases Nat.lt_or_ge n1 (k + 2) with h | h
      · exfalso
        have := HI.out.lt_of_length HJ.out (by rw [HA3.len, HB3.len]; exact h)
        omega
      · exact h
    obtain ⟨gA, rfl, gA0, gA1⟩ := HA3.form (by omega)
    obtain ⟨gB, rfl, gB0, gB1⟩ := HB3.form (by omega)
    have cB := HB3.cellAt (i := k + 1) (by omega)
    have uB := HB3.lims.getD (k + 1)
    have hne := last_ne HJ.out.nrm (k + 1) (by rw [HB3.len])
    obtain ⟨t, ht⟩ : ∃ t, M1.getD (k + 1) 0 = t := ⟨_, rfl⟩
    rw [ht] at cB uB hne
    have HT := Lib.hid ht
    have hne2 : 1 ≤ t := by omega
    clear ht hne
    have n1' : ((k : Int) + 1).toNat = k + 1 := by omega
    go_wp2_with fail
    go_loopw [9] (fun sv wr => ∃ s : Nat, s ≤ 31 ∧ sv = .int .i64 s ∧ t * 2 ^ s < 4294967296 ∧ wr = w3) (fun sv _ => 32 - (intOf sv).toNat)
    case atStart => exact ⟨0, by omega, rfl, by simpa using uB.2, rfl⟩
    case round =>
      obtain ⟨s, hs31, rfl, hts, rfl⟩ := hrel
      have htp : (0 : Int) < 2 ^ s := Int.pow_pos (by decide)
      have hts0 : 0 ≤ t * 2 ^ s := Int.mul_nonneg (by omega) (by omega)
      by_cases hgo : t * 2 ^ s < 2147483648
      · have hs30 : s < 31 := by
          rcases Nat.lt_or_ge s 31 with h | h
          · exact h
          · exfalso
            obtain rfl : s = 31 := by omega
            have : (2 : Int) ^ 31 = 2147483648 := by decide
            rw [this] at hgo
            omega
        have h2 : t * 2 ^ (s + 1) < 4294967296 := by rw [Int.pow_succ, ← Int.mul_assoc]; omega
        go_wp2
        go_roundw
        case rel => exact ⟨s + 1, by omega, by go_num, h2, by first | rfl | trivial⟩
        case measure => simp [intOf] <;> omega
      · obtain ⟨hVlt, hVge⟩ := refTop (M := M1) (k := k + 1) (s := s) (d := t) HB3.lims HB3.len HT.out hs31 hts (by omega)
        rw [HJ.out.eq] at hVlt hVge
        have hXlt := refX_lt (L := L1) (la := n1) (k := k + 1) (s := s) HA3.lims HA3.len hkn hs31 hVge
        rw [HI.out.eq] at hXlt
        have V0 : 0 < val M * 2 ^ s := by have := pw_pos (k + 1); omega
        have SL := Lib.hid (refShift_any _ _ _ s _ wr HA3.rd (by omega) hs31)
        rw [HI.out.eq] at SL
        have HVlt := Lib.hid hVlt
        have HVge := Lib.hid hVge
        have HXlt := Lib.hid hXlt
        have HB3' := Lib.hid HB3
        clear hVlt hVge hXlt hlt z0 HA3 HB3
        go_wp2_with fail
        refine SL.out.mono ?_
        rintro e w4 ⟨AR, cR, R0, rfl, hR0, hR0v, hB4⟩
        clear SL cB hgo hts hts0
        obtain ⟨gR, rfl, gR0, gR1⟩ := hR0.form (by omega)
        have SM := refShift_any _ _ _ s _ w4 (HB3'.out.below hB4).rd (by omega) hs31
        rw [HJ.out.eq] at SM
        have HSM := Lib.hid SM
        have HR0v := Lib.hid hR0v
        clear SM HB3' hR0v
        go_wp2_with fail
        refine HSM.out.mono ?_
        rintro e w5 ⟨AS, cS, S0, rfl, hS0, hS0v, hB5⟩
        have TS := Lib.hid (refTrim_any _ _ _ _ w5 hS0.rd (by omega))
        rw [hS0v] at TS
        have HR5 := hR0.below hB5
        have hB35 := nextB hB4 hB5
        clear HSM hS0v hR0
        have hs5 := hB5.size
        go_wp2_with fail
        refine TS.out.mono ?_
        rintro e w6 ⟨AD, nD, cD, D, rfl, hD, hID, hB6⟩
        have hDl := hID.len_of HVlt.out HVge.out
        obtain rfl : nD = k + 2 := by rw [← hD.len, hDl]
        obtain ⟨gD, rfl, gD0, gD1⟩ := hD.form (by omega)
        have hDt : Hid (2147483648 ≤ D.getD (k + 1) 0) := by
          show _ ≤ _
          have h1 := val_take_getD D (k + 1)
          rw [List.take_of_length_le (by rw [hDl]; omega), hID.eq] at h1
          have h2 := val_lt (hD.lims.take (k + 1))
          rw [List.length_take_of_le (by rw [hDl]; omega)] at h2
          have h3 := HVge.out
          rcases Int.lt_or_le (D.getD (k + 1) 0) 2147483648 with h4 | h4
          · exfalso
            have h5 : pw (k + 1) * (D.getD (k + 1) 0 + 1) ≤ pw (k + 1) * 2147483648 := le_mul' (by omega) (Int.le_of_lt (pw_pos _))
            rw [Int.mul_add] at h5
            omega
          · exact h4
        have hDv : Hid (val D = val M * 2 ^ s) := hID.eq
        have HR6 := (HR5.below hB6).more (show w.heap.size ≤ wr.heap.size from hB03.size)
        have hD6 := hD.more (show w.heap.size ≤ w5.heap.size by have := hB03.size; have := hB4.size; omega)
        have hB36 := nextB hB35 hB6
        have hB06 := nextB hB03 hB36
        have hs6 := hB6.size
        have hDR : gD ≠ gR := by omega
        clear HR5 hD hS0 hID hDl hB35 hB4 hB5 hB6 hB36 hB03 TS
        go_wp2_with (at_make; refine wpList_make_full _ rfl _ _ 90 rfl w6.heap.size 96 i0 (.int .u32 0) 1 Tryz.underlying90 hi hz0 hz1 _ _ _ _ (n1 - (k + 2) + 1) rfl rfl ?b0 ?b1 ?b2 ?b3 (Nat.le_refl _) ?_)
        case b0 => go_num
        case b1 => go_num
        case b2 => rw [hz2]; omega
        case b3 => unfold maxLen; omega
        intro w7 hown hgrow
        have hQ0 := (Mine.zero hown).more hB06.size
        have hB7 := below_of_grown hgrow
        have HR7 := HR6.below hB7
        have HD7 := hD6.below hB7
        have hB07 := nextB hB06 hB7
        obtain ⟨gQ, hgQ⟩ : ∃ gQ, gQ = w6.heap.size := ⟨_, rfl⟩
        have hRQ : gR ≠ gQ := by omega
        have hDQ : gD ≠ gQ := by omega
        have hgRw : w.heap.size ≤ gR := (HR7.lt _ rfl).1
        have hgDw : w.heap.size ≤ gD := (HD7.lt _ rfl).1
        have hgQw : w.heap.size ≤ gQ := by rw [hgQ]; exact hB06.size
        rw [← hgQ] at hQ0 ⊢
        have HGQ := Lib.hid hgQ
        obtain ⟨V, hV⟩ : ∃ V, V = val M * 2 ^ s := ⟨_, rfl⟩
        obtain ⟨X, hX⟩ : ∃ X, X = val L * 2 ^ s := ⟨_, rfl⟩
        rw [← hV] at HVlt HVge hDv V0
        rw [← hX] at HR0v
        rw [← hX, ← hV] at HXlt
        have HX := Lib.hid hX
        have HV := Lib.hid hV
        clear hown hgrow hgQ HR6 hD6 hB7 hB06 hX hV gA0 gA1 gB0 gB1 gR0 gR1 gD0 gD1 hs5 hs6 n1'
        go_wp2
        go_loopw [13] (fun iv wr => ∃ (j : Nat) (R Q : List Int), j ≤ n1 - (k + 2) + 1 ∧ iv = .int .i64 ((j : Int) - 1) ∧ Mine wr w.heap.size (some ⟨gR, 0, none⟩) (n1 + 1) cR R ∧ Mine wr w.heap.size (some ⟨gQ, 0, none⟩) (n1 - (k + 2) + 1) (n1 - (k + 2) + 1) Q ∧
          Mine wr w.heap.size (some ⟨gD, 0, none⟩) (k + 2) cD D ∧ Hid (X = val R + V * (pw j * val (Q.drop j))) ∧ Hid (val R < V * pw j) ∧ Below w.heap.size w wr) (fun iv _ => (intOf iv + 1).toNat)
        case atStart =>
          refine ⟨n1 - (k + 2) + 1, R0, _, Nat.le_refl _, by go_num, HR7, hQ0, HD7, ?_, ?_, hB07⟩
          · show _ = _
            rw [List.drop_eq_nil_of_le (by simp), HR0v.out]; simp [val]
          · show _ < _
            have h1 := HXlt.out
            rw [HR0v.out, show n1 - (k + 2) + 1 = n1 - (k + 1) from by omega]; exact h1
        case round =>
          obtain ⟨j, R, Q, hj, rfl, hR, hQ, hDw, hE, hlt, hB⟩ := hrel
          clear HR7 hQ0 HD7 hB07 HR0v
          by_cases h0 : j = 0
          · subst h0
            have tp : (0 : Int) < 2 ^ s := Int.pow_pos (by decide)
            have hend := long_end (a := val L) (b := val M) (q := val Q) (r := val R) tp (by
              have h1 := hE.out
              rw [HX.out, HV.out] at h1
              simp only [pw_zero, Int.one_mul, List.drop_zero] at h1
              exact h1) (val_nonneg hR.lims) (by
              have h1 := hlt.out
              rw [pw_zero, Int.mul_one, HV.out] at h1
              exact h1)
            have HE := Lib.hid hend
            have TQ := refTrim_any _ _ _ _ wr hQ.rd (by omega)
            have hv : val Q = val L / val M := hend.1
            rw [hv] at TQ
            have HTQ := Lib.hid TQ
            have hszw := hB.size
            clear hE hlt hDw hend TQ hv tp
            go_wp2_with fail
            refine HTQ.out.mono ?_
            rintro e w8 ⟨A8, n8, c8, Q8, rfl, hQ8, IQ8, hB8⟩
            have UR := refUnshift_any _ _ _ s _ w8 (hR.below hB8).rd (by omega) hs31
            rw [HE.out.2] at UR
            have HUR := Lib.hid UR
            have HIQ := Lib.hid IQ8
            have hs8 := hB8.size
            clear UR IQ8 HTQ hQ hR
            go_wp2_with fail
            refine HUR.out.mono ?_
            rintro e w9 ⟨A9, n9, c9, R9, rfl, hR9, IR9, hB9⟩
            have HIR := Lib.hid IR9
            have hB89 := nextB hB8 hB9
            have hQ9 := (hQ8.below hB9).more hszw
            have hR99 := hR9.more (show w.heap.size ≤ w8.heap.size by omega)
            clear IR9 hQ8 hR9 HUR hs8
            go_wp2
            go_ret3
            exact ⟨A8, n8, c8, Q8, A9, n9, c9, R9, rfl, hQ9, HIQ.out, hR99, HIR.out, nextB hB hB89⟩
          · obtain ⟨i, rfl⟩ : ∃ i, j = i + 1 := ⟨j - 1, by omega⟩
            have hin : i + (k + 2) + 1 ≤ n1 + 1 := by omega
            have hRl := hR.len
            have hhigh := val_high hR.lims (k := i + (k + 3)) (by omega) (by
              have h1 : V * pw (i + 1) ≤ pw (k + 1 + 1) * pw (i + 1) := le_mul (Int.le_of_lt HVlt.out) (Int.le_of_lt (pw_pos _))
              rw [← pw_add, show k + 1 + 1 + (i + 1) = i + (k + 3) from by omega] at h1
              have := hlt.out
              omega)
            have hwin := val_window R i (k + 2) (by omega)
            have hWlt : val ((R.drop i).take (k + 3)) < val D * 4294967296 := by
              refine cancel_lt (pw_pos i) ?_
              have h1 := val_nonneg (hR.lims.take i)
              have h2 := hlt.out
              rw [pw_succ] at h2
              have e : pw i * (val D * 4294967296) = V * (4294967296 * pw i) := by rw [hDv.out]; grind
              have e2 : i + (k + 2) + 1 = i + (k + 3) := by omega
              rw [e2, hhigh.2] at hwin
              have e3 : k + 2 + 1 = k + 3 := by omega
              rw [e3] at hwin
              omega
            have DG := refDigit_any gR gD w.heap.size (n1 + 1) cR k cD i R D wr hR hDw.rd hDR (by omega) (by omega) hDt.out hWlt
            rw [hDv.out] at DG
            have HDG := Lib.hid DG
            have HH := Lib.hid hhigh
            have HRl := Lib.hid hRl
            clear hhigh hwin hWlt hRl h0 DG hR
            go_wp2_with fail
            refine HDG.out.mono ?_
            rintro e w8 ⟨q, R', rfl, ⟨q0, q1⟩, hR', hdr, hT, hTl, hO⟩
            have hQ8 : Mine w8 w.heap.size (some ⟨gQ, 0, none⟩) (n1 - (k + 2) + 1) (n1 - (k + 2) + 1) Q := hQ.other hO (by rintro a a' h1 h2; injection h1 with h1; injection h2 with h2; rw [← h1, ← h2]; exact hRQ)
            have hD8 : Mine w8 w.heap.size (some ⟨gD, 0, none⟩) (k + 2) cD D := hDw.other hO (by rintro a a' h1 h2; injection h1 with h1; injection h2 with h2; rw [← h1, ← h2]; exact fun e => hDR e.symm)
            have hB8 := hB.trans (hO.below (B := w.heap.size) (by rintro a h1; injection h1 with h1; rw [← h1]; exact hgRw))
            have hval : val R' = val (R'.take (i + (k + 3))) := by
              have h1 := val_split R' (i + (k + 3))
              rw [hdr, HH.out.1] at h1
              omega
            have HE2 : Hid (X = val R' + V * (pw i * val ((Q.set i q).drop i))) := by
              show _ = _
              rw [drop_set_val (by rw [hQ.len]; omega)]
              have h1 := hE.out
              rw [pw_succ] at h1
              exact digit_step h1 HH.out.2.symm hval hT
            have HL2 : Hid (val R' < V * pw i) := by show _ < _; rw [hval]; exact hTl
            have cQ := hQ8.cellAt (i := i) (by omega)
            have fQ := hQ8.frozenAt i
            have hQ9 := hQ8.stored i q0 q1
            have hR9 := hR'.far (p := ⟨gQ, i, none⟩) (by rintro a h1; injection h1 with h1; rw [← h1]; exact hRQ) (.int .u32 q)
            have hD9 := hD8.far (p := ⟨gQ, i, none⟩) (by rintro a h1; injection h1 with h1; rw [← h1]; exact hDQ) (.int .u32 q)
            have hB9 := hB8.setCell (p := ⟨gQ, i, none⟩) hgQw (.int .u32 q)
            generalize Q.getD i 0 = y at *
            clear hval hT hTl hdr hO HDG hQ hDw hE hlt hB hQ8 hD8 hR'
            go_wp2
            go_roundw
            case rel => exact ⟨i, R', Q.set i q, by omega, by go_num, hR9, hQ9, hD9, HE2.out, HL2.out, hB9⟩
            case measure => simp [intOf] <;> omega

end Go.Proofs.YtklndjkblfncjaaGreatDoor.Q

namespace Go.Proofs.YtklndjkblfncjaaGreatDoor.Q
open Go.RowKit
set_option maxRecDepth 20000

theorem refDivMod_any (A B : Option Addr) (n c m d : Nat) (L M : List Int) (w : World) (hr : Rd w A n c L) (hs : Rd w B m d M) (hn : n ≤ 800000) (hm : m ≤ 800000) (m0 : 0 < val M) :
    Calls Tryz.prog 110 #[.slice A n c, .slice B m d] w (Gives2 w (val L / val M) (val L % val M)) := by
  by_cases h : val M < 4294967296
  · exact refDivMod_one A B n c m d L M w hr hs (by omega) (by omega) m0 h
  · exact refDivMod_long A B n c m d L M w hr hs hn hm (by omega)
theorem gcd_step {x y G : Int} (h : (Int.gcd x y : Int) = G) : (Int.gcd y (x % y) : Int) = G := by
  rw [← h, gcd_rest]

set_option maxHeartbeats 1000000 in
theorem refGcd_any (A B : Option Addr) (n c m d : Nat) (L M : List Int) (w : World) (hr : Rd w A n c L) (hs : Rd w B m d M) (hn : n ≤ 800000) (hm : m ≤ 800000) (G : Int) (hG : (Int.gcd (val L) (val M) : Int) = G) :
    Calls Tryz.prog 109 #[.slice A n c, .slice B m d] w (Gives w G) := by
  have HG := Lib.hid hG
  clear hG
  go_enter Tryz.func109, Tryz.ntmps109
  go_wp2_with fail
  refine (refTrim_any A n c L w hr (by omega)).mono ?_
  rintro e w1 ⟨A1, n1, c1, L1, rfl, hA1, hI, hB1⟩
  have HI := Lib.hid hI
  have hn1 : n1 ≤ 800000 := by
    have h2 := hA1.len
    have h3 := hr.len
    have h4 := hI.unique (Is.mk_trim hr.lims)
    have h5 := trim_length_le L
    rw [← h4] at h5
    omega
  clear hI
  go_wp2_with fail
  refine (refTrim_any B m d M w1 (hs.below hB1) (by omega)).mono ?_
  rintro e w2 ⟨B1, m1, d1, M1, rfl, hA2, hJ, hB2⟩
  have hm1 : m1 ≤ 800000 := by
    have h2 := hA2.len
    have h3 := hs.len
    have h4 := hJ.unique (Is.mk_trim hs.lims)
    have h5 := trim_length_le M
    rw [← h4] at h5
    omega
  obtain ⟨y, hy⟩ := Int.eq_ofNat_of_zero_le (val_nonneg hs.lims)
  have hJ' : Is M1 (y : Int) := by rw [← hy]; exact hJ
  have HJ := Lib.hid hJ'
  have hA3 := hA1.below hB2
  have hA4 := hA2.more hB1.size
  have hBB := nextB hB1 hB2
  have HG2 : Hid ((Int.gcd (val L) (y : Int) : Int) = G) := by show _ = _; rw [← hy]; exact HG.out
  clear hJ hJ' hA1 hA2 hB1 hB2 hr hs hy
  go_wp2
  go_loopg [0, 1] y (fun k av bv wr => ∃ (A : Option Addr) (n c : Nat) (L : List Int) (B : Option Addr) (m d : Nat) (M : List Int) (x : Int), av = .slice A n c ∧ bv = .slice B m d ∧ n ≤ 800000 ∧ m ≤ 800000 ∧ Mine wr w.heap.size A n c L ∧ Hid (Is L x) ∧ Mine wr w.heap.size B m d M ∧ Hid (Is M (k : Int)) ∧
    Hid ((Int.gcd x (k : Int) : Int) = G) ∧ Below w.heap.size w wr)
  case atStart => exact ⟨A1, n1, c1, L1, B1, m1, d1, M1, _, rfl, rfl, hn1, hm1, hA3, HI.out, hA4, HJ.out, HG2.out, hBB⟩
  case round =>
    obtain ⟨A2, n2, c2, L2, B2, m2, d2, M2, x, rfl, rfl, hn2, hm2, hL, hIL, hM, hIM, hE, hB⟩ := hrel
    clear hA3 hA4 hBB HI HJ HG2
    have hcap := hM.rd.cap
    by_cases h0 : m2 = 0
    · have hk : (gk : Int) = 0 := by
        subst h0
        have : M2 = [] := List.eq_nil_of_length_eq_zero hM.len
        rw [this] at hIM
        exact hIM.out.eq_of_nil
      have hx0 := hIL.out.nonneg
      have hF : Hid (Is L2 G) := by
        have h1 := hE.out
        rw [hk, Int.gcd_zero_right, Int.ofNat_natAbs_of_nonneg hx0] at h1
        rw [← h1]; exact hIL.out
      subst h0
      clear hk hM
      go_wp2
      go_ret
      exact ⟨A2, n2, c2, L2, rfl, hL, hF.out, hB⟩
    · have hkp : 0 < (gk : Int) := by
        obtain ⟨j, hj⟩ : ∃ j, M2.length = j + 1 := ⟨M2.length - 1, by have := hM.len; omega⟩
        have := hIM.out.ge hj
        have := pw_pos j
        omega
      have DM := refDivMod_any A2 B2 n2 c2 m2 d2 L2 M2 wr hL.rd hM.rd hn2 hm2 (by rw [hIM.out.eq]; exact hkp)
      rw [hIL.out.eq, hIM.out.eq] at DM
      have HDM := Lib.hid DM
      obtain ⟨r, hrr⟩ := Int.eq_ofNat_of_zero_le (Int.emod_nonneg x (show (gk : Int) ≠ 0 by omega))
      have hrlt := Int.emod_lt_of_pos x hkp
      have hlt2 := hIM.out.lt
      rw [hM.len] at hlt2
      have hstep := gcd_step hE.out
      rw [hrr] at hrlt hstep
      have HRR := Lib.hid hrr
      have HST := Lib.hid hstep
      have hrk : r < gk := by omega
      have hrp : (r : Int) < pw m2 := by omega
      have HRP := Lib.hid hrp
      have hbs := hB.size
      clear DM hrr hstep hrlt hlt2 hkp hL hIL hE hrp
      go_wp2_with fail
      refine HDM.out.mono ?_
      rintro e w3 ⟨A4, n4, c4, Q, B4, m4, d4, R, rfl, hQ, iQ, hR, iR, hB3⟩
      rw [HRR.out] at iR
      have hm4 : m4 ≤ m2 := (Nrm.of_mine hR iR).short HRP.out
      have HIR := Lib.hid iR
      have hM3 := hM.below hB3
      have hR3 := hR.more hbs
      have hB4 := nextB hB hB3
      clear iR iQ hQ hM hR HDM hB3 hB
      go_wp2
      go_roundg r
      case measure => omega
      case rel => exact ⟨B2, m2, d2, M2, B4, m4, d4, R, _, rfl, rfl, hm2, by omega, hM3, hIM.out, hR3, HIR.out, HST.out, hB4⟩

end Go.Proofs.YtklndjkblfncjaaGreatDoor.Q
namespace Go.Proofs.YtklndjkblfncjaaGreatDoor.Q
open Go.RowKit
set_option maxRecDepth 20000

/-- A natural number in decimal. -/
def dec (n : Nat) : ByteArray := ⟨(revDig n).reverse.toArray⟩
theorem revDig_inj : ∀ m n : Nat, revDig m = revDig n → m = n := by
  intro m
  induction m using Nat.strongRecOn with
  | _ m ih =>
    intro n h
    rw [revDig, revDig.eq_def n] at h
    injection h with h1 h2
    have h3 : (48 + m % 10) = (48 + n % 10) := by
      have a : (UInt8.ofNat (48 + m % 10)).toNat = 48 + m % 10 := UInt8.toNat_ofNat_of_lt (by show _ < 256; omega)
      have b : (UInt8.ofNat (48 + n % 10)).toNat = 48 + n % 10 := UInt8.toNat_ofNat_of_lt (by show _ < 256; omega)
      rw [← a, ← b, h1]
    by_cases hm : m < 10
    · by_cases hn : n < 10
      · omega
      · rw [if_pos hm, if_neg hn, revDig] at h2; cases h2
    · by_cases hn : n < 10
      · rw [if_neg hm, if_pos hn, revDig] at h2; cases h2
      · rw [if_neg hm, if_neg hn] at h2
        have := ih (m / 10) (by omega) (n / 10) h2
        omega
theorem dec_inj {m n : Nat} (h : dec m = dec n) : m = n := by
  unfold dec at h
  injection h with h
  have h2 := congrArg Array.toList h
  simp at h2
  exact revDig_inj m n h2
theorem dec_list (n : Nat) : (dec n).toList = (revDig n).reverse := by
  rw [ByteArray.toList_eq]; unfold dec; simp
theorem dec_test_one {n : Nat} (h : n = 1) : ((dec n).toList == [49]) = true := by
  subst h
  rw [dec_list, revDig_small (by decide)]; rfl
theorem dec_test_ne {n : Nat} (h : n ≠ 1) : ((dec n).toList == [49]) = false := by
  rw [dec_list, beq_eq_false_iff_ne]
  intro e
  have e2 : revDig n = revDig 1 := by
    have := congrArg List.reverse e
    rw [List.reverse_reverse] at this
    rw [this, revDig_small (by decide)]; rfl
  exact h (revDig_inj _ _ e2)
theorem dec_size {n : Nat} {k : Nat} (h : (n : Int) < pw k) : (dec n).size ≤ 10 * k + 1 := by
  have := revDig_limbs h rfl
  unfold dec
  simp only [ByteArray.size]
  simpa using this

/-- The text of a fraction. -/
def ratText (q : Rat) : ByteArray :=
  if q.num < 0 then (if q.den = 1 then ⟨#[45]⟩ ++ dec q.num.natAbs else ⟨#[45]⟩ ++ dec q.num.natAbs ++ (⟨#[47]⟩ ++ dec q.den))
  else (if q.den = 1 then dec q.num.natAbs else dec q.num.natAbs ++ (⟨#[47]⟩ ++ dec q.den))
def TextB (w : World) (t : ByteArray) (e : Ending) (w' : World) : Prop := e = .returned (.string t) ∧ Below w.heap.size w w'

end Go.Proofs.YtklndjkblfncjaaGreatDoor.Q
namespace Go.Proofs.YtklndjkblfncjaaGreatDoor.Q
open Go.RowKit
set_option maxRecDepth 20000

theorem revDig_pos_step {k : Nat} (h0 : 0 < k) (T : List UInt8) (R : List UInt8) (h : R = T ++ revDig k) : (0 < k / 10 → R = (T ++ [UInt8.ofNat (48 + k % 10)]) ++ revDig (k / 10)) ∧ (k / 10 = 0 → R = T ++ [UInt8.ofNat (48 + k % 10)]) := by
  constructor
  · intro h1
    rw [h, revDig_big (by omega), List.append_assoc]; rfl
  · intro h1
    rw [h, revDig_small (by omega)]

set_option maxHeartbeats 2000000 in
theorem refFormat_any (A : Option Addr) (n c : Nat) (L : List Int) (w : World) (N : Nat) (hr : Rd w A n c L) (hn : n ≤ 900000) (hN : val L = (N : Int)) :
    Calls Tryz.prog 87 #[.slice A n c] w (TextB w (dec N)) := by
  obtain ⟨i0, hi, hz0, hz1, hz2⟩ := info_parts info_byte
  have hlen : (revDig N).length ≤ 10 * n + 1 := revDig_limbs (by have := val_lt hr.lims; rw [hr.len] at this; exact this) hN
  go_enter Tryz.func87, Tryz.ntmps87
  go_wp2_with fail
  refine (refTrim_any A n c L w hr (by omega)).mono ?_
  rintro e w1 ⟨A1, n1, c1, L1, rfl, hM1, hI1, hB1⟩
  rw [hN] at hI1
  have hn1 : n1 ≤ 900000 := by
    have := (Nrm.of_mine hM1 hI1).short (k := n) (by rw [← hN]; have := val_lt hr.lims; rwa [hr.len] at this)
    omega
  have hnz := (Nrm.of_mine hM1 hI1).len_iff
  have HI1 := Lib.hid hI1
  have HN := Lib.hid hN
  clear hI1 hN hr
  by_cases hz : n1 = 0
  · have hN0 : N = 0 := by have := hnz.1 hz; omega
    subst hN0
    subst hz
    have HD : Hid (dec 0 = ⟨#[48]⟩) := by show _ = _; unfold dec; rw [revDig_small (by decide)]; rfl
    clear hnz
    go_wp2
    go_ret
    exact ⟨by rw [HD.out]; rfl, hB1⟩
  · have hN0 : 0 < N := by
      rcases Nat.eq_zero_or_pos N with h | h
      · exact absurd (hnz.2 (by omega)) hz
      · exact h
    clear hnz
    have hb0 : ((n1 : Int) == 0) = false := by simp; omega
    go_wp2
    try rw [hb0]
    go_loopg [0, 3] N (fun k av tv wr => ∃ (A2 : Option Addr) (n2 c2 : Nat) (S : List Int) (T : List UInt8), av = .slice A2 n2 c2 ∧ n2 ≤ 900000 ∧ Mine wr w.heap.size A2 n2 c2 S ∧ Hid (Is S (k : Int)) ∧
      wr.ownsRow w.heap.size 5 1 tv T.length (bcells T) ∧ Hid (0 < k → revDig N = T ++ revDig k) ∧ Hid (k = 0 → revDig N = T) ∧ Below w.heap.size w wr)
    case atStart => exact ⟨_, _, _, _, [], rfl, hn1, hM1, HI1.out, World.ownsRow_nil _ _ _ _, fun _ => rfl, fun h => by omega, hB1⟩
    case round =>
      obtain ⟨A2, n2, c2, S, T, rfl, hn2, hS, hIS, hT, hD, hD0, hB⟩ := hrel
      clear hM1 hB1 HI1
      have hnz := (Nrm.of_mine hS hIS.out).len_iff
      by_cases h0 : n2 = 0
      · have hk0 : gk = 0 := by have := hnz.1 h0; omega
        have hE := hD0.out hk0
        subst h0
        clear hnz hD hD0 hS hIS
        have hTl : T.length ≤ 10 * n + 1 := by rw [← hE]; exact hlen
        have hTp : 0 < T.length := by rw [← hE, revDig]; simp
        have HE := Lib.hid hE
        clear hE
        obtain ⟨A5, c5, hv5⟩ := row_form hT
        subst hv5
        have hcap : T.length ≤ 10000000 := by omega
        generalize htn : T.length = tn at hT hTp hcap hTl ⊢
        have HTN := Lib.hid htn
        obtain ⟨g5, cc, e5, _⟩ := hT.form hTp
        injection e5 with e5 e6 e7
        subst e5
        clear e6 e7
        clear htn hTl
        go_wp2
        obtain ⟨wo, rfl⟩ : ∃ wo : World, wo = wr := ⟨_, rfl⟩
        go_loopw [6, 7] (fun iv jv wr => ∃ (i : Nat) (q : Int) (Z : List UInt8), 2 * i ≤ tn ∧ iv = .int .i64 i ∧ jv = .int .i64 q ∧ Hid (q + i + 1 = tn) ∧ wr.ownsRow w.heap.size 5 1 (.slice (some ⟨g5, 0, none⟩) tn c5) tn (bcells Z) ∧ Hid (Half T Z i) ∧ Below w.heap.size w wr)
          (fun iv _ _ => tn - (intOf iv).toNat)
        case atStart => exact ⟨0, _, T, by omega, rfl, rfl, by show _ = _; omega, hT, Half.start T, hB⟩
        case round =>
          obtain ⟨i, q, Z, hi2, rfl, rfl, hq, hZ, hH, hB2⟩ := hrel
          clear hB hT
          by_cases hlt : (i : Int) < q
          · obtain ⟨j, rfl⟩ := Int.eq_ofNat_of_zero_le (show 0 ≤ q by omega)
            have hij : i < j := by omega
            have hjn : j < tn := by have := hq.out; omega
            have hZl : Z.length = tn := by have := hZ.1; rw [bcells_length] at this; omega
            have ci := hZ.cellAt i (by omega)
            have cj := hZ.cellAt j (by omega)
            rw [bcells_get Z i (by omega)] at ci
            rw [bcells_get Z j (by omega)] at cj
            have fi := hZ.frozenAt i
            have fj := hZ.frozenAt j
            obtain ⟨xi, xj, Z2, hci, hcj, hz2, hst⟩ : ∃ (xi xj : Int) (Z2 : List UInt8), wr.cell? ⟨g5, i, none⟩ = some (.int .u8 xi) ∧ wr.cell? ⟨g5, j, none⟩ = some (.int .u8 xj) ∧
                ((bcells Z).set i (.int .u8 xj)).set j (.int .u8 xi) = bcells Z2 ∧ Half T Z2 (i + 1) :=
              ⟨_, _, _, ci, cj, bcells_swap Z i j (by omega) (by omega), hH.out.step hij (by have := hq.out; have := HTN.out; omega) (by omega) (by omega)⟩
            have HZ2 := Lib.hid hz2
            have HST := Lib.hid hst
            clear hz2 hst hZl ci cj
            go_wp2
            go_region
            go_wp2
            have hrow := ((hZ.stored i (.int .u8 xj)).1.stored j (.int .u8 xi)).1
            rw [HZ2.out] at hrow
            have hg5 : w.heap.size ≤ g5 := (hZ.lt g5 rfl).1
            go_roundw
            case rel => exact ⟨i + 1, (j : Int) - 1, Z2, by have := hq.out; omega, by go_num, rfl, by show _ = _; have := hq.out; omega, hrow, HST.out, ((hB2.setCell hg5 _).setCell hg5 _).drew⟩
            case measure => simp [intOf] <;> omega
          · have hz := hH.out.done (by have := hq.out; have := HTN.out; omega)
            rw [hz, ← HE.out] at hZ
            clear hz
            have hcv := string_of_row hZ (by omega)
            go_wp2
            go_ret
            exact ⟨rfl, hB2⟩
      · have hkp : 0 < gk := by
          rcases Nat.eq_zero_or_pos gk with h | h
          · exact absurd (hnz.2 (by omega)) h0
          · exact h
        have hEk := hD.out hkp
        have hTl : T.length < 10000001 := by
          have h1 := congrArg List.length hEk
          rw [List.length_append] at h1
          omega
        have SH := Lib.hid (refShort_any A2 n2 c2 10 S wr hS.rd (by omega) (by omega) (by omega))
        have hE1 : Hid (0 < gk / 10 → revDig N = (T ++ [UInt8.ofNat (48 + gk % 10)]) ++ revDig (gk / 10)) := (revDig_pos_step hkp T _ hEk).1
        have hE2 : Hid (gk / 10 = 0 → revDig N = T ++ [UInt8.ofNat (48 + gk % 10)]) := (revDig_pos_step hkp T _ hEk).2
        have HTl := Lib.hid hTl
        clear hD hD0 hEk hTl
        go_wp2_with fail
        refine SH.out.mono ?_
        rintro e w3 ⟨A3, n3, c3, Q, rfl, hQ, IQ, hB3⟩
        have hn3 : n3 ≤ 900000 := by
          have h1 := (Nrm.of_mine hQ IQ).short (k := n2) (by
            have h2 := val_lt hS.rd.lims
            rw [hS.rd.len] at h2
            have h3 := val_nonneg hS.rd.lims
            exact Int.lt_of_le_of_lt (Int.ediv_le_self _ h3) h2)
          omega
        rw [hIS.out.eq] at IQ ⊢
        have hQ' := hQ.more (base' := w.heap.size) hB.size
        have hT' := row_below hT hB3
        have hB' := hB.trans (hB3.mono hB.size)
        have hbelow := hB'.size
        have hdig : Hid (bcells (T ++ [UInt8.ofNat (48 + gk % 10)]) = bcells T ++ [.int .u8 (48 + (gk : Int) % 10)]) := by
          show _ = _
          rw [bcells_snoc, digit_byte]
        have hIQ : Hid (Is Q ((gk / 10 : Nat) : Int)) := by
          show Is _ _
          rw [show ((gk / 10 : Nat) : Int) = (gk : Int) / 10 by omega]; exact IQ
        clear SH hQ hT hB hB3 hS hIS IQ hnz
        go_wp2_with (at_builtin; refine wpList_append_own _ rfl _ _ 103 rfl w.heap.size 5 i0 (.int .u8 0) 1 1 Tryz.underlying103 hi hz0 hz1 hz2 rfl (by decide) _ _ _ rfl (hT'.alloc _) ⟨w3.heap.size, 0, none⟩ 1 1 [.int .u8 (48 + (gk : Int) % 10)] rfl rfl (one_new _ _ _) (one_cell _ rfl) (room_one HTl.out) (room_one' HTl.out) (le_alloc hbelow _) ?_)
        intro v' w4 hown' hgrow _
        rw [← hdig.out] at hown'
        have hlen' : T.length + 1 = (T ++ [UInt8.ofNat (48 + gk % 10)]).length := by simp
        rw [hlen'] at hown'
        have hM4 := (hQ'.alloc (.cells #[.int .u8 (48 + (gk : Int) % 10)] 5)).grown (hT'.alloc _) (by decide) hgrow
        have hB4 := grown_below (hB'.alloc hbelow (.cells #[.int .u8 (48 + (gk : Int) % 10)] 5)) (hT'.alloc _) hgrow (by simp; omega) (Nat.le_refl _)
        clear hgrow hlen'
        go_wp2
        go_roundg (gk / 10)
        case measure => omega
        case rel => exact ⟨_, _, _, _, _, rfl, hn3, hM4, hIQ.out, hown', hE1.out, hE2.out, hB4⟩
end Go.Proofs.YtklndjkblfncjaaGreatDoor.Q
namespace Go.Proofs.YtklndjkblfncjaaGreatDoor.Q
open Go.RowKit
set_option maxRecDepth 20000

theorem refGcd_o {w : World} {A B : Option Addr} {n c m d : Nat} {x y : Int} (hx : Num w A n c x) (hy : Num w B m d y) (hn : n ≤ 800000) (hm : m ≤ 800000) :
    Calls Tryz.prog 109 #[.slice A n c, .slice B m d] w (GivesO w (Int.gcd x y : Int)) := by
  obtain ⟨L, h1, rfl⟩ := hx
  obtain ⟨M, h2, rfl⟩ := hy
  exact (refGcd_any A B n c m d L M w h1 h2 hn hm _ rfl).mono fun _ _ h => h.o
/-- Quotient and remainder in blocks of their own. -/
def Gives2O (w : World) (q r : Int) (e : Ending) (w' : World) : Prop :=
  ∃ A n c B m d, e = .returned (.tuple #[.slice A n c, .slice B m d, .int .i64 0]) ∧ Nrm w' A n c q ∧ Off w.heap.size A ∧ Nrm w' B m d r ∧ Off w.heap.size B ∧ Below w.heap.size w w'
theorem refDivMod_o {w : World} {A B : Option Addr} {n c m d : Nat} {x y : Int} (hx : Num w A n c x) (hy : Num w B m d y) (hn : n ≤ 800000) (hm : m ≤ 800000) (y0 : 0 < y) :
    Calls Tryz.prog 110 #[.slice A n c, .slice B m d] w (Gives2O w (x / y) (x % y)) := by
  obtain ⟨L, h1, rfl⟩ := hx
  obtain ⟨M, h2, rfl⟩ := hy
  refine (refDivMod_any A B n c m d L M w h1 h2 hn hm y0).mono fun e w' h => ?_
  obtain ⟨A, n, c, Q, B, m, d, R, he, hQ, iQ, hR, iR, hB⟩ := h
  exact ⟨A, n, c, B, m, d, he, Nrm.of_mine hQ iQ, Off.of_mine hQ, Nrm.of_mine hR iR, Off.of_mine hR, hB⟩

set_option maxHeartbeats 1000000 in
theorem lowest_r {w : World} {s : Bool} {A B : Option Addr} {n c m d k : Nat} {q : Rat} (h : Frac w s A n c B m d q k) (hk8 : k ≤ 800000) :
    Calls Tryz.prog 99 #[.bool s, .slice A n c, .slice B m d] w (GivesR w q k) := by
  obtain ⟨x, y, hx, hy, y0, hq, hn, hm⟩ := h
  have x0 := hx.nonneg
  obtain ⟨v1, hv1⟩ : ∃ v1, w.alloc (.cells #[.bool false, .slice none 0 0, .slice none 0 0] 92) = v1 := ⟨_, rfl⟩
  obtain ⟨g, hg, hsz, hb1, hZ, hF⟩ := boxes0 w _ _ _ _ v1 hv1
  have HG := Lib.hid hg
  have HSZ := Lib.hid hsz
  have HZ := Lib.hid hZ
  have HF := Lib.hid hF
  have HV := Lib.hid hv1
  clear hZ hF hv1 hsz hg
  have px : x < pw k := pw_up hx.lt hn
  have py : y < pw k := pw_up hy.lt hm
  have hx1 := hx.below hb1
  have hy1 := hy.below hb1
  have HGC := Lib.hid (refGcd_o hx1 hy1 (by omega) (by omega))
  have g0 := gcd_pos_of (x := x) y0
  have ha : Hid ((q.num.natAbs : Int) = x / (Int.gcd x y : Int)) := by show _ = _; rw [← hq]; exact rat_abs s x0 y0
  have hd : Hid ((q.den : Int) = y / (Int.gcd x y : Int)) := by show _ = _; rw [← hq]; exact rat_den s y0
  have hs : Hid (decide (q.num < 0) = (s && !decide (x = 0))) := by show _ = _; rw [← hq]; exact rat_neg s x0 y0
  have hqx : Hid (x / (Int.gcd x y : Int) = 0 ↔ x = 0) := by
    show _ ↔ _
    constructor
    · exact fun h => ediv_zero_of_dvd (Int.gcd_dvd_left ..) h
    · rintro rfl; exact Int.zero_ediv _
  have gk : Hid ((Int.gcd x y : Int) < pw k) := gcd_lt x0 (Int.le_of_lt y0) px py
  have HPX := Lib.hid (ediv_lt_pw (G := (Int.gcd x y : Int)) x0 px)
  have HPY := Lib.hid (ediv_lt_pw (G := (Int.gcd x y : Int)) (Int.le_of_lt y0) py)
  generalize (Int.gcd x y : Int) = G at *
  clear hq hx hy px py
  have hk := Below.refl v1.heap.size v1
  go_enter Tryz.func99, Tryz.ntmps99
  go_wp2_with fail
  rw [HV.out, ← HG.out]
  refine HGC.out.mono ?_
  rintro e w5 ⟨A5, n5, c5, rfl, h5, o5, b5⟩
  have l5 : n5 ≤ k := h5.short gk.out
  have HD1 := Lib.hid (refDivMod_o (hx1.below b5) h5.num (by omega) (by omega) g0)
  clear HGC
  go_wp2_with fail
  refine HD1.out.mono ?_
  rintro e w6 ⟨A6, n6, c6, X6, m6, d6, rfl, h6, o6, hr6, or6, b6⟩
  have hk6 := nextB b5 b6
  have HD2 := Lib.hid (refDivMod_o (hy1.below hk6) (h5.num.below b6) (by omega) (by omega) g0)
  clear HD1 hr6 or6
  go_wp2_with fail
  refine HD2.out.mono ?_
  rintro e w' ⟨A7, n7, c7, X7, m7, d7, rfl, h7, o7, hr7, or7, b7⟩
  have hk7 := nextB hk6 b7
  obtain ⟨o0, o1, o2⟩ := HZ.out _ hk7
  obtain ⟨f0, f1, f2⟩ := HF.out _ hk7
  have hb5 := b5.size
  have hb6 := b6.size
  have h6' := h6.below b7
  have l6 := h6.short HPX.out
  have l7 := h7.short HPY.out
  have h60 := h6.len_iff
  have HN6 : Hid (n6 = 0 ↔ x = 0) := h60.trans hqx.out
  clear HD2 hr7 or7 h6 h60
  have fin : ∀ t, t = decide (q.num < 0) → RN w' t A6 n6 c6 A7 n7 c7 q k := fun t ht => ⟨ht, by rw [ha.out]; exact h6', by rw [hd.out]; exact h7, l6, l7⟩
  have HFIN := Lib.hid fin
  clear fin
  cases s
  · go_wp2
    exact bodyPost_ret (v := .agg #[.bool false, .slice A6 n6 c6, .slice A7 n7 c7]) (by simp [results, Tryz.results99, go_sem, o0, o1, o2]) rfl ⟨_, _, _, _, _, _, _, rfl,
      store_end (wp := w5) (HFIN.out false (by rw [hs.out]; rfl)) o6 (o7.mono hb6) (by have := HSZ.out; omega) (by rw [HG.out]; omega) (nextB hb1 hk7) _ _ _⟩
  · by_cases hn6 : n6 = 0
    · have hx0 : decide (x = 0) = true := decide_eq_true (HN6.out.1 hn6)
      have HX0 := Lib.hid hx0
      clear hx0
      subst hn6
      go_wp2
      exact bodyPost_ret (v := .agg #[.bool false, .slice A6 0 c6, .slice A7 n7 c7]) (by simp [results, Tryz.results99, go_sem, o0, o1, o2]) rfl ⟨_, _, _, _, _, _, _, rfl,
        store_end (wp := w5) (HFIN.out false (by rw [hs.out, HX0.out]; rfl)) o6 (o7.mono hb6) (by have := HSZ.out; omega) (by rw [HG.out]; omega) (nextB hb1 hk7) _ _ _⟩
    · have hx0 : decide (x = 0) = false := decide_eq_false (fun h => hn6 (HN6.out.2 h))
      have HX0 := Lib.hid hx0
      have hn6' : 0 < n6 := by omega
      clear hx0 hn6
      go_wp2
      exact bodyPost_ret (v := .agg #[.bool true, .slice A6 n6 c6, .slice A7 n7 c7]) (by simp [results, Tryz.results99, go_sem, o0, o1, o2]) rfl ⟨_, _, _, _, _, _, _, rfl,
        store_end (wp := w5) (HFIN.out true (by rw [hs.out, HX0.out]; rfl)) o6 (o7.mono hb6) (by have := HSZ.out; omega) (by rw [HG.out]; omega) (nextB hb1 hk7) _ _ _⟩

theorem pw_two : pw 2 = 18446744073709551616 := by decide
theorem nrm_one_at {W : World} {g : Nat} (h : W.heap.size = g) : Nrm (W.alloc (.cells #[.int .u32 1] 96)) (some ⟨g, 0, none⟩) 1 1 1 := by
  subst h
  exact ⟨[1], lit1 W 1 (by decide) (by decide), is_one (by decide) (by decide)⟩

/-- The last steps of exactpplref02.Int. -/
theorem refInt_end {w v1 w5 : World} {g n5 c5 : Nat} {A5 : Option Addr} {n : Int} {s : Bool} (hb1 : Below w.heap.size w v1) (hg : g = w.heap.size) (hsz : v1.heap.size = g + 1) (hs : s = decide (n < 0)) (h5 : Nrm w5 A5 n5 c5 (n.natAbs : Int)) (o5 : Off v1.heap.size A5) (l5 : n5 ≤ 2) (hk : Below v1.heap.size v1 w5) (u v z : Value) :
    RN ((((w5.setCell ⟨g, 0, none⟩ u).setCell ⟨g, 1, none⟩ v).setCell ⟨g, 2, none⟩ z).alloc (.cells #[.int .u32 1] 96)) s A5 n5 c5 (some ⟨w5.heap.size, 0, none⟩) 1 1 (n : Rat) 2 ∧ Off w.heap.size A5 ∧ Off w.heap.size (some ⟨w5.heap.size, 0, none⟩) ∧
      Below w.heap.size w ((((w5.setCell ⟨g, 0, none⟩ u).setCell ⟨g, 1, none⟩ v).setCell ⟨g, 2, none⟩ z).alloc (.cells #[.int .u32 1] 96)) := by
  have hb := hk.size
  have hw : w.heap.size ≤ g := by omega
  have hset : (((w5.setCell ⟨g, 0, none⟩ u).setCell ⟨g, 1, none⟩ v).setCell ⟨g, 2, none⟩ z).heap.size = w5.heap.size := by simp [World.setCell]
  refine ⟨⟨hs, ?_, ?_, l5, by omega⟩, o5.mono (by omega), fun a e => ?_, ?_⟩
  · exact (h5.far3 (fun _ a e => by have := o5 a e; omega) _ _ _ _ _ _).below ((Below.refl _ _).alloc (Nat.le_refl _) _)
  · exact nrm_one_at hset
  · injection e with e; rw [← e]; show w.heap.size ≤ w5.heap.size; omega
  · exact ((((nextB hb1 hk).setCell hw _).setCell hw _).setCell hw _).alloc (by rw [hset]; omega) _

set_option maxHeartbeats 1000000 in
theorem refIntR {w : World} {n : Int} (n0 : -9223372036854775808 ≤ n) (n1 : n ≤ 9223372036854775807) : Calls Tryz.prog 73 #[.int .i64 n] w (GivesR w (n : Rat) 2) := by
  obtain ⟨v1, hv1⟩ : ∃ v1, w.alloc (.cells #[.bool false, .slice none 0 0, .slice none 0 0] 92) = v1 := ⟨_, rfl⟩
  obtain ⟨g, hg, hsz, hb1, hZ, hF⟩ := boxes0 w _ _ _ _ v1 hv1
  have HG := Lib.hid hg
  have HSZ := Lib.hid hsz
  have HZ := Lib.hid hZ
  have HF := Lib.hid hF
  have HV := Lib.hid hv1
  clear hZ hF hv1 hsz hg
  by_cases h : 0 ≤ n
  · have HA : Hid ((n.natAbs : Int) = n) := by show _ = _; omega
    have HS : Hid (false = decide (n < 0)) := (decide_eq_false (by omega)).symm
    go_enter Tryz.func73, Tryz.ntmps73
    go_wp2_with fail
    rw [HV.out, ← HG.out]
    refine (refFromInt_any n v1 h n1).mono ?_
    rintro e w5 ⟨A5, n5, c5, L5, rfl, hM, hI, b5⟩
    have h5 : Nrm w5 A5 n5 c5 (n.natAbs : Int) := by rw [HA.out]; exact Nrm.of_mine hM hI
    have o5 := Off.of_mine hM
    have l5 : n5 ≤ 2 := h5.short (by rw [pw_two]; omega)
    clear hM hI
    obtain ⟨o0, o1, o2⟩ := HZ.out _ b5
    obtain ⟨f0, f1, f2⟩ := HF.out _ b5
    have hz5 : g < w5.heap.size := by have := b5.size; have := HSZ.out; omega
    go_wp2
    exact bodyPost_ret (v := .agg #[.bool false, .slice A5 n5 c5, .slice (some ⟨w5.heap.size, 0, none⟩) 1 1]) (by simp [results, Tryz.results73, go_sem, o0, o1, o2, hz5]) rfl ⟨_, _, _, _, _, _, _, rfl,
      refInt_end hb1 HG.out HSZ.out HS.out h5 o5 l5 b5 _ _ _⟩
  · have HA : Hid ((n.natAbs : Int) = -(n + 1) + 1) := by show _ = _; omega
    have HS : Hid (true = decide (n < 0)) := (decide_eq_true (by omega)).symm
    go_enter Tryz.func73, Tryz.ntmps73
    go_wp2_with fail
    rw [HV.out, ← HG.out]
    refine (refFromInt_any (-(n + 1)) v1 (by omega) (by omega)).mono ?_
    rintro e w5 ⟨A5, n5, c5, L5, rfl, hM, hI, b5⟩
    have h5 := Nrm.of_mine hM hI
    have l5 : n5 ≤ 2 := h5.short (by rw [pw_two]; omega)
    have ba := (Below.refl w5.heap.size w5).alloc (Nat.le_refl _) (.cells #[.int .u32 1] 96)
    obtain ⟨L1, r1, e1⟩ := h5.num.below ba
    have lo := lit1 w5 1 (by decide) (by decide)
    have AD := refAdd_any _ _ _ _ _ _ _ _ _ r1 lo (by omega) (by omega)
    rw [e1, show val [(1 : Int)] = 1 by decide, ← HA.out] at AD
    have HAD := Lib.hid AD
    have hk5 := nextB b5 ba
    clear hM hI AD e1 r1 lo h5 L1
    go_wp2_with fail
    refine HAD.out.mono ?_
    rintro e w6 ⟨A6, n6, c6, L6, rfl, hM6, hI6, b6⟩
    have h6 := Nrm.of_mine hM6 hI6
    have o6 := (Off.of_mine hM6).mono hk5.size
    have l6 : n6 ≤ 2 := h6.short (by rw [pw_two]; omega)
    have hk6 := nextB hk5 b6
    clear hM6 hI6 HAD
    obtain ⟨o0, o1, o2⟩ := HZ.out _ hk6
    obtain ⟨f0, f1, f2⟩ := HF.out _ hk6
    have hz5 : g < w6.heap.size := by have := hk6.size; have := HSZ.out; omega
    go_wp2
    exact bodyPost_ret (v := .agg #[.bool true, .slice A6 n6 c6, .slice (some ⟨w6.heap.size, 0, none⟩) 1 1]) (by simp [results, Tryz.results73, go_sem, o0, o1, o2, hz5]) rfl ⟨_, _, _, _, _, _, _, rfl,
      refInt_end hb1 HG.out HSZ.out HS.out h6 o6 l6 hk6 _ _ _⟩

end Go.Proofs.YtklndjkblfncjaaGreatDoor.Q
namespace Go.Proofs.YtklndjkblfncjaaGreatDoor.Q
open Go.RowKit
set_option maxRecDepth 20000

theorem Frac.far3 {w : World} {s : Bool} {A B : Option Addr} {n c m d k g : Nat} {q : Rat} (h : Frac w s A n c B m d q k) (hA : 0 < n → ∀ a, A = some a → a.block ≠ g) (hB : 0 < m → ∀ a, B = some a → a.block ≠ g) (i j l : Nat) (u v z : Value) :
    Frac (((w.setCell ⟨g, i, none⟩ u).setCell ⟨g, j, none⟩ v).setCell ⟨g, l, none⟩ z) s A n c B m d q k := by
  obtain ⟨x, y, hx, hy, h3⟩ := h
  exact ⟨x, y, hx.far3 hA _ _ _ _ _ _, hy.far3 hB _ _ _ _ _ _, h3⟩
/-- Three stores: what the block holds. -/
theorem set3 {w : World} {g : Nat} {a b c x y z : Value} (H : w.cell? ⟨g, 0, none⟩ = some a ∧ w.cell? ⟨g, 1, none⟩ = some b ∧ w.cell? ⟨g, 2, none⟩ = some c) :
    (((w.setCell ⟨g, 0, none⟩ x).setCell ⟨g, 1, none⟩ y).setCell ⟨g, 2, none⟩ z).cell? ⟨g, 0, none⟩ = some x ∧ (((w.setCell ⟨g, 0, none⟩ x).setCell ⟨g, 1, none⟩ y).setCell ⟨g, 2, none⟩ z).cell? ⟨g, 1, none⟩ = some y ∧
      (((w.setCell ⟨g, 0, none⟩ x).setCell ⟨g, 1, none⟩ y).setCell ⟨g, 2, none⟩ z).cell? ⟨g, 2, none⟩ = some z := by
  refine ⟨?_, ?_, ?_⟩
  · rw [World.cell?_setCell_other _ _ _ _ (by simp), World.cell?_setCell_other _ _ _ _ (by simp)]
    exact World.cell?_setCell_same _ _ _ H.1
  · rw [World.cell?_setCell_other _ _ _ _ (by simp)]
    refine World.cell?_setCell_same _ _ _ (u := b) ?_
    rw [World.cell?_setCell_other _ _ _ _ (by simp)]; exact H.2.1
  · refine World.cell?_setCell_same _ _ _ (u := c) ?_
    rw [World.cell?_setCell_other _ _ _ _ (by simp), World.cell?_setCell_other _ _ _ _ (by simp)]; exact H.2.2

end Go.Proofs.YtklndjkblfncjaaGreatDoor.Q
namespace Go.Proofs.YtklndjkblfncjaaGreatDoor.Q
open Go.RowKit
set_option maxRecDepth 20000

theorem rn_zero {w : World} {B : Option Addr} {m d k : Nat} (h : Nrm w B m d 1) (hm : m ≤ k) : RN w false none 0 0 B m d 0 k :=
  ⟨by decide, ⟨[], Rd.nil w, Is.zero⟩, h, Nat.zero_le _, hm⟩

set_option maxHeartbeats 1000000 in
theorem refNorm_r {w : World} {s : Bool} {A B : Option Addr} {n c m d k : Nat} {q : Rat} (h : Loose w s A n c B m d q k) (k0 : 1 ≤ k) (hk8 : k ≤ 800000) :
    Calls Tryz.prog 86 #[.agg #[.bool s, .slice A n c, .slice B m d]] w (GivesR w q k) := by
  obtain ⟨x, y, hx, hy, hq, hn, hm⟩ := h
  have y0 := hy.nonneg
  obtain ⟨v1, hv1⟩ : ∃ v1, (w.alloc (.cells #[.bool s, .slice A n c, .slice B m d] 92)).alloc (.cells #[.bool false, .slice none 0 0, .slice none 0 0] 92) = v1 := ⟨_, rfl⟩
  obtain ⟨g, hg, hsz, hb1, hA, hZ, hF⟩ := boxes1 w _ _ _ _ _ _ _ _ v1 hv1
  have HG := Lib.hid hg
  have HSZ := Lib.hid hsz
  have HA := Lib.hid hA
  have HZ := Lib.hid hZ
  have HF := Lib.hid hF
  have HV := Lib.hid hv1
  have hx1 := hx.below hb1
  have hy1 := hy.below hb1
  have HT := Lib.hid (refTrim_n hy1 (by omega))
  clear hg hA hZ hF hsz hv1 hx hy
  go_enter Tryz.func86, Tryz.ntmps86
  go_wp2_with fail
  rw [HV.out, ← HG.out]
  refine HT.out.mono ?_
  rintro e w2 ⟨A2, n2, c2, rfl, h2, b2⟩
  clear HT
  by_cases h0 : y = 0
  · have hn2 : n2 = 0 := h2.len_iff.2 h0
    subst hn2
    subst h0
    rw [rat_over_zero] at hq
    subst hq
    have ba := (Below.refl w2.heap.size w2).alloc (Nat.le_refl _) (.cells #[.int .u32 1] 96)
    have hk := nextB b2 ba
    have HRZ := Lib.hid (rn_zero (k := k) (nrm_one_at (W := w2) rfl) k0)
    have HOZ : Hid (Off w2.heap.size (some ⟨w2.heap.size, 0, none⟩)) := by
      intro a ha
      injection ha with ha
      rw [← ha]; exact Nat.le_refl _
    obtain ⟨o0, o1, o2⟩ := HZ.out _ hk
    obtain ⟨f0, f1, f2⟩ := HF.out _ hk
    have hs2 := b2.size
    clear h2 ba
    go_wp2
    exact bodyPost_ret (v := .agg #[.bool false, .slice none 0 0, .slice (some ⟨w2.heap.size, 0, none⟩) 1 1]) (by simp [results, Tryz.results86, go_sem, o0, o1, o2]) rfl ⟨_, _, _, _, _, _, _, rfl,
      store_end (wp := w2) HRZ.out (Off.none _) HOZ.out (by have := HSZ.out; omega) (by rw [HG.out]; omega) (nextB hb1 hk) _ _ _⟩
  · have hn2 : n2 ≠ 0 := fun h => h0 (h2.len_iff.1 h)
    have hb : ((n2 : Int) == 0) = false := by simp; omega
    obtain ⟨z0, z1, z2⟩ := HA.out _ b2
    have HL := Lib.hid (lowest_r (w := w2) (s := s) (q := q) (k := k) ⟨x, y, hx1.below b2, hy1.below b2, by omega, hq, hn, hm⟩ hk8)
    have hs2 := b2.size
    clear h2 hq
    go_wp2_with fail
    refine HL.out.mono ?_
    rintro e w3 ⟨s3, A3, n3, c3, B3, m3, d3, rfl, r3, o3, o3', b3⟩
    have hk := nextB b2 b3
    clear z0 z1 z2
    obtain ⟨o0, o1, o2⟩ := HZ.out _ hk
    obtain ⟨f0, f1, f2⟩ := HF.out _ hk
    go_wp2
    exact bodyPost_ret (v := .agg #[.bool s3, .slice A3 n3 c3, .slice B3 m3 d3]) (by simp [results, Tryz.results86, go_sem, o0, o1, o2]) rfl ⟨_, _, _, _, _, _, _, rfl,
      store_end (wp := w2) r3 o3 o3' (by have := HSZ.out; omega) (by rw [HG.out]; omega) (nextB hb1 hk) _ _ _⟩
end Go.Proofs.YtklndjkblfncjaaGreatDoor.Q

namespace Go.Proofs.YtklndjkblfncjaaGreatDoor.Q
open Go.RowKit
set_option maxRecDepth 20000

theorem refNorm_of {w v : World} {s : Bool} {A B : Option Addr} {n c m d k : Nat} {q : Rat} (h : Loose w s A n c B m d q k) (hb : Below w.heap.size w v) (k0 : 1 ≤ k) (hk8 : k ≤ 800000) :
    Calls Tryz.prog 86 #[.agg #[.bool s, .slice A n c, .slice B m d]] v (GivesR v q k) := refNorm_r (h.below hb) k0 hk8

end Go.Proofs.YtklndjkblfncjaaGreatDoor.Q

namespace Go.Proofs.YtklndjkblfncjaaGreatDoor.Q
open Go.RowKit
set_option maxRecDepth 20000

end Go.Proofs.YtklndjkblfncjaaGreatDoor.Q

namespace Go.Proofs.YtklndjkblfncjaaGreatDoor.Q
open Go.RowKit
set_option maxRecDepth 20000

section
variable {w : World} {s s' : Bool} {A B A' B' : Option Addr} {n c m d n' c' m' d' k k' : Nat} {q q' : Rat}
end
end Go.Proofs.YtklndjkblfncjaaGreatDoor.Q

namespace Go.Proofs.YtklndjkblfncjaaGreatDoor.Q
open Go.RowKit
set_option maxRecDepth 20000

end Go.Proofs.YtklndjkblfncjaaGreatDoor.Q
namespace Go.Proofs.YtklndjkblfncjaaGreatDoor.Q
open Go.RowKit
set_option maxRecDepth 20000

end Go.Proofs.YtklndjkblfncjaaGreatDoor.Q

namespace Go.Proofs.YtklndjkblfncjaaGreatDoor.Q
open Go.RowKit
set_option maxRecDepth 20000

theorem format_n0 {w : World} {A : Option Addr} {n c : Nat} {x : Int} (hx : Num w A n c x) (hn : n ≤ 900000) (N : Nat) (hN : x = (N : Int)) : Calls Tryz.prog 87 #[.slice A n c] w (TextB w (dec N)) := by
  obtain ⟨L, h1, rfl⟩ := hx
  exact refFormat_any A n c L w N h1 hn hN

set_option maxHeartbeats 4000000 in
theorem refFormatR {w : World} {s : Bool} {A B : Option Addr} {n c m d k : Nat} {q : Rat} (h : Loose w s A n c B m d q k) (k0 : 1 ≤ k) (hk8 : k ≤ 800000) :
    Calls Tryz.prog 72 #[.agg #[.bool s, .slice A n c, .slice B m d]] w (TextB w (ratText q)) := by
  obtain ⟨v1, hv1⟩ : ∃ v1, w.alloc (.cells #[.bool s, .slice A n c, .slice B m d] 92) = v1 := ⟨_, rfl⟩
  obtain ⟨g, hg, hsz, hb1, hZ, hF⟩ := boxes0 w _ _ _ _ v1 hv1
  have HG := Lib.hid hg
  have HSZ := Lib.hid hsz
  have HZ := Lib.hid hZ
  have HF := Lib.hid hF
  have HV := Lib.hid hv1
  have HN := Lib.hid (refNorm_of h hb1 k0 hk8)
  clear hZ hF hsz h hv1 hg
  go_enter Tryz.func72, Tryz.ntmps72
  obtain ⟨a0, a1, a2⟩ := HZ.out _ (Below.refl _ _)
  rw [← HV.out, HG.out] at a0 a1 a2
  go_wp2_with fail
  rw [HV.out, ← HG.out]
  clear a0 a1 a2
  refine HN.out.mono ?_
  rintro e w5 ⟨t9, A9, n9, c9, B9, m9, d9, rfl, r9, oA9, oB9, b9⟩
  obtain ⟨o0, o1, o2⟩ := HZ.out _ b9
  obtain ⟨f0, f1, f2⟩ := HF.out _ b9
  obtain ⟨wy, hwy⟩ : ∃ wy, ((w5.setCell ⟨g, 0, none⟩ (.bool t9)).setCell ⟨g, 1, none⟩ (.slice A9 n9 c9)).setCell ⟨g, 2, none⟩ (.slice B9 m9 d9) = wy := ⟨_, rfl⟩
  have hst := store_end (g := g) r9 oA9 oB9 (by have := HSZ.out; omega) (by rw [HG.out]; omega) (nextB hb1 b9) (.bool t9) (.slice A9 n9 c9) (.slice B9 m9 d9)
  rw [hwy] at hst
  have hcy : wy.cell? ⟨g, 0, none⟩ = some (.bool t9) ∧ wy.cell? ⟨g, 1, none⟩ = some (.slice A9 n9 c9) ∧ wy.cell? ⟨g, 2, none⟩ = some (.slice B9 m9 d9) := by rw [← hwy]; exact set3 ⟨o0, o1, o2⟩
  have hgy : g < wy.heap.size := by rw [← hwy]; have := b9.size; have := HSZ.out; simp [World.setCell]; omega
  have HC := Lib.hid (three_cells hgy hcy.1 hcy.2.1 hcy.2.2)
  have HWY := Lib.hid hwy
  obtain ⟨⟨rt, hN1, hN2, l1, l2⟩, _, _, hby⟩ := hst
  have HRT := Lib.hid rt
  clear rt hwy hcy hgy r9 oA9 oB9
  have F1 := Lib.hid (format_n0 (hN1.num) (by omega) q.num.natAbs rfl)
  go_wp2_with fail
  rw [HWY.out]
  clear o0 o1 o2 f0 f1 f2
  refine F1.out.mono ?_
  rintro e w6 ⟨rfl, b6⟩
  have F2 := Lib.hid (format_n0 (hN2.num.below b6) (by omega) q.den rfl)
  obtain ⟨o0, o1, o2⟩ := HC.out w6 b6
  have hk6 := nextB hby b6
  have z1 := dec_size (n := q.num.natAbs) (k := k) (pw_up hN1.num.lt l1)
  have z2 := dec_size (n := q.den) (k := k) (pw_up hN2.num.lt l2)
  cases t9
  · have hq : ¬ q.num < 0 := of_decide_eq_false HRT.out.symm
    have HQ : Hid (¬ q.num < 0) := hq
    clear hq
    by_cases hd : q.den = 1
    · have T := dec_test_one hd
      have HD := Lib.hid hd
      clear hd
      go_wp2_with fail
      refine F2.out.mono ?_
      rintro e w7 ⟨rfl, b7⟩
      go_wp2
      go_ret
      exact ⟨by unfold ratText; rw [if_neg (by have := HQ.out; omega), if_pos HD.out]; rfl, nextB hk6 b7⟩
    · have T := dec_test_ne hd
      have HD : Hid (¬ q.den = 1) := hd
      clear hd
      go_wp2_with fail
      refine F2.out.mono ?_
      rintro e w7 ⟨rfl, b7⟩
      go_wp2
      go_ret
      exact ⟨by unfold ratText; rw [if_neg (by have := HQ.out; omega), if_neg HD.out]; rfl, nextB hk6 b7⟩
  · have hq : q.num < 0 := of_decide_eq_true HRT.out.symm
    have HQ : Hid (q.num < 0) := hq
    clear hq
    by_cases hd : q.den = 1
    · have T := dec_test_one hd
      have HD := Lib.hid hd
      clear hd
      go_wp2_with fail
      refine F2.out.mono ?_
      rintro e w7 ⟨rfl, b7⟩
      go_wp2
      go_ret
      exact ⟨by unfold ratText; rw [if_pos HQ.out, if_pos HD.out]; rfl, nextB hk6 b7⟩
    · have T := dec_test_ne hd
      have HD : Hid (¬ q.den = 1) := hd
      clear hd
      go_wp2_with fail
      refine F2.out.mono ?_
      rintro e w7 ⟨rfl, b7⟩
      go_wp2
      go_ret
      exact ⟨by unfold ratText; rw [if_pos HQ.out, if_neg HD.out]; rfl, nextB hk6 b7⟩
end Go.Proofs.YtklndjkblfncjaaGreatDoor.Q

namespace Go.Proofs.YtklndjkblfncjaaGreatDoor.Q
open Go.RowKit
set_option maxRecDepth 20000

end Go.Proofs.YtklndjkblfncjaaGreatDoor.Q
