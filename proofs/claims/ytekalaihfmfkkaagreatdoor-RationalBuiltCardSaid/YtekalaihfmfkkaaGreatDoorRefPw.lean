/-
  natural.Pow: the power, in a block of its own.
  exactpplref02.Format, Power, Pow; rational.Pow.
  exactpplref02.Power, Pow; rational.Pow.
-/
import Derived.Test.YtekalaihfmfkkaaGreatDoorPow
import Derived.Test.YtekalaihfmfkkaaGreatDoorRatOps
import Derived.Test.YtekalaihfmfkkaaGreatDoorRefR5
namespace Go.Proofs.YtekalaihfmfkkaaGreatDoor
open Go.RowKit
set_option maxRecDepth 20000

/-- A number in a block of its own, and no error. -/
def GivesOkO (w : World) (x : Int) (e : Ending) (w' : World) : Prop := ∃ A n c, e = .returned (.tuple #[.slice A n c, .int .i64 0]) ∧ Nrm w' A n c x ∧ Off w.heap.size A ∧ Below w.heap.size w w'
set_option maxHeartbeats 1000000 in
theorem pow_o (A : Option Addr) (n c : Nat) (x : Int) (k : Nat) (w : World) (hx : Num w A n c x) (hn : n ≤ 100) (hk : k ≤ 64) :
    Calls Tryz.prog 97 #[.slice A n c, .int .i64 (k : Int)] w (GivesOkO w (x ^ k)) := by
  have l := Lib.bitLen_le k 8 (by decide) (by omega)
  have x0 := hx.nonneg
  have hxl := hx.lt
  obtain ⟨B, hB⟩ : ∃ B, Lib.bitLen k = B := ⟨_, rfl⟩
  have hz := bits_none ⟨k, by omega⟩
  simp only at hz
  rw [hB] at l hz
  have hlen := len_small (k : Int) (w.alloc (.cells #[.int .u32 1] 92)) (by omega) (by omega)
  rw [Int.toNat_natCast, hB] at hlen
  have HLEN := Lib.hid hlen
  have HZ := Lib.hid hz
  have hone := Nrm.of_mine (Mine.lit w (Nat.le_refl _) #[.int .u32 1] [1] (Lims.cons (by decide) (by decide) Lims.nil) rfl (by unfold maxLen; simp)) (is_one (by decide) (by decide))
  clear hlen hB hz
  go_enter Tryz.func97, Tryz.ntmps97
  go_wp2_with fail
  refine HLEN.out.mono ?_
  rintro e w' ⟨rfl, rfl⟩
  go_wp2
  go_loopw [6, 7] (fun pv bv wr => ∃ (j : Nat) (P : Option Addr) (p pc : Nat), j ≤ B ∧ bv = .int .i64 ((j : Int) - 1) ∧ pv = .slice P p pc ∧ Nrm wr P p pc (x ^ (k / 2 ^ j)) ∧ Off w.heap.size P ∧ Below w.heap.size w wr) (fun _ bv _ => (intOf bv + 1).toNat)
  case atStart => exact ⟨B, _, _, _, Nat.le_refl _, rfl, rfl, by rw [HZ.out, Int.pow_zero]; exact hone, fun a e => by injection e with e; rw [← e]; exact Nat.le_refl _, (Below.refl _ _).alloc (Nat.le_refl _) _⟩
  case round =>
    obtain ⟨j, P, p, pc, hj, rfl, rfl, hP, oP, hb⟩ := hrel
    have hp := pow_len hP x0 hxl hn (Nat.le_trans (Nat.div_le_self _ _) hk)
    clear hone
    by_cases h0 : j = 0
    · subst h0
      have hP' : Nrm wr P p pc (x ^ k) := by simpa using hP
      clear hP
      go_wp2
      go_ret2
      exact ⟨_, _, _, rfl, hP', oP, hb⟩
    · obtain ⟨i, rfl⟩ : ∃ i, j = i + 1 := ⟨j - 1, by omega⟩
      have hlow := low_bit k i hk
      have hmul := mul_o hP.num hP.num (by omega) (by omega)
      have HM := Lib.hid hmul
      clear hmul
      by_cases hodd : k / 2 ^ i % 2 = 1
      · have htest : (bits .and .i64 ((k : Int) / 2 ^ i) 1 == 1) = true := by rw [hlow, hodd]; rfl
        have HO := Lib.hid hodd
        clear hodd hlow h0
        go_wp2_with fail
        refine HM.out.mono ?_
        rintro e w1 ⟨P1, p1, pc1, rfl, hP1, oP1, hb1⟩
        have hb2 := nextB hb hb1
        have hp1 : p1 ≤ 10000 := by
          have h2 := hP1
          rw [← Int.pow_add] at h2
          exact pow_len h2 x0 hxl hn (by have h3 := halve k i; have h4 := Nat.div_le_self k (2 ^ i); omega)
        have hmul := mul_o hP1.num (hx.below hb2) (by omega) (by omega)
        rw [pow_odd HO.out] at hmul
        have HM2 := Lib.hid hmul
        clear hmul
        go_wp2_with fail
        refine HM2.out.mono ?_
        rintro e w2 ⟨P2, p2, pc2, rfl, hP2, oP2, hb3⟩
        go_wp2
        go_roundw
        case rel => exact ⟨i, _, _, _, by omega, rfl, rfl, hP2, oP2.mono hb2.size, nextB hb2 hb3⟩
        case measure => simp [intOf] <;> omega
      · have heven : k / 2 ^ i % 2 = 0 := by omega
        have htest : (bits .and .i64 ((k : Int) / 2 ^ i) 1 == 1) = false := by rw [hlow, heven]; rfl
        have HO := Lib.hid heven
        clear hodd hlow h0 heven
        go_wp2_with fail
        refine HM.out.mono ?_
        rintro e w1 ⟨P1, p1, pc1, rfl, hP1, oP1, hb1⟩
        rw [pow_even HO.out] at hP1
        go_wp2
        go_roundw
        case rel => exact ⟨i, _, _, _, by omega, rfl, rfl, hP1, oP1.mono hb.size, nextB hb hb1⟩
        case measure => simp [intOf] <;> omega

end Go.Proofs.YtekalaihfmfkkaaGreatDoor

namespace Go.Proofs.YtekalaihfmfkkaaGreatDoor
open Go.RowKit
set_option maxRecDepth 20000

theorem format_n0 {w : World} {A : Option Addr} {n c : Nat} {x : Int} (hx : Num w A n c x) (hn : n ≤ 900000) (N : Nat) (hN : x = (N : Int)) : Calls Tryz.prog 99 #[.slice A n c] w (TextB w (dec N)) := by
  obtain ⟨L, h1, rfl⟩ := hx
  exact refFormat_any A n c L w N h1 hn hN

set_option maxHeartbeats 4000000 in
theorem refFormatR {w : World} {s : Bool} {A B : Option Addr} {n c m d k : Nat} {q : Rat} (h : Loose w s A n c B m d q k) (k0 : 1 ≤ k) (hk8 : k ≤ 800000) :
    Calls Tryz.prog 29 #[.agg #[.bool s, .slice A n c, .slice B m d]] w (TextB w (ratText q)) := by
  obtain ⟨v1, hv1⟩ : ∃ v1, w.alloc (.cells #[.bool s, .slice A n c, .slice B m d] 24) = v1 := ⟨_, rfl⟩
  obtain ⟨g, hg, hsz, hb1, hZ, hF⟩ := boxes0 w _ _ _ _ v1 hv1
  have HG := Lib.hid hg
  have HSZ := Lib.hid hsz
  have HZ := Lib.hid hZ
  have HF := Lib.hid hF
  have HV := Lib.hid hv1
  have HN := Lib.hid (refNorm_of h hb1 k0 hk8)
  clear hZ hF hsz h hv1 hg
  go_enter Tryz.func29, Tryz.ntmps29
  obtain ⟨a0, a1, a2⟩ := HZ.out _ (Below.refl _ _)
  rw [← HV.out, HG.out] at a0 a1 a2
  go_wp2_with fail
  rw [HV.out, ← HG.out]
  clear a0 a1 a2
  refine HN.out.mono ?_
  rintro e w5 ⟨t9, A9, n9, c9, B9, m9, d9, rfl, r9, oA9, oB9, b9⟩
  obtain ⟨o0, o1, o2⟩ := HZ.out _ b9
  obtain ⟨f0, f1, f2⟩ := HF.out _ b9
  obtain ⟨wy, hwy⟩ : ∃ wy, ((w5.setCell ⟨g, 0, none⟩ (.bool t9)).setCell ⟨g, 1, none⟩ (.slice A9 n9 c9)).setCell ⟨g, 2, none⟩ (.slice B9 m9 d9) = wy := ⟨_, rfl⟩
  have hst := store_end (g := g) r9 oA9 oB9 (by have := HSZ.out; omega) (by rw [HG.out]; omega) (nextB hb1 b9) (.bool t9) (.slice A9 n9 c9) (.slice B9 m9 d9)
  rw [hwy] at hst
  have hcy : wy.cell? ⟨g, 0, none⟩ = some (.bool t9) ∧ wy.cell? ⟨g, 1, none⟩ = some (.slice A9 n9 c9) ∧ wy.cell? ⟨g, 2, none⟩ = some (.slice B9 m9 d9) := by rw [← hwy]; exact set3 ⟨o0, o1, o2⟩
  have hgy : g < wy.heap.size := by rw [← hwy]; have := b9.size; have := HSZ.out; simp [World.setCell]; omega
  have HC := Lib.hid (three_cells hgy hcy.1 hcy.2.1 hcy.2.2)
  have HWY := Lib.hid hwy
  obtain ⟨⟨rt, hN1, hN2, l1, l2⟩, _, _, hby⟩ := hst
  have HRT := Lib.hid rt
  clear rt hwy hcy hgy r9 oA9 oB9
  have F1 := Lib.hid (format_n0 (hN1.num) (by omega) q.num.natAbs rfl)
  go_wp2_with fail
  rw [HWY.out]
  clear o0 o1 o2 f0 f1 f2
  refine F1.out.mono ?_
  rintro e w6 ⟨rfl, b6⟩
  have F2 := Lib.hid (format_n0 (hN2.num.below b6) (by omega) q.den rfl)
  obtain ⟨o0, o1, o2⟩ := HC.out w6 b6
  have hk6 := nextB hby b6
  have z1 := dec_size (n := q.num.natAbs) (k := k) (pw_up hN1.num.lt l1)
  have z2 := dec_size (n := q.den) (k := k) (pw_up hN2.num.lt l2)
  cases t9
  · have hq : ¬ q.num < 0 := of_decide_eq_false HRT.out.symm
    have HQ : Hid (¬ q.num < 0) := hq
    clear hq
    by_cases hd : q.den = 1
    · have T := dec_test_one hd
      have HD := Lib.hid hd
      clear hd
      go_wp2_with fail
      refine F2.out.mono ?_
      rintro e w7 ⟨rfl, b7⟩
      go_wp2
      go_ret
      exact ⟨by unfold ratText; rw [if_neg (by have := HQ.out; omega), if_pos HD.out]; rfl, nextB hk6 b7⟩
    · have T := dec_test_ne hd
      have HD : Hid (¬ q.den = 1) := hd
      clear hd
      go_wp2_with fail
      refine F2.out.mono ?_
      rintro e w7 ⟨rfl, b7⟩
      go_wp2
      go_ret
      exact ⟨by unfold ratText; rw [if_neg (by have := HQ.out; omega), if_neg HD.out]; rfl, nextB hk6 b7⟩
  · have hq : q.num < 0 := of_decide_eq_true HRT.out.symm
    have HQ : Hid (q.num < 0) := hq
    clear hq
    by_cases hd : q.den = 1
    · have T := dec_test_one hd
      have HD := Lib.hid hd
      clear hd
      go_wp2_with fail
      refine F2.out.mono ?_
      rintro e w7 ⟨rfl, b7⟩
      go_wp2
      go_ret
      exact ⟨by unfold ratText; rw [if_pos HQ.out, if_pos HD.out]; rfl, nextB hk6 b7⟩
    · have T := dec_test_ne hd
      have HD : Hid (¬ q.den = 1) := hd
      clear hd
      go_wp2_with fail
      refine F2.out.mono ?_
      rintro e w7 ⟨rfl, b7⟩
      go_wp2
      go_ret
      exact ⟨by unfold ratText; rw [if_pos HQ.out, if_neg HD.out]; rfl, nextB hk6 b7⟩
end Go.Proofs.YtekalaihfmfkkaaGreatDoor

namespace Go.Proofs.YtekalaihfmfkkaaGreatDoor
open Go.RowKit
set_option maxRecDepth 20000

theorem par_num {q : Rat} {j : Nat} : ((q ^ j).num.natAbs : Int) = (q.num.natAbs : Int) ^ j ∧ ((q ^ j).den : Int) = (q.den : Int) ^ j := by
  rw [Rat.num_pow, Rat.den_pow]
  refine ⟨by rw [Int.natAbs_pow]; norm_cast, by norm_cast⟩
theorem neg_pow (x : Int) : ∀ j : Nat, decide (x ^ j < 0) = (decide (x < 0) && (j % 2 == 1)) := by
  intro j
  have key : ∀ i : Nat, (0 ≤ x → 0 ≤ x ^ i) ∧ (x < 0 → (0 < x ^ (2 * i) ∧ x ^ (2 * i + 1) < 0)) := by
    intro i
    induction i with
    | zero => exact ⟨fun _ => by simp, fun h => ⟨by simp, by rw [show 2 * 0 + 1 = 1 by rfl, Int.pow_succ, Int.pow_zero, Int.one_mul]; exact h⟩⟩
    | succ i ih =>
      refine ⟨fun h => by rw [Int.pow_succ]; exact Int.mul_nonneg (ih.1 h) h, fun h => ?_⟩
      obtain ⟨h1, h2⟩ := ih.2 h
      have h3 : 0 < x ^ (2 * (i + 1)) := by
        rw [show 2 * (i + 1) = 2 * i + 1 + 1 by omega, Int.pow_succ]
        exact Int.mul_pos_of_neg_of_neg h2 h
      refine ⟨h3, ?_⟩
      rw [show 2 * (i + 1) + 1 = 2 * (i + 1) + 1 by rfl, Int.pow_succ]
      exact Int.mul_neg_of_pos_of_neg h3 h
  by_cases h : x < 0
  · rw [decide_eq_true h, Bool.true_and]
    rcases Nat.mod_two_eq_zero_or_one j with h2 | h2
    · obtain ⟨i, rfl⟩ : ∃ i, j = 2 * i := ⟨j / 2, by omega⟩
      rw [decide_eq_false (by have := ((key i).2 h).1; omega), h2]; rfl
    · obtain ⟨i, rfl⟩ : ∃ i, j = 2 * i + 1 := ⟨j / 2, by omega⟩
      rw [decide_eq_true ((key i).2 h).2, h2]; rfl
  · rw [decide_eq_false h, Bool.false_and]
    exact decide_eq_false (by have := (key j).1 (by omega); omega)
theorem pw_pow {x : Int} {k : Nat} (x0 : 0 ≤ x) (hx : x < pw k) : ∀ j : Nat, x ^ j < pw (1 + j * k) := by
  intro j
  induction j with
  | zero => simp; decide
  | succ j ih =>
    rw [Int.pow_succ, show 1 + (j + 1) * k = (1 + j * k) + k by rw [Nat.succ_mul]; omega]
    exact pw_prod (Int.pow_nonneg x0) x0 ih hx

/-- What the outer box of Power holds after j rounds. -/
def Out (v : World) (go : Nat) (q : Rat) (K : Nat) (wr : World) : Prop :=
  ∃ s A n c B m d, (wr.cell? ⟨go, 0, none⟩ = some (.bool s) ∧ wr.cell? ⟨go, 1, none⟩ = some (.slice A n c) ∧ wr.cell? ⟨go, 2, none⟩ = some (.slice B m d)) ∧
    (wr.frozen? ⟨go, 0, none⟩ = false ∧ wr.frozen? ⟨go, 1, none⟩ = false ∧ wr.frozen? ⟨go, 2, none⟩ = false) ∧ RN wr s A n c B m d q K ∧ Off v.heap.size A ∧ Off v.heap.size B ∧ go < wr.heap.size ∧ Below v.heap.size v wr

set_option maxHeartbeats 4000000 in
theorem refPower_r {w : World} {s : Bool} {A B : Option Addr} {n c m d k : Nat} {q : Rat} (j : Nat) (h : Loose w s A n c B m d q k) (k0 : 1 ≤ k) (hk8 : k ≤ 500) (hj : j ≤ 64) :
    Calls Tryz.prog 98 #[.agg #[.bool s, .slice A n c, .slice B m d], .int .i64 (j : Int)] w (GivesR w (q ^ j) (2 + j * k)) := by
  obtain ⟨v1, hv1⟩ : ∃ v1, (w.alloc (.cells #[.bool s, .slice A n c, .slice B m d] 24)).alloc (.cells #[.bool false, .slice none 0 0, .slice none 0 0] 24) = v1 := ⟨_, rfl⟩
  obtain ⟨g, hg, hsz, hb1, hA, hZ, hF⟩ := boxes1 w _ _ _ _ _ _ _ _ v1 hv1
  have HG := Lib.hid hg
  have HSZ := Lib.hid hsz
  have HA := Lib.hid hA
  have HZ := Lib.hid hZ
  have HF := Lib.hid hF
  have HV := Lib.hid hv1
  have h1 := h.below hb1
  have HI1 : Hid (∀ W, Calls Tryz.prog 23 #[.int .i64 1] W (GivesR W ((1 : Int) : Rat) 2)) := fun W => refIntR (by decide) (by decide)
  clear hA hZ hF hv1 hsz hg h
  go_enter Tryz.func98, Tryz.ntmps98
  go_wp2_with fail
  rw [HV.out, ← HG.out]
  refine (HI1.out v1).mono ?_
  rintro e w5 ⟨s5, A5, n5, c5, B5, m5, d5, rfl, r5, oA5, oB5, b5⟩
  obtain ⟨v2, hv2⟩ : ∃ v2, w5.alloc (.cells #[.bool s5, .slice A5 n5 c5, .slice B5 m5 d5] 24) = v2 := ⟨_, rfl⟩
  obtain ⟨go, hgo, hsz2, hb2, hO, hOF⟩ := boxes0 w5 _ _ _ _ v2 hv2
  have HV2 := Lib.hid hv2
  have HGO := Lib.hid hgo
  have hst : Out v1 go (q ^ 0) (2 + 0 * k) v2 := by
    refine ⟨s5, A5, n5, c5, B5, m5, d5, hO _ (Below.refl _ _), hOF _ (Below.refl _ _), ?_, oA5, oB5, by omega, nextB b5 hb2⟩
    have := (r5.below hb2).mono (show 2 ≤ 2 + 0 * k by omega)
    rw [Rat.pow_zero]
    exact this
  have hgv : v1.heap.size ≤ go := by rw [hgo]; exact b5.size
  clear hO hOF hv2 hgo r5
  go_upto_region 2 with fail
  rw [HV2.out, ← HGO.out]
  clear hb2 b5 hsz2 oA5 oB5
  go_wp2
  have hj9 : (j : Int) ≤ 64 := by omega
  go_loopw [6] (fun iv wr => ∃ i : Nat, i ≤ j ∧ iv = .int .i64 i ∧ Out v1 go (q ^ i) (2 + i * k) wr) (fun iv _ => j - (intOf iv).toNat)
  case atStart => exact ⟨0, Nat.zero_le _, rfl, hst⟩
  case round =>
    obtain ⟨i, hi, rfl, s6, A6, n6, c6, B6, m6, d6, ⟨o0, o1, o2⟩, ⟨f0, f1, f2⟩, r6, oA6, oB6, hgo, hk⟩ := hrel
    clear hst
    obtain ⟨a0, a1, a2⟩ := HA.out _ hk
    by_cases hlt : i < j
    · have hik : i * k ≤ 64 * k := Nat.mul_le_mul_right k (by omega)
      have hlt2 : (i : Int) < j := by omega
      have HM := Lib.hid (refMulR r6.loose (h1.below hk) (by omega) k0 (by omega) (by omega))
      go_wp2_with fail
      refine HM.out.mono ?_
      rintro e w7 ⟨s7, A7, n7, c7, B7, m7, d7, rfl, r7, oA7, oB7, b7⟩
      have HP := Lib.hid (Rat.pow_succ q i)
      obtain ⟨p0, p1, p2⟩ := three_cells hgo o0 o1 o2 _ b7
      have q0 : w7.frozen? ⟨go, 0, none⟩ = false := (b7.frozen (p := ⟨go, 0, none⟩) hgo).trans f0
      have q1 : w7.frozen? ⟨go, 1, none⟩ = false := (b7.frozen (p := ⟨go, 1, none⟩) hgo).trans f1
      have q2 : w7.frozen? ⟨go, 2, none⟩ = false := (b7.frozen (p := ⟨go, 2, none⟩) hgo).trans f2
      have hk7 := nextB hk b7
      have hz7 := b7.size
      have hnew : Out v1 go (q ^ (i + 1)) (2 + (i + 1) * k) (((w7.setCell ⟨go, 0, none⟩ (.bool s7)).setCell ⟨go, 1, none⟩ (.slice A7 n7 c7)).setCell ⟨go, 2, none⟩ (.slice B7 m7 d7)) := by
        refine ⟨s7, A7, n7, c7, B7, m7, d7, set3 ⟨p0, p1, p2⟩, free3 ⟨q0, q1, q2⟩ _ _ _, ?_, oA7.mono (by have := hk.size; omega), oB7.mono (by have := hk.size; omega), by simp [World.setCell]; omega, ((hk7.setCell hgv _).setCell hgv _).setCell hgv _⟩
        rw [HP.out]
        exact (r7.mono (by rw [Nat.succ_mul]; omega)).far3 (fun _ a e => by have := oA7 a e; omega) (fun _ a e => by have := oB7 a e; omega) _ _ _ _ _ _
      have HNEW := Lib.hid hnew
      clear o0 o1 o2 f0 f1 f2 a0 a1 a2 hnew r7 r6 oA7 oB7 HP hk
      go_wp2
      go_roundw
      case rel => exact ⟨i + 1, by omega, by go_num, HNEW.out⟩
      case measure => simp [intOf] <;> omega
    · obtain rfl : i = j := by omega
      clear hlt
      obtain ⟨z0, z1, z2⟩ := HZ.out _ hk
      obtain ⟨y0, y1, y2⟩ := HF.out _ hk
      have hk64 : i * k ≤ 64 * k := Nat.mul_le_mul_right k (by omega)
      have hfin := store_end (w := w) (g := g + 1) r6 oA6 oB6 (by have := HSZ.out; omega) (by rw [HG.out]; omega) (nextB hb1 hk) (.bool s6) (.slice A6 n6 c6) (.slice B6 m6 d6)
      have HFIN := Lib.hid hfin
      clear a0 a1 a2 hfin r6 oA6 oB6
      go_wp2
      exact bodyPost_ret (v := .agg #[.bool s6, .slice A6 n6 c6, .slice B6 m6 d6]) (by simp [results, Tryz.results98, go_sem, z0, z1, z2]) rfl ⟨_, _, _, _, _, _, _, rfl, HFIN.out⟩

set_option maxHeartbeats 2000000 in
theorem refPow_ok {w : World} {s : Bool} {A B : Option Addr} {n c m d k : Nat} {q : Rat} (j : Nat) (h : Loose w s A n c B m d q k) (k0 : 1 ≤ k) (hk8 : k ≤ 500) (hj : j ≤ 64) :
    Calls Tryz.prog 28 #[.agg #[.bool s, .slice A n c, .slice B m d], .int .i64 (j : Int)] w (GivesROk w (q ^ j) (2 + j * k)) := by
  obtain ⟨v1, hv1⟩ : ∃ v1, (w.alloc (.cells #[.bool s, .slice A n c, .slice B m d] 24)).alloc (.cells #[.bool false, .slice none 0 0, .slice none 0 0] 24) = v1 := ⟨_, rfl⟩
  obtain ⟨g, hg, hsz, hb1, hA, hZ, hF⟩ := boxes1 w _ _ _ _ _ _ _ _ v1 hv1
  have HG := Lib.hid hg
  have HSZ := Lib.hid hsz
  have HA := Lib.hid hA
  have HZ := Lib.hid hZ
  have HF := Lib.hid hF
  have HV := Lib.hid hv1
  have HP := Lib.hid (refPower_r j (h.below hb1) k0 hk8 hj)
  have hj0 : (0 : Int) ≤ j := by omega
  have hj1 : (j : Int) ≤ 64 := by omega
  clear hA hZ hF hv1 hsz hg h
  go_enter Tryz.func28, Tryz.ntmps28
  obtain ⟨a0, a1, a2⟩ := HA.out _ (Below.refl _ _)
  rw [← HV.out, HG.out] at a0 a1 a2
  go_wp2_with fail
  rw [HV.out, ← HG.out]
  clear a0 a1 a2
  refine HP.out.mono ?_
  rintro e w9 ⟨t9, A9, n9, c9, B9, m9, d9, rfl, r9, oA9, oB9, b9⟩
  obtain ⟨o0, o1, o2⟩ := HZ.out _ b9
  obtain ⟨f0, f1, f2⟩ := HF.out _ b9
  go_wp2
  exact bodyPost_ret (v := .tuple #[.agg #[.bool t9, .slice A9 n9 c9, .slice B9 m9 d9], .int .i64 0]) (by simp [results, Tryz.results28, go_sem, o0, o1, o2]) rfl ⟨_, _, _, _, _, _, _, rfl,
    store_end r9 oA9 oB9 (by have := HSZ.out; omega) (by rw [HG.out]; omega) (nextB hb1 b9) _ _ _⟩

set_option maxHeartbeats 2000000 in
theorem refPow_range {w : World} {s : Bool} {A B : Option Addr} {n c m d : Nat} (j : Int) (hj : j < 0 ∨ 64 < j) :
    Calls Tryz.prog 28 #[.agg #[.bool s, .slice A n c, .slice B m d], .int .i64 j] w (BlankE w 1) := by
  obtain ⟨v1, hv1⟩ : ∃ v1, (w.alloc (.cells #[.bool s, .slice A n c, .slice B m d] 24)).alloc (.cells #[.bool false, .slice none 0 0, .slice none 0 0] 24) = v1 := ⟨_, rfl⟩
  obtain ⟨g, hg, hsz, hb1, hA, hZ, hF⟩ := boxes1 w _ _ _ _ _ _ _ _ v1 hv1
  have HG := Lib.hid hg
  have HSZ := Lib.hid hsz
  have HZ := Lib.hid hZ
  have HF := Lib.hid hF
  have HV := Lib.hid hv1
  clear hA hZ hF hv1 hsz hg
  have fin : ∀ u v z, Below w.heap.size w (((v1.setCell ⟨g + 1, 0, none⟩ u).setCell ⟨g + 1, 1, none⟩ v).setCell ⟨g + 1, 2, none⟩ z) := fun u v z =>
    ((hb1.setCell (by simp; rw [HG.out]; omega) _).setCell (by simp; rw [HG.out]; omega) _).setCell (by simp; rw [HG.out]; omega) _
  have HFIN := Lib.hid fin
  clear fin hb1
  rcases hj with hj | hj
  all_goals
    go_enter Tryz.func28, Tryz.ntmps28
    go_upto_region 2 with fail
    rw [HV.out, ← HG.out]
    obtain ⟨o0, o1, o2⟩ := HZ.out _ (Below.refl _ _)
    obtain ⟨f0, f1, f2⟩ := HF.out _ (Below.refl _ _)
    go_wp2
    exact bodyPost_ret (v := .tuple #[.agg #[.bool false, .slice none 0 0, .slice none 0 0], .int .i64 1]) (by simp [results, Tryz.results28, go_sem, o0, o1, o2]) rfl ⟨rfl, HFIN.out _ _ _⟩

theorem RN.pow {w : World} {s : Bool} {A B A' B' : Option Addr} {n c m d n' c' m' d' k : Nat} {q : Rat} {w' : World} (h : RN w s A n c B m d q k) (j : Nat) (hx : Nrm w' A' n' c' ((q.num.natAbs : Int) ^ j)) (hy : Nrm w' B' m' d' ((q.den : Int) ^ j)) :
    RN w' (s && (j % 2 == 1)) A' n' c' B' m' d' (q ^ j) (1 + j * k) := by
  refine ⟨?_, by rw [par_num.1]; exact hx, by rw [par_num.2]; exact hy, hx.short (pw_pow (by omega) h.lts.1 j), hy.short (pw_pow (by omega) h.lts.2 j)⟩
  rw [Rat.num_pow, neg_pow, h.1]

set_option maxHeartbeats 4000000 in
theorem ratPow_ok {w : World} {s : Bool} {A B : Option Addr} {n c m d k : Nat} {q : Rat} (hl : Laid w) (j : Nat) (h : Loose w s A n c B m d q k) (k0 : 1 ≤ k) (hk8 : k ≤ 100) (hj : j ≤ 64) :
    Calls Tryz.prog 27 #[.agg #[.bool s, .slice A n c, .slice B m d], .int .i64 (j : Int)] w (GivesROk w (q ^ j) (1 + j * k)) := by
  obtain ⟨v1, hv1⟩ : ∃ v1, (w.alloc (.cells #[.bool s, .slice A n c, .slice B m d] 24)).alloc (.cells #[.bool false, .slice none 0 0, .slice none 0 0] 24) = v1 := ⟨_, rfl⟩
  obtain ⟨g, hg, hsz, hb1, hA, hZ, hF⟩ := boxes1 w _ _ _ _ _ _ _ _ v1 hv1
  have HG := Lib.hid hg
  have HSZ := Lib.hid hsz
  have HA := Lib.hid hA
  have HZ := Lib.hid hZ
  have HF := Lib.hid hF
  have HV := Lib.hid hv1
  have HN := Lib.hid (norm_r (hl.below hb1) (h.below hb1) k0 (by omega))
  clear hA hZ hF hv1 hsz hg h
  go_enter Tryz.func27, Tryz.ntmps27
  obtain ⟨a0, a1, a2⟩ := HA.out _ (Below.refl _ _)
  rw [← HV.out, HG.out] at a0 a1 a2
  go_wp2_with fail
  rw [HV.out, ← HG.out]
  clear a0 a1 a2
  refine HN.out.mono ?_
  rintro e w5 ⟨t9, A9, n9, c9, B9, m9, d9, rfl, r9, oA9, oB9, b5⟩
  obtain ⟨v2, hv2⟩ : ∃ v2, w5.alloc (.cells #[.bool t9, .slice A9 n9 c9, .slice B9 m9 d9] 24) = v2 := ⟨_, rfl⟩
  obtain ⟨go, hgo, hsz2, hb2, hO, hOF⟩ := boxes0 w5 _ _ _ _ v2 hv2
  have HV2 := Lib.hid hv2
  have HGO := Lib.hid hgo
  have HO := Lib.hid hO
  have hk2 := nextB b5 hb2
  have R9 := Lib.hid (r9.below hb2)
  have l1 := r9.2.2.2.1
  have l2 := r9.2.2.2.2
  clear hO hOF hv2 hgo r9 oA9 oB9 hsz2
  have P1 := Lib.hid (pow_o A9 n9 c9 _ j v2 R9.out.2.1.num (by omega) hj)
  obtain ⟨p0, p1, p2⟩ := HO.out _ (Below.refl _ _)
  rw [← HV2.out, HGO.out] at p0 p1 p2
  go_wp2_with fail
  rw [HV2.out, ← HGO.out]
  clear p0 p1 p2
  refine P1.out.mono ?_
  rintro e w6 ⟨A6, n6, c6, rfl, h6, o6, b6⟩
  have P2 := Lib.hid (pow_o B9 m9 d9 _ j w6 (R9.out.2.2.1.num.below b6) (by omega) hj)
  obtain ⟨p0, p1, p2⟩ := HO.out _ b6
  go_wp2_with fail
  clear p0 p1 p2
  refine P2.out.mono ?_
  rintro e w7 ⟨A7, n7, c7, rfl, h7, o7, b7⟩
  have hk := nextB hk2 (nextB b6 b7)
  obtain ⟨p0, p1, p2⟩ := HO.out _ (nextB b6 b7)
  obtain ⟨z0, z1, z2⟩ := HZ.out _ hk
  obtain ⟨y0, y1, y2⟩ := HF.out _ hk
  have RP := R9.out.pow j (h6.below b7) h7
  have hz6 := b6.size
  have hz2 := hk2.size
  have hfin := store_end (w := w) (wp := v2) (g := g + 1) RP o6 (o7.mono hz6) (by have := HSZ.out; omega) (by rw [HG.out]; omega) (nextB hb1 hk) (.bool (t9 && (j % 2 == 1))) (.slice A6 n6 c6) (.slice A7 n7 c7)
  have HFIN := Lib.hid hfin
  clear hfin RP h6 h7 o6 o7 b6 b7 hk2 HN P1 P2
  have hmod : ((j : Int) % 2 == 1) = (j % 2 == 1) := by
    rcases Nat.mod_two_eq_zero_or_one j with h2 | h2
    · rw [h2, show (j : Int) % 2 = 0 by omega]; rfl
    · rw [h2, show (j : Int) % 2 = 1 by omega]; rfl
  obtain ⟨bb, hbb⟩ : ∃ bb, (j % 2 == 1) = bb := ⟨_, rfl⟩
  rw [hbb] at hmod HFIN
  have HMOD := Lib.hid hmod
  clear hmod hbb
  cases t9
  · go_wp2
    exact bodyPost_ret (v := .tuple #[.agg #[.bool false, .slice A6 n6 c6, .slice A7 n7 c7], .int .i64 0]) (by simp [results, Tryz.results27, go_sem, z0, z1, z2]) rfl ⟨_, _, _, _, _, _, _, rfl, HFIN.out⟩
  · rw [Bool.true_and] at HFIN
    go_wp2
    rw [HMOD.out]
    exact bodyPost_ret (v := .tuple #[.agg #[.bool bb, .slice A6 n6 c6, .slice A7 n7 c7], .int .i64 0]) (by simp [results, Tryz.results27, go_sem, z0, z1, z2]) rfl ⟨_, _, _, _, _, _, _, rfl, HFIN.out⟩

set_option maxHeartbeats 4000000 in
theorem ratPow_range {w : World} {s : Bool} {A B : Option Addr} {n c m d k : Nat} {q : Rat} (hl : Laid w) (j : Int) (h : Loose w s A n c B m d q k) (k0 : 1 ≤ k) (hk8 : k ≤ 100) (hj : j < 0 ∨ 64 < j) :
    Calls Tryz.prog 27 #[.agg #[.bool s, .slice A n c, .slice B m d], .int .i64 j] w (BlankE w 1) := by
  obtain ⟨v1, hv1⟩ : ∃ v1, (w.alloc (.cells #[.bool s, .slice A n c, .slice B m d] 24)).alloc (.cells #[.bool false, .slice none 0 0, .slice none 0 0] 24) = v1 := ⟨_, rfl⟩
  obtain ⟨g, hg, hsz, hb1, hA, hZ, hF⟩ := boxes1 w _ _ _ _ _ _ _ _ v1 hv1
  have HG := Lib.hid hg
  have HSZ := Lib.hid hsz
  have HA := Lib.hid hA
  have HZ := Lib.hid hZ
  have HF := Lib.hid hF
  have HV := Lib.hid hv1
  have HN := Lib.hid (norm_r (hl.below hb1) (h.below hb1) k0 (by omega))
  clear hA hZ hF hv1 hsz hg h
  go_enter Tryz.func27, Tryz.ntmps27
  obtain ⟨a0, a1, a2⟩ := HA.out _ (Below.refl _ _)
  rw [← HV.out, HG.out] at a0 a1 a2
  go_wp2_with fail
  rw [HV.out, ← HG.out]
  clear a0 a1 a2
  refine HN.out.mono ?_
  rintro e w5 ⟨t9, A9, n9, c9, B9, m9, d9, rfl, r9, oA9, oB9, b5⟩
  obtain ⟨v2, hv2⟩ : ∃ v2, w5.alloc (.cells #[.bool t9, .slice A9 n9 c9, .slice B9 m9 d9] 24) = v2 := ⟨_, rfl⟩
  obtain ⟨go, hgo, hsz2, hb2, hO, hOF⟩ := boxes0 w5 _ _ _ _ v2 hv2
  have HV2 := Lib.hid hv2
  have HGO := Lib.hid hgo
  have HO := Lib.hid hO
  have hk2 := nextB b5 hb2
  clear hO hOF hv2 hgo oA9 oB9 hsz2 r9
  have P1 := Lib.hid (pow_range A9 n9 c9 j v2 hj)
  obtain ⟨p0, p1, p2⟩ := HO.out _ (Below.refl _ _)
  rw [← HV2.out, HGO.out] at p0 p1 p2
  go_wp2_with fail
  rw [HV2.out, ← HGO.out]
  clear p0 p1 p2
  refine P1.out.mono ?_
  rintro e w6 ⟨rfl, rfl⟩
  obtain ⟨z0, z1, z2⟩ := HZ.out _ hk2
  obtain ⟨y0, y1, y2⟩ := HF.out _ hk2
  go_wp2
  exact bodyPost_ret (v := .tuple #[.agg #[.bool false, .slice none 0 0, .slice none 0 0], .int .i64 1]) (by simp [results, Tryz.results27, go_sem, z0, z1, z2]) rfl ⟨rfl,
    (((nextB hb1 hk2).setCell (by simp; rw [HG.out]; omega) _).setCell (by simp; rw [HG.out]; omega) _).setCell (by simp; rw [HG.out]; omega) _⟩
end Go.Proofs.YtekalaihfmfkkaaGreatDoor
