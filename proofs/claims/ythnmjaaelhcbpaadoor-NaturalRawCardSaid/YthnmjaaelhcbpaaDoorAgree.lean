/-
  exactppllaw01.agrees: the functions of two numbers agree with the reference.
-/
import Derived.Test.YthnmjaaelhcbpaaDoorRefFormat
import Derived.Test.YthnmjaaelhcbpaaDoorRefR1
import Derived.Test.YthnmjaaelhcbpaaDoorRefSub
import Derived.Test.YthnmjaaelhcbpaaDoorRefIntV
namespace Go.Proofs.YthnmjaaelhcbpaaDoor
open Go.RowKit
set_option maxRecDepth 20000

theorem nrm_zero (w : World) : Nrm w none 0 0 0 := ⟨[], Rd.nil w, Is.zero⟩
theorem same_b {w : World} {A B : Option Addr} {n c m d : Nat} {x y : Int} (hx : Nrm w A n c x) (hy : Nrm w B m d y) (e : x = y) : Calls Tryd.prog 16 #[.slice A n c, .slice B m d] w (True1 w) :=
  (same_n hx hy e).mono fun e w' h => by
    obtain ⟨he, k, rfl⟩ := h
    exact ⟨he, drewN_below (Below.refl _ _) k⟩

/-- A number and an error code. -/
def GivesE (w : World) (x er : Int) (e : Ending) (w' : World) : Prop := ∃ A n c, e = .returned (.tuple #[.slice A n c, .int .i64 er]) ∧ Nrm w' A n c x ∧ Below w.heap.size w w'
/-- Two numbers and an error code. -/
def GivesE2 (w : World) (x y er : Int) (e : Ending) (w' : World) : Prop :=
  ∃ A n c B m d, e = .returned (.tuple #[.slice A n c, .slice B m d, .int .i64 er]) ∧ Nrm w' A n c x ∧ Nrm w' B m d y ∧ Below w.heap.size w w'
/-- An int and an error code. -/
def IntE (w : World) (x er : Int) (e : Ending) (w' : World) : Prop := e = .returned (.tuple #[.int .i64 x, .int .i64 er]) ∧ Below w.heap.size w w'

section
variable {w : World} {A B : Option Addr} {n c m d : Nat} {x y : Int}
theorem sub_both (hx : Num w A n c x) (hy : Num w B m d y) (hn : n ≤ 300000) (hm : m ≤ 300000) :
    ∃ v er, (∀ W, Below w.heap.size w W → Calls Tryd.prog 51 #[.slice A n c, .slice B m d] W (GivesE W v er)) ∧
      (∀ W, Below w.heap.size w W → Calls Tryd.prog 52 #[.slice A n c, .slice B m d] W (GivesE W v er)) := by
  by_cases h : y ≤ x
  · refine ⟨x - y, 0, fun W hb => ?_, fun W hb => ?_⟩
    · exact (sub_n (hx.below hb) (hy.below hb) (by omega) h).mono fun e w' h => h
    · obtain ⟨L, h1, rfl⟩ := hx.below hb
      obtain ⟨M, h2, rfl⟩ := hy.below hb
      exact (refSub_any A B n c m d L M W h1 h2 (by omega) (by omega) h).mono fun e w' h => h.n
  · refine ⟨0, 1, fun W hb => ?_, fun W hb => ?_⟩
    · obtain ⟨L, h1, rfl⟩ := hx.below hb
      obtain ⟨M, h2, rfl⟩ := hy.below hb
      refine (sub_less A B n c m d L M W h1 h2 (by omega)).mono fun e w' h => ?_
      obtain ⟨he, k, rfl⟩ := h
      exact ⟨_, _, _, he, nrm_zero _, drewN_below (Below.refl _ _) k⟩
    · obtain ⟨L, h1, rfl⟩ := hx.below hb
      obtain ⟨M, h2, rfl⟩ := hy.below hb
      exact (refSub_less A B n c m d L M W h1 h2 (by omega) (by omega) (by omega)).mono fun e w' h => ⟨_, _, _, h.1, nrm_zero _, h.2⟩
theorem div_both (hx : Num w A n c x) (hy : Num w B m d y) (hn : n ≤ 300000) (hm : m ≤ 300000) :
    ∃ q r er, (∀ W, Below w.heap.size w W → Calls Tryd.prog 46 #[.slice A n c, .slice B m d] W (GivesE2 W q r er)) ∧
      (∀ W, Below w.heap.size w W → Calls Tryd.prog 53 #[.slice A n c, .slice B m d] W (GivesE2 W q r er)) := by
  have y0 := hy.nonneg
  by_cases h : y = 0
  · refine ⟨0, 0, 3, fun W hb => ?_, fun W hb => ?_⟩
    · refine (divMod_zero_n (hx.below hb) (hy.below hb) h).mono fun e w' h => ?_
      obtain ⟨he, rfl⟩ := h
      exact ⟨_, _, _, _, _, _, he, nrm_zero _, nrm_zero _, Below.refl _ _⟩
    · obtain ⟨L, h1, rfl⟩ := hx.below hb
      obtain ⟨M, h2, rfl⟩ := hy.below hb
      exact (refDivMod_zero A B n c m d L M W h1 h2 (by omega) (by omega) h).mono fun e w' h => ⟨_, _, _, _, _, _, h.1, nrm_zero _, nrm_zero _, h.2⟩
  · refine ⟨x / y, x % y, 0, fun W hb => ?_, fun W hb => ?_⟩
    · exact (divMod_n (hx.below hb) (hy.below hb) (by omega) h).mono fun e w' h => h
    · exact (refDivMod_n (hx.below hb) (hy.below hb) (by omega) (by omega) (by omega)).mono fun e w' h => h
theorem int_both (hx : Num w A n c x) (hn : n ≤ 300000) :
    ∃ v er, (∀ W, Below w.heap.size w W → Calls Tryd.prog 54 #[.slice A n c] W (IntE W v er)) ∧
      (∀ W, Below w.heap.size w W → Calls Tryd.prog 55 #[.slice A n c] W (IntE W v er)) := by
  by_cases h : x ≤ 9223372036854775807
  · refine ⟨x, 0, fun W hb => ?_, fun W hb => ?_⟩
    · obtain ⟨L, h1, rfl⟩ := hx.below hb
      refine (int_any A n c L W h1 h).mono fun e w' h => ?_
      obtain ⟨he, rfl⟩ := h
      exact ⟨he, Below.refl _ _⟩
    · obtain ⟨L, h1, rfl⟩ := hx.below hb
      exact (refInt_any A n c L W h1 (by omega) h).mono fun e w' h => h
  · refine ⟨0, 1, fun W hb => ?_, fun W hb => ?_⟩
    · obtain ⟨L, h1, rfl⟩ := hx.below hb
      refine (int_over A n c L W h1 (by omega)).mono fun e w' h => ?_
      obtain ⟨he, rfl⟩ := h
      exact ⟨he, Below.refl _ _⟩
    · obtain ⟨L, h1, rfl⟩ := hx.below hb
      exact (refInt_over A n c L W h1 (by omega) (by omega)).mono fun e w' h => h
theorem refFormat_n (hx : Num w A n c x) (hn : n ≤ 900000) (N : Nat) (hN : x = (N : Int)) : Calls Tryd.prog 44 #[.slice A n c] w (TextB w (dec N)) := by
  obtain ⟨L, h1, rfl⟩ := hx
  exact refFormat_any A n c L w N h1 hn hN

set_option maxHeartbeats 4000000 in
theorem agrees_n (hl : Laid w) (hx : Num w A n c x) (hy : Num w B m d y) (hn : n ≤ 300000) (hm : m ≤ 300000) :
    Calls Tryd.prog 17 #[.slice A n c, .slice B m d] w (True1 w) := by
  obtain ⟨vs, es, hS1, hS2⟩ := sub_both hx hy hn hm
  obtain ⟨vq, vr, ed, hD1, hD2⟩ := div_both hx hy hn hm
  obtain ⟨vi, ei, hI1, hI2⟩ := int_both hx hn
  obtain ⟨N, hN⟩ := Int.eq_ofNat_of_zero_le hx.nonneg
  have HN := Lib.hid hN
  have HS1 := Lib.hid hS1
  have HS2 := Lib.hid hS2
  have HD1 := Lib.hid hD1
  have HD2 := Lib.hid hD2
  have HI1 := Lib.hid hI1
  have HI2 := Lib.hid hI2
  clear hN hS1 hS2 hD1 hD2 hI1 hI2
  go_enter Tryd.func17, Tryd.ntmps17
  go_wp2_with fail
  refine (HS1.out w (Below.refl _ _)).mono ?_
  rintro e w1 ⟨A1, n1, c1, rfl, h1, b1⟩
  have hk := b1
  go_wp2_with fail
  refine (HS2.out _ hk).mono ?_
  rintro e w2 ⟨A2, n2, c2, rfl, h2, b2⟩
  replace hk := nextB hk b2
  go_wp2_with fail
  refine (HD1.out _ hk).mono ?_
  rintro e w3 ⟨A3, n3, c3, B3, m3, d3, rfl, h3, i3, b3⟩
  replace hk := nextB hk b3
  go_wp2_with fail
  refine (HD2.out _ hk).mono ?_
  rintro e w4 ⟨A4, n4, c4, B4, m4, d4, rfl, h4, i4, b4⟩
  replace hk := nextB hk b4
  go_wp2_with fail
  refine (HI1.out _ hk).mono ?_
  rintro e w5 ⟨rfl, b5⟩
  replace hk := nextB hk b5
  go_wp2_with fail
  refine (HI2.out _ hk).mono ?_
  rintro e w6 ⟨rfl, b6⟩
  replace hk := nextB hk b6
  replace h1 := h1.below (nextB b2 (nextB b3 (nextB b4 (nextB b5 b6))))
  replace h2 := h2.below (nextB b3 (nextB b4 (nextB b5 b6)))
  replace h3 := h3.below (nextB b4 (nextB b5 b6))
  replace i3 := i3.below (nextB b4 (nextB b5 b6))
  replace h4 := h4.below (nextB b5 b6)
  replace i4 := i4.below (nextB b5 b6)
  replace hx := hx.below hk
  replace hy := hy.below hk
  replace hl := hl.below hk
  have h06 := hk
  clear HS1 HS2 HD1 HD2 HI1 HI2 hk b1 b2 b3 b4 b5 b6
  have hk := Below.refl w6.heap.size w6
  go_wp2_with fail
  refine (trim_n hx (by omega)).mono ?_
  rintro e w7 ⟨A7, n7, c7, rfl, h7, b7⟩
  replace hk := nextB hk b7
  go_wp2_with fail
  refine (refTrim_n (hx.below hk) (by omega)).mono ?_
  rintro e w8 ⟨A8, n8, c8, rfl, h8, b8⟩
  replace hk := nextB hk b8
  go_wp2_with fail
  refine (same_b (h7.below b8) h8 rfl).mono ?_
  rintro e w9 ⟨rfl, b9⟩
  replace hk := nextB hk b9
  go_wp2_with fail
  refine (cmp_b (hx.below hk) (hy.below hk)).mono ?_
  rintro e w10 ⟨rfl, b10⟩
  replace hk := nextB hk b10
  go_wp2_with fail
  refine (refCmp_n (hx.below hk) (hy.below hk) (by omega) (by omega)).mono ?_
  rintro e w11 ⟨rfl, b11⟩
  replace hk := nextB hk b11
  go_wp2_with fail
  refine (add_n (hx.below hk) (hy.below hk) (by omega) (by omega)).mono ?_
  rintro e w12 ⟨A12, n12, c12, rfl, h12, b12⟩
  replace hk := nextB hk b12
  go_wp2_with fail
  refine (refAdd_n (hx.below hk) (hy.below hk) (by omega) (by omega)).mono ?_
  rintro e w13 ⟨A13, n13, c13, rfl, h13, b13⟩
  replace hk := nextB hk b13
  go_wp2_with fail
  refine (same_b (h12.below b13) h13 rfl).mono ?_
  rintro e w14 ⟨rfl, b14⟩
  replace hk := nextB hk b14
  go_wp2_with fail
  refine (same_b (h1.below hk) (h2.below hk) rfl).mono ?_
  rintro e w15 ⟨rfl, b15⟩
  replace hk := nextB hk b15
  go_wp2_with fail
  refine (mul_n (hx.below hk) (hy.below hk) (by omega) (by omega)).mono ?_
  rintro e w16 ⟨A16, n16, c16, rfl, h16, b16⟩
  replace hk := nextB hk b16
  go_wp2_with fail
  refine (refMul_n (hx.below hk) (hy.below hk) (by omega) (by omega)).mono ?_
  rintro e w17 ⟨A17, n17, c17, rfl, h17, b17⟩
  replace hk := nextB hk b17
  go_wp2_with fail
  refine (same_b (h16.below b17) h17 rfl).mono ?_
  rintro e w18 ⟨rfl, b18⟩
  replace hk := nextB hk b18
  go_wp2_with fail
  refine (same_b (h3.below hk) (h4.below hk) rfl).mono ?_
  rintro e w19 ⟨rfl, b19⟩
  replace hk := nextB hk b19
  go_wp2_with fail
  refine (same_b (i3.below hk) (i4.below hk) rfl).mono ?_
  rintro e w20 ⟨rfl, b20⟩
  replace hk := nextB hk b20
  go_wp2_with fail
  refine (gcd_n (hl.below hk) (hx.below hk) (hy.below hk) (by omega) (by omega)).mono ?_
  rintro e w21 ⟨A21, n21, c21, rfl, h21, b21⟩
  replace hk := nextB hk b21
  go_wp2_with fail
  refine (refGcd_n (hx.below hk) (hy.below hk) (by omega) (by omega)).mono ?_
  rintro e w22 ⟨A22, n22, c22, rfl, h22, b22⟩
  replace hk := nextB hk b22
  go_wp2_with fail
  refine (same_b (h21.below b22) h22 rfl).mono ?_
  rintro e w23 ⟨rfl, b23⟩
  replace hk := nextB hk b23
  go_wp2_with fail
  refine (format_n (hx.below hk) (by omega) N HN.out).mono ?_
  rintro e w24 ⟨rfl, b24⟩
  replace hk := nextB hk b24
  go_wp2_with fail
  refine (refFormat_n (hx.below hk) (by omega) N HN.out).mono ?_
  rintro e w25 ⟨rfl, b25⟩
  replace hk := nextB hk b25
  go_wp2
  go_ret
  exact ⟨rfl, nextB h06 hk⟩
end
end Go.Proofs.YthnmjaaelhcbpaaDoor
