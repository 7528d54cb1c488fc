/-
  exactppllaw01.NaturalCommon returns true for every three lists of limbs, whatever the memory, if noStep holds what the program's text lays.
-/
import Derived.Test.YtdimajnadmkhiaaDoorGcdN
namespace Go.Proofs.YtdimajnadmkhiaaDoor
open Go.RowKit

theorem common_long (A B C : Option Addr) (a b m ca cb cm : Nat) (w : World) (h : 8 < a ∨ 8 < b ∨ 8 < m) :
    Calls Tryd.prog 5 #[.slice A a ca, .slice B b cb, .slice C m cm] w (True1 w) := by
  by_cases h0 : 8 < a
  · go_enter Tryd.func5, Tryd.ntmps5
    go_wp2_with fail
    refine (awake_any _).mono ?_
    rintro e w' ⟨rfl, hB⟩
    go_wp2
    go_ret
    exact ⟨rfl, hB⟩
  · by_cases h1 : 8 < b
    · go_enter Tryd.func5, Tryd.ntmps5
      go_wp2_with fail
      refine (awake_any _).mono ?_
      rintro e w' ⟨rfl, hB⟩
      go_wp2
      go_ret
      exact ⟨rfl, hB⟩
    · have h2 : 8 < m := by omega
      go_enter Tryd.func5, Tryd.ntmps5
      go_wp2_with fail
      refine (awake_any _).mono ?_
      rintro e w' ⟨rfl, hB⟩
      go_wp2
      go_ret
      exact ⟨rfl, hB⟩

set_option maxHeartbeats 4000000 in
set_option maxRecDepth 20000 in
theorem common_short (A B C : Option Addr) (a b m ca cb cm : Nat) (x y z : Int) (w : World) (hl : Laid w) (h_a : Num w A a ca x) (h_b : Num w B b cb y) (h_c : Num w C m cm z) (h0 : a ≤ 8) (h1 : b ≤ 8) (h2 : m ≤ 8) :
    Calls Tryd.prog 5 #[.slice A a ca, .slice B b cb, .slice C m cm] w (True1 w) := by
  have z_a := h_a.nonneg
  have z_b := h_b.nonneg
  have z_c := h_c.nonneg
  have b_a := pw_up h_a.lt h0
  have b_b := pw_up h_b.lt h1
  have b_c := pw_up h_c.lt h2
  have z_g : 0 ≤ (Int.gcd x y : Int) := by omega
  have b_g : Hid ((Int.gcd x y : Int) < pw 8) := gcd_lt z_a z_b b_a b_b
  have b_u : Hid (x * z < pw 16) := pw_prod z_a z_c b_a b_c
  have b_v : Hid (y * z < pw 16) := pw_prod z_b z_c b_b b_c
  have b_p : Hid ((Int.gcd x y : Int) * z < pw 16) := pw_prod z_g z_c b_g.out b_c
  have HE : Hid ((Int.gcd (x * z) (y * z) : Int) = (Int.gcd x y : Int) * z) := gcd_times z_c
  have HD : Hid (∀ d : Int, 0 < d → ((x % d = 0 ∧ y % d = 0) ↔ (Int.gcd x y : Int) % d = 0)) := fun d hd => gcd_small hd
  have HX : Hid (x % (Int.gcd x y : Int) = 0) := Int.emod_eq_zero_of_dvd (Int.gcd_dvd_left ..)
  have HY : Hid (y % (Int.gcd x y : Int) = 0) := Int.emod_eq_zero_of_dvd (Int.gcd_dvd_right ..)
  have HZ : Hid ((Int.gcd x y : Int) = 0 → x = 0 ∧ y = 0) := by
    intro h
    have h1 : Int.gcd x y = 0 := by omega
    exact Int.gcd_eq_zero_iff.1 h1
  have GC := Lib.hid (gcd_n hl h_a h_b (by omega) (by omega))
  generalize (Int.gcd x y : Int) = g at *
  clear b_a b_b b_c
  go_enter Tryd.func5, Tryd.ntmps5
  go_wp2_with fail
  refine GC.out.mono ?_
  rintro e v1 ⟨A1, n1, c1, rfl, h_g, hW⟩
  clear GC
  have s_g : n1 ≤ 8 := h_g.short b_g.out
  replace h_a := h_a.below hW
  replace h_b := h_b.below hW
  replace h_c := h_c.below hW
  go_wp2_with fail
  refine (mul_n h_a h_c (by omega) (by omega)).mono ?_
  rintro e v2 ⟨A2, n2, c2, rfl, h_u, hB⟩
  have s_u : n2 ≤ 16 := h_u.short b_u.out
  replace h_a := h_a.below hB
  replace h_b := h_b.below hB
  replace h_c := h_c.below hB
  replace h_g := h_g.below hB
  replace hW := nextB hW hB
  clear hB
  go_wp2_with fail
  refine (mul_n h_b h_c (by omega) (by omega)).mono ?_
  rintro e v3 ⟨A3, n3, c3, rfl, h_v, hB⟩
  have s_v : n3 ≤ 16 := h_v.short b_v.out
  replace h_a := h_a.below hB
  replace h_b := h_b.below hB
  replace h_c := h_c.below hB
  replace h_g := h_g.below hB
  replace h_u := h_u.below hB
  replace hW := nextB hW hB
  clear hB
  have GC2 := Lib.hid (gcd_n (hl.below hW) h_u.num h_v.num (by omega) (by omega))
  go_wp2_with fail
  refine GC2.out.mono ?_
  rintro e v4 ⟨A4, n4, c4, rfl, h_k, hB⟩
  replace h_k := h_k.cast HE.out
  have s_k : n4 ≤ 16 := h_k.short b_p.out
  replace h_a := h_a.below hB
  replace h_b := h_b.below hB
  replace h_c := h_c.below hB
  replace h_g := h_g.below hB
  replace hW := nextB hW hB
  clear hB h_u h_v s_u s_v GC2
  go_wp2_with fail
  refine (mul_n h_g.num h_c (by omega) (by omega)).mono ?_
  rintro e v5 ⟨A5, n5, c5, rfl, h_p, hB⟩
  have s_p : n5 ≤ 16 := h_p.short b_p.out
  replace h_a := h_a.below hB
  replace h_b := h_b.below hB
  replace h_g := h_g.below hB
  replace h_k := h_k.below hB
  replace hW := nextB hW hB
  clear hB h_c
  go_wp2_with fail
  refine (same_n h_k h_p rfl).mono ?_
  rintro e w' ⟨rfl, k6, rfl⟩
  replace h_a := h_a.drewN k6
  replace h_b := h_b.drewN k6
  replace h_g := h_g.drewN k6
  replace hW := drewN_below hW k6
  clear h_k h_p s_k s_p b_u b_v b_p
  generalize v5.drewN k6 = v6 at *
  have hgi := h_g.len_iff
  by_cases hg0 : n1 = 0
  · obtain ⟨rfl, rfl⟩ := HZ.out (hgi.1 hg0)
    subst hg0
    clear hgi
    go_wp2_with fail
    refine (refTrim_n h_a (by omega)).mono ?_
    rintro e v7 ⟨A7, n7, c7, rfl, h_t, hB⟩
    obtain rfl : n7 = 0 := h_t.zero_len
    replace h_b := h_b.below hB
    replace hW := nextB hW hB
    clear hB h_t
    go_wp2_with fail
    refine (refTrim_n h_b (by omega)).mono ?_
    rintro e v8 ⟨A8, n8, c8, rfl, h_t, hB⟩
    obtain rfl : n8 = 0 := h_t.zero_len
    replace hW := nextB hW hB
    clear hB h_t
    go_wp2_with fail
    refine (awake_any _).mono ?_
    rintro e w' ⟨rfl, hB⟩
    replace hW := nextB hW hB
    go_wp2
    go_ret
    exact ⟨rfl, hW⟩
  · have hgne : Hid (g ≠ 0) := by show _ ≠ _; omega
    have hz : ((n1 : Int) == 0) = false := by simp; omega
    clear hgi
    go_wp2_with fail
    refine (divMod_n h_a h_g.num (by omega) hgne.out).mono ?_
    rintro e v7 ⟨A7, n7, c7, B7, m7, d7, rfl, h_q, h_r, hB⟩
    obtain rfl : m7 = 0 := h_r.len_iff.2 HX.out
    replace h_a := h_a.below hB
    replace h_b := h_b.below hB
    replace h_g := h_g.below hB
    replace hW := nextB hW hB
    clear hB h_q h_r
    go_wp2_with fail
    refine (divMod_n h_b h_g.num (by omega) hgne.out).mono ?_
    rintro e v8 ⟨A8, n8, c8, B8, m8, d8, rfl, h_q, h_r, hB⟩
    obtain rfl : m8 = 0 := h_r.len_iff.2 HY.out
    replace h_a := h_a.below hB
    replace h_b := h_b.below hB
    replace h_g := h_g.below hB
    replace hW := nextB hW hB
    clear hB h_q h_r
    go_wp2_with fail
    go_loopw [14] (fun dv wr => ∃ d : Nat, dv = .int .u32 (d : Int) ∧ (2 ≤ d ∧ d ≤ 40) ∧ Below v8.heap.size v8 wr) (fun dv _ => 40 - (intOf dv).toNat)
    case atStart => exact ⟨2, rfl, by omega, Below.refl _ _⟩
    case round =>
      obtain ⟨d, rfl, ⟨hd0, hd1⟩, hR⟩ := hrel
      replace h_a := h_a.below hR
      replace h_b := h_b.below hR
      replace h_g := h_g.below hR
      by_cases hd : d < 40
      · have D1 := Lib.hid (lit1 wr (d : Int) (by omega) (by omega))
        have vd : Hid (val [(d : Int)] = (d : Int)) := by show _ = _; simp [val]
        have hB1 := (Below.refl wr.heap.size wr).alloc (Nat.le_refl _) (.cells #[.int .u32 (d : Int)] 42)
        have R1 := Lib.hid (refDiv1_n (h_a.below hB1) ⟨_, D1.out, vd.out⟩ (by omega) (by omega) (by omega) (by omega))
        replace h_b := h_b.below hB1
        replace h_g := h_g.below hB1
        replace hR := nextB hR hB1
        clear hB1
        go_wp2_with fail
        refine R1.out.mono ?_
        rintro e w1 ⟨A9, n9, c9, X9, m9, d9, rfl, h_q, h_x, hB⟩
        have i_x := h_x.len_iff
        replace h_b := h_b.below hB
        replace h_g := h_g.below hB
        replace hR := nextB hR hB
        clear hB h_q h_x D1 R1 h_a
        have D1 := Lib.hid (lit1 w1 (d : Int) (by omega) (by omega))
        have hB1 := (Below.refl w1.heap.size w1).alloc (Nat.le_refl _) (.cells #[.int .u32 (d : Int)] 42)
        have R1 := Lib.hid (refDiv1_n (h_b.below hB1) ⟨_, D1.out, vd.out⟩ (by omega) (by omega) (by omega) (by omega))
        replace h_g := h_g.below hB1
        replace hR := nextB hR hB1
        clear hB1
        have IX := Lib.hid i_x
        clear i_x
        go_wp2_with fail
        refine R1.out.mono ?_
        rintro e w2 ⟨A10, n10, c10, X10, m10, d10, rfl, h_q, h_x, hB⟩
        have i_y := h_x.len_iff
        replace h_g := h_g.below hB
        replace hR := nextB hR hB
        clear hB h_q h_x D1 R1 h_b
        have D1 := Lib.hid (lit1 w2 (d : Int) (by omega) (by omega))
        have hB1 := (Below.refl w2.heap.size w2).alloc (Nat.le_refl _) (.cells #[.int .u32 (d : Int)] 42)
        have R1 := Lib.hid (refDiv1_n (h_g.num.below hB1) ⟨_, D1.out, vd.out⟩ (by omega) (by omega) (by omega) (by omega))
        replace hR := nextB hR hB1
        clear hB1
        have IY := Lib.hid i_y
        clear i_y
        go_wp2_with fail
        refine R1.out.mono ?_
        rintro e w3 ⟨A11, n11, c11, X11, m11, d11, rfl, h_q, h_x, hB⟩
        have i_z := h_x.len_iff
        replace hR := nextB hR hB
        clear hB h_q h_x D1 R1 h_g
        have key : (m9 = 0 ∧ m10 = 0) ↔ m11 = 0 := by
          rw [IX.out, IY.out, i_z]
          exact HD.out d (by omega)
        clear i_z IX IY
        by_cases e9 : m9 = 0
        · by_cases e10 : m10 = 0
          · have e11 : m11 = 0 := key.1 ⟨e9, e10⟩
            subst e9 e10 e11
            clear key
            go_wp2
            go_roundw
            case rel => exact ⟨d + 1, by go_num, by omega, hR⟩
            case measure => simp [intOf] <;> omega
          · have e11 : ¬ m11 = 0 := fun h => e10 (key.2 h).2
            have t10 : ((m10 : Int) == 0) = false := by simp; omega
            have t11 : ((m11 : Int) == 0) = false := by simp; omega
            subst e9
            clear key
            go_wp2
            go_roundw
            case rel => exact ⟨d + 1, by go_num, by omega, hR⟩
            case measure => simp [intOf] <;> omega
        · have e11 : ¬ m11 = 0 := fun h => e9 (key.2 h).1
          have t9 : ((m9 : Int) == 0) = false := by simp; omega
          have t11 : ((m11 : Int) == 0) = false := by simp; omega
          clear key
          go_wp2
          go_roundw
          case rel => exact ⟨d + 1, by go_num, by omega, hR⟩
          case measure => simp [intOf] <;> omega
      · go_wp2_with fail
        refine (awake_any _).mono ?_
        rintro e w' ⟨rfl, hB⟩
        replace hW := nextB hW (nextB hR hB)
        go_wp2
        go_ret
        exact ⟨rfl, hW⟩

theorem naturalCommon.walk {A B C : Option Addr} {a b m ca cb cm : Nat} {x y z : Int} {w : World} (hl : Laid w) (ha : Num w A a ca x) (hb : Num w B b cb y) (hc : Num w C m cm z) :
    Calls Tryd.prog 5 #[.slice A a ca, .slice B b cb, .slice C m cm] w (True1 w) := by
  by_cases h : a ≤ 8 ∧ b ≤ 8 ∧ m ≤ 8
  · exact common_short A B C a b m ca cb cm x y z w hl ha hb hc h.1 h.2.1 h.2.2
  · exact common_long A B C a b m ca cb cm w (by omega)

end Go.Proofs.YtdimajnadmkhiaaDoor
