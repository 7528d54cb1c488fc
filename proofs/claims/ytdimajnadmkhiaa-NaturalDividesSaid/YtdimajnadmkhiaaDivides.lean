/-
  exactppllaw01.NaturalDivides returns true for every two lists of limbs, whatever the memory.
-/
import Derived.Test.YtdimajnadmkhiaaDivN
namespace Go.Proofs.Ytdimajnadmkhiaa
open Go.RowKit

set_option maxHeartbeats 4000000 in
theorem divides_short (A B : Option Addr) (a b ca cb : Nat) (x y : Int) (w : World) (h_a : Num w A a ca x) (h_b : Num w B b cb y) (h0 : a ≤ 24) (h1 : b ≤ 24) (hy : y ≠ 0) :
    Calls Try.prog 4 #[.slice A a ca, .slice B b cb] w (True1 w) := by
  have hW := Below.refl w.heap.size w
  have z_a := h_a.nonneg
  have z_b := h_b.nonneg
  have b_a := pw_up h_a.lt h0
  have b_b := pw_up h_b.lt h1
  have s_a : a ≤ 900000 := by omega
  have s_b : b ≤ 900000 := by omega
  have y0 : 0 < y := by omega
  have e := Int.mul_ediv_add_emod x y
  rw [Int.mul_comm] at e
  have hr := Int.emod_nonneg x hy
  have hr2 := Int.emod_lt_of_pos x y0
  have hq := Int.ediv_le_self y z_a
  have hq0 := Int.ediv_nonneg z_a z_b
  have HQ : Hid (x / y < pw 24) := by show _ < _; omega
  have HR : Hid (x % y < pw 24) := by show _ < _; omega
  have HP : Hid (x / y * y < pw 24) := by show _ < _; omega
  have HE := Lib.hid e
  have HL := Lib.hid hr2
  have H0 := Lib.hid hy
  clear e hr hr2 hq hq0 hy y0
  go_enter Try.func4, Try.ntmps4
  go_wp2_with fail
  refine (short_yes _ _ _ _ h0).mono ?_
  rintro e w' ⟨rfl, rfl⟩
  go_wp2_with fail
  refine (short_yes _ _ _ _ h1).mono ?_
  rintro e w' ⟨rfl, rfl⟩
  go_wp2_with fail
  refine (divMod_n h_a h_b (by omega) H0.out).mono ?_
  rintro e v1 ⟨A1, n1, c1, B1, m1, d1, rfl, h_q, h_r, hB⟩
  have z_q : 0 ≤ (x / y) := h_q.num.nonneg
  have b_q : (x / y) < pw 24 := HQ.out
  have s_q : n1 ≤ 900000 := Nat.le_trans (h_q.short b_q) (by decide)
  have z_r : 0 ≤ (x % y) := h_r.num.nonneg
  have b_r : (x % y) < pw 24 := HR.out
  have s_r : m1 ≤ 900000 := Nat.le_trans (h_r.short b_r) (by decide)
  replace h_a := h_a.below hB
  replace h_b := h_b.below hB
  replace hW := nextB hW hB
  clear hB
  go_wp2_with fail
  refine (refTrim_n h_b (by omega)).mono ?_
  rintro e v2 ⟨A2, n2, c2, rfl, h_t, hB⟩
  have z_t : 0 ≤ y := h_t.num.nonneg
  have b_t : y < pw 24 := b_b
  have s_t : n2 ≤ 900000 := Nat.le_trans (h_t.short b_t) (by decide)
  replace h_a := h_a.below hB
  replace h_b := h_b.below hB
  replace h_q := h_q.below hB
  replace h_r := h_r.below hB
  replace hW := nextB hW hB
  clear hB
  have hpos := h_t.pos_len H0.out
  have hz : ((n2 : Int) == 0) = false := by simp; omega
  clear h_t z_t b_t s_t
  clear hpos
  go_wp2_with fail
  refine (mul_n h_q.num h_b (by omega) (by omega)).mono ?_
  rintro e v3 ⟨A3, n3, c3, rfl, h_p, hB⟩
  have z_p : 0 ≤ (x / y * y) := h_p.num.nonneg
  have b_p : (x / y * y) < pw 24 := HP.out
  have s_p : n3 ≤ 900000 := Nat.le_trans (h_p.short b_p) (by decide)
  replace h_a := h_a.below hB
  replace h_b := h_b.below hB
  replace h_q := h_q.below hB
  replace h_r := h_r.below hB
  replace hW := nextB hW hB
  clear hB
  go_wp2_with fail
  refine (add_n h_p.num h_r.num (by omega) (by omega)).mono ?_
  rintro e v4 ⟨A4, n4, c4, rfl, h_s, hB⟩
  have z_s : 0 ≤ (x / y * y + x % y) := h_s.num.nonneg
  have b_s : (x / y * y + x % y) < pw 24 := (by rw [HE.out]; exact b_a)
  have s_s : n4 ≤ 900000 := Nat.le_trans (h_s.short b_s) (by decide)
  replace h_a := h_a.below hB
  replace h_b := h_b.below hB
  replace h_q := h_q.below hB
  replace h_r := h_r.below hB
  replace h_p := h_p.below hB
  replace hW := nextB hW hB
  clear hB
  rw [HE.out] at h_s z_s b_s
  clear h_p z_p b_p s_p
  go_wp2_with fail
  refine (divMod_n h_s.num h_b (by omega) H0.out).mono ?_
  rintro e v5 ⟨A5, n5, c5, B5, m5, d5, rfl, h_u, h_v, hB⟩
  have z_u : 0 ≤ (x / y) := h_u.num.nonneg
  have b_u : (x / y) < pw 24 := HQ.out
  have s_u : n5 ≤ 900000 := Nat.le_trans (h_u.short b_u) (by decide)
  have z_v : 0 ≤ (x % y) := h_v.num.nonneg
  have b_v : (x % y) < pw 24 := HR.out
  have s_v : m5 ≤ 900000 := Nat.le_trans (h_v.short b_v) (by decide)
  replace h_a := h_a.below hB
  replace h_b := h_b.below hB
  replace h_q := h_q.below hB
  replace h_r := h_r.below hB
  replace h_s := h_s.below hB
  replace hW := nextB hW hB
  clear hB
  go_wp2_with fail
  refine (cmp_less h_r.num h_b HL.out).mono ?_
  rintro e w' ⟨rfl, k6, rfl⟩
  replace h_a := h_a.drewN k6
  replace h_b := h_b.drewN k6
  replace h_q := h_q.drewN k6
  replace h_r := h_r.drewN k6
  replace h_s := h_s.drewN k6
  replace h_u := h_u.drewN k6
  replace h_v := h_v.drewN k6
  replace hW := drewN_below hW k6
  go_wp2_with fail
  refine (trim_n h_a (by omega)).mono ?_
  rintro e v7 ⟨A7, n7, c7, rfl, h_t, hB⟩
  have z_t : 0 ≤ x := h_t.num.nonneg
  have b_t : x < pw 24 := b_a
  have s_t : n7 ≤ 900000 := Nat.le_trans (h_t.short b_t) (by decide)
  replace h_a := h_a.below hB
  replace h_b := h_b.below hB
  replace h_q := h_q.below hB
  replace h_r := h_r.below hB
  replace h_s := h_s.below hB
  replace h_u := h_u.below hB
  replace h_v := h_v.below hB
  replace hW := nextB hW hB
  clear hB
  go_wp2_with fail
  refine (same_n h_s h_t rfl).mono ?_
  rintro e w' ⟨rfl, k8, rfl⟩
  replace h_a := h_a.drewN k8
  replace h_b := h_b.drewN k8
  replace h_q := h_q.drewN k8
  replace h_r := h_r.drewN k8
  replace h_s := h_s.drewN k8
  replace h_u := h_u.drewN k8
  replace h_v := h_v.drewN k8
  replace h_t := h_t.drewN k8
  replace hW := drewN_below hW k8
  go_wp2_with fail
  refine (same_n h_u h_q rfl).mono ?_
  rintro e w' ⟨rfl, k9, rfl⟩
  replace h_a := h_a.drewN k9
  replace h_b := h_b.drewN k9
  replace h_q := h_q.drewN k9
  replace h_r := h_r.drewN k9
  replace h_s := h_s.drewN k9
  replace h_u := h_u.drewN k9
  replace h_v := h_v.drewN k9
  replace h_t := h_t.drewN k9
  replace hW := drewN_below hW k9
  simp only [World.drewN_drewN] at hW h_a h_b h_q h_r h_s h_u h_v h_t
  go_wp2_with fail
  refine (same_n h_v h_r rfl).mono ?_
  rintro e w' ⟨rfl, k10, rfl⟩
  replace h_a := h_a.drewN k10
  replace h_b := h_b.drewN k10
  replace h_q := h_q.drewN k10
  replace h_r := h_r.drewN k10
  replace h_s := h_s.drewN k10
  replace h_u := h_u.drewN k10
  replace h_v := h_v.drewN k10
  replace h_t := h_t.drewN k10
  replace hW := drewN_below hW k10
  simp only [World.drewN_drewN] at hW h_a h_b h_q h_r h_s h_u h_v h_t
  go_wp2_with fail
  refine (awake_any _).mono ?_
  rintro e w' ⟨rfl, hB⟩
  replace hW := nextB hW hB
  clear hB
  go_wp2
  go_ret
  exact ⟨rfl, hW⟩

set_option maxHeartbeats 2000000 in
theorem divides_zero (A B : Option Addr) (a b ca cb : Nat) (x y : Int) (w : World) (h_a : Num w A a ca x) (h_b : Num w B b cb y) (h0 : a ≤ 24) (h1 : b ≤ 24) (hy : y = 0) :
    Calls Try.prog 4 #[.slice A a ca, .slice B b cb] w (True1 w) := by
  have hW := Below.refl w.heap.size w
  have z_a := h_a.nonneg
  have z_b := h_b.nonneg
  have b_a := pw_up h_a.lt h0
  have b_b := pw_up h_b.lt h1
  have s_a : a ≤ 900000 := by omega
  have s_b : b ≤ 900000 := by omega
  have H0 := Lib.hid hy
  clear hy
  go_enter Try.func4, Try.ntmps4
  go_wp2_with fail
  refine (short_yes _ _ _ _ h0).mono ?_
  rintro e w' ⟨rfl, rfl⟩
  go_wp2_with fail
  refine (short_yes _ _ _ _ h1).mono ?_
  rintro e w' ⟨rfl, rfl⟩
  go_wp2_with fail
  refine (divMod_zero_n h_a h_b H0.out).mono ?_
  rintro e w' ⟨rfl, rfl⟩
  go_wp2_with fail
  refine (refTrim_n h_b (by omega)).mono ?_
  rintro e v1 ⟨A1, n1, c1, rfl, h_t, hB⟩
  have z_t : 0 ≤ y := h_t.num.nonneg
  have b_t : y < pw 24 := b_b
  have s_t : n1 ≤ 900000 := Nat.le_trans (h_t.short b_t) (by decide)
  replace h_a := h_a.below hB
  replace h_b := h_b.below hB
  replace hW := nextB hW hB
  clear hB
  rw [H0.out] at h_t
  obtain rfl : n1 = 0 := h_t.zero_len
  clear h_t z_t b_t s_t
  go_wp2_with fail
  refine (awake_any _).mono ?_
  rintro e w' ⟨rfl, hB⟩
  replace hW := nextB hW hB
  clear hB
  go_wp2
  go_ret
  exact ⟨rfl, hW⟩

theorem divides_long (A B : Option Addr) (a b ca cb : Nat) (w : World) (h : 24 < a ∨ 24 < b) :
    Calls Try.prog 4 #[.slice A a ca, .slice B b cb] w (True1 w) := by
  by_cases h0 : a ≤ 24
  · have h2 : 24 < b := by omega
    go_enter Try.func4, Try.ntmps4
    go_wp2_with fail
    refine (short_yes _ _ _ _ h0).mono ?_
    rintro e w' ⟨rfl, rfl⟩
    go_wp2_with fail
    refine (short_no _ _ _ _ h2).mono ?_
    rintro e w' ⟨rfl, rfl⟩
    go_wp2_with fail
    refine (awake_any _).mono ?_
    rintro e w' ⟨rfl, hB⟩
    go_wp2
    go_ret
    exact ⟨rfl, hB⟩
  · have h2 : 24 < a := by omega
    go_enter Try.func4, Try.ntmps4
    go_wp2_with fail
    refine (short_no _ _ _ _ h2).mono ?_
    rintro e w' ⟨rfl, rfl⟩
    go_wp2_with fail
    refine (awake_any _).mono ?_
    rintro e w' ⟨rfl, hB⟩
    go_wp2
    go_ret
    exact ⟨rfl, hB⟩

theorem naturalDivides.walk {A B : Option Addr} {a b ca cb : Nat} {x y : Int} {w : World} (ha : Num w A a ca x) (hb : Num w B b cb y) :
    Calls Try.prog 4 #[.slice A a ca, .slice B b cb] w (True1 w) := by
  by_cases h : a ≤ 24 ∧ b ≤ 24
  · by_cases hy : y = 0
    · exact divides_zero A B a b ca cb x y w ha hb h.1 h.2 hy
    · exact divides_short A B a b ca cb x y w ha hb h.1 h.2 hy
  · exact divides_long A B a b ca cb w (by omega)

end Go.Proofs.Ytdimajnadmkhiaa
