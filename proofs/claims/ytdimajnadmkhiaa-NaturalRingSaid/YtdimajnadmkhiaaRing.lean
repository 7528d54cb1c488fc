/-
  exactppllaw01.NaturalRing returns true for every three lists of limbs, whatever the memory.
-/
import Derived.Test.YtdimajnadmkhiaaSame
namespace Go.Proofs.Ytdimajnadmkhiaa
open Go.RowKit

set_option maxHeartbeats 4000000 in
theorem ring_short (A B C : Option Addr) (a b c ca cb cc : Nat) (x y z : Int) (w : World) (h_a : Num w A a ca x) (h_b : Num w B b cb y) (h_c : Num w C c cc z) (h0 : a ≤ 24) (h1 : b ≤ 24) (h2 : c ≤ 24) :
    Calls Try.prog 3 #[.slice A a ca, .slice B b cb, .slice C c cc] w (True1 w) := by
  have hW := Below.refl w.heap.size w
  have z_a := h_a.nonneg
  have z_b := h_b.nonneg
  have z_c := h_c.nonneg
  have b_a := pw_up h_a.lt h0
  have b_b := pw_up h_b.lt h1
  have b_c := pw_up h_c.lt h2
  have s_a : a ≤ 1000000 := by omega
  have s_b : b ≤ 1000000 := by omega
  have s_c : c ≤ 1000000 := by omega
  go_enter Try.func3, Try.ntmps3
  go_wp2_with fail
  refine (short_yes _ _ _ _ h0).mono ?_
  rintro e w' ⟨rfl, rfl⟩
  go_wp2_with fail
  refine (short_yes _ _ _ _ h1).mono ?_
  rintro e w' ⟨rfl, rfl⟩
  go_wp2_with fail
  refine (short_yes _ _ _ _ h2).mono ?_
  rintro e w' ⟨rfl, rfl⟩
  go_wp2_with fail
  refine (add_n h_a h_b s_a s_b).mono ?_
  rintro e v1 ⟨A1, n1, c1, rfl, h_ab, hB⟩
  have z_ab : 0 ≤ (x + y) := h_ab.num.nonneg
  have b_ab : (x + y) < pw 25 := pw_sum (pw_up b_a (by decide)) (pw_up b_b (by decide))
  have s_ab : n1 ≤ 1000000 := Nat.le_trans (h_ab.short b_ab) (by decide)
  replace h_a := h_a.below hB
  replace h_b := h_b.below hB
  replace h_c := h_c.below hB
  replace hW := nextB hW hB
  clear hB
  go_wp2_with fail
  refine (sub_n h_ab.num h_b s_ab (by omega)).mono ?_
  rintro e v2 ⟨A2, n2, c2, rfl, h_s, hB⟩
  have z_s : 0 ≤ ((x + y) - y) := h_s.num.nonneg
  have b_s : ((x + y) - y) < pw 25 := (by omega)
  have s_s : n2 ≤ 1000000 := Nat.le_trans (h_s.short b_s) (by decide)
  replace h_a := h_a.below hB
  replace h_b := h_b.below hB
  replace h_c := h_c.below hB
  replace h_ab := h_ab.below hB
  replace hW := nextB hW hB
  clear hB
  go_wp2_with fail
  refine (trim_n h_a s_a).mono ?_
  rintro e v3 ⟨A3, n3, c3, rfl, h_t, hB⟩
  have z_t : 0 ≤ x := h_t.num.nonneg
  have b_t : x < pw 24 := b_a
  have s_t : n3 ≤ 1000000 := Nat.le_trans (h_t.short b_t) (by decide)
  replace h_a := h_a.below hB
  replace h_b := h_b.below hB
  replace h_c := h_c.below hB
  replace h_ab := h_ab.below hB
  replace h_s := h_s.below hB
  replace hW := nextB hW hB
  clear hB
  go_wp2_with fail
  refine (same_n h_s h_t (by omega)).mono ?_
  rintro e w' ⟨rfl, k4, rfl⟩
  replace h_a := h_a.drewN k4
  replace h_b := h_b.drewN k4
  replace h_c := h_c.drewN k4
  replace h_ab := h_ab.drewN k4
  replace h_s := h_s.drewN k4
  replace h_t := h_t.drewN k4
  replace hW := drewN_below hW k4
  clear h_s z_s b_s s_s
  clear h_t z_t b_t s_t
  clear h_ab z_ab b_ab s_ab
  go_wp2_with fail
  refine (add_n h_a h_b s_a s_b).mono ?_
  rintro e v5 ⟨A5, n5, c5, rfl, h_p, hB⟩
  have z_p : 0 ≤ (x + y) := h_p.num.nonneg
  have b_p : (x + y) < pw 25 := pw_sum (pw_up b_a (by decide)) (pw_up b_b (by decide))
  have s_p : n5 ≤ 1000000 := Nat.le_trans (h_p.short b_p) (by decide)
  replace h_a := h_a.below hB
  replace h_b := h_b.below hB
  replace h_c := h_c.below hB
  replace hW := nextB hW hB
  clear hB
  go_wp2_with fail
  refine (add_n h_b h_a s_b s_a).mono ?_
  rintro e v6 ⟨A6, n6, c6, rfl, h_q, hB⟩
  have z_q : 0 ≤ (y + x) := h_q.num.nonneg
  have b_q : (y + x) < pw 25 := pw_sum (pw_up b_b (by decide)) (pw_up b_a (by decide))
  have s_q : n6 ≤ 1000000 := Nat.le_trans (h_q.short b_q) (by decide)
  replace h_a := h_a.below hB
  replace h_b := h_b.below hB
  replace h_c := h_c.below hB
  replace h_p := h_p.below hB
  replace hW := nextB hW hB
  clear hB
  go_wp2_with fail
  refine (same_n h_p h_q (by omega)).mono ?_
  rintro e w' ⟨rfl, k7, rfl⟩
  replace h_a := h_a.drewN k7
  replace h_b := h_b.drewN k7
  replace h_c := h_c.drewN k7
  replace h_p := h_p.drewN k7
  replace h_q := h_q.drewN k7
  replace hW := drewN_below hW k7
  clear h_p z_p b_p s_p
  clear h_q z_q b_q s_q
  go_wp2_with fail
  refine (mul_n h_a h_b s_a s_b).mono ?_
  rintro e v8 ⟨A8, n8, c8, rfl, h_p, hB⟩
  have z_p : 0 ≤ (x * y) := h_p.num.nonneg
  have b_p : (x * y) < pw 48 := pw_prod z_a z_b b_a b_b
  have s_p : n8 ≤ 1000000 := Nat.le_trans (h_p.short b_p) (by decide)
  replace h_a := h_a.below hB
  replace h_b := h_b.below hB
  replace h_c := h_c.below hB
  replace hW := nextB hW hB
  clear hB
  go_wp2_with fail
  refine (mul_n h_b h_a s_b s_a).mono ?_
  rintro e v9 ⟨A9, n9, c9, rfl, h_q, hB⟩
  have z_q : 0 ≤ (y * x) := h_q.num.nonneg
  have b_q : (y * x) < pw 48 := pw_prod z_b z_a b_b b_a
  have s_q : n9 ≤ 1000000 := Nat.le_trans (h_q.short b_q) (by decide)
  replace h_a := h_a.below hB
  replace h_b := h_b.below hB
  replace h_c := h_c.below hB
  replace h_p := h_p.below hB
  replace hW := nextB hW hB
  clear hB
  go_wp2_with fail
  refine (same_n h_p h_q (Int.mul_comm _ _)).mono ?_
  rintro e w' ⟨rfl, k10, rfl⟩
  replace h_a := h_a.drewN k10
  replace h_b := h_b.drewN k10
  replace h_c := h_c.drewN k10
  replace h_p := h_p.drewN k10
  replace h_q := h_q.drewN k10
  replace hW := drewN_below hW k10
  clear h_p z_p b_p s_p
  clear h_q z_q b_q s_q
  go_wp2_with fail
  refine (add_n h_a h_b s_a s_b).mono ?_
  rintro e v11 ⟨A11, n11, c11, rfl, h_p, hB⟩
  have z_p : 0 ≤ (x + y) := h_p.num.nonneg
  have b_p : (x + y) < pw 25 := pw_sum (pw_up b_a (by decide)) (pw_up b_b (by decide))
  have s_p : n11 ≤ 1000000 := Nat.le_trans (h_p.short b_p) (by decide)
  replace h_a := h_a.below hB
  replace h_b := h_b.below hB
  replace h_c := h_c.below hB
  replace hW := nextB hW hB
  clear hB
  go_wp2_with fail
  refine (add_n h_p.num h_c s_p s_c).mono ?_
  rintro e v12 ⟨A12, n12, c12, rfl, h_q, hB⟩
  have z_q : 0 ≤ ((x + y) + z) := h_q.num.nonneg
  have b_q : ((x + y) + z) < pw 26 := pw_sum (pw_up b_p (by decide)) (pw_up b_c (by decide))
  have s_q : n12 ≤ 1000000 := Nat.le_trans (h_q.short b_q) (by decide)
  replace h_a := h_a.below hB
  replace h_b := h_b.below hB
  replace h_c := h_c.below hB
  replace h_p := h_p.below hB
  replace hW := nextB hW hB
  clear hB
  go_wp2_with fail
  refine (add_n h_b h_c s_b s_c).mono ?_
  rintro e v13 ⟨A13, n13, c13, rfl, h_r, hB⟩
  have z_r : 0 ≤ (y + z) := h_r.num.nonneg
  have b_r : (y + z) < pw 25 := pw_sum (pw_up b_b (by decide)) (pw_up b_c (by decide))
  have s_r : n13 ≤ 1000000 := Nat.le_trans (h_r.short b_r) (by decide)
  replace h_a := h_a.below hB
  replace h_b := h_b.below hB
  replace h_c := h_c.below hB
  replace h_p := h_p.below hB
  replace h_q := h_q.below hB
  replace hW := nextB hW hB
  clear hB
  go_wp2_with fail
  refine (add_n h_a h_r.num s_a s_r).mono ?_
  rintro e v14 ⟨A14, n14, c14, rfl, h_s, hB⟩
  have z_s : 0 ≤ (x + (y + z)) := h_s.num.nonneg
  have b_s : (x + (y + z)) < pw 26 := pw_sum (pw_up b_a (by decide)) (pw_up b_r (by decide))
  have s_s : n14 ≤ 1000000 := Nat.le_trans (h_s.short b_s) (by decide)
  replace h_a := h_a.below hB
  replace h_b := h_b.below hB
  replace h_c := h_c.below hB
  replace h_p := h_p.below hB
  replace h_q := h_q.below hB
  replace h_r := h_r.below hB
  replace hW := nextB hW hB
  clear hB
  go_wp2_with fail
  refine (same_n h_q h_s (by omega)).mono ?_
  rintro e w' ⟨rfl, k15, rfl⟩
  replace h_a := h_a.drewN k15
  replace h_b := h_b.drewN k15
  replace h_c := h_c.drewN k15
  replace h_p := h_p.drewN k15
  replace h_q := h_q.drewN k15
  replace h_r := h_r.drewN k15
  replace h_s := h_s.drewN k15
  replace hW := drewN_below hW k15
  clear h_p z_p b_p s_p
  clear h_q z_q b_q s_q
  clear h_r z_r b_r s_r
  clear h_s z_s b_s s_s
  go_wp2_with fail
  refine (mul_n h_a h_b s_a s_b).mono ?_
  rintro e v16 ⟨A16, n16, c16, rfl, h_p, hB⟩
  have z_p : 0 ≤ (x * y) := h_p.num.nonneg
  have b_p : (x * y) < pw 48 := pw_prod z_a z_b b_a b_b
  have s_p : n16 ≤ 1000000 := Nat.le_trans (h_p.short b_p) (by decide)
  replace h_a := h_a.below hB
  replace h_b := h_b.below hB
  replace h_c := h_c.below hB
  replace hW := nextB hW hB
  clear hB
  go_wp2_with fail
  refine (mul_n h_p.num h_c s_p s_c).mono ?_
  rintro e v17 ⟨A17, n17, c17, rfl, h_q, hB⟩
  have z_q : 0 ≤ ((x * y) * z) := h_q.num.nonneg
  have b_q : ((x * y) * z) < pw 72 := pw_prod z_p z_c b_p b_c
  have s_q : n17 ≤ 1000000 := Nat.le_trans (h_q.short b_q) (by decide)
  replace h_a := h_a.below hB
  replace h_b := h_b.below hB
  replace h_c := h_c.below hB
  replace h_p := h_p.below hB
  replace hW := nextB hW hB
  clear hB
  go_wp2_with fail
  refine (mul_n h_b h_c s_b s_c).mono ?_
  rintro e v18 ⟨A18, n18, c18, rfl, h_r, hB⟩
  have z_r : 0 ≤ (y * z) := h_r.num.nonneg
  have b_r : (y * z) < pw 48 := pw_prod z_b z_c b_b b_c
  have s_r : n18 ≤ 1000000 := Nat.le_trans (h_r.short b_r) (by decide)
  replace h_a := h_a.below hB
  replace h_b := h_b.below hB
  replace h_c := h_c.below hB
  replace h_p := h_p.below hB
  replace h_q := h_q.below hB
  replace hW := nextB hW hB
  clear hB
  go_wp2_with fail
  refine (mul_n h_a h_r.num s_a s_r).mono ?_
  rintro e v19 ⟨A19, n19, c19, rfl, h_s, hB⟩
  have z_s : 0 ≤ (x * (y * z)) := h_s.num.nonneg
  have b_s : (x * (y * z)) < pw 72 := pw_prod z_a z_r b_a b_r
  have s_s : n19 ≤ 1000000 := Nat.le_trans (h_s.short b_s) (by decide)
  replace h_a := h_a.below hB
  replace h_b := h_b.below hB
  replace h_c := h_c.below hB
  replace h_p := h_p.below hB
  replace h_q := h_q.below hB
  replace h_r := h_r.below hB
  replace hW := nextB hW hB
  clear hB
  go_wp2_with fail
  refine (same_n h_q h_s (Int.mul_assoc _ _ _)).mono ?_
  rintro e w' ⟨rfl, k20, rfl⟩
  replace h_a := h_a.drewN k20
  replace h_b := h_b.drewN k20
  replace h_c := h_c.drewN k20
  replace h_p := h_p.drewN k20
  replace h_q := h_q.drewN k20
  replace h_r := h_r.drewN k20
  replace h_s := h_s.drewN k20
  replace hW := drewN_below hW k20
  clear h_p z_p b_p s_p
  clear h_q z_q b_q s_q
  clear h_r z_r b_r s_r
  clear h_s z_s b_s s_s
  go_wp2_with fail
  refine (add_n h_b h_c s_b s_c).mono ?_
  rintro e v21 ⟨A21, n21, c21, rfl, h_p, hB⟩
  have z_p : 0 ≤ (y + z) := h_p.num.nonneg
  have b_p : (y + z) < pw 25 := pw_sum (pw_up b_b (by decide)) (pw_up b_c (by decide))
  have s_p : n21 ≤ 1000000 := Nat.le_trans (h_p.short b_p) (by decide)
  replace h_a := h_a.below hB
  replace h_b := h_b.below hB
  replace h_c := h_c.below hB
  replace hW := nextB hW hB
  clear hB
  go_wp2_with fail
  refine (mul_n h_a h_p.num s_a s_p).mono ?_
  rintro e v22 ⟨A22, n22, c22, rfl, h_q, hB⟩
  have z_q : 0 ≤ (x * (y + z)) := h_q.num.nonneg
  have b_q : (x * (y + z)) < pw 49 := pw_prod z_a z_p b_a b_p
  have s_q : n22 ≤ 1000000 := Nat.le_trans (h_q.short b_q) (by decide)
  replace h_a := h_a.below hB
  replace h_b := h_b.below hB
  replace h_c := h_c.below hB
  replace h_p := h_p.below hB
  replace hW := nextB hW hB
  clear hB
  go_wp2_with fail
  refine (mul_n h_a h_b s_a s_b).mono ?_
  rintro e v23 ⟨A23, n23, c23, rfl, h_r, hB⟩
  have z_r : 0 ≤ (x * y) := h_r.num.nonneg
  have b_r : (x * y) < pw 48 := pw_prod z_a z_b b_a b_b
  have s_r : n23 ≤ 1000000 := Nat.le_trans (h_r.short b_r) (by decide)
  replace h_a := h_a.below hB
  replace h_b := h_b.below hB
  replace h_c := h_c.below hB
  replace h_p := h_p.below hB
  replace h_q := h_q.below hB
  replace hW := nextB hW hB
  clear hB
  go_wp2_with fail
  refine (mul_n h_a h_c s_a s_c).mono ?_
  rintro e v24 ⟨A24, n24, c24, rfl, h_s, hB⟩
  have z_s : 0 ≤ (x * z) := h_s.num.nonneg
  have b_s : (x * z) < pw 48 := pw_prod z_a z_c b_a b_c
  have s_s : n24 ≤ 1000000 := Nat.le_trans (h_s.short b_s) (by decide)
  replace h_a := h_a.below hB
  replace h_b := h_b.below hB
  replace h_c := h_c.below hB
  replace h_p := h_p.below hB
  replace h_q := h_q.below hB
  replace h_r := h_r.below hB
  replace hW := nextB hW hB
  clear hB
  go_wp2_with fail
  refine (add_n h_r.num h_s.num s_r s_s).mono ?_
  rintro e v25 ⟨A25, n25, c25, rfl, h_t, hB⟩
  have z_t : 0 ≤ ((x * y) + (x * z)) := h_t.num.nonneg
  have b_t : ((x * y) + (x * z)) < pw 49 := pw_sum (pw_up b_r (by decide)) (pw_up b_s (by decide))
  have s_t : n25 ≤ 1000000 := Nat.le_trans (h_t.short b_t) (by decide)
  replace h_a := h_a.below hB
  replace h_b := h_b.below hB
  replace h_c := h_c.below hB
  replace h_p := h_p.below hB
  replace h_q := h_q.below hB
  replace h_r := h_r.below hB
  replace h_s := h_s.below hB
  replace hW := nextB hW hB
  clear hB
  go_wp2_with fail
  refine (same_n h_q h_t (Int.mul_add _ _ _)).mono ?_
  rintro e w' ⟨rfl, k26, rfl⟩
  replace h_a := h_a.drewN k26
  replace h_b := h_b.drewN k26
  replace h_c := h_c.drewN k26
  replace h_p := h_p.drewN k26
  replace h_q := h_q.drewN k26
  replace h_r := h_r.drewN k26
  replace h_s := h_s.drewN k26
  replace h_t := h_t.drewN k26
  replace hW := drewN_below hW k26
  clear h_p z_p b_p s_p
  clear h_q z_q b_q s_q
  clear h_r z_r b_r s_r
  clear h_s z_s b_s s_s
  clear h_t z_t b_t s_t
  go_wp2_with fail
  refine (awake_any _).mono ?_
  rintro e w' ⟨rfl, hB⟩
  replace hW := nextB hW hB
  clear hB
  go_wp2
  go_ret
  exact ⟨rfl, hW⟩

theorem ring_long (A B C : Option Addr) (a b c ca cb cc : Nat) (w : World) (h : 24 < a ∨ 24 < b ∨ 24 < c) :
    Calls Try.prog 3 #[.slice A a ca, .slice B b cb, .slice C c cc] w (True1 w) := by
  by_cases h0 : a ≤ 24
  · by_cases h1 : b ≤ 24
    · have h2 : 24 < c := by omega
      go_enter Try.func3, Try.ntmps3
      go_wp2_with fail
      refine (short_yes _ _ _ _ h0).mono ?_
      rintro e w' ⟨rfl, rfl⟩
      go_wp2_with fail
      refine (short_yes _ _ _ _ h1).mono ?_
      rintro e w' ⟨rfl, rfl⟩
      go_wp2_with fail
      refine (short_no _ _ _ _ h2).mono ?_
      rintro e w' ⟨rfl, rfl⟩
      go_wp2_with fail
      refine (awake_any _).mono ?_
      rintro e w' ⟨rfl, hB⟩
      go_wp2
      go_ret
      exact ⟨rfl, hB⟩
    · have h2 : 24 < b := by omega
      go_enter Try.func3, Try.ntmps3
      go_wp2_with fail
      refine (short_yes _ _ _ _ h0).mono ?_
      rintro e w' ⟨rfl, rfl⟩
      go_wp2_with fail
      refine (short_no _ _ _ _ h2).mono ?_
      rintro e w' ⟨rfl, rfl⟩
      go_wp2_with fail
      refine (awake_any _).mono ?_
      rintro e w' ⟨rfl, hB⟩
      go_wp2
      go_ret
      exact ⟨rfl, hB⟩
  · have h2 : 24 < a := by omega
    go_enter Try.func3, Try.ntmps3
    go_wp2_with fail
    refine (short_no _ _ _ _ h2).mono ?_
    rintro e w' ⟨rfl, rfl⟩
    go_wp2_with fail
    refine (awake_any _).mono ?_
    rintro e w' ⟨rfl, hB⟩
    go_wp2
    go_ret
    exact ⟨rfl, hB⟩

theorem naturalRing.walk {A B C : Option Addr} {a b c ca cb cc : Nat} {x y z : Int} {w : World} (ha : Num w A a ca x) (hb : Num w B b cb y) (hc : Num w C c cc z) :
    Calls Try.prog 3 #[.slice A a ca, .slice B b cb, .slice C c cc] w (True1 w) := by
  by_cases h : a ≤ 24 ∧ b ≤ 24 ∧ c ≤ 24
  · exact ring_short A B C a b c ca cb cc x y z w ha hb hc h.1 h.2.1 h.2.2
  · exact ring_long A B C a b c ca cb cc w (by omega)

end Go.Proofs.Ytdimajnadmkhiaa
