/-
  rational's negated, inverse, sign, magnitude.
  rational.Norm, Add, Sub, Mul, Div, Neg, Int, Make, New, Cmp, Sign, Equal: by the rational numbers that the arguments denote.
  rational.Make, New, Div.
  rational.Div: the quotient, or ErrDivide.
-/
import Derived.Test.YtebbnmjmjoklmaaGreatDoorRatOps
namespace Go.Proofs.YtebbnmjmjoklmaaGreatDoor
open Go.RowKit
set_option maxRecDepth 20000

theorem negated_any {w : World} {s : Bool} {A B : Option Addr} {n c m d k : Nat} {q : Rat} (h : Frac w s A n c B m d q k) :
    Calls Tryz.prog 66 #[.agg #[.bool s, .slice A n c, .slice B m d]] w (GivesF w (-q) k) := by
  obtain ⟨x, y, hx, hy, y0, hq, hn, hm⟩ := h
  have HQ := Lib.hid hq
  clear hq
  have hb2 := ((Below.refl w.heap.size w).alloc (Nat.le_refl _) (.cells #[.bool (!s), .slice A n c, .slice B m d] 101)).alloc (by simp) (.cells #[.bool (!s), .slice A n c, .slice B m d] 101)
  go_enter Tryz.func66, Tryz.ntmps66
  go_wp2
  exact bodyPost_ret (v := .agg #[.bool (!s), .slice A n c, .slice B m d]) (by simp [results, Tryz.results66, go_sem]) rfl ⟨_, _, _, _, _, _, _, rfl, ⟨x, y, hx.below hb2, hy.below hb2, y0, by rw [rat_opp, HQ.out], hn, hm⟩, hb2⟩

/-- The sign of a number: -1, 0 or 1. -/
def sgnR (q : Rat) : Int := cmpR q 0
def IntB (w : World) (z : Int) (e : Ending) (w' : World) : Prop := e = .returned (.int .i64 z) ∧ Below w.heap.size w w'
theorem sign_any {w : World} {s : Bool} {A B : Option Addr} {n c m d k : Nat} {q : Rat} (h : Frac w s A n c B m d q k) :
    Calls Tryz.prog 110 #[.agg #[.bool s, .slice A n c, .slice B m d]] w (IntB w (sgnR q)) := by
  obtain ⟨x, y, hx, hy, y0, hq, hn, hm⟩ := h
  have x0 := hx.nonneg
  have hb1 := (Below.refl w.heap.size w).alloc (Nat.le_refl _) (.cells #[.bool s, .slice A n c, .slice B m d] 101)
  have HZ := isZero_b (hx.below hb1)
  by_cases h0 : x = 0
  · have HS : Hid (sgnR q = 0) := by
      show _ = _
      rw [← hq, h0, rat_zero]; exact cmpR_eq rfl
    rw [show decide (x = 0) = true from decide_eq_true h0] at HZ
    have HZ' := Lib.hid HZ
    clear HZ h0 hq
    go_enter Tryz.func110, Tryz.ntmps110
    go_wp2_with fail
    refine HZ'.out.mono ?_
    rintro e w' ⟨rfl, hB⟩
    go_wp2
    go_ret
    exact ⟨ret_int HS.out.symm, nextB hb1 hB⟩
  · rw [show decide (x = 0) = false from decide_eq_false h0] at HZ
    have HZ' := Lib.hid HZ
    have hneg := rat_neg_iff s x0 y0
    have hpos := rat_pos_iff s x0 y0
    rw [hq] at hneg hpos
    cases s
    · have HS : Hid (sgnR q = 1) := cmpR_gt (hpos.2 ⟨rfl, h0⟩)
      clear HZ h0 hq hneg hpos
      go_enter Tryz.func110, Tryz.ntmps110
      go_wp2_with fail
      refine HZ'.out.mono ?_
      rintro e w' ⟨rfl, hB⟩
      have c0 := hB.cell (p := ⟨w.heap.size, 0, none⟩) (by simp)
      go_wp2
      go_ret
      exact ⟨ret_int HS.out.symm, nextB hb1 hB⟩
    · have HS : Hid (sgnR q = -1) := cmpR_lt (hneg.2 ⟨rfl, h0⟩)
      clear HZ h0 hq hneg hpos
      go_enter Tryz.func110, Tryz.ntmps110
      go_wp2_with fail
      refine HZ'.out.mono ?_
      rintro e w' ⟨rfl, hB⟩
      have c0 := hB.cell (p := ⟨w.heap.size, 0, none⟩) (by simp)
      go_wp2
      go_ret
      exact ⟨ret_int HS.out.symm, nextB hb1 hB⟩

/-- The two limbs of an int's absolute value, in a block of their own. -/
def MagPost (x : Int) (w : World) (e : Ending) (w' : World) : Prop := ∃ A, e = .returned (.slice A 2 2) ∧ Num w' A 2 2 x ∧ Off w.heap.size A ∧ Below w.heap.size w w'
theorem mag_end (w : World) (x : Int) (x0 : 0 ≤ x) (x1 : x < 18446744073709551616) : MagPost x w (.returned (.slice (some ⟨w.heap.size, 0, none⟩) 2 2)) (w.alloc (.cells #[.int .u32 (x % 4294967296), .int .u32 (x / 4294967296)] 71)) :=
  ⟨_, rfl, ⟨[x % 4294967296, x / 4294967296], lit2 w _ _ (by omega) (by omega) (by omega) (by omega), by simp [val]; omega⟩, fun a e => by injection e with e; rw [← e]; exact Nat.le_refl _, (Below.refl _ _).alloc (Nat.le_refl _) _⟩
theorem magnitude_any (n : Int) (w : World) (n0 : -9223372036854775808 ≤ n) (n1 : n ≤ 9223372036854775807) :
    Calls Tryz.prog 58 #[.int .i64 n] w (MagPost (n.natAbs : Int) w) := by
  by_cases h : n < 0
  · have e0 : (n.natAbs : Int) = -n := by omega
    rw [e0]
    have H := Lib.hid (mag_end w (-n) (by omega) (by omega))
    have e1 : IntKind.u64.wrap n = n + 18446744073709551616 := by rw [IntKind.wrap_u64]; omega
    have e2 : IntKind.u64.wrap (-(n + 18446744073709551616)) = -n := by rw [IntKind.wrap_u64]; omega
    clear e0
    go_enter Tryz.func58, Tryz.ntmps58
    go_wp2
    go_ret
    exact H.out
  · have e0 : (n.natAbs : Int) = n := by omega
    rw [e0]
    have H := Lib.hid (mag_end w n (by omega) (by omega))
    clear e0
    go_enter Tryz.func58, Tryz.ntmps58
    go_wp2
    go_ret
    exact H.out

theorem RN.far3 {w : World} {s : Bool} {A B : Option Addr} {n c m d k g : Nat} {q : Rat} (h : RN w s A n c B m d q k) (hA : 0 < n → ∀ a, A = some a → a.block ≠ g) (hB : 0 < m → ∀ a, B = some a → a.block ≠ g) (i j l : Nat) (u v z : Value) :
    RN (((w.setCell ⟨g, i, none⟩ u).setCell ⟨g, j, none⟩ v).setCell ⟨g, l, none⟩ z) s A n c B m d q k :=
  ⟨h.1, h.2.1.far3 hA _ _ _ _ _ _, h.2.2.1.far3 hB _ _ _ _ _ _, h.2.2.2⟩
/-- A normal form has been stored into the result's box, which is older than its slices. -/
theorem store_end {w wp w' : World} {s : Bool} {A B : Option Addr} {n c m d k g : Nat} {q : Rat} (h : RN w' s A n c B m d q k) (oA : Off wp.heap.size A) (oB : Off wp.heap.size B) (hg : g < wp.heap.size) (hw : w.heap.size ≤ g) (hk : Below w.heap.size w w') (u v z : Value) :
    RN (((w'.setCell ⟨g, 0, none⟩ u).setCell ⟨g, 1, none⟩ v).setCell ⟨g, 2, none⟩ z) s A n c B m d q k ∧ Off w.heap.size A ∧ Off w.heap.size B ∧
      Below w.heap.size w (((w'.setCell ⟨g, 0, none⟩ u).setCell ⟨g, 1, none⟩ v).setCell ⟨g, 2, none⟩ z) :=
  ⟨h.far3 (fun _ a e => by have := oA a e; omega) (fun _ a e => by have := oB a e; omega) _ _ _ _ _ _, oA.mono (by omega), oB.mono (by omega), ((hk.setCell hw _).setCell hw _).setCell hw _⟩

end Go.Proofs.YtebbnmjmjoklmaaGreatDoor

namespace Go.Proofs.YtebbnmjmjoklmaaGreatDoor
open Go.RowKit
set_option maxRecDepth 20000


set_option maxHeartbeats 4000000 in
theorem add_r {w : World} {s s' : Bool} {A B A' B' : Option Addr} {n c m d n' c' m' d' k k' : Nat} {q q' : Rat} (hl : Laid w) (h : Loose w s A n c B m d q k) (h' : Loose w s' A' n' c' B' m' d' q' k') (k0 : 1 ≤ k) (k1 : 1 ≤ k') (hk8 : k ≤ 300000) (hk9 : k' ≤ 300000) :
    Calls Tryz.prog 81 #[.agg #[.bool s, .slice A n c, .slice B m d], .agg #[.bool s', .slice A' n' c', .slice B' m' d']] w (GivesR w (q + q') (k + k' + 1)) := by
  obtain ⟨v1, hv1⟩ : ∃ v1, ((w.alloc (.cells #[.bool s, .slice A n c, .slice B m d] 42)).alloc (.cells #[.bool s', .slice A' n' c', .slice B' m' d'] 42)).alloc (.cells #[.bool false, .slice none 0 0, .slice none 0 0] 42) = v1 := ⟨_, rfl⟩
  obtain ⟨g, hg, hsz, hb1, hA, hB, hZ, hF⟩ := boxes2 w _ _ _ _ _ _ _ _ _ _ _ _ v1 hv1
  have HG := Lib.hid hg
  have HSZ := Lib.hid hsz
  have HA := Lib.hid hA
  have HB := Lib.hid hB
  have HZ := Lib.hid hZ
  have HF := Lib.hid hF
  have HV := Lib.hid hv1
  clear hA hB hZ hF hv1 hsz hg
  have h1 := h.below hb1
  have h1' := h'.below hb1
  have hl1 := hl.below hb1
  go_enter Tryz.func81, Tryz.ntmps81
  go_wp2_with fail
  rw [HV.out, ← HG.out]
  have hk : Below v1.heap.size v1 v1.drew := (Below.refl _ _).drew
  refine wp_region_held_drew (S := (fun W => (W.cell? ⟨g, 0, none⟩ = some (.bool s) ∧ W.cell? ⟨g, 1, none⟩ = some (.slice A n c) ∧ W.cell? ⟨g, 2, none⟩ = some (.slice B m d)) ∧ (W.cell? ⟨g + 1, 0, none⟩ = some (.bool s') ∧ W.cell? ⟨g + 1, 1, none⟩ = some (.slice A' n' c') ∧ W.cell? ⟨g + 1, 2, none⟩ = some (.slice B' m' d')))) (by kernel_rfl) ?_ (fun hHeld => ?_)
  · exact ⟨HA.out _ hk, HB.out _ hk⟩
  refine wpAnyH_take (i := 0) (oi := ⟨some 5, _, _, _, _, _⟩) (v := ?_) rfl (by kernel_rfl) (by kernel_rfl) (by kernel_rfl) (fun _ _ _ h => h) (Or.inl ⟨by rfl, ?_⟩) (by assumption) ?_
  rotate_left
  · intro w hSw
    (try dsimp only at hSw)
    go_simp
    try with_reducible rfl
  try simp only [Act.put, List.setIfInBounds_toArray, List.set_cons_zero, List.set_cons_succ]
  refine wpAnyH_take (i := 2) (oi := ⟨some 7, _, _, _, _, _⟩) (v := ?_) rfl (by kernel_rfl) (by kernel_rfl) (by kernel_rfl) (fun _ _ _ h => h) (Or.inl ⟨by rfl, ?_⟩) (by assumption) ?_
  rotate_left
  · intro w hSw
    (try dsimp only at hSw)
    go_simp
    try with_reducible rfl
  try simp only [Act.put, List.setIfInBounds_toArray, List.set_cons_zero, List.set_cons_succ]
  refine wpAnyH_ready (rs := [1]) (by kernel_rfl) (by simp) ?_
  refine AllReadyH.cons (o := ⟨some 6, _, _, _, _, _⟩) rfl (fun K hK => ?_) AllReadyH.nil
  go_simp
  go_at_call 55
  refine (view_any (h1.below hk) k0).mono ?_
  rintro e w' ⟨s5, A5, n5, c5, B5, m5, d5, rfl, f5, b5⟩
  have hz_b5 := hk.size
  replace hk := nextB hk b5
  go_wp2_with fail
  refine hK.out _ _ ⟨HA.out _ hk, HB.out _ hk⟩ (fun hHeld => ?_)
  clear hK K
  try simp only [Act.put, List.setIfInBounds_toArray, List.set_cons_zero, List.set_cons_succ]
  refine wpAnyH_ready (rs := [3]) (by kernel_rfl) (by simp) ?_
  refine AllReadyH.cons (o := ⟨some 8, _, _, _, _, _⟩) rfl (fun K hK => ?_) AllReadyH.nil
  go_simp
  go_at_call 55
  refine (view_any (h1'.below hk) k1).mono ?_
  rintro e w' ⟨s6, A6, n6, c6, B6, m6, d6, rfl, f6, b6⟩
  have hz_b6 := hk.size
  replace hk := nextB hk b6
  go_wp2_with fail
  refine hK.out _ _ ⟨HA.out _ hk, HB.out _ hk⟩ (fun hHeld => ?_)
  clear hK K
  try simp only [Act.put, List.setIfInBounds_toArray, List.set_cons_zero, List.set_cons_succ]
  refine wpAnyH_ready (rs := [4]) (by kernel_rfl) (by simp) ?_
  refine AllReadyH.cons (o := ⟨some 9, _, _, _, _, _⟩) rfl (fun K hK => ?_) AllReadyH.nil
  go_simp
  go_at_call 109
  refine (plus_any (f5.below b6) f6 (by omega) (by omega)).mono ?_
  rintro e w' ⟨s7, A7, n7, c7, B7, m7, d7, rfl, f7, b7⟩
  have hz_b7 := hk.size
  replace hk := nextB hk b7
  go_wp2_with fail
  refine hK.out _ _ ⟨HA.out _ hk, HB.out _ hk⟩ (fun hHeld => ?_)
  clear hK K
  try simp only [Act.put, List.setIfInBounds_toArray, List.set_cons_zero, List.set_cons_succ]
  refine wpAnyH_ready (rs := [5]) (by kernel_rfl) (by simp) ?_
  refine AllReadyH.cons (o := ⟨some 10, _, _, _, _, _⟩) rfl (fun K hK => ?_) AllReadyH.nil
  go_simp
  go_at_call 57
  refine (normal_any (hl1.below hk) f7 (by omega)).mono ?_
  rintro e w' ⟨t9, A9, n9, c9, B9, m9, d9, rfl, r9, oA9, oB9, b9⟩
  have hz_b9 := hk.size
  replace hk := nextB hk b9
  obtain ⟨o0, o1, o2⟩ := HZ.out _ hk
  obtain ⟨f0, f1, f2⟩ := HF.out _ hk
  go_wp2_with fail
  refine hK.out _ _ ⟨HA.out _ hk, HB.out _ hk⟩ (fun hHeld => ?_)
  clear hK K
  try simp only [Act.put, List.setIfInBounds_toArray, List.set_cons_zero, List.set_cons_succ]
  refine wpAnyH_ready (rs := [6]) (by kernel_rfl) (by simp) ?_
  refine AllReadyH.cons (o := ⟨none, _, _, _, _, _⟩) rfl (fun K hK => ?_) AllReadyH.nil
  go_simp
  refine hK.out _ _ ⟨kept3 (by omega) (HA.out _ hk), kept3 (by omega) (HB.out _ hk)⟩ (fun hHeld => ?_)
  clear hK K
  try simp only [Act.put, List.setIfInBounds_toArray, List.set_cons_zero, List.set_cons_succ]
  refine wpAnyH_done (by kernel_rfl) ?_ _
  go_wp2
  exact bodyPost_ret (v := .agg #[.bool t9, .slice A9 n9 c9, .slice B9 m9 d9]) (by simp [results, Tryz.results81, go_sem, o0, o1, o2]) rfl ⟨_, _, _, _, _, _, _, rfl,
    store_end r9 oA9 oB9 (by have := HSZ.out; omega) (by rw [HG.out]; omega) (nextB hb1 hk) _ _ _⟩


set_option maxHeartbeats 4000000 in
theorem mul_r {w : World} {s s' : Bool} {A B A' B' : Option Addr} {n c m d n' c' m' d' k k' : Nat} {q q' : Rat} (hl : Laid w) (h : Loose w s A n c B m d q k) (h' : Loose w s' A' n' c' B' m' d' q' k') (k0 : 1 ≤ k) (k1 : 1 ≤ k') (hk8 : k ≤ 300000) (hk9 : k' ≤ 300000) :
    Calls Tryz.prog 30 #[.agg #[.bool s, .slice A n c, .slice B m d], .agg #[.bool s', .slice A' n' c', .slice B' m' d']] w (GivesR w (q * q') (k + k')) := by
  obtain ⟨v1, hv1⟩ : ∃ v1, ((w.alloc (.cells #[.bool s, .slice A n c, .slice B m d] 42)).alloc (.cells #[.bool s', .slice A' n' c', .slice B' m' d'] 42)).alloc (.cells #[.bool false, .slice none 0 0, .slice none 0 0] 42) = v1 := ⟨_, rfl⟩
  obtain ⟨g, hg, hsz, hb1, hA, hB, hZ, hF⟩ := boxes2 w _ _ _ _ _ _ _ _ _ _ _ _ v1 hv1
  have HG := Lib.hid hg
  have HSZ := Lib.hid hsz
  have HA := Lib.hid hA
  have HB := Lib.hid hB
  have HZ := Lib.hid hZ
  have HF := Lib.hid hF
  have HV := Lib.hid hv1
  clear hA hB hZ hF hv1 hsz hg
  have h1 := h.below hb1
  have h1' := h'.below hb1
  have hl1 := hl.below hb1
  go_enter Tryz.func30, Tryz.ntmps30
  go_wp2_with fail
  rw [HV.out, ← HG.out]
  have hk : Below v1.heap.size v1 v1.drew := (Below.refl _ _).drew
  refine wp_region_held_drew (S := (fun W => (W.cell? ⟨g, 0, none⟩ = some (.bool s) ∧ W.cell? ⟨g, 1, none⟩ = some (.slice A n c) ∧ W.cell? ⟨g, 2, none⟩ = some (.slice B m d)) ∧ (W.cell? ⟨g + 1, 0, none⟩ = some (.bool s') ∧ W.cell? ⟨g + 1, 1, none⟩ = some (.slice A' n' c') ∧ W.cell? ⟨g + 1, 2, none⟩ = some (.slice B' m' d')))) (by kernel_rfl) ?_ (fun hHeld => ?_)
  · exact ⟨HA.out _ hk, HB.out _ hk⟩
  refine wpAnyH_take (i := 0) (oi := ⟨some 5, _, _, _, _, _⟩) (v := ?_) rfl (by kernel_rfl) (by kernel_rfl) (by kernel_rfl) (fun _ _ _ h => h) (Or.inl ⟨by rfl, ?_⟩) (by assumption) ?_
  rotate_left
  · intro w hSw
    (try dsimp only at hSw)
    go_simp
    try with_reducible rfl
  try simp only [Act.put, List.setIfInBounds_toArray, List.set_cons_zero, List.set_cons_succ]
  refine wpAnyH_take (i := 2) (oi := ⟨some 7, _, _, _, _, _⟩) (v := ?_) rfl (by kernel_rfl) (by kernel_rfl) (by kernel_rfl) (fun _ _ _ h => h) (Or.inl ⟨by rfl, ?_⟩) (by assumption) ?_
  rotate_left
  · intro w hSw
    (try dsimp only at hSw)
    go_simp
    try with_reducible rfl
  try simp only [Act.put, List.setIfInBounds_toArray, List.set_cons_zero, List.set_cons_succ]
  refine wpAnyH_ready (rs := [1]) (by kernel_rfl) (by simp) ?_
  refine AllReadyH.cons (o := ⟨some 6, _, _, _, _, _⟩) rfl (fun K hK => ?_) AllReadyH.nil
  go_simp
  go_at_call 55
  refine (view_any (h1.below hk) k0).mono ?_
  rintro e w' ⟨s5, A5, n5, c5, B5, m5, d5, rfl, f5, b5⟩
  have hz_b5 := hk.size
  replace hk := nextB hk b5
  go_wp2_with fail
  refine hK.out _ _ ⟨HA.out _ hk, HB.out _ hk⟩ (fun hHeld => ?_)
  clear hK K
  try simp only [Act.put, List.setIfInBounds_toArray, List.set_cons_zero, List.set_cons_succ]
  refine wpAnyH_ready (rs := [3]) (by kernel_rfl) (by simp) ?_
  refine AllReadyH.cons (o := ⟨some 8, _, _, _, _, _⟩) rfl (fun K hK => ?_) AllReadyH.nil
  go_simp
  go_at_call 55
  refine (view_any (h1'.below hk) k1).mono ?_
  rintro e w' ⟨s6, A6, n6, c6, B6, m6, d6, rfl, f6, b6⟩
  have hz_b6 := hk.size
  replace hk := nextB hk b6
  go_wp2_with fail
  refine hK.out _ _ ⟨HA.out _ hk, HB.out _ hk⟩ (fun hHeld => ?_)
  clear hK K
  try simp only [Act.put, List.setIfInBounds_toArray, List.set_cons_zero, List.set_cons_succ]
  refine wpAnyH_ready (rs := [4]) (by kernel_rfl) (by simp) ?_
  refine AllReadyH.cons (o := ⟨some 9, _, _, _, _, _⟩) rfl (fun K hK => ?_) AllReadyH.nil
  go_simp
  go_at_call 56
  refine (times_any (f5.below b6) f6 (by omega) (by omega)).mono ?_
  rintro e w' ⟨s7, A7, n7, c7, B7, m7, d7, rfl, f7, b7⟩
  have hz_b7 := hk.size
  replace hk := nextB hk b7
  go_wp2_with fail
  refine hK.out _ _ ⟨HA.out _ hk, HB.out _ hk⟩ (fun hHeld => ?_)
  clear hK K
  try simp only [Act.put, List.setIfInBounds_toArray, List.set_cons_zero, List.set_cons_succ]
  refine wpAnyH_ready (rs := [5]) (by kernel_rfl) (by simp) ?_
  refine AllReadyH.cons (o := ⟨some 10, _, _, _, _, _⟩) rfl (fun K hK => ?_) AllReadyH.nil
  go_simp
  go_at_call 57
  refine (normal_any (hl1.below hk) f7 (by omega)).mono ?_
  rintro e w' ⟨t9, A9, n9, c9, B9, m9, d9, rfl, r9, oA9, oB9, b9⟩
  have hz_b9 := hk.size
  replace hk := nextB hk b9
  obtain ⟨o0, o1, o2⟩ := HZ.out _ hk
  obtain ⟨f0, f1, f2⟩ := HF.out _ hk
  go_wp2_with fail
  refine hK.out _ _ ⟨HA.out _ hk, HB.out _ hk⟩ (fun hHeld => ?_)
  clear hK K
  try simp only [Act.put, List.setIfInBounds_toArray, List.set_cons_zero, List.set_cons_succ]
  refine wpAnyH_ready (rs := [6]) (by kernel_rfl) (by simp) ?_
  refine AllReadyH.cons (o := ⟨none, _, _, _, _, _⟩) rfl (fun K hK => ?_) AllReadyH.nil
  go_simp
  refine hK.out _ _ ⟨kept3 (by omega) (HA.out _ hk), kept3 (by omega) (HB.out _ hk)⟩ (fun hHeld => ?_)
  clear hK K
  try simp only [Act.put, List.setIfInBounds_toArray, List.set_cons_zero, List.set_cons_succ]
  refine wpAnyH_done (by kernel_rfl) ?_ _
  go_wp2
  exact bodyPost_ret (v := .agg #[.bool t9, .slice A9 n9 c9, .slice B9 m9 d9]) (by simp [results, Tryz.results30, go_sem, o0, o1, o2]) rfl ⟨_, _, _, _, _, _, _, rfl,
    store_end r9 oA9 oB9 (by have := HSZ.out; omega) (by rw [HG.out]; omega) (nextB hb1 hk) _ _ _⟩


set_option maxHeartbeats 4000000 in
theorem norm_r {w : World} {s : Bool} {A B : Option Addr} {n c m d k : Nat} {q : Rat} (hl : Laid w) (h : Loose w s A n c B m d q k) (k0 : 1 ≤ k) (hk8 : k ≤ 800000) :
    Calls Tryz.prog 46 #[.agg #[.bool s, .slice A n c, .slice B m d]] w (GivesR w (q) (k)) := by
  obtain ⟨v1, hv1⟩ : ∃ v1, (w.alloc (.cells #[.bool s, .slice A n c, .slice B m d] 42)).alloc (.cells #[.bool false, .slice none 0 0, .slice none 0 0] 42) = v1 := ⟨_, rfl⟩
  obtain ⟨g, hg, hsz, hb1, hA, hZ, hF⟩ := boxes1 w _ _ _ _ _ _ _ _ v1 hv1
  have HG := Lib.hid hg
  have HSZ := Lib.hid hsz
  have HA := Lib.hid hA
  have HZ := Lib.hid hZ
  have HF := Lib.hid hF
  have HV := Lib.hid hv1
  clear hA hZ hF hv1 hsz hg
  have h1 := h.below hb1
  have hl1 := hl.below hb1
  have hk := Below.refl v1.heap.size v1
  go_enter Tryz.func46, Tryz.ntmps46
  go_wp2_with fail
  rw [HV.out, ← HG.out]
  refine (view_any h1 k0).mono ?_
  rintro e w' ⟨s5, A5, n5, c5, B5, m5, d5, rfl, f5, b5⟩
  have hz_b5 := hk.size
  replace hk := nextB hk b5
  go_wp2_with fail
  refine (normal_any (hl1.below hk) f5 (by omega)).mono ?_
  rintro e w' ⟨t9, A9, n9, c9, B9, m9, d9, rfl, r9, oA9, oB9, b9⟩
  have hz_b9 := hk.size
  replace hk := nextB hk b9
  obtain ⟨o0, o1, o2⟩ := HZ.out _ hk
  obtain ⟨f0, f1, f2⟩ := HF.out _ hk
  go_wp2_with fail
  go_wp2
  exact bodyPost_ret (v := .agg #[.bool t9, .slice A9 n9 c9, .slice B9 m9 d9]) (by simp [results, Tryz.results46, go_sem, o0, o1, o2]) rfl ⟨_, _, _, _, _, _, _, rfl,
    store_end r9 oA9 oB9 (by have := HSZ.out; omega) (by rw [HG.out]; omega) (nextB hb1 hk) _ _ _⟩


set_option maxHeartbeats 4000000 in
theorem neg_r {w : World} {s : Bool} {A B : Option Addr} {n c m d k : Nat} {q : Rat} (hl : Laid w) (h : Loose w s A n c B m d q k) (k0 : 1 ≤ k) (hk8 : k ≤ 800000) :
    Calls Tryz.prog 47 #[.agg #[.bool s, .slice A n c, .slice B m d]] w (GivesR w (-q) (k)) := by
  obtain ⟨v1, hv1⟩ : ∃ v1, (w.alloc (.cells #[.bool s, .slice A n c, .slice B m d] 42)).alloc (.cells #[.bool false, .slice none 0 0, .slice none 0 0] 42) = v1 := ⟨_, rfl⟩
  obtain ⟨g, hg, hsz, hb1, hA, hZ, hF⟩ := boxes1 w _ _ _ _ _ _ _ _ v1 hv1
  have HG := Lib.hid hg
  have HSZ := Lib.hid hsz
  have HA := Lib.hid hA
  have HZ := Lib.hid hZ
  have HF := Lib.hid hF
  have HV := Lib.hid hv1
  clear hA hZ hF hv1 hsz hg
  have h1 := h.below hb1
  have hl1 := hl.below hb1
  have hk := Below.refl v1.heap.size v1
  go_enter Tryz.func47, Tryz.ntmps47
  go_wp2_with fail
  rw [HV.out, ← HG.out]
  refine (view_any h1 k0).mono ?_
  rintro e w' ⟨s5, A5, n5, c5, B5, m5, d5, rfl, f5, b5⟩
  have hz_b5 := hk.size
  replace hk := nextB hk b5
  go_wp2_with fail
  refine (negated_any f5).mono ?_
  rintro e w' ⟨s6, A6, n6, c6, B6, m6, d6, rfl, f6, b6⟩
  have hz_b6 := hk.size
  replace hk := nextB hk b6
  go_wp2_with fail
  refine (normal_any (hl1.below hk) f6 (by omega)).mono ?_
  rintro e w' ⟨t9, A9, n9, c9, B9, m9, d9, rfl, r9, oA9, oB9, b9⟩
  have hz_b9 := hk.size
  replace hk := nextB hk b9
  obtain ⟨o0, o1, o2⟩ := HZ.out _ hk
  obtain ⟨f0, f1, f2⟩ := HF.out _ hk
  go_wp2_with fail
  go_wp2
  exact bodyPost_ret (v := .agg #[.bool t9, .slice A9 n9 c9, .slice B9 m9 d9]) (by simp [results, Tryz.results47, go_sem, o0, o1, o2]) rfl ⟨_, _, _, _, _, _, _, rfl,
    store_end r9 oA9 oB9 (by have := HSZ.out; omega) (by rw [HG.out]; omega) (nextB hb1 hk) _ _ _⟩


theorem signOf_r {w : World} {s : Bool} {A B : Option Addr} {n c m d k : Nat} {q : Rat} (h : Loose w s A n c B m d q k) (k0 : 1 ≤ k) :
    Calls Tryz.prog 83 #[.agg #[.bool s, .slice A n c, .slice B m d]] w (IntB w (sgnR q)) := by
  have hb1 := (Below.refl w.heap.size w).alloc (Nat.le_refl _) (.cells #[.bool s, .slice A n c, .slice B m d] 42)
  have h1 := h.below hb1
  go_enter Tryz.func83, Tryz.ntmps83
  go_wp2_with fail
  refine (view_any h1 k0).mono ?_
  rintro e w5 ⟨s5, A5, n5, c5, B5, m5, d5, rfl, f5, b5⟩
  go_wp2_with fail
  refine (sign_any f5).mono ?_
  rintro e w6 ⟨rfl, b6⟩
  go_wp2
  go_ret
  exact ⟨rfl, nextB (nextB hb1 b5) b6⟩


/-- A box for the result alone. -/
theorem boxes0 (w : World) (z0 z1 z2 : Value) (T3 : TypeId) (v : World) (hv : w.alloc (.cells #[z0, z1, z2] T3) = v) :
    ∃ g, g = w.heap.size ∧ v.heap.size = g + 1 ∧ Below w.heap.size w v ∧
      (∀ W, Below v.heap.size v W → W.cell? ⟨g, 0, none⟩ = some z0 ∧ W.cell? ⟨g, 1, none⟩ = some z1 ∧ W.cell? ⟨g, 2, none⟩ = some z2) ∧
      (∀ W, Below v.heap.size v W → W.frozen? ⟨g, 0, none⟩ = false ∧ W.frozen? ⟨g, 1, none⟩ = false ∧ W.frozen? ⟨g, 2, none⟩ = false) := by
  subst hv
  have hs : (w.alloc (.cells #[z0, z1, z2] T3)).heap.size = w.heap.size + 1 := by rw [World.size_alloc]
  refine ⟨w.heap.size, rfl, hs, (Below.refl _ _).alloc (Nat.le_refl _) _, ?_, ?_⟩
  · exact three_cells (by rw [hs]; omega) ((World.cell?_alloc_new ..).trans rfl) ((World.cell?_alloc_new ..).trans rfl) ((World.cell?_alloc_new ..).trans rfl)
  · exact three_free (by rw [hs]; omega) (fun i => World.frozen?_alloc_new ..)

theorem rat_int (n : Int) : rat (decide (n < 0)) (n.natAbs : Int) 1 = (n : Rat) := by
  have h : sg (decide (n < 0)) (n.natAbs : Int) = n := by
    by_cases hq : n < 0
    · rw [decide_eq_true hq, sg_true]; omega
    · rw [decide_eq_false hq, sg_false]; omega
  unfold rat
  rw [h]
  have := Rat.num_divInt_den (n : Rat)
  simpa using this

set_option maxHeartbeats 1000000 in
theorem int_r {w : World} {n : Int} (hl : Laid w) (n0 : -9223372036854775808 ≤ n) (n1 : n ≤ 9223372036854775807) : Calls Tryz.prog 31 #[.int .i64 n] w (GivesR w (n : Rat) 2) := by
  obtain ⟨v1, hv1⟩ : ∃ v1, w.alloc (.cells #[.bool false, .slice none 0 0, .slice none 0 0] 42) = v1 := ⟨_, rfl⟩
  obtain ⟨g, hg, hsz, hb1, hZ, hF⟩ := boxes0 w _ _ _ _ v1 hv1
  have HG := Lib.hid hg
  have HSZ := Lib.hid hsz
  have HZ := Lib.hid hZ
  have HF := Lib.hid hF
  have HV := Lib.hid hv1
  clear hZ hF hv1 hsz hg
  have hl1 := hl.below hb1
  go_enter Tryz.func31, Tryz.ntmps31
  go_wp2_with fail
  rw [HV.out, ← HG.out]
  refine (magnitude_any n v1 n0 n1).mono ?_
  rintro e w5 ⟨A5, rfl, h5, o5, b5⟩
  have ba := (Below.refl w5.heap.size w5).alloc (Nat.le_refl _) (.cells #[.int .u32 1] 71)
  have hf : Frac (w5.alloc (.cells #[.int .u32 1] 71)) (decide (n < 0)) A5 2 2 (some ⟨w5.heap.size, 0, none⟩) 1 1 (n : Rat) 2 := ⟨_, 1, h5.below ba, one_at rfl, by decide, rat_int n, by omega, by omega⟩
  have hk := nextB b5 ba
  have HN := Lib.hid (normal_any (hl1.below hk) hf (by omega))
  clear hf h5 n0 n1
  go_wp2_with fail
  refine HN.out.mono ?_
  rintro e w' ⟨t9, A9, n9, c9, B9, m9, d9, rfl, r9, oA9, oB9, b9⟩
  have hz9 := hk.size
  replace hk := nextB hk b9
  obtain ⟨o0, o1, o2⟩ := HZ.out _ hk
  obtain ⟨f0, f1, f2⟩ := HF.out _ hk
  go_wp2
  exact bodyPost_ret (v := .agg #[.bool t9, .slice A9 n9 c9, .slice B9 m9 d9]) (by simp [results, Tryz.results31, go_sem, o0, o1, o2]) rfl ⟨_, _, _, _, _, _, _, rfl,
    store_end r9 oA9 oB9 (by have := HSZ.out; omega) (by rw [HG.out]; omega) (nextB hb1 hk) _ _ _⟩

end Go.Proofs.YtebbnmjmjoklmaaGreatDoor

namespace Go.Proofs.YtebbnmjmjoklmaaGreatDoor
open Go.RowKit
set_option maxRecDepth 20000

/-- A normal form and no error. -/
def GivesROk (w : World) (q : Rat) (k : Nat) (e : Ending) (w' : World) : Prop :=
  ∃ s A n c B m d, e = .returned (.tuple #[.agg #[.bool s, .slice A n c, .slice B m d], .int .i64 0]) ∧ RN w' s A n c B m d q k ∧ Off w.heap.size A ∧ Off w.heap.size B ∧ Below w.heap.size w w'
/-- The empty fraction and ErrDivide. -/
def DivErr (w : World) (e : Ending) (w' : World) : Prop := e = .returned (.tuple #[.agg #[.bool false, .slice none 0 0, .slice none 0 0], .int .i64 3]) ∧ Below w.heap.size w w'

theorem rat_ints (n d : Int) : rat (decide (n < 0) != decide (d < 0)) (n.natAbs : Int) (d.natAbs : Int) = Rat.divInt n d := by
  unfold rat
  by_cases h1 : n < 0 <;> by_cases h2 : d < 0
  · have e1 : (n.natAbs : Int) = -n := by omega
    have e2 : (d.natAbs : Int) = -d := by omega
    simp only [h1, h2, e1, e2, sg, bne_self_eq_false]
    simp [Rat.neg_divInt_neg]
  · have e1 : (n.natAbs : Int) = -n := by omega
    have e2 : (d.natAbs : Int) = d := by omega
    simp [h1, h2, e1, e2, sg]
  · have e1 : (n.natAbs : Int) = n := by omega
    have e2 : (d.natAbs : Int) = -d := by omega
    simp [h1, h2, e1, e2, sg, Rat.neg_divInt_neg]
  · have e1 : (n.natAbs : Int) = n := by omega
    have e2 : (d.natAbs : Int) = d := by omega
    simp [h1, h2, e1, e2, sg]

end Go.Proofs.YtebbnmjmjoklmaaGreatDoor

namespace Go.Proofs.YtebbnmjmjoklmaaGreatDoor
open Go.RowKit
set_option maxRecDepth 20000

theorem sgnR_zero : sgnR 0 = 0 := cmpR_eq rfl
theorem sgnR_ne {q : Rat} (h : q ≠ 0) : sgnR q = 1 ∨ sgnR q = -1 := by
  rcases (Rat.le_total (a := q) (b := 0)) with h1 | h1
  · exact .inr (cmpR_lt (Rat.lt_of_le_of_ne h1 h))
  · exact .inl (cmpR_gt (Rat.lt_of_le_of_ne h1 (fun e => h e.symm)))


end Go.Proofs.YtebbnmjmjoklmaaGreatDoor
