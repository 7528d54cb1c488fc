/-
  exactppllaw02.RationalField returns true for every list of ints, whatever the memory, if noStep holds what the program's text lays.
-/
import Derived.Test.YthnmjaaelhcbpaaDoorRatF
import Derived.Test.YthnmjaaelhcbpaaDoorSrcR
import Derived.Test.YthnmjaaelhcbpaaDoorRefR1
namespace Go.Proofs.YthnmjaaelhcbpaaDoor
open Go.RowKit
set_option maxRecDepth 100000

theorem Num.but {w w' : World} {A : Option Addr} {n c g b : Nat} {x : Int} (h : Num w A n c x) (o : Off b A) (hg : g < b) (hb : But g w w') : Num w' A n c x := by
  obtain ⟨L, hr, hv⟩ := h
  refine ⟨L, ⟨hr.len, hr.lims, hr.cap, hr.top, fun hn => ?_⟩, hv⟩
  obtain ⟨ad, e, hbl, hc⟩ := hr.at_ hn
  have := o ad e
  exact ⟨ad, e, Nat.lt_of_lt_of_le hbl hb.size, fun i hi => (hb.cell (p := ad.add i) (by rw [addr_block]; exact hbl) (by rw [addr_block]; omega)).trans (hc i hi)⟩
theorem Loose.but {w w' : World} {s : Bool} {A B : Option Addr} {n c m d k g b : Nat} {q : Rat} (h : Loose w s A n c B m d q k) (oA : Off b A) (oB : Off b B) (hg : g < b) (hb : But g w w') : Loose w' s A n c B m d q k := by
  obtain ⟨x, y, hx, hy, h3⟩ := h
  exact ⟨x, y, hx.but oA hg hb, hy.but oB hg hb, h3⟩
/-- Three boxes, one behind the other. -/
theorem boxes3 (w : World) (a0 a1 a2 b0 b1 b2 z0 z1 z2 : Value) (T1 T2 T3 : TypeId) (v : World) (hv : ((w.alloc (.cells #[a0, a1, a2] T1)).alloc (.cells #[b0, b1, b2] T2)).alloc (.cells #[z0, z1, z2] T3) = v) :
    ∃ g, g = w.heap.size ∧ Below w.heap.size w v ∧
      (∀ W, Below v.heap.size v W → W.cell? ⟨g, 0, none⟩ = some a0 ∧ W.cell? ⟨g, 1, none⟩ = some a1 ∧ W.cell? ⟨g, 2, none⟩ = some a2) ∧
      (∀ W, Below v.heap.size v W → W.cell? ⟨g + 1, 0, none⟩ = some b0 ∧ W.cell? ⟨g + 1, 1, none⟩ = some b1 ∧ W.cell? ⟨g + 1, 2, none⟩ = some b2) ∧
      (∀ W, Below v.heap.size v W → W.cell? ⟨g + 2, 0, none⟩ = some z0 ∧ W.cell? ⟨g + 2, 1, none⟩ = some z1 ∧ W.cell? ⟨g + 2, 2, none⟩ = some z2) := by
  obtain ⟨g, h1, _, h2, h3, h4, h5, _⟩ := boxes2 w a0 a1 a2 b0 b1 b2 z0 z1 z2 T1 T2 T3 v hv
  exact ⟨g, h1, h2, h3, h4, h5⟩

set_option maxHeartbeats 20000000 in
theorem rationalField.walk {A : Option Addr} {n c : Nat} {w : World} (hl : Laid w) (hcap : n ≤ c) (htop : c ≤ maxLen) (hI : 0 < n → ∃ ad, A = some ad ∧ IntsAt w ad n (-9223372036854775808) 9223372036854775807) :
    Calls Tryd.prog 6 #[.slice A n c] w (True1 w) := by
  have HNW := Lib.hid (new_any A n c w hcap htop hI)
  clear hI hcap htop
  go_enter Tryd.func6, Tryd.ntmps6
  go_wp2_with fail
  refine HNW.out.mono ?_
  rintro e w1 ⟨g, rfl, hg, hs1, bw1⟩
  clear HNW
  go_wp2_with fail
  refine (srcLoose_r g w1 hs1).mono ?_
  rintro e w2 ⟨sa, Aa, na, ca, Ba, ma, da, qa, rfl, la, oa, oa', hs2, hb2⟩
  go_wp2_with fail
  refine (srcLoose_r g w2 hs2).mono ?_
  rintro e w3 ⟨sb, Ab, nb, cb, Bb, mb, db, qb, rfl, lb, ob, ob', hs3, hb3⟩
  go_wp2_with fail
  refine (srcLoose_r g w3 hs3).mono ?_
  rintro e w4 ⟨sc, Ac, nc, cc, Bc, mc, dc, qc, rfl, lc, oc, oc', hs4, hb4⟩
  replace la := la.but oa oa' hs1.size (hb3.trans hb4)
  replace lb := lb.but ob ob' hs2.size hb4
  have bw4 : Below w.heap.size w w4 := bw1.trans (((hb2.trans hb3).trans hb4).below hg bw1.size)
  clear oa oa' ob ob' oc oc' hs1 hs2 hs3 hs4 hb2 hb3 hb4 bw1
  obtain ⟨v, hv⟩ : ∃ v, ((w4.alloc (.cells #[.bool sa, .slice Aa na ca, .slice Ba ma da] 40)).alloc (.cells #[.bool sb, .slice Ab nb cb, .slice Bb mb db] 40)).alloc (.cells #[.bool sc, .slice Ac nc cc, .slice Bc mc dc] 40) = v := ⟨_, rfl⟩
  obtain ⟨p, hp, bv, h_a, h_b, h_c⟩ := boxes3 w4 _ _ _ _ _ _ _ _ _ _ _ _ v hv
  have HCA := Lib.hid h_a
  have HCB := Lib.hid h_b
  have HCC := Lib.hid h_c
  have HP := Lib.hid hp
  have HV := Lib.hid hv
  replace la := la.below bv
  replace lb := lb.below bv
  replace lc := lc.below bv
  have bwv := bw4.trans (bv.mono bw4.size)
  have hlv := hl.below bwv
  clear h_a h_b h_c hp hv hl bv bw4
  have HZ := Lib.hid (int_r (w := v) (n := 0) hlv (by decide) (by decide))
  go_wp2_with fail
  rw [HV.out, ← HP.out]
  refine HZ.out.mono ?_
  rintro e w5 ⟨sz, Az, nz, cz, Bz, mz, dz, rfl, rz, _, _, b5⟩
  clear HZ
  obtain ⟨u, hu⟩ : ∃ u, w5.alloc (.cells #[.bool sz, .slice Az nz cz, .slice Bz mz dz] 40) = u := ⟨_, rfl⟩
  obtain ⟨pz, hpz, _, bu, h_z, _⟩ := boxes0 w5 _ _ _ _ u hu
  have HCZ := Lib.hid h_z
  have HPZ := Lib.hid hpz
  have HU := Lib.hid hu
  have bvu := nextB b5 bu
  replace la := la.below bvu
  replace lb := lb.below bvu
  replace lc := lc.below bvu
  replace rz := rz.below bu
  have hlu := hlv.below bvu
  have bwu := bwv.trans (bvu.mono bwv.size)
  have HCA2 := Lib.hid (fun W (hb : Below u.heap.size u W) => HCA.out W (nextB bvu hb))
  have HCB2 := Lib.hid (fun W (hb : Below u.heap.size u W) => HCB.out W (nextB bvu hb))
  have HCC2 := Lib.hid (fun W (hb : Below u.heap.size u W) => HCC.out W (nextB bvu hb))
  clear h_z hpz hu bu bvu HCA HCB HCC hlv bwv b5
  have hk := Below.refl u.heap.size u
  go_upto_region 4 with fail
  rw [HU.out, ← HPZ.out]
  dsimp only [List.append]
  replace hk := hk.drew
  refine wp_region_held_drew (S := (fun W => (W.cell? ⟨p, 0, none⟩ = some (.bool sa) ∧ W.cell? ⟨p, 1, none⟩ = some (.slice Aa na ca) ∧ W.cell? ⟨p, 2, none⟩ = some (.slice Ba ma da)) ∧ (W.cell? ⟨p + 1, 0, none⟩ = some (.bool sb) ∧ W.cell? ⟨p + 1, 1, none⟩ = some (.slice Ab nb cb) ∧ W.cell? ⟨p + 1, 2, none⟩ = some (.slice Bb mb db)) ∧ (W.cell? ⟨p + 2, 0, none⟩ = some (.bool sc) ∧ W.cell? ⟨p + 2, 1, none⟩ = some (.slice Ac nc cc) ∧ W.cell? ⟨p + 2, 2, none⟩ = some (.slice Bc mc dc)) ∧ (W.cell? ⟨pz, 0, none⟩ = some (.bool sz) ∧ W.cell? ⟨pz, 1, none⟩ = some (.slice Az nz cz) ∧ W.cell? ⟨pz, 2, none⟩ = some (.slice Bz mz dz)))) (by kernel_rfl) ?_ (fun hHeld => ?_)
  · exact ⟨HCA2.out _ hk, HCB2.out _ hk, HCC2.out _ hk, HCZ.out _ hk⟩
  refine wpAnyH_take (i := 0) (oi := ⟨some 19, _, _, _, _, _⟩) (v := ?_) rfl (by kernel_rfl) (by kernel_rfl) (by kernel_rfl) (fun _ _ _ h => h) (Or.inl ⟨by rfl, ?_⟩) (by assumption) ?_
  rotate_left
  · intro w hSw
    (try dsimp only at hSw)
    go_simp
    try with_reducible rfl
  try simp only [Act.put, List.setIfInBounds_toArray, List.set_cons_zero, List.set_cons_succ]
  refine wpAnyH_take (i := 1) (oi := ⟨some 20, _, _, _, _, _⟩) (v := ?_) rfl (by kernel_rfl) (by kernel_rfl) (by kernel_rfl) (fun _ _ _ h => h) (Or.inl ⟨by rfl, ?_⟩) (by assumption) ?_
  rotate_left
  · intro w hSw
    (try dsimp only at hSw)
    go_simp
    try with_reducible rfl
  try simp only [Act.put, List.setIfInBounds_toArray, List.set_cons_zero, List.set_cons_succ]
  refine wpAnyH_take (i := 3) (oi := ⟨some 22, _, _, _, _, _⟩) (v := ?_) rfl (by kernel_rfl) (by kernel_rfl) (by kernel_rfl) (fun _ _ _ h => h) (Or.inl ⟨by rfl, ?_⟩) (by assumption) ?_
  rotate_left
  · intro w hSw
    (try dsimp only at hSw)
    go_simp
    try with_reducible rfl
  try simp only [Act.put, List.setIfInBounds_toArray, List.set_cons_zero, List.set_cons_succ]
  refine wpAnyH_take (i := 4) (oi := ⟨some 23, _, _, _, _, _⟩) (v := ?_) rfl (by kernel_rfl) (by kernel_rfl) (by kernel_rfl) (fun _ _ _ h => h) (Or.inl ⟨by rfl, ?_⟩) (by assumption) ?_
  rotate_left
  · intro w hSw
    (try dsimp only at hSw)
    go_simp
    try with_reducible rfl
  try simp only [Act.put, List.setIfInBounds_toArray, List.set_cons_zero, List.set_cons_succ]
  refine wpAnyH_ready (rs := [2]) (by kernel_rfl) (by simp) ?_
  refine AllReadyH.cons (o := ⟨some 21, _, _, _, _, _⟩) rfl (fun K hK => ?_) AllReadyH.nil
  go_simp
  go_at_call 28
  refine (add_r (hlu.below hk) (la.below hk) (lb.below hk) (by omega) (by omega) (by omega) (by omega)).mono ?_
  rintro e w' ⟨s1, A1, n1, c1, B1, m1, d1, rfl, r1, _, _, e1⟩
  replace hk := nextB hk e1
  go_wp2_with fail
  refine hK.out _ _ ⟨HCA2.out _ hk, HCB2.out _ hk, HCC2.out _ hk, HCZ.out _ hk⟩ (fun hHeld => ?_)
  clear hK K
  try simp only [Act.put, List.setIfInBounds_toArray, List.set_cons_zero, List.set_cons_succ]
  refine wpAnyH_ready (rs := [5]) (by kernel_rfl) (by simp) ?_
  refine AllReadyH.cons (o := ⟨some 24, _, _, _, _, _⟩) rfl (fun K hK => ?_) AllReadyH.nil
  go_simp
  go_at_call 28
  refine (add_r (hlu.below hk) (lb.below hk) (la.below hk) (by omega) (by omega) (by omega) (by omega)).mono ?_
  rintro e w' ⟨s2, A2, n2, c2, B2, m2, d2, rfl, r2, _, _, e2⟩
  replace hk := nextB hk e2
  go_wp2_with fail
  refine hK.out _ _ ⟨HCA2.out _ hk, HCB2.out _ hk, HCC2.out _ hk, HCZ.out _ hk⟩ (fun hHeld => ?_)
  clear hK K
  try simp only [Act.put, List.setIfInBounds_toArray, List.set_cons_zero, List.set_cons_succ]
  refine wpAnyH_ready (rs := [6]) (by kernel_rfl) (by simp) ?_
  refine AllReadyH.cons (o := ⟨some 25, _, _, _, _, _⟩) rfl (fun K hK => ?_) AllReadyH.nil
  go_simp
  go_at_call 37
  refine (sameR_true (r1.below e2) r2 (Rat.add_comm ..)).mono ?_
  rintro e w' ⟨rfl, e3⟩
  replace hk := nextB hk e3
  go_wp2_with fail
  refine hK.out _ _ ⟨HCA2.out _ hk, HCB2.out _ hk, HCC2.out _ hk, HCZ.out _ hk⟩ (fun hHeld => ?_)
  clear hK K
  try simp only [Act.put, List.setIfInBounds_toArray, List.set_cons_zero, List.set_cons_succ]
  refine wpAnyH_take (i := 7) (oi := ⟨some 26, _, _, _, _, _⟩) (v := ?_) rfl (by kernel_rfl) (by kernel_rfl) (by kernel_rfl) (fun _ _ _ h => h) (Or.inl ⟨by rfl, ?_⟩) (by assumption) ?_
  rotate_left
  · intro w hSw
    (try dsimp only at hSw)
    go_simp
    try with_reducible rfl
  try simp only [Act.put, List.setIfInBounds_toArray, List.set_cons_zero, List.set_cons_succ]
  refine wpAnyH_take (i := 8) (oi := ⟨some 27, _, _, _, _, _⟩) (v := ?_) rfl (by kernel_rfl) (by kernel_rfl) (by kernel_rfl) (fun _ _ _ h => h) (Or.inl ⟨by rfl, ?_⟩) (by assumption) ?_
  rotate_left
  · intro w hSw
    (try dsimp only at hSw)
    go_simp
    try with_reducible rfl
  try simp only [Act.put, List.setIfInBounds_toArray, List.set_cons_zero, List.set_cons_succ]
  refine wpAnyH_take (i := 9) (oi := ⟨some 28, _, _, _, _, _⟩) (v := ?_) rfl (by kernel_rfl) (by kernel_rfl) (by kernel_rfl) (fun _ _ _ h => h) (Or.inl ⟨by rfl, ?_⟩) (by assumption) ?_
  rotate_left
  · intro w hSw
    (try dsimp only at hSw)
    go_simp
    try with_reducible rfl
  try simp only [Act.put, List.setIfInBounds_toArray, List.set_cons_zero, List.set_cons_succ]
  refine wpAnyH_take (i := 10) (oi := ⟨some 29, _, _, _, _, _⟩) (v := ?_) rfl (by kernel_rfl) (by kernel_rfl) (by kernel_rfl) (fun _ _ _ h => h) (Or.inl ⟨by rfl, ?_⟩) (by assumption) ?_
  rotate_left
  · intro w hSw
    (try dsimp only at hSw)
    go_simp
    try with_reducible rfl
  try simp only [Act.put, List.setIfInBounds_toArray, List.set_cons_zero, List.set_cons_succ]
  refine wpAnyH_take (i := 12) (oi := ⟨some 31, _, _, _, _, _⟩) (v := ?_) rfl (by kernel_rfl) (by kernel_rfl) (by kernel_rfl) (fun _ _ _ h => h) (Or.inl ⟨by rfl, ?_⟩) (by assumption) ?_
  rotate_left
  · intro w hSw
    (try dsimp only at hSw)
    go_simp
    try with_reducible rfl
  try simp only [Act.put, List.setIfInBounds_toArray, List.set_cons_zero, List.set_cons_succ]
  refine wpAnyH_take (i := 13) (oi := ⟨some 32, _, _, _, _, _⟩) (v := ?_) rfl (by kernel_rfl) (by kernel_rfl) (by kernel_rfl) (fun _ _ _ h => h) (Or.inl ⟨by rfl, ?_⟩) (by assumption) ?_
  rotate_left
  · intro w hSw
    (try dsimp only at hSw)
    go_simp
    try with_reducible rfl
  try simp only [Act.put, List.setIfInBounds_toArray, List.set_cons_zero, List.set_cons_succ]
  refine wpAnyH_ready (rs := [11]) (by kernel_rfl) (by simp) ?_
  refine AllReadyH.cons (o := ⟨some 30, _, _, _, _, _⟩) rfl (fun K hK => ?_) AllReadyH.nil
  go_simp
  go_at_call 30
  refine (mul_r (hlu.below hk) (la.below hk) (lb.below hk) (by omega) (by omega) (by omega) (by omega)).mono ?_
  rintro e w' ⟨s4, A4, n4, c4, B4, m4, d4, rfl, r4, _, _, e4⟩
  replace hk := nextB hk e4
  go_wp2_with fail
  refine hK.out _ _ ⟨HCA2.out _ hk, HCB2.out _ hk, HCC2.out _ hk, HCZ.out _ hk⟩ (fun hHeld => ?_)
  clear hK K
  try simp only [Act.put, List.setIfInBounds_toArray, List.set_cons_zero, List.set_cons_succ]
  refine wpAnyH_ready (rs := [14]) (by kernel_rfl) (by simp) ?_
  refine AllReadyH.cons (o := ⟨some 33, _, _, _, _, _⟩) rfl (fun K hK => ?_) AllReadyH.nil
  go_simp
  go_at_call 30
  refine (mul_r (hlu.below hk) (lb.below hk) (la.below hk) (by omega) (by omega) (by omega) (by omega)).mono ?_
  rintro e w' ⟨s5, A5, n5, c5, B5, m5, d5, rfl, r5, _, _, e5⟩
  replace hk := nextB hk e5
  go_wp2_with fail
  refine hK.out _ _ ⟨HCA2.out _ hk, HCB2.out _ hk, HCC2.out _ hk, HCZ.out _ hk⟩ (fun hHeld => ?_)
  clear hK K
  try simp only [Act.put, List.setIfInBounds_toArray, List.set_cons_zero, List.set_cons_succ]
  refine wpAnyH_ready (rs := [15]) (by kernel_rfl) (by simp) ?_
  refine AllReadyH.cons (o := ⟨some 34, _, _, _, _, _⟩) rfl (fun K hK => ?_) AllReadyH.nil
  go_simp
  go_at_call 37
  refine (sameR_true (r4.below e5) r5 (Rat.mul_comm ..)).mono ?_
  rintro e w' ⟨rfl, e6⟩
  replace hk := nextB hk e6
  go_wp2_with fail
  refine hK.out _ _ ⟨HCA2.out _ hk, HCB2.out _ hk, HCC2.out _ hk, HCZ.out _ hk⟩ (fun hHeld => ?_)
  clear hK K
  try simp only [Act.put, List.setIfInBounds_toArray, List.set_cons_zero, List.set_cons_succ]
  refine wpAnyH_take (i := 16) (oi := ⟨some 35, _, _, _, _, _⟩) (v := ?_) rfl (by kernel_rfl) (by kernel_rfl) (by kernel_rfl) (fun _ _ _ h => h) (Or.inl ⟨by rfl, ?_⟩) (by assumption) ?_
  rotate_left
  · intro w hSw
    (try dsimp only at hSw)
    go_simp
    try with_reducible rfl
  try simp only [Act.put, List.setIfInBounds_toArray, List.set_cons_zero, List.set_cons_succ]
  refine wpAnyH_take (i := 17) (oi := ⟨some 36, _, _, _, _, _⟩) (v := ?_) rfl (by kernel_rfl) (by kernel_rfl) (by kernel_rfl) (fun _ _ _ h => h) (Or.inl ⟨by rfl, ?_⟩) (by assumption) ?_
  rotate_left
  · intro w hSw
    (try dsimp only at hSw)
    go_simp
    try with_reducible rfl
  try simp only [Act.put, List.setIfInBounds_toArray, List.set_cons_zero, List.set_cons_succ]
  refine wpAnyH_take (i := 18) (oi := ⟨some 37, _, _, _, _, _⟩) (v := ?_) rfl (by kernel_rfl) (by kernel_rfl) (by kernel_rfl) (fun _ _ _ h => h) (Or.inl ⟨by rfl, ?_⟩) (by assumption) ?_
  rotate_left
  · intro w hSw
    (try dsimp only at hSw)
    go_simp
    try with_reducible rfl
  try simp only [Act.put, List.setIfInBounds_toArray, List.set_cons_zero, List.set_cons_succ]
  refine wpAnyH_take (i := 19) (oi := ⟨some 38, _, _, _, _, _⟩) (v := ?_) rfl (by kernel_rfl) (by kernel_rfl) (by kernel_rfl) (fun _ _ _ h => h) (Or.inl ⟨by rfl, ?_⟩) (by assumption) ?_
  rotate_left
  · intro w hSw
    (try dsimp only at hSw)
    go_simp
    try with_reducible rfl
  try simp only [Act.put, List.setIfInBounds_toArray, List.set_cons_zero, List.set_cons_succ]
  refine wpAnyH_take (i := 20) (oi := ⟨some 39, _, _, _, _, _⟩) (v := ?_) rfl (by kernel_rfl) (by kernel_rfl) (by kernel_rfl) (fun _ _ _ h => h) (Or.inl ⟨by rfl, ?_⟩) (by assumption) ?_
  rotate_left
  · intro w hSw
    (try dsimp only at hSw)
    go_simp
    try with_reducible rfl
  try simp only [Act.put, List.setIfInBounds_toArray, List.set_cons_zero, List.set_cons_succ]
  refine wpAnyH_take (i := 22) (oi := ⟨some 41, _, _, _, _, _⟩) (v := ?_) rfl (by kernel_rfl) (by kernel_rfl) (by kernel_rfl) (fun _ _ _ h => h) (Or.inl ⟨by rfl, ?_⟩) (by assumption) ?_
  rotate_left
  · intro w hSw
    (try dsimp only at hSw)
    go_simp
    try with_reducible rfl
  try simp only [Act.put, List.setIfInBounds_toArray, List.set_cons_zero, List.set_cons_succ]
  refine wpAnyH_take (i := 24) (oi := ⟨some 43, _, _, _, _, _⟩) (v := ?_) rfl (by kernel_rfl) (by kernel_rfl) (by kernel_rfl) (fun _ _ _ h => h) (Or.inl ⟨by rfl, ?_⟩) (by assumption) ?_
  rotate_left
  · intro w hSw
    (try dsimp only at hSw)
    go_simp
    try with_reducible rfl
  try simp only [Act.put, List.setIfInBounds_toArray, List.set_cons_zero, List.set_cons_succ]
  refine wpAnyH_take (i := 25) (oi := ⟨some 44, _, _, _, _, _⟩) (v := ?_) rfl (by kernel_rfl) (by kernel_rfl) (by kernel_rfl) (fun _ _ _ h => h) (Or.inl ⟨by rfl, ?_⟩) (by assumption) ?_
  rotate_left
  · intro w hSw
    (try dsimp only at hSw)
    go_simp
    try with_reducible rfl
  try simp only [Act.put, List.setIfInBounds_toArray, List.set_cons_zero, List.set_cons_succ]
  refine wpAnyH_take (i := 26) (oi := ⟨some 45, _, _, _, _, _⟩) (v := ?_) rfl (by kernel_rfl) (by kernel_rfl) (by kernel_rfl) (fun _ _ _ h => h) (Or.inl ⟨by rfl, ?_⟩) (by assumption) ?_
  rotate_left
  · intro w hSw
    (try dsimp only at hSw)
    go_simp
    try with_reducible rfl
  try simp only [Act.put, List.setIfInBounds_toArray, List.set_cons_zero, List.set_cons_succ]
  refine wpAnyH_ready (rs := [21]) (by kernel_rfl) (by simp) ?_
  refine AllReadyH.cons (o := ⟨some 40, _, _, _, _, _⟩) rfl (fun K hK => ?_) AllReadyH.nil
  go_simp
  go_at_call 28
  refine (add_r (hlu.below hk) (la.below hk) (lb.below hk) (by omega) (by omega) (by omega) (by omega)).mono ?_
  rintro e w' ⟨s7, A7, n7, c7, B7, m7, d7, rfl, r7, _, _, e7⟩
  replace hk := nextB hk e7
  go_wp2_with fail
  refine hK.out _ _ ⟨HCA2.out _ hk, HCB2.out _ hk, HCC2.out _ hk, HCZ.out _ hk⟩ (fun hHeld => ?_)
  clear hK K
  try simp only [Act.put, List.setIfInBounds_toArray, List.set_cons_zero, List.set_cons_succ]
  refine wpAnyH_ready (rs := [23]) (by kernel_rfl) (by simp) ?_
  refine AllReadyH.cons (o := ⟨some 42, _, _, _, _, _⟩) rfl (fun K hK => ?_) AllReadyH.nil
  go_simp
  go_at_call 28
  refine (add_r (hlu.below hk) r7.loose (lc.below hk) (by omega) (by omega) (by omega) (by omega)).mono ?_
  rintro e w' ⟨s8, A8, n8, c8, B8, m8, d8, rfl, r8, _, _, e8⟩
  replace hk := nextB hk e8
  go_wp2_with fail
  refine hK.out _ _ ⟨HCA2.out _ hk, HCB2.out _ hk, HCC2.out _ hk, HCZ.out _ hk⟩ (fun hHeld => ?_)
  clear hK K
  try simp only [Act.put, List.setIfInBounds_toArray, List.set_cons_zero, List.set_cons_succ]
  refine wpAnyH_ready (rs := [27]) (by kernel_rfl) (by simp) ?_
  refine AllReadyH.cons (o := ⟨some 46, _, _, _, _, _⟩) rfl (fun K hK => ?_) AllReadyH.nil
  go_simp
  go_at_call 28
  refine (add_r (hlu.below hk) (lb.below hk) (lc.below hk) (by omega) (by omega) (by omega) (by omega)).mono ?_
  rintro e w' ⟨s9, A9, n9, c9, B9, m9, d9, rfl, r9, _, _, e9⟩
  replace hk := nextB hk e9
  go_wp2_with fail
  refine hK.out _ _ ⟨HCA2.out _ hk, HCB2.out _ hk, HCC2.out _ hk, HCZ.out _ hk⟩ (fun hHeld => ?_)
  clear hK K
  try simp only [Act.put, List.setIfInBounds_toArray, List.set_cons_zero, List.set_cons_succ]
  refine wpAnyH_ready (rs := [28]) (by kernel_rfl) (by simp) ?_
  refine AllReadyH.cons (o := ⟨some 47, _, _, _, _, _⟩) rfl (fun K hK => ?_) AllReadyH.nil
  go_simp
  go_at_call 28
  refine (add_r (hlu.below hk) (la.below hk) r9.loose (by omega) (by omega) (by omega) (by omega)).mono ?_
  rintro e w' ⟨s10, A10, n10, c10, B10, m10, d10, rfl, r10, _, _, e10⟩
  replace hk := nextB hk e10
  go_wp2_with fail
  refine hK.out _ _ ⟨HCA2.out _ hk, HCB2.out _ hk, HCC2.out _ hk, HCZ.out _ hk⟩ (fun hHeld => ?_)
  clear hK K
  try simp only [Act.put, List.setIfInBounds_toArray, List.set_cons_zero, List.set_cons_succ]
  refine wpAnyH_ready (rs := [29]) (by kernel_rfl) (by simp) ?_
  refine AllReadyH.cons (o := ⟨some 48, _, _, _, _, _⟩) rfl (fun K hK => ?_) AllReadyH.nil
  go_simp
  go_at_call 37
  refine (sameR_true (r8.below (nextB e9 e10)) r10 (Rat.add_assoc ..)).mono ?_
  rintro e w' ⟨rfl, e11⟩
  replace hk := nextB hk e11
  go_wp2_with fail
  refine hK.out _ _ ⟨HCA2.out _ hk, HCB2.out _ hk, HCC2.out _ hk, HCZ.out _ hk⟩ (fun hHeld => ?_)
  clear hK K
  try simp only [Act.put, List.setIfInBounds_toArray, List.set_cons_zero, List.set_cons_succ]
  refine wpAnyH_take (i := 30) (oi := ⟨some 49, _, _, _, _, _⟩) (v := ?_) rfl (by kernel_rfl) (by kernel_rfl) (by kernel_rfl) (fun _ _ _ h => h) (Or.inl ⟨by rfl, ?_⟩) (by assumption) ?_
  rotate_left
  · intro w hSw
    (try dsimp only at hSw)
    go_simp
    try with_reducible rfl
  try simp only [Act.put, List.setIfInBounds_toArray, List.set_cons_zero, List.set_cons_succ]
  refine wpAnyH_take (i := 31) (oi := ⟨some 50, _, _, _, _, _⟩) (v := ?_) rfl (by kernel_rfl) (by kernel_rfl) (by kernel_rfl) (fun _ _ _ h => h) (Or.inl ⟨by rfl, ?_⟩) (by assumption) ?_
  rotate_left
  · intro w hSw
    (try dsimp only at hSw)
    go_simp
    try with_reducible rfl
  try simp only [Act.put, List.setIfInBounds_toArray, List.set_cons_zero, List.set_cons_succ]
  refine wpAnyH_take (i := 32) (oi := ⟨some 51, _, _, _, _, _⟩) (v := ?_) rfl (by kernel_rfl) (by kernel_rfl) (by kernel_rfl) (fun _ _ _ h => h) (Or.inl ⟨by rfl, ?_⟩) (by assumption) ?_
  rotate_left
  · intro w hSw
    (try dsimp only at hSw)
    go_simp
    try with_reducible rfl
  try simp only [Act.put, List.setIfInBounds_toArray, List.set_cons_zero, List.set_cons_succ]
  refine wpAnyH_take (i := 33) (oi := ⟨some 52, _, _, _, _, _⟩) (v := ?_) rfl (by kernel_rfl) (by kernel_rfl) (by kernel_rfl) (fun _ _ _ h => h) (Or.inl ⟨by rfl, ?_⟩) (by assumption) ?_
  rotate_left
  · intro w hSw
    (try dsimp only at hSw)
    go_simp
    try with_reducible rfl
  try simp only [Act.put, List.setIfInBounds_toArray, List.set_cons_zero, List.set_cons_succ]
  refine wpAnyH_take (i := 34) (oi := ⟨some 53, _, _, _, _, _⟩) (v := ?_) rfl (by kernel_rfl) (by kernel_rfl) (by kernel_rfl) (fun _ _ _ h => h) (Or.inl ⟨by rfl, ?_⟩) (by assumption) ?_
  rotate_left
  · intro w hSw
    (try dsimp only at hSw)
    go_simp
    try with_reducible rfl
  try simp only [Act.put, List.setIfInBounds_toArray, List.set_cons_zero, List.set_cons_succ]
  refine wpAnyH_take (i := 36) (oi := ⟨some 55, _, _, _, _, _⟩) (v := ?_) rfl (by kernel_rfl) (by kernel_rfl) (by kernel_rfl) (fun _ _ _ h => h) (Or.inl ⟨by rfl, ?_⟩) (by assumption) ?_
  rotate_left
  · intro w hSw
    (try dsimp only at hSw)
    go_simp
    try with_reducible rfl
  try simp only [Act.put, List.setIfInBounds_toArray, List.set_cons_zero, List.set_cons_succ]
  refine wpAnyH_take (i := 38) (oi := ⟨some 57, _, _, _, _, _⟩) (v := ?_) rfl (by kernel_rfl) (by kernel_rfl) (by kernel_rfl) (fun _ _ _ h => h) (Or.inl ⟨by rfl, ?_⟩) (by assumption) ?_
  rotate_left
  · intro w hSw
    (try dsimp only at hSw)
    go_simp
    try with_reducible rfl
  try simp only [Act.put, List.setIfInBounds_toArray, List.set_cons_zero, List.set_cons_succ]
  refine wpAnyH_take (i := 39) (oi := ⟨some 58, _, _, _, _, _⟩) (v := ?_) rfl (by kernel_rfl) (by kernel_rfl) (by kernel_rfl) (fun _ _ _ h => h) (Or.inl ⟨by rfl, ?_⟩) (by assumption) ?_
  rotate_left
  · intro w hSw
    (try dsimp only at hSw)
    go_simp
    try with_reducible rfl
  try simp only [Act.put, List.setIfInBounds_toArray, List.set_cons_zero, List.set_cons_succ]
  refine wpAnyH_take (i := 40) (oi := ⟨some 59, _, _, _, _, _⟩) (v := ?_) rfl (by kernel_rfl) (by kernel_rfl) (by kernel_rfl) (fun _ _ _ h => h) (Or.inl ⟨by rfl, ?_⟩) (by assumption) ?_
  rotate_left
  · intro w hSw
    (try dsimp only at hSw)
    go_simp
    try with_reducible rfl
  try simp only [Act.put, List.setIfInBounds_toArray, List.set_cons_zero, List.set_cons_succ]
  refine wpAnyH_ready (rs := [35]) (by kernel_rfl) (by simp) ?_
  refine AllReadyH.cons (o := ⟨some 54, _, _, _, _, _⟩) rfl (fun K hK => ?_) AllReadyH.nil
  go_simp
  go_at_call 30
  refine (mul_r (hlu.below hk) (la.below hk) (lb.below hk) (by omega) (by omega) (by omega) (by omega)).mono ?_
  rintro e w' ⟨s12, A12, n12, c12, B12, m12, d12, rfl, r12, _, _, e12⟩
  replace hk := nextB hk e12
  go_wp2_with fail
  refine hK.out _ _ ⟨HCA2.out _ hk, HCB2.out _ hk, HCC2.out _ hk, HCZ.out _ hk⟩ (fun hHeld => ?_)
  clear hK K
  try simp only [Act.put, List.setIfInBounds_toArray, List.set_cons_zero, List.set_cons_succ]
  refine wpAnyH_ready (rs := [37]) (by kernel_rfl) (by simp) ?_
  refine AllReadyH.cons (o := ⟨some 56, _, _, _, _, _⟩) rfl (fun K hK => ?_) AllReadyH.nil
  go_simp
  go_at_call 30
  refine (mul_r (hlu.below hk) r12.loose (lc.below hk) (by omega) (by omega) (by omega) (by omega)).mono ?_
  rintro e w' ⟨s13, A13, n13, c13, B13, m13, d13, rfl, r13, _, _, e13⟩
  replace hk := nextB hk e13
  go_wp2_with fail
  refine hK.out _ _ ⟨HCA2.out _ hk, HCB2.out _ hk, HCC2.out _ hk, HCZ.out _ hk⟩ (fun hHeld => ?_)
  clear hK K
  try simp only [Act.put, List.setIfInBounds_toArray, List.set_cons_zero, List.set_cons_succ]
  refine wpAnyH_ready (rs := [41]) (by kernel_rfl) (by simp) ?_
  refine AllReadyH.cons (o := ⟨some 60, _, _, _, _, _⟩) rfl (fun K hK => ?_) AllReadyH.nil
  go_simp
  go_at_call 30
  refine (mul_r (hlu.below hk) (lb.below hk) (lc.below hk) (by omega) (by omega) (by omega) (by omega)).mono ?_
  rintro e w' ⟨s14, A14, n14, c14, B14, m14, d14, rfl, r14, _, _, e14⟩
  replace hk := nextB hk e14
  go_wp2_with fail
  refine hK.out _ _ ⟨HCA2.out _ hk, HCB2.out _ hk, HCC2.out _ hk, HCZ.out _ hk⟩ (fun hHeld => ?_)
  clear hK K
  try simp only [Act.put, List.setIfInBounds_toArray, List.set_cons_zero, List.set_cons_succ]
  refine wpAnyH_ready (rs := [42]) (by kernel_rfl) (by simp) ?_
  refine AllReadyH.cons (o := ⟨some 61, _, _, _, _, _⟩) rfl (fun K hK => ?_) AllReadyH.nil
  go_simp
  go_at_call 30
  refine (mul_r (hlu.below hk) (la.below hk) r14.loose (by omega) (by omega) (by omega) (by omega)).mono ?_
  rintro e w' ⟨s15, A15, n15, c15, B15, m15, d15, rfl, r15, _, _, e15⟩
  replace hk := nextB hk e15
  go_wp2_with fail
  refine hK.out _ _ ⟨HCA2.out _ hk, HCB2.out _ hk, HCC2.out _ hk, HCZ.out _ hk⟩ (fun hHeld => ?_)
  clear hK K
  try simp only [Act.put, List.setIfInBounds_toArray, List.set_cons_zero, List.set_cons_succ]
  refine wpAnyH_ready (rs := [43]) (by kernel_rfl) (by simp) ?_
  refine AllReadyH.cons (o := ⟨some 62, _, _, _, _, _⟩) rfl (fun K hK => ?_) AllReadyH.nil
  go_simp
  go_at_call 37
  refine (sameR_true (r13.below (nextB e14 e15)) r15 (Rat.mul_assoc ..)).mono ?_
  rintro e w' ⟨rfl, e16⟩
  replace hk := nextB hk e16
  go_wp2_with fail
  refine hK.out _ _ ⟨HCA2.out _ hk, HCB2.out _ hk, HCC2.out _ hk, HCZ.out _ hk⟩ (fun hHeld => ?_)
  clear hK K
  try simp only [Act.put, List.setIfInBounds_toArray, List.set_cons_zero, List.set_cons_succ]
  refine wpAnyH_take (i := 44) (oi := ⟨some 63, _, _, _, _, _⟩) (v := ?_) rfl (by kernel_rfl) (by kernel_rfl) (by kernel_rfl) (fun _ _ _ h => h) (Or.inl ⟨by rfl, ?_⟩) (by assumption) ?_
  rotate_left
  · intro w hSw
    (try dsimp only at hSw)
    go_simp
    try with_reducible rfl
  try simp only [Act.put, List.setIfInBounds_toArray, List.set_cons_zero, List.set_cons_succ]
  refine wpAnyH_take (i := 45) (oi := ⟨some 64, _, _, _, _, _⟩) (v := ?_) rfl (by kernel_rfl) (by kernel_rfl) (by kernel_rfl) (fun _ _ _ h => h) (Or.inl ⟨by rfl, ?_⟩) (by assumption) ?_
  rotate_left
  · intro w hSw
    (try dsimp only at hSw)
    go_simp
    try with_reducible rfl
  try simp only [Act.put, List.setIfInBounds_toArray, List.set_cons_zero, List.set_cons_succ]
  refine wpAnyH_take (i := 46) (oi := ⟨some 65, _, _, _, _, _⟩) (v := ?_) rfl (by kernel_rfl) (by kernel_rfl) (by kernel_rfl) (fun _ _ _ h => h) (Or.inl ⟨by rfl, ?_⟩) (by assumption) ?_
  rotate_left
  · intro w hSw
    (try dsimp only at hSw)
    go_simp
    try with_reducible rfl
  try simp only [Act.put, List.setIfInBounds_toArray, List.set_cons_zero, List.set_cons_succ]
  refine wpAnyH_take (i := 47) (oi := ⟨some 66, _, _, _, _, _⟩) (v := ?_) rfl (by kernel_rfl) (by kernel_rfl) (by kernel_rfl) (fun _ _ _ h => h) (Or.inl ⟨by rfl, ?_⟩) (by assumption) ?_
  rotate_left
  · intro w hSw
    (try dsimp only at hSw)
    go_simp
    try with_reducible rfl
  try simp only [Act.put, List.setIfInBounds_toArray, List.set_cons_zero, List.set_cons_succ]
  refine wpAnyH_take (i := 48) (oi := ⟨some 67, _, _, _, _, _⟩) (v := ?_) rfl (by kernel_rfl) (by kernel_rfl) (by kernel_rfl) (fun _ _ _ h => h) (Or.inl ⟨by rfl, ?_⟩) (by assumption) ?_
  rotate_left
  · intro w hSw
    (try dsimp only at hSw)
    go_simp
    try with_reducible rfl
  try simp only [Act.put, List.setIfInBounds_toArray, List.set_cons_zero, List.set_cons_succ]
  refine wpAnyH_take (i := 49) (oi := ⟨some 68, _, _, _, _, _⟩) (v := ?_) rfl (by kernel_rfl) (by kernel_rfl) (by kernel_rfl) (fun _ _ _ h => h) (Or.inl ⟨by rfl, ?_⟩) (by assumption) ?_
  rotate_left
  · intro w hSw
    (try dsimp only at hSw)
    go_simp
    try with_reducible rfl
  try simp only [Act.put, List.setIfInBounds_toArray, List.set_cons_zero, List.set_cons_succ]
  refine wpAnyH_take (i := 52) (oi := ⟨some 71, _, _, _, _, _⟩) (v := ?_) rfl (by kernel_rfl) (by kernel_rfl) (by kernel_rfl) (fun _ _ _ h => h) (Or.inl ⟨by rfl, ?_⟩) (by assumption) ?_
  rotate_left
  · intro w hSw
    (try dsimp only at hSw)
    go_simp
    try with_reducible rfl
  try simp only [Act.put, List.setIfInBounds_toArray, List.set_cons_zero, List.set_cons_succ]
  refine wpAnyH_take (i := 53) (oi := ⟨some 72, _, _, _, _, _⟩) (v := ?_) rfl (by kernel_rfl) (by kernel_rfl) (by kernel_rfl) (fun _ _ _ h => h) (Or.inl ⟨by rfl, ?_⟩) (by assumption) ?_
  rotate_left
  · intro w hSw
    (try dsimp only at hSw)
    go_simp
    try with_reducible rfl
  try simp only [Act.put, List.setIfInBounds_toArray, List.set_cons_zero, List.set_cons_succ]
  refine wpAnyH_take (i := 55) (oi := ⟨some 74, _, _, _, _, _⟩) (v := ?_) rfl (by kernel_rfl) (by kernel_rfl) (by kernel_rfl) (fun _ _ _ h => h) (Or.inl ⟨by rfl, ?_⟩) (by assumption) ?_
  rotate_left
  · intro w hSw
    (try dsimp only at hSw)
    go_simp
    try with_reducible rfl
  try simp only [Act.put, List.setIfInBounds_toArray, List.set_cons_zero, List.set_cons_succ]
  refine wpAnyH_take (i := 56) (oi := ⟨some 75, _, _, _, _, _⟩) (v := ?_) rfl (by kernel_rfl) (by kernel_rfl) (by kernel_rfl) (fun _ _ _ h => h) (Or.inl ⟨by rfl, ?_⟩) (by assumption) ?_
  rotate_left
  · intro w hSw
    (try dsimp only at hSw)
    go_simp
    try with_reducible rfl
  try simp only [Act.put, List.setIfInBounds_toArray, List.set_cons_zero, List.set_cons_succ]
  refine wpAnyH_ready (rs := [50]) (by kernel_rfl) (by simp) ?_
  refine AllReadyH.cons (o := ⟨some 69, _, _, _, _, _⟩) rfl (fun K hK => ?_) AllReadyH.nil
  go_simp
  go_at_call 28
  refine (add_r (hlu.below hk) (lb.below hk) (lc.below hk) (by omega) (by omega) (by omega) (by omega)).mono ?_
  rintro e w' ⟨s17, A17, n17, c17, B17, m17, d17, rfl, r17, _, _, e17⟩
  replace hk := nextB hk e17
  go_wp2_with fail
  refine hK.out _ _ ⟨HCA2.out _ hk, HCB2.out _ hk, HCC2.out _ hk, HCZ.out _ hk⟩ (fun hHeld => ?_)
  clear hK K
  try simp only [Act.put, List.setIfInBounds_toArray, List.set_cons_zero, List.set_cons_succ]
  refine wpAnyH_ready (rs := [51]) (by kernel_rfl) (by simp) ?_
  refine AllReadyH.cons (o := ⟨some 70, _, _, _, _, _⟩) rfl (fun K hK => ?_) AllReadyH.nil
  go_simp
  go_at_call 30
  refine (mul_r (hlu.below hk) (la.below hk) r17.loose (by omega) (by omega) (by omega) (by omega)).mono ?_
  rintro e w' ⟨s18, A18, n18, c18, B18, m18, d18, rfl, r18, _, _, e18⟩
  replace hk := nextB hk e18
  go_wp2_with fail
  refine hK.out _ _ ⟨HCA2.out _ hk, HCB2.out _ hk, HCC2.out _ hk, HCZ.out _ hk⟩ (fun hHeld => ?_)
  clear hK K
  try simp only [Act.put, List.setIfInBounds_toArray, List.set_cons_zero, List.set_cons_succ]
  refine wpAnyH_ready (rs := [54]) (by kernel_rfl) (by simp) ?_
  refine AllReadyH.cons (o := ⟨some 73, _, _, _, _, _⟩) rfl (fun K hK => ?_) AllReadyH.nil
  go_simp
  go_at_call 30
  refine (mul_r (hlu.below hk) (la.below hk) (lb.below hk) (by omega) (by omega) (by omega) (by omega)).mono ?_
  rintro e w' ⟨s19, A19, n19, c19, B19, m19, d19, rfl, r19, _, _, e19⟩
  replace hk := nextB hk e19
  go_wp2_with fail
  refine hK.out _ _ ⟨HCA2.out _ hk, HCB2.out _ hk, HCC2.out _ hk, HCZ.out _ hk⟩ (fun hHeld => ?_)
  clear hK K
  try simp only [Act.put, List.setIfInBounds_toArray, List.set_cons_zero, List.set_cons_succ]
  refine wpAnyH_ready (rs := [57]) (by kernel_rfl) (by simp) ?_
  refine AllReadyH.cons (o := ⟨some 76, _, _, _, _, _⟩) rfl (fun K hK => ?_) AllReadyH.nil
  go_simp
  go_at_call 30
  refine (mul_r (hlu.below hk) (la.below hk) (lc.below hk) (by omega) (by omega) (by omega) (by omega)).mono ?_
  rintro e w' ⟨s20, A20, n20, c20, B20, m20, d20, rfl, r20, _, _, e20⟩
  replace hk := nextB hk e20
  go_wp2_with fail
  refine hK.out _ _ ⟨HCA2.out _ hk, HCB2.out _ hk, HCC2.out _ hk, HCZ.out _ hk⟩ (fun hHeld => ?_)
  clear hK K
  try simp only [Act.put, List.setIfInBounds_toArray, List.set_cons_zero, List.set_cons_succ]
  refine wpAnyH_ready (rs := [58]) (by kernel_rfl) (by simp) ?_
  refine AllReadyH.cons (o := ⟨some 77, _, _, _, _, _⟩) rfl (fun K hK => ?_) AllReadyH.nil
  go_simp
  go_at_call 28
  refine (add_r (hlu.below hk) (r19.below e20).loose r20.loose (by omega) (by omega) (by omega) (by omega)).mono ?_
  rintro e w' ⟨s21, A21, n21, c21, B21, m21, d21, rfl, r21, _, _, e21⟩
  replace hk := nextB hk e21
  go_wp2_with fail
  refine hK.out _ _ ⟨HCA2.out _ hk, HCB2.out _ hk, HCC2.out _ hk, HCZ.out _ hk⟩ (fun hHeld => ?_)
  clear hK K
  try simp only [Act.put, List.setIfInBounds_toArray, List.set_cons_zero, List.set_cons_succ]
  refine wpAnyH_ready (rs := [59]) (by kernel_rfl) (by simp) ?_
  refine AllReadyH.cons (o := ⟨some 78, _, _, _, _, _⟩) rfl (fun K hK => ?_) AllReadyH.nil
  go_simp
  go_at_call 37
  refine (sameR_true (r18.below (nextB (nextB e19 e20) e21)) r21 (Rat.mul_add ..)).mono ?_
  rintro e w' ⟨rfl, e22⟩
  replace hk := nextB hk e22
  go_wp2_with fail
  refine hK.out _ _ ⟨HCA2.out _ hk, HCB2.out _ hk, HCC2.out _ hk, HCZ.out _ hk⟩ (fun hHeld => ?_)
  clear hK K
  try simp only [Act.put, List.setIfInBounds_toArray, List.set_cons_zero, List.set_cons_succ]
  refine wpAnyH_take (i := 60) (oi := ⟨some 79, _, _, _, _, _⟩) (v := ?_) rfl (by kernel_rfl) (by kernel_rfl) (by kernel_rfl) (fun _ _ _ h => h) (Or.inl ⟨by rfl, ?_⟩) (by assumption) ?_
  rotate_left
  · intro w hSw
    (try dsimp only at hSw)
    go_simp
    try with_reducible rfl
  try simp only [Act.put, List.setIfInBounds_toArray, List.set_cons_zero, List.set_cons_succ]
  refine wpAnyH_take (i := 61) (oi := ⟨some 80, _, _, _, _, _⟩) (v := ?_) rfl (by kernel_rfl) (by kernel_rfl) (by kernel_rfl) (fun _ _ _ h => h) (Or.inl ⟨by rfl, ?_⟩) (by assumption) ?_
  rotate_left
  · intro w hSw
    (try dsimp only at hSw)
    go_simp
    try with_reducible rfl
  try simp only [Act.put, List.setIfInBounds_toArray, List.set_cons_zero, List.set_cons_succ]
  refine wpAnyH_take (i := 62) (oi := ⟨some 81, _, _, _, _, _⟩) (v := ?_) rfl (by kernel_rfl) (by kernel_rfl) (by kernel_rfl) (fun _ _ _ h => h) (Or.inl ⟨by rfl, ?_⟩) (by assumption) ?_
  rotate_left
  · intro w hSw
    (try dsimp only at hSw)
    go_simp
    try with_reducible rfl
  try simp only [Act.put, List.setIfInBounds_toArray, List.set_cons_zero, List.set_cons_succ]
  refine wpAnyH_take (i := 63) (oi := ⟨some 82, _, _, _, _, _⟩) (v := ?_) rfl (by kernel_rfl) (by kernel_rfl) (by kernel_rfl) (fun _ _ _ h => h) (Or.inl ⟨by rfl, ?_⟩) (by assumption) ?_
  rotate_left
  · intro w hSw
    (try dsimp only at hSw)
    go_simp
    try with_reducible rfl
  try simp only [Act.put, List.setIfInBounds_toArray, List.set_cons_zero, List.set_cons_succ]
  refine wpAnyH_take (i := 64) (oi := ⟨some 83, _, _, _, _, _⟩) (v := ?_) rfl (by kernel_rfl) (by kernel_rfl) (by kernel_rfl) (fun _ _ _ h => h) (Or.inl ⟨by rfl, ?_⟩) (by assumption) ?_
  rotate_left
  · intro w hSw
    (try dsimp only at hSw)
    go_simp
    try with_reducible rfl
  try simp only [Act.put, List.setIfInBounds_toArray, List.set_cons_zero, List.set_cons_succ]
  refine wpAnyH_take (i := 67) (oi := ⟨some 86, _, _, _, _, _⟩) (v := ?_) rfl (by kernel_rfl) (by kernel_rfl) (by kernel_rfl) (fun _ _ _ h => h) (Or.inl ⟨by rfl, ?_⟩) (by assumption) ?_
  rotate_left
  · intro w hSw
    (try dsimp only at hSw)
    go_simp
    try with_reducible rfl
  try simp only [Act.put, List.setIfInBounds_toArray, List.set_cons_zero, List.set_cons_succ]
  refine wpAnyH_ready (rs := [65]) (by kernel_rfl) (by simp) ?_
  refine AllReadyH.cons (o := ⟨some 84, _, _, _, _, _⟩) rfl (fun K hK => ?_) AllReadyH.nil
  go_simp
  go_at_call 31
  refine (neg_r (hlu.below hk) (la.below hk) (by omega) (by omega)).mono ?_
  rintro e w' ⟨s23, A23, n23, c23, B23, m23, d23, rfl, r23, _, _, e23⟩
  replace hk := nextB hk e23
  go_wp2_with fail
  refine hK.out _ _ ⟨HCA2.out _ hk, HCB2.out _ hk, HCC2.out _ hk, HCZ.out _ hk⟩ (fun hHeld => ?_)
  clear hK K
  try simp only [Act.put, List.setIfInBounds_toArray, List.set_cons_zero, List.set_cons_succ]
  refine wpAnyH_ready (rs := [66]) (by kernel_rfl) (by simp) ?_
  refine AllReadyH.cons (o := ⟨some 85, _, _, _, _, _⟩) rfl (fun K hK => ?_) AllReadyH.nil
  go_simp
  go_at_call 28
  refine (add_r (hlu.below hk) (la.below hk) r23.loose (by omega) (by omega) (by omega) (by omega)).mono ?_
  rintro e w' ⟨s24, A24, n24, c24, B24, m24, d24, rfl, r24, _, _, e24⟩
  replace hk := nextB hk e24
  go_wp2_with fail
  refine hK.out _ _ ⟨HCA2.out _ hk, HCB2.out _ hk, HCC2.out _ hk, HCZ.out _ hk⟩ (fun hHeld => ?_)
  clear hK K
  try simp only [Act.put, List.setIfInBounds_toArray, List.set_cons_zero, List.set_cons_succ]
  refine wpAnyH_ready (rs := [68]) (by kernel_rfl) (by simp) ?_
  refine AllReadyH.cons (o := ⟨some 87, _, _, _, _, _⟩) rfl (fun K hK => ?_) AllReadyH.nil
  go_simp
  go_at_call 37
  refine (sameR_true r24 (rz.below hk) (Rat.add_neg_cancel ..)).mono ?_
  rintro e w' ⟨rfl, e25⟩
  replace hk := nextB hk e25
  go_wp2_with fail
  refine hK.out _ _ ⟨HCA2.out _ hk, HCB2.out _ hk, HCC2.out _ hk, HCZ.out _ hk⟩ (fun hHeld => ?_)
  clear hK K
  try simp only [Act.put, List.setIfInBounds_toArray, List.set_cons_zero, List.set_cons_succ]
  refine wpAnyH_take (i := 69) (oi := ⟨some 88, _, _, _, _, _⟩) (v := ?_) rfl (by kernel_rfl) (by kernel_rfl) (by kernel_rfl) (fun _ _ _ h => h) (Or.inl ⟨by rfl, ?_⟩) (by assumption) ?_
  rotate_left
  · intro w hSw
    (try dsimp only at hSw)
    go_simp
    try with_reducible rfl
  try simp only [Act.put, List.setIfInBounds_toArray, List.set_cons_zero, List.set_cons_succ]
  refine wpAnyH_take (i := 70) (oi := ⟨some 89, _, _, _, _, _⟩) (v := ?_) rfl (by kernel_rfl) (by kernel_rfl) (by kernel_rfl) (fun _ _ _ h => h) (Or.inl ⟨by rfl, ?_⟩) (by assumption) ?_
  rotate_left
  · intro w hSw
    (try dsimp only at hSw)
    go_simp
    try with_reducible rfl
  try simp only [Act.put, List.setIfInBounds_toArray, List.set_cons_zero, List.set_cons_succ]
  refine wpAnyH_done (by kernel_rfl) ?_ _
  obtain ⟨a0, a1, a2⟩ := HCA2.out _ hk
  obtain ⟨b0, b1, b2⟩ := HCB2.out _ hk
  by_cases hq0 : qb = 0
  · have HQ0 := Lib.hid hq0
    clear hq0
    have HD := Lib.hid (div_zero (la.below hk) (lb.below hk) (by omega) HQ0.out)
    go_wp2_with fail
    refine HD.out.mono ?_
    rintro e y1 ⟨rfl, f1⟩
    have ba := (Below.refl y1.heap.size y1).alloc (Nat.le_refl _) (.cells #[.bool false, .slice none 0 0, .slice none 0 0] 40)
    have hk2 := nextB hk (nextB f1 ba)
    obtain ⟨g0, g1, g2⟩ := HCB2.out _ hk2
    have HS := signOf_r (lb.below hk2) (by omega)
    rw [HQ0.out, sgnR_zero] at HS
    have HS' := Lib.hid HS
    clear HS HD a0 a1 a2 b0 b1 b2
    go_wp2_with fail
    refine HS'.out.mono ?_
    rintro e y2 ⟨rfl, f2⟩
    have hk3 := nextB hk2 f2
    go_wp2_with fail
    refine (awake2_any _ (hlu.below hk3)).mono ?_
    rintro e y3 ⟨rfl, f3⟩
    go_wp2
    go_ret
    exact ⟨rfl, bwu.trans ((nextB hk3 f3).mono bwu.size)⟩
  · have HQ0 : Hid (qb ≠ 0) := hq0
    clear hq0
    have HD := Lib.hid (div_r (hlu.below hk) (la.below hk) (lb.below hk) (by omega) (by omega) (by omega) (by omega) HQ0.out)
    go_wp2_with fail
    refine HD.out.mono ?_
    rintro e y1 ⟨s9, A9, n9, c9, B9, m9, d9, rfl, r9, _, _, f1⟩
    obtain ⟨v2, hv2⟩ : ∃ v2, y1.alloc (.cells #[.bool s9, .slice A9 n9 c9, .slice B9 m9 d9] 40) = v2 := ⟨_, rfl⟩
    obtain ⟨p9, hp9, _, ba, h_9, _⟩ := boxes0 y1 _ _ _ _ v2 hv2
    have HC9 := Lib.hid h_9
    have HP9 := Lib.hid hp9
    have HV2 := Lib.hid hv2
    have hk2 := nextB hk (nextB f1 ba)
    obtain ⟨g0, g1, g2⟩ := HCB2.out _ hk2
    have r9' := r9.below ba
    obtain ⟨zz, hz, hz0⟩ : ∃ zz, sgnR qb = zz ∧ (zz == 0) = false := by
      rcases sgnR_ne HQ0.out with h | h
      · exact ⟨1, h, rfl⟩
      · exact ⟨-1, h, rfl⟩
    have HS := signOf_r (lb.below hk2) (by omega)
    rw [hz] at HS
    have HS' := Lib.hid HS
    clear HS HD a0 a1 a2 b0 b1 b2 h_9 hp9 hv2 hz r9
    rw [← HV2.out] at g0 g1 g2
    go_wp2_with fail
    rw [HV2.out, ← HP9.out]
    refine HS'.out.mono ?_
    rintro e y2 ⟨rfl, f2⟩
    have hk3 := nextB hk2 f2
    clear HS' g0 g1 g2
    go_upto_region 9 with fail
    have hj : Below u.heap.size u y2.drew := hk3.drew
    have hi : Below v2.heap.size v2 y2.drew := f2.drew
    have HSM : Hid (qa * qb⁻¹ * qb = qa) := by
      show _ = _
      rw [Rat.mul_assoc, Rat.inv_mul_cancel _ HQ0.out, Rat.mul_one]
    refine wp_region_held_drew (S := (fun W => (W.cell? ⟨p, 0, none⟩ = some (.bool sa) ∧ W.cell? ⟨p, 1, none⟩ = some (.slice Aa na ca) ∧ W.cell? ⟨p, 2, none⟩ = some (.slice Ba ma da)) ∧ (W.cell? ⟨p + 1, 0, none⟩ = some (.bool sb) ∧ W.cell? ⟨p + 1, 1, none⟩ = some (.slice Ab nb cb) ∧ W.cell? ⟨p + 1, 2, none⟩ = some (.slice Bb mb db)) ∧ (W.cell? ⟨p9, 0, none⟩ = some (.bool s9) ∧ W.cell? ⟨p9, 1, none⟩ = some (.slice A9 n9 c9) ∧ W.cell? ⟨p9, 2, none⟩ = some (.slice B9 m9 d9)))) (by kernel_rfl) ?_ (fun hHeld => ?_)
    · exact ⟨HCA2.out _ hj, HCB2.out _ hj, HC9.out _ hi⟩
    refine wpAnyH_take (i := 0) (oi := ⟨some 104, _, _, _, _, _⟩) (v := ?_) rfl (by kernel_rfl) (by kernel_rfl) (by kernel_rfl) (fun _ _ _ h => h) (Or.inl ⟨by rfl, ?_⟩) (by assumption) ?_
    rotate_left
    · intro w hSw
      (try dsimp only at hSw)
      go_simp
      try with_reducible rfl
    try simp only [Act.put, List.setIfInBounds_toArray, List.set_cons_zero, List.set_cons_succ]
    refine wpAnyH_take (i := 1) (oi := ⟨some 105, _, _, _, _, _⟩) (v := ?_) rfl (by kernel_rfl) (by kernel_rfl) (by kernel_rfl) (fun _ _ _ h => h) (Or.inl ⟨by rfl, ?_⟩) (by assumption) ?_
    rotate_left
    · intro w hSw
      (try dsimp only at hSw)
      go_simp
      try with_reducible rfl
    try simp only [Act.put, List.setIfInBounds_toArray, List.set_cons_zero, List.set_cons_succ]
    refine wpAnyH_take (i := 2) (oi := ⟨some 106, _, _, _, _, _⟩) (v := ?_) rfl (by kernel_rfl) (by kernel_rfl) (by kernel_rfl) (fun _ _ _ h => h) (Or.inl ⟨by rfl, ?_⟩) (by assumption) ?_
    rotate_left
    · intro w hSw
      (try dsimp only at hSw)
      go_simp
      try with_reducible rfl
    try simp only [Act.put, List.setIfInBounds_toArray, List.set_cons_zero, List.set_cons_succ]
    refine wpAnyH_take (i := 3) (oi := ⟨some 107, _, _, _, _, _⟩) (v := ?_) rfl (by kernel_rfl) (by kernel_rfl) (by kernel_rfl) (fun _ _ _ h => h) (Or.inl ⟨by rfl, ?_⟩) (by assumption) ?_
    rotate_left
    · intro w hSw
      (try dsimp only at hSw)
      go_simp
      try with_reducible rfl
    try simp only [Act.put, List.setIfInBounds_toArray, List.set_cons_zero, List.set_cons_succ]
    refine wpAnyH_take (i := 4) (oi := ⟨some 108, _, _, _, _, _⟩) (v := ?_) rfl (by kernel_rfl) (by kernel_rfl) (by kernel_rfl) (fun _ _ _ h => h) (Or.inl ⟨by rfl, ?_⟩) (by assumption) ?_
    rotate_left
    · intro w hSw
      (try dsimp only at hSw)
      go_simp
      try with_reducible rfl
    try simp only [Act.put, List.setIfInBounds_toArray, List.set_cons_zero, List.set_cons_succ]
    refine wpAnyH_take (i := 6) (oi := ⟨some 110, _, _, _, _, _⟩) (v := ?_) rfl (by kernel_rfl) (by kernel_rfl) (by kernel_rfl) (fun _ _ _ h => h) (Or.inl ⟨by rfl, ?_⟩) (by assumption) ?_
    rotate_left
    · intro w hSw
      (try dsimp only at hSw)
      go_simp
      try with_reducible rfl
    try simp only [Act.put, List.setIfInBounds_toArray, List.set_cons_zero, List.set_cons_succ]
    refine wpAnyH_ready (rs := [5]) (by kernel_rfl) (by simp) ?_
    refine AllReadyH.cons (o := ⟨some 109, _, _, _, _, _⟩) rfl (fun K hK => ?_) AllReadyH.nil
    go_simp
    go_at_call 30
    refine (mul_r (hlu.below hj) (r9'.below hi).loose (lb.below hj) (by omega) (by omega) (by omega) (by omega)).mono ?_
    rintro e w' ⟨s7, A7, n7, c7, B7, m7, d7, rfl, r7, _, _, f7⟩
    replace hj := nextB hj f7
    replace hi := nextB hi f7
    go_wp2_with fail
    refine hK.out _ _ ⟨HCA2.out _ hj, HCB2.out _ hj, HC9.out _ hi⟩ (fun hHeld => ?_)
    clear hK K
    try simp only [Act.put, List.setIfInBounds_toArray, List.set_cons_zero, List.set_cons_succ]
    refine wpAnyH_ready (rs := [7]) (by kernel_rfl) (by simp) ?_
    refine AllReadyH.cons (o := ⟨some 111, _, _, _, _, _⟩) rfl (fun K hK => ?_) AllReadyH.nil
    go_simp
    go_at_call 27
    refine (norm_r (hlu.below hj) (la.below hj) (by omega) (by omega)).mono ?_
    rintro e w' ⟨s8, A8, n8, c8, B8, m8, d8, rfl, r8, _, _, f8⟩
    replace hj := nextB hj f8
    replace hi := nextB hi f8
    go_wp2_with fail
    refine hK.out _ _ ⟨HCA2.out _ hj, HCB2.out _ hj, HC9.out _ hi⟩ (fun hHeld => ?_)
    clear hK K
    try simp only [Act.put, List.setIfInBounds_toArray, List.set_cons_zero, List.set_cons_succ]
    refine wpAnyH_ready (rs := [8]) (by kernel_rfl) (by simp) ?_
    refine AllReadyH.cons (o := ⟨some 112, _, _, _, _, _⟩) rfl (fun K hK => ?_) AllReadyH.nil
    go_simp
    go_at_call 37
    refine (sameR_true (r7.below f8) r8 HSM.out).mono ?_
    rintro e w' ⟨rfl, f9⟩
    replace hj := nextB hj f9
    replace hi := nextB hi f9
    go_wp2_with fail
    refine hK.out _ _ ⟨HCA2.out _ hj, HCB2.out _ hj, HC9.out _ hi⟩ (fun hHeld => ?_)
    clear hK K
    try simp only [Act.put, List.setIfInBounds_toArray, List.set_cons_zero, List.set_cons_succ]
    refine wpAnyH_take (i := 9) (oi := ⟨some 113, _, _, _, _, _⟩) (v := ?_) rfl (by kernel_rfl) (by kernel_rfl) (by kernel_rfl) (fun _ _ _ h => h) (Or.inl ⟨by rfl, ?_⟩) (by assumption) ?_
    rotate_left
    · intro w hSw
      (try dsimp only at hSw)
      go_simp
      try with_reducible rfl
    try simp only [Act.put, List.setIfInBounds_toArray, List.set_cons_zero, List.set_cons_succ]
    refine wpAnyH_take (i := 10) (oi := ⟨some 114, _, _, _, _, _⟩) (v := ?_) rfl (by kernel_rfl) (by kernel_rfl) (by kernel_rfl) (fun _ _ _ h => h) (Or.inl ⟨by rfl, ?_⟩) (by assumption) ?_
    rotate_left
    · intro w hSw
      (try dsimp only at hSw)
      go_simp
      try with_reducible rfl
    try simp only [Act.put, List.setIfInBounds_toArray, List.set_cons_zero, List.set_cons_succ]
    refine wpAnyH_ready (rs := [11]) (by kernel_rfl) (by simp) ?_
    refine AllReadyH.cons (o := ⟨some 115, _, _, _, _, _⟩) rfl (fun K hK => ?_) AllReadyH.nil
    go_simp
    go_at_call 26
    refine (awake2_any _ (hlu.below hj)).mono ?_
    rintro e w' ⟨rfl, fA⟩
    replace hj := nextB hj fA
    replace hi := nextB hi fA
    go_wp2_with fail
    refine hK.out _ _ ⟨HCA2.out _ hj, HCB2.out _ hj, HC9.out _ hi⟩ (fun hHeld => ?_)
    clear hK K
    try simp only [Act.put, List.setIfInBounds_toArray, List.set_cons_zero, List.set_cons_succ]
    refine wpAnyH_take (i := 12) (oi := ⟨some 116, _, _, _, _, _⟩) (v := ?_) rfl (by kernel_rfl) (by kernel_rfl) (by kernel_rfl) (fun _ _ _ h => h) (Or.inl ⟨by rfl, ?_⟩) (by assumption) ?_
    rotate_left
    · intro w hSw
      (try dsimp only at hSw)
      go_simp
      try with_reducible rfl
    try simp only [Act.put, List.setIfInBounds_toArray, List.set_cons_zero, List.set_cons_succ]
    refine wpAnyH_take (i := 13) (oi := ⟨some 2, _, _, _, _, _⟩) (v := ?_) rfl (by kernel_rfl) (by kernel_rfl) (by kernel_rfl) (fun _ _ _ h => h) (Or.inl ⟨by rfl, ?_⟩) (by assumption) ?_
    rotate_left
    · intro w hSw
      (try dsimp only at hSw)
      go_simp
      try with_reducible rfl
    try simp only [Act.put, List.setIfInBounds_toArray, List.set_cons_zero, List.set_cons_succ]
    refine wpAnyH_done (by kernel_rfl) ?_ _
    go_wp2
    go_ret
    exact ⟨rfl, bwu.trans (hj.mono bwu.size)⟩

end Go.Proofs.YthnmjaaelhcbpaaDoor
