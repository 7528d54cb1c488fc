/-
  exactppllaw07.agrees: the program and the reference agree, for any type, values and cells.
-/
import Derived.Test.YtklndjkblfncjaaGreatDoorRTxt7
import Derived.Test.YtklndjkblfncjaaGreatDoorSm27
import Derived.Test.YtklndjkblfncjaaGreatDoorAwk7
namespace Go.Proofs.YtklndjkblfncjaaGreatDoor
open Go Go.RowKit
set_option maxRecDepth 20000

theorem IntRd.bd {bd bd' : Nat} {w : World} {Q : Option Addr} {n q : Nat} {L : List Int} (h : IntRd bd w Q n q L) (hb : bd ≤ bd') : IntRd bd' w Q n q L :=
  ⟨h.len, h.cap, h.top, fun hn => by
    obtain ⟨g, o, e, hg, hc⟩ := h.at_ hn
    exact ⟨g, o, e, Nat.lt_of_lt_of_le hg hb, hc⟩⟩
/-- What was there at w stands at W. -/
theorem Box2.setO {W : World} {b b' j : Nat} {x0 x1 y : Value} (h : Box2 W b x0 x1) (hb : b ≠ b') : Box2 (W.setCell ⟨b', j, none⟩ y) b x0 x1 := h.keep (Below.heap_setCell _ _ _ _ hb)

set_option maxHeartbeats 16000000 in
theorem agrees_x (S : Nat → Prop) (d : Nat) (hd : d ≤ 9) (T : Ty) (A : Option Addr) (n c : Nat) (w : World) (h : TyRd S w d T A n c)
    (S1 : Nat → Prop) (d1 : Nat) (V : Vl) (B : Option Addr) (m q : Nat) (hv : VlRd S1 w d1 V B m q) (hr1 : V.i ≤ 9223372036854775807)
    (S2 : Nat → Prop) (d2 : Nat) (U : Vl) (C : Option Addr) (m' q' : Nat) (hu : VlRd S2 w d2 U C m' q') (hr2 : U.i ≤ 9223372036854775807)
    (Q : Option Addr) (nq qq : Nat) (L : List Int) (hL : IntRd w.heap.size w Q nq qq L) (hr3 : ∀ x ∈ L, x ≤ 9223372036854775807) (ht : Tab w) :
    Calls Tryz.prog 8 #[tyV T A n c, vlV V B m q, vlV U C m' q', .slice Q nq qq] w (SaysTrue w) := by
  obtain ⟨v, hvv⟩ : ∃ v, (w.alloc (.cells #[.int .i64 T.k, .int .i64 T.lo, .int .i64 T.hi, .int .i64 T.mx, .slice A n c] 24)).alloc (.cells #[.int .i64 V.i, .slice B m q] 27) = v := ⟨_, rfl⟩
  obtain ⟨hvs, hwv, hbx⟩ := boxes_tv w _ _ _ _ _ _ _ _ _ v hvv
  obtain ⟨u, huu⟩ : ∃ u, v.alloc (.cells #[.int .i64 U.i, .slice C m' q'] 27) = u := ⟨_, rfl⟩
  have hvu : Below v.heap.size v u := huu ▸ allocB _ _
  have hb2 : Box2 u v.heap.size (.int .i64 U.i) (.slice C m' q') := huu ▸ box2_new _ _ _ _
  have hsu : v.heap.size < u.heap.size := World.block_lt_of_cell? u _ hb2.1
  have hwu := nextB hwv hvu
  rw [hvs] at hb2 hsu
  have HB : Hid (∀ W, Below u.heap.size u W → Box5 W w.heap.size (.int .i64 T.k) (.int .i64 T.lo) (.int .i64 T.hi) (.int .i64 T.mx) (.slice A n c) ∧ Box2 W (w.heap.size + 1) (.int .i64 V.i) (.slice B m q) ∧ Box2 W (w.heap.size + 2) (.int .i64 U.i) (.slice C m' q')) :=
    fun W hW => ⟨(hbx W (nextB hvu hW)).1, (hbx W (nextB hvu hW)).2, hb2.below hW hsu⟩
  have HUU : Hid (((w.alloc (.cells #[.int .i64 T.k, .int .i64 T.lo, .int .i64 T.hi, .int .i64 T.mx, .slice A n c] 24)).alloc (.cells #[.int .i64 V.i, .slice B m q] 27)).alloc (.cells #[.int .i64 U.i, .slice C m' q'] 27) = u) := by
    show _ = _
    rw [hvv]; exact huu
  have hd10 : d ≤ 10 := by omega
  have hT : ∀ W, Below u.heap.size u W → TyRd S W d T A n c := fun W hW => h.below (nextB hwu hW)
  have hV : ∀ W, Below u.heap.size u W → VlRd S1 W d1 V B m q := fun W hW => hv.below (nextB hwu hW)
  have hU : ∀ W, Below u.heap.size u W → VlRd S2 W d2 U C m' q' := fun W hW => hu.below (nextB hwu hW)
  have hQ : ∀ W, Below u.heap.size u W → IntRd W.heap.size W Q nq qq L := fun W hW => (hL.below (nextB hwu hW) (Nat.le_refl _)).bd (nextB hwu hW).size
  have hTb : ∀ W, Below u.heap.size u W → Tab W := fun W hW => ht.below (nextB hwu hW)
  have HZ : Hid (∀ W, Below u.heap.size u W → Calls Tryz.prog 19 #[tyV T A n c] W (OutVl (tyErr d T) d (vzero d T) W)) := fun W hW => Zero_e S d hd10 T A n c W (hT W hW)
  have HRZ : Hid (∀ W, Below u.heap.size u W → Calls Tryz.prog 20 #[tyV T A n c] W (OutVl (tyErr d T) d (vzero d T) W)) := fun W hW => RZero_e S d hd10 T A n c W (hT W hW)
  have HCK : Hid (∀ W, Below u.heap.size u W → Calls Tryz.prog 22 #[tyV T A n c, vlV V B m q] W (FaultIs (ckErr d T V) W)) := fun W hW => Check_e S d hd10 T A n c W (hT W hW) S1 d1 V B m q (hV W hW)
  have HRCK : Hid (∀ W, Below u.heap.size u W → Calls Tryz.prog 23 #[tyV T A n c, vlV V B m q] W (FaultIs (ckErr d T V) W)) := fun W hW => refCheck_h S d hd10 T A n c W (hT W hW) S1 d1 V B m q (hV W hW) (fun _ => hr1)
  have HFL : Hid (∀ W, Below u.heap.size u W → Calls Tryz.prog 16 #[tyV T A n c, vlV V B m q] W (OutInts (ckErr d T V) (vflat d T V) W)) := fun W hW => Flatten_e S d hd10 T A n c W (hT W hW) S1 d1 V B m q (hV W hW)
  have HRFL : Hid (∀ W, Below u.heap.size u W → Calls Tryz.prog 14 #[tyV T A n c, vlV V B m q] W (OutInts (ckErr d T V) (vflat d T V) W)) := fun W hW => RFlatten_e S d hd10 T A n c W (hT W hW) S1 d1 V B m q (hV W hW) (fun _ => hr1)
  have HUN : Hid (∀ W, Below u.heap.size u W → Calls Tryz.prog 17 #[tyV T A n c, .slice Q nq qq] W (OutVl (uErr d T L) d (vval d T L) W)) := fun W hW => Unflatten_e S d hd10 T A n c W (hT W hW) Q nq qq L (hQ W hW)
  have HRUN : Hid (∀ W, Below u.heap.size u W → Calls Tryz.prog 24 #[tyV T A n c, .slice Q nq qq] W (OutVl (uErr d T L) d (vval d T L) W)) := fun W hW => RUnflatten_e S d hd10 T A n c W (hT W hW) Q nq qq L (hQ W hW) hr3
  have HCP : Hid (∀ W, Below u.heap.size u W → Calls Tryz.prog 25 #[tyV T A n c, vlV V B m q, vlV U C m' q'] W (OutInt (cpErr d T V U) (vcmp (vflat d T V) (vflat d T U)) W)) := fun W hW => Compare_e S d hd10 T A n c W (hT W hW) S1 d1 V B m q (hV W hW) S2 d2 U C m' q' (hU W hW)
  have HRCP : Hid (∀ W, Below u.heap.size u W → Calls Tryz.prog 26 #[tyV T A n c, vlV V B m q, vlV U C m' q'] W (OutInt (cpErr d T V U) (vcmp (vflat d T V) (vflat d T U)) W)) := fun W hW => RCompare_e S d hd10 T A n c W (hT W hW) S1 d1 V B m q (hV W hW) (fun _ => hr1) S2 d2 U C m' q' (hU W hW) (fun _ => hr2)
  have HFM : Hid (∀ W, Below u.heap.size u W → Calls Tryz.prog 27 #[tyV T A n c, vlV V B m q] W (OutStr (ckErr d T V) (vfmt d T V) W)) := fun W hW => Format_e S d hd T A n c W (hT W hW) S1 d1 V B m q (hV W hW) (hTb W hW)
  have HRFM : Hid (∀ W, Below u.heap.size u W → Calls Tryz.prog 28 #[tyV T A n c, vlV V B m q] W (OutStr (ckErr d T V) (vfmt d T V) W)) := fun W hW => RFormat_e S d hd T A n c W (hT W hW) S1 d1 V B m q (hV W hW) (fun _ => hr1)
  have HWU := Lib.hid hwu
  clear h hv hu hr1 hr2 hr3 ht hL hvv hbx hvu hb2 hsu hwu hvs hwv huu hT hV hU hQ hTb hd hd10
  unfold OutVl OutInts OutInt OutStr at *
  generalize okVl (tyErr d T) (vzero d T) = Z at *
  generalize okInts (ckErr d T V) (vflat d T V) = l at *
  generalize okVl (uErr d T L) (vval d T L) = Y at *
  generalize okInt (cpErr d T V U) (vcmp (vflat d T V) (vflat d T U)) = x at *
  generalize okStr (ckErr d T V) (vfmt d T V) = s at *
  generalize tyErr d T = E1 at *
  generalize ckErr d T V = E2 at *
  generalize uErr d T L = E3 at *
  generalize cpErr d T V U = E4 at *
  obtain ⟨⟨p0, p1, p2, p3, p4⟩, ⟨q0, q1, _, _⟩, r0, r1, _, _⟩ := HB.out u (Below.refl _ _)
  go_enter Tryz.func8, Tryz.ntmps8
  go_wp2_with fail
  rw [HUU.out]
  refine (HZ.out u (Below.refl _ _)).mono ?_
  rintro e1 w1 ⟨B1, m1, kc1, rfl, hv1, hk1⟩
  have hx1 := allocB w1 (.cells #[.int .i64 Z.i, .slice B1 m1 kc1] 27)
  have hk1a := nextB hk1 hx1
  have hA1 := box2_new w1 (.int .i64 Z.i) (.slice B1 m1 kc1) 27
  have HV1 := Lib.hid (hv1.below hx1)
  have HA1 := Lib.hid hA1
  have HK1 := Lib.hid hk1a
  have HZ2 := Lib.hid (HRZ.out _ hk1a)
  have HS1 : Hid (u.heap.size ≤ w1.heap.size) := hk1.size
  clear p0 p1 p2 p3 p4 q0 q1 r0 r1 HZ HRZ hv1 hA1
  obtain ⟨⟨p0, p1, p2, p3, p4⟩, ⟨q0, q1, _, _⟩, r0, r1, _, _⟩ := HB.out _ hk1a
  clear hk1 hx1 hk1a
  go_wp2_with fail
  refine HZ2.out.mono ?_
  rintro e2 w2 ⟨B2, m2, kc2, rfl, hv2, hk2⟩
  obtain ⟨X, hX⟩ : ∃ X, w2.alloc (.cells #[.int .i64 Z.i, .slice B2 m2 kc2] 27) = X := ⟨_, rfl⟩
  have hx2 : Below w2.heap.size w2 X := hX ▸ allocB _ _
  have hkX := nextB (nextB HK1.out hk2) hx2
  have hA2 := (HA1.out.below hk2 (by simp)).below hx2 (by have := hk2.size; rw [World.size_alloc] at this; omega)
  have hB2 : Box2 X w2.heap.size (.int .i64 Z.i) (.slice B2 m2 kc2) := hX ▸ box2_new _ _ _ _
  have hVA := (HV1.out.below hk2).below hx2
  have hVB := hv2.below hx2
  have hsX : w2.heap.size < X.heap.size := World.block_lt_of_cell? X _ hB2.1
  have hs12 : w1.heap.size < w2.heap.size := by have := hk2.size; rw [World.size_alloc] at this; omega
  have HX3 : Hid (∀ W, Below X.heap.size X W → Box5 W w.heap.size (.int .i64 T.k) (.int .i64 T.lo) (.int .i64 T.hi) (.int .i64 T.mx) (.slice A n c) ∧ Box2 W (w.heap.size + 1) (.int .i64 V.i) (.slice B m q) ∧ Box2 W (w.heap.size + 2) (.int .i64 U.i) (.slice C m' q') ∧ Box2 W w1.heap.size (.int .i64 Z.i) (.slice B1 m1 kc1) ∧ Box2 W w2.heap.size (.int .i64 Z.i) (.slice B2 m2 kc2)) := fun W hW =>
    ⟨(HB.out W (nextB hkX hW)).1, (HB.out W (nextB hkX hW)).2.1, (HB.out W (nextB hkX hW)).2.2, hA2.below hW (by omega), hB2.below hW hsX⟩
  have HSM : Hid (∀ W, Below X.heap.size X W → Calls Tryz.prog 21 #[vlV Z B1 m1 kc1, vlV Z B2 m2 kc2] W (SaysTrue W)) := fun W hW => same_x (d + 1) _ _ Z B1 B2 m1 kc1 m2 kc2 (d + 1) W (hVA.below hW) (hVB.below hW)
  have KX := Lib.hid hkX
  have HX := Lib.hid hX
  have HS12 : Hid (u.heap.size ≤ w1.heap.size ∧ w1.heap.size < w2.heap.size ∧ w2.heap.size < X.heap.size) := ⟨HS1.out, hs12, hsX⟩
  clear p0 p1 p2 p3 p4 q0 q1 r0 r1 HZ2 hv2 hk2 hx2 hkX hA2 hB2 hVA hVB hsX hs12 HV1 HA1 HK1 HS1 hX
  go_wp2_with fail
  rw [HX.out]
  have hk := (Below.refl X.heap.size X).drew
  refine wp_region_held_drew (S := fun W => Below X.heap.size X W) (by kernel_rfl) hk (fun hHeld => ?_)
  refine tkH (i := 0) (oi := ⟨some 29, _, _, _, _, _⟩) (v := ?_) ?_ ?_
  rotate_left
  · intro w hSw; go_simp; try with_reducible rfl
  try simp only [Act.put, List.setIfInBounds_toArray, List.set_cons_zero, List.set_cons_succ]
  refine tkH (i := 1) (oi := ⟨some 30, _, _, _, _, _⟩) (v := ?_) ?_ ?_
  rotate_left
  · intro w hSw; go_simp; try with_reducible rfl
  try simp only [Act.put, List.setIfInBounds_toArray, List.set_cons_zero, List.set_cons_succ]
  refine tkH (i := 2) (oi := ⟨some 31, _, _, _, _, _⟩) (v := ?_) ?_ ?_
  rotate_left
  · intro w hSw; go_simp; try with_reducible rfl
  try simp only [Act.put, List.setIfInBounds_toArray, List.set_cons_zero, List.set_cons_succ]
  refine tkH (i := 3) (oi := ⟨some 32, _, _, _, _, _⟩) (v := ?_) ?_ ?_
  rotate_left
  · intro w hSw; go_simp; try with_reducible rfl
  try simp only [Act.put, List.setIfInBounds_toArray, List.set_cons_zero, List.set_cons_succ]
  refine tkH (i := 4) (oi := ⟨some 33, _, _, _, _, _⟩) (v := ?_) ?_ ?_
  rotate_left
  · intro w hSw
    obtain ⟨⟨p0, p1, p2, p3, p4⟩, ⟨q0, q1, _, _⟩, ⟨r0, r1, _, _⟩, ⟨a0, a1, _, _⟩, b0, b1, _, _⟩ := HX3.out w hSw
    go_simp
    try with_reducible rfl
  try simp only [Act.put, List.setIfInBounds_toArray, List.set_cons_zero, List.set_cons_succ]
  refine tkH (i := 5) (oi := ⟨some 34, _, _, _, _, _⟩) (v := ?_) ?_ ?_
  rotate_left
  · intro w hSw
    obtain ⟨⟨p0, p1, p2, p3, p4⟩, ⟨q0, q1, _, _⟩, ⟨r0, r1, _, _⟩, ⟨a0, a1, _, _⟩, b0, b1, _, _⟩ := HX3.out w hSw
    go_simp
    try with_reducible rfl
  try simp only [Act.put, List.setIfInBounds_toArray, List.set_cons_zero, List.set_cons_succ]
  refine wpAnyH_ready (rs := [6]) (by kernel_rfl) (by simp) ?_
  refine AllReadyH.cons (o := ⟨some 35, _, _, _, _, _⟩) rfl (fun K hK => ?_) AllReadyH.nil
  go_simp
  go_at_call 21
  (with_reducible refine (HSM.out _ hk).mono ?_)
  rintro e w5 ⟨rfl, hb5⟩
  replace hk := hk.trans (hb5.mono hk.size)
  clear hb5
  go_wp2_with fail
  refine hK.out _ _ hk (fun hHeld => ?_)
  clear hK K
  try simp only [Act.put, List.setIfInBounds_toArray, List.set_cons_zero, List.set_cons_succ]
  refine tkH (i := 7) (oi := ⟨some 36, _, _, _, _, _⟩) (v := ?_) ?_ ?_
  rotate_left
  · intro w hSw; go_simp; try with_reducible rfl
  try simp only [Act.put, List.setIfInBounds_toArray, List.set_cons_zero, List.set_cons_succ]
  refine tkH (i := 8) (oi := ⟨some 37, _, _, _, _, _⟩) (v := ?_) ?_ ?_
  rotate_left
  · intro w hSw; go_simp; try with_reducible rfl
  try simp only [Act.put, List.setIfInBounds_toArray, List.set_cons_zero, List.set_cons_succ]
  refine tkH (i := 9) (oi := ⟨some 38, _, _, _, _, _⟩) (v := ?_) ?_ ?_
  rotate_left
  · intro w hSw; go_simp; try with_reducible rfl
  try simp only [Act.put, List.setIfInBounds_toArray, List.set_cons_zero, List.set_cons_succ]
  refine tkH (i := 10) (oi := ⟨some 39, _, _, _, _, _⟩) (v := ?_) ?_ ?_
  rotate_left
  · intro w hSw
    obtain ⟨⟨p0, p1, p2, p3, p4⟩, ⟨q0, q1, _, _⟩, ⟨r0, r1, _, _⟩, ⟨a0, a1, _, _⟩, b0, b1, _, _⟩ := HX3.out w hSw
    go_simp
    try with_reducible rfl
  try simp only [Act.put, List.setIfInBounds_toArray, List.set_cons_zero, List.set_cons_succ]
  refine tkH (i := 11) (oi := ⟨some 40, _, _, _, _, _⟩) (v := ?_) ?_ ?_
  rotate_left
  · intro w hSw
    obtain ⟨⟨p0, p1, p2, p3, p4⟩, ⟨q0, q1, _, _⟩, ⟨r0, r1, _, _⟩, ⟨a0, a1, _, _⟩, b0, b1, _, _⟩ := HX3.out w hSw
    go_simp
    try with_reducible rfl
  try simp only [Act.put, List.setIfInBounds_toArray, List.set_cons_zero, List.set_cons_succ]
  refine tkH (i := 13) (oi := ⟨some 42, _, _, _, _, _⟩) (v := ?_) ?_ ?_
  rotate_left
  · intro w hSw
    obtain ⟨⟨p0, p1, p2, p3, p4⟩, ⟨q0, q1, _, _⟩, ⟨r0, r1, _, _⟩, ⟨a0, a1, _, _⟩, b0, b1, _, _⟩ := HX3.out w hSw
    go_simp
    try with_reducible rfl
  try simp only [Act.put, List.setIfInBounds_toArray, List.set_cons_zero, List.set_cons_succ]
  refine tkH (i := 14) (oi := ⟨some 43, _, _, _, _, _⟩) (v := ?_) ?_ ?_
  rotate_left
  · intro w hSw
    obtain ⟨⟨p0, p1, p2, p3, p4⟩, ⟨q0, q1, _, _⟩, ⟨r0, r1, _, _⟩, ⟨a0, a1, _, _⟩, b0, b1, _, _⟩ := HX3.out w hSw
    go_simp
    try with_reducible rfl
  try simp only [Act.put, List.setIfInBounds_toArray, List.set_cons_zero, List.set_cons_succ]
  refine wpAnyH_ready (rs := [12]) (by kernel_rfl) (by simp) ?_
  refine AllReadyH.cons (o := ⟨some 41, _, _, _, _, _⟩) rfl (fun K hK => ?_) AllReadyH.nil
  go_simp
  go_at_call 22
  (with_reducible refine (HCK.out _ (nextB KX.out hk)).mono ?_)
  rintro e w5 ⟨rfl, hb5⟩
  replace hk := hk.trans (hb5.mono hk.size)
  clear hb5
  go_wp2_with fail
  refine hK.out _ _ hk (fun hHeld => ?_)
  clear hK K
  try simp only [Act.put, List.setIfInBounds_toArray, List.set_cons_zero, List.set_cons_succ]
  refine wpAnyH_ready (rs := [15]) (by kernel_rfl) (by simp) ?_
  refine AllReadyH.cons (o := ⟨some 44, _, _, _, _, _⟩) rfl (fun K hK => ?_) AllReadyH.nil
  go_simp
  go_at_call 23
  (with_reducible refine (HRCK.out _ (nextB KX.out hk)).mono ?_)
  rintro e w5 ⟨rfl, hb5⟩
  replace hk := hk.trans (hb5.mono hk.size)
  clear hb5
  go_wp2_with fail
  refine hK.out _ _ hk (fun hHeld => ?_)
  clear hK K
  try simp only [Act.put, List.setIfInBounds_toArray, List.set_cons_zero, List.set_cons_succ]
  refine tkH (i := 16) (oi := ⟨some 45, _, _, _, _, _⟩) (v := ?_) ?_ ?_
  rotate_left
  · intro w hSw; go_simp; try with_reducible rfl
  try simp only [Act.put, List.setIfInBounds_toArray, List.set_cons_zero, List.set_cons_succ]
  refine tkH (i := 17) (oi := ⟨some 46, _, _, _, _, _⟩) (v := ?_) ?_ ?_
  rotate_left
  · intro w hSw; go_simp; try with_reducible rfl
  try simp only [Act.put, List.setIfInBounds_toArray, List.set_cons_zero, List.set_cons_succ]
  refine wpAnyH_done (by kernel_rfl) ?_ _
  clear hHeld HSM HCK HRCK
  obtain ⟨⟨p0, p1, p2, p3, p4⟩, ⟨q0, q1, _, _⟩, ⟨r0, r1, _, _⟩, hA5, hB5⟩ := HX3.out _ hk
  have HAB := Lib.hid (And.intro hA5 hB5)
  have K5 := Lib.hid (nextB KX.out hk)
  have HF5 := Lib.hid (HFL.out _ K5.out)
  have HSZ : Hid (X.heap.size ≤ w5.heap.size) := hk.size
  clear HFL hk hA5 hB5 HX3 KX HX
  go_wp2_with fail
  refine HF5.out.mono ?_
  rintro e6 w6 ⟨Q6, n6, kc6, rfl, hO6, hk6⟩
  have K6 := Lib.hid (nextB K5.out hk6)
  have HAB6 : Hid (Box2 w6 w1.heap.size (.int .i64 Z.i) (.slice B1 m1 kc1) ∧ Box2 w6 w2.heap.size (.int .i64 Z.i) (.slice B2 m2 kc2)) := ⟨HAB.out.1.below hk6 (by have := HS12.out; have := HSZ.out; omega), HAB.out.2.below hk6 (by have := HS12.out; have := HSZ.out; omega)⟩
  have HSZ6 : Hid (X.heap.size ≤ w6.heap.size) := Nat.le_trans HSZ.out hk6.size
  have HO6 := Lib.hid hO6
  have HF6 := Lib.hid (HRFL.out _ K6.out)
  clear p0 p1 p2 p3 p4 q0 q1 r0 r1 HF5 HRFL hk6 hO6 HAB K5 HSZ
  obtain ⟨⟨p0, p1, p2, p3, p4⟩, ⟨q0, q1, _, _⟩, r0, r1, _, _⟩ := HB.out _ K6.out
  go_wp2_with fail
  refine HF6.out.mono ?_
  rintro e7 w7 ⟨Q7, n7, kc7, rfl, hO7, hk7⟩
  have K7 := Lib.hid (nextB K6.out hk7)
  have HAB7 : Hid (Box2 w7 w1.heap.size (.int .i64 Z.i) (.slice B1 m1 kc1) ∧ Box2 w7 w2.heap.size (.int .i64 Z.i) (.slice B2 m2 kc2)) := ⟨HAB6.out.1.below hk7 (by have := HS12.out; have := HSZ6.out; omega), HAB6.out.2.below hk7 (by have := HS12.out; have := HSZ6.out; omega)⟩
  have HSZ7 : Hid (X.heap.size ≤ w7.heap.size) := Nat.le_trans HSZ6.out hk7.size
  have hO6' := HO6.out.below hk7
  obtain rfl : n6 = n7 := by have := hO6'.len; have := hO7.len; omega
  have HI7 := Lib.hid (same_ints w7.heap.size Q6 Q7 n6 kc6 kc7 l w7 (Nat.le_refl _) (hO6'.rd fun a ha => (row_lt hO6'.row a ha).2) (hO7.rd fun a ha => (row_lt hO7.row a ha).2))
  clear p0 p1 p2 p3 p4 q0 q1 r0 r1 HF6 hk7 hO7 hO6' HO6 HAB6 K6 HSZ6
  go_wp2_with fail
  refine HI7.out.mono ?_
  rintro e8 w8 ⟨rfl, hk8⟩
  have K8 := Lib.hid (nextB K7.out hk8)
  have HAB8 : Hid (Box2 w8 w1.heap.size (.int .i64 Z.i) (.slice B1 m1 kc1) ∧ Box2 w8 w2.heap.size (.int .i64 Z.i) (.slice B2 m2 kc2)) := ⟨HAB7.out.1.below hk8 (by have := HS12.out; have := HSZ7.out; omega), HAB7.out.2.below hk8 (by have := HS12.out; have := HSZ7.out; omega)⟩
  have HSZ8 : Hid (X.heap.size ≤ w8.heap.size) := Nat.le_trans HSZ7.out hk8.size
  have HU8 := Lib.hid (HUN.out _ K8.out)
  clear HI7 hk8 HAB7 K7 HSZ7 HUN
  obtain ⟨⟨p0, p1, p2, p3, p4⟩, ⟨q0, q1, _, _⟩, r0, r1, _, _⟩ := HB.out _ K8.out
  go_wp2_with fail
  refine HU8.out.mono ?_
  rintro e9 w9 ⟨B9, m9, kc9, rfl, hv9, hk9⟩
  have hA9 := HAB8.out.1.below hk9 (by have := HS12.out; have := HSZ8.out; omega)
  have hB9 := HAB8.out.2.below hk9 (by have := HS12.out; have := HSZ8.out; omega)
  have hne : w2.heap.size ≠ w1.heap.size := by have := HS12.out; omega
  have hK9 : Below u.heap.size u ((w9.setCell ⟨w1.heap.size, 0, none⟩ (.int .i64 Y.i)).setCell ⟨w1.heap.size, 1, none⟩ (.slice B9 m9 kc9)) :=
    ((nextB K8.out hk9).setCell (p := ⟨w1.heap.size, 0, none⟩) HS12.out.1 _).setCell (p := ⟨w1.heap.size, 1, none⟩) HS12.out.1 _
  have HA9 : Hid (Box2 ((w9.setCell ⟨w1.heap.size, 0, none⟩ (.int .i64 Y.i)).setCell ⟨w1.heap.size, 1, none⟩ (.slice B9 m9 kc9)) w1.heap.size (.int .i64 Y.i) (.slice B9 m9 kc9)) := (hA9.set0 _).set1 _
  have HB9 : Hid (Box2 ((w9.setCell ⟨w1.heap.size, 0, none⟩ (.int .i64 Y.i)).setCell ⟨w1.heap.size, 1, none⟩ (.slice B9 m9 kc9)) w2.heap.size (.int .i64 Z.i) (.slice B2 m2 kc2)) := (hB9.setO hne).setO hne
  have HV9 : Hid (VlRd (fun b => w8.heap.size ≤ b) ((w9.setCell ⟨w1.heap.size, 0, none⟩ (.int .i64 Y.i)).setCell ⟨w1.heap.size, 1, none⟩ (.slice B9 m9 kc9)) (d + 1) Y B9 m9 kc9) := (hv9.set (fun x hx => by have := HS12.out; have := HSZ8.out; omega)).set (fun x hx => by have := HS12.out; have := HSZ8.out; omega)
  have HSZ9 : Hid (X.heap.size ≤ ((w9.setCell ⟨w1.heap.size, 0, none⟩ (.int .i64 Y.i)).setCell ⟨w1.heap.size, 1, none⟩ (.slice B9 m9 kc9)).heap.size) := by
    show _ ≤ _
    have h2 := hk9.size
    have h3 := HSZ8.out
    simp [World.setCell]; omega
  have K9 := Lib.hid hK9
  have HU9 := Lib.hid (HRUN.out _ hK9)
  obtain ⟨a0, a1, af0, af1⟩ := hA9
  clear p0 p1 p2 p3 p4 q0 q1 r0 r1 HU8 HRUN hv9 hk9 hB9 hK9 K8
  obtain ⟨⟨p0, p1, p2, p3, p4⟩, ⟨q0, q1, _, _⟩, r0, r1, _, _⟩ := HB.out _ K9.out
  go_wp2_with fail
  refine HU9.out.mono ?_
  rintro e10 w10 ⟨B10, m10, kc10, rfl, hv10, hk10⟩
  have hlt1 := Nat.lt_of_lt_of_le (Nat.lt_trans HS12.out.2.1 HS12.out.2.2) HSZ9.out
  have hlt2 := Nat.lt_of_lt_of_le HS12.out.2.2 HSZ9.out
  have hA10 := HA9.out.below hk10 hlt1
  have hB10 := HB9.out.below hk10 hlt2
  have hK10 : Below u.heap.size u ((w10.setCell ⟨w2.heap.size, 0, none⟩ (.int .i64 Y.i)).setCell ⟨w2.heap.size, 1, none⟩ (.slice B10 m10 kc10)) :=
    ((nextB K9.out hk10).setCell (p := ⟨w2.heap.size, 0, none⟩) (Nat.le_of_lt (Nat.lt_of_le_of_lt HS12.out.1 HS12.out.2.1)) _).setCell (p := ⟨w2.heap.size, 1, none⟩) (Nat.le_of_lt (Nat.lt_of_le_of_lt HS12.out.1 HS12.out.2.1)) _
  obtain ⟨y0, y1, _, _⟩ := (hA10.setO (j := 0) (y := .int .i64 Y.i) (Ne.symm hne)).setO (j := 1) (y := .slice B10 m10 kc10) (Ne.symm hne)
  obtain ⟨z0, z1, _, _⟩ := (hB10.set0 (.int .i64 Y.i)).set1 (.slice B10 m10 kc10)
  have hVA10 : VlRd (fun b => w8.heap.size ≤ b) ((w10.setCell ⟨w2.heap.size, 0, none⟩ (.int .i64 Y.i)).setCell ⟨w2.heap.size, 1, none⟩ (.slice B10 m10 kc10)) (d + 1) Y B9 m9 kc9 := ((HV9.out.below hk10).set (fun x hx => by have := HS12.out; have := HSZ8.out; omega)).set (fun x hx => by have := HS12.out; have := HSZ8.out; omega)
  have hVB10 := (hv10.set (b := w2.heap.size) (j := 0) (u := .int .i64 Y.i) (fun x hx => by omega)).set (b := w2.heap.size) (j := 1) (u := .slice B10 m10 kc10) (fun x hx => by omega)
  have HS10 := Lib.hid (same_x (d + 1) _ _ Y B9 B10 m9 kc9 m10 kc10 (d + 1) _ hVA10 hVB10)
  have K10 := Lib.hid hK10
  obtain ⟨b0, b1, bf0, bf1⟩ := hB10
  clear p0 p1 p2 p3 p4 q0 q1 r0 r1 a0 a1 af0 af1 HU9 hv10 hk10 hA10 hVA10 hVB10 hK10 K9 HA9 HB9 HV9 HSZ9 HSZ8 HAB8 hlt1 hlt2 hne
  go_wp2_with fail
  refine HS10.out.mono ?_
  rintro e11 w11 ⟨rfl, hk11⟩
  have K11 := Lib.hid (nextB K10.out hk11)
  have HC11 := Lib.hid (HCP.out _ K11.out)
  clear y0 y1 z0 z1 b0 b1 bf0 bf1 hk11 K10 HS10 HCP
  obtain ⟨⟨p0, p1, p2, p3, p4⟩, ⟨q0, q1, _, _⟩, r0, r1, _, _⟩ := HB.out _ K11.out
  go_wp2_with fail
  refine HC11.out.mono ?_
  rintro e12 w12 ⟨rfl, hk12⟩
  have K12 := Lib.hid (nextB K11.out hk12)
  have HC12 := Lib.hid (HRCP.out _ K12.out)
  clear p0 p1 p2 p3 p4 q0 q1 r0 r1 hk12 K11 HC11 HRCP
  obtain ⟨⟨p0, p1, p2, p3, p4⟩, ⟨q0, q1, _, _⟩, r0, r1, _, _⟩ := HB.out _ K12.out
  go_wp2_with fail
  refine HC12.out.mono ?_
  rintro e13 w13 ⟨rfl, hk13⟩
  have K13 := Lib.hid (nextB K12.out hk13)
  have HF13 := Lib.hid (HFM.out _ K13.out)
  clear p0 p1 p2 p3 p4 q0 q1 r0 r1 hk13 K12 HC12 HFM
  obtain ⟨⟨p0, p1, p2, p3, p4⟩, ⟨q0, q1, _, _⟩, r0, r1, _, _⟩ := HB.out _ K13.out
  go_wp2_with fail
  refine HF13.out.mono ?_
  rintro e14 w14 ⟨rfl, hk14⟩
  have K14 := Lib.hid (nextB K13.out hk14)
  have HF14 := Lib.hid (HRFM.out _ K14.out)
  clear p0 p1 p2 p3 p4 q0 q1 r0 r1 hk14 K13 HF13 HRFM
  obtain ⟨⟨p0, p1, p2, p3, p4⟩, ⟨q0, q1, _, _⟩, r0, r1, _, _⟩ := HB.out _ K14.out
  go_wp2_with fail
  refine HF14.out.mono ?_
  rintro e15 w15 ⟨rfl, hk15⟩
  have K15 := Lib.hid (nextB HWU.out (nextB K14.out hk15))
  clear p0 p1 p2 p3 p4 q0 q1 r0 r1 hk15 K14 HF14
  go_wp2
  go_ret
  exact ⟨rfl, K15.out⟩
end Go.Proofs.YtklndjkblfncjaaGreatDoor
