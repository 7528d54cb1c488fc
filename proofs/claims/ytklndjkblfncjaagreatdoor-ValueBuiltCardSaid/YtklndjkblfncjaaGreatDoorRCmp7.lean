/-
  The reference's Compare of any types and values.
-/
import Derived.Test.YtklndjkblfncjaaGreatDoorRTop7
namespace Go.Proofs.YtklndjkblfncjaaGreatDoor
open Go Go.RowKit
set_option maxRecDepth 20000

set_option maxHeartbeats 8000000 in
theorem RCompare_e (S : Nat → Prop) (d : Nat) (hd : d ≤ 10) (T : Ty) (A : Option Addr) (n c : Nat) (w : World) (h : TyRd S w d T A n c)
    (S1 : Nat → Prop) (d1 : Nat) (V : Vl) (B : Option Addr) (m q : Nat) (hv : VlRd S1 w d1 V B m q) (hr3 : T.k = 3 → V.i ≤ 9223372036854775807)
    (S2 : Nat → Prop) (d2 : Nat) (V' : Vl) (B' : Option Addr) (m' q' : Nat) (hv' : VlRd S2 w d2 V' B' m' q') (hr3' : T.k = 3 → V'.i ≤ 9223372036854775807) :
    Calls Tryz.prog 26 #[tyV T A n c, vlV V B m q, vlV V' B' m' q'] w (OutInt (cpErr d T V V') (vcmp (vflat d T V) (vflat d T V')) w) := by
  obtain ⟨v, hvv⟩ : ∃ v, (w.alloc (.cells #[.int .i64 T.k, .int .i64 T.lo, .int .i64 T.hi, .int .i64 T.mx, .slice A n c] 24)).alloc (.cells #[.int .i64 V.i, .slice B m q] 27) = v := ⟨_, rfl⟩
  obtain ⟨hvs, hwv, hbx⟩ := boxes_tv w _ _ _ _ _ _ _ _ _ v hvv
  obtain ⟨u, hu⟩ : ∃ u, v.alloc (.cells #[.int .i64 V'.i, .slice B' m' q'] 27) = u := ⟨_, rfl⟩
  have hvu : Below v.heap.size v u := hu ▸ allocB _ _
  have hb2 : Box2 u v.heap.size (.int .i64 V'.i) (.slice B' m' q') := hu ▸ box2_new _ _ _ _
  have hsu : v.heap.size < u.heap.size := World.block_lt_of_cell? u _ hb2.1
  have hwu := nextB hwv hvu
  rw [hvs] at hb2 hsu
  have HBX : Hid (∀ W, Below u.heap.size u W → Box5 W w.heap.size (.int .i64 T.k) (.int .i64 T.lo) (.int .i64 T.hi) (.int .i64 T.mx) (.slice A n c) ∧ Box2 W (w.heap.size + 1) (.int .i64 V.i) (.slice B m q) ∧ Box2 W (w.heap.size + 2) (.int .i64 V'.i) (.slice B' m' q')) :=
    fun W hW => ⟨(hbx W (nextB hvu hW)).1, (hbx W (nextB hvu hW)).2, hb2.below hW hsu⟩
  have HF : Hid (Calls Tryz.prog 23 #[tyV T A n c, vlV V B m q] u (FaultIs (ckErr d T V) u)) := refCheck_h S d hd T A n c u (h.below hwu) S1 d1 V B m q (hv.below hwu) hr3
  have HC2 : Hid (∀ W, Below u.heap.size u W → Calls Tryz.prog 23 #[tyV T A n c, vlV V' B' m' q'] W (FaultIs (ckErr d T V') W)) := fun W hW => refCheck_h S d hd T A n c W (h.below (nextB hwu hW)) S2 d2 V' B' m' q' (hv'.below (nextB hwu hW)) hr3'
  have HF1 : Hid (∀ W, Below u.heap.size u W → ckErr d T V = 0 → Calls Tryz.prog 31 #[tyV T A n c, vlV V B m q] W (GivesNew (vflat d T V) W)) := fun W hW h0 => by
    obtain ⟨h1, h2⟩ := ckErr_zero h0
    obtain ⟨hg, hk⟩ := tyErr_good h1 hd
    exact flat_x d S T A n c S1 d1 V B m q W (h.below (nextB hwu hW)) hg.ok (hv.below (nextB hwu hW)) h2 (Nat.le_trans (flat_small h hg h2) (by decide))
  have HF2 : Hid (∀ W, Below u.heap.size u W → ckErr d T V' = 0 → Calls Tryz.prog 31 #[tyV T A n c, vlV V' B' m' q'] W (GivesNew (vflat d T V') W)) := fun W hW h0 => by
    obtain ⟨h1, h2⟩ := ckErr_zero h0
    obtain ⟨hg, hk⟩ := tyErr_good h1 hd
    exact flat_x d S T A n c S2 d2 V' B' m' q' W (h.below (nextB hwu hW)) hg.ok (hv'.below (nextB hwu hW)) h2 (Nat.le_trans (flat_small h hg h2) (by decide))
  have HU : Hid (((w.alloc (.cells #[.int .i64 T.k, .int .i64 T.lo, .int .i64 T.hi, .int .i64 T.mx, .slice A n c] 24)).alloc (.cells #[.int .i64 V.i, .slice B m q] 27)).alloc (.cells #[.int .i64 V'.i, .slice B' m' q'] 27) = u) := by
    show _ = _
    rw [hvv]; exact hu
  have HWU := Lib.hid hwu
  have hdef : cpErr d T V V' = if ckErr d T V ≠ 0 then ckErr d T V else ckErr d T V' := rfl
  obtain ⟨x, hx⟩ : ∃ x, ckErr d T V = x := ⟨_, rfl⟩
  obtain ⟨y, hy⟩ : ∃ y, ckErr d T V' = y := ⟨_, rfl⟩
  obtain ⟨z, hz⟩ : ∃ z, cpErr d T V V' = z := ⟨_, rfl⟩
  rw [hx, hy, hz] at hdef
  rw [hx] at HF HF1
  rw [hy] at HC2 HF2
  rw [hz]
  have HD := Lib.hid hdef
  clear h hv hv' hvv hu hbx hvu hb2 hsu hwu hvs hwv hdef hx hy hz hr3 hr3'
  generalize vflat d T V = L at *
  generalize vflat d T V' = M at *
  go_enter Tryz.func26, Tryz.ntmps26
  go_wp2_with fail
  rw [HU.out]
  refine HF.out.mono ?_
  rintro e1 w1 ⟨rfl, hb1⟩
  obtain ⟨⟨p0, p1, p2, p3, p4⟩, ⟨r0, r1, _, _⟩, s0, s1, _, _⟩ := HBX.out w1 hb1
  have HC1 := Lib.hid (HC2.out w1 hb1)
  have HB1 := Lib.hid hb1
  clear HF HC2 hb1
  have hD := HD.out
  clear HD
  by_cases hx0 : x = 0
  · subst hx0
    rw [if_neg (by decide)] at hD
    subst hD
    replace HF1 : Hid (∀ W, Below u.heap.size u W → Calls Tryz.prog 31 #[tyV T A n c, vlV V B m q] W (GivesNew L W)) := fun W hW => HF1.out W hW rfl
    go_wp2_with fail
    refine HC1.out.mono ?_
    rintro e2 w2 ⟨rfl, hb2⟩
    have HK2 := Lib.hid (nextB HB1.out hb2)
    clear hb2 HC1 HB1 p0 p1 p2 p3 p4 r0 r1 s0 s1
    by_cases hz0 : z = 0
    · subst hz0
      replace HF2 : Hid (∀ W, Below u.heap.size u W → Calls Tryz.prog 31 #[tyV T A n c, vlV V' B' m' q'] W (GivesNew M W)) := fun W hW => HF2.out W hW rfl
      go_wp2_with fail
      have hk := (Below.refl w2.heap.size w2).drew
      refine wp_region_held_drew (S := fun W => Below u.heap.size u W) (by kernel_rfl) (nextB HK2.out hk) (fun hHeld => ?_)
      refine tkH (i := 0) (oi := ⟨some 22, _, _, _, _, _⟩) (v := ?_) ?_ ?_
      rotate_left
      · intro w hSw
        obtain ⟨⟨p0, p1, p2, p3, p4⟩, ⟨q0, q1, _, _⟩, r0, r1, _, _⟩ := HBX.out w hSw
        go_simp
        try with_reducible rfl
      try simp only [Act.put, List.setIfInBounds_toArray, List.set_cons_zero, List.set_cons_succ]
      refine tkH (i := 1) (oi := ⟨some 23, _, _, _, _, _⟩) (v := ?_) ?_ ?_
      rotate_left
      · intro w hSw
        obtain ⟨⟨p0, p1, p2, p3, p4⟩, ⟨q0, q1, _, _⟩, r0, r1, _, _⟩ := HBX.out w hSw
        go_simp
        try with_reducible rfl
      try simp only [Act.put, List.setIfInBounds_toArray, List.set_cons_zero, List.set_cons_succ]
      refine tkH (i := 3) (oi := ⟨some 25, _, _, _, _, _⟩) (v := ?_) ?_ ?_
      rotate_left
      · intro w hSw
        obtain ⟨⟨p0, p1, p2, p3, p4⟩, ⟨q0, q1, _, _⟩, r0, r1, _, _⟩ := HBX.out w hSw
        go_simp
        try with_reducible rfl
      try simp only [Act.put, List.setIfInBounds_toArray, List.set_cons_zero, List.set_cons_succ]
      refine tkH (i := 4) (oi := ⟨some 26, _, _, _, _, _⟩) (v := ?_) ?_ ?_
      rotate_left
      · intro w hSw
        obtain ⟨⟨p0, p1, p2, p3, p4⟩, ⟨q0, q1, _, _⟩, r0, r1, _, _⟩ := HBX.out w hSw
        go_simp
        try with_reducible rfl
      try simp only [Act.put, List.setIfInBounds_toArray, List.set_cons_zero, List.set_cons_succ]
      refine wpAnyH_ready (rs := [2]) (by kernel_rfl) (by simp) ?_
      refine AllReadyH.cons (o := ⟨some 24, _, _, _, _, _⟩) rfl (fun K hK => ?_) AllReadyH.nil
      go_simp
      go_at_call 31
      (with_reducible refine (HF1.out _ (nextB HK2.out hk)).mono ?_)
      rintro e3 w3 ⟨Q3, n3, q3, rfl, hO3, hb3⟩
      replace hk := hk.trans (hb3.mono hk.size)
      have HO3 := Lib.hid hO3.own
      clear hO3
      go_wp2_with fail
      refine hK.out _ _ (nextB HK2.out hk) (fun hHeld => ?_)
      clear hK K
      try simp only [Act.put, List.setIfInBounds_toArray, List.set_cons_zero, List.set_cons_succ]
      refine wpAnyH_ready (rs := [5]) (by kernel_rfl) (by simp) ?_
      refine AllReadyH.cons (o := ⟨some 27, _, _, _, _, _⟩) rfl (fun K hK => ?_) AllReadyH.nil
      go_simp
      go_at_call 31
      (with_reducible refine (HF2.out _ (nextB HK2.out hk)).mono ?_)
      rintro e4 w4 ⟨Q4, n4, q4, rfl, hO4, hb4⟩
      replace hk := hk.trans (hb4.mono hk.size)
      have HO3b := Lib.hid (HO3.out.below hb4)
      have HO4 := Lib.hid hO4.own
      clear hO4 HO3
      go_wp2_with fail
      refine hK.out _ _ (nextB HK2.out hk) (fun hHeld => ?_)
      clear hK K
      try simp only [Act.put, List.setIfInBounds_toArray, List.set_cons_zero, List.set_cons_succ]
      refine wpAnyH_ready (rs := [6]) (by kernel_rfl) (by simp) ?_
      refine AllReadyH.cons (o := ⟨some 28, _, _, _, _, _⟩) rfl (fun K hK => ?_) AllReadyH.nil
      go_simp
      go_at_call 45
      have HCI := Lib.hid (cmpInts_x w4.heap.size Q3 Q4 n3 q3 n4 q4 L M w4 (Nat.le_refl _) (HO3b.out.rd fun a ha => (row_lt HO3b.out.row a ha).2) (HO4.out.rd fun a ha => (row_lt HO4.out.row a ha).2))
      (with_reducible refine HCI.out.mono ?_)
      rintro e5 w5 ⟨rfl, hb5⟩
      replace hk := hk.trans (hb5.mono hk.size)
      clear HCI HO3b HO4
      go_wp2_with fail
      refine hK.out _ _ (nextB HK2.out hk) (fun hHeld => ?_)
      clear hK K
      try simp only [Act.put, List.setIfInBounds_toArray, List.set_cons_zero, List.set_cons_succ]
      refine tkH (i := 7) (oi := ⟨some 6, _, _, _, _, _⟩) (v := ?_) ?_ ?_
      rotate_left
      · intro w hSw; go_simp; try with_reducible rfl
      try simp only [Act.put, List.setIfInBounds_toArray, List.set_cons_zero, List.set_cons_succ]
      refine tkH (i := 8) (oi := ⟨some 7, _, _, _, _, _⟩) (v := ?_) ?_ ?_
      rotate_left
      · intro w hSw; go_simp; try with_reducible rfl
      try simp only [Act.put, List.setIfInBounds_toArray, List.set_cons_zero, List.set_cons_succ]
      refine wpAnyH_done (by kernel_rfl) ?_ _
      go_wp2
      go_ret2
      exact ⟨rfl, nextB HWU.out (nextB HK2.out hk)⟩
    · have bz : (z != 0) = true := by simpa using hz0
      have HB2 := Lib.hid (nextB HWU.out HK2.out)
      have HZ0 := Lib.hid hz0
      clear hz0 HF1 HF2 HK2
      go_wp2
      go_ret2
      exact OutInt.bad HZ0.out ⟨rfl, HB2.out⟩
  · have bx : (x != 0) = true := by simpa using hx0
    rw [if_pos hx0] at hD
    subst hD
    have HZ0 := Lib.hid hx0
    have HB2 := Lib.hid (nextB HWU.out HB1.out)
    clear hx0 HC1 HB1 p0 p1 p2 p3 p4 r0 r1 s0 s1 HF1 HF2
    go_wp2
    go_ret2
    exact OutInt.bad HZ0.out ⟨rfl, HB2.out⟩
end Go.Proofs.YtklndjkblfncjaaGreatDoor
