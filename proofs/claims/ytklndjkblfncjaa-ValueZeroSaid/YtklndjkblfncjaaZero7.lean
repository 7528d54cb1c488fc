/-
  exactppllaw07.ValueZero: the walk.
-/
import Derived.Test.YtklndjkblfncjaaBack7
import Derived.Test.YtklndjkblfncjaaLstP
namespace Go.Proofs.Ytklndjkblfncjaa
open Go Go.RowKit
set_option maxRecDepth 20000

set_option maxHeartbeats 16000000 in
theorem valueZero.walk {A : Option Addr} {n c : Nat} {w : World} (hcap : n ≤ c) (htop : c ≤ maxLen) (hI : 0 < n → ∃ ad, A = some ad ∧ IntsAt w ad n (-9223372036854775808) 9223372036854775807) :
    Calls Try.prog 4 #[.slice A n c] w (SaysTrue w) := by
  have HN := Lib.hid (new_any A n c w hcap htop hI)
  clear hcap htop hI
  go_enter Try.func4, Try.ntmps4
  go_wp2_with fail
  refine HN.out.mono ?_
  rintro e1 w1 ⟨g, rfl, hg, hs1, hb1⟩
  go_wp2_with fail
  refine (type_x 3 (by omega) (by omega) g w1 hs1).mono ?_
  rintro e2 w2 ⟨T, A2, n2, c2, rfl, hT, hBT, hs2, hk2⟩
  have hg1 := hs1.size
  obtain ⟨u, hu⟩ : ∃ u, w2.alloc (.cells #[.int .i64 T.k, .int .i64 T.lo, .int .i64 T.hi, .int .i64 T.mx, .slice A2 n2 c2] 27) = u := ⟨_, rfl⟩
  have hbu : Below w2.heap.size w2 u := hu ▸ allocB _ _
  have hBox : Box5 u w2.heap.size (.int .i64 T.k) (.int .i64 T.lo) (.int .i64 T.hi) (.int .i64 T.mx) (.slice A2 n2 c2) := hu ▸ box5_new _ _ _ _ _ _ _
  have hTu := hT.below hbu
  have hszu : w2.heap.size < u.heap.size := World.block_lt_of_cell? u _ hBox.1
  have hgood := hBT.good (by omega)
  have hk34 : T.k ≠ 3 ∧ T.k ≠ 4 := by have := hBT.kind; omega
  have hg2 : g < w2.heap.size := hs2.size
  have hdp : deepOk 3 T := hT.deep
  have HZ := Lib.hid (Zero_x _ 3 T A2 n2 c2 u hTu hgood hk34.2)
  have HWU : Hid (Below w.heap.size w u) := (hb1.trans (hk2.below hg (by have := hb1.size; omega))).trans (hbu.mono (by have := hb1.size; have := hk2.size; omega))
  have HSU := Lib.hid (hs2.below hbu)
  have HTW : Hid (∀ W, Below u.heap.size u W → TyRd (fun b => w1.heap.size ≤ b) W 3 T A2 n2 c2 ∧ Box5 W w2.heap.size (.int .i64 T.k) (.int .i64 T.lo) (.int .i64 T.hi) (.int .i64 T.mx) (.slice A2 n2 c2)) :=
    fun W hW => ⟨hTu.below hW, hBox.below hW hszu⟩
  have HG := Lib.hid hgood
  have HGW := Lib.hid hg
  have HVZ := Lib.hid (zero_fits 3 T hdp hgood.ok hk34.1 hk34.2)
  have hwu := HWU.out.size
  obtain ⟨p0, p1, p2, p3, p4⟩ := hBox
  clear HN hs1 hb1 hg1 hT hBT hs2 hk2 hbu hTu hgood hg2 hg hdp hwu hszu
  generalize vzero 3 T = Z at *
  subst hu
  go_wp2_with fail
  refine HZ.out.mono ?_
  rintro e3 w3 ⟨B, m, q, rfl, hV, hb3⟩
  generalize hu : w2.alloc (.cells #[.int .i64 T.k, .int .i64 T.lo, .int .i64 T.hi, .int .i64 T.mx, .slice A2 n2 c2] 27) = u at *
  obtain ⟨x, hx⟩ : ∃ x, w3.alloc (.cells #[.int .i64 Z.i, .slice B m q] 31) = x := ⟨_, rfl⟩
  have hbx : Below w3.heap.size w3 x := hx ▸ allocB _ _
  have hBv : Box2 x w3.heap.size (.int .i64 Z.i) (.slice B m q) := hx ▸ box2_new _ _ _ _
  have hszx : w3.heap.size < x.heap.size := World.block_lt_of_cell? x _ hBv.1
  have hkx := nextB hb3 hbx
  have HRV := Lib.hid (refValidate_x _ 3 T A2 n2 c2 x (HTW.out x hkx).1 HG.out)
  have HVW : Hid (∀ W, Below x.heap.size x W → VlRd (fun b => u.heap.size ≤ b) W 3 Z B m q ∧ Box2 W w3.heap.size (.int .i64 Z.i) (.slice B m q)) :=
    fun W hW => ⟨(hV.below hbx).below hW, hBv.below hW hszx⟩
  have HKX := Lib.hid hkx
  have HGX := Lib.hid ((HSU.out.below hkx))
  have HWX := Lib.hid (HWU.out.trans (hkx.mono HWU.out.size))
  clear p0 p1 p2 p3 p4
  obtain ⟨p0, p1, p2, p3, p4⟩ := (HTW.out x hkx).2
  clear hV hb3 hbx hBv hszx hkx HZ HSU HWU hu
  subst hx
  go_wp2_with fail
  refine HRV.out.mono ?_
  rintro e4 w4 ⟨rfl, hb4⟩
  generalize hx : w3.alloc (.cells #[.int .i64 Z.i, .slice B m q] 31) = x at *
  have hk4 := nextB HKX.out hb4
  have hCK := Check_x _ 3 T A2 n2 c2 w4 (HTW.out w4 hk4).1 HG.out hk34.2 _ 3 Z B m q (HVW.out w4 hb4).1
  rw [HVZ.out] at hCK
  have HCK := Lib.hid hCK
  have HG4 := Lib.hid (HGX.out.below hb4)
  have HW4 := Lib.hid (HWX.out.trans (hb4.mono HWX.out.size))
  clear p0 p1 p2 p3 p4
  obtain ⟨p0, p1, p2, p3, p4⟩ := (HTW.out w4 hk4).2
  obtain ⟨y0, y1, _, _⟩ := (HVW.out w4 hb4).2
  clear hCK hk4 hb4 HRV HKX HGX HWX HTW HVW HG HVZ hx
  go_wp2_with fail
  refine HCK.out.mono ?_
  rintro e5 w5 ⟨rfl, hb5⟩
  have hs5 := HG4.out.below hb5
  have hg5 := hs5.size
  have HW5 := Lib.hid (HW4.out.trans (hb5.mono HW4.out.size))
  clear p0 p1 p2 p3 p4 y0 y1 hb5 HCK HG4 HW4
  go_wp2_with fail
  refine (type_x 1 (by omega) (by omega) g w5 hs5).mono ?_
  rintro e6 w6 ⟨T1, A3, n3, c3, rfl, hT1, hB1, hs6, hk6⟩
  have hw6 : Below w.heap.size w w6 := HW5.out.trans (hk6.below (by have := HGW.out; omega) HW5.out.size)
  obtain ⟨y, hy⟩ : ∃ y, w6.alloc (.cells #[.int .i64 T1.k, .int .i64 T1.lo, .int .i64 T1.hi, .int .i64 T1.mx, .slice A3 n3 c3] 27) = y := ⟨_, rfl⟩
  have hby : Below w6.heap.size w6 y := hy ▸ allocB _ _
  have hBy : Box5 y w6.heap.size (.int .i64 T1.k) (.int .i64 T1.lo) (.int .i64 T1.hi) (.int .i64 T1.mx) (.slice A3 n3 c3) := hy ▸ box5_new _ _ _ _ _ _ _
  have hszy : w6.heap.size < y.heap.size := World.block_lt_of_cell? y _ hBy.1
  have hg6 : g < w6.heap.size := hs6.size
  have hT1y := hT1.below hby
  have hT1W : Hid (∀ W, But g y W → TyRd (fun b => w5.heap.size ≤ b) W 1 T1 A3 n3 c3 ∧ Box5 W w6.heap.size (.int .i64 T1.k) (.int .i64 T1.lo) (.int .i64 T1.hi) (.int .i64 T1.mx) (.slice A3 n3 c3)) := fun W hW => ⟨hT1y.butG hW fun b hb => by omega, hBy.keep (hW.block _ hszy (by omega))⟩
  have hS : Src y g := hs6.below hby
  have hWY : Hid (∀ W, But g y W → Below w.heap.size w W) := fun W hW => (hw6.trans (hby.mono hw6.size)).trans (hW.below HGW.out (by have := hw6.size; omega))
  have hgy : g < y.heap.size := by omega
  have hs56 := hk6.size
  have HSZ : Hid (g < w5.heap.size ∧ w5.heap.size ≤ w6.heap.size ∧ w6.heap.size < y.heap.size) := ⟨hg5, hs56, hszy⟩
  have hel : T1.k = 1 ∨ T1.k = 2 := hT1.one_leaf hB1
  have HB1 : Hid (Good 1 T1) := hB1.good (by omega)
  clear hB1
  have HT1W := hT1W
  have HWY := hWY
  have hk0 : But g y y.drew := (But.refl g y).drew
  replace hS : Src y.drew g := hS.drew
  clear hby hBy hszy hT1 hT1y hT1W hWY hw6 HW5 hs5 hg5 hk6 hs6 hs56 HGW
  subst hy
  go_wp2_with fail
  generalize hy : w6.alloc (.cells #[.int .i64 T1.k, .int .i64 T1.lo, .int .i64 T1.hi, .int .i64 T1.mx, .slice A3 n3 c3] 27) = y at *
  go_cut [8] (fun u8 wx => ∃ (pb gs : Nat) (mx : Int), u8 = .pointer (some ⟨pb, 0, none⟩) ∧ Hid ((1 ≤ mx ∧ mx ≤ 4) ∧ Box5 wx pb (.int .i64 6) (.int .i64 0) (.int .i64 0) (.int .i64 mx) (.slice (some ⟨gs, 0, none⟩) 1 1) ∧ Box5 wx gs (.int .i64 T1.k) (.int .i64 T1.lo) (.int .i64 T1.hi) (.int .i64 T1.mx) (.slice A3 n3 c3) ∧ Src wx g ∧ But g y wx ∧ y.heap.size ≤ pb ∧ y.heap.size ≤ gs))
  case first =>
    refine wp_region_held_drew (S := But g y) (by kernel_rfl) hk0 (fun hHeld => ?_)
    obtain ⟨wc, hw0⟩ : ∃ wc, wc = y.drew := ⟨_, rfl⟩
    rw [← hw0] at hk0 hS hHeld ⊢
    clear hw0
    refine tkH (i := 0) (oi := ⟨some 42, _, _, _, _, _⟩) (v := ?_) ?_ ?_
    rotate_left
    · intro w hSw; go_simp; try with_reducible rfl
    try simp only [Act.put, List.setIfInBounds_toArray, List.set_cons_zero, List.set_cons_succ]
    refine tkH (i := 2) (oi := ⟨some 44, _, _, _, _, _⟩) (v := ?_) ?_ ?_
    rotate_left
    · intro w hSw
      obtain ⟨p0, p1, p2, p3, p4⟩ := (HT1W.out w hSw).2
      go_simp
      try with_reducible rfl
    try simp only [Act.put, List.setIfInBounds_toArray, List.set_cons_zero, List.set_cons_succ]
    refine wpAnyH_ready (rs := [1, 3, 5]) (by kernel_rfl) (by simp) ?_
    refine AllReadyH.cons (o := ⟨some 43, _, _, _, _, _⟩) rfl (fun K hK => ?_) (AllReadyH.cons (o := ⟨some 45, _, _, _, _, _⟩) rfl (fun K hK => ?_) (AllReadyH.cons (o := ⟨some 8, _, _, _, _, _⟩) rfl (fun K hK => ?_) AllReadyH.nil))
    · go_simp
      go_at_call 17
      (with_reducible refine (range_any g wc 1 4 hS (by omega) (by omega) (by omega)).mono ?_)
      rintro eC wc ⟨mx, rfl, ⟨mx0, mx1⟩, hS2, hB⟩
      replace hk0 := hk0.trans hB
      clear hS hB
      have hS := hS2
      clear hS2
      go_wp2_with fail
      refine hK.out _ _ hk0 (fun hHeld => ?_)
      clear hK K
      try simp only [Act.put, List.setIfInBounds_toArray, List.set_cons_zero, List.set_cons_succ]
      refine wpAnyH_ready (rs := [3, 5]) (by kernel_rfl) (by simp) ?_
      refine AllReadyH.cons (o := ⟨some 45, _, _, _, _, _⟩) rfl (fun K hK => ?_) (AllReadyH.cons (o := ⟨some 8, _, _, _, _, _⟩) rfl (fun K hK => ?_) AllReadyH.nil)
      · go_simp
        obtain ⟨wd, hw⟩ : ∃ wd, wc.alloc (.cells #[.int .i64 T1.k, .int .i64 T1.lo, .int .i64 T1.hi, .int .i64 T1.mx, .slice A3 n3 c3] 27) = wd := ⟨_, rfl⟩
        have hb : Below wc.heap.size wc wd := hw ▸ allocB _ _
        have hsb : Box5 wd wc.heap.size (.int .i64 T1.k) (.int .i64 T1.lo) (.int .i64 T1.hi) (.int .i64 T1.mx) (.slice A3 n3 c3) := hw ▸ box5_new _ _ _ _ _ _ _
        have hsl : wc.heap.size < wd.heap.size := World.block_lt_of_cell? wd _ hsb.1
        have hgs := hk0.size
        rw [hw]
        replace hk0 := hk0.trans (But.of_below hb)
        replace hS := hS.below hb
        obtain ⟨gs, hge⟩ : ∃ gs, wc.heap.size = gs := ⟨_, rfl⟩
        rw [hge] at hsb hsl hgs ⊢
        clear hb hw hge
        obtain ⟨wc, rfl⟩ : ∃ z, z = wd := ⟨_, rfl⟩
        refine hK.out _ _ hk0 (fun hHeld => ?_)
        clear hK K
        try simp only [Act.put, List.setIfInBounds_toArray, List.set_cons_zero, List.set_cons_succ]
        refine tkH (i := 4) (oi := ⟨some 46, _, _, _, _, _⟩) (v := ?_) ?_ ?_
        rotate_left
        · intro w hSw; go_simp; try with_reducible rfl
        try simp only [Act.put, List.setIfInBounds_toArray, List.set_cons_zero, List.set_cons_succ]
        refine wpAnyH_ready (rs := [5]) (by kernel_rfl) (by simp) ?_
        refine AllReadyH.cons (o := ⟨some 8, _, _, _, _, _⟩) rfl (fun K hK => ?_) AllReadyH.nil
        go_simp
        obtain ⟨wd, hw⟩ : ∃ wd, wc.alloc (.cells #[.int .i64 0, .int .i64 0, .int .i64 0, .int .i64 0, .slice none 0 0] 27) = wd := ⟨_, rfl⟩
        have hb : Below wc.heap.size wc wd := hw ▸ allocB _ _
        have hab : BoxT wd wc.heap.size (.int .i64 0) (.int .i64 0) (.int .i64 0) (.int .i64 0) (.slice none 0 0) := hw ▸ boxT_new _ _ _ _ _ _ _
        have hal : wc.heap.size < wd.heap.size := World.block_lt_of_cell? wd _ hab.1.1
        have hpb := hk0.size
        rw [hw]
        have hne : wc.heap.size ≠ gs := by omega
        replace hsb := hsb.keep (hb.block gs hsl)
        replace hsl := Nat.lt_of_lt_of_le hsl hb.size
        replace hk0 := hk0.trans (But.of_below hb)
        replace hS := hS.below hb
        obtain ⟨pb, hpe⟩ : ∃ pb, wc.heap.size = pb := ⟨_, rfl⟩
        rw [hpe] at hab hal hpb ⊢
        rw [hpe] at hne
        clear hb hw hpe
        obtain ⟨wc, rfl⟩ : ∃ z, z = wd := ⟨_, rfl⟩
        refine hK.out _ _ hk0 (fun hHeld => ?_)
        clear hK K
        try simp only [Act.put, List.setIfInBounds_toArray, List.set_cons_zero, List.set_cons_succ]
        refine wpAnyH_ready (rs := [6]) (by kernel_rfl) (by simp) ?_
        refine AllReadyH.cons (o := ⟨none, _, _, _, _, _⟩) rfl (fun K hK => ?_) AllReadyH.nil
        obtain ⟨⟨b0, b1, b2, b3, b4⟩, bf⟩ := id hab
        have bf0 := bf 0
        have bf1 := bf 1
        have bf2 := bf 2
        have bf3 := bf 3
        have bf4 := bf 4
        go_simp
        have hkE : But g y _ := ((((hk0.setB (b := pb) (j := 0) hpb (u := .int .i64 6)).setB (b := pb) (j := 1) hpb (u := .int .i64 0)).setB (b := pb) (j := 2) hpb (u := .int .i64 0)).setB (b := pb) (j := 3) hpb (u := .int .i64 mx)).setB (b := pb) (j := 4) hpb (u := .slice (some ⟨gs, 0, none⟩) 1 1)
        refine hK.out _ _ hkE (fun hHeld => ?_)
        clear hK K b0 b1 b2 b3 b4 bf bf0 bf1 bf2 bf3 bf4
        try simp only [Act.put, List.setIfInBounds_toArray, List.set_cons_zero, List.set_cons_succ]
        refine wpAnyH_done (by kernel_rfl) ?_ _
        go_wp2_with fail
        go_meet
        exact ⟨pb, gs, mx, rfl, ⟨⟨mx0, mx1⟩, (hab.all _ _ _ _ _).1, hsb.keep (stores5_heap (by omega) _ _ _ _ _), ((((hS.setB (by omega)).setB (by omega)).setB (by omega)).setB (by omega)).setB (by omega), hkE, hpb, hgs⟩⟩
      · go_simp
        obtain ⟨wd, hw⟩ : ∃ wd, wc.alloc (.cells #[.int .i64 0, .int .i64 0, .int .i64 0, .int .i64 0, .slice none 0 0] 27) = wd := ⟨_, rfl⟩
        have hb : Below wc.heap.size wc wd := hw ▸ allocB _ _
        have hab : BoxT wd wc.heap.size (.int .i64 0) (.int .i64 0) (.int .i64 0) (.int .i64 0) (.slice none 0 0) := hw ▸ boxT_new _ _ _ _ _ _ _
        have hal : wc.heap.size < wd.heap.size := World.block_lt_of_cell? wd _ hab.1.1
        have hpb := hk0.size
        rw [hw]
        replace hk0 := hk0.trans (But.of_below hb)
        replace hS := hS.below hb
        obtain ⟨pb, hpe⟩ : ∃ pb, wc.heap.size = pb := ⟨_, rfl⟩
        rw [hpe] at hab hal hpb ⊢
        clear hb hw hpe
        obtain ⟨wc, rfl⟩ : ∃ z, z = wd := ⟨_, rfl⟩
        refine hK.out _ _ hk0 (fun hHeld => ?_)
        clear hK K
        try simp only [Act.put, List.setIfInBounds_toArray, List.set_cons_zero, List.set_cons_succ]
        refine wpAnyH_ready (rs := [3]) (by kernel_rfl) (by simp) ?_
        refine AllReadyH.cons (o := ⟨some 45, _, _, _, _, _⟩) rfl (fun K hK => ?_) AllReadyH.nil
        go_simp
        obtain ⟨wd, hw⟩ : ∃ wd, wc.alloc (.cells #[.int .i64 T1.k, .int .i64 T1.lo, .int .i64 T1.hi, .int .i64 T1.mx, .slice A3 n3 c3] 27) = wd := ⟨_, rfl⟩
        have hb : Below wc.heap.size wc wd := hw ▸ allocB _ _
        have hsb : Box5 wd wc.heap.size (.int .i64 T1.k) (.int .i64 T1.lo) (.int .i64 T1.hi) (.int .i64 T1.mx) (.slice A3 n3 c3) := hw ▸ box5_new _ _ _ _ _ _ _
        have hsl : wc.heap.size < wd.heap.size := World.block_lt_of_cell? wd _ hsb.1
        have hgs := hk0.size
        rw [hw]
        have hne : pb ≠ wc.heap.size := by omega
        replace hab := hab.keep (hb.block pb hal)
        replace hal := Nat.lt_of_lt_of_le hal hb.size
        replace hk0 := hk0.trans (But.of_below hb)
        replace hS := hS.below hb
        obtain ⟨gs, hge⟩ : ∃ gs, wc.heap.size = gs := ⟨_, rfl⟩
        rw [hge] at hsb hsl hgs ⊢
        rw [hge] at hne
        clear hb hw hge
        obtain ⟨wc, rfl⟩ : ∃ z, z = wd := ⟨_, rfl⟩
        refine hK.out _ _ hk0 (fun hHeld => ?_)
        clear hK K
        try simp only [Act.put, List.setIfInBounds_toArray, List.set_cons_zero, List.set_cons_succ]
        refine tkH (i := 4) (oi := ⟨some 46, _, _, _, _, _⟩) (v := ?_) ?_ ?_
        rotate_left
        · intro w hSw; go_simp; try with_reducible rfl
        try simp only [Act.put, List.setIfInBounds_toArray, List.set_cons_zero, List.set_cons_succ]
        refine wpAnyH_ready (rs := [6]) (by kernel_rfl) (by simp) ?_
        refine AllReadyH.cons (o := ⟨none, _, _, _, _, _⟩) rfl (fun K hK => ?_) AllReadyH.nil
        obtain ⟨⟨b0, b1, b2, b3, b4⟩, bf⟩ := id hab
        have bf0 := bf 0
        have bf1 := bf 1
        have bf2 := bf 2
        have bf3 := bf 3
        have bf4 := bf 4
        go_simp
        have hkE : But g y _ := ((((hk0.setB (b := pb) (j := 0) hpb (u := .int .i64 6)).setB (b := pb) (j := 1) hpb (u := .int .i64 0)).setB (b := pb) (j := 2) hpb (u := .int .i64 0)).setB (b := pb) (j := 3) hpb (u := .int .i64 mx)).setB (b := pb) (j := 4) hpb (u := .slice (some ⟨gs, 0, none⟩) 1 1)
        refine hK.out _ _ hkE (fun hHeld => ?_)
        clear hK K b0 b1 b2 b3 b4 bf bf0 bf1 bf2 bf3 bf4
        try simp only [Act.put, List.setIfInBounds_toArray, List.set_cons_zero, List.set_cons_succ]
        refine wpAnyH_done (by kernel_rfl) ?_ _
        go_wp2_with fail
        go_meet
        exact ⟨pb, gs, mx, rfl, ⟨⟨mx0, mx1⟩, (hab.all _ _ _ _ _).1, hsb.keep (stores5_heap (by omega) _ _ _ _ _), ((((hS.setB (by omega)).setB (by omega)).setB (by omega)).setB (by omega)).setB (by omega), hkE, hpb, hgs⟩⟩
    · go_simp
      obtain ⟨wd, hw⟩ : ∃ wd, wc.alloc (.cells #[.int .i64 T1.k, .int .i64 T1.lo, .int .i64 T1.hi, .int .i64 T1.mx, .slice A3 n3 c3] 27) = wd := ⟨_, rfl⟩
      have hb : Below wc.heap.size wc wd := hw ▸ allocB _ _
      have hsb : Box5 wd wc.heap.size (.int .i64 T1.k) (.int .i64 T1.lo) (.int .i64 T1.hi) (.int .i64 T1.mx) (.slice A3 n3 c3) := hw ▸ box5_new _ _ _ _ _ _ _
      have hsl : wc.heap.size < wd.heap.size := World.block_lt_of_cell? wd _ hsb.1
      have hgs := hk0.size
      rw [hw]
      replace hk0 := hk0.trans (But.of_below hb)
      replace hS := hS.below hb
      obtain ⟨gs, hge⟩ : ∃ gs, wc.heap.size = gs := ⟨_, rfl⟩
      rw [hge] at hsb hsl hgs ⊢
      clear hb hw hge
      obtain ⟨wc, rfl⟩ : ∃ z, z = wd := ⟨_, rfl⟩
      refine hK.out _ _ hk0 (fun hHeld => ?_)
      clear hK K
      try simp only [Act.put, List.setIfInBounds_toArray, List.set_cons_zero, List.set_cons_succ]
      refine wpAnyH_ready (rs := [1, 5]) (by kernel_rfl) (by simp) ?_
      refine AllReadyH.cons (o := ⟨some 43, _, _, _, _, _⟩) rfl (fun K hK => ?_) (AllReadyH.cons (o := ⟨some 8, _, _, _, _, _⟩) rfl (fun K hK => ?_) AllReadyH.nil)
      · go_simp
        go_at_call 17
        (with_reducible refine (range_any g wc 1 4 hS (by omega) (by omega) (by omega)).mono ?_)
        rintro eC wc ⟨mx, rfl, ⟨mx0, mx1⟩, hS2, hB⟩
        replace hk0 := hk0.trans hB
        replace hsb := hsb.keep (hB.block gs hsl (by omega))
        replace hsl := Nat.lt_of_lt_of_le hsl hB.size
        clear hS hB
        have hS := hS2
        clear hS2
        go_wp2_with fail
        refine hK.out _ _ hk0 (fun hHeld => ?_)
        clear hK K
        try simp only [Act.put, List.setIfInBounds_toArray, List.set_cons_zero, List.set_cons_succ]
        refine tkH (i := 4) (oi := ⟨some 46, _, _, _, _, _⟩) (v := ?_) ?_ ?_
        rotate_left
        · intro w hSw; go_simp; try with_reducible rfl
        try simp only [Act.put, List.setIfInBounds_toArray, List.set_cons_zero, List.set_cons_succ]
        refine wpAnyH_ready (rs := [5]) (by kernel_rfl) (by simp) ?_
        refine AllReadyH.cons (o := ⟨some 8, _, _, _, _, _⟩) rfl (fun K hK => ?_) AllReadyH.nil
        go_simp
        obtain ⟨wd, hw⟩ : ∃ wd, wc.alloc (.cells #[.int .i64 0, .int .i64 0, .int .i64 0, .int .i64 0, .slice none 0 0] 27) = wd := ⟨_, rfl⟩
        have hb : Below wc.heap.size wc wd := hw ▸ allocB _ _
        have hab : BoxT wd wc.heap.size (.int .i64 0) (.int .i64 0) (.int .i64 0) (.int .i64 0) (.slice none 0 0) := hw ▸ boxT_new _ _ _ _ _ _ _
        have hal : wc.heap.size < wd.heap.size := World.block_lt_of_cell? wd _ hab.1.1
        have hpb := hk0.size
        rw [hw]
        have hne : wc.heap.size ≠ gs := by omega
        replace hsb := hsb.keep (hb.block gs hsl)
        replace hsl := Nat.lt_of_lt_of_le hsl hb.size
        replace hk0 := hk0.trans (But.of_below hb)
        replace hS := hS.below hb
        obtain ⟨pb, hpe⟩ : ∃ pb, wc.heap.size = pb := ⟨_, rfl⟩
        rw [hpe] at hab hal hpb ⊢
        rw [hpe] at hne
        clear hb hw hpe
        obtain ⟨wc, rfl⟩ : ∃ z, z = wd := ⟨_, rfl⟩
        refine hK.out _ _ hk0 (fun hHeld => ?_)
        clear hK K
        try simp only [Act.put, List.setIfInBounds_toArray, List.set_cons_zero, List.set_cons_succ]
        refine wpAnyH_ready (rs := [6]) (by kernel_rfl) (by simp) ?_
        refine AllReadyH.cons (o := ⟨none, _, _, _, _, _⟩) rfl (fun K hK => ?_) AllReadyH.nil
        obtain ⟨⟨b0, b1, b2, b3, b4⟩, bf⟩ := id hab
        have bf0 := bf 0
        have bf1 := bf 1
        have bf2 := bf 2
        have bf3 := bf 3
        have bf4 := bf 4
        go_simp
        have hkE : But g y _ := ((((hk0.setB (b := pb) (j := 0) hpb (u := .int .i64 6)).setB (b := pb) (j := 1) hpb (u := .int .i64 0)).setB (b := pb) (j := 2) hpb (u := .int .i64 0)).setB (b := pb) (j := 3) hpb (u := .int .i64 mx)).setB (b := pb) (j := 4) hpb (u := .slice (some ⟨gs, 0, none⟩) 1 1)
        refine hK.out _ _ hkE (fun hHeld => ?_)
        clear hK K b0 b1 b2 b3 b4 bf bf0 bf1 bf2 bf3 bf4
        try simp only [Act.put, List.setIfInBounds_toArray, List.set_cons_zero, List.set_cons_succ]
        refine wpAnyH_done (by kernel_rfl) ?_ _
        go_wp2_with fail
        go_meet
        exact ⟨pb, gs, mx, rfl, ⟨⟨mx0, mx1⟩, (hab.all _ _ _ _ _).1, hsb.keep (stores5_heap (by omega) _ _ _ _ _), ((((hS.setB (by omega)).setB (by omega)).setB (by omega)).setB (by omega)).setB (by omega), hkE, hpb, hgs⟩⟩
      · go_simp
        obtain ⟨wd, hw⟩ : ∃ wd, wc.alloc (.cells #[.int .i64 0, .int .i64 0, .int .i64 0, .int .i64 0, .slice none 0 0] 27) = wd := ⟨_, rfl⟩
        have hb : Below wc.heap.size wc wd := hw ▸ allocB _ _
        have hab : BoxT wd wc.heap.size (.int .i64 0) (.int .i64 0) (.int .i64 0) (.int .i64 0) (.slice none 0 0) := hw ▸ boxT_new _ _ _ _ _ _ _
        have hal : wc.heap.size < wd.heap.size := World.block_lt_of_cell? wd _ hab.1.1
        have hpb := hk0.size
        rw [hw]
        have hne : wc.heap.size ≠ gs := by omega
        replace hsb := hsb.keep (hb.block gs hsl)
        replace hsl := Nat.lt_of_lt_of_le hsl hb.size
        replace hk0 := hk0.trans (But.of_below hb)
        replace hS := hS.below hb
        obtain ⟨pb, hpe⟩ : ∃ pb, wc.heap.size = pb := ⟨_, rfl⟩
        rw [hpe] at hab hal hpb ⊢
        rw [hpe] at hne
        clear hb hw hpe
        obtain ⟨wc, rfl⟩ : ∃ z, z = wd := ⟨_, rfl⟩
        refine hK.out _ _ hk0 (fun hHeld => ?_)
        clear hK K
        try simp only [Act.put, List.setIfInBounds_toArray, List.set_cons_zero, List.set_cons_succ]
        refine wpAnyH_ready (rs := [1]) (by kernel_rfl) (by simp) ?_
        refine AllReadyH.cons (o := ⟨some 43, _, _, _, _, _⟩) rfl (fun K hK => ?_) AllReadyH.nil
        go_simp
        go_at_call 17
        (with_reducible refine (range_any g wc 1 4 hS (by omega) (by omega) (by omega)).mono ?_)
        rintro eC wc ⟨mx, rfl, ⟨mx0, mx1⟩, hS2, hB⟩
        replace hk0 := hk0.trans hB
        replace hsb := hsb.keep (hB.block gs hsl (by omega))
        replace hsl := Nat.lt_of_lt_of_le hsl hB.size
        replace hab := hab.keep (hB.block pb hal (by omega))
        replace hal := Nat.lt_of_lt_of_le hal hB.size
        clear hS hB
        have hS := hS2
        clear hS2
        go_wp2_with fail
        refine hK.out _ _ hk0 (fun hHeld => ?_)
        clear hK K
        try simp only [Act.put, List.setIfInBounds_toArray, List.set_cons_zero, List.set_cons_succ]
        refine tkH (i := 4) (oi := ⟨some 46, _, _, _, _, _⟩) (v := ?_) ?_ ?_
        rotate_left
        · intro w hSw; go_simp; try with_reducible rfl
        try simp only [Act.put, List.setIfInBounds_toArray, List.set_cons_zero, List.set_cons_succ]
        refine wpAnyH_ready (rs := [6]) (by kernel_rfl) (by simp) ?_
        refine AllReadyH.cons (o := ⟨none, _, _, _, _, _⟩) rfl (fun K hK => ?_) AllReadyH.nil
        obtain ⟨⟨b0, b1, b2, b3, b4⟩, bf⟩ := id hab
        have bf0 := bf 0
        have bf1 := bf 1
        have bf2 := bf 2
        have bf3 := bf 3
        have bf4 := bf 4
        go_simp
        have hkE : But g y _ := ((((hk0.setB (b := pb) (j := 0) hpb (u := .int .i64 6)).setB (b := pb) (j := 1) hpb (u := .int .i64 0)).setB (b := pb) (j := 2) hpb (u := .int .i64 0)).setB (b := pb) (j := 3) hpb (u := .int .i64 mx)).setB (b := pb) (j := 4) hpb (u := .slice (some ⟨gs, 0, none⟩) 1 1)
        refine hK.out _ _ hkE (fun hHeld => ?_)
        clear hK K b0 b1 b2 b3 b4 bf bf0 bf1 bf2 bf3 bf4
        try simp only [Act.put, List.setIfInBounds_toArray, List.set_cons_zero, List.set_cons_succ]
        refine wpAnyH_done (by kernel_rfl) ?_ _
        go_wp2_with fail
        go_meet
        exact ⟨pb, gs, mx, rfl, ⟨⟨mx0, mx1⟩, (hab.all _ _ _ _ _).1, hsb.keep (stores5_heap (by omega) _ _ _ _ _), ((((hS.setB (by omega)).setB (by omega)).setB (by omega)).setB (by omega)).setB (by omega), hkE, hpb, hgs⟩⟩
    · go_simp
      obtain ⟨wd, hw⟩ : ∃ wd, wc.alloc (.cells #[.int .i64 0, .int .i64 0, .int .i64 0, .int .i64 0, .slice none 0 0] 27) = wd := ⟨_, rfl⟩
      have hb : Below wc.heap.size wc wd := hw ▸ allocB _ _
      have hab : BoxT wd wc.heap.size (.int .i64 0) (.int .i64 0) (.int .i64 0) (.int .i64 0) (.slice none 0 0) := hw ▸ boxT_new _ _ _ _ _ _ _
      have hal : wc.heap.size < wd.heap.size := World.block_lt_of_cell? wd _ hab.1.1
      have hpb := hk0.size
      rw [hw]
      replace hk0 := hk0.trans (But.of_below hb)
      replace hS := hS.below hb
      obtain ⟨pb, hpe⟩ : ∃ pb, wc.heap.size = pb := ⟨_, rfl⟩
      rw [hpe] at hab hal hpb ⊢
      clear hb hw hpe
      obtain ⟨wc, rfl⟩ : ∃ z, z = wd := ⟨_, rfl⟩
      refine hK.out _ _ hk0 (fun hHeld => ?_)
      clear hK K
      try simp only [Act.put, List.setIfInBounds_toArray, List.set_cons_zero, List.set_cons_succ]
      refine wpAnyH_ready (rs := [1, 3]) (by kernel_rfl) (by simp) ?_
      refine AllReadyH.cons (o := ⟨some 43, _, _, _, _, _⟩) rfl (fun K hK => ?_) (AllReadyH.cons (o := ⟨some 45, _, _, _, _, _⟩) rfl (fun K hK => ?_) AllReadyH.nil)
      · go_simp
        go_at_call 17
        (with_reducible refine (range_any g wc 1 4 hS (by omega) (by omega) (by omega)).mono ?_)
        rintro eC wc ⟨mx, rfl, ⟨mx0, mx1⟩, hS2, hB⟩
        replace hk0 := hk0.trans hB
        replace hab := hab.keep (hB.block pb hal (by omega))
        replace hal := Nat.lt_of_lt_of_le hal hB.size
        clear hS hB
        have hS := hS2
        clear hS2
        go_wp2_with fail
        refine hK.out _ _ hk0 (fun hHeld => ?_)
        clear hK K
        try simp only [Act.put, List.setIfInBounds_toArray, List.set_cons_zero, List.set_cons_succ]
        refine wpAnyH_ready (rs := [3]) (by kernel_rfl) (by simp) ?_
        refine AllReadyH.cons (o := ⟨some 45, _, _, _, _, _⟩) rfl (fun K hK => ?_) AllReadyH.nil
        go_simp
        obtain ⟨wd, hw⟩ : ∃ wd, wc.alloc (.cells #[.int .i64 T1.k, .int .i64 T1.lo, .int .i64 T1.hi, .int .i64 T1.mx, .slice A3 n3 c3] 27) = wd := ⟨_, rfl⟩
        have hb : Below wc.heap.size wc wd := hw ▸ allocB _ _
        have hsb : Box5 wd wc.heap.size (.int .i64 T1.k) (.int .i64 T1.lo) (.int .i64 T1.hi) (.int .i64 T1.mx) (.slice A3 n3 c3) := hw ▸ box5_new _ _ _ _ _ _ _
        have hsl : wc.heap.size < wd.heap.size := World.block_lt_of_cell? wd _ hsb.1
        have hgs := hk0.size
        rw [hw]
        have hne : pb ≠ wc.heap.size := by omega
        replace hab := hab.keep (hb.block pb hal)
        replace hal := Nat.lt_of_lt_of_le hal hb.size
        replace hk0 := hk0.trans (But.of_below hb)
        replace hS := hS.below hb
        obtain ⟨gs, hge⟩ : ∃ gs, wc.heap.size = gs := ⟨_, rfl⟩
        rw [hge] at hsb hsl hgs ⊢
        rw [hge] at hne
        clear hb hw hge
        obtain ⟨wc, rfl⟩ : ∃ z, z = wd := ⟨_, rfl⟩
        refine hK.out _ _ hk0 (fun hHeld => ?_)
        clear hK K
        try simp only [Act.put, List.setIfInBounds_toArray, List.set_cons_zero, List.set_cons_succ]
        refine tkH (i := 4) (oi := ⟨some 46, _, _, _, _, _⟩) (v := ?_) ?_ ?_
        rotate_left
        · intro w hSw; go_simp; try with_reducible rfl
        try simp only [Act.put, List.setIfInBounds_toArray, List.set_cons_zero, List.set_cons_succ]
        refine wpAnyH_ready (rs := [6]) (by kernel_rfl) (by simp) ?_
        refine AllReadyH.cons (o := ⟨none, _, _, _, _, _⟩) rfl (fun K hK => ?_) AllReadyH.nil
        obtain ⟨⟨b0, b1, b2, b3, b4⟩, bf⟩ := id hab
        have bf0 := bf 0
        have bf1 := bf 1
        have bf2 := bf 2
        have bf3 := bf 3
        have bf4 := bf 4
        go_simp
        have hkE : But g y _ := ((((hk0.setB (b := pb) (j := 0) hpb (u := .int .i64 6)).setB (b := pb) (j := 1) hpb (u := .int .i64 0)).setB (b := pb) (j := 2) hpb (u := .int .i64 0)).setB (b := pb) (j := 3) hpb (u := .int .i64 mx)).setB (b := pb) (j := 4) hpb (u := .slice (some ⟨gs, 0, none⟩) 1 1)
        refine hK.out _ _ hkE (fun hHeld => ?_)
        clear hK K b0 b1 b2 b3 b4 bf bf0 bf1 bf2 bf3 bf4
        try simp only [Act.put, List.setIfInBounds_toArray, List.set_cons_zero, List.set_cons_succ]
        refine wpAnyH_done (by kernel_rfl) ?_ _
        go_wp2_with fail
        go_meet
        exact ⟨pb, gs, mx, rfl, ⟨⟨mx0, mx1⟩, (hab.all _ _ _ _ _).1, hsb.keep (stores5_heap (by omega) _ _ _ _ _), ((((hS.setB (by omega)).setB (by omega)).setB (by omega)).setB (by omega)).setB (by omega), hkE, hpb, hgs⟩⟩
      · go_simp
        obtain ⟨wd, hw⟩ : ∃ wd, wc.alloc (.cells #[.int .i64 T1.k, .int .i64 T1.lo, .int .i64 T1.hi, .int .i64 T1.mx, .slice A3 n3 c3] 27) = wd := ⟨_, rfl⟩
        have hb : Below wc.heap.size wc wd := hw ▸ allocB _ _
        have hsb : Box5 wd wc.heap.size (.int .i64 T1.k) (.int .i64 T1.lo) (.int .i64 T1.hi) (.int .i64 T1.mx) (.slice A3 n3 c3) := hw ▸ box5_new _ _ _ _ _ _ _
        have hsl : wc.heap.size < wd.heap.size := World.block_lt_of_cell? wd _ hsb.1
        have hgs := hk0.size
        rw [hw]
        have hne : pb ≠ wc.heap.size := by omega
        replace hab := hab.keep (hb.block pb hal)
        replace hal := Nat.lt_of_lt_of_le hal hb.size
        replace hk0 := hk0.trans (But.of_below hb)
        replace hS := hS.below hb
        obtain ⟨gs, hge⟩ : ∃ gs, wc.heap.size = gs := ⟨_, rfl⟩
        rw [hge] at hsb hsl hgs ⊢
        rw [hge] at hne
        clear hb hw hge
        obtain ⟨wc, rfl⟩ : ∃ z, z = wd := ⟨_, rfl⟩
        refine hK.out _ _ hk0 (fun hHeld => ?_)
        clear hK K
        try simp only [Act.put, List.setIfInBounds_toArray, List.set_cons_zero, List.set_cons_succ]
        refine wpAnyH_ready (rs := [1]) (by kernel_rfl) (by simp) ?_
        refine AllReadyH.cons (o := ⟨some 43, _, _, _, _, _⟩) rfl (fun K hK => ?_) AllReadyH.nil
        go_simp
        go_at_call 17
        (with_reducible refine (range_any g wc 1 4 hS (by omega) (by omega) (by omega)).mono ?_)
        rintro eC wc ⟨mx, rfl, ⟨mx0, mx1⟩, hS2, hB⟩
        replace hk0 := hk0.trans hB
        replace hsb := hsb.keep (hB.block gs hsl (by omega))
        replace hsl := Nat.lt_of_lt_of_le hsl hB.size
        replace hab := hab.keep (hB.block pb hal (by omega))
        replace hal := Nat.lt_of_lt_of_le hal hB.size
        clear hS hB
        have hS := hS2
        clear hS2
        go_wp2_with fail
        refine hK.out _ _ hk0 (fun hHeld => ?_)
        clear hK K
        try simp only [Act.put, List.setIfInBounds_toArray, List.set_cons_zero, List.set_cons_succ]
        refine tkH (i := 4) (oi := ⟨some 46, _, _, _, _, _⟩) (v := ?_) ?_ ?_
        rotate_left
        · intro w hSw; go_simp; try with_reducible rfl
        try simp only [Act.put, List.setIfInBounds_toArray, List.set_cons_zero, List.set_cons_succ]
        refine wpAnyH_ready (rs := [6]) (by kernel_rfl) (by simp) ?_
        refine AllReadyH.cons (o := ⟨none, _, _, _, _, _⟩) rfl (fun K hK => ?_) AllReadyH.nil
        obtain ⟨⟨b0, b1, b2, b3, b4⟩, bf⟩ := id hab
        have bf0 := bf 0
        have bf1 := bf 1
        have bf2 := bf 2
        have bf3 := bf 3
        have bf4 := bf 4
        go_simp
        have hkE : But g y _ := ((((hk0.setB (b := pb) (j := 0) hpb (u := .int .i64 6)).setB (b := pb) (j := 1) hpb (u := .int .i64 0)).setB (b := pb) (j := 2) hpb (u := .int .i64 0)).setB (b := pb) (j := 3) hpb (u := .int .i64 mx)).setB (b := pb) (j := 4) hpb (u := .slice (some ⟨gs, 0, none⟩) 1 1)
        refine hK.out _ _ hkE (fun hHeld => ?_)
        clear hK K b0 b1 b2 b3 b4 bf bf0 bf1 bf2 bf3 bf4
        try simp only [Act.put, List.setIfInBounds_toArray, List.set_cons_zero, List.set_cons_succ]
        refine wpAnyH_done (by kernel_rfl) ?_ _
        go_wp2_with fail
        go_meet
        exact ⟨pb, gs, mx, rfl, ⟨⟨mx0, mx1⟩, (hab.all _ _ _ _ _).1, hsb.keep (stores5_heap (by omega) _ _ _ _ _), ((((hS.setB (by omega)).setB (by omega)).setB (by omega)).setB (by omega)).setB (by omega), hkE, hpb, hgs⟩⟩
  case rest =>
    obtain ⟨pb, gs, mx, rfl, hc⟩ := hcut
    obtain ⟨⟨mx0, mx1⟩, hB9, hBg, hS9, hk9, hpb, hgs⟩ := hc.out
    clear hc hk0 hS hy
    obtain ⟨hg5, hs56, hs6y⟩ := HSZ.out
    obtain ⟨LT, hLT⟩ : ∃ LT : Ty, LT = .mk 6 0 0 mx [T1] := ⟨_, rfl⟩
    have hgl : gs < wc.heap.size := World.block_lt_of_cell? wc _ hBg.1
    have hpl : pb < wc.heap.size := World.block_lt_of_cell? wc _ hB9.1
    have hLrd : TyRd (fun b => w5.heap.size ≤ b) wc 2 LT (some ⟨gs, 0, none⟩) 1 1 := by
      subst hLT
      refine ⟨⟨rfl, Nat.le_refl _, by unfold maxLen; omega⟩, fun i e he => ?_⟩
      match i, he with
      | 0, he =>
        obtain rfl : T1 = e := by simpa [Ty.es] using he
        exact ⟨gs, 0, A3, n3, c3, rfl, by omega, hgl, ⟨hBg.1, hBg.2.1, hBg.2.2.1, hBg.2.2.2.1, hBg.2.2.2.2⟩, (HT1W.out wc hk9).1⟩
      | i + 1, he => simp [Ty.es] at he
    have hLok : Good 2 LT := by
      have h1 := HB1.out
      have hw1 := h1.wide
      refine ⟨hLT ▸ ok_list 1 mx0 mx1 h1.ok hel, ?_, by omega⟩
      have e1 : twidth 1 T1 = 1 := by simp only [twidth]; rw [if_neg (by omega), if_neg (by omega)]
      have e2 : twidth 2 LT = 1 + mx.toNat * 1 := by
        rw [hLT]
        show (if (6 : Int) = 5 then _ else if (6 : Int) = 6 then 1 + mx.toNat * (([T1].map (twidth 1)).headD 0) else 1) = _
        rw [if_neg (by decide), if_pos rfl, List.map_cons, List.headD_cons, e1]
      omega
    have HLW : Hid (∀ W, But g wc W → TyRd (fun b => w5.heap.size ≤ b) W 2 LT (some ⟨gs, 0, none⟩) 1 1 ∧ Box5 W pb (.int .i64 6) (.int .i64 0) (.int .i64 0) (.int .i64 mx) (.slice (some ⟨gs, 0, none⟩) 1 1) ∧ Below w.heap.size w W) :=
      fun W hW => ⟨hLrd.butG hW fun b hb => by omega, hB9.keep (hW.block _ hpl (by omega)), HWY.out W (hk9.trans hW)⟩
    have HZ := Lib.hid (Zero_x _ 1 T1 A3 n3 c3 wc (HT1W.out wc hk9).1 HB1.out (by omega))
    obtain ⟨p0, p1, p2, p3, p4⟩ := (HT1W.out wc hk9).2
    have HS9 := Lib.hid hS9
    have HLO := Lib.hid hLok
    have hz1 : (vzero 1 T1).es = [] := by simp only [vzero]; rw [if_neg (by omega), if_neg (by omega)]; rfl
    clear hB9 hBg hS9 hk9 hpb hgs hgl hpl hLrd hLok HSZ HT1W HWY hs56 hs6y
    obtain ⟨Z1, hZ1⟩ : ∃ Z1, vzero 1 T1 = Z1 := ⟨_, rfl⟩
    rw [hZ1] at HZ hz1
    have HLT := Lib.hid hLT
    have HZ1 := Lib.hid hZ1
    have HES := Lib.hid hz1
    clear hLT hZ1 hz1
    go_wp2_with fail
    refine HZ.out.mono ?_
    rintro e10 w10 ⟨B1, m1, q1, rfl, hV10, hb10⟩
    obtain ⟨x, hx⟩ : ∃ x, w10.alloc (.cells #[.int .i64 Z1.i, .slice B1 m1 q1] 31) = x := ⟨_, rfl⟩
    have hbx : Below w10.heap.size w10 x := hx ▸ allocB _ _
    have hBv : Box2 x w10.heap.size (.int .i64 Z1.i) (.slice B1 m1 q1) := hx ▸ box2_new _ _ _ _
    have hszx : w10.heap.size < x.heap.size := World.block_lt_of_cell? x _ hBv.1
    have hkx : But g wc x := But.of_below (nextB hb10 hbx)
    have hSx : Src x g := HS9.out.below (nextB hb10 hbx)
    have hg10 : g < w10.heap.size := Nat.lt_of_lt_of_le HS9.out.size hb10.size
    have HTV : Hid (tyV LT (some ⟨gs, 0, none⟩) 1 1 = .agg #[.int .i64 6, .int .i64 0, .int .i64 0, .int .i64 mx, .slice (some ⟨gs, 0, none⟩) 1 1]) := by rw [HLT.out]; rfl
    have hSM := (some_x 2 _ LT _ 1 1 g x (HLW.out x hkx).1 (fun b hb => by omega) HLO.out.ok (by rw [HLT.out]; exact ⟨show (6 : Int) ≠ 3 by decide, show (6 : Int) ≠ 4 by decide⟩) hSx)
    rw [HTV.out] at hSM
    have HSM := Lib.hid hSM
    clear hSM
    have HZB : Hid (∀ W, But g x W → Box2 W w10.heap.size (.int .i64 Z1.i) (.slice B1 m1 q1)) := fun W hW => hBv.keep (hW.block _ hszx (by omega))
    have HKX := Lib.hid hkx
    clear p0 p1 p2 p3 p4
    obtain ⟨p0, p1, p2, p3, p4⟩ := (HLW.out x hkx).2.1
    clear hV10 hb10 hbx hBv hkx hSx HZ HS9
    subst hx
    go_wp2_with fail
    refine HSM.out.mono ?_
    rintro e11 w11 ⟨V, B, m, q, rfl, hV, _, _, hk11⟩
    generalize hx : w10.alloc (.cells #[.int .i64 Z1.i, .slice B1 m1 q1] 31) = x at *
    obtain ⟨z, hz⟩ : ∃ z, w11.alloc (.cells #[.int .i64 V.i, .slice B m q] 31) = z := ⟨_, rfl⟩
    have hbz : Below w11.heap.size w11 z := hz ▸ allocB _ _
    have hBz : Box2 z w11.heap.size (.int .i64 V.i) (.slice B m q) := hz ▸ box2_new _ _ _ _
    have hszz : w11.heap.size < z.heap.size := World.block_lt_of_cell? z _ hBz.1
    have hkz : But g x z := hk11.onB hbz hk11.size
    have hkc : But g wc z := HKX.out.trans hkz
    have hCK := refCheck_x _ 2 LT _ 1 1 z (HLW.out z hkc).1 HLO.out (by rw [HLT.out]; exact ⟨show (6 : Int) ≠ 3 by decide, show (6 : Int) ≠ 4 by decide⟩) _ 3 V B m q (hV.below hbz)
    rw [HTV.out] at hCK
    have HCK := Lib.hid hCK
    have HVW : Hid (∀ W, Below z.heap.size z W → VlRd (fun b => x.heap.size ≤ b) W 3 V B m q ∧ Box2 W w11.heap.size (.int .i64 V.i) (.slice B m q) ∧ Box2 W w10.heap.size (.int .i64 Z1.i) (.slice B1 m1 q1) ∧ TyRd (fun b => w5.heap.size ≤ b) W 2 LT (some ⟨gs, 0, none⟩) 1 1 ∧ Box5 W pb (.int .i64 6) (.int .i64 0) (.int .i64 0) (.int .i64 mx) (.slice (some ⟨gs, 0, none⟩) 1 1) ∧ Below w.heap.size w W) :=
      fun W hW => ⟨(hV.below hbz).below hW, hBz.below hW hszz, HZB.out W (hkz.onB hW hkz.size), HLW.out W (hkc.onB hW hkc.size)⟩
    clear p0 p1 p2 p3 p4
    obtain ⟨p0, p1, p2, p3, p4⟩ := (HVW.out z (Below.refl _ _)).2.2.2.2.1
    obtain ⟨y0, y1, _, _⟩ := hBz
    clear hV hbz hszz hkz hkc hCK hk11 HZB HLW HKX HSM hx
    subst hz
    go_wp2_with fail
    refine HCK.out.mono ?_
    rintro e12 w12 ⟨rfl, hb12⟩
    have HV12 := Lib.hid (HVW.out w12 hb12)
    by_cases hve : verr 2 LT V = 0
    · rw [hve]
      generalize hz : w11.alloc (.cells #[.int .i64 V.i, .slice B m q] 31) = z at *
      have hv' : verr 2 (.mk 6 0 0 mx [T1]) V = 0 := by rw [← HLT.out]; exact hve
      obtain ⟨c1, c2, c3, c4⟩ := list_cells hel mx0 hv'
      have hFL := Flatten_x _ 2 LT _ 1 1 w12 HV12.out.2.2.2.1 HLO.out (by rw [HLT.out]; exact show (6 : Int) ≠ 4 by decide) _ 3 V B m q HV12.out.1 hve (by rw [HLT.out, c3]; omega)
      have hL : vflat 2 LT V = vflat 2 (.mk 6 0 0 mx [T1]) V := by rw [HLT.out]
      rw [HTV.out, hL] at hFL
      have HFL := Lib.hid hFL
      have hvl : V.es.length = m := HV12.out.1.len.1
      rw [hvl] at c1 c2 c4
      rw [HZ1.out] at c4
      clear hL hv' hFL hvl hve HTV HLT HLO hel hz
      generalize vflat 2 (.mk 6 0 0 mx [T1]) V = l at *
      obtain ⟨mn, rfl⟩ : ∃ mn : Nat, mx = mn := ⟨mx.toNat, by omega⟩
      rw [Int.toNat_natCast] at c1 c3 c4
      have HC := Lib.hid (And.intro c2 (And.intro c3 c4))
      clear c2 c3 c4 p0 p1 p2 p3 p4 y0 y1 HCK HVW hb12
      obtain ⟨p0, p1, p2, p3, p4⟩ := HV12.out.2.2.2.2.1
      obtain ⟨y0, y1, _, _⟩ := HV12.out.2.1
      go_wp2_with fail
      refine HFL.out.mono ?_
      rintro e13 w13 ⟨Q, nq, qq, rfl, hO, _, hb13⟩
      obtain ⟨c2, c3, c4⟩ := HC.out
      have hn : l.length = nq := hO.len
      obtain rfl : nq = mn + 1 := by omega
      obtain ⟨gq, rfl, _, _⟩ := row_form hO.row (by omega)
      have k0 : w13.cell? ⟨gq, 0, none⟩ = some (.int .i64 (m : Int)) := by
        rw [hO.row.cellAt 0 (by omega)]
        unfold intRow
        rw [List.getElem?_map, c2]; rfl
      have HCL : Hid (∀ W, Below w13.heap.size w13 W → ∀ i, m < i → i < mn + 1 → W.cell? ⟨gq, i, none⟩ = some (.int .i64 Z1.i)) := fun W hW i h1 h2 => by
        have h3 := hO.below hW
        rw [h3.row.cellAt i (by omega)]
        unfold intRow
        rw [List.getElem?_map, c4 i h1 (by omega)]; rfl
      have HZW : Hid (∀ W, Below w13.heap.size w13 W → Box2 W w10.heap.size (.int .i64 Z1.i) (.slice B1 m1 q1)) := fun W hW => by
        have h3 := HV12.out.2.2.1
        exact h3.below (nextB hb13 hW) (World.block_lt_of_cell? w12 _ h3.1)
      have HWW := Lib.hid (nextB HV12.out.2.2.2.2.2 hb13)
      have hB13 := HV12.out.2.2.2.2.1.below hb13 (World.block_lt_of_cell? w12 _ p0)
      have hV13 := HV12.out.2.1.below hb13 (World.block_lt_of_cell? w12 _ y0)
      clear p0 p1 p2 p3 p4 y0 y1 hO hb13 c2 c3 c4 hn HFL HC
      obtain ⟨p0, p1, p2, p3, p4⟩ := hB13
      obtain ⟨y0, y1, _, _⟩ := hV13
      go_wp2_with fail
      go_quiet (fail)
      go_wp2_with fail
      go_loopw [14] (fun iv wr => ∃ i : Nat, (m < i ∧ i ≤ mn + 1) ∧ iv = .int .i64 i ∧ Hid (Below w13.heap.size w13 wr)) (fun iv _ => mn + 1 - (intOf iv).toNat)
      case atStart => exact ⟨m + 1, ⟨by omega, by omega⟩, by go_num, drewN_below (Below.refl _ _) _⟩
      case round =>
        obtain ⟨i, ⟨hmi, hi⟩, rfl, HB⟩ := hrel
        by_cases hlt : i < mn + 1
        · have k1 := HCL.out wr HB.out i hmi hlt
          obtain ⟨u0, u1, _, _⟩ := HZW.out wr HB.out
          go_wp2_with fail
          go_quiet (fail)
          clear k1 u0 u1
          go_wp2
          go_roundw
          case rel => exact ⟨i + 1, ⟨by omega, by omega⟩, by go_num, drewN_below HB.out _⟩
          case measure => simp [intOf] <;> omega
        · obtain rfl : i = mn + 1 := by omega
          have HAW := Lib.hid (awake_x wr)
          have HWR := Lib.hid (nextB HWW.out HB.out)
          go_wp2_with fail
          refine HAW.out.mono ?_
          rintro e9 w9 ⟨rfl, hb9⟩
          have HE := Lib.hid (nextB HWR.out hb9)
          clear hb9
          go_wp2
          go_ret
          exact ⟨rfl, HE.out⟩
    · generalize verr 2 LT V = r at *
      have hb : (r != 0) = true := by simpa using hve
      have HAW := Lib.hid (awake_x w12)
      clear p0 p1 p2 p3 p4 y0 y1 HCK HVW hb12
      go_wp2_with fail
      refine HAW.out.mono ?_
      rintro e13 w13 ⟨rfl, hb13⟩
      have HE := Lib.hid (nextB HV12.out.2.2.2.2.2 hb13)
      clear hb13
      go_wp2
      go_ret
      exact ⟨rfl, HE.out⟩
end Go.Proofs.Ytklndjkblfncjaa
