/-
  exactppllaw07.some at one kind of types.
-/
import Derived.Test.YtklndjkblfncjaaGreatDoorSome0
namespace Go.Proofs.YtklndjkblfncjaaGreatDoor
open Go Go.RowKit
set_option maxRecDepth 20000

set_option maxHeartbeats 16000000 in
theorem some_int (d : Nat) (_IH : SomeAt d) (S : Nat → Prop) (T : Ty) (A : Option Addr) (n0 c0 g : Nat) (w : World) (h : TyRd S w (d + 1) T A n0 c0) (hSg : ∀ b, S b → b ≠ g) (hok : Tame (d + 1) T) (hs : Src w g) (k2 : T.k = 2) :
    Calls Tryz.prog 13 #[.pointer (some ⟨g, 0, none⟩), tyV T A n0 c0] w (GivesSome (d + 1) g w) := by
    obtain ⟨i0, hi, hy0, hy1, hy2⟩ := info_parts info_value
    obtain ⟨hl, hcap, htop⟩ := h.len
    unfold maxLen at htop
    have hgs := hs.size
    obtain ⟨v, hv⟩ : ∃ v, (w.alloc (.cells #[.int .i64 T.k, .int .i64 T.lo, .int .i64 T.hi, .int .i64 T.mx, .slice A n0 c0] 24)).alloc (.cells #[.int .i64 0, .slice none 0 0] 27) = v := ⟨_, rfl⟩
    obtain ⟨hvs, hwv, hbx, hinv⟩ := boxes_some w _ _ _ _ _ _ _ v hv g hs
    obtain ⟨u, hu⟩ : ∃ u, v.alloc (.cells #[.int .i64 0, .slice none 0 0] 27) = u := ⟨_, rfl⟩
    rw [hu] at hinv
    obtain ⟨p, hp⟩ : ∃ p, w.heap.size + 2 = p := ⟨_, rfl⟩
    rw [hvs, hp] at hinv
    have HTB : Hid (∀ W, But g v W → Box5 W w.heap.size (.int .i64 T.k) (.int .i64 T.lo) (.int .i64 T.hi) (.int .i64 T.mx) (.slice A n0 c0)) := fun W hb => (hbx W hb).1
    have HRB : Hid (∀ W, But g v W → Box2 W (w.heap.size + 1) (.int .i64 0) (.slice none 0 0)) := fun W hb => (hbx W hb).2
    have HINV := Lib.hid hinv
    have HV := Lib.hid hv
    have HU := Lib.hid hu
    have HP := Lib.hid hp
    have HWV := Lib.hid hwv
    have HPV : Hid (p = w.heap.size + 2) := by show _ = _; omega
    have H : Hid (∀ W, But g v W → TyRd S W (d + 1) T A n0 c0) := fun W hb => (h.below hwv).butG hb hSg
    clear hv hu hp hbx hinv hvs hwv h
    have k1 : ¬ T.k = 1 := by omega
    have b1 : (T.k == 1) = false := by simpa using k1
    have b5 : (T.k == 5) = false := by simp; omega
    have b6 : (T.k == 6) = false := by simp; omega
    have b2 : (T.k == 2) = true := by simpa using k2
    obtain ⟨⟨hlo, hlo1, hhi0, hhi, hmm⟩, hzz⟩ := hok
    clear hzz hmm
    have INV0 := Lib.hid (HINV.out (d + 1))
    have HT := Lib.hid (HTB.out u INV0.out.but)
    obtain ⟨z, hz⟩ : ∃ z, min T.hi (T.lo + 5) = z := ⟨_, rfl⟩
    have hz1 : -1001 ≤ z ∧ z ≤ 1001 := by omega
    have HZ := Lib.hid hz
    have HN0 := Lib.hid (srcRange_e g u T.lo z INV0.out.src (by omega) (by omega) (by omega) (by omega))
    have elo : IntKind.i64.wrap (T.lo + 5) = T.lo + 5 := by rw [IntKind.wrap_i64]; omega
    clear k1 k2 hl _IH H HINV hSg hz
    go_enter Tryz.func13, Tryz.ntmps13
    go_wp2_with fail
    all_goals
      rw [HV.out, HU.out, HP.out]
      have hz := HZ.out
      try rw [show T.hi = z by omega]
      try rw [show T.lo + 5 = z by omega]
      clear hz elo
      refine HN0.out.mono ?_
      rintro e1 wr ⟨x, rfl, ⟨x1, x2⟩, hs1, hb1⟩
      have INV1 := Lib.hid (INV0.out.butG hs1 hb1)
      have INV := Lib.hid (INV1.out.int x)
      obtain ⟨y0, y1, yf0, yf1⟩ := INV1.out.box
      clear INV0 INV1 HN0 hs1 hb1 HT
      have HN := Lib.hid (N_any g (wr.setCell ⟨p, 0, none⟩ (.int .i64 x)) 24 INV.out.src (by omega) (by omega))
      go_wp2_with fail
      refine HN.out.mono ?_
      rintro e2 wr ⟨z, rfl, ⟨z0, z1⟩, hsz, hbz⟩
      replace INV := Lib.hid (INV.out.butG hsz hbz)
      clear HN hsz hbz
      by_cases hz0 : z = 0
      · subst hz0
        have HPK : Hid (Calls Tryz.prog 30 #[.pointer (some ⟨g, 0, none⟩), .slice (some ⟨wr.heap.size, 0, none⟩) 3 3] (wr.alloc (.cells #[.int .i64 (-1), .int .i64 1, .int .i64 1000] 3)).drew (Drawn g (-1) 1000 (wr.alloc (.cells #[.int .i64 (-1), .int .i64 1, .int .i64 1000] 3)).drew)) :=
          pick_any g _ _ 3 3 (-1) 1000 ((INV.out.src.below (allocB _ _)).drew) (by omega) (by omega) (lits_at wr.drew #[.int .i64 (-1), .int .i64 1, .int .i64 1000] 3 3 (-1) 1000 rfl three) (by have h1 := INV.out.src.size; show wr.heap.size ≠ g; omega)
        have hk := But.refl g wr.drew
        go_wp2_with fail
        refine wp_region_held_drew (S := fun _ => True) (by kernel_rfl) trivial (fun hHeld => ?_)
        refine tkH (i := 0) (oi := ⟨some 84, _, _, _, _, _⟩) (v := ?_) ?_ ?_
        rotate_left
        · intro w hSw; go_simp; try with_reducible rfl
        try simp only [Act.put, List.setIfInBounds_toArray, List.set_cons_zero, List.set_cons_succ]
        refine tkH (i := 2) (oi := ⟨some 86, _, _, _, _, _⟩) (v := ?_) ?_ ?_
        rotate_left
        · intro w hSw; go_simp; try with_reducible rfl
        try simp only [Act.put, List.setIfInBounds_toArray, List.set_cons_zero, List.set_cons_succ]
        refine wpAnyH_ready (rs := [1, 3]) (by kernel_rfl) (by simp) ?_
        refine AllReadyH.cons (o := ⟨some 85, _, _, _, _, _⟩) rfl (fun K hK => ?_) (AllReadyH.cons (o := ⟨some 87, _, _, _, _, _⟩) rfl (fun K hK => ?_) AllReadyH.nil)
        · have q0 := (INV.out.boxAt _ hk).1
          go_simp
          refine hK.out _ _ trivial (fun hHeld => ?_)
          clear hK K
          try simp only [Act.put, List.setIfInBounds_toArray, List.set_cons_zero, List.set_cons_succ]
          refine wpAnyH_ready (rs := [3]) (by kernel_rfl) (by simp) ?_
          refine AllReadyH.cons (o := ⟨some 87, _, _, _, _, _⟩) rfl (fun K hK => ?_) AllReadyH.nil
          go_simp
          have hk : But g wr.drew (wr.alloc (.cells #[.int .i64 (-1), .int .i64 1, .int .i64 1000] 3)).drew := hk.alloc (.cells #[.int .i64 (-1), .int .i64 1, .int .i64 1000] 3)
          refine hK.out _ _ trivial (fun hHeld => ?_)
          clear hK K
          try simp only [Act.put, List.setIfInBounds_toArray, List.set_cons_zero, List.set_cons_succ]
          refine wpAnyH_ready (rs := [4]) (by kernel_rfl) (by simp) ?_
          refine AllReadyH.cons (o := ⟨some 88, _, _, _, _, _⟩) rfl (fun K hK => ?_) AllReadyH.nil
          go_simp
          go_at_call 30
          (with_reducible refine HPK.out.mono ?_)
          rintro e1 w1 ⟨y, rfl, ⟨y1, y2⟩, hs1, hb1⟩
          replace hk := hk.trans hb1
          go_wp2_with fail
          refine hK.out _ _ trivial (fun hHeld => ?_)
          clear hK K
          try simp only [Act.put, List.setIfInBounds_toArray, List.set_cons_zero, List.set_cons_succ]
          have eadd : IntKind.i64.wrap (x + y) = x + y := by rw [IntKind.wrap_i64]; omega
          refine tkH (i := 5) (oi := ⟨some 89, _, _, _, _, _⟩) (v := ?_) ?_ ?_
          rotate_left
          · intro w hSw; go_simp; try with_reducible rfl
          try simp only [Act.put, List.setIfInBounds_toArray, List.set_cons_zero, List.set_cons_succ]
          refine tkH (i := 6) (oi := ⟨some 90, _, _, _, _, _⟩) (v := ?_) ?_ ?_
          rotate_left
          · intro w hSw; go_simp; try with_reducible rfl
          try simp only [Act.put, List.setIfInBounds_toArray, List.set_cons_zero, List.set_cons_succ]
          clear eadd
          refine wpAnyH_ready (rs := [7]) (by kernel_rfl) (by simp) ?_
          refine AllReadyH.cons (o := ⟨none, _, _, _, _, _⟩) rfl (fun K hK => ?_) AllReadyH.nil
          have INV2 := Lib.hid (INV.out.drew.butG hs1 hk)
          have x0 := INV2.out.box.1
          have f0 := INV2.out.box.2.2.1
          go_simp
          refine hK.out _ _ trivial (fun hHeld => ?_)
          clear hK K hHeld x0 f0
          try simp only [Act.put, List.setIfInBounds_toArray, List.set_cons_zero, List.set_cons_succ]
          refine wpAnyH_done (by kernel_rfl) ?_ _
          replace INV := Lib.hid (INV2.out.int (x + y))
          clear INV2 hk hs1 hb1
          generalize w1.setCell ⟨p, 0, none⟩ (.int .i64 (x + y)) = wr at *
          have hrb := HRB.out _ INV.out.but
          obtain ⟨r0, r1, f0, f1⟩ := hrb
          obtain ⟨b0, b1, _, _⟩ := INV.out.box
          have hrd := INV.out.own.rd (.mk (x + y) ([])) rfl
          have HRD : Hid (∀ y0 y1, VlRd (fun b => w.heap.size ≤ b) ((wr.setCell ⟨w.heap.size + 1, 0, none⟩ y0).setCell ⟨w.heap.size + 1, 1, none⟩ y1) (d + 1 + 1) (.mk (x + y) ([])) none 0 0) := fun y0 y1 => ((hrd.set (fun z hz => by have := HPV.out; omega)).set (fun z hz => by have := HPV.out; omega)).in fun b hb => by have := HPV.out; omega
          have HB5 : Hid (∀ y0 y1, Below (w.heap.size + 1) wr ((wr.setCell ⟨w.heap.size + 1, 0, none⟩ y0).setCell ⟨w.heap.size + 1, 1, none⟩ y1)) := fun y0 y1 => ((Below.refl (w.heap.size + 1) wr).setCell (p := ⟨w.heap.size + 1, 0, none⟩) (Nat.le_refl _) y0).setCell (p := ⟨w.heap.size + 1, 1, none⟩) (Nat.le_refl _) y1
          clear hrd
          go_wp2
          exact bodyPost_ret (v := vlV (.mk (x + y) ([])) none 0 0) (by simp [results, Tryz.results13, go_sem, r0, r1, Vl.i]) rfl ⟨.mk (x + y) ([]), none, 0, 0, rfl, HRD.out _ _, (by show -1002 ≤ (x + y) ∧ (x + y) ≤ 2001; omega), INV.out.src.belowB (HB5.out _ _) (by omega), ((But.of_below HWV.out).trans INV.out.but).onB (HB5.out _ _) (by omega)⟩
        · go_simp
          have hk : But g wr.drew (wr.alloc (.cells #[.int .i64 (-1), .int .i64 1, .int .i64 1000] 3)).drew := hk.alloc (.cells #[.int .i64 (-1), .int .i64 1, .int .i64 1000] 3)
          refine hK.out _ _ trivial (fun hHeld => ?_)
          clear hK K
          try simp only [Act.put, List.setIfInBounds_toArray, List.set_cons_zero, List.set_cons_succ]
          refine wpAnyH_ready (rs := [1, 4]) (by kernel_rfl) (by simp) ?_
          refine AllReadyH.cons (o := ⟨some 85, _, _, _, _, _⟩) rfl (fun K hK => ?_) (AllReadyH.cons (o := ⟨some 88, _, _, _, _, _⟩) rfl (fun K hK => ?_) AllReadyH.nil)
          · have q0 := (INV.out.boxAt _ hk).1
            go_simp
            refine hK.out _ _ trivial (fun hHeld => ?_)
            clear hK K
            try simp only [Act.put, List.setIfInBounds_toArray, List.set_cons_zero, List.set_cons_succ]
            refine wpAnyH_ready (rs := [4]) (by kernel_rfl) (by simp) ?_
            refine AllReadyH.cons (o := ⟨some 88, _, _, _, _, _⟩) rfl (fun K hK => ?_) AllReadyH.nil
            go_simp
            go_at_call 30
            (with_reducible refine HPK.out.mono ?_)
            rintro e1 w1 ⟨y, rfl, ⟨y1, y2⟩, hs1, hb1⟩
            replace hk := hk.trans hb1
            go_wp2_with fail
            refine hK.out _ _ trivial (fun hHeld => ?_)
            clear hK K
            try simp only [Act.put, List.setIfInBounds_toArray, List.set_cons_zero, List.set_cons_succ]
            have eadd : IntKind.i64.wrap (x + y) = x + y := by rw [IntKind.wrap_i64]; omega
            refine tkH (i := 5) (oi := ⟨some 89, _, _, _, _, _⟩) (v := ?_) ?_ ?_
            rotate_left
            · intro w hSw; go_simp; try with_reducible rfl
            try simp only [Act.put, List.setIfInBounds_toArray, List.set_cons_zero, List.set_cons_succ]
            refine tkH (i := 6) (oi := ⟨some 90, _, _, _, _, _⟩) (v := ?_) ?_ ?_
            rotate_left
            · intro w hSw; go_simp; try with_reducible rfl
            try simp only [Act.put, List.setIfInBounds_toArray, List.set_cons_zero, List.set_cons_succ]
            clear eadd
            refine wpAnyH_ready (rs := [7]) (by kernel_rfl) (by simp) ?_
            refine AllReadyH.cons (o := ⟨none, _, _, _, _, _⟩) rfl (fun K hK => ?_) AllReadyH.nil
            have INV2 := Lib.hid (INV.out.drew.butG hs1 hk)
            have x0 := INV2.out.box.1
            have f0 := INV2.out.box.2.2.1
            go_simp
            refine hK.out _ _ trivial (fun hHeld => ?_)
            clear hK K hHeld x0 f0
            try simp only [Act.put, List.setIfInBounds_toArray, List.set_cons_zero, List.set_cons_succ]
            refine wpAnyH_done (by kernel_rfl) ?_ _
            replace INV := Lib.hid (INV2.out.int (x + y))
            clear INV2 hk hs1 hb1
            generalize w1.setCell ⟨p, 0, none⟩ (.int .i64 (x + y)) = wr at *
            have hrb := HRB.out _ INV.out.but
            obtain ⟨r0, r1, f0, f1⟩ := hrb
            obtain ⟨b0, b1, _, _⟩ := INV.out.box
            have hrd := INV.out.own.rd (.mk (x + y) ([])) rfl
            have HRD : Hid (∀ y0 y1, VlRd (fun b => w.heap.size ≤ b) ((wr.setCell ⟨w.heap.size + 1, 0, none⟩ y0).setCell ⟨w.heap.size + 1, 1, none⟩ y1) (d + 1 + 1) (.mk (x + y) ([])) none 0 0) := fun y0 y1 => ((hrd.set (fun z hz => by have := HPV.out; omega)).set (fun z hz => by have := HPV.out; omega)).in fun b hb => by have := HPV.out; omega
            have HB5 : Hid (∀ y0 y1, Below (w.heap.size + 1) wr ((wr.setCell ⟨w.heap.size + 1, 0, none⟩ y0).setCell ⟨w.heap.size + 1, 1, none⟩ y1)) := fun y0 y1 => ((Below.refl (w.heap.size + 1) wr).setCell (p := ⟨w.heap.size + 1, 0, none⟩) (Nat.le_refl _) y0).setCell (p := ⟨w.heap.size + 1, 1, none⟩) (Nat.le_refl _) y1
            clear hrd
            go_wp2
            exact bodyPost_ret (v := vlV (.mk (x + y) ([])) none 0 0) (by simp [results, Tryz.results13, go_sem, r0, r1, Vl.i]) rfl ⟨.mk (x + y) ([]), none, 0, 0, rfl, HRD.out _ _, (by show -1002 ≤ (x + y) ∧ (x + y) ≤ 2001; omega), INV.out.src.belowB (HB5.out _ _) (by omega), ((But.of_below HWV.out).trans INV.out.but).onB (HB5.out _ _) (by omega)⟩
          · go_simp
            go_at_call 30
            (with_reducible refine HPK.out.mono ?_)
            rintro e1 w1 ⟨y, rfl, ⟨y1, y2⟩, hs1, hb1⟩
            replace hk := hk.trans hb1
            go_wp2_with fail
            refine hK.out _ _ trivial (fun hHeld => ?_)
            clear hK K
            try simp only [Act.put, List.setIfInBounds_toArray, List.set_cons_zero, List.set_cons_succ]
            refine wpAnyH_ready (rs := [1]) (by kernel_rfl) (by simp) ?_
            refine AllReadyH.cons (o := ⟨some 85, _, _, _, _, _⟩) rfl (fun K hK => ?_) AllReadyH.nil
            have q0 := (INV.out.boxAt _ hk).1
            go_simp
            refine hK.out _ _ trivial (fun hHeld => ?_)
            clear hK K
            try simp only [Act.put, List.setIfInBounds_toArray, List.set_cons_zero, List.set_cons_succ]
            have eadd : IntKind.i64.wrap (x + y) = x + y := by rw [IntKind.wrap_i64]; omega
            refine tkH (i := 5) (oi := ⟨some 89, _, _, _, _, _⟩) (v := ?_) ?_ ?_
            rotate_left
            · intro w hSw; go_simp; try with_reducible rfl
            try simp only [Act.put, List.setIfInBounds_toArray, List.set_cons_zero, List.set_cons_succ]
            refine tkH (i := 6) (oi := ⟨some 90, _, _, _, _, _⟩) (v := ?_) ?_ ?_
            rotate_left
            · intro w hSw; go_simp; try with_reducible rfl
            try simp only [Act.put, List.setIfInBounds_toArray, List.set_cons_zero, List.set_cons_succ]
            clear eadd
            refine wpAnyH_ready (rs := [7]) (by kernel_rfl) (by simp) ?_
            refine AllReadyH.cons (o := ⟨none, _, _, _, _, _⟩) rfl (fun K hK => ?_) AllReadyH.nil
            have INV2 := Lib.hid (INV.out.drew.butG hs1 hk)
            have x0 := INV2.out.box.1
            have f0 := INV2.out.box.2.2.1
            go_simp
            refine hK.out _ _ trivial (fun hHeld => ?_)
            clear hK K hHeld x0 f0
            try simp only [Act.put, List.setIfInBounds_toArray, List.set_cons_zero, List.set_cons_succ]
            refine wpAnyH_done (by kernel_rfl) ?_ _
            replace INV := Lib.hid (INV2.out.int (x + y))
            clear INV2 hk hs1 hb1
            generalize w1.setCell ⟨p, 0, none⟩ (.int .i64 (x + y)) = wr at *
            have hrb := HRB.out _ INV.out.but
            obtain ⟨r0, r1, f0, f1⟩ := hrb
            obtain ⟨b0, b1, _, _⟩ := INV.out.box
            have hrd := INV.out.own.rd (.mk (x + y) ([])) rfl
            have HRD : Hid (∀ y0 y1, VlRd (fun b => w.heap.size ≤ b) ((wr.setCell ⟨w.heap.size + 1, 0, none⟩ y0).setCell ⟨w.heap.size + 1, 1, none⟩ y1) (d + 1 + 1) (.mk (x + y) ([])) none 0 0) := fun y0 y1 => ((hrd.set (fun z hz => by have := HPV.out; omega)).set (fun z hz => by have := HPV.out; omega)).in fun b hb => by have := HPV.out; omega
            have HB5 : Hid (∀ y0 y1, Below (w.heap.size + 1) wr ((wr.setCell ⟨w.heap.size + 1, 0, none⟩ y0).setCell ⟨w.heap.size + 1, 1, none⟩ y1)) := fun y0 y1 => ((Below.refl (w.heap.size + 1) wr).setCell (p := ⟨w.heap.size + 1, 0, none⟩) (Nat.le_refl _) y0).setCell (p := ⟨w.heap.size + 1, 1, none⟩) (Nat.le_refl _) y1
            clear hrd
            go_wp2
            exact bodyPost_ret (v := vlV (.mk (x + y) ([])) none 0 0) (by simp [results, Tryz.results13, go_sem, r0, r1, Vl.i]) rfl ⟨.mk (x + y) ([]), none, 0, 0, rfl, HRD.out _ _, (by show -1002 ≤ (x + y) ∧ (x + y) ≤ 2001; omega), INV.out.src.belowB (HB5.out _ _) (by omega), ((But.of_below HWV.out).trans INV.out.but).onB (HB5.out _ _) (by omega)⟩
      · by_cases hz1 : z = 1
        · subst hz1
          obtain ⟨a0, a1, _, _⟩ := INV.out.box
          have INV1 := INV
          obtain ⟨hOWx, hNW, _⟩ := INV1.out.tail (x := ⟨.mk 0 [], none, 0, 0⟩) (w1 := wr) (VlRd.nil _ _ rfl) (⟨rfl, rfl, rfl, Nat.le_refl _, fun _ _ _ => rfl⟩ : But g wr.drew wr)
          go_wp2_with (at_builtin; refine wpList_append_lies _ rfl _ _ 25 rfl (p + 1) 27 i0 (.agg #[.int .i64 0, .slice none 0 0]) 2 32 Tryz.underlying25 hi hy0 hy1 hy2 rfl (by decide) (.slice none 0 0) 0 (vlRow []) rfl hOWx.row ⟨wr.heap.size, 0, none⟩ 1 1 (VlAt.mk (.mk 0 []) none 0 0).cells rfl rfl hNW (VlAt.oneCell _) (by decide) (by unfold maxLen; omega) (by omega) (by rw [World.size_alloc]; have := INV1.out.size; omega) _ rfl ?_)
          intro g3 c3 w3 hown hgrow hat hlt3
          have hKE := Lib.hid (INV1.out.added (x := ⟨.mk 0 [], none, 0, 0⟩) (w1 := wr) (VlRd.nil _ _ rfl) trivial INV1.out.src (⟨rfl, rfl, rfl, Nat.le_refl _, fun _ _ _ => rfl⟩ : But g wr.drew wr) hown hgrow (by first | exact hat | (rw [World.size_alloc] at hat; exact hat)))
          have u1 := hKE.out.box.2.1
          have u2 := hKE.out.box.2.2.2
          have INV := Lib.hid (hKE.out.stored (.slice (some ⟨g3, 0, none⟩) (0 + 1) c3))
          clear hown hgrow hat hOWx hNW INV1 hKE
          have hrb := HRB.out _ INV.out.but
          obtain ⟨r0, r1, f0, f1⟩ := hrb
          obtain ⟨b0, b1, _, _⟩ := INV.out.box
          have hrd := INV.out.own.rd (.mk x (([] ++ [(⟨.mk 0 [], none, 0, 0⟩ : VlAt)]).map VlAt.V)) rfl
          have HRD : Hid (∀ y0 y1, VlRd (fun b => w.heap.size ≤ b) (((w3.setCell ⟨p, 1, none⟩ (.slice (some ⟨g3, 0, none⟩) (0 + 1) c3)).setCell ⟨w.heap.size + 1, 0, none⟩ y0).setCell ⟨w.heap.size + 1, 1, none⟩ y1) (d + 1 + 1) (.mk x (([] ++ [(⟨.mk 0 [], none, 0, 0⟩ : VlAt)]).map VlAt.V)) (some ⟨g3, 0, none⟩) (0 + 1) c3) := fun y0 y1 => ((hrd.set (fun z hz => by have := HPV.out; omega)).set (fun z hz => by have := HPV.out; omega)).in fun b hb => by have := HPV.out; omega
          have HB5 : Hid (∀ y0 y1, Below (w.heap.size + 1) (w3.setCell ⟨p, 1, none⟩ (.slice (some ⟨g3, 0, none⟩) (0 + 1) c3)) (((w3.setCell ⟨p, 1, none⟩ (.slice (some ⟨g3, 0, none⟩) (0 + 1) c3)).setCell ⟨w.heap.size + 1, 0, none⟩ y0).setCell ⟨w.heap.size + 1, 1, none⟩ y1)) := fun y0 y1 => ((Below.refl (w.heap.size + 1) (w3.setCell ⟨p, 1, none⟩ (.slice (some ⟨g3, 0, none⟩) (0 + 1) c3))).setCell (p := ⟨w.heap.size + 1, 0, none⟩) (Nat.le_refl _) y0).setCell (p := ⟨w.heap.size + 1, 1, none⟩) (Nat.le_refl _) y1
          clear hrd
          go_wp2
          exact bodyPost_ret (v := vlV (.mk x (([] ++ [(⟨.mk 0 [], none, 0, 0⟩ : VlAt)]).map VlAt.V)) (some ⟨g3, 0, none⟩) (0 + 1) c3) (by simp [results, Tryz.results13, go_sem, r0, r1, Vl.i]) rfl ⟨.mk x (([] ++ [(⟨.mk 0 [], none, 0, 0⟩ : VlAt)]).map VlAt.V), some ⟨g3, 0, none⟩, 0 + 1, c3, rfl, HRD.out _ _, (by show -1002 ≤ x ∧ x ≤ 2001; omega), INV.out.src.belowB (HB5.out _ _) (by omega), ((But.of_below HWV.out).trans INV.out.but).onB (HB5.out _ _) (by omega)⟩
        · have zb0 : (z == 0) = false := by simpa using hz0
          have zb1 : (z == 1) = false := by simpa using hz1
          clear hz0 hz1
          have hrb := HRB.out _ INV.out.but
          obtain ⟨r0, r1, f0, f1⟩ := hrb
          obtain ⟨b0, b1, _, _⟩ := INV.out.box
          have hrd := INV.out.own.rd (.mk x ([])) rfl
          have HRD : Hid (∀ y0 y1, VlRd (fun b => w.heap.size ≤ b) ((wr.setCell ⟨w.heap.size + 1, 0, none⟩ y0).setCell ⟨w.heap.size + 1, 1, none⟩ y1) (d + 1 + 1) (.mk x ([])) none 0 0) := fun y0 y1 => ((hrd.set (fun z hz => by have := HPV.out; omega)).set (fun z hz => by have := HPV.out; omega)).in fun b hb => by have := HPV.out; omega
          have HB5 : Hid (∀ y0 y1, Below (w.heap.size + 1) wr ((wr.setCell ⟨w.heap.size + 1, 0, none⟩ y0).setCell ⟨w.heap.size + 1, 1, none⟩ y1)) := fun y0 y1 => ((Below.refl (w.heap.size + 1) wr).setCell (p := ⟨w.heap.size + 1, 0, none⟩) (Nat.le_refl _) y0).setCell (p := ⟨w.heap.size + 1, 1, none⟩) (Nat.le_refl _) y1
          clear hrd
          go_wp2
          exact bodyPost_ret (v := vlV (.mk x ([])) none 0 0) (by simp [results, Tryz.results13, go_sem, r0, r1, Vl.i]) rfl ⟨.mk x ([]), none, 0, 0, rfl, HRD.out _ _, (by show -1002 ≤ x ∧ x ≤ 2001; omega), INV.out.src.belowB (HB5.out _ _) (by omega), ((But.of_below HWV.out).trans INV.out.but).onB (HB5.out _ _) (by omega)⟩
end Go.Proofs.YtklndjkblfncjaaGreatDoor
