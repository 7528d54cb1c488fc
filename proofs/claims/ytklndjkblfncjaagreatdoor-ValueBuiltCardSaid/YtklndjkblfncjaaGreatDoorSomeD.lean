/-
  exactppllaw07.some at one kind of types.
-/
import Derived.Test.YtklndjkblfncjaaGreatDoorSome0
namespace Go.Proofs.YtklndjkblfncjaaGreatDoor
open Go Go.RowKit
set_option maxRecDepth 20000

set_option maxHeartbeats 16000000 in
theorem some_list (d : Nat) (IH : SomeAt d) (S : Nat → Prop) (T : Ty) (A : Option Addr) (n0 c0 g : Nat) (w : World) (h : TyRd S w (d + 1) T A n0 c0) (hSg : ∀ b, S b → b ≠ g) (hok : Tame (d + 1) T) (hs : Src w g) (k6 : T.k = 6) :
    Calls Tryz.prog 13 #[.pointer (some ⟨g, 0, none⟩), tyV T A n0 c0] w (GivesSome (d + 1) g w) := by
    obtain ⟨i0, hi, hy0, hy1, hy2⟩ := info_parts info_value
    obtain ⟨hl, hcap, htop⟩ := h.len
    unfold maxLen at htop
    have hgs := hs.size
    obtain ⟨v, hv⟩ : ∃ v, (w.alloc (.cells #[.int .i64 T.k, .int .i64 T.lo, .int .i64 T.hi, .int .i64 T.mx, .slice A n0 c0] 24)).alloc (.cells #[.int .i64 0, .slice none 0 0] 27) = v := ⟨_, rfl⟩
    obtain ⟨hvs, hwv, hbx, hinv⟩ := boxes_some w _ _ _ _ _ _ _ v hv g hs
    obtain ⟨u, hu⟩ : ∃ u, v.alloc (.cells #[.int .i64 0, .slice none 0 0] 27) = u := ⟨_, rfl⟩
    rw [hu] at hinv
    obtain ⟨p, hp⟩ : ∃ p, w.heap.size + 2 = p := ⟨_, rfl⟩
    rw [hvs, hp] at hinv
    have HTB : Hid (∀ W, But g v W → Box5 W w.heap.size (.int .i64 T.k) (.int .i64 T.lo) (.int .i64 T.hi) (.int .i64 T.mx) (.slice A n0 c0)) := fun W hb => (hbx W hb).1
    have HRB : Hid (∀ W, But g v W → Box2 W (w.heap.size + 1) (.int .i64 0) (.slice none 0 0)) := fun W hb => (hbx W hb).2
    have HINV := Lib.hid hinv
    have HV := Lib.hid hv
    have HU := Lib.hid hu
    have HP := Lib.hid hp
    have HWV := Lib.hid hwv
    have HPV : Hid (p = w.heap.size + 2) := by show _ = _; omega
    have H : Hid (∀ W, But g v W → TyRd S W (d + 1) T A n0 c0) := fun W hb => (h.below hwv).butG hb hSg
    clear hv hu hp hbx hinv hvs hwv h
    have k1 : ¬ T.k = 1 := by omega
    have k2 : ¬ T.k = 2 := by omega
    have k5 : ¬ T.k = 5 := by omega
    have b1 : (T.k == 1) = false := by simpa using k1
    have b2 : (T.k == 2) = false := by simpa using k2
    have b5 : (T.k == 5) = false := by simpa using k5
    have b6 : (T.k == 6) = true := by simpa using k6
    obtain ⟨⟨hz1, hz2, hz3, hz4, hm1, hm4, hz5⟩, hels⟩ := hok
    have HE : Hid (∀ e ∈ T.es, Tame d e) := hels
    have HSG := Lib.hid hSg
    have HI := Lib.hid IH
    have INV0 := Lib.hid (HINV.out (d + 1))
    have HT0 := Lib.hid (HTB.out u INV0.out.but)
    have HN0 := Lib.hid (N_any g u (T.mx + 1) INV0.out.src (by omega) (by omega))
    have emx : IntKind.i64.wrap (T.mx + 1) = T.mx + 1 := by rw [IntKind.wrap_i64]; omega
    clear k1 k2 k5 k6 hz1 hz2 hz3 hz4 hz5 hels hl IH HINV hSg
    go_enter Tryz.func13, Tryz.ntmps13
    go_wp2_with fail
    rw [HV.out, HU.out, HP.out]
    refine HN0.out.mono ?_
    rintro e0 w0 ⟨r0, rfl, ⟨ra, rb⟩, hs0, hb0⟩
    have INV1 := Lib.hid (INV0.out.butG hs0 hb0)
    clear INV0 HT0 HN0 hs0 hb0 emx
    go_wp2
    go_loopw [7] (fun iv wr => ∃ (r : Int) (n : Nat) (Q : Option Addr) (q : Nat) (l : List VlAt), iv = .int .i64 r ∧ (0 ≤ r ∧ r + n ≤ 5 ∧ (n0 = 0 → n = 0)) ∧ Hid (VInv g p (d + 1) v wr (.slice Q n q) Q n q l 0 ∧ (n = 0 → Q = none ∧ q = 0))) (fun iv _ => (intOf iv).toNat)
    case atStart => exact ⟨r0, 0, none, 0, [], rfl, by omega, INV1.out, fun _ => ⟨rfl, rfl⟩⟩
    case round =>
      obtain ⟨r, n, Q, q, l, rfl, hr, INVQ⟩ := hrel
      have INV := Lib.hid INVQ.out.1
      have hTBr := HTB.out wr INV.out.but
      clear INV1
      by_cases hlt : 0 < r ∧ 0 < n0
      · obtain ⟨e, ge, oe, Ae, ne, ce, he, hA, hSe, hge, hce, hre⟩ := (H.out wr INV.out.but).get (i := 0) (by omega)
        have hgv : ge < v.heap.size := by
          obtain ⟨_, _, _, _, _, _, _, hA2, _, hge2, _⟩ := (H.out v (But.refl g v)).get (i := 0) (by omega)
          rw [hA] at hA2
          injection hA2 with hA2
          injection hA2 with hA2 _
          rw [hA2]; exact hge2
        have hgg : ge ≠ g := HSG.out ge hSe
        subst hA
        have hoe := HE.out e (List.mem_of_getElem? he)
        have hlr := hlt.1
        have hln0 := hlt.2
        clear hlt
        have hEC : ∀ W, But g v W → TyCells W ge oe e Ae ne ce := by
          intro W hW
          have h1 : wr.heap[ge]? = v.heap[ge]? := INV.out.but.block ge hgv hgg
          have h2 : W.heap[ge]? = v.heap[ge]? := hW.block ge hgv hgg
          have := hce.keep (h2.trans h1.symm)
          simpa using this
        have HT : Hid (∀ W, But g v W → Box5 W w.heap.size (.int .i64 T.k) (.int .i64 T.lo) (.int .i64 T.hi) (.int .i64 T.mx) (.slice (some ⟨ge, oe, none⟩) n0 c0) ∧ TyCells W ge oe e Ae ne ce) := fun W hW => ⟨HTB.out W hW, hEC W hW⟩
        have HF := Lib.hid (HI.out S e Ae ne ce g wr.drew (hre.butG (But.drew (But.refl g wr)) HSG.out) HSG.out hoe INV.out.src.drew)
        have HBT : Hid (∀ W, But g wr.drew W → But g v W) := fun W hW => (INV.out.but.drew).trans hW
        have hk := But.refl g wr.drew
        obtain ⟨p0, p1, p2, p3, p4⟩ := hTBr
        clear he hSe hge hce hre hEC hgv hgg INVQ hoe
        go_wp2_with fail
        refine wp_region_held_drew (S := fun W => But g v W) (by kernel_rfl) (HBT.out _ hk) (fun hHeld => ?_)
        refine tkH (i := 0) (oi := ⟨some 51, _, _, _, _, _⟩) (v := ?_) ?_ ?_
        rotate_left
        · intro w hSw; go_simp; try with_reducible rfl
        try simp only [Act.put, List.setIfInBounds_toArray, List.set_cons_zero, List.set_cons_succ]
        refine tkH (i := 2) (oi := ⟨some 53, _, _, _, _, _⟩) (v := ?_) ?_ ?_
        rotate_left
        · intro w hSw; go_simp; try with_reducible rfl
        try simp only [Act.put, List.setIfInBounds_toArray, List.set_cons_zero, List.set_cons_succ]
        refine tkH (i := 3) (oi := ⟨some 54, _, _, _, _, _⟩) (v := ?_) ?_ ?_
        rotate_left
        · intro w hSw; go_simp; try with_reducible rfl
        try simp only [Act.put, List.setIfInBounds_toArray, List.set_cons_zero, List.set_cons_succ]
        refine tkH (i := 4) (oi := ⟨some 55, _, _, _, _, _⟩) (v := ?_) ?_ ?_
        rotate_left
        · intro w hSw
          obtain ⟨⟨p0, p1, p2, p3, p4⟩, ⟨q0, q1, q2, q3, q4⟩⟩ := HT.out w hSw
          go_simp
          try with_reducible rfl
        try simp only [Act.put, List.setIfInBounds_toArray, List.set_cons_zero, List.set_cons_succ]
        refine tkH (i := 5) (oi := ⟨some 56, _, _, _, _, _⟩) (v := ?_) ?_ ?_
        rotate_left
        · intro w hSw; go_simp; try with_reducible rfl
        try simp only [Act.put, List.setIfInBounds_toArray, List.set_cons_zero, List.set_cons_succ]
        refine tkH (i := 6) (oi := ⟨some 57, _, _, _, _, _⟩) (v := ?_) ?_ ?_
        rotate_left
        · intro w hSw
          obtain ⟨⟨p0, p1, p2, p3, p4⟩, ⟨q0, q1, q2, q3, q4⟩⟩ := HT.out w hSw
          go_simp
          try with_reducible rfl
        try simp only [Act.put, List.setIfInBounds_toArray, List.set_cons_zero, List.set_cons_succ]
        refine wpAnyH_ready (rs := [1, 7]) (by kernel_rfl) (by simp) ?_
        refine AllReadyH.cons (o := ⟨some 52, _, _, _, _, _⟩) rfl (fun K hK => ?_) (AllReadyH.cons (o := ⟨some 58, _, _, _, _, _⟩) rfl (fun K hK => ?_) AllReadyH.nil)
        · have q1 := (INV.out.boxAt _ hk).2.1
          go_simp
          refine hK.out _ _ (HBT.out _ hk) (fun hHeld => ?_)
          clear hK K
          try simp only [Act.put, List.setIfInBounds_toArray, List.set_cons_zero, List.set_cons_succ]
          refine wpAnyH_ready (rs := [7]) (by kernel_rfl) (by simp) ?_
          refine AllReadyH.cons (o := ⟨some 58, _, _, _, _, _⟩) rfl (fun K hK => ?_) AllReadyH.nil
          go_simp
          go_at_call 13
          (with_reducible refine HF.out.mono ?_)
          rintro e1 w1 ⟨V1, A1, n1, c1, rfl, hrd1, hV1, hs1, hb1⟩
          replace hk := hk.trans hb1
          go_wp2_with fail
          refine hK.out _ _ (HBT.out _ hk) (fun hHeld => ?_)
          clear hK K
          try simp only [Act.put, List.setIfInBounds_toArray, List.set_cons_zero, List.set_cons_succ]
          refine wpAnyH_ready (rs := [8]) (by kernel_rfl) (by simp) ?_
          refine AllReadyH.cons (o := ⟨some 59, _, _, _, _, _⟩) rfl (fun K hK => ?_) AllReadyH.nil
          go_simp
          have hk := hk.alloc (.cells #[.int .i64 V1.i, .slice A1 n1 c1] 27)
          refine hK.out _ _ (HBT.out _ hk) (fun hHeld => ?_)
          clear hK K
          try simp only [Act.put, List.setIfInBounds_toArray, List.set_cons_zero, List.set_cons_succ]
          refine wpAnyH_ready (rs := [9]) (by kernel_rfl) (by simp) ?_
          refine AllReadyH.cons (o := ⟨some 60, _, _, _, _, _⟩) rfl (fun K hK => ?_) AllReadyH.nil
          obtain ⟨hOWx, hNW, _⟩ := INV.out.tail (x := ⟨V1, A1, n1, c1⟩) hrd1 hb1
          refine step_append_lies _ rfl _ _ 25 rfl (p + 1) 27 i0 (.agg #[.int .i64 0, .slice none 0 0]) 2 32 Tryz.underlying25 hi hy0 hy1 hy2 rfl (by decide) (.slice Q n q) n (vlRow l) rfl hOWx.row ⟨w1.heap.size, 0, none⟩ 1 1 (VlAt.mk V1 A1 n1 c1).cells rfl rfl hNW (VlAt.oneCell _) (by decide) (by unfold maxLen; omega) (by omega) (by rw [World.size_alloc]; have := INV.out.size; have h2 : wr.heap.size ≤ w1.heap.size := hb1.size; omega) _ rfl ?_
          intro g3 c3 w3 hown hgrow hat hlt3
          have hKE := Lib.hid (INV.out.added (x := ⟨V1, A1, n1, c1⟩) hrd1 trivial hs1 hb1 hown hgrow (by rw [World.size_alloc] at hat; exact hat))
          clear hown hgrow hat hOWx hNW hrd1 hV1 hs1 hb1 hk
          refine hK.out _ _ hKE.out.but (fun hHeld => ?_)
          clear hK K
          try simp only [Act.put, List.setIfInBounds_toArray, List.set_cons_zero, List.set_cons_succ]
          refine tkH (i := 10) (oi := ⟨some 61, _, _, _, _, _⟩) (v := ?_) ?_ ?_
          rotate_left
          · intro w hSw; go_simp; try with_reducible rfl
          try simp only [Act.put, List.setIfInBounds_toArray, List.set_cons_zero, List.set_cons_succ]
          refine wpAnyH_ready (rs := [11]) (by kernel_rfl) (by simp) ?_
          refine AllReadyH.cons (o := ⟨none, _, _, _, _, _⟩) rfl (fun K hK => ?_) AllReadyH.nil
          have x1 := hKE.out.box.2.1
          have f1 := hKE.out.box.2.2.2
          go_simp
          have HEND := Lib.hid (hKE.out.stored (.slice (some ⟨g3, 0, none⟩) (n + 1) c3))
          refine hK.out _ _ HEND.out.but (fun hHeld => ?_)
          clear hK K x1 f1 hKE
          try simp only [Act.put, List.setIfInBounds_toArray, List.set_cons_zero, List.set_cons_succ]
          refine wpAnyH_done (by kernel_rfl) ?_ _
          go_wp2
          go_roundw
          case rel => exact ⟨r - 1, n + 1, _, _, _, rfl, by omega, HEND.out, fun h0 => absurd h0 (by omega)⟩
          case measure => simp [intOf] <;> omega
        · go_simp
          go_at_call 13
          (with_reducible refine HF.out.mono ?_)
          rintro e1 w1 ⟨V1, A1, n1, c1, rfl, hrd1, hV1, hs1, hb1⟩
          replace hk := hk.trans hb1
          go_wp2_with fail
          refine hK.out _ _ (HBT.out _ hk) (fun hHeld => ?_)
          clear hK K
          try simp only [Act.put, List.setIfInBounds_toArray, List.set_cons_zero, List.set_cons_succ]
          refine wpAnyH_ready (rs := [1, 8]) (by kernel_rfl) (by simp) ?_
          refine AllReadyH.cons (o := ⟨some 52, _, _, _, _, _⟩) rfl (fun K hK => ?_) (AllReadyH.cons (o := ⟨some 59, _, _, _, _, _⟩) rfl (fun K hK => ?_) AllReadyH.nil)
          · have q1 := (INV.out.boxAt _ hk).2.1
            go_simp
            refine hK.out _ _ (HBT.out _ hk) (fun hHeld => ?_)
            clear hK K
            try simp only [Act.put, List.setIfInBounds_toArray, List.set_cons_zero, List.set_cons_succ]
            refine wpAnyH_ready (rs := [8]) (by kernel_rfl) (by simp) ?_
            refine AllReadyH.cons (o := ⟨some 59, _, _, _, _, _⟩) rfl (fun K hK => ?_) AllReadyH.nil
            go_simp
            have hk := hk.alloc (.cells #[.int .i64 V1.i, .slice A1 n1 c1] 27)
            refine hK.out _ _ (HBT.out _ hk) (fun hHeld => ?_)
            clear hK K
            try simp only [Act.put, List.setIfInBounds_toArray, List.set_cons_zero, List.set_cons_succ]
            refine wpAnyH_ready (rs := [9]) (by kernel_rfl) (by simp) ?_
            refine AllReadyH.cons (o := ⟨some 60, _, _, _, _, _⟩) rfl (fun K hK => ?_) AllReadyH.nil
            obtain ⟨hOWx, hNW, _⟩ := INV.out.tail (x := ⟨V1, A1, n1, c1⟩) hrd1 hb1
            refine step_append_lies _ rfl _ _ 25 rfl (p + 1) 27 i0 (.agg #[.int .i64 0, .slice none 0 0]) 2 32 Tryz.underlying25 hi hy0 hy1 hy2 rfl (by decide) (.slice Q n q) n (vlRow l) rfl hOWx.row ⟨w1.heap.size, 0, none⟩ 1 1 (VlAt.mk V1 A1 n1 c1).cells rfl rfl hNW (VlAt.oneCell _) (by decide) (by unfold maxLen; omega) (by omega) (by rw [World.size_alloc]; have := INV.out.size; have h2 : wr.heap.size ≤ w1.heap.size := hb1.size; omega) _ rfl ?_
            intro g3 c3 w3 hown hgrow hat hlt3
            have hKE := Lib.hid (INV.out.added (x := ⟨V1, A1, n1, c1⟩) hrd1 trivial hs1 hb1 hown hgrow (by rw [World.size_alloc] at hat; exact hat))
            clear hown hgrow hat hOWx hNW hrd1 hV1 hs1 hb1 hk
            refine hK.out _ _ hKE.out.but (fun hHeld => ?_)
            clear hK K
            try simp only [Act.put, List.setIfInBounds_toArray, List.set_cons_zero, List.set_cons_succ]
            refine tkH (i := 10) (oi := ⟨some 61, _, _, _, _, _⟩) (v := ?_) ?_ ?_
            rotate_left
            · intro w hSw; go_simp; try with_reducible rfl
            try simp only [Act.put, List.setIfInBounds_toArray, List.set_cons_zero, List.set_cons_succ]
            refine wpAnyH_ready (rs := [11]) (by kernel_rfl) (by simp) ?_
            refine AllReadyH.cons (o := ⟨none, _, _, _, _, _⟩) rfl (fun K hK => ?_) AllReadyH.nil
            have x1 := hKE.out.box.2.1
            have f1 := hKE.out.box.2.2.2
            go_simp
            have HEND := Lib.hid (hKE.out.stored (.slice (some ⟨g3, 0, none⟩) (n + 1) c3))
            refine hK.out _ _ HEND.out.but (fun hHeld => ?_)
            clear hK K x1 f1 hKE
            try simp only [Act.put, List.setIfInBounds_toArray, List.set_cons_zero, List.set_cons_succ]
            refine wpAnyH_done (by kernel_rfl) ?_ _
            go_wp2
            go_roundw
            case rel => exact ⟨r - 1, n + 1, _, _, _, rfl, by omega, HEND.out, fun h0 => absurd h0 (by omega)⟩
            case measure => simp [intOf] <;> omega
          · go_simp
            have hk := hk.alloc (.cells #[.int .i64 V1.i, .slice A1 n1 c1] 27)
            refine hK.out _ _ (HBT.out _ hk) (fun hHeld => ?_)
            clear hK K
            try simp only [Act.put, List.setIfInBounds_toArray, List.set_cons_zero, List.set_cons_succ]
            refine wpAnyH_ready (rs := [1]) (by kernel_rfl) (by simp) ?_
            refine AllReadyH.cons (o := ⟨some 52, _, _, _, _, _⟩) rfl (fun K hK => ?_) AllReadyH.nil
            have q1 := (INV.out.boxAt _ hk).2.1
            go_simp
            refine hK.out _ _ (HBT.out _ hk) (fun hHeld => ?_)
            clear hK K
            try simp only [Act.put, List.setIfInBounds_toArray, List.set_cons_zero, List.set_cons_succ]
            refine wpAnyH_ready (rs := [9]) (by kernel_rfl) (by simp) ?_
            refine AllReadyH.cons (o := ⟨some 60, _, _, _, _, _⟩) rfl (fun K hK => ?_) AllReadyH.nil
            obtain ⟨hOWx, hNW, _⟩ := INV.out.tail (x := ⟨V1, A1, n1, c1⟩) hrd1 hb1
            refine step_append_lies _ rfl _ _ 25 rfl (p + 1) 27 i0 (.agg #[.int .i64 0, .slice none 0 0]) 2 32 Tryz.underlying25 hi hy0 hy1 hy2 rfl (by decide) (.slice Q n q) n (vlRow l) rfl hOWx.row ⟨w1.heap.size, 0, none⟩ 1 1 (VlAt.mk V1 A1 n1 c1).cells rfl rfl hNW (VlAt.oneCell _) (by decide) (by unfold maxLen; omega) (by omega) (by rw [World.size_alloc]; have := INV.out.size; have h2 : wr.heap.size ≤ w1.heap.size := hb1.size; omega) _ rfl ?_
            intro g3 c3 w3 hown hgrow hat hlt3
            have hKE := Lib.hid (INV.out.added (x := ⟨V1, A1, n1, c1⟩) hrd1 trivial hs1 hb1 hown hgrow (by rw [World.size_alloc] at hat; exact hat))
            clear hown hgrow hat hOWx hNW hrd1 hV1 hs1 hb1 hk
            refine hK.out _ _ hKE.out.but (fun hHeld => ?_)
            clear hK K
            try simp only [Act.put, List.setIfInBounds_toArray, List.set_cons_zero, List.set_cons_succ]
            refine tkH (i := 10) (oi := ⟨some 61, _, _, _, _, _⟩) (v := ?_) ?_ ?_
            rotate_left
            · intro w hSw; go_simp; try with_reducible rfl
            try simp only [Act.put, List.setIfInBounds_toArray, List.set_cons_zero, List.set_cons_succ]
            refine wpAnyH_ready (rs := [11]) (by kernel_rfl) (by simp) ?_
            refine AllReadyH.cons (o := ⟨none, _, _, _, _, _⟩) rfl (fun K hK => ?_) AllReadyH.nil
            have x1 := hKE.out.box.2.1
            have f1 := hKE.out.box.2.2.2
            go_simp
            have HEND := Lib.hid (hKE.out.stored (.slice (some ⟨g3, 0, none⟩) (n + 1) c3))
            refine hK.out _ _ HEND.out.but (fun hHeld => ?_)
            clear hK K x1 f1 hKE
            try simp only [Act.put, List.setIfInBounds_toArray, List.set_cons_zero, List.set_cons_succ]
            refine wpAnyH_done (by kernel_rfl) ?_ _
            go_wp2
            go_roundw
            case rel => exact ⟨r - 1, n + 1, _, _, _, rfl, by omega, HEND.out, fun h0 => absurd h0 (by omega)⟩
            case measure => simp [intOf] <;> omega
      · obtain ⟨p0, p1, p2, p3, p4⟩ := hTBr
        obtain ⟨x', hx'⟩ : ∃ x : Int, x = 0 := ⟨0, rfl⟩
        have hq := INVQ.out.2
        have hlen := INV.out.own.len
        clear INVQ
        rw [← hx'] at INV
        have x1 : -1000 ≤ x' := by omega
        have x2 : x' ≤ 1000 := by omega
        clear hx'
        generalize x' = x at *
        by_cases hr0 : r = 0
        · subst hr0
          clear hlt
          by_cases hn0 : 0 < n
          · clear hq hlen
            have HN := Lib.hid (N_any g wr 24 INV.out.src (by omega) (by omega))
            go_wp2_with fail
            refine HN.out.mono ?_
            rintro e2 wr ⟨z, rfl, ⟨z0, z1⟩, hsz, hbz⟩
            replace INV := Lib.hid (INV.out.butG hsz hbz)
            clear HN hsz hbz
            by_cases hz0 : z = 0
            · subst hz0
              have HPK : Hid (Calls Tryz.prog 30 #[.pointer (some ⟨g, 0, none⟩), .slice (some ⟨wr.heap.size, 0, none⟩) 3 3] (wr.alloc (.cells #[.int .i64 (-1), .int .i64 1, .int .i64 1000] 3)).drew (Drawn g (-1) 1000 (wr.alloc (.cells #[.int .i64 (-1), .int .i64 1, .int .i64 1000] 3)).drew)) :=
                pick_any g _ _ 3 3 (-1) 1000 ((INV.out.src.below (allocB _ _)).drew) (by omega) (by omega) (lits_at wr.drew #[.int .i64 (-1), .int .i64 1, .int .i64 1000] 3 3 (-1) 1000 rfl three) (by have h1 := INV.out.src.size; show wr.heap.size ≠ g; omega)
              have hk := But.refl g wr.drew
              go_wp2_with fail
              refine wp_region_held_drew (S := fun _ => True) (by kernel_rfl) trivial (fun hHeld => ?_)
              refine tkH (i := 0) (oi := ⟨some 84, _, _, _, _, _⟩) (v := ?_) ?_ ?_
              rotate_left
              · intro w hSw; go_simp; try with_reducible rfl
              try simp only [Act.put, List.setIfInBounds_toArray, List.set_cons_zero, List.set_cons_succ]
              refine tkH (i := 2) (oi := ⟨some 86, _, _, _, _, _⟩) (v := ?_) ?_ ?_
              rotate_left
              · intro w hSw; go_simp; try with_reducible rfl
              try simp only [Act.put, List.setIfInBounds_toArray, List.set_cons_zero, List.set_cons_succ]
              refine wpAnyH_ready (rs := [1, 3]) (by kernel_rfl) (by simp) ?_
              refine AllReadyH.cons (o := ⟨some 85, _, _, _, _, _⟩) rfl (fun K hK => ?_) (AllReadyH.cons (o := ⟨some 87, _, _, _, _, _⟩) rfl (fun K hK => ?_) AllReadyH.nil)
              · have q0 := (INV.out.boxAt _ hk).1
                go_simp
                refine hK.out _ _ trivial (fun hHeld => ?_)
                clear hK K
                try simp only [Act.put, List.setIfInBounds_toArray, List.set_cons_zero, List.set_cons_succ]
                refine wpAnyH_ready (rs := [3]) (by kernel_rfl) (by simp) ?_
                refine AllReadyH.cons (o := ⟨some 87, _, _, _, _, _⟩) rfl (fun K hK => ?_) AllReadyH.nil
                go_simp
                have hk : But g wr.drew (wr.alloc (.cells #[.int .i64 (-1), .int .i64 1, .int .i64 1000] 3)).drew := hk.alloc (.cells #[.int .i64 (-1), .int .i64 1, .int .i64 1000] 3)
                refine hK.out _ _ trivial (fun hHeld => ?_)
                clear hK K
                try simp only [Act.put, List.setIfInBounds_toArray, List.set_cons_zero, List.set_cons_succ]
                refine wpAnyH_ready (rs := [4]) (by kernel_rfl) (by simp) ?_
                refine AllReadyH.cons (o := ⟨some 88, _, _, _, _, _⟩) rfl (fun K hK => ?_) AllReadyH.nil
                go_simp
                go_at_call 30
                (with_reducible refine HPK.out.mono ?_)
                rintro e1 w1 ⟨y, rfl, ⟨y1, y2⟩, hs1, hb1⟩
                replace hk := hk.trans hb1
                go_wp2_with fail
                refine hK.out _ _ trivial (fun hHeld => ?_)
                clear hK K
                try simp only [Act.put, List.setIfInBounds_toArray, List.set_cons_zero, List.set_cons_succ]
                have eadd : IntKind.i64.wrap (x + y) = x + y := by rw [IntKind.wrap_i64]; omega
                refine tkH (i := 5) (oi := ⟨some 89, _, _, _, _, _⟩) (v := ?_) ?_ ?_
                rotate_left
                · intro w hSw; go_simp; try with_reducible rfl
                try simp only [Act.put, List.setIfInBounds_toArray, List.set_cons_zero, List.set_cons_succ]
                refine tkH (i := 6) (oi := ⟨some 90, _, _, _, _, _⟩) (v := ?_) ?_ ?_
                rotate_left
                · intro w hSw; go_simp; try with_reducible rfl
                try simp only [Act.put, List.setIfInBounds_toArray, List.set_cons_zero, List.set_cons_succ]
                clear eadd
                refine wpAnyH_ready (rs := [7]) (by kernel_rfl) (by simp) ?_
                refine AllReadyH.cons (o := ⟨none, _, _, _, _, _⟩) rfl (fun K hK => ?_) AllReadyH.nil
                have INV2 := Lib.hid (INV.out.drew.butG hs1 hk)
                have x0 := INV2.out.box.1
                have f0 := INV2.out.box.2.2.1
                go_simp
                refine hK.out _ _ trivial (fun hHeld => ?_)
                clear hK K hHeld x0 f0
                try simp only [Act.put, List.setIfInBounds_toArray, List.set_cons_zero, List.set_cons_succ]
                refine wpAnyH_done (by kernel_rfl) ?_ _
                replace INV := Lib.hid (INV2.out.int (x + y))
                clear INV2 hk hs1 hb1
                generalize w1.setCell ⟨p, 0, none⟩ (.int .i64 (x + y)) = wr at *
                have hrb := HRB.out _ INV.out.but
                obtain ⟨r0, r1, f0, f1⟩ := hrb
                obtain ⟨b0, b1, _, _⟩ := INV.out.box
                have hrd := INV.out.own.rd (.mk (x + y) (l.map VlAt.V)) rfl
                have HRD : Hid (∀ y0 y1, VlRd (fun b => w.heap.size ≤ b) ((wr.setCell ⟨w.heap.size + 1, 0, none⟩ y0).setCell ⟨w.heap.size + 1, 1, none⟩ y1) (d + 1 + 1) (.mk (x + y) (l.map VlAt.V)) Q n q) := fun y0 y1 => ((hrd.set (fun z hz => by have := HPV.out; omega)).set (fun z hz => by have := HPV.out; omega)).in fun b hb => by have := HPV.out; omega
                have HB5 : Hid (∀ y0 y1, Below (w.heap.size + 1) wr ((wr.setCell ⟨w.heap.size + 1, 0, none⟩ y0).setCell ⟨w.heap.size + 1, 1, none⟩ y1)) := fun y0 y1 => ((Below.refl (w.heap.size + 1) wr).setCell (p := ⟨w.heap.size + 1, 0, none⟩) (Nat.le_refl _) y0).setCell (p := ⟨w.heap.size + 1, 1, none⟩) (Nat.le_refl _) y1
                clear hrd
                go_wp2
                exact bodyPost_ret (v := vlV (.mk (x + y) (l.map VlAt.V)) Q n q) (by simp [results, Tryz.results13, go_sem, r0, r1, Vl.i]) rfl ⟨.mk (x + y) (l.map VlAt.V), Q, n, q, rfl, HRD.out _ _, (by show -1002 ≤ (x + y) ∧ (x + y) ≤ 2001; omega), INV.out.src.belowB (HB5.out _ _) (by omega), ((But.of_below HWV.out).trans INV.out.but).onB (HB5.out _ _) (by omega)⟩
              · go_simp
                have hk : But g wr.drew (wr.alloc (.cells #[.int .i64 (-1), .int .i64 1, .int .i64 1000] 3)).drew := hk.alloc (.cells #[.int .i64 (-1), .int .i64 1, .int .i64 1000] 3)
                refine hK.out _ _ trivial (fun hHeld => ?_)
                clear hK K
                try simp only [Act.put, List.setIfInBounds_toArray, List.set_cons_zero, List.set_cons_succ]
                refine wpAnyH_ready (rs := [1, 4]) (by kernel_rfl) (by simp) ?_
                refine AllReadyH.cons (o := ⟨some 85, _, _, _, _, _⟩) rfl (fun K hK => ?_) (AllReadyH.cons (o := ⟨some 88, _, _, _, _, _⟩) rfl (fun K hK => ?_) AllReadyH.nil)
                · have q0 := (INV.out.boxAt _ hk).1
                  go_simp
                  refine hK.out _ _ trivial (fun hHeld => ?_)
                  clear hK K
                  try simp only [Act.put, List.setIfInBounds_toArray, List.set_cons_zero, List.set_cons_succ]
                  refine wpAnyH_ready (rs := [4]) (by kernel_rfl) (by simp) ?_
                  refine AllReadyH.cons (o := ⟨some 88, _, _, _, _, _⟩) rfl (fun K hK => ?_) AllReadyH.nil
                  go_simp
                  go_at_call 30
                  (with_reducible refine HPK.out.mono ?_)
                  rintro e1 w1 ⟨y, rfl, ⟨y1, y2⟩, hs1, hb1⟩
                  replace hk := hk.trans hb1
                  go_wp2_with fail
                  refine hK.out _ _ trivial (fun hHeld => ?_)
                  clear hK K
                  try simp only [Act.put, List.setIfInBounds_toArray, List.set_cons_zero, List.set_cons_succ]
                  have eadd : IntKind.i64.wrap (x + y) = x + y := by rw [IntKind.wrap_i64]; omega
                  refine tkH (i := 5) (oi := ⟨some 89, _, _, _, _, _⟩) (v := ?_) ?_ ?_
                  rotate_left
                  · intro w hSw; go_simp; try with_reducible rfl
                  try simp only [Act.put, List.setIfInBounds_toArray, List.set_cons_zero, List.set_cons_succ]
                  refine tkH (i := 6) (oi := ⟨some 90, _, _, _, _, _⟩) (v := ?_) ?_ ?_
                  rotate_left
                  · intro w hSw; go_simp; try with_reducible rfl
                  try simp only [Act.put, List.setIfInBounds_toArray, List.set_cons_zero, List.set_cons_succ]
                  clear eadd
                  refine wpAnyH_ready (rs := [7]) (by kernel_rfl) (by simp) ?_
                  refine AllReadyH.cons (o := ⟨none, _, _, _, _, _⟩) rfl (fun K hK => ?_) AllReadyH.nil
                  have INV2 := Lib.hid (INV.out.drew.butG hs1 hk)
                  have x0 := INV2.out.box.1
                  have f0 := INV2.out.box.2.2.1
                  go_simp
                  refine hK.out _ _ trivial (fun hHeld => ?_)
                  clear hK K hHeld x0 f0
                  try simp only [Act.put, List.setIfInBounds_toArray, List.set_cons_zero, List.set_cons_succ]
                  refine wpAnyH_done (by kernel_rfl) ?_ _
                  replace INV := Lib.hid (INV2.out.int (x + y))
                  clear INV2 hk hs1 hb1
                  generalize w1.setCell ⟨p, 0, none⟩ (.int .i64 (x + y)) = wr at *
                  have hrb := HRB.out _ INV.out.but
                  obtain ⟨r0, r1, f0, f1⟩ := hrb
                  obtain ⟨b0, b1, _, _⟩ := INV.out.box
                  have hrd := INV.out.own.rd (.mk (x + y) (l.map VlAt.V)) rfl
                  have HRD : Hid (∀ y0 y1, VlRd (fun b => w.heap.size ≤ b) ((wr.setCell ⟨w.heap.size + 1, 0, none⟩ y0).setCell ⟨w.heap.size + 1, 1, none⟩ y1) (d + 1 + 1) (.mk (x + y) (l.map VlAt.V)) Q n q) := fun y0 y1 => ((hrd.set (fun z hz => by have := HPV.out; omega)).set (fun z hz => by have := HPV.out; omega)).in fun b hb => by have := HPV.out; omega
                  have HB5 : Hid (∀ y0 y1, Below (w.heap.size + 1) wr ((wr.setCell ⟨w.heap.size + 1, 0, none⟩ y0).setCell ⟨w.heap.size + 1, 1, none⟩ y1)) := fun y0 y1 => ((Below.refl (w.heap.size + 1) wr).setCell (p := ⟨w.heap.size + 1, 0, none⟩) (Nat.le_refl _) y0).setCell (p := ⟨w.heap.size + 1, 1, none⟩) (Nat.le_refl _) y1
                  clear hrd
                  go_wp2
                  exact bodyPost_ret (v := vlV (.mk (x + y) (l.map VlAt.V)) Q n q) (by simp [results, Tryz.results13, go_sem, r0, r1, Vl.i]) rfl ⟨.mk (x + y) (l.map VlAt.V), Q, n, q, rfl, HRD.out _ _, (by show -1002 ≤ (x + y) ∧ (x + y) ≤ 2001; omega), INV.out.src.belowB (HB5.out _ _) (by omega), ((But.of_below HWV.out).trans INV.out.but).onB (HB5.out _ _) (by omega)⟩
                · go_simp
                  go_at_call 30
                  (with_reducible refine HPK.out.mono ?_)
                  rintro e1 w1 ⟨y, rfl, ⟨y1, y2⟩, hs1, hb1⟩
                  replace hk := hk.trans hb1
                  go_wp2_with fail
                  refine hK.out _ _ trivial (fun hHeld => ?_)
                  clear hK K
                  try simp only [Act.put, List.setIfInBounds_toArray, List.set_cons_zero, List.set_cons_succ]
                  refine wpAnyH_ready (rs := [1]) (by kernel_rfl) (by simp) ?_
                  refine AllReadyH.cons (o := ⟨some 85, _, _, _, _, _⟩) rfl (fun K hK => ?_) AllReadyH.nil
                  have q0 := (INV.out.boxAt _ hk).1
                  go_simp
                  refine hK.out _ _ trivial (fun hHeld => ?_)
                  clear hK K
                  try simp only [Act.put, List.setIfInBounds_toArray, List.set_cons_zero, List.set_cons_succ]
                  have eadd : IntKind.i64.wrap (x + y) = x + y := by rw [IntKind.wrap_i64]; omega
                  refine tkH (i := 5) (oi := ⟨some 89, _, _, _, _, _⟩) (v := ?_) ?_ ?_
                  rotate_left
                  · intro w hSw; go_simp; try with_reducible rfl
                  try simp only [Act.put, List.setIfInBounds_toArray, List.set_cons_zero, List.set_cons_succ]
                  refine tkH (i := 6) (oi := ⟨some 90, _, _, _, _, _⟩) (v := ?_) ?_ ?_
                  rotate_left
                  · intro w hSw; go_simp; try with_reducible rfl
                  try simp only [Act.put, List.setIfInBounds_toArray, List.set_cons_zero, List.set_cons_succ]
                  clear eadd
                  refine wpAnyH_ready (rs := [7]) (by kernel_rfl) (by simp) ?_
                  refine AllReadyH.cons (o := ⟨none, _, _, _, _, _⟩) rfl (fun K hK => ?_) AllReadyH.nil
                  have INV2 := Lib.hid (INV.out.drew.butG hs1 hk)
                  have x0 := INV2.out.box.1
                  have f0 := INV2.out.box.2.2.1
                  go_simp
                  refine hK.out _ _ trivial (fun hHeld => ?_)
                  clear hK K hHeld x0 f0
                  try simp only [Act.put, List.setIfInBounds_toArray, List.set_cons_zero, List.set_cons_succ]
                  refine wpAnyH_done (by kernel_rfl) ?_ _
                  replace INV := Lib.hid (INV2.out.int (x + y))
                  clear INV2 hk hs1 hb1
                  generalize w1.setCell ⟨p, 0, none⟩ (.int .i64 (x + y)) = wr at *
                  have hrb := HRB.out _ INV.out.but
                  obtain ⟨r0, r1, f0, f1⟩ := hrb
                  obtain ⟨b0, b1, _, _⟩ := INV.out.box
                  have hrd := INV.out.own.rd (.mk (x + y) (l.map VlAt.V)) rfl
                  have HRD : Hid (∀ y0 y1, VlRd (fun b => w.heap.size ≤ b) ((wr.setCell ⟨w.heap.size + 1, 0, none⟩ y0).setCell ⟨w.heap.size + 1, 1, none⟩ y1) (d + 1 + 1) (.mk (x + y) (l.map VlAt.V)) Q n q) := fun y0 y1 => ((hrd.set (fun z hz => by have := HPV.out; omega)).set (fun z hz => by have := HPV.out; omega)).in fun b hb => by have := HPV.out; omega
                  have HB5 : Hid (∀ y0 y1, Below (w.heap.size + 1) wr ((wr.setCell ⟨w.heap.size + 1, 0, none⟩ y0).setCell ⟨w.heap.size + 1, 1, none⟩ y1)) := fun y0 y1 => ((Below.refl (w.heap.size + 1) wr).setCell (p := ⟨w.heap.size + 1, 0, none⟩) (Nat.le_refl _) y0).setCell (p := ⟨w.heap.size + 1, 1, none⟩) (Nat.le_refl _) y1
                  clear hrd
                  go_wp2
                  exact bodyPost_ret (v := vlV (.mk (x + y) (l.map VlAt.V)) Q n q) (by simp [results, Tryz.results13, go_sem, r0, r1, Vl.i]) rfl ⟨.mk (x + y) (l.map VlAt.V), Q, n, q, rfl, HRD.out _ _, (by show -1002 ≤ (x + y) ∧ (x + y) ≤ 2001; omega), INV.out.src.belowB (HB5.out _ _) (by omega), ((But.of_below HWV.out).trans INV.out.but).onB (HB5.out _ _) (by omega)⟩
            · by_cases hz1 : z = 1
              · subst hz1
                obtain ⟨a0, a1, _, _⟩ := INV.out.box
                obtain ⟨gq, hQ, _, _⟩ := row_form INV.out.own.row hn0
                subst hQ
                have hln := INV.out.own.len
                go_wp2_with (at_builtin; refine wpList_append_lies _ rfl _ _ 25 rfl (p + 1) 27 i0 (.agg #[.int .i64 0, .slice none 0 0]) 2 32 Tryz.underlying25 hi hy0 hy1 hy2 rfl (by decide) (.slice none 0 0) 0 [] rfl (World.ownsRow_nil _ _ _ _) ⟨gq, 0, none⟩ n q (vlRow l) rfl (by rw [vlRow_length, hln]) (INV.out.own.row.cells (g := gq) rfl) (vl_oneCell l) hn0 (by unfold maxLen; omega) (by omega) INV.out.size _ rfl ?_)
                intro g1 c1 w1 hown hgrow hat hlt3
                have INV1 := Lib.hid (INV.out.copied (by simpa using hown) hgrow (by simpa [Value.ownBlock] using hat))
                clear hown hgrow hat
                obtain ⟨hOWx, hNW, _⟩ := INV1.out.tail (x := ⟨.mk 0 [], none, 0, 0⟩) (w1 := w1) (VlRd.nil _ _ rfl) (⟨rfl, rfl, rfl, Nat.le_refl _, fun _ _ _ => rfl⟩ : But g w1.drew w1)
                go_wp2_with (at_builtin; refine wpList_append_lies _ rfl _ _ 25 rfl (p + 1) 27 i0 (.agg #[.int .i64 0, .slice none 0 0]) 2 32 Tryz.underlying25 hi hy0 hy1 hy2 rfl (by decide) (.slice (some ⟨g1, 0, none⟩) n c1) n (vlRow l) rfl hOWx.row ⟨w1.heap.size, 0, none⟩ 1 1 (VlAt.mk (.mk 0 []) none 0 0).cells rfl rfl hNW (VlAt.oneCell _) (by decide) (by unfold maxLen; omega) (by omega) (by rw [World.size_alloc]; have := INV1.out.size; omega) _ rfl ?_)
                intro g3 c3 w3 hown hgrow hat hlt3
                have hKE := Lib.hid (INV1.out.added (x := ⟨.mk 0 [], none, 0, 0⟩) (w1 := w1) (VlRd.nil _ _ rfl) trivial INV1.out.src (⟨rfl, rfl, rfl, Nat.le_refl _, fun _ _ _ => rfl⟩ : But g w1.drew w1) hown hgrow (by first | exact hat | (rw [World.size_alloc] at hat; exact hat)))
                have u1 := hKE.out.box.2.1
                have u2 := hKE.out.box.2.2.2
                have INV := Lib.hid (hKE.out.stored (.slice (some ⟨g3, 0, none⟩) (n + 1) c3))
                clear hown hgrow hat hOWx hNW INV1 hKE
                have hrb := HRB.out _ INV.out.but
                obtain ⟨r0, r1, f0, f1⟩ := hrb
                obtain ⟨b0, b1, _, _⟩ := INV.out.box
                have hrd := INV.out.own.rd (.mk x ((l ++ [(⟨.mk 0 [], none, 0, 0⟩ : VlAt)]).map VlAt.V)) rfl
                have HRD : Hid (∀ y0 y1, VlRd (fun b => w.heap.size ≤ b) (((w3.setCell ⟨p, 1, none⟩ (.slice (some ⟨g3, 0, none⟩) (n + 1) c3)).setCell ⟨w.heap.size + 1, 0, none⟩ y0).setCell ⟨w.heap.size + 1, 1, none⟩ y1) (d + 1 + 1) (.mk x ((l ++ [(⟨.mk 0 [], none, 0, 0⟩ : VlAt)]).map VlAt.V)) (some ⟨g3, 0, none⟩) (n + 1) c3) := fun y0 y1 => ((hrd.set (fun z hz => by have := HPV.out; omega)).set (fun z hz => by have := HPV.out; omega)).in fun b hb => by have := HPV.out; omega
                have HB5 : Hid (∀ y0 y1, Below (w.heap.size + 1) (w3.setCell ⟨p, 1, none⟩ (.slice (some ⟨g3, 0, none⟩) (n + 1) c3)) (((w3.setCell ⟨p, 1, none⟩ (.slice (some ⟨g3, 0, none⟩) (n + 1) c3)).setCell ⟨w.heap.size + 1, 0, none⟩ y0).setCell ⟨w.heap.size + 1, 1, none⟩ y1)) := fun y0 y1 => ((Below.refl (w.heap.size + 1) (w3.setCell ⟨p, 1, none⟩ (.slice (some ⟨g3, 0, none⟩) (n + 1) c3))).setCell (p := ⟨w.heap.size + 1, 0, none⟩) (Nat.le_refl _) y0).setCell (p := ⟨w.heap.size + 1, 1, none⟩) (Nat.le_refl _) y1
                clear hrd
                go_wp2
                exact bodyPost_ret (v := vlV (.mk x ((l ++ [(⟨.mk 0 [], none, 0, 0⟩ : VlAt)]).map VlAt.V)) (some ⟨g3, 0, none⟩) (n + 1) c3) (by simp [results, Tryz.results13, go_sem, r0, r1, Vl.i]) rfl ⟨.mk x ((l ++ [(⟨.mk 0 [], none, 0, 0⟩ : VlAt)]).map VlAt.V), some ⟨g3, 0, none⟩, n + 1, c3, rfl, HRD.out _ _, (by show -1002 ≤ x ∧ x ≤ 2001; omega), INV.out.src.belowB (HB5.out _ _) (by omega), ((But.of_below HWV.out).trans INV.out.but).onB (HB5.out _ _) (by omega)⟩
              · have zb0 : (z == 0) = false := by simpa using hz0
                have zb1 : (z == 1) = false := by simpa using hz1
                clear hz0 hz1
                have hrb := HRB.out _ INV.out.but
                obtain ⟨r0, r1, f0, f1⟩ := hrb
                obtain ⟨b0, b1, _, _⟩ := INV.out.box
                have hrd := INV.out.own.rd (.mk x (l.map VlAt.V)) rfl
                have HRD : Hid (∀ y0 y1, VlRd (fun b => w.heap.size ≤ b) ((wr.setCell ⟨w.heap.size + 1, 0, none⟩ y0).setCell ⟨w.heap.size + 1, 1, none⟩ y1) (d + 1 + 1) (.mk x (l.map VlAt.V)) Q n q) := fun y0 y1 => ((hrd.set (fun z hz => by have := HPV.out; omega)).set (fun z hz => by have := HPV.out; omega)).in fun b hb => by have := HPV.out; omega
                have HB5 : Hid (∀ y0 y1, Below (w.heap.size + 1) wr ((wr.setCell ⟨w.heap.size + 1, 0, none⟩ y0).setCell ⟨w.heap.size + 1, 1, none⟩ y1)) := fun y0 y1 => ((Below.refl (w.heap.size + 1) wr).setCell (p := ⟨w.heap.size + 1, 0, none⟩) (Nat.le_refl _) y0).setCell (p := ⟨w.heap.size + 1, 1, none⟩) (Nat.le_refl _) y1
                clear hrd
                go_wp2
                exact bodyPost_ret (v := vlV (.mk x (l.map VlAt.V)) Q n q) (by simp [results, Tryz.results13, go_sem, r0, r1, Vl.i]) rfl ⟨.mk x (l.map VlAt.V), Q, n, q, rfl, HRD.out _ _, (by show -1002 ≤ x ∧ x ≤ 2001; omega), INV.out.src.belowB (HB5.out _ _) (by omega), ((But.of_below HWV.out).trans INV.out.but).onB (HB5.out _ _) (by omega)⟩
          · obtain rfl : n = 0 := by omega
            obtain ⟨rfl, rfl⟩ := hq rfl
            obtain rfl : l = [] := List.eq_nil_of_length_eq_zero hlen
            clear hq hlen hn0
            have HN := Lib.hid (N_any g wr 24 INV.out.src (by omega) (by omega))
            go_wp2_with fail
            refine HN.out.mono ?_
            rintro e2 wr ⟨z, rfl, ⟨z0, z1⟩, hsz, hbz⟩
            replace INV := Lib.hid (INV.out.butG hsz hbz)
            clear HN hsz hbz
            by_cases hz0 : z = 0
            · subst hz0
              have HPK : Hid (Calls Tryz.prog 30 #[.pointer (some ⟨g, 0, none⟩), .slice (some ⟨wr.heap.size, 0, none⟩) 3 3] (wr.alloc (.cells #[.int .i64 (-1), .int .i64 1, .int .i64 1000] 3)).drew (Drawn g (-1) 1000 (wr.alloc (.cells #[.int .i64 (-1), .int .i64 1, .int .i64 1000] 3)).drew)) :=
                pick_any g _ _ 3 3 (-1) 1000 ((INV.out.src.below (allocB _ _)).drew) (by omega) (by omega) (lits_at wr.drew #[.int .i64 (-1), .int .i64 1, .int .i64 1000] 3 3 (-1) 1000 rfl three) (by have h1 := INV.out.src.size; show wr.heap.size ≠ g; omega)
              have hk := But.refl g wr.drew
              go_wp2_with fail
              refine wp_region_held_drew (S := fun _ => True) (by kernel_rfl) trivial (fun hHeld => ?_)
              refine tkH (i := 0) (oi := ⟨some 84, _, _, _, _, _⟩) (v := ?_) ?_ ?_
              rotate_left
              · intro w hSw; go_simp; try with_reducible rfl
              try simp only [Act.put, List.setIfInBounds_toArray, List.set_cons_zero, List.set_cons_succ]
              refine tkH (i := 2) (oi := ⟨some 86, _, _, _, _, _⟩) (v := ?_) ?_ ?_
              rotate_left
              · intro w hSw; go_simp; try with_reducible rfl
              try simp only [Act.put, List.setIfInBounds_toArray, List.set_cons_zero, List.set_cons_succ]
              refine wpAnyH_ready (rs := [1, 3]) (by kernel_rfl) (by simp) ?_
              refine AllReadyH.cons (o := ⟨some 85, _, _, _, _, _⟩) rfl (fun K hK => ?_) (AllReadyH.cons (o := ⟨some 87, _, _, _, _, _⟩) rfl (fun K hK => ?_) AllReadyH.nil)
              · have q0 := (INV.out.boxAt _ hk).1
                go_simp
                refine hK.out _ _ trivial (fun hHeld => ?_)
                clear hK K
                try simp only [Act.put, List.setIfInBounds_toArray, List.set_cons_zero, List.set_cons_succ]
                refine wpAnyH_ready (rs := [3]) (by kernel_rfl) (by simp) ?_
                refine AllReadyH.cons (o := ⟨some 87, _, _, _, _, _⟩) rfl (fun K hK => ?_) AllReadyH.nil
                go_simp
                have hk : But g wr.drew (wr.alloc (.cells #[.int .i64 (-1), .int .i64 1, .int .i64 1000] 3)).drew := hk.alloc (.cells #[.int .i64 (-1), .int .i64 1, .int .i64 1000] 3)
                refine hK.out _ _ trivial (fun hHeld => ?_)
                clear hK K
                try simp only [Act.put, List.setIfInBounds_toArray, List.set_cons_zero, List.set_cons_succ]
                refine wpAnyH_ready (rs := [4]) (by kernel_rfl) (by simp) ?_
                refine AllReadyH.cons (o := ⟨some 88, _, _, _, _, _⟩) rfl (fun K hK => ?_) AllReadyH.nil
                go_simp
                go_at_call 30
                (with_reducible refine HPK.out.mono ?_)
                rintro e1 w1 ⟨y, rfl, ⟨y1, y2⟩, hs1, hb1⟩
                replace hk := hk.trans hb1
                go_wp2_with fail
                refine hK.out _ _ trivial (fun hHeld => ?_)
                clear hK K
                try simp only [Act.put, List.setIfInBounds_toArray, List.set_cons_zero, List.set_cons_succ]
                have eadd : IntKind.i64.wrap (x + y) = x + y := by rw [IntKind.wrap_i64]; omega
                refine tkH (i := 5) (oi := ⟨some 89, _, _, _, _, _⟩) (v := ?_) ?_ ?_
                rotate_left
                · intro w hSw; go_simp; try with_reducible rfl
                try simp only [Act.put, List.setIfInBounds_toArray, List.set_cons_zero, List.set_cons_succ]
                refine tkH (i := 6) (oi := ⟨some 90, _, _, _, _, _⟩) (v := ?_) ?_ ?_
                rotate_left
                · intro w hSw; go_simp; try with_reducible rfl
                try simp only [Act.put, List.setIfInBounds_toArray, List.set_cons_zero, List.set_cons_succ]
                clear eadd
                refine wpAnyH_ready (rs := [7]) (by kernel_rfl) (by simp) ?_
                refine AllReadyH.cons (o := ⟨none, _, _, _, _, _⟩) rfl (fun K hK => ?_) AllReadyH.nil
                have INV2 := Lib.hid (INV.out.drew.butG hs1 hk)
                have x0 := INV2.out.box.1
                have f0 := INV2.out.box.2.2.1
                go_simp
                refine hK.out _ _ trivial (fun hHeld => ?_)
                clear hK K hHeld x0 f0
                try simp only [Act.put, List.setIfInBounds_toArray, List.set_cons_zero, List.set_cons_succ]
                refine wpAnyH_done (by kernel_rfl) ?_ _
                replace INV := Lib.hid (INV2.out.int (x + y))
                clear INV2 hk hs1 hb1
                generalize w1.setCell ⟨p, 0, none⟩ (.int .i64 (x + y)) = wr at *
                have hrb := HRB.out _ INV.out.but
                obtain ⟨r0, r1, f0, f1⟩ := hrb
                obtain ⟨b0, b1, _, _⟩ := INV.out.box
                have hrd := INV.out.own.rd (.mk (x + y) ([])) rfl
                have HRD : Hid (∀ y0 y1, VlRd (fun b => w.heap.size ≤ b) ((wr.setCell ⟨w.heap.size + 1, 0, none⟩ y0).setCell ⟨w.heap.size + 1, 1, none⟩ y1) (d + 1 + 1) (.mk (x + y) ([])) none 0 0) := fun y0 y1 => ((hrd.set (fun z hz => by have := HPV.out; omega)).set (fun z hz => by have := HPV.out; omega)).in fun b hb => by have := HPV.out; omega
                have HB5 : Hid (∀ y0 y1, Below (w.heap.size + 1) wr ((wr.setCell ⟨w.heap.size + 1, 0, none⟩ y0).setCell ⟨w.heap.size + 1, 1, none⟩ y1)) := fun y0 y1 => ((Below.refl (w.heap.size + 1) wr).setCell (p := ⟨w.heap.size + 1, 0, none⟩) (Nat.le_refl _) y0).setCell (p := ⟨w.heap.size + 1, 1, none⟩) (Nat.le_refl _) y1
                clear hrd
                go_wp2
                exact bodyPost_ret (v := vlV (.mk (x + y) ([])) none 0 0) (by simp [results, Tryz.results13, go_sem, r0, r1, Vl.i]) rfl ⟨.mk (x + y) ([]), none, 0, 0, rfl, HRD.out _ _, (by show -1002 ≤ (x + y) ∧ (x + y) ≤ 2001; omega), INV.out.src.belowB (HB5.out _ _) (by omega), ((But.of_below HWV.out).trans INV.out.but).onB (HB5.out _ _) (by omega)⟩
              · go_simp
                have hk : But g wr.drew (wr.alloc (.cells #[.int .i64 (-1), .int .i64 1, .int .i64 1000] 3)).drew := hk.alloc (.cells #[.int .i64 (-1), .int .i64 1, .int .i64 1000] 3)
                refine hK.out _ _ trivial (fun hHeld => ?_)
                clear hK K
                try simp only [Act.put, List.setIfInBounds_toArray, List.set_cons_zero, List.set_cons_succ]
                refine wpAnyH_ready (rs := [1, 4]) (by kernel_rfl) (by simp) ?_
                refine AllReadyH.cons (o := ⟨some 85, _, _, _, _, _⟩) rfl (fun K hK => ?_) (AllReadyH.cons (o := ⟨some 88, _, _, _, _, _⟩) rfl (fun K hK => ?_) AllReadyH.nil)
                · have q0 := (INV.out.boxAt _ hk).1
                  go_simp
                  refine hK.out _ _ trivial (fun hHeld => ?_)
                  clear hK K
                  try simp only [Act.put, List.setIfInBounds_toArray, List.set_cons_zero, List.set_cons_succ]
                  refine wpAnyH_ready (rs := [4]) (by kernel_rfl) (by simp) ?_
                  refine AllReadyH.cons (o := ⟨some 88, _, _, _, _, _⟩) rfl (fun K hK => ?_) AllReadyH.nil
                  go_simp
                  go_at_call 30
                  (with_reducible refine HPK.out.mono ?_)
                  rintro e1 w1 ⟨y, rfl, ⟨y1, y2⟩, hs1, hb1⟩
                  replace hk := hk.trans hb1
                  go_wp2_with fail
                  refine hK.out _ _ trivial (fun hHeld => ?_)
                  clear hK K
                  try simp only [Act.put, List.setIfInBounds_toArray, List.set_cons_zero, List.set_cons_succ]
                  have eadd : IntKind.i64.wrap (x + y) = x + y := by rw [IntKind.wrap_i64]; omega
                  refine tkH (i := 5) (oi := ⟨some 89, _, _, _, _, _⟩) (v := ?_) ?_ ?_
                  rotate_left
                  · intro w hSw; go_simp; try with_reducible rfl
                  try simp only [Act.put, List.setIfInBounds_toArray, List.set_cons_zero, List.set_cons_succ]
                  refine tkH (i := 6) (oi := ⟨some 90, _, _, _, _, _⟩) (v := ?_) ?_ ?_
                  rotate_left
                  · intro w hSw; go_simp; try with_reducible rfl
                  try simp only [Act.put, List.setIfInBounds_toArray, List.set_cons_zero, List.set_cons_succ]
                  clear eadd
                  refine wpAnyH_ready (rs := [7]) (by kernel_rfl) (by simp) ?_
                  refine AllReadyH.cons (o := ⟨none, _, _, _, _, _⟩) rfl (fun K hK => ?_) AllReadyH.nil
                  have INV2 := Lib.hid (INV.out.drew.butG hs1 hk)
                  have x0 := INV2.out.box.1
                  have f0 := INV2.out.box.2.2.1
                  go_simp
                  refine hK.out _ _ trivial (fun hHeld => ?_)
                  clear hK K hHeld x0 f0
                  try simp only [Act.put, List.setIfInBounds_toArray, List.set_cons_zero, List.set_cons_succ]
                  refine wpAnyH_done (by kernel_rfl) ?_ _
                  replace INV := Lib.hid (INV2.out.int (x + y))
                  clear INV2 hk hs1 hb1
                  generalize w1.setCell ⟨p, 0, none⟩ (.int .i64 (x + y)) = wr at *
                  have hrb := HRB.out _ INV.out.but
                  obtain ⟨r0, r1, f0, f1⟩ := hrb
                  obtain ⟨b0, b1, _, _⟩ := INV.out.box
                  have hrd := INV.out.own.rd (.mk (x + y) ([])) rfl
                  have HRD : Hid (∀ y0 y1, VlRd (fun b => w.heap.size ≤ b) ((wr.setCell ⟨w.heap.size + 1, 0, none⟩ y0).setCell ⟨w.heap.size + 1, 1, none⟩ y1) (d + 1 + 1) (.mk (x + y) ([])) none 0 0) := fun y0 y1 => ((hrd.set (fun z hz => by have := HPV.out; omega)).set (fun z hz => by have := HPV.out; omega)).in fun b hb => by have := HPV.out; omega
                  have HB5 : Hid (∀ y0 y1, Below (w.heap.size + 1) wr ((wr.setCell ⟨w.heap.size + 1, 0, none⟩ y0).setCell ⟨w.heap.size + 1, 1, none⟩ y1)) := fun y0 y1 => ((Below.refl (w.heap.size + 1) wr).setCell (p := ⟨w.heap.size + 1, 0, none⟩) (Nat.le_refl _) y0).setCell (p := ⟨w.heap.size + 1, 1, none⟩) (Nat.le_refl _) y1
                  clear hrd
                  go_wp2
                  exact bodyPost_ret (v := vlV (.mk (x + y) ([])) none 0 0) (by simp [results, Tryz.results13, go_sem, r0, r1, Vl.i]) rfl ⟨.mk (x + y) ([]), none, 0, 0, rfl, HRD.out _ _, (by show -1002 ≤ (x + y) ∧ (x + y) ≤ 2001; omega), INV.out.src.belowB (HB5.out _ _) (by omega), ((But.of_below HWV.out).trans INV.out.but).onB (HB5.out _ _) (by omega)⟩
                · go_simp
                  go_at_call 30
                  (with_reducible refine HPK.out.mono ?_)
                  rintro e1 w1 ⟨y, rfl, ⟨y1, y2⟩, hs1, hb1⟩
                  replace hk := hk.trans hb1
                  go_wp2_with fail
                  refine hK.out _ _ trivial (fun hHeld => ?_)
                  clear hK K
                  try simp only [Act.put, List.setIfInBounds_toArray, List.set_cons_zero, List.set_cons_succ]
                  refine wpAnyH_ready (rs := [1]) (by kernel_rfl) (by simp) ?_
                  refine AllReadyH.cons (o := ⟨some 85, _, _, _, _, _⟩) rfl (fun K hK => ?_) AllReadyH.nil
                  have q0 := (INV.out.boxAt _ hk).1
                  go_simp
                  refine hK.out _ _ trivial (fun hHeld => ?_)
                  clear hK K
                  try simp only [Act.put, List.setIfInBounds_toArray, List.set_cons_zero, List.set_cons_succ]
                  have eadd : IntKind.i64.wrap (x + y) = x + y := by rw [IntKind.wrap_i64]; omega
                  refine tkH (i := 5) (oi := ⟨some 89, _, _, _, _, _⟩) (v := ?_) ?_ ?_
                  rotate_left
                  · intro w hSw; go_simp; try with_reducible rfl
                  try simp only [Act.put, List.setIfInBounds_toArray, List.set_cons_zero, List.set_cons_succ]
                  refine tkH (i := 6) (oi := ⟨some 90, _, _, _, _, _⟩) (v := ?_) ?_ ?_
                  rotate_left
                  · intro w hSw; go_simp; try with_reducible rfl
                  try simp only [Act.put, List.setIfInBounds_toArray, List.set_cons_zero, List.set_cons_succ]
                  clear eadd
                  refine wpAnyH_ready (rs := [7]) (by kernel_rfl) (by simp) ?_
                  refine AllReadyH.cons (o := ⟨none, _, _, _, _, _⟩) rfl (fun K hK => ?_) AllReadyH.nil
                  have INV2 := Lib.hid (INV.out.drew.butG hs1 hk)
                  have x0 := INV2.out.box.1
                  have f0 := INV2.out.box.2.2.1
                  go_simp
                  refine hK.out _ _ trivial (fun hHeld => ?_)
                  clear hK K hHeld x0 f0
                  try simp only [Act.put, List.setIfInBounds_toArray, List.set_cons_zero, List.set_cons_succ]
                  refine wpAnyH_done (by kernel_rfl) ?_ _
                  replace INV := Lib.hid (INV2.out.int (x + y))
                  clear INV2 hk hs1 hb1
                  generalize w1.setCell ⟨p, 0, none⟩ (.int .i64 (x + y)) = wr at *
                  have hrb := HRB.out _ INV.out.but
                  obtain ⟨r0, r1, f0, f1⟩ := hrb
                  obtain ⟨b0, b1, _, _⟩ := INV.out.box
                  have hrd := INV.out.own.rd (.mk (x + y) ([])) rfl
                  have HRD : Hid (∀ y0 y1, VlRd (fun b => w.heap.size ≤ b) ((wr.setCell ⟨w.heap.size + 1, 0, none⟩ y0).setCell ⟨w.heap.size + 1, 1, none⟩ y1) (d + 1 + 1) (.mk (x + y) ([])) none 0 0) := fun y0 y1 => ((hrd.set (fun z hz => by have := HPV.out; omega)).set (fun z hz => by have := HPV.out; omega)).in fun b hb => by have := HPV.out; omega
                  have HB5 : Hid (∀ y0 y1, Below (w.heap.size + 1) wr ((wr.setCell ⟨w.heap.size + 1, 0, none⟩ y0).setCell ⟨w.heap.size + 1, 1, none⟩ y1)) := fun y0 y1 => ((Below.refl (w.heap.size + 1) wr).setCell (p := ⟨w.heap.size + 1, 0, none⟩) (Nat.le_refl _) y0).setCell (p := ⟨w.heap.size + 1, 1, none⟩) (Nat.le_refl _) y1
                  clear hrd
                  go_wp2
                  exact bodyPost_ret (v := vlV (.mk (x + y) ([])) none 0 0) (by simp [results, Tryz.results13, go_sem, r0, r1, Vl.i]) rfl ⟨.mk (x + y) ([]), none, 0, 0, rfl, HRD.out _ _, (by show -1002 ≤ (x + y) ∧ (x + y) ≤ 2001; omega), INV.out.src.belowB (HB5.out _ _) (by omega), ((But.of_below HWV.out).trans INV.out.but).onB (HB5.out _ _) (by omega)⟩
            · by_cases hz1 : z = 1
              · subst hz1
                obtain ⟨a0, a1, _, _⟩ := INV.out.box
                have INV1 := INV
                obtain ⟨hOWx, hNW, _⟩ := INV1.out.tail (x := ⟨.mk 0 [], none, 0, 0⟩) (w1 := wr) (VlRd.nil _ _ rfl) (⟨rfl, rfl, rfl, Nat.le_refl _, fun _ _ _ => rfl⟩ : But g wr.drew wr)
                go_wp2_with (at_builtin; refine wpList_append_lies _ rfl _ _ 25 rfl (p + 1) 27 i0 (.agg #[.int .i64 0, .slice none 0 0]) 2 32 Tryz.underlying25 hi hy0 hy1 hy2 rfl (by decide) (.slice none 0 0) 0 (vlRow []) rfl hOWx.row ⟨wr.heap.size, 0, none⟩ 1 1 (VlAt.mk (.mk 0 []) none 0 0).cells rfl rfl hNW (VlAt.oneCell _) (by decide) (by unfold maxLen; omega) (by omega) (by rw [World.size_alloc]; have := INV1.out.size; omega) _ rfl ?_)
                intro g3 c3 w3 hown hgrow hat hlt3
                have hKE := Lib.hid (INV1.out.added (x := ⟨.mk 0 [], none, 0, 0⟩) (w1 := wr) (VlRd.nil _ _ rfl) trivial INV1.out.src (⟨rfl, rfl, rfl, Nat.le_refl _, fun _ _ _ => rfl⟩ : But g wr.drew wr) hown hgrow (by first | exact hat | (rw [World.size_alloc] at hat; exact hat)))
                have u1 := hKE.out.box.2.1
                have u2 := hKE.out.box.2.2.2
                have INV := Lib.hid (hKE.out.stored (.slice (some ⟨g3, 0, none⟩) (0 + 1) c3))
                clear hown hgrow hat hOWx hNW INV1 hKE
                have hrb := HRB.out _ INV.out.but
                obtain ⟨r0, r1, f0, f1⟩ := hrb
                obtain ⟨b0, b1, _, _⟩ := INV.out.box
                have hrd := INV.out.own.rd (.mk x (([] ++ [(⟨.mk 0 [], none, 0, 0⟩ : VlAt)]).map VlAt.V)) rfl
                have HRD : Hid (∀ y0 y1, VlRd (fun b => w.heap.size ≤ b) (((w3.setCell ⟨p, 1, none⟩ (.slice (some ⟨g3, 0, none⟩) (0 + 1) c3)).setCell ⟨w.heap.size + 1, 0, none⟩ y0).setCell ⟨w.heap.size + 1, 1, none⟩ y1) (d + 1 + 1) (.mk x (([] ++ [(⟨.mk 0 [], none, 0, 0⟩ : VlAt)]).map VlAt.V)) (some ⟨g3, 0, none⟩) (0 + 1) c3) := fun y0 y1 => ((hrd.set (fun z hz => by have := HPV.out; omega)).set (fun z hz => by have := HPV.out; omega)).in fun b hb => by have := HPV.out; omega
                have HB5 : Hid (∀ y0 y1, Below (w.heap.size + 1) (w3.setCell ⟨p, 1, none⟩ (.slice (some ⟨g3, 0, none⟩) (0 + 1) c3)) (((w3.setCell ⟨p, 1, none⟩ (.slice (some ⟨g3, 0, none⟩) (0 + 1) c3)).setCell ⟨w.heap.size + 1, 0, none⟩ y0).setCell ⟨w.heap.size + 1, 1, none⟩ y1)) := fun y0 y1 => ((Below.refl (w.heap.size + 1) (w3.setCell ⟨p, 1, none⟩ (.slice (some ⟨g3, 0, none⟩) (0 + 1) c3))).setCell (p := ⟨w.heap.size + 1, 0, none⟩) (Nat.le_refl _) y0).setCell (p := ⟨w.heap.size + 1, 1, none⟩) (Nat.le_refl _) y1
                clear hrd
                go_wp2
                exact bodyPost_ret (v := vlV (.mk x (([] ++ [(⟨.mk 0 [], none, 0, 0⟩ : VlAt)]).map VlAt.V)) (some ⟨g3, 0, none⟩) (0 + 1) c3) (by simp [results, Tryz.results13, go_sem, r0, r1, Vl.i]) rfl ⟨.mk x (([] ++ [(⟨.mk 0 [], none, 0, 0⟩ : VlAt)]).map VlAt.V), some ⟨g3, 0, none⟩, 0 + 1, c3, rfl, HRD.out _ _, (by show -1002 ≤ x ∧ x ≤ 2001; omega), INV.out.src.belowB (HB5.out _ _) (by omega), ((But.of_below HWV.out).trans INV.out.but).onB (HB5.out _ _) (by omega)⟩
              · have zb0 : (z == 0) = false := by simpa using hz0
                have zb1 : (z == 1) = false := by simpa using hz1
                clear hz0 hz1
                have hrb := HRB.out _ INV.out.but
                obtain ⟨r0, r1, f0, f1⟩ := hrb
                obtain ⟨b0, b1, _, _⟩ := INV.out.box
                have hrd := INV.out.own.rd (.mk x ([])) rfl
                have HRD : Hid (∀ y0 y1, VlRd (fun b => w.heap.size ≤ b) ((wr.setCell ⟨w.heap.size + 1, 0, none⟩ y0).setCell ⟨w.heap.size + 1, 1, none⟩ y1) (d + 1 + 1) (.mk x ([])) none 0 0) := fun y0 y1 => ((hrd.set (fun z hz => by have := HPV.out; omega)).set (fun z hz => by have := HPV.out; omega)).in fun b hb => by have := HPV.out; omega
                have HB5 : Hid (∀ y0 y1, Below (w.heap.size + 1) wr ((wr.setCell ⟨w.heap.size + 1, 0, none⟩ y0).setCell ⟨w.heap.size + 1, 1, none⟩ y1)) := fun y0 y1 => ((Below.refl (w.heap.size + 1) wr).setCell (p := ⟨w.heap.size + 1, 0, none⟩) (Nat.le_refl _) y0).setCell (p := ⟨w.heap.size + 1, 1, none⟩) (Nat.le_refl _) y1
                clear hrd
                go_wp2
                exact bodyPost_ret (v := vlV (.mk x ([])) none 0 0) (by simp [results, Tryz.results13, go_sem, r0, r1, Vl.i]) rfl ⟨.mk x ([]), none, 0, 0, rfl, HRD.out _ _, (by show -1002 ≤ x ∧ x ≤ 2001; omega), INV.out.src.belowB (HB5.out _ _) (by omega), ((But.of_below HWV.out).trans INV.out.but).onB (HB5.out _ _) (by omega)⟩
        · have hrp : 0 < r := by omega
          obtain rfl : n0 = 0 := by omega
          obtain rfl : n = 0 := hr.2.2 rfl
          obtain ⟨rfl, rfl⟩ := hq rfl
          obtain rfl : l = [] := List.eq_nil_of_length_eq_zero hlen
          clear hq hlen hr0 hlt
          have HN := Lib.hid (N_any g wr 24 INV.out.src (by omega) (by omega))
          go_wp2_with fail
          refine HN.out.mono ?_
          rintro e2 wr ⟨z, rfl, ⟨z0, z1⟩, hsz, hbz⟩
          replace INV := Lib.hid (INV.out.butG hsz hbz)
          clear HN hsz hbz
          by_cases hz0 : z = 0
          · subst hz0
            have HPK : Hid (Calls Tryz.prog 30 #[.pointer (some ⟨g, 0, none⟩), .slice (some ⟨wr.heap.size, 0, none⟩) 3 3] (wr.alloc (.cells #[.int .i64 (-1), .int .i64 1, .int .i64 1000] 3)).drew (Drawn g (-1) 1000 (wr.alloc (.cells #[.int .i64 (-1), .int .i64 1, .int .i64 1000] 3)).drew)) :=
              pick_any g _ _ 3 3 (-1) 1000 ((INV.out.src.below (allocB _ _)).drew) (by omega) (by omega) (lits_at wr.drew #[.int .i64 (-1), .int .i64 1, .int .i64 1000] 3 3 (-1) 1000 rfl three) (by have h1 := INV.out.src.size; show wr.heap.size ≠ g; omega)
            have hk := But.refl g wr.drew
            go_wp2_with fail
            refine wp_region_held_drew (S := fun _ => True) (by kernel_rfl) trivial (fun hHeld => ?_)
            refine tkH (i := 0) (oi := ⟨some 84, _, _, _, _, _⟩) (v := ?_) ?_ ?_
            rotate_left
            · intro w hSw; go_simp; try with_reducible rfl
            try simp only [Act.put, List.setIfInBounds_toArray, List.set_cons_zero, List.set_cons_succ]
            refine tkH (i := 2) (oi := ⟨some 86, _, _, _, _, _⟩) (v := ?_) ?_ ?_
            rotate_left
            · intro w hSw; go_simp; try with_reducible rfl
            try simp only [Act.put, List.setIfInBounds_toArray, List.set_cons_zero, List.set_cons_succ]
            refine wpAnyH_ready (rs := [1, 3]) (by kernel_rfl) (by simp) ?_
            refine AllReadyH.cons (o := ⟨some 85, _, _, _, _, _⟩) rfl (fun K hK => ?_) (AllReadyH.cons (o := ⟨some 87, _, _, _, _, _⟩) rfl (fun K hK => ?_) AllReadyH.nil)
            · have q0 := (INV.out.boxAt _ hk).1
              go_simp
              refine hK.out _ _ trivial (fun hHeld => ?_)
              clear hK K
              try simp only [Act.put, List.setIfInBounds_toArray, List.set_cons_zero, List.set_cons_succ]
              refine wpAnyH_ready (rs := [3]) (by kernel_rfl) (by simp) ?_
              refine AllReadyH.cons (o := ⟨some 87, _, _, _, _, _⟩) rfl (fun K hK => ?_) AllReadyH.nil
              go_simp
              have hk : But g wr.drew (wr.alloc (.cells #[.int .i64 (-1), .int .i64 1, .int .i64 1000] 3)).drew := hk.alloc (.cells #[.int .i64 (-1), .int .i64 1, .int .i64 1000] 3)
              refine hK.out _ _ trivial (fun hHeld => ?_)
              clear hK K
              try simp only [Act.put, List.setIfInBounds_toArray, List.set_cons_zero, List.set_cons_succ]
              refine wpAnyH_ready (rs := [4]) (by kernel_rfl) (by simp) ?_
              refine AllReadyH.cons (o := ⟨some 88, _, _, _, _, _⟩) rfl (fun K hK => ?_) AllReadyH.nil
              go_simp
              go_at_call 30
              (with_reducible refine HPK.out.mono ?_)
              rintro e1 w1 ⟨y, rfl, ⟨y1, y2⟩, hs1, hb1⟩
              replace hk := hk.trans hb1
              go_wp2_with fail
              refine hK.out _ _ trivial (fun hHeld => ?_)
              clear hK K
              try simp only [Act.put, List.setIfInBounds_toArray, List.set_cons_zero, List.set_cons_succ]
              have eadd : IntKind.i64.wrap (x + y) = x + y := by rw [IntKind.wrap_i64]; omega
              refine tkH (i := 5) (oi := ⟨some 89, _, _, _, _, _⟩) (v := ?_) ?_ ?_
              rotate_left
              · intro w hSw; go_simp; try with_reducible rfl
              try simp only [Act.put, List.setIfInBounds_toArray, List.set_cons_zero, List.set_cons_succ]
              refine tkH (i := 6) (oi := ⟨some 90, _, _, _, _, _⟩) (v := ?_) ?_ ?_
              rotate_left
              · intro w hSw; go_simp; try with_reducible rfl
              try simp only [Act.put, List.setIfInBounds_toArray, List.set_cons_zero, List.set_cons_succ]
              clear eadd
              refine wpAnyH_ready (rs := [7]) (by kernel_rfl) (by simp) ?_
              refine AllReadyH.cons (o := ⟨none, _, _, _, _, _⟩) rfl (fun K hK => ?_) AllReadyH.nil
              have INV2 := Lib.hid (INV.out.drew.butG hs1 hk)
              have x0 := INV2.out.box.1
              have f0 := INV2.out.box.2.2.1
              go_simp
              refine hK.out _ _ trivial (fun hHeld => ?_)
              clear hK K hHeld x0 f0
              try simp only [Act.put, List.setIfInBounds_toArray, List.set_cons_zero, List.set_cons_succ]
              refine wpAnyH_done (by kernel_rfl) ?_ _
              replace INV := Lib.hid (INV2.out.int (x + y))
              clear INV2 hk hs1 hb1
              generalize w1.setCell ⟨p, 0, none⟩ (.int .i64 (x + y)) = wr at *
              have hrb := HRB.out _ INV.out.but
              obtain ⟨r0, r1, f0, f1⟩ := hrb
              obtain ⟨b0, b1, _, _⟩ := INV.out.box
              have hrd := INV.out.own.rd (.mk (x + y) ([])) rfl
              have HRD : Hid (∀ y0 y1, VlRd (fun b => w.heap.size ≤ b) ((wr.setCell ⟨w.heap.size + 1, 0, none⟩ y0).setCell ⟨w.heap.size + 1, 1, none⟩ y1) (d + 1 + 1) (.mk (x + y) ([])) none 0 0) := fun y0 y1 => ((hrd.set (fun z hz => by have := HPV.out; omega)).set (fun z hz => by have := HPV.out; omega)).in fun b hb => by have := HPV.out; omega
              have HB5 : Hid (∀ y0 y1, Below (w.heap.size + 1) wr ((wr.setCell ⟨w.heap.size + 1, 0, none⟩ y0).setCell ⟨w.heap.size + 1, 1, none⟩ y1)) := fun y0 y1 => ((Below.refl (w.heap.size + 1) wr).setCell (p := ⟨w.heap.size + 1, 0, none⟩) (Nat.le_refl _) y0).setCell (p := ⟨w.heap.size + 1, 1, none⟩) (Nat.le_refl _) y1
              clear hrd
              go_wp2
              exact bodyPost_ret (v := vlV (.mk (x + y) ([])) none 0 0) (by simp [results, Tryz.results13, go_sem, r0, r1, Vl.i]) rfl ⟨.mk (x + y) ([]), none, 0, 0, rfl, HRD.out _ _, (by show -1002 ≤ (x + y) ∧ (x + y) ≤ 2001; omega), INV.out.src.belowB (HB5.out _ _) (by omega), ((But.of_below HWV.out).trans INV.out.but).onB (HB5.out _ _) (by omega)⟩
            · go_simp
              have hk : But g wr.drew (wr.alloc (.cells #[.int .i64 (-1), .int .i64 1, .int .i64 1000] 3)).drew := hk.alloc (.cells #[.int .i64 (-1), .int .i64 1, .int .i64 1000] 3)
              refine hK.out _ _ trivial (fun hHeld => ?_)
              clear hK K
              try simp only [Act.put, List.setIfInBounds_toArray, List.set_cons_zero, List.set_cons_succ]
              refine wpAnyH_ready (rs := [1, 4]) (by kernel_rfl) (by simp) ?_
              refine AllReadyH.cons (o := ⟨some 85, _, _, _, _, _⟩) rfl (fun K hK => ?_) (AllReadyH.cons (o := ⟨some 88, _, _, _, _, _⟩) rfl (fun K hK => ?_) AllReadyH.nil)
              · have q0 := (INV.out.boxAt _ hk).1
                go_simp
                refine hK.out _ _ trivial (fun hHeld => ?_)
                clear hK K
                try simp only [Act.put, List.setIfInBounds_toArray, List.set_cons_zero, List.set_cons_succ]
                refine wpAnyH_ready (rs := [4]) (by kernel_rfl) (by simp) ?_
                refine AllReadyH.cons (o := ⟨some 88, _, _, _, _, _⟩) rfl (fun K hK => ?_) AllReadyH.nil
                go_simp
                go_at_call 30
                (with_reducible refine HPK.out.mono ?_)
                rintro e1 w1 ⟨y, rfl, ⟨y1, y2⟩, hs1, hb1⟩
                replace hk := hk.trans hb1
                go_wp2_with fail
                refine hK.out _ _ trivial (fun hHeld => ?_)
                clear hK K
                try simp only [Act.put, List.setIfInBounds_toArray, List.set_cons_zero, List.set_cons_succ]
                have eadd : IntKind.i64.wrap (x + y) = x + y := by rw [IntKind.wrap_i64]; omega
                refine tkH (i := 5) (oi := ⟨some 89, _, _, _, _, _⟩) (v := ?_) ?_ ?_
                rotate_left
                · intro w hSw; go_simp; try with_reducible rfl
                try simp only [Act.put, List.setIfInBounds_toArray, List.set_cons_zero, List.set_cons_succ]
                refine tkH (i := 6) (oi := ⟨some 90, _, _, _, _, _⟩) (v := ?_) ?_ ?_
                rotate_left
                · intro w hSw; go_simp; try with_reducible rfl
                try simp only [Act.put, List.setIfInBounds_toArray, List.set_cons_zero, List.set_cons_succ]
                clear eadd
                refine wpAnyH_ready (rs := [7]) (by kernel_rfl) (by simp) ?_
                refine AllReadyH.cons (o := ⟨none, _, _, _, _, _⟩) rfl (fun K hK => ?_) AllReadyH.nil
                have INV2 := Lib.hid (INV.out.drew.butG hs1 hk)
                have x0 := INV2.out.box.1
                have f0 := INV2.out.box.2.2.1
                go_simp
                refine hK.out _ _ trivial (fun hHeld => ?_)
                clear hK K hHeld x0 f0
                try simp only [Act.put, List.setIfInBounds_toArray, List.set_cons_zero, List.set_cons_succ]
                refine wpAnyH_done (by kernel_rfl) ?_ _
                replace INV := Lib.hid (INV2.out.int (x + y))
                clear INV2 hk hs1 hb1
                generalize w1.setCell ⟨p, 0, none⟩ (.int .i64 (x + y)) = wr at *
                have hrb := HRB.out _ INV.out.but
                obtain ⟨r0, r1, f0, f1⟩ := hrb
                obtain ⟨b0, b1, _, _⟩ := INV.out.box
                have hrd := INV.out.own.rd (.mk (x + y) ([])) rfl
                have HRD : Hid (∀ y0 y1, VlRd (fun b => w.heap.size ≤ b) ((wr.setCell ⟨w.heap.size + 1, 0, none⟩ y0).setCell ⟨w.heap.size + 1, 1, none⟩ y1) (d + 1 + 1) (.mk (x + y) ([])) none 0 0) := fun y0 y1 => ((hrd.set (fun z hz => by have := HPV.out; omega)).set (fun z hz => by have := HPV.out; omega)).in fun b hb => by have := HPV.out; omega
                have HB5 : Hid (∀ y0 y1, Below (w.heap.size + 1) wr ((wr.setCell ⟨w.heap.size + 1, 0, none⟩ y0).setCell ⟨w.heap.size + 1, 1, none⟩ y1)) := fun y0 y1 => ((Below.refl (w.heap.size + 1) wr).setCell (p := ⟨w.heap.size + 1, 0, none⟩) (Nat.le_refl _) y0).setCell (p := ⟨w.heap.size + 1, 1, none⟩) (Nat.le_refl _) y1
                clear hrd
                go_wp2
                exact bodyPost_ret (v := vlV (.mk (x + y) ([])) none 0 0) (by simp [results, Tryz.results13, go_sem, r0, r1, Vl.i]) rfl ⟨.mk (x + y) ([]), none, 0, 0, rfl, HRD.out _ _, (by show -1002 ≤ (x + y) ∧ (x + y) ≤ 2001; omega), INV.out.src.belowB (HB5.out _ _) (by omega), ((But.of_below HWV.out).trans INV.out.but).onB (HB5.out _ _) (by omega)⟩
              · go_simp
                go_at_call 30
                (with_reducible refine HPK.out.mono ?_)
                rintro e1 w1 ⟨y, rfl, ⟨y1, y2⟩, hs1, hb1⟩
                replace hk := hk.trans hb1
                go_wp2_with fail
                refine hK.out _ _ trivial (fun hHeld => ?_)
                clear hK K
                try simp only [Act.put, List.setIfInBounds_toArray, List.set_cons_zero, List.set_cons_succ]
                refine wpAnyH_ready (rs := [1]) (by kernel_rfl) (by simp) ?_
                refine AllReadyH.cons (o := ⟨some 85, _, _, _, _, _⟩) rfl (fun K hK => ?_) AllReadyH.nil
                have q0 := (INV.out.boxAt _ hk).1
                go_simp
                refine hK.out _ _ trivial (fun hHeld => ?_)
                clear hK K
                try simp only [Act.put, List.setIfInBounds_toArray, List.set_cons_zero, List.set_cons_succ]
                have eadd : IntKind.i64.wrap (x + y) = x + y := by rw [IntKind.wrap_i64]; omega
                refine tkH (i := 5) (oi := ⟨some 89, _, _, _, _, _⟩) (v := ?_) ?_ ?_
                rotate_left
                · intro w hSw; go_simp; try with_reducible rfl
                try simp only [Act.put, List.setIfInBounds_toArray, List.set_cons_zero, List.set_cons_succ]
                refine tkH (i := 6) (oi := ⟨some 90, _, _, _, _, _⟩) (v := ?_) ?_ ?_
                rotate_left
                · intro w hSw; go_simp; try with_reducible rfl
                try simp only [Act.put, List.setIfInBounds_toArray, List.set_cons_zero, List.set_cons_succ]
                clear eadd
                refine wpAnyH_ready (rs := [7]) (by kernel_rfl) (by simp) ?_
                refine AllReadyH.cons (o := ⟨none, _, _, _, _, _⟩) rfl (fun K hK => ?_) AllReadyH.nil
                have INV2 := Lib.hid (INV.out.drew.butG hs1 hk)
                have x0 := INV2.out.box.1
                have f0 := INV2.out.box.2.2.1
                go_simp
                refine hK.out _ _ trivial (fun hHeld => ?_)
                clear hK K hHeld x0 f0
                try simp only [Act.put, List.setIfInBounds_toArray, List.set_cons_zero, List.set_cons_succ]
                refine wpAnyH_done (by kernel_rfl) ?_ _
                replace INV := Lib.hid (INV2.out.int (x + y))
                clear INV2 hk hs1 hb1
                generalize w1.setCell ⟨p, 0, none⟩ (.int .i64 (x + y)) = wr at *
                have hrb := HRB.out _ INV.out.but
                obtain ⟨r0, r1, f0, f1⟩ := hrb
                obtain ⟨b0, b1, _, _⟩ := INV.out.box
                have hrd := INV.out.own.rd (.mk (x + y) ([])) rfl
                have HRD : Hid (∀ y0 y1, VlRd (fun b => w.heap.size ≤ b) ((wr.setCell ⟨w.heap.size + 1, 0, none⟩ y0).setCell ⟨w.heap.size + 1, 1, none⟩ y1) (d + 1 + 1) (.mk (x + y) ([])) none 0 0) := fun y0 y1 => ((hrd.set (fun z hz => by have := HPV.out; omega)).set (fun z hz => by have := HPV.out; omega)).in fun b hb => by have := HPV.out; omega
                have HB5 : Hid (∀ y0 y1, Below (w.heap.size + 1) wr ((wr.setCell ⟨w.heap.size + 1, 0, none⟩ y0).setCell ⟨w.heap.size + 1, 1, none⟩ y1)) := fun y0 y1 => ((Below.refl (w.heap.size + 1) wr).setCell (p := ⟨w.heap.size + 1, 0, none⟩) (Nat.le_refl _) y0).setCell (p := ⟨w.heap.size + 1, 1, none⟩) (Nat.le_refl _) y1
                clear hrd
                go_wp2
                exact bodyPost_ret (v := vlV (.mk (x + y) ([])) none 0 0) (by simp [results, Tryz.results13, go_sem, r0, r1, Vl.i]) rfl ⟨.mk (x + y) ([]), none, 0, 0, rfl, HRD.out _ _, (by show -1002 ≤ (x + y) ∧ (x + y) ≤ 2001; omega), INV.out.src.belowB (HB5.out _ _) (by omega), ((But.of_below HWV.out).trans INV.out.but).onB (HB5.out _ _) (by omega)⟩
          · by_cases hz1 : z = 1
            · subst hz1
              obtain ⟨a0, a1, _, _⟩ := INV.out.box
              have INV1 := INV
              obtain ⟨hOWx, hNW, _⟩ := INV1.out.tail (x := ⟨.mk 0 [], none, 0, 0⟩) (w1 := wr) (VlRd.nil _ _ rfl) (⟨rfl, rfl, rfl, Nat.le_refl _, fun _ _ _ => rfl⟩ : But g wr.drew wr)
              go_wp2_with (at_builtin; refine wpList_append_lies _ rfl _ _ 25 rfl (p + 1) 27 i0 (.agg #[.int .i64 0, .slice none 0 0]) 2 32 Tryz.underlying25 hi hy0 hy1 hy2 rfl (by decide) (.slice none 0 0) 0 (vlRow []) rfl hOWx.row ⟨wr.heap.size, 0, none⟩ 1 1 (VlAt.mk (.mk 0 []) none 0 0).cells rfl rfl hNW (VlAt.oneCell _) (by decide) (by unfold maxLen; omega) (by omega) (by rw [World.size_alloc]; have := INV1.out.size; omega) _ rfl ?_)
              intro g3 c3 w3 hown hgrow hat hlt3
              have hKE := Lib.hid (INV1.out.added (x := ⟨.mk 0 [], none, 0, 0⟩) (w1 := wr) (VlRd.nil _ _ rfl) trivial INV1.out.src (⟨rfl, rfl, rfl, Nat.le_refl _, fun _ _ _ => rfl⟩ : But g wr.drew wr) hown hgrow (by first | exact hat | (rw [World.size_alloc] at hat; exact hat)))
              have u1 := hKE.out.box.2.1
              have u2 := hKE.out.box.2.2.2
              have INV := Lib.hid (hKE.out.stored (.slice (some ⟨g3, 0, none⟩) (0 + 1) c3))
              clear hown hgrow hat hOWx hNW INV1 hKE
              have hrb := HRB.out _ INV.out.but
              obtain ⟨r0, r1, f0, f1⟩ := hrb
              obtain ⟨b0, b1, _, _⟩ := INV.out.box
              have hrd := INV.out.own.rd (.mk x (([] ++ [(⟨.mk 0 [], none, 0, 0⟩ : VlAt)]).map VlAt.V)) rfl
              have HRD : Hid (∀ y0 y1, VlRd (fun b => w.heap.size ≤ b) (((w3.setCell ⟨p, 1, none⟩ (.slice (some ⟨g3, 0, none⟩) (0 + 1) c3)).setCell ⟨w.heap.size + 1, 0, none⟩ y0).setCell ⟨w.heap.size + 1, 1, none⟩ y1) (d + 1 + 1) (.mk x (([] ++ [(⟨.mk 0 [], none, 0, 0⟩ : VlAt)]).map VlAt.V)) (some ⟨g3, 0, none⟩) (0 + 1) c3) := fun y0 y1 => ((hrd.set (fun z hz => by have := HPV.out; omega)).set (fun z hz => by have := HPV.out; omega)).in fun b hb => by have := HPV.out; omega
              have HB5 : Hid (∀ y0 y1, Below (w.heap.size + 1) (w3.setCell ⟨p, 1, none⟩ (.slice (some ⟨g3, 0, none⟩) (0 + 1) c3)) (((w3.setCell ⟨p, 1, none⟩ (.slice (some ⟨g3, 0, none⟩) (0 + 1) c3)).setCell ⟨w.heap.size + 1, 0, none⟩ y0).setCell ⟨w.heap.size + 1, 1, none⟩ y1)) := fun y0 y1 => ((Below.refl (w.heap.size + 1) (w3.setCell ⟨p, 1, none⟩ (.slice (some ⟨g3, 0, none⟩) (0 + 1) c3))).setCell (p := ⟨w.heap.size + 1, 0, none⟩) (Nat.le_refl _) y0).setCell (p := ⟨w.heap.size + 1, 1, none⟩) (Nat.le_refl _) y1
              clear hrd
              go_wp2
              exact bodyPost_ret (v := vlV (.mk x (([] ++ [(⟨.mk 0 [], none, 0, 0⟩ : VlAt)]).map VlAt.V)) (some ⟨g3, 0, none⟩) (0 + 1) c3) (by simp [results, Tryz.results13, go_sem, r0, r1, Vl.i]) rfl ⟨.mk x (([] ++ [(⟨.mk 0 [], none, 0, 0⟩ : VlAt)]).map VlAt.V), some ⟨g3, 0, none⟩, 0 + 1, c3, rfl, HRD.out _ _, (by show -1002 ≤ x ∧ x ≤ 2001; omega), INV.out.src.belowB (HB5.out _ _) (by omega), ((But.of_below HWV.out).trans INV.out.but).onB (HB5.out _ _) (by omega)⟩
            · have zb0 : (z == 0) = false := by simpa using hz0
              have zb1 : (z == 1) = false := by simpa using hz1
              clear hz0 hz1
              have hrb := HRB.out _ INV.out.but
              obtain ⟨r0, r1, f0, f1⟩ := hrb
              obtain ⟨b0, b1, _, _⟩ := INV.out.box
              have hrd := INV.out.own.rd (.mk x ([])) rfl
              have HRD : Hid (∀ y0 y1, VlRd (fun b => w.heap.size ≤ b) ((wr.setCell ⟨w.heap.size + 1, 0, none⟩ y0).setCell ⟨w.heap.size + 1, 1, none⟩ y1) (d + 1 + 1) (.mk x ([])) none 0 0) := fun y0 y1 => ((hrd.set (fun z hz => by have := HPV.out; omega)).set (fun z hz => by have := HPV.out; omega)).in fun b hb => by have := HPV.out; omega
              have HB5 : Hid (∀ y0 y1, Below (w.heap.size + 1) wr ((wr.setCell ⟨w.heap.size + 1, 0, none⟩ y0).setCell ⟨w.heap.size + 1, 1, none⟩ y1)) := fun y0 y1 => ((Below.refl (w.heap.size + 1) wr).setCell (p := ⟨w.heap.size + 1, 0, none⟩) (Nat.le_refl _) y0).setCell (p := ⟨w.heap.size + 1, 1, none⟩) (Nat.le_refl _) y1
              clear hrd
              go_wp2
              exact bodyPost_ret (v := vlV (.mk x ([])) none 0 0) (by simp [results, Tryz.results13, go_sem, r0, r1, Vl.i]) rfl ⟨.mk x ([]), none, 0, 0, rfl, HRD.out _ _, (by show -1002 ≤ x ∧ x ≤ 2001; omega), INV.out.src.belowB (HB5.out _ _) (by omega), ((But.of_below HWV.out).trans INV.out.but).onB (HB5.out _ _) (by omega)⟩

end Go.Proofs.YtklndjkblfncjaaGreatDoor
