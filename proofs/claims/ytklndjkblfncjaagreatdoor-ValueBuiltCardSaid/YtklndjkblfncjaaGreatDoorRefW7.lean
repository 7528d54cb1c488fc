/-
  The reference's wrong and Check of values of valid types: the error of a value.
-/
import Derived.Test.YtklndjkblfncjaaGreatDoorParts7
namespace Go.Proofs.YtklndjkblfncjaaGreatDoor
open Go Go.RowKit
set_option maxRecDepth 20000

def RWrongAt (d : Nat) : Prop := ∀ (S : Nat → Prop) (T : Ty) (A : Option Addr) (n c : Nat) (w : World), TyRd S w d T A n c → TyOk d T → T.k ≠ 4 → ∀ (S' : Nat → Prop) (d' : Nat) (V : Vl) (B : Option Addr) (m q : Nat), VlRd S' w d' V B m q → (T.k = 3 → V.i ≤ 9223372036854775807) → Calls Tryz.prog 41 #[tyV T A n c, vlV V B m q] w (FaultIs (verr d T V) w)

set_option maxHeartbeats 16000000 in
theorem rwrong_x : ∀ d, RWrongAt d
  | 0, _, _, _, _, _, _, h, _, _ => h.elim
  | d + 1, S, T, A, n, c, w, h, hok, hk4 => by
    intro S' d'' V B m q hv hr3
    have IH := rwrong_x d
    obtain ⟨hl, hcap, htop⟩ := h.len
    obtain ⟨hvl, hvcap, hvtop⟩ := hv.len
    unfold maxLen at htop hvtop
    cases d'' with
    | zero => exact hv.elim
    | succ d' =>
    obtain ⟨v, hvv⟩ : ∃ v, (w.alloc (.cells #[.int .i64 T.k, .int .i64 T.lo, .int .i64 T.hi, .int .i64 T.mx, .slice A n c] 24)).alloc (.cells #[.int .i64 V.i, .slice B m q] 27) = v := ⟨_, rfl⟩
    obtain ⟨hvs, hwv, hbx⟩ := boxes_tv w _ _ _ _ _ _ _ _ _ v hvv
    have HBX := Lib.hid hbx
    have HVV := Lib.hid hvv
    have HWV := Lib.hid hwv
    have H := Lib.hid h
    have HVR := Lib.hid hv
    have HI := Lib.hid IH
    have HVS := Lib.hid hvs
    clear hvv hvs hbx IH
    by_cases k5 : T.k = 5
    · have b5 : (T.k == 5) = true := by simpa using k5
      have b6 : (T.k == 6) = false := by simp; omega
      obtain ⟨hz, hn2, hn4, hels⟩ := hok.tuple k5
      rw [hl] at hn2
      have HE : Hid (∀ e ∈ T.es, TyOk d e ∧ e.k ≠ 3 ∧ e.k ≠ 4) := fun e he => hels e he
      by_cases hgd : V.i = 0 ∧ m = n
      · obtain ⟨hi0, hmn⟩ := hgd
        obtain rfl : m = n := hmn
        obtain ⟨ZL, hZL⟩ : ∃ ZL, List.zipWith (verr d) T.es V.es = ZL := ⟨_, rfl⟩
        have HR : Hid (verr (d + 1) T V = firstE ZL) := by
          show _ = _
          rw [← hZL]
          simp only [verr, if_pos k5]
          rw [if_neg (by rw [hvl, hl]; simp), if_neg (by simpa using hi0)]
        have HZN : Hid (ZL.length = m) := by show _ = _; rw [← hZL, List.length_zipWith, hl, hvl]; omega
        have HZL := Lib.hid hZL
        have bi : (V.i != 0) = false := by simpa using hi0
        clear h hok hv hels hz k5 hl hvl hwv hZL hi0 hn4
        go_enter Tryz.func41, Tryz.ntmps41
        go_wp2
        rw [HVV.out]
        go_loopw [5] (fun iv wr => ∃ i : Nat, i ≤ m ∧ iv = .int .i64 i ∧ Hid (firstE (ZL.take i) = 0 ∧ Below v.heap.size v wr)) (fun iv _ => m - (intOf iv).toNat)
        case atStart => exact ⟨0, Nat.zero_le _, rfl, by simp [firstE], Below.refl _ _⟩
        case round =>
          obtain ⟨i, hi, rfl, HZB⟩ := hrel
          obtain ⟨⟨p0, p1, p2, p3, p4⟩, r0, r1, f0, f1⟩ := HBX.out wr HZB.out.2
          by_cases hlt : i < m
          · have hwr := nextB HWV.out HZB.out.2
            have hs1 : w.heap.size + 1 < wr.heap.size := by have := HVS.out; have := HZB.out.2.size; omega
            have hs0 : w.heap.size < wr.heap.size := by omega
            obtain ⟨f, gv, ov, Bf, mf, qf, hf, rfl, _, hgv, hcv, hrv⟩ := (HVR.out.below hwr).get hlt
            obtain ⟨e0, g, o, A0, n0, c0', he0, rfl, _, hg, hc0, hr0⟩ := (H.out.below hwr).get (i := 0) (by omega)
            obtain ⟨e, g', o', A', n', c', he, hgg, _, hg', hc, hr⟩ := (H.out.below hwr).get (show i < m by omega)
            injection hgg with hgg
            injection hgg with hg1 hg2
            subst hg1
            subst hg2
            have hoe : TyOk d e ∧ e.k ≠ 3 ∧ e.k ≠ 4 := HE.out e (List.mem_of_getElem? he)
            have hzi : ZL[i]? = some (verr d e f) := by rw [← HZL.out]; exact zip_get _ he hf
            obtain ⟨s0, s1, s2, s3, s4⟩ := hc
            obtain ⟨c0, c1, c2, c3, c4⟩ := hc0
            obtain ⟨z0, z1⟩ := hcv
            simp only [Nat.zero_mul, Nat.add_zero] at c0 c1 c2 c3 c4
            obtain ⟨u, hu⟩ : ∃ u, wr.alloc (.cells #[.int .i64 e.k, .int .i64 e.lo, .int .i64 e.hi, .int .i64 e.mx, .slice A' n' c'] 24) = u := ⟨_, rfl⟩
            obtain ⟨hus, hwu, hbu⟩ := box_t wr _ _ _ _ _ _ u hu
            have HS : Hid (∀ W, Below u.heap.size u W → Box5 W wr.heap.size (.int .i64 e.k) (.int .i64 e.lo) (.int .i64 e.hi) (.int .i64 e.mx) (.slice A' n' c') ∧ Box5 W w.heap.size (.int .i64 T.k) (.int .i64 T.lo) (.int .i64 T.hi) (.int .i64 T.mx) (.slice (some ⟨g, o, none⟩) m c) ∧ W.cell? ⟨w.heap.size + 1, 0, none⟩ = some (.int .i64 V.i) ∧ W.cell? ⟨w.heap.size + 1, 1, none⟩ = some (.slice (some ⟨gv, ov, none⟩) m q) ∧ VlCells W gv (ov + i * 2) f Bf mf qf) := by
              intro W hW
              have hb2 := HBX.out W (nextB HZB.out.2 (nextB hwu hW))
              exact ⟨hbu W hW, hb2.1, hb2.2.1, hb2.2.2.1, VlCells.keep ⟨z0, z1⟩ ((nextB hwu hW).block gv hgv)⟩
            have HF : Hid (∀ W, Below u.heap.size u W → Calls Tryz.prog 41 #[tyV e A' n' c', vlV f Bf mf qf] W (FaultIs (verr d e f) W)) := fun W hW => HI.out S e A' n' c' W (hr.below (nextB hwu hW)) hoe.1 hoe.2.2 S' d' f Bf mf qf (hrv.below (nextB hwu hW)) (fun h => absurd h hoe.2.1)
            obtain ⟨y, hy⟩ : ∃ y, verr d e f = y := ⟨_, rfl⟩
            rw [hy] at HF hzi
            have HZI := Lib.hid hzi
            have HU := Lib.hid hu
            have HB2 := Lib.hid (nextB HZB.out.2 hwu)
            clear hu hwu hbu hwr hf he0 hzi hrv hr0 hy hoe hr he
            go_wp2_with fail
            rw [HU.out]
            have hk := (Below.refl u.heap.size u).drew
            refine wp_region_held_drew (S := fun W => Below u.heap.size u W) (by kernel_rfl) ?_ (fun hHeld => ?_)
            · exact hk
            refine tkH (i := 0) (oi := ⟨some 62, _, _, _, _, _⟩) (v := ?_) ?_ ?_
            rotate_left
            · intro w hSw
              obtain ⟨⟨p0, p1, p2, p3, p4⟩, ⟨q0, q1, q2, q3, q4⟩, r0, r1, z0, z1⟩ := HS.out w hSw
              go_simp
              try with_reducible rfl
            try simp only [Act.put, List.setIfInBounds_toArray, List.set_cons_zero, List.set_cons_succ]
            refine tkH (i := 1) (oi := ⟨some 63, _, _, _, _, _⟩) (v := ?_) ?_ ?_
            rotate_left
            · intro w hSw; go_simp; try with_reducible rfl
            try simp only [Act.put, List.setIfInBounds_toArray, List.set_cons_zero, List.set_cons_succ]
            refine tkH (i := 2) (oi := ⟨some 64, _, _, _, _, _⟩) (v := ?_) ?_ ?_
            rotate_left
            · intro w hSw
              obtain ⟨⟨p0, p1, p2, p3, p4⟩, ⟨q0, q1, q2, q3, q4⟩, r0, r1, z0, z1⟩ := HS.out w hSw
              go_simp
              try with_reducible rfl
            try simp only [Act.put, List.setIfInBounds_toArray, List.set_cons_zero, List.set_cons_succ]
            refine tkH (i := 3) (oi := ⟨some 65, _, _, _, _, _⟩) (v := ?_) ?_ ?_
            rotate_left
            · intro w hSw; go_simp; try with_reducible rfl
            try simp only [Act.put, List.setIfInBounds_toArray, List.set_cons_zero, List.set_cons_succ]
            refine tkH (i := 4) (oi := ⟨some 66, _, _, _, _, _⟩) (v := ?_) ?_ ?_
            rotate_left
            · intro w hSw; go_simp; try with_reducible rfl
            try simp only [Act.put, List.setIfInBounds_toArray, List.set_cons_zero, List.set_cons_succ]
            refine tkH (i := 5) (oi := ⟨some 67, _, _, _, _, _⟩) (v := ?_) ?_ ?_
            rotate_left
            · intro w hSw
              obtain ⟨⟨p0, p1, p2, p3, p4⟩, ⟨q0, q1, q2, q3, q4⟩, r0, r1, z0, z1⟩ := HS.out w hSw
              go_simp
              try with_reducible rfl
            try simp only [Act.put, List.setIfInBounds_toArray, List.set_cons_zero, List.set_cons_succ]
            refine wpAnyH_ready (rs := [6]) (by kernel_rfl) (by simp) ?_
            refine AllReadyH.cons (o := ⟨some 68, _, _, _, _, _⟩) rfl (fun K hK => ?_) AllReadyH.nil
            go_simp
            go_at_call 41
            refine (HF.out _ hk).mono ?_
            rintro e1 w1 ⟨rfl, hb⟩
            replace hk := hk.trans (hb.mono hk.size)
            go_wp2_with fail
            refine hK.out _ _ hk (fun hHeld => ?_)
            clear hK K
            try simp only [Act.put, List.setIfInBounds_toArray, List.set_cons_zero, List.set_cons_succ]
            refine tkH (i := 7) (oi := ⟨some 7, _, _, _, _, _⟩) (v := ?_) ?_ ?_
            rotate_left
            · intro w hSw; go_simp; try with_reducible rfl
            try simp only [Act.put, List.setIfInBounds_toArray, List.set_cons_zero, List.set_cons_succ]
            refine wpAnyH_done (by kernel_rfl) ?_ _
            clear hHeld
            have HK := Lib.hid (nextB HB2.out hk)
            clear hk hb HF HS
            clear p0 p1 p2 p3 p4 r0 r1 f0 f1 c0 c1 c2 c3 c4 z0 z1 s0 s1 s2 s3 s4
            by_cases hx0 : y = 0
            · subst hx0
              have HZ2 := Lib.hid (And.intro (firstE_next HZB.out.1 HZI.out rfl) HK.out)
              go_wp2
              go_roundw
              case rel => exact ⟨i + 1, by omega, by go_num, HZ2⟩
              case measure => simp [intOf] <;> omega
            · have bx : (y != 0) = true := by simpa using hx0
              have HFIN := Lib.hid (firstE_at HZB.out.1 HZI.out hx0)
              clear hx0
              go_wp2
              go_ret
              refine ⟨?_, nextB HWV.out HK.out⟩
              rw [HR.out, HFIN.out]; rfl
          · obtain rfl : i = m := by omega
            have HFIN : Hid (firstE ZL = 0) := by
              have := HZB.out.1
              rwa [List.take_of_length_le (by rw [HZN.out]; exact Nat.le_refl _)] at this
            go_wp2
            go_ret
            refine ⟨?_, nextB HWV.out HZB.out.2⟩
            rw [HR.out, HFIN.out]; rfl
      · have hE : verr (d + 1) T V = 2 := by
          simp only [verr, if_pos k5]
          by_cases h1 : m = n
          · rw [if_neg (by rw [hvl, hl]; simpa using h1), if_pos (by intro h0; exact hgd ⟨h0, h1⟩)]
          · rw [if_pos (by rw [hvl, hl]; exact h1)]
        rw [hE]
        have HB := Lib.hid hwv
        by_cases hi0 : V.i = 0
        · have bi : (V.i != 0) = false := by simpa using hi0
          have bm2 : ¬ m = n := fun h1 => hgd ⟨hi0, h1⟩
          clear h hok hv hels hz k5 hl hvl hwv hE hgd hi0 HI H HVR
          go_enter Tryz.func41, Tryz.ntmps41
          go_wp2
          rw [HVV.out]
          go_ret
          exact ⟨rfl, HB.out⟩
        · have bi : (V.i != 0) = true := by simpa using hi0
          clear h hok hv hels hz k5 hl hvl hwv hE hgd hi0 HI H HVR
          go_enter Tryz.func41, Tryz.ntmps41
          go_wp2
          rw [HVV.out]
          go_ret
          exact ⟨rfl, HB.out⟩
    · have b5 : (T.k == 5) = false := by simpa using k5
      by_cases k6 : T.k = 6
      · have b6 : (T.k == 6) = true := by simpa using k6
        obtain ⟨hz, hm1, hm4, x, hx, hox, hkx⟩ := hok.list k6
        obtain rfl : n = 1 := by rw [← hl, hx]; rfl
        by_cases hgd : V.i = 0 ∧ ¬ T.mx < m
        · obtain ⟨hi0, hmn⟩ := hgd
          have HE : Hid (TyOk d x ∧ x.k ≠ 3 ∧ x.k ≠ 4) := ⟨hox, by omega, by omega⟩
          have HX := Lib.hid hx
          obtain ⟨ZL, hZL⟩ : ∃ ZL, List.zipWith (verr d) (List.replicate m x) V.es = ZL := ⟨_, rfl⟩
          have HR : Hid (verr (d + 1) T V = firstE ZL) := by
            show _ = _
            rw [← hZL]
            simp only [verr, if_neg k5, if_pos k6, hx, hvl, List.headD_cons]
            rw [if_neg hmn, if_neg (by simpa using hi0)]
          have HZN : Hid (ZL.length = m) := by show _ = _; rw [← hZL, List.length_zipWith, List.length_replicate, hvl]; omega
          have HZL := Lib.hid hZL
          have bi : (V.i != 0) = false := by simpa using hi0
          clear h hok hv hz k5 k6 hl hvl hwv hZL hi0 hx hox hkx
          go_enter Tryz.func41, Tryz.ntmps41
          go_wp2
          rw [HVV.out]
          go_loopw [5] (fun iv wr => ∃ i : Nat, i ≤ m ∧ iv = .int .i64 i ∧ Hid (firstE (ZL.take i) = 0 ∧ Below v.heap.size v wr)) (fun iv _ => m - (intOf iv).toNat)
          case atStart => exact ⟨0, Nat.zero_le _, rfl, by simp [firstE], Below.refl _ _⟩
          case round =>
            obtain ⟨i, hi, rfl, HZB⟩ := hrel
            obtain ⟨⟨p0, p1, p2, p3, p4⟩, r0, r1, f0, f1⟩ := HBX.out wr HZB.out.2
            by_cases hlt : i < m
            · have hwr := nextB HWV.out HZB.out.2
              have hs1 : w.heap.size + 1 < wr.heap.size := by have := HVS.out; have := HZB.out.2.size; omega
              have hs0 : w.heap.size < wr.heap.size := by omega
              obtain ⟨f, gv, ov, Bf, mf, qf, hf, rfl, _, hgv, hcv, hrv⟩ := (HVR.out.below hwr).get hlt
              obtain ⟨e0, g, o, A0, n0, c0', he0, rfl, _, hg, hc0, hr0⟩ := (H.out.below hwr).get (i := 0) (by omega)
              obtain rfl : e0 = x := by rw [HX.out] at he0; simpa using he0.symm
              have hr := hr0
              have hoe : TyOk d e0 ∧ e0.k ≠ 3 ∧ e0.k ≠ 4 := HE.out
              have hzi : ZL[i]? = some (verr d e0 f) := by rw [← HZL.out]; exact zip_get _ (by rw [List.getElem?_replicate, if_pos hlt]) hf
              obtain ⟨c0, c1, c2, c3, c4⟩ := hc0
              obtain ⟨z0, z1⟩ := hcv
              simp only [Nat.zero_mul, Nat.add_zero] at c0 c1 c2 c3 c4
              obtain ⟨u, hu⟩ : ∃ u, wr.alloc (.cells #[.int .i64 e0.k, .int .i64 e0.lo, .int .i64 e0.hi, .int .i64 e0.mx, .slice A0 n0 c0'] 24) = u := ⟨_, rfl⟩
              obtain ⟨hus, hwu, hbu⟩ := box_t wr _ _ _ _ _ _ u hu
              have HS : Hid (∀ W, Below u.heap.size u W → Box5 W wr.heap.size (.int .i64 e0.k) (.int .i64 e0.lo) (.int .i64 e0.hi) (.int .i64 e0.mx) (.slice A0 n0 c0') ∧ Box5 W w.heap.size (.int .i64 T.k) (.int .i64 T.lo) (.int .i64 T.hi) (.int .i64 T.mx) (.slice (some ⟨g, o, none⟩) 1 c) ∧ W.cell? ⟨w.heap.size + 1, 0, none⟩ = some (.int .i64 V.i) ∧ W.cell? ⟨w.heap.size + 1, 1, none⟩ = some (.slice (some ⟨gv, ov, none⟩) m q) ∧ VlCells W gv (ov + i * 2) f Bf mf qf) := by
                intro W hW
                have hb2 := HBX.out W (nextB HZB.out.2 (nextB hwu hW))
                exact ⟨hbu W hW, hb2.1, hb2.2.1, hb2.2.2.1, VlCells.keep ⟨z0, z1⟩ ((nextB hwu hW).block gv hgv)⟩
              have HF : Hid (∀ W, Below u.heap.size u W → Calls Tryz.prog 41 #[tyV e0 A0 n0 c0', vlV f Bf mf qf] W (FaultIs (verr d e0 f) W)) := fun W hW => HI.out S e0 A0 n0 c0' W (hr.below (nextB hwu hW)) hoe.1 hoe.2.2 S' d' f Bf mf qf (hrv.below (nextB hwu hW)) (fun h => absurd h hoe.2.1)
              obtain ⟨y, hy⟩ : ∃ y, verr d e0 f = y := ⟨_, rfl⟩
              rw [hy] at HF hzi
              have HZI := Lib.hid hzi
              have HU := Lib.hid hu
              have HB2 := Lib.hid (nextB HZB.out.2 hwu)
              clear hu hwu hbu hwr hf he0 hzi hrv hr0 hy hoe hr
              go_wp2_with fail
              rw [HU.out]
              have hk := (Below.refl u.heap.size u).drew
              refine wp_region_held_drew (S := fun W => Below u.heap.size u W) (by kernel_rfl) ?_ (fun hHeld => ?_)
              · exact hk
              refine tkH (i := 0) (oi := ⟨some 62, _, _, _, _, _⟩) (v := ?_) ?_ ?_
              rotate_left
              · intro w hSw
                obtain ⟨⟨p0, p1, p2, p3, p4⟩, ⟨q0, q1, q2, q3, q4⟩, r0, r1, z0, z1⟩ := HS.out w hSw
                go_simp
                try with_reducible rfl
              try simp only [Act.put, List.setIfInBounds_toArray, List.set_cons_zero, List.set_cons_succ]
              refine tkH (i := 1) (oi := ⟨some 63, _, _, _, _, _⟩) (v := ?_) ?_ ?_
              rotate_left
              · intro w hSw; go_simp; try with_reducible rfl
              try simp only [Act.put, List.setIfInBounds_toArray, List.set_cons_zero, List.set_cons_succ]
              refine tkH (i := 2) (oi := ⟨some 64, _, _, _, _, _⟩) (v := ?_) ?_ ?_
              rotate_left
              · intro w hSw
                obtain ⟨⟨p0, p1, p2, p3, p4⟩, ⟨q0, q1, q2, q3, q4⟩, r0, r1, z0, z1⟩ := HS.out w hSw
                go_simp
                try with_reducible rfl
              try simp only [Act.put, List.setIfInBounds_toArray, List.set_cons_zero, List.set_cons_succ]
              refine tkH (i := 3) (oi := ⟨some 65, _, _, _, _, _⟩) (v := ?_) ?_ ?_
              rotate_left
              · intro w hSw; go_simp; try with_reducible rfl
              try simp only [Act.put, List.setIfInBounds_toArray, List.set_cons_zero, List.set_cons_succ]
              refine tkH (i := 4) (oi := ⟨some 66, _, _, _, _, _⟩) (v := ?_) ?_ ?_
              rotate_left
              · intro w hSw; go_simp; try with_reducible rfl
              try simp only [Act.put, List.setIfInBounds_toArray, List.set_cons_zero, List.set_cons_succ]
              refine tkH (i := 5) (oi := ⟨some 67, _, _, _, _, _⟩) (v := ?_) ?_ ?_
              rotate_left
              · intro w hSw
                obtain ⟨⟨p0, p1, p2, p3, p4⟩, ⟨q0, q1, q2, q3, q4⟩, r0, r1, z0, z1⟩ := HS.out w hSw
                go_simp
                try with_reducible rfl
              try simp only [Act.put, List.setIfInBounds_toArray, List.set_cons_zero, List.set_cons_succ]
              refine wpAnyH_ready (rs := [6]) (by kernel_rfl) (by simp) ?_
              refine AllReadyH.cons (o := ⟨some 68, _, _, _, _, _⟩) rfl (fun K hK => ?_) AllReadyH.nil
              go_simp
              go_at_call 41
              refine (HF.out _ hk).mono ?_
              rintro e1 w1 ⟨rfl, hb⟩
              replace hk := hk.trans (hb.mono hk.size)
              go_wp2_with fail
              refine hK.out _ _ hk (fun hHeld => ?_)
              clear hK K
              try simp only [Act.put, List.setIfInBounds_toArray, List.set_cons_zero, List.set_cons_succ]
              refine tkH (i := 7) (oi := ⟨some 7, _, _, _, _, _⟩) (v := ?_) ?_ ?_
              rotate_left
              · intro w hSw; go_simp; try with_reducible rfl
              try simp only [Act.put, List.setIfInBounds_toArray, List.set_cons_zero, List.set_cons_succ]
              refine wpAnyH_done (by kernel_rfl) ?_ _
              clear hHeld
              have HK := Lib.hid (nextB HB2.out hk)
              clear hk hb HF HS
              clear p0 p1 p2 p3 p4 r0 r1 f0 f1 c0 c1 c2 c3 c4 z0 z1
              by_cases hx0 : y = 0
              · subst hx0
                have HZ2 := Lib.hid (And.intro (firstE_next HZB.out.1 HZI.out rfl) HK.out)
                go_wp2
                go_roundw
                case rel => exact ⟨i + 1, by omega, by go_num, HZ2⟩
                case measure => simp [intOf] <;> omega
              · have bx : (y != 0) = true := by simpa using hx0
                have HFIN := Lib.hid (firstE_at HZB.out.1 HZI.out hx0)
                clear hx0
                go_wp2
                go_ret
                refine ⟨?_, nextB HWV.out HK.out⟩
                rw [HR.out, HFIN.out]; rfl
            · obtain rfl : i = m := by omega
              have HFIN : Hid (firstE ZL = 0) := by
                have := HZB.out.1
                rwa [List.take_of_length_le (by rw [HZN.out]; exact Nat.le_refl _)] at this
              go_wp2
              go_ret
              refine ⟨?_, nextB HWV.out HZB.out.2⟩
              rw [HR.out, HFIN.out]; rfl
        · have hE : verr (d + 1) T V = 2 := by
            simp only [verr, if_neg k5, if_pos k6]
            by_cases h1 : T.mx < m
            · rw [if_pos (by rw [hvl]; exact h1)]
            · rw [if_neg (by rw [hvl]; exact h1), if_pos (by intro h0; exact hgd ⟨h0, h1⟩)]
          rw [hE]
          have HB := Lib.hid hwv
          by_cases hi0 : V.i = 0
          · have bi : (V.i != 0) = false := by simpa using hi0
            have bm2 : T.mx < m := Classical.byContradiction fun h1 => hgd ⟨hi0, h1⟩
            clear h hok hv hz k5 k6 hl hvl hwv hE hgd hi0 HI H HVR hx hox hkx
            go_enter Tryz.func41, Tryz.ntmps41
            go_wp2
            rw [HVV.out]
            go_ret
            exact ⟨rfl, HB.out⟩
          · have bi : (V.i != 0) = true := by simpa using hi0
            clear h hok hv hz k5 k6 hl hvl hwv hE hgd hi0 HI H HVR hx hox hkx
            go_enter Tryz.func41, Tryz.ntmps41
            go_wp2
            rw [HVV.out]
            go_ret
            exact ⟨rfl, HB.out⟩
      · have b6 : (T.k == 6) = false := by simpa using k6
        have HB := Lib.hid hwv
        by_cases hm0 : 0 < m
        · have hE : verr (d + 1) T V = 2 := by
            simp only [verr, if_neg k5, if_neg k6]
            rw [if_pos (by rw [hvl]; exact hm0)]
          rw [hE]
          clear h hok hv k5 k6 hl hvl hwv hE HI H HVR
          go_enter Tryz.func41, Tryz.ntmps41
          go_wp2
          rw [HVV.out]
          go_ret
          exact ⟨rfl, HB.out⟩
        · obtain rfl : m = 0 := by omega
          have hE : verr (d + 1) T V = if V.i < tlow T ∨ thigh T < V.i then 1 else 0 := by
            simp only [verr, if_neg k5, if_neg k6]
            rw [if_neg (by rw [hvl]; omega)]
          by_cases k1 : T.k = 1
          · have b1 : (T.k == 1) = true := by simpa using k1
            have b2 : (T.k == 2) = false := by simp; omega
            have b3 : (T.k == 3) = false := by simp; omega
            have e1 : tlow T = 0 := by unfold tlow; rw [if_pos k1]
            have e2 : thigh T = 1 := by unfold thigh; rw [if_pos k1]
            rw [hE, e1, e2]
            by_cases h0 : V.i = 0
            · rw [if_neg (by omega)]
              have c0 : (V.i != 0) = false := by simpa using h0
              clear h hok hv k5 k6 hl hvl hwv hE HI H HVR e1 e2 k1 h0 hk4
              go_enter Tryz.func41, Tryz.ntmps41
              go_wp2
              rw [HVV.out]
              go_ret
              exact ⟨rfl, HB.out⟩
            · have c0 : (V.i != 0) = true := by simpa using h0
              by_cases h1 : V.i = 1
              · rw [if_neg (by omega)]
                have c1 : (V.i != 1) = false := by simpa using h1
                clear h hok hv k5 k6 hl hvl hwv hE HI H HVR e1 e2 k1 h0 h1 hk4
                go_enter Tryz.func41, Tryz.ntmps41
                go_wp2
                rw [HVV.out]
                go_ret
                exact ⟨rfl, HB.out⟩
              · rw [if_pos (by omega)]
                have c1 : (V.i != 1) = true := by simpa using h1
                clear h hok hv k5 k6 hl hvl hwv hE HI H HVR e1 e2 k1 h0 h1 hk4
                go_enter Tryz.func41, Tryz.ntmps41
                go_wp2
                rw [HVV.out]
                go_ret
                exact ⟨rfl, HB.out⟩
          · by_cases k3 : T.k = 3
            · have b1 : (T.k == 1) = false := by simp; omega
              have b2 : (T.k == 2) = false := by simp; omega
              have b3 : (T.k == 3) = true := by simpa using k3
              have e1 : tlow T = 0 := by unfold tlow; rw [if_neg k1, if_pos k3]
              have e2 : thigh T = 9223372036854775807 := by unfold thigh; rw [if_neg k1, if_pos k3]
              rw [hE, e1, e2]
              have hr4 := hr3 k3
              by_cases h0 : V.i < 0
              · rw [if_pos (by omega)]
                clear h hok hv k5 k6 hl hvl hwv hE HI H HVR e1 e2 k1 k3 hk4 hr3 hr4
                go_enter Tryz.func41, Tryz.ntmps41
                go_wp2
                rw [HVV.out]
                go_ret
                exact ⟨rfl, HB.out⟩
              · rw [if_neg (by omega)]
                clear h hok hv k5 k6 hl hvl hwv hE HI H HVR e1 e2 k1 k3 hk4 hr3 hr4
                go_enter Tryz.func41, Tryz.ntmps41
                go_wp2
                rw [HVV.out]
                go_ret
                exact ⟨rfl, HB.out⟩
            have k2 : T.k = 2 := by rcases hok.kinds with h | h | h | h | h | h <;> omega
            have b1 : (T.k == 1) = false := by simp; omega
            have b2 : (T.k == 2) = true := by simpa using k2
            have b3 : (T.k == 3) = false := by simp; omega
            have e1 : tlow T = T.lo := by unfold tlow; rw [if_neg k1, if_neg k3]
            have e2 : thigh T = T.hi := by unfold thigh; rw [if_neg k1, if_neg k3]
            rw [hE, e1, e2]
            by_cases h0 : V.i < T.lo
            · rw [if_pos (by omega)]
              clear h hok hv k5 k6 hl hvl hwv hE HI H HVR e1 e2 k1 k2 k3 hk4
              go_enter Tryz.func41, Tryz.ntmps41
              go_wp2
              rw [HVV.out]
              go_ret
              exact ⟨rfl, HB.out⟩
            · by_cases h1 : T.hi < V.i
              · rw [if_pos (by omega)]
                clear h hok hv k5 k6 hl hvl hwv hE HI H HVR e1 e2 k1 k2 k3 hk4
                go_enter Tryz.func41, Tryz.ntmps41
                go_wp2
                rw [HVV.out]
                go_ret
                exact ⟨rfl, HB.out⟩
              · rw [if_neg (by omega)]
                clear h hok hv k5 k6 hl hvl hwv hE HI H HVR e1 e2 k1 k2 k3 hk4
                go_enter Tryz.func41, Tryz.ntmps41
                go_wp2
                rw [HVV.out]
                go_ret
                exact ⟨rfl, HB.out⟩

set_option maxHeartbeats 4000000 in
theorem refCheck_h (S : Nat → Prop) (d : Nat) (hd : d ≤ 10) (T : Ty) (A : Option Addr) (n c : Nat) (w : World) (h : TyRd S w d T A n c) (S' : Nat → Prop) (d' : Nat) (V : Vl) (B : Option Addr) (m q : Nat) (hv : VlRd S' w d' V B m q) (hr3 : T.k = 3 → V.i ≤ 9223372036854775807) :
    Calls Tryz.prog 23 #[tyV T A n c, vlV V B m q] w (FaultIs (ckErr d T V) w) := by
  obtain ⟨v, hvv⟩ : ∃ v, (w.alloc (.cells #[.int .i64 T.k, .int .i64 T.lo, .int .i64 T.hi, .int .i64 T.mx, .slice A n c] 24)).alloc (.cells #[.int .i64 V.i, .slice B m q] 27) = v := ⟨_, rfl⟩
  obtain ⟨hvs, hwv, hbx⟩ := boxes_tv w _ _ _ _ _ _ _ _ _ v hvv
  have HF := Lib.hid (typed_e S d hd T A n c v (h.below hwv))
  have HC : Hid (tyErr d T = 0 → ∀ W, Below v.heap.size v W → Calls Tryz.prog 41 #[tyV T A n c, vlV V B m q] W (FaultIs (verr d T V) W)) := fun h0 W hW => rwrong_x d S T A n c W (h.below (nextB hwv hW)) (tyErr_good h0 hd).1.ok (tyErr_good h0 hd).2 S' d' V B m q (hv.below (nextB hwv hW)) hr3
  have hdef : ckErr d T V = if tyErr d T ≠ 0 then tyErr d T else verr d T V := rfl
  obtain ⟨x, hx⟩ : ∃ x, tyErr d T = x := ⟨_, rfl⟩
  obtain ⟨z, hz⟩ : ∃ z, ckErr d T V = z := ⟨_, rfl⟩
  rw [hx] at HF HC hdef
  rw [hz] at hdef ⊢
  generalize verr d T V = y at HC hdef
  have HD := Lib.hid hdef
  have HBX := Lib.hid hbx
  have HVV := Lib.hid hvv
  have HWV := Lib.hid hwv
  clear h hv hvv hbx hwv hvs hx hz hdef hr3
  go_enter Tryz.func23, Tryz.ntmps23
  go_wp2_with fail
  rw [HVV.out]
  refine HF.out.mono ?_
  rintro e1 w1 ⟨rfl, hb⟩
  obtain ⟨⟨p0, p1, p2, p3, p4⟩, r0, r1, f0, f1⟩ := HBX.out w1 hb
  have hD := HD.out
  clear HF HD
  by_cases hx0 : x = 0
  · subst hx0
    rw [if_neg (by decide)] at hD
    have HZ := Lib.hid hD
    have HC1 := Lib.hid (HC.out rfl w1 hb)
    clear hD HC
    go_wp2_with fail
    refine HC1.out.mono ?_
    rintro e2 w2 ⟨rfl, hb2⟩
    have hB := nextB HWV.out (nextB hb hb2)
    clear hb hb2 HC1 HBX p0 p1 p2 p3 p4 r0 r1 f0 f1
    go_wp2
    go_ret
    exact ⟨by rw [HZ.out]; rfl, hB⟩
  · have bx : (x != 0) = true := by simpa using hx0
    rw [if_pos hx0] at hD
    have HZ := Lib.hid hD
    have hB := nextB HWV.out hb
    clear hD hx0 HC HBX p0 p1 p2 p3 p4 r0 r1 f0 f1 hb
    go_wp2
    go_ret
    exact ⟨by rw [HZ.out]; rfl, hB⟩
end Go.Proofs.YtklndjkblfncjaaGreatDoor
