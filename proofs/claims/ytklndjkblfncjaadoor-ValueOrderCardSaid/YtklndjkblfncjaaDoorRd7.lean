/-
  value.read on valid types.
-/
import Derived.Test.YtklndjkblfncjaaDoorRdL7
namespace Go.Proofs.YtklndjkblfncjaaDoor
open Go Go.RowKit
set_option maxRecDepth 20000

set_option maxHeartbeats 16000000 in
theorem read_x : ∀ d, ReadAt d
  | 0, _, _, _, _, _, _, _, _, _, _, _, h, _, _, _, _ => h.elim
  | d + 1, bd, S, T, A, n, c, Q, nq, qq, L, w, h, hok, hbd, hr, hlen => by
    have IH := read_x d
    obtain ⟨hl, hcap, htop⟩ := h.len
    unfold maxLen at htop
    have hrl := hr.len
    have hrc := hr.cap
    have hrt := hr.top
    obtain ⟨v, hvv⟩ : ∃ v, (w.alloc (.cells #[.int .i64 T.k, .int .i64 T.lo, .int .i64 T.hi, .int .i64 T.mx, .slice A n c] 27)).alloc (.cells #[.int .i64 0, .slice none 0 0] 31) = v := ⟨_, rfl⟩
    obtain ⟨hvs, hwv, hbx⟩ := boxes_tv w _ _ _ _ _ _ _ _ _ v hvv
    have HBX := Lib.hid hbx
    have HVV := Lib.hid hvv
    have HWV := Lib.hid hwv
    have HVS := Lib.hid hvs
    have HRV := Lib.hid (hr.below hwv hbd)
    clear hvv hbx hvs
    by_cases k5 : T.k = 5
    · have b5 : (T.k == 5) = true := by simpa using k5
      obtain ⟨hz, hn2, hn4, hels⟩ := hok.tuple k5
      have hW : twidth (d + 1) T = (T.es.map (twidth d)).sum := by simp only [twidth, if_pos k5]
      have hVv : vval (d + 1) T L = .mk 0 (vvals (vval d) (twidth d) T.es L) := by simp only [vval, if_pos k5]
      have hF := readEls_x d IH bd S T.es A n c Q nq qq L v (h.below hwv) (fun e he => (hels e he).1) (by rw [← hl]; omega) (Nat.le_trans hbd hwv.size) HRV.out (by rw [← hW]; exact hlen)
      rw [← hW, ← hVv] at hF
      have HF := Lib.hid hF
      clear h hok IH hels hz k5 hl hwv hr hlen hW hVv hF hn2 hn4 hrl hrc hrt
      generalize vval (d + 1) T L = X at *
      generalize L.drop (twidth (d + 1) T) = Y at *
      go_enter Tryd.func28, Tryd.ntmps28
      go_wp2_with fail
      rw [HVV.out]
      refine HF.out.mono ?_
      rintro e1 w1 ⟨B, m, q, Q1, n1, k1, rfl, hV, hR, hb⟩
      obtain ⟨_, r0, r1, f0, f1⟩ := HBX.out w1 hb
      have HRD : Hid (∀ y0 y1, VlRd (fun b => w.heap.size ≤ b) ((w1.setCell ⟨w.heap.size + 1, 0, none⟩ y0).setCell ⟨w.heap.size + 1, 1, none⟩ y1) (d + 1) X B m q) := fun y0 y1 => ((hV.set (fun z hz => by have := HVS.out; omega)).set (fun z hz => by have := HVS.out; omega)).in fun b hb => by have := HVS.out; omega
      have HB5 : Hid (∀ y0 y1, Below (w.heap.size + 1) w1 ((w1.setCell ⟨w.heap.size + 1, 0, none⟩ y0).setCell ⟨w.heap.size + 1, 1, none⟩ y1)) := fun y0 y1 => ((Below.refl (w.heap.size + 1) w1).setCell (p := ⟨w.heap.size + 1, 0, none⟩) (Nat.le_refl _) y0).setCell (p := ⟨w.heap.size + 1, 1, none⟩) (Nat.le_refl _) y1
      have HWB := Lib.hid (nextB HWV.out hb)
      have HRR := Lib.hid hR
      clear hV hb HF HBX hR
      go_wp2
      exact bodyPost_ret (v := .tuple #[vlV X B m q, .slice Q1 n1 k1]) (by simp [results, Tryd.results28, go_sem, r0, r1]) rfl ⟨B, m, q, Q1, n1, k1, rfl, HRD.out _ _, HRR.out.below (HB5.out _ _) (by omega), HWB.out.trans ((HB5.out _ _).mono (by omega))⟩
    · have b5 : (T.k == 5) = false := by simpa using k5
      by_cases k6 : T.k = 6
      · exact readList_x d IH bd S T A n c Q nq qq L w h hok hbd hr hlen k6
      · have b6 : (T.k == 6) = false := by simpa using k6
        have hW : twidth (d + 1) T = 1 := by simp only [twidth, if_neg k5, if_neg k6]
        have hVv : vval (d + 1) T L = .mk (L.headD 0) [] := by simp only [vval, if_neg k5, if_neg k6]
        rw [hW] at hlen ⊢
        rw [hVv]
        cases L with
        | nil => simp at hlen
        | cons x L =>
        obtain ⟨nq', rfl⟩ : ∃ k, nq = k + 1 := ⟨nq - 1, by simp at hrl; omega⟩
        obtain ⟨gq, oq, rfl, hgq, hat⟩ := HRV.out.at_ (by omega)
        have hx0 := hat 0 x rfl
        have HTL := Lib.hid HRV.out.tail
        have hgw : gq < w.heap.size := by omega
        have hcv : v.drew.cell? ⟨gq, oq, none⟩ = some (.int .i64 x) := hx0
        have hcs : ((v.drew.setCell ⟨w.heap.size + 1, 0, none⟩ (.int .i64 x)).setCell ⟨w.heap.size + 1, 1, none⟩ (.slice none 0 0)).cell? ⟨gq, oq, none⟩ = some (.int .i64 x) := by
          rw [cell_far _ _ _ _ (by show w.heap.size + 1 ≠ gq; omega), cell_far _ _ _ _ (by show w.heap.size + 1 ≠ gq; omega)]; exact hcv
        have HFB : Hid (Below (w.heap.size + 1) v ((v.drew.setCell ⟨w.heap.size + 1, 0, none⟩ (.int .i64 x)).setCell ⟨w.heap.size + 1, 1, none⟩ (.slice none 0 0))) := (((Below.refl (w.heap.size + 1) v).drew).setCell (p := ⟨w.heap.size + 1, 0, none⟩) (Nat.le_refl _) _).setCell (p := ⟨w.heap.size + 1, 1, none⟩) (Nat.le_refl _) _
        obtain ⟨_, r0, r1, f0, f1⟩ := HBX.out v (Below.refl _ _)
        show Calls _ _ _ _ (GivesRead bd (d + 1) (.mk x []) L w)
        clear h hok IH k5 k6 hl hwv hr hlen hW hVv hat hx0 hrl HBX
        by_cases hq1 : qq = 1
        · subst hq1
          have hn0 : nq' = 0 := by omega
          subst hn0
          have HTL2 : Hid (IntRd bd v (some ⟨gq, oq, none⟩) 0 0 L) := HTL.out
          replace HTL := HTL2
          clear HTL2
          go_enter Tryd.func28, Tryd.ntmps28
          go_wp2_with fail
          rw [HVV.out]
          refine wp_region_held_drew (S := fun W => W.cell? ⟨gq, oq, none⟩ = some (.int .i64 x)) (by kernel_rfl) hcv (fun hHeld => ?_)
          refine tkH (i := 0) (oi := ⟨some 52, _, _, _, _, _⟩) (v := ?_) ?_ ?_
          rotate_left
          · intro w hSw; go_simp; try with_reducible rfl
          try simp only [Act.put, List.setIfInBounds_toArray, List.set_cons_zero, List.set_cons_succ]
          refine tkH (i := 1) (oi := ⟨some 53, _, _, _, _, _⟩) (v := ?_) ?_ ?_
          rotate_left
          · intro w hSw; go_simp; try with_reducible rfl
          try simp only [Act.put, List.setIfInBounds_toArray, List.set_cons_zero, List.set_cons_succ]
          refine tkH (i := 2) (oi := ⟨some 54, _, _, _, _, _⟩) (v := ?_) ?_ ?_
          rotate_left
          · intro w hSw; go_simp; try with_reducible rfl
          try simp only [Act.put, List.setIfInBounds_toArray, List.set_cons_zero, List.set_cons_succ]
          refine tkH (i := 3) (oi := ⟨some 55, _, _, _, _, _⟩) (v := ?_) ?_ ?_
          rotate_left
          · intro w hSw; go_simp; try with_reducible rfl
          try simp only [Act.put, List.setIfInBounds_toArray, List.set_cons_zero, List.set_cons_succ]
          refine tkH (i := 4) (oi := ⟨some 56, _, _, _, _, _⟩) (v := ?_) ?_ ?_
          rotate_left
          · intro w hSw; go_simp; try with_reducible rfl
          try simp only [Act.put, List.setIfInBounds_toArray, List.set_cons_zero, List.set_cons_succ]
          refine tkH (i := 5) (oi := ⟨some 57, _, _, _, _, _⟩) (v := ?_) ?_ ?_
          rotate_left
          · intro w hSw; go_simp; try with_reducible rfl
          try simp only [Act.put, List.setIfInBounds_toArray, List.set_cons_zero, List.set_cons_succ]
          refine wpAnyH_ready (rs := [6]) (by kernel_rfl) (by simp) ?_
          refine AllReadyH.cons (o := ⟨none, _, _, _, _, _⟩) rfl (fun K hK => ?_) AllReadyH.nil
          go_simp
          refine hK.out _ _ hcs (fun hHeld => ?_)
          clear hK K
          try simp only [Act.put, List.setIfInBounds_toArray, List.set_cons_zero, List.set_cons_succ]
          refine tkH (i := 7) (oi := ⟨some 5, _, _, _, _, _⟩) (v := ?_) ?_ ?_
          rotate_left
          · intro w hSw; go_simp; try with_reducible rfl
          try simp only [Act.put, List.setIfInBounds_toArray, List.set_cons_zero, List.set_cons_succ]
          refine wpAnyH_done (by kernel_rfl) ?_ _
          go_wp2
          exact bodyPost_ret (v := .tuple #[vlV (.mk x []) none 0 0, .slice (some ⟨gq, oq, none⟩) 0 0]) (by simp [results, Tryd.results28, go_sem, r0, r1, Vl.i]) rfl ⟨none, 0, 0, some ⟨gq, oq, none⟩, 0, 0, rfl, VlRd.nil _ _ rfl, HTL.out.below HFB.out (by omega), HWV.out.trans (HFB.out.mono (by omega))⟩

        · have HTL2 : Hid (IntRd bd v (some ⟨gq, oq + 1, none⟩) nq' (qq - 1) L) := by
            have h := HTL.out
            simp only [tailAt, if_neg hq1] at h
            exact h
          have h1q : (1 : Int) ≤ (nq' : Int) + 1 := by omega
          replace HTL := HTL2
          clear HTL2
          go_enter Tryd.func28, Tryd.ntmps28
          go_wp2_with fail
          rw [HVV.out]
          refine wp_region_held_drew (S := fun W => W.cell? ⟨gq, oq, none⟩ = some (.int .i64 x)) (by kernel_rfl) hcv (fun hHeld => ?_)
          refine tkH (i := 0) (oi := ⟨some 52, _, _, _, _, _⟩) (v := ?_) ?_ ?_
          rotate_left
          · intro w hSw; go_simp; try with_reducible rfl
          try simp only [Act.put, List.setIfInBounds_toArray, List.set_cons_zero, List.set_cons_succ]
          refine tkH (i := 1) (oi := ⟨some 53, _, _, _, _, _⟩) (v := ?_) ?_ ?_
          rotate_left
          · intro w hSw; go_simp; try with_reducible rfl
          try simp only [Act.put, List.setIfInBounds_toArray, List.set_cons_zero, List.set_cons_succ]
          refine tkH (i := 2) (oi := ⟨some 54, _, _, _, _, _⟩) (v := ?_) ?_ ?_
          rotate_left
          · intro w hSw; go_simp; try with_reducible rfl
          try simp only [Act.put, List.setIfInBounds_toArray, List.set_cons_zero, List.set_cons_succ]
          refine tkH (i := 3) (oi := ⟨some 55, _, _, _, _, _⟩) (v := ?_) ?_ ?_
          rotate_left
          · intro w hSw; go_simp; try with_reducible rfl
          try simp only [Act.put, List.setIfInBounds_toArray, List.set_cons_zero, List.set_cons_succ]
          refine tkH (i := 4) (oi := ⟨some 56, _, _, _, _, _⟩) (v := ?_) ?_ ?_
          rotate_left
          · intro w hSw; go_simp; try with_reducible rfl
          try simp only [Act.put, List.setIfInBounds_toArray, List.set_cons_zero, List.set_cons_succ]
          refine tkH (i := 5) (oi := ⟨some 57, _, _, _, _, _⟩) (v := ?_) ?_ ?_
          rotate_left
          · intro w hSw; go_simp; try with_reducible rfl
          try simp only [Act.put, List.setIfInBounds_toArray, List.set_cons_zero, List.set_cons_succ]
          refine wpAnyH_ready (rs := [6]) (by kernel_rfl) (by simp) ?_
          refine AllReadyH.cons (o := ⟨none, _, _, _, _, _⟩) rfl (fun K hK => ?_) AllReadyH.nil
          go_simp
          refine hK.out _ _ hcs (fun hHeld => ?_)
          clear hK K
          try simp only [Act.put, List.setIfInBounds_toArray, List.set_cons_zero, List.set_cons_succ]
          refine tkH (i := 7) (oi := ⟨some 5, _, _, _, _, _⟩) (v := ?_) ?_ ?_
          rotate_left
          · intro w hSw; go_simp; try with_reducible rfl
          try simp only [Act.put, List.setIfInBounds_toArray, List.set_cons_zero, List.set_cons_succ]
          refine wpAnyH_done (by kernel_rfl) ?_ _
          go_wp2
          exact bodyPost_ret (v := .tuple #[vlV (.mk x []) none 0 0, .slice (some ⟨gq, oq + 1, none⟩) nq' (qq - 1)]) (by simp [results, Tryd.results28, go_sem, r0, r1, Vl.i]) rfl ⟨none, 0, 0, some ⟨gq, oq + 1, none⟩, nq', qq - 1, rfl, VlRd.nil _ _ rfl, HTL.out.below HFB.out (by omega), HWV.out.trans (HFB.out.mono (by omega))⟩
end Go.Proofs.YtklndjkblfncjaaDoor
