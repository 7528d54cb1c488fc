/-
  The reference's build: the value that cells stand for.
-/
import Derived.Test.YtklndjkblfncjaaGreatDoorRefI7
import Derived.Test.YtklndjkblfncjaaGreatDoorRd7
namespace Go.Proofs.YtklndjkblfncjaaGreatDoor
open Go Go.RowKit
set_option maxRecDepth 20000

theorem IntRd.same {bd : Nat} {w w' : World} {Q : Option Addr} {n q : Nat} {L : List Int} (h : IntRd bd w Q n q L) (hb : ∀ k, k < bd → w'.heap[k]? = w.heap[k]?) : IntRd bd w' Q n q L :=
  ⟨h.len, h.cap, h.top, fun hn => by
    obtain ⟨g, o, e, hg, hc⟩ := h.at_ hn
    exact ⟨g, o, e, hg, fun i x hx => (World.cell?_of_block (w := w) (a := ⟨g, o + i, none⟩) (hb g hg)).trans (hc i x hx)⟩⟩

set_option maxHeartbeats 16000000 in
theorem build_leaf (d : Nat) (bd : Nat) (T : Ty) (A : Option Addr) (n c : Nat) (Q : Option Addr) (nq qq : Nat) (L : List Int) (w : World) (hbd : bd ≤ w.heap.size) (hr : IntRd bd w Q nq qq L) (hlen : twidth (d + 1) T ≤ L.length) (k5 : ¬ T.k = 5) (k6 : ¬ T.k = 6) :
    Calls Tryz.prog 43 #[tyV T A n c, .slice Q nq qq] w (GivesRead bd (d + 1) (vval (d + 1) T L) (L.drop (twidth (d + 1) T)) w) := by
  have b5 : (T.k == 5) = false := by simpa using k5
  have b6 : (T.k == 6) = false := by simpa using k6
  have hrl := hr.len
  have hrc := hr.cap
  have hrt := hr.top
  obtain ⟨v, hv⟩ : ∃ v, ((w.alloc (.cells #[.int .i64 T.k, .int .i64 T.lo, .int .i64 T.hi, .int .i64 T.mx, .slice A n c] 24)).alloc (.cells #[.int .i64 0, .slice none 0 0] 27)).alloc (.cells #[.int .i64 0, .slice none 0 0] 27) = v := ⟨_, rfl⟩
  obtain ⟨hvs, hwv, hb0, hb1, hb2⟩ := boxes_tvv w _ _ _ _ _ _ _ _ _ _ _ v hv
  have HVV := Lib.hid hv
  have HWV := Lib.hid hwv
  have HRV := Lib.hid (hr.below hwv hbd)
  have hW : twidth (d + 1) T = 1 := by simp only [twidth, if_neg k5, if_neg k6]
  have hVv : vval (d + 1) T L = .mk (L.headD 0) [] := by simp only [vval, if_neg k5, if_neg k6]
  rw [hW] at hlen ⊢
  rw [hVv]
  cases L with
  | nil => simp at hlen
  | cons x L =>
  obtain ⟨nq', rfl⟩ : ∃ k, nq = k + 1 := ⟨nq - 1, by simp at hrl; omega⟩
  obtain ⟨gq, oq, rfl, hgq, hat⟩ := HRV.out.at_ (by omega)
  have hx0 := hat 0 x rfl
  have HTL := Lib.hid HRV.out.tail
  have hgw : gq < w.heap.size := by omega
  have hcv : v.drew.cell? ⟨gq, oq, none⟩ = some (.int .i64 x) := hx0
  have hcs : ((v.drew.setCell ⟨w.heap.size + 1, 0, none⟩ (.int .i64 x)).setCell ⟨w.heap.size + 1, 1, none⟩ (.slice none 0 0)).cell? ⟨gq, oq, none⟩ = some (.int .i64 x) := by
    rw [cell_far _ _ _ _ (by show w.heap.size + 1 ≠ gq; omega), cell_far _ _ _ _ (by show w.heap.size + 1 ≠ gq; omega)]; exact hcv
  have HFB : Hid (Below (w.heap.size + 1) v ((v.drew.setCell ⟨w.heap.size + 1, 0, none⟩ (.int .i64 x)).setCell ⟨w.heap.size + 1, 1, none⟩ (.slice none 0 0))) := (((Below.refl (w.heap.size + 1) v).drew).setCell (p := ⟨w.heap.size + 1, 0, none⟩) (Nat.le_refl _) _).setCell (p := ⟨w.heap.size + 1, 1, none⟩) (Nat.le_refl _) _
  obtain ⟨r0, r1, f0, f1⟩ := hb1
  obtain ⟨p0, p1, p2, p3, p4⟩ := hb0
  show Calls _ _ _ _ (GivesRead bd (d + 1) (.mk x []) L w)
  clear k5 k6 hwv hr hlen hW hVv hat hx0 hrl hb2 hv hvs
  by_cases hq1 : qq = 1
  · subst hq1
    have hn0 : nq' = 0 := by omega
    subst hn0
    have HTL2 : Hid (IntRd bd v (some ⟨gq, oq, none⟩) 0 0 L) := HTL.out
    replace HTL := HTL2
    clear HTL2
    go_enter Tryz.func43, Tryz.ntmps43
    go_wp2_with fail
    rw [HVV.out]
    go_wp2_with fail
    refine wp_region_held_drew (S := fun W => W.cell? ⟨gq, oq, none⟩ = some (.int .i64 x)) (by kernel_rfl) hcv (fun hHeld => ?_)
    refine tkH (i := 0) (oi := ⟨some 70, _, _, _, _, _⟩) (v := ?_) ?_ ?_
    rotate_left
    · intro w hSw; go_simp; try with_reducible rfl
    try simp only [Act.put, List.setIfInBounds_toArray, List.set_cons_zero, List.set_cons_succ]
    refine tkH (i := 1) (oi := ⟨some 71, _, _, _, _, _⟩) (v := ?_) ?_ ?_
    rotate_left
    · intro w hSw; go_simp; try with_reducible rfl
    try simp only [Act.put, List.setIfInBounds_toArray, List.set_cons_zero, List.set_cons_succ]
    refine tkH (i := 2) (oi := ⟨some 72, _, _, _, _, _⟩) (v := ?_) ?_ ?_
    rotate_left
    · intro w hSw; go_simp; try with_reducible rfl
    try simp only [Act.put, List.setIfInBounds_toArray, List.set_cons_zero, List.set_cons_succ]
    refine tkH (i := 3) (oi := ⟨some 73, _, _, _, _, _⟩) (v := ?_) ?_ ?_
    rotate_left
    · intro w hSw; go_simp; try with_reducible rfl
    try simp only [Act.put, List.setIfInBounds_toArray, List.set_cons_zero, List.set_cons_succ]
    refine tkH (i := 4) (oi := ⟨some 74, _, _, _, _, _⟩) (v := ?_) ?_ ?_
    rotate_left
    · intro w hSw; go_simp; try with_reducible rfl
    try simp only [Act.put, List.setIfInBounds_toArray, List.set_cons_zero, List.set_cons_succ]
    refine tkH (i := 5) (oi := ⟨some 75, _, _, _, _, _⟩) (v := ?_) ?_ ?_
    rotate_left
    · intro w hSw; go_simp; try with_reducible rfl
    try simp only [Act.put, List.setIfInBounds_toArray, List.set_cons_zero, List.set_cons_succ]
    refine wpAnyH_ready (rs := [6]) (by kernel_rfl) (by simp) ?_
    refine AllReadyH.cons (o := ⟨none, _, _, _, _, _⟩) rfl (fun K hK => ?_) AllReadyH.nil
    go_simp
    refine hK.out _ _ hcs (fun hHeld => ?_)
    clear hK K
    try simp only [Act.put, List.setIfInBounds_toArray, List.set_cons_zero, List.set_cons_succ]
    refine tkH (i := 7) (oi := ⟨some 5, _, _, _, _, _⟩) (v := ?_) ?_ ?_
    rotate_left
    · intro w hSw; go_simp; try with_reducible rfl
    try simp only [Act.put, List.setIfInBounds_toArray, List.set_cons_zero, List.set_cons_succ]
    refine wpAnyH_done (by kernel_rfl) ?_ _
    go_wp2
    exact bodyPost_ret (v := .tuple #[vlV (.mk x []) none 0 0, .slice (some ⟨gq, oq, none⟩) 0 0]) (by simp [results, Tryz.results43, go_sem, r0, r1, Vl.i]) rfl ⟨none, 0, 0, some ⟨gq, oq, none⟩, 0, 0, rfl, VlRd.nil _ _ rfl, HTL.out.below HFB.out (by omega), HWV.out.trans (HFB.out.mono (by omega))⟩
  · have HTL2 : Hid (IntRd bd v (some ⟨gq, oq + 1, none⟩) nq' (qq - 1) L) := by
      have h := HTL.out
      simp only [tailAt, if_neg hq1] at h
      exact h
    have h1q : (1 : Int) ≤ (nq' : Int) + 1 := by omega
    replace HTL := HTL2
    clear HTL2
    go_enter Tryz.func43, Tryz.ntmps43
    go_wp2_with fail
    rw [HVV.out]
    go_wp2_with fail
    refine wp_region_held_drew (S := fun W => W.cell? ⟨gq, oq, none⟩ = some (.int .i64 x)) (by kernel_rfl) hcv (fun hHeld => ?_)
    refine tkH (i := 0) (oi := ⟨some 70, _, _, _, _, _⟩) (v := ?_) ?_ ?_
    rotate_left
    · intro w hSw; go_simp; try with_reducible rfl
    try simp only [Act.put, List.setIfInBounds_toArray, List.set_cons_zero, List.set_cons_succ]
    refine tkH (i := 1) (oi := ⟨some 71, _, _, _, _, _⟩) (v := ?_) ?_ ?_
    rotate_left
    · intro w hSw; go_simp; try with_reducible rfl
    try simp only [Act.put, List.setIfInBounds_toArray, List.set_cons_zero, List.set_cons_succ]
    refine tkH (i := 2) (oi := ⟨some 72, _, _, _, _, _⟩) (v := ?_) ?_ ?_
    rotate_left
    · intro w hSw; go_simp; try with_reducible rfl
    try simp only [Act.put, List.setIfInBounds_toArray, List.set_cons_zero, List.set_cons_succ]
    refine tkH (i := 3) (oi := ⟨some 73, _, _, _, _, _⟩) (v := ?_) ?_ ?_
    rotate_left
    · intro w hSw; go_simp; try with_reducible rfl
    try simp only [Act.put, List.setIfInBounds_toArray, List.set_cons_zero, List.set_cons_succ]
    refine tkH (i := 4) (oi := ⟨some 74, _, _, _, _, _⟩) (v := ?_) ?_ ?_
    rotate_left
    · intro w hSw; go_simp; try with_reducible rfl
    try simp only [Act.put, List.setIfInBounds_toArray, List.set_cons_zero, List.set_cons_succ]
    refine tkH (i := 5) (oi := ⟨some 75, _, _, _, _, _⟩) (v := ?_) ?_ ?_
    rotate_left
    · intro w hSw; go_simp; try with_reducible rfl
    try simp only [Act.put, List.setIfInBounds_toArray, List.set_cons_zero, List.set_cons_succ]
    refine wpAnyH_ready (rs := [6]) (by kernel_rfl) (by simp) ?_
    refine AllReadyH.cons (o := ⟨none, _, _, _, _, _⟩) rfl (fun K hK => ?_) AllReadyH.nil
    go_simp
    refine hK.out _ _ hcs (fun hHeld => ?_)
    clear hK K
    try simp only [Act.put, List.setIfInBounds_toArray, List.set_cons_zero, List.set_cons_succ]
    refine tkH (i := 7) (oi := ⟨some 5, _, _, _, _, _⟩) (v := ?_) ?_ ?_
    rotate_left
    · intro w hSw; go_simp; try with_reducible rfl
    try simp only [Act.put, List.setIfInBounds_toArray, List.set_cons_zero, List.set_cons_succ]
    refine wpAnyH_done (by kernel_rfl) ?_ _
    go_wp2
    exact bodyPost_ret (v := .tuple #[vlV (.mk x []) none 0 0, .slice (some ⟨gq, oq + 1, none⟩) nq' (qq - 1)]) (by simp [results, Tryz.results43, go_sem, r0, r1, Vl.i]) rfl ⟨none, 0, 0, some ⟨gq, oq + 1, none⟩, nq', qq - 1, rfl, VlRd.nil _ _ rfl, HTL.out.below HFB.out (by omega), HWV.out.trans (HFB.out.mono (by omega))⟩

set_option maxHeartbeats 16000000 in
theorem build_list (d : Nat) (bd : Nat) (S : Nat → Prop) (T : Ty) (A : Option Addr) (n0 c : Nat) (Q0 : Option Addr) (nq qq : Nat) (L : List Int) (w : World) (h : TyRd S w (d + 1) T A n0 c) (hok : TyOk (d + 1) T) (hbd : bd ≤ w.heap.size) (hr : IntRd bd w Q0 nq qq L) (hlen : twidth (d + 1) T ≤ L.length) (k6 : T.k = 6) :
    Calls Tryz.prog 43 #[tyV T A n0 c, .slice Q0 nq qq] w (GivesRead bd (d + 1) (vval (d + 1) T L) (L.drop (twidth (d + 1) T)) w) := by
  obtain ⟨i0, hi, hy0, hy1, hy2⟩ := info_parts info_value
  have k5 : ¬ T.k = 5 := by omega
  have b5 : (T.k == 5) = false := by simpa using k5
  have b6 : (T.k == 6) = true := by simpa using k6
  have hrl := hr.len
  have hrc := hr.cap
  have hrt := hr.top
  obtain ⟨hz, hm1, hm4, e, he, hoe, hke⟩ := hok.list k6
  have hde : deepOk d e := h.deep e (by rw [he]; exact List.mem_singleton.2 rfl)
  obtain ⟨d', hd'⟩ : ∃ d', d = d' + 1 := by
    cases d with
    | zero => exact hde.elim
    | succ d' => exact ⟨d', rfl⟩
  have HDD := Lib.hid hd'
  obtain ⟨k, hk⟩ := Int.eq_ofNat_of_zero_le (show 0 ≤ T.mx by omega)
  have hk4 : k ≤ 4 := by omega
  have hk1 : 1 ≤ k := by omega
  have hw1 : twidth d e = 1 := by
    cases d with
    | zero => exact hde.elim
    | succ d => exact (tparts_leaf hke).2
  have hW : twidth (d + 1) T = 1 + k := by
    simp only [twidth, if_neg k5, if_pos k6, he, List.map_cons, List.headD_cons, hw1, hk]; omega
  have hval : ∀ cs, vval d e cs = .mk (cs.headD 0) [] := by
    intro cs
    cases d with
    | zero => exact hde.elim
    | succ d => simp only [vval, if_neg (show ¬ e.k = 5 by omega), if_neg (show ¬ e.k = 6 by omega)]
  rw [hW] at hlen ⊢
  cases L with
  | nil => simp at hlen
  | cons x0 L =>
  have hdr : (x0 :: L).drop (1 + k) = L.drop k := by rw [Nat.add_comm]; rfl
  rw [hdr]
  clear hdr
  have hL : k ≤ L.length := by simp at hlen; omega
  obtain ⟨cnt, hcnt⟩ : ∃ cnt, (min (max 0 x0) (k : Int)).toNat = cnt := ⟨_, rfl⟩
  have hck : cnt ≤ k := by omega
  obtain ⟨X, hX⟩ : ∃ X, vvals (vval d) (twidth d) (List.replicate cnt e) L = X := ⟨_, rfl⟩
  have HVV2 : Hid (vval (d + 1) T (x0 :: L) = .mk 0 X) := by
    show _ = _
    simp only [vval, if_neg k5, if_pos k6, he, List.headD_cons, List.drop_succ_cons, List.drop_zero, hk]
    rw [hcnt, hX]
  have HXL : Hid (X.length = cnt) := by show _ = _; rw [← hX, vvals_length, List.length_replicate]
  have hxs : ∀ n, n < cnt → X.take (n + 1) = X.take n ++ [.mk (L.getD n 0) []] := by
    intro n hn
    have h1 : (List.replicate cnt e)[n]? = some e := by rw [List.getElem?_replicate, if_pos hn]
    have h2 := vvals_take (vval d) (twidth d) (cs := L) h1
    rw [hX, hval, List.map_replicate, hw1, List.take_replicate, List.sum_replicate_nat, Nat.min_eq_left (by omega)] at h2
    rw [h2]
    congr 3
    rw [Nat.mul_one, List.getD_eq_getElem?_getD, List.headD_eq_head?_getD, List.head?_drop]
  have HXN0 := Lib.hid hxs
  obtain ⟨v, hv⟩ : ∃ v, ((w.alloc (.cells #[.int .i64 T.k, .int .i64 T.lo, .int .i64 T.hi, .int .i64 (k : Int), .slice A n0 c] 24)).alloc (.cells #[.int .i64 0, .slice none 0 0] 27)).alloc (.cells #[.int .i64 0, .slice none 0 0] 27) = v := ⟨_, rfl⟩
  obtain ⟨hvs, hwv, hb0, hb1, hb2⟩ := boxes_tvv w _ _ _ _ _ _ _ _ _ _ _ v hv
  obtain ⟨p, hp⟩ : ∃ p, w.heap.size + 2 = p := ⟨_, rfl⟩
  rw [hp] at hb2
  have HVV := Lib.hid hv
  have HWV := Lib.hid hwv
  have HP := Lib.hid hp
  have HTB : Hid (∀ W, Below p v W → Box5 W w.heap.size (.int .i64 T.k) (.int .i64 T.lo) (.int .i64 T.hi) (.int .i64 (k : Int)) (.slice A n0 c)) := fun W hW => Box5.keep hb0 (hW.block _ (by omega))
  have HRB : Hid (∀ W, Below p v W → Box2 W (w.heap.size + 1) (.int .i64 0) (.slice none 0 0)) := fun W hW => hb1.keep (hW.block _ (by omega))
  have INV0 : Hid (WInv p d v v (.slice none 0 0) none 0 0 []) := ⟨hb2, VlOwn.nil _ _ _, Below.refl _ _, by omega⟩
  have HWP : Hid (∀ W, Below p v W → Below w.heap.size w W) := fun W hW => hwv.trans (hW.mono (by omega))
  have HIR : Hid (∀ W, Below p v W → IntRd bd W Q0 nq qq (x0 :: L)) := fun W hW => ((hr.below hwv hbd).below hW (by omega))
  have HLL := Lib.hid hL
  rw [HVV2.out]
  simp only [tyV, hk]
  clear h hok k5 k6 hz hm1 hm4 he hoe hke hde hk hw1 hW hval hlen hX hxs hwv hb0 hb1 hb2 hv hvs hp hr hd'
  obtain ⟨p0, p1, p2, p3, p4⟩ := HTB.out v (Below.refl _ _)
  go_enter Tryz.func43, Tryz.ntmps43
  go_wp2_with fail
  rw [HVV.out, HP.out]
  go_wp2
  clear p0 p1 p2 p3 p4
  go_loopw [9] (fun iv wr => ∃ (n : Nat) (Q : Option Addr) (q : Nat) (l : List VlAt), n ≤ cnt ∧ iv = .int .i64 ((n : Int) + 1) ∧ Hid (WInv p d v wr (.slice Q n q) Q n q l ∧ l.map VlAt.V = X.take n)) (fun iv _ => cnt + 1 - (intOf iv).toNat)
  case atStart => exact ⟨0, none, 0, [], Nat.zero_le _, rfl, INV0.out, by simp⟩
  case round =>
    obtain ⟨n, Q, q, l, hn, rfl, INV⟩ := hrel
    obtain ⟨p0, p1, p2, p3, p4⟩ := HTB.out wr INV.out.1.bel
    obtain ⟨gq, oq, rfl, hgq, hat⟩ := (HIR.out wr INV.out.1.bel).at_ (by simp at hrl; omega)
    have hx0 : wr.cell? ⟨gq, oq, none⟩ = some (.int .i64 x0) := hat 0 x0 rfl
    by_cases hlt : n < cnt
    · have hn1 : (n : Int) + 1 ≤ (k : Int) := by omega
      have hn2 : (n : Int) + 1 ≤ x0 := by omega
      have hnl : n < L.length := by have := HLL.out; omega
      obtain ⟨V1, hVi, hVe⟩ : ∃ V1 : Vl, V1.i = L.getD n 0 ∧ V1.es = [] := ⟨.mk (L.getD n 0) [], rfl, rfl⟩
      have hget : (x0 :: L)[n + 1]? = some V1.i := by rw [List.getElem?_cons_succ, hVi, List.getD_eq_getElem?_getD, List.getElem?_eq_getElem hnl]; rfl
      have HXN : Hid (X.take (n + 1) = X.take n ++ [V1]) := by
        show _ = _
        rw [HXN0.out n hlt, V1.eta, hVi, hVe]
      have hxn := hat (n + 1) V1.i hget
      have hgp : gq < p := by have := HP.out; omega
      have HT : Hid (∀ W, Below p v W → W.cell? ⟨gq, oq + (n + 1), none⟩ = some (.int .i64 V1.i) ∧ Box5 W w.heap.size (.int .i64 T.k) (.int .i64 T.lo) (.int .i64 T.hi) (.int .i64 (k : Int)) (.slice A n0 c)) := fun W hW =>
        ⟨(World.cell?_of_block (w := wr) (a := ⟨gq, oq + (n + 1), none⟩) ((hW.block gq hgp).trans (INV.out.1.bel.block gq hgp).symm)).trans hxn, HTB.out W hW⟩
      have HBT : Hid (∀ W, Below wr.heap.size wr W → Below p v W) := fun W hW => INV.out.1.bel.trans (hW.mono (by have := INV.out.1.size; omega))
      have hlo : (0 : Int) ≤ (n : Int) + 1 := by omega
      have hhi : (n : Int) + 1 < (nq : Int) := by simp at hrl; omega
      have hk := (Below.refl wr.heap.size wr).drew
      have hk1 := hk
      have HRX : Hid (VlRd (fun b => wr.heap.size ≤ b) wr.drew d V1 none 0 0) := by show VlRd _ _ _ _ _ _ _; rw [HDD.out]; exact VlRd.nil _ _ hVe
      have hxo : (⟨gq, oq, none⟩ : Addr) = ⟨gq, oq, none⟩ := rfl
      clear hVi hVe hget hxn hat hgq hgp hxo
      go_wp2_with fail
      clear p0 p1 p2 p3 p4 hx0
      refine wp_region_held_drew (S := fun W => Below p v W) (by kernel_rfl) (HBT.out _ hk) (fun hHeld => ?_)
      refine tkH (i := 0) (oi := ⟨some 54, _, _, _, _, _⟩) (v := ?_) ?_ ?_
      rotate_left
      · intro w hSw; go_simp; try with_reducible rfl
      try simp only [Act.put, List.setIfInBounds_toArray, List.set_cons_zero, List.set_cons_succ]
      refine tkH (i := 2) (oi := ⟨some 56, _, _, _, _, _⟩) (v := ?_) ?_ ?_
      rotate_left
      · intro w hSw; go_simp; try with_reducible rfl
      try simp only [Act.put, List.setIfInBounds_toArray, List.set_cons_zero, List.set_cons_succ]
      refine tkH (i := 3) (oi := ⟨some 57, _, _, _, _, _⟩) (v := ?_) ?_ ?_
      rotate_left
      · intro w hSw; go_simp; try with_reducible rfl
      try simp only [Act.put, List.setIfInBounds_toArray, List.set_cons_zero, List.set_cons_succ]
      refine tkH (i := 4) (oi := ⟨some 58, _, _, _, _, _⟩) (v := ?_) ?_ ?_
      rotate_left
      · intro w hSw; go_simp; try with_reducible rfl
      try simp only [Act.put, List.setIfInBounds_toArray, List.set_cons_zero, List.set_cons_succ]
      refine tkH (i := 5) (oi := ⟨some 59, _, _, _, _, _⟩) (v := ?_) ?_ ?_
      rotate_left
      · intro w hSw
        obtain ⟨hx, p0, p1, p2, p3, p4⟩ := HT.out w hSw
        go_simp
        try with_reducible rfl
      try simp only [Act.put, List.setIfInBounds_toArray, List.set_cons_zero, List.set_cons_succ]
      refine tkH (i := 6) (oi := ⟨some 60, _, _, _, _, _⟩) (v := ?_) ?_ ?_
      rotate_left
      · intro w hSw; go_simp; try with_reducible rfl
      try simp only [Act.put, List.setIfInBounds_toArray, List.set_cons_zero, List.set_cons_succ]
      refine wpAnyH_ready (rs := [1, 7]) (by kernel_rfl) (by simp) ?_
      refine AllReadyH.cons (o := ⟨some 55, _, _, _, _, _⟩) rfl (fun K hK => ?_) (AllReadyH.cons (o := ⟨some 61, _, _, _, _, _⟩) rfl (fun K hK => ?_) AllReadyH.nil)
      · have q1 := (INV.out.1.box.below hk (by have := INV.out.1.size; omega)).2.1
        go_simp
        refine hK.out _ _ (HBT.out _ hk) (fun hHeld => ?_)
        clear hK K
        try simp only [Act.put, List.setIfInBounds_toArray, List.set_cons_zero, List.set_cons_succ]
        refine wpAnyH_ready (rs := [7]) (by kernel_rfl) (by simp) ?_
        refine AllReadyH.cons (o := ⟨some 61, _, _, _, _, _⟩) rfl (fun K hK => ?_) AllReadyH.nil
        go_simp
        have hk : Below wr.heap.size wr (wr.alloc (.cells #[.int .i64 V1.i, .slice none 0 0] 27)).drew := ((Below.refl _ _).alloc (Nat.le_refl _) _).drew
        refine hK.out _ _ (HBT.out _ hk) (fun hHeld => ?_)
        clear hK K
        try simp only [Act.put, List.setIfInBounds_toArray, List.set_cons_zero, List.set_cons_succ]
        refine wpAnyH_ready (rs := [8]) (by kernel_rfl) (by simp) ?_
        refine AllReadyH.cons (o := ⟨some 62, _, _, _, _, _⟩) rfl (fun K hK => ?_) AllReadyH.nil
        obtain ⟨hOWx, hNW, _⟩ := INV.out.1.tail (x := ⟨V1, none, 0, 0⟩) (w1 := wr.drew) HRX.out hk1
        refine step_append_lies _ rfl _ _ 25 rfl (p + 1) 27 i0 (.agg #[.int .i64 0, .slice none 0 0]) 2 32 Tryz.underlying25 hi hy0 hy1 hy2 rfl (by decide) (.slice Q n q) n (vlRow l) rfl hOWx.row ⟨wr.heap.size, 0, none⟩ 1 1 (VlAt.mk V1 none 0 0).cells rfl rfl hNW (VlAt.oneCell _) (by decide) (by unfold maxLen; omega) (by omega) (by have := INV.out.1.size; have h2 : (wr.alloc (.cells #[.int .i64 V1.i, .slice none 0 0] 27)).drew.heap.size = wr.heap.size + 1 := World.size_alloc _ _; omega) _ rfl ?_
        intro g3 c3 w3 hown hgrow hat hlt3
        have hKE := Lib.hid (INV.out.1.added (x := ⟨V1, none, 0, 0⟩) (w1 := wr.drew) HRX.out hk1 hown hgrow (by have h2 : (wr.alloc (.cells #[.int .i64 V1.i, .slice none 0 0] 27)).drew.heap.size = wr.heap.size + 1 := World.size_alloc _ _; rw [h2] at hat; exact hat))
        clear hown hgrow hat hOWx hNW hk
        refine hK.out _ _ hKE.out.bel (fun hHeld => ?_)
        clear hK K
        try simp only [Act.put, List.setIfInBounds_toArray, List.set_cons_zero, List.set_cons_succ]
        refine tkH (i := 9) (oi := ⟨some 63, _, _, _, _, _⟩) (v := ?_) ?_ ?_
        rotate_left
        · intro w hSw; go_simp; try with_reducible rfl
        try simp only [Act.put, List.setIfInBounds_toArray, List.set_cons_zero, List.set_cons_succ]
        refine wpAnyH_ready (rs := [10]) (by kernel_rfl) (by simp) ?_
        refine AllReadyH.cons (o := ⟨none, _, _, _, _, _⟩) rfl (fun K hK => ?_) AllReadyH.nil
        have x1 := hKE.out.box.2.1
        have f1 := hKE.out.box.2.2.2
        go_simp
        have HEND := Lib.hid (hKE.out.stored (.slice (some ⟨g3, 0, none⟩) (n + 1) c3))
        refine hK.out _ _ HEND.out.bel (fun hHeld => ?_)
        clear hK K x1 f1 hKE
        try simp only [Act.put, List.setIfInBounds_toArray, List.set_cons_zero, List.set_cons_succ]
        refine wpAnyH_done (by kernel_rfl) ?_ _
        have HE2 : Hid (WInv p d v (w3.setCell ⟨p, 1, none⟩ (.slice (some ⟨g3, 0, none⟩) (n + 1) c3)) (.slice (some ⟨g3, 0, none⟩) (n + 1) c3) (some ⟨g3, 0, none⟩) (n + 1) c3 (l ++ [(⟨V1, none, 0, 0⟩ : VlAt)]) ∧ (l ++ [(⟨V1, none, 0, 0⟩ : VlAt)]).map VlAt.V = X.take (n + 1)) := ⟨HEND.out, by rw [List.map_append, INV.out.2, HXN.out]; rfl⟩
        go_wp2
        go_roundw
        case rel => exact ⟨n + 1, _, _, _, by omega, by go_num, HE2⟩
        case measure => simp [intOf] <;> omega
      · go_simp
        have hk : Below wr.heap.size wr (wr.alloc (.cells #[.int .i64 V1.i, .slice none 0 0] 27)).drew := ((Below.refl _ _).alloc (Nat.le_refl _) _).drew
        refine hK.out _ _ (HBT.out _ hk) (fun hHeld => ?_)
        clear hK K
        try simp only [Act.put, List.setIfInBounds_toArray, List.set_cons_zero, List.set_cons_succ]
        refine wpAnyH_ready (rs := [1]) (by kernel_rfl) (by simp) ?_
        refine AllReadyH.cons (o := ⟨some 55, _, _, _, _, _⟩) rfl (fun K hK => ?_) AllReadyH.nil
        have q1 := (INV.out.1.box.below hk (by have := INV.out.1.size; omega)).2.1
        go_simp
        refine hK.out _ _ (HBT.out _ hk) (fun hHeld => ?_)
        clear hK K
        try simp only [Act.put, List.setIfInBounds_toArray, List.set_cons_zero, List.set_cons_succ]
        refine wpAnyH_ready (rs := [8]) (by kernel_rfl) (by simp) ?_
        refine AllReadyH.cons (o := ⟨some 62, _, _, _, _, _⟩) rfl (fun K hK => ?_) AllReadyH.nil
        obtain ⟨hOWx, hNW, _⟩ := INV.out.1.tail (x := ⟨V1, none, 0, 0⟩) (w1 := wr.drew) HRX.out hk1
        refine step_append_lies _ rfl _ _ 25 rfl (p + 1) 27 i0 (.agg #[.int .i64 0, .slice none 0 0]) 2 32 Tryz.underlying25 hi hy0 hy1 hy2 rfl (by decide) (.slice Q n q) n (vlRow l) rfl hOWx.row ⟨wr.heap.size, 0, none⟩ 1 1 (VlAt.mk V1 none 0 0).cells rfl rfl hNW (VlAt.oneCell _) (by decide) (by unfold maxLen; omega) (by omega) (by have := INV.out.1.size; have h2 : (wr.alloc (.cells #[.int .i64 V1.i, .slice none 0 0] 27)).drew.heap.size = wr.heap.size + 1 := World.size_alloc _ _; omega) _ rfl ?_
        intro g3 c3 w3 hown hgrow hat hlt3
        have hKE := Lib.hid (INV.out.1.added (x := ⟨V1, none, 0, 0⟩) (w1 := wr.drew) HRX.out hk1 hown hgrow (by have h2 : (wr.alloc (.cells #[.int .i64 V1.i, .slice none 0 0] 27)).drew.heap.size = wr.heap.size + 1 := World.size_alloc _ _; rw [h2] at hat; exact hat))
        clear hown hgrow hat hOWx hNW hk
        refine hK.out _ _ hKE.out.bel (fun hHeld => ?_)
        clear hK K
        try simp only [Act.put, List.setIfInBounds_toArray, List.set_cons_zero, List.set_cons_succ]
        refine tkH (i := 9) (oi := ⟨some 63, _, _, _, _, _⟩) (v := ?_) ?_ ?_
        rotate_left
        · intro w hSw; go_simp; try with_reducible rfl
        try simp only [Act.put, List.setIfInBounds_toArray, List.set_cons_zero, List.set_cons_succ]
        refine wpAnyH_ready (rs := [10]) (by kernel_rfl) (by simp) ?_
        refine AllReadyH.cons (o := ⟨none, _, _, _, _, _⟩) rfl (fun K hK => ?_) AllReadyH.nil
        have x1 := hKE.out.box.2.1
        have f1 := hKE.out.box.2.2.2
        go_simp
        have HEND := Lib.hid (hKE.out.stored (.slice (some ⟨g3, 0, none⟩) (n + 1) c3))
        refine hK.out _ _ HEND.out.bel (fun hHeld => ?_)
        clear hK K x1 f1 hKE
        try simp only [Act.put, List.setIfInBounds_toArray, List.set_cons_zero, List.set_cons_succ]
        refine wpAnyH_done (by kernel_rfl) ?_ _
        have HE2 : Hid (WInv p d v (w3.setCell ⟨p, 1, none⟩ (.slice (some ⟨g3, 0, none⟩) (n + 1) c3)) (.slice (some ⟨g3, 0, none⟩) (n + 1) c3) (some ⟨g3, 0, none⟩) (n + 1) c3 (l ++ [(⟨V1, none, 0, 0⟩ : VlAt)]) ∧ (l ++ [(⟨V1, none, 0, 0⟩ : VlAt)]).map VlAt.V = X.take (n + 1)) := ⟨HEND.out, by rw [List.map_append, INV.out.2, HXN.out]; rfl⟩
        go_wp2
        go_roundw
        case rel => exact ⟨n + 1, _, _, _, by omega, by go_num, HE2⟩
        case measure => simp [intOf] <;> omega
    · obtain rfl : n = cnt := by omega
      obtain ⟨r0, r1, f0, f1⟩ := HRB.out wr INV.out.1.bel
      have hfull : X.take n = X := by rw [List.take_of_length_le (by rw [HXL.out]; exact Nat.le_refl _)]
      have hnk : (1 : Int) + (k : Int) ≤ (nq : Int) := by simp at hrl; omega
      have HS0 : Hid (Box2 wr.drew p (.int .i64 0) (.slice Q n q) ∧ Box5 wr.drew w.heap.size (.int .i64 T.k) (.int .i64 T.lo) (.int .i64 T.hi) (.int .i64 (k : Int)) (.slice A n0 c)) := ⟨INV.out.1.box, HTB.out wr INV.out.1.bel⟩
      have HS1 : Hid (∀ y0 y1, Box2 ((wr.drew.setCell ⟨w.heap.size + 1, 0, none⟩ y0).setCell ⟨w.heap.size + 1, 1, none⟩ y1) p (.int .i64 0) (.slice Q n q) ∧ Box5 ((wr.drew.setCell ⟨w.heap.size + 1, 0, none⟩ y0).setCell ⟨w.heap.size + 1, 1, none⟩ y1) w.heap.size (.int .i64 T.k) (.int .i64 T.lo) (.int .i64 T.hi) (.int .i64 (k : Int)) (.slice A n0 c)) := fun y0 y1 =>
        ⟨(HS0.out.1.keep (Below.heap_setCell _ _ _ _ (by have := HP.out; show p ≠ w.heap.size + 1; omega))).keep (Below.heap_setCell _ _ _ _ (by have := HP.out; show p ≠ w.heap.size + 1; omega)),
         Box5.keep (Box5.keep HS0.out.2 (Below.heap_setCell _ _ _ _ (by show w.heap.size ≠ w.heap.size + 1; omega))) (Below.heap_setCell _ _ _ _ (by show w.heap.size ≠ w.heap.size + 1; omega))⟩
      have HFB : Hid (∀ y0 y1, Below w.heap.size w ((wr.drew.setCell ⟨w.heap.size + 1, 0, none⟩ y0).setCell ⟨w.heap.size + 1, 1, none⟩ y1)) := fun y0 y1 => (((HWP.out wr INV.out.1.bel).drew).setCell (p := ⟨w.heap.size + 1, 0, none⟩) (by simp) y0).setCell (p := ⟨w.heap.size + 1, 1, none⟩) (by simp) y1
      have HRD : Hid (∀ y0 y1, VlRd (fun b => w.heap.size ≤ b) ((wr.drew.setCell ⟨w.heap.size + 1, 0, none⟩ y0).setCell ⟨w.heap.size + 1, 1, none⟩ y1) (d + 1) (.mk 0 X) Q n q) := by
        intro y0 y1
        have h1 := INV.out.1.own.drew.rd (.mk 0 X) (by show X = _; rw [INV.out.2, hfull])
        exact ((h1.set (fun b hb => by have := HP.out; omega)).set (fun b hb => by have := HP.out; omega)).in fun b hb => by have := HP.out; omega
      have e1 : IntKind.i64.wrap (1 + (k : Int)) = 1 + (k : Int) := by rw [IntKind.wrap_i64]; omega
      have HIW : Hid (∀ y0 y1, ∀ k', k' < bd → ((wr.drew.setCell ⟨w.heap.size + 1, 0, none⟩ y0).setCell ⟨w.heap.size + 1, 1, none⟩ y1).heap[k']? = wr.heap[k']?) := fun y0 y1 k' hk' => (Below.heap_setCell _ _ _ _ (by show k' ≠ w.heap.size + 1; omega)).trans (Below.heap_setCell _ _ _ _ (by show k' ≠ w.heap.size + 1; omega))
      have hdl : (L.drop k).length = nq - (1 + k) := by rw [List.length_drop]; simp at hrl; omega
      have HIQ : Hid (∀ Qx, (0 < nq - (1 + k) → Qx = some ⟨gq, oq + (1 + k), none⟩) → IntRd bd wr Qx (nq - (1 + k)) (qq - (1 + k)) (L.drop k)) := by
        intro Qx hQx
        refine ⟨hdl, by omega, by omega, fun hn => ⟨gq, oq + (1 + k), hQx hn, hgq, fun i x hx => ?_⟩⟩
        rw [List.getElem?_drop] at hx
        have := hat (k + i + 1) x (by rw [List.getElem?_cons_succ]; exact hx)
        rw [← this]
        congr 2
        omega
      have h0k : (0 : Int) ≤ 1 + (k : Int) := by omega
      have ek : (1 + (k : Int)).toNat = 1 + k := by omega
      clear hfull hat hdl
      by_cases hq1 : qq = 1 + k
      · have hnq0 : nq = 1 + k := by omega
        subst hq1
        subst hnq0
        by_cases hnx : (n : Int) + 1 ≤ (k : Int)
        · have hnx2 : ¬ (n : Int) + 1 ≤ x0 := by omega
          go_wp2_with fail
          clear hx0 p0 p1 p2 p3 p4
          refine wp_region_held_drew (S := fun W => Box2 W p (.int .i64 0) (.slice Q n q) ∧ Box5 W w.heap.size (.int .i64 T.k) (.int .i64 T.lo) (.int .i64 T.hi) (.int .i64 (k : Int)) (.slice A n0 c)) (by kernel_rfl) HS0.out (fun hHeld => ?_)
          refine tkH (i := 0) (oi := ⟨some 64, _, _, _, _, _⟩) (v := ?_) ?_ ?_
          rotate_left
          · intro w hSw
            obtain ⟨⟨y0, y1, _, _⟩, p0, p1, p2, p3, p4⟩ := hSw
            go_simp
            try with_reducible rfl
          try simp only [Act.put, List.setIfInBounds_toArray, List.set_cons_zero, List.set_cons_succ]
          refine tkH (i := 1) (oi := ⟨some 65, _, _, _, _, _⟩) (v := ?_) ?_ ?_
          rotate_left
          · intro w hSw; go_simp; try with_reducible rfl
          try simp only [Act.put, List.setIfInBounds_toArray, List.set_cons_zero, List.set_cons_succ]
          refine tkH (i := 2) (oi := ⟨some 66, _, _, _, _, _⟩) (v := ?_) ?_ ?_
          rotate_left
          · intro w hSw; go_simp; try with_reducible rfl
          try simp only [Act.put, List.setIfInBounds_toArray, List.set_cons_zero, List.set_cons_succ]
          refine tkH (i := 3) (oi := ⟨some 67, _, _, _, _, _⟩) (v := ?_) ?_ ?_
          rotate_left
          · intro w hSw
            obtain ⟨⟨y0, y1, _, _⟩, p0, p1, p2, p3, p4⟩ := hSw
            go_simp
            try with_reducible rfl
          try simp only [Act.put, List.setIfInBounds_toArray, List.set_cons_zero, List.set_cons_succ]
          refine tkH (i := 4) (oi := ⟨some 68, _, _, _, _, _⟩) (v := ?_) ?_ ?_
          rotate_left
          · intro w hSw; go_simp; try with_reducible rfl
          try simp only [Act.put, List.setIfInBounds_toArray, List.set_cons_zero, List.set_cons_succ]
          refine tkH (i := 5) (oi := ⟨some 69, _, _, _, _, _⟩) (v := ?_) ?_ ?_
          rotate_left
          · intro w hSw; go_simp; try with_reducible rfl
          try simp only [Act.put, List.setIfInBounds_toArray, List.set_cons_zero, List.set_cons_succ]
          refine wpAnyH_ready (rs := [6]) (by kernel_rfl) (by simp) ?_
          refine AllReadyH.cons (o := ⟨none, _, _, _, _, _⟩) rfl (fun K hK => ?_) AllReadyH.nil
          go_simp
          refine hK.out _ _ (HS1.out _ _) (fun hHeld => ?_)
          clear hK K
          try simp only [Act.put, List.setIfInBounds_toArray, List.set_cons_zero, List.set_cons_succ]
          refine tkH (i := 7) (oi := ⟨some 5, _, _, _, _, _⟩) (v := ?_) ?_ ?_
          rotate_left
          · intro w hSw; go_simp; try with_reducible rfl
          try simp only [Act.put, List.setIfInBounds_toArray, List.set_cons_zero, List.set_cons_succ]
          refine wpAnyH_done (by kernel_rfl) ?_ _
          go_wp2
          exact bodyPost_ret (v := .tuple #[vlV (.mk 0 X) Q n q, .slice (some ⟨gq, oq, none⟩) (1 + k - (1 + k)) (1 + k - (1 + k))]) (by simp [results, Tryz.results43, go_sem, r0, r1, Vl.i]) rfl ⟨Q, n, q, _, _, _, rfl, HRD.out _ _, ((HIQ.out (some ⟨gq, oq, none⟩) (fun h => absurd h (by omega))).same (HIW.out _ _)), HFB.out _ _⟩
        · go_wp2_with fail
          clear hx0 p0 p1 p2 p3 p4
          refine wp_region_held_drew (S := fun W => Box2 W p (.int .i64 0) (.slice Q n q) ∧ Box5 W w.heap.size (.int .i64 T.k) (.int .i64 T.lo) (.int .i64 T.hi) (.int .i64 (k : Int)) (.slice A n0 c)) (by kernel_rfl) HS0.out (fun hHeld => ?_)
          refine tkH (i := 0) (oi := ⟨some 64, _, _, _, _, _⟩) (v := ?_) ?_ ?_
          rotate_left
          · intro w hSw
            obtain ⟨⟨y0, y1, _, _⟩, p0, p1, p2, p3, p4⟩ := hSw
            go_simp
            try with_reducible rfl
          try simp only [Act.put, List.setIfInBounds_toArray, List.set_cons_zero, List.set_cons_succ]
          refine tkH (i := 1) (oi := ⟨some 65, _, _, _, _, _⟩) (v := ?_) ?_ ?_
          rotate_left
          · intro w hSw; go_simp; try with_reducible rfl
          try simp only [Act.put, List.setIfInBounds_toArray, List.set_cons_zero, List.set_cons_succ]
          refine tkH (i := 2) (oi := ⟨some 66, _, _, _, _, _⟩) (v := ?_) ?_ ?_
          rotate_left
          · intro w hSw; go_simp; try with_reducible rfl
          try simp only [Act.put, List.setIfInBounds_toArray, List.set_cons_zero, List.set_cons_succ]
          refine tkH (i := 3) (oi := ⟨some 67, _, _, _, _, _⟩) (v := ?_) ?_ ?_
          rotate_left
          · intro w hSw
            obtain ⟨⟨y0, y1, _, _⟩, p0, p1, p2, p3, p4⟩ := hSw
            go_simp
            try with_reducible rfl
          try simp only [Act.put, List.setIfInBounds_toArray, List.set_cons_zero, List.set_cons_succ]
          refine tkH (i := 4) (oi := ⟨some 68, _, _, _, _, _⟩) (v := ?_) ?_ ?_
          rotate_left
          · intro w hSw; go_simp; try with_reducible rfl
          try simp only [Act.put, List.setIfInBounds_toArray, List.set_cons_zero, List.set_cons_succ]
          refine tkH (i := 5) (oi := ⟨some 69, _, _, _, _, _⟩) (v := ?_) ?_ ?_
          rotate_left
          · intro w hSw; go_simp; try with_reducible rfl
          try simp only [Act.put, List.setIfInBounds_toArray, List.set_cons_zero, List.set_cons_succ]
          refine wpAnyH_ready (rs := [6]) (by kernel_rfl) (by simp) ?_
          refine AllReadyH.cons (o := ⟨none, _, _, _, _, _⟩) rfl (fun K hK => ?_) AllReadyH.nil
          go_simp
          refine hK.out _ _ (HS1.out _ _) (fun hHeld => ?_)
          clear hK K
          try simp only [Act.put, List.setIfInBounds_toArray, List.set_cons_zero, List.set_cons_succ]
          refine tkH (i := 7) (oi := ⟨some 5, _, _, _, _, _⟩) (v := ?_) ?_ ?_
          rotate_left
          · intro w hSw; go_simp; try with_reducible rfl
          try simp only [Act.put, List.setIfInBounds_toArray, List.set_cons_zero, List.set_cons_succ]
          refine wpAnyH_done (by kernel_rfl) ?_ _
          go_wp2
          exact bodyPost_ret (v := .tuple #[vlV (.mk 0 X) Q n q, .slice (some ⟨gq, oq, none⟩) (1 + k - (1 + k)) (1 + k - (1 + k))]) (by simp [results, Tryz.results43, go_sem, r0, r1, Vl.i]) rfl ⟨Q, n, q, _, _, _, rfl, HRD.out _ _, ((HIQ.out (some ⟨gq, oq, none⟩) (fun h => absurd h (by omega))).same (HIW.out _ _)), HFB.out _ _⟩
      · by_cases hnx : (n : Int) + 1 ≤ (k : Int)
        · have hnx2 : ¬ (n : Int) + 1 ≤ x0 := by omega
          go_wp2_with fail
          clear hx0 p0 p1 p2 p3 p4
          refine wp_region_held_drew (S := fun W => Box2 W p (.int .i64 0) (.slice Q n q) ∧ Box5 W w.heap.size (.int .i64 T.k) (.int .i64 T.lo) (.int .i64 T.hi) (.int .i64 (k : Int)) (.slice A n0 c)) (by kernel_rfl) HS0.out (fun hHeld => ?_)
          refine tkH (i := 0) (oi := ⟨some 64, _, _, _, _, _⟩) (v := ?_) ?_ ?_
          rotate_left
          · intro w hSw
            obtain ⟨⟨y0, y1, _, _⟩, p0, p1, p2, p3, p4⟩ := hSw
            go_simp
            try with_reducible rfl
          try simp only [Act.put, List.setIfInBounds_toArray, List.set_cons_zero, List.set_cons_succ]
          refine tkH (i := 1) (oi := ⟨some 65, _, _, _, _, _⟩) (v := ?_) ?_ ?_
          rotate_left
          · intro w hSw; go_simp; try with_reducible rfl
          try simp only [Act.put, List.setIfInBounds_toArray, List.set_cons_zero, List.set_cons_succ]
          refine tkH (i := 2) (oi := ⟨some 66, _, _, _, _, _⟩) (v := ?_) ?_ ?_
          rotate_left
          · intro w hSw; go_simp; try with_reducible rfl
          try simp only [Act.put, List.setIfInBounds_toArray, List.set_cons_zero, List.set_cons_succ]
          refine tkH (i := 3) (oi := ⟨some 67, _, _, _, _, _⟩) (v := ?_) ?_ ?_
          rotate_left
          · intro w hSw
            obtain ⟨⟨y0, y1, _, _⟩, p0, p1, p2, p3, p4⟩ := hSw
            go_simp
            try with_reducible rfl
          try simp only [Act.put, List.setIfInBounds_toArray, List.set_cons_zero, List.set_cons_succ]
          refine tkH (i := 4) (oi := ⟨some 68, _, _, _, _, _⟩) (v := ?_) ?_ ?_
          rotate_left
          · intro w hSw; go_simp; try with_reducible rfl
          try simp only [Act.put, List.setIfInBounds_toArray, List.set_cons_zero, List.set_cons_succ]
          refine tkH (i := 5) (oi := ⟨some 69, _, _, _, _, _⟩) (v := ?_) ?_ ?_
          rotate_left
          · intro w hSw; go_simp; try with_reducible rfl
          try simp only [Act.put, List.setIfInBounds_toArray, List.set_cons_zero, List.set_cons_succ]
          refine wpAnyH_ready (rs := [6]) (by kernel_rfl) (by simp) ?_
          refine AllReadyH.cons (o := ⟨none, _, _, _, _, _⟩) rfl (fun K hK => ?_) AllReadyH.nil
          go_simp
          refine hK.out _ _ (HS1.out _ _) (fun hHeld => ?_)
          clear hK K
          try simp only [Act.put, List.setIfInBounds_toArray, List.set_cons_zero, List.set_cons_succ]
          refine tkH (i := 7) (oi := ⟨some 5, _, _, _, _, _⟩) (v := ?_) ?_ ?_
          rotate_left
          · intro w hSw; go_simp; try with_reducible rfl
          try simp only [Act.put, List.setIfInBounds_toArray, List.set_cons_zero, List.set_cons_succ]
          refine wpAnyH_done (by kernel_rfl) ?_ _
          go_wp2
          exact bodyPost_ret (v := .tuple #[vlV (.mk 0 X) Q n q, .slice (some ⟨gq, oq + (1 + k), none⟩) (nq - (1 + k)) (qq - (1 + k))]) (by simp [results, Tryz.results43, go_sem, r0, r1, Vl.i]) rfl ⟨Q, n, q, _, _, _, rfl, HRD.out _ _, ((HIQ.out _ (fun _ => rfl)).same (HIW.out _ _)), HFB.out _ _⟩
        · go_wp2_with fail
          clear hx0 p0 p1 p2 p3 p4
          refine wp_region_held_drew (S := fun W => Box2 W p (.int .i64 0) (.slice Q n q) ∧ Box5 W w.heap.size (.int .i64 T.k) (.int .i64 T.lo) (.int .i64 T.hi) (.int .i64 (k : Int)) (.slice A n0 c)) (by kernel_rfl) HS0.out (fun hHeld => ?_)
          refine tkH (i := 0) (oi := ⟨some 64, _, _, _, _, _⟩) (v := ?_) ?_ ?_
          rotate_left
          · intro w hSw
            obtain ⟨⟨y0, y1, _, _⟩, p0, p1, p2, p3, p4⟩ := hSw
            go_simp
            try with_reducible rfl
          try simp only [Act.put, List.setIfInBounds_toArray, List.set_cons_zero, List.set_cons_succ]
          refine tkH (i := 1) (oi := ⟨some 65, _, _, _, _, _⟩) (v := ?_) ?_ ?_
          rotate_left
          · intro w hSw; go_simp; try with_reducible rfl
          try simp only [Act.put, List.setIfInBounds_toArray, List.set_cons_zero, List.set_cons_succ]
          refine tkH (i := 2) (oi := ⟨some 66, _, _, _, _, _⟩) (v := ?_) ?_ ?_
          rotate_left
          · intro w hSw; go_simp; try with_reducible rfl
          try simp only [Act.put, List.setIfInBounds_toArray, List.set_cons_zero, List.set_cons_succ]
          refine tkH (i := 3) (oi := ⟨some 67, _, _, _, _, _⟩) (v := ?_) ?_ ?_
          rotate_left
          · intro w hSw
            obtain ⟨⟨y0, y1, _, _⟩, p0, p1, p2, p3, p4⟩ := hSw
            go_simp
            try with_reducible rfl
          try simp only [Act.put, List.setIfInBounds_toArray, List.set_cons_zero, List.set_cons_succ]
          refine tkH (i := 4) (oi := ⟨some 68, _, _, _, _, _⟩) (v := ?_) ?_ ?_
          rotate_left
          · intro w hSw; go_simp; try with_reducible rfl
          try simp only [Act.put, List.setIfInBounds_toArray, List.set_cons_zero, List.set_cons_succ]
          refine tkH (i := 5) (oi := ⟨some 69, _, _, _, _, _⟩) (v := ?_) ?_ ?_
          rotate_left
          · intro w hSw; go_simp; try with_reducible rfl
          try simp only [Act.put, List.setIfInBounds_toArray, List.set_cons_zero, List.set_cons_succ]
          refine wpAnyH_ready (rs := [6]) (by kernel_rfl) (by simp) ?_
          refine AllReadyH.cons (o := ⟨none, _, _, _, _, _⟩) rfl (fun K hK => ?_) AllReadyH.nil
          go_simp
          refine hK.out _ _ (HS1.out _ _) (fun hHeld => ?_)
          clear hK K
          try simp only [Act.put, List.setIfInBounds_toArray, List.set_cons_zero, List.set_cons_succ]
          refine tkH (i := 7) (oi := ⟨some 5, _, _, _, _, _⟩) (v := ?_) ?_ ?_
          rotate_left
          · intro w hSw; go_simp; try with_reducible rfl
          try simp only [Act.put, List.setIfInBounds_toArray, List.set_cons_zero, List.set_cons_succ]
          refine wpAnyH_done (by kernel_rfl) ?_ _
          go_wp2
          exact bodyPost_ret (v := .tuple #[vlV (.mk 0 X) Q n q, .slice (some ⟨gq, oq + (1 + k), none⟩) (nq - (1 + k)) (qq - (1 + k))]) (by simp [results, Tryz.results43, go_sem, r0, r1, Vl.i]) rfl ⟨Q, n, q, _, _, _, rfl, HRD.out _ _, ((HIQ.out _ (fun _ => rfl)).same (HIW.out _ _)), HFB.out _ _⟩

def BuildAt (d : Nat) : Prop := ∀ (bd : Nat) (S : Nat → Prop) (T : Ty) (A : Option Addr) (n c : Nat) (Q : Option Addr) (nq qq : Nat) (L : List Int) (w : World),
  TyRd S w d T A n c → TyOk d T → bd ≤ w.heap.size → IntRd bd w Q nq qq L → twidth d T ≤ L.length → Calls Tryz.prog 43 #[tyV T A n c, .slice Q nq qq] w (GivesRead bd d (vval d T L) (L.drop (twidth d T)) w)

set_option maxHeartbeats 16000000 in
theorem build_tuple (d : Nat) (IH : BuildAt d) (bd : Nat) (S : Nat → Prop) (T : Ty) (A : Option Addr) (n0 c : Nat) (Q0 : Option Addr) (nq qq : Nat) (L : List Int) (w : World) (h : TyRd S w (d + 1) T A n0 c) (hok : TyOk (d + 1) T) (hbd : bd ≤ w.heap.size) (hr : IntRd bd w Q0 nq qq L) (hlen : twidth (d + 1) T ≤ L.length) (k5 : T.k = 5) :
    Calls Tryz.prog 43 #[tyV T A n0 c, .slice Q0 nq qq] w (GivesRead bd (d + 1) (vval (d + 1) T L) (L.drop (twidth (d + 1) T)) w) := by
  obtain ⟨i0, hi, hy0, hy1, hy2⟩ := info_parts info_value
  have b5 : (T.k == 5) = true := by simpa using k5
  obtain ⟨hl, hcap, htop⟩ := h.len
  unfold maxLen at htop
  obtain ⟨hz, hn2, hn4, hels⟩ := hok.tuple k5
  rw [hl] at hn4
  have hW : twidth (d + 1) T = (T.es.map (twidth d)).sum := by simp only [twidth, if_pos k5]
  obtain ⟨X, hX⟩ : ∃ X, vvals (vval d) (twidth d) T.es L = X := ⟨_, rfl⟩
  obtain ⟨Ws, hWs⟩ : ∃ Ws, T.es.map (twidth d) = Ws := ⟨_, rfl⟩
  have HVV2 : Hid (vval (d + 1) T L = .mk 0 X) := by show _ = _; simp only [vval, if_pos k5]; rw [hX]
  rw [hW] at hlen ⊢
  have HIE : Hid (∀ i e, T.es[i]? = some e → (X.take (i + 1) = X.take i ++ [vval d e (L.drop (Ws.take i).sum)] ∧ (Ws.take (i + 1)).sum = (Ws.take i).sum + twidth d e ∧ twidth d e ≤ (L.drop (Ws.take i).sum).length) ∧ TyOk d e) := by
    intro i e he
    have h1 : Ws[i]? = some (twidth d e) := by rw [← hWs, List.getElem?_map, he]; rfl
    have h2 := sum_next h1
    have h3 := sum_take_le Ws (i + 1)
    rw [hWs] at hlen
    refine ⟨⟨?_, h2, by rw [List.length_drop]; omega⟩, (hels e (List.mem_of_getElem? he)).1⟩
    rw [← hX, ← hWs]; exact vvals_take _ _ he
  have HXL : Hid (X.length = n0 ∧ Ws.length = n0) := ⟨by rw [← hX, vvals_length]; exact hl, by rw [← hWs, List.length_map]; exact hl⟩
  obtain ⟨v, hv⟩ : ∃ v, ((w.alloc (.cells #[.int .i64 T.k, .int .i64 T.lo, .int .i64 T.hi, .int .i64 T.mx, .slice A n0 c] 24)).alloc (.cells #[.int .i64 0, .slice none 0 0] 27)).alloc (.cells #[.int .i64 0, .slice none 0 0] 27) = v := ⟨_, rfl⟩
  obtain ⟨hvs, hwv, hb0, hb1, hb2⟩ := boxes_tvv w _ _ _ _ _ _ _ _ _ _ _ v hv
  obtain ⟨p, hp⟩ : ∃ p, w.heap.size + 2 = p := ⟨_, rfl⟩
  rw [hp] at hb2
  have HVV := Lib.hid hv
  have HWV := Lib.hid hwv
  have HP := Lib.hid hp
  have HTB : Hid (∀ W, Below p v W → Box5 W w.heap.size (.int .i64 T.k) (.int .i64 T.lo) (.int .i64 T.hi) (.int .i64 T.mx) (.slice A n0 c)) := fun W hW => Box5.keep hb0 (hW.block _ (by omega))
  have HRB : Hid (∀ W, Below p v W → Box2 W (w.heap.size + 1) (.int .i64 0) (.slice none 0 0)) := fun W hW => hb1.keep (hW.block _ (by omega))
  have INV0 : Hid (WInv p d v v (.slice none 0 0) none 0 0 []) := ⟨hb2, VlOwn.nil _ _ _, Below.refl _ _, by omega⟩
  have HWP : Hid (∀ W, Below p v W → Below w.heap.size w W) := fun W hW => hwv.trans (hW.mono (by omega))
  have HR0 : Hid (IntRd bd v Q0 nq qq L) := hr.below hwv hbd
  have H : Hid (∀ W, Below p v W → TyRd S W (d + 1) T A n0 c) := fun W hW => h.below (hwv.trans (hW.mono (by omega)))
  have HI := Lib.hid IH
  have HPB : Hid (bd ≤ p ∧ v.heap.size = p + 1) := ⟨by omega, by omega⟩
  rw [HVV2.out, hWs]
  clear h hok k5 hz hn2 hels hW hX hWs hlen hwv hb0 hb1 hb2 hv hvs hp hr hl IH
  obtain ⟨p0, p1, p2, p3, p4⟩ := HTB.out v (Below.refl _ _)
  go_enter Tryz.func43, Tryz.ntmps43
  go_wp2_with fail
  rw [HVV.out, HP.out]
  go_wp2
  clear p0 p1 p2 p3 p4
  go_loopw [1, 7] (fun cv iv wr => ∃ (n : Nat) (Q : Option Addr) (q : Nat) (l : List VlAt) (Qc : Option Addr) (nc kc : Nat), n ≤ n0 ∧ iv = .int .i64 n ∧ cv = .slice Qc nc kc ∧ Hid (WInv p d v wr (.slice Q n q) Q n q l ∧ IntRd bd wr Qc nc kc (L.drop (Ws.take n).sum) ∧ l.map VlAt.V = X.take n)) (fun _ iv _ => n0 - (intOf iv).toNat)
  case atStart => exact ⟨0, none, 0, [], _, _, _, Nat.zero_le _, rfl, rfl, INV0.out, (by simpa using HR0.out), by simp⟩
  case round =>
    obtain ⟨n, Q, q, l, Qc, nc, kc, hn, rfl, rfl, REL⟩ := hrel
    obtain ⟨p0, p1, p2, p3, p4⟩ := HTB.out wr REL.out.1.bel
    by_cases hlt : n < n0
    · obtain ⟨e, ge, oe, Ae, ne, ce, he, rfl, _, hge, hce, hre⟩ := (H.out wr REL.out.1.bel).get hlt
      obtain ⟨⟨hxi, hsn, hle⟩, hoe⟩ := HIE.out n e he
      have hpw := REL.out.1.size
      have hbp := HPB.out.1
      have hb1 := allocB wr (.cells #[.int .i64 0, .slice none 0 0] 27)
      have HF := Lib.hid (HI.out bd S e Ae ne ce Qc nc kc _ _ (hre.below hb1) hoe (by rw [World.size_alloc]; omega) (REL.out.2.1.below hb1 (by omega)) hle)
      have HB1 := Lib.hid hb1
      have HBX1 : Hid (Box2 (wr.alloc (.cells #[.int .i64 0, .slice none 0 0] 27)) wr.heap.size (.int .i64 0) (.slice none 0 0)) := box2_new _ _ _ _
      have HXI := Lib.hid hxi
      have HSN := Lib.hid hsn
      obtain ⟨c0, c1, c2, c3, c4⟩ := hce.keep (hb1.block ge hge)
      obtain ⟨p0, p1, p2, p3, p4⟩ := HTB.out _ (REL.out.1.bel.trans (hb1.mono (by omega)))
      clear he hre hce hb1 hxi hsn hle hoe hge
      go_wp2_with fail
      refine HF.out.mono ?_
      rintro e1 w1 ⟨B1, m1, q1, Q1, n1, k1, rfl, hV, hR, hb⟩
      generalize vval d e (L.drop (Ws.take n).sum) = V1 at *
      have hk1 : Below wr.heap.size wr w1 := nextB HB1.out hb
      obtain ⟨y0, y1, yf0, yf1⟩ := HBX1.out.below hb (by simp)
      have hkW : Below wr.heap.size wr ((w1.setCell ⟨wr.heap.size, 0, none⟩ (.int .i64 V1.i)).setCell ⟨wr.heap.size, 1, none⟩ (.slice B1 m1 q1)) := (hk1.setCell (p := ⟨wr.heap.size, 0, none⟩) (Nat.le_refl _) _).setCell (p := ⟨wr.heap.size, 1, none⟩) (Nat.le_refl _) _
      have hVW : VlRd (fun b => wr.heap.size ≤ b) ((w1.setCell ⟨wr.heap.size, 0, none⟩ (.int .i64 V1.i)).setCell ⟨wr.heap.size, 1, none⟩ (.slice B1 m1 q1)) d V1 B1 m1 q1 :=
        ((hV.set (fun b hb => by rw [World.size_alloc] at hb; omega)).set (fun b hb => by rw [World.size_alloc] at hb; omega)).in fun b hb => by rw [World.size_alloc] at hb; omega
      have hRW : IntRd bd wr Q1 n1 k1 ((L.drop (Ws.take n).sum).drop (twidth d e)) := hR.same fun k' hk' => (hk1.block k' (by omega)).symm
      have hRN : Hid (IntRd bd wr Q1 n1 k1 (L.drop (Ws.take (n + 1)).sum)) := by
        show IntRd _ _ _ _ _ _
        rw [HSN.out, ← List.drop_drop]; exact hRW
      have hbW := REL.out.1.box.below hkW (by omega)
      obtain ⟨z0, z1, _, _⟩ := ((HBX1.out.below hb (by simp)).set0 (.int .i64 V1.i)).set1 (.slice B1 m1 q1)
      obtain ⟨b0, bx1, _, _⟩ := hbW
      obtain ⟨hOWx, hNW, _⟩ := REL.out.1.tail (x := ⟨V1, B1, m1, q1⟩) hVW hkW
      have hsW : ((w1.setCell ⟨wr.heap.size, 0, none⟩ (.int .i64 V1.i)).setCell ⟨wr.heap.size, 1, none⟩ (.slice B1 m1 q1)).heap.size = w1.heap.size := by simp [World.setCell]
      rw [hsW] at hNW
      have HOWx := Lib.hid hOWx
      have HNW := Lib.hid hNW
      have HVW := Lib.hid hVW
      have HKW := Lib.hid hkW
      have hsz : p + 1 ≤ w1.heap.size := by have := hk1.size; omega
      clear hsW
      clear c0 c1 c2 c3 c4 p0 p1 p2 p3 p4 hOWx hNW hVW hkW hk1 hb hV hR HF hRW
      go_wp2_with (at_builtin; refine wpList_append_lies _ rfl _ _ 25 rfl (p + 1) 27 i0 (.agg #[.int .i64 0, .slice none 0 0]) 2 32 Tryz.underlying25 hi hy0 hy1 hy2 rfl (by decide) (.slice Q n q) n (vlRow l) rfl HOWx.out.row ⟨w1.heap.size, 0, none⟩ 1 1 (VlAt.mk V1 B1 m1 q1).cells rfl rfl HNW.out (VlAt.oneCell _) (by decide) ?r1 ?r2 ?r3 _ rfl ?_)
      case r1 => unfold maxLen; omega
      case r2 => omega
      case r3 => simp; omega
      intro g3 c3 w3 hown hgrow hat hlt3
      have hKE := REL.out.1.added (x := ⟨V1, B1, m1, q1⟩) HVW.out HKW.out hown hgrow (by rw [show ((w1.setCell ⟨wr.heap.size, 0, none⟩ (.int .i64 V1.i)).setCell ⟨wr.heap.size, 1, none⟩ (.slice B1 m1 q1)).heap.size = w1.heap.size by simp [World.setCell]]; exact hat)
      have HEND : Hid (WInv p d v (w3.setCell ⟨p, 1, none⟩ (.slice (some ⟨g3, 0, none⟩) (n + 1) c3)) (.slice (some ⟨g3, 0, none⟩) (n + 1) c3) (some ⟨g3, 0, none⟩) (n + 1) c3 (l ++ [(⟨V1, B1, m1, q1⟩ : VlAt)]) ∧ IntRd bd (w3.setCell ⟨p, 1, none⟩ (.slice (some ⟨g3, 0, none⟩) (n + 1) c3)) Q1 n1 k1 (L.drop (Ws.take (n + 1)).sum) ∧ (l ++ [(⟨V1, B1, m1, q1⟩ : VlAt)]).map VlAt.V = X.take (n + 1)) := by
        refine ⟨hKE.stored _, hRN.out.same fun k' hk' => ?_, by rw [List.map_append, REL.out.2.2, HXI.out]; rfl⟩
        rw [Below.heap_setCell _ _ _ _ (by show k' ≠ p; omega), hKE.bel.block k' (by omega), REL.out.1.bel.block k' (by omega)]
      obtain ⟨x0, x1, f0, f1⟩ := hKE.box
      clear hown hgrow hat HOWx HNW HVW HKW hKE z0 z1 b0 bx1 y0 y1 yf0 yf1
      go_wp2
      go_roundw
      case rel => exact ⟨n + 1, _, _, _, _, _, _, by omega, by go_num, rfl, HEND⟩
      case measure => simp [intOf] <;> omega
    · obtain rfl : n = n0 := by omega
      obtain ⟨r0, r1, f0, f1⟩ := HRB.out wr REL.out.1.bel
      obtain ⟨x0, x1, _, _⟩ := REL.out.1.box
      have hfull : X.take n = X := by rw [List.take_of_length_le (by rw [HXL.out.1]; exact Nat.le_refl _)]
      have hfull2 : Ws.take n = Ws := by rw [List.take_of_length_le (by rw [HXL.out.2]; exact Nat.le_refl _)]
      have hrd := REL.out.1.own.rd (.mk 0 X) (by show X = _; rw [REL.out.2.2, hfull])
      have HSET : Hid (∀ y0 y1, VlRd (fun b => w.heap.size ≤ b) ((wr.setCell ⟨w.heap.size + 1, 0, none⟩ y0).setCell ⟨w.heap.size + 1, 1, none⟩ y1) (d + 1) (.mk 0 X) Q n q) := fun y0 y1 => ((hrd.set (fun x hx => by have := HP.out; omega)).set (fun x hx => by have := HP.out; omega)).in fun b hb => by have := HP.out; omega
      have HFB : Hid (∀ y0 y1, Below w.heap.size w ((wr.setCell ⟨w.heap.size + 1, 0, none⟩ y0).setCell ⟨w.heap.size + 1, 1, none⟩ y1)) := fun y0 y1 => ((HWP.out wr REL.out.1.bel).setCell (p := ⟨w.heap.size + 1, 0, none⟩) (by simp) y0).setCell (p := ⟨w.heap.size + 1, 1, none⟩) (by simp) y1
      have HIQ : Hid (∀ y0 y1, IntRd bd ((wr.setCell ⟨w.heap.size + 1, 0, none⟩ y0).setCell ⟨w.heap.size + 1, 1, none⟩ y1) Qc nc kc (L.drop Ws.sum)) := by
        intro y0 y1
        have h1 := REL.out.2.1
        rw [hfull2] at h1
        exact h1.same fun k' hk' => (Below.heap_setCell _ _ _ _ (by show k' ≠ w.heap.size + 1; omega)).trans (Below.heap_setCell _ _ _ _ (by show k' ≠ w.heap.size + 1; omega))
      clear hrd hfull hfull2
      go_wp2
      exact bodyPost_ret (v := .tuple #[vlV (.mk 0 X) Q n q, .slice Qc nc kc]) (by simp [results, Tryz.results43, go_sem, r0, r1, Vl.i]) rfl ⟨Q, n, q, _, _, _, rfl, HSET.out _ _, HIQ.out _ _, HFB.out _ _⟩
theorem build_x : ∀ d, BuildAt d
  | 0, _, _, _, _, _, _, _, _, _, _, _, h, _, _, _, _ => h.elim
  | d + 1, bd, S, T, A, n, c, Q, nq, qq, L, w, h, hok, hbd, hr, hlen => by
    by_cases k5 : T.k = 5
    · exact build_tuple d (build_x d) bd S T A n c Q nq qq L w h hok hbd hr hlen k5
    · by_cases k6 : T.k = 6
      · exact build_list d bd S T A n c Q nq qq L w h hok hbd hr hlen k6
      · exact build_leaf d bd T A n c Q nq qq L w hbd hr hlen k5 k6
end Go.Proofs.YtklndjkblfncjaaGreatDoor
