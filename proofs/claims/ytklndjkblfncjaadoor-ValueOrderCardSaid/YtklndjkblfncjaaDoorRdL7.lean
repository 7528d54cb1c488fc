/-
  value.read: the list case.
-/
import Derived.Test.YtklndjkblfncjaaDoorRdE7
namespace Go.Proofs.YtklndjkblfncjaaDoor
open Go Go.RowKit
set_option maxRecDepth 20000

theorem sum_replicate (k m : Nat) : (List.replicate k m).sum = k * m := by
  induction k with
  | zero => simp
  | succ k ih => rw [List.replicate_succ, List.sum_cons, ih, Nat.succ_mul]; omega

set_option maxHeartbeats 16000000 in
theorem readList_x (d : Nat) (IH : ReadAt d) (bd : Nat) (S : Nat → Prop) (T : Ty) (A : Option Addr) (n c : Nat) (Q : Option Addr) (nq qq : Nat) (L : List Int) (w : World) (h : TyRd S w (d + 1) T A n c) (hok : TyOk (d + 1) T) (hbd : bd ≤ w.heap.size) (hr : IntRd bd w Q nq qq L) (hlen : twidth (d + 1) T ≤ L.length) (k6 : T.k = 6) :
    Calls Tryd.prog 28 #[tyV T A n c, .slice Q nq qq] w (GivesRead bd (d + 1) (vval (d + 1) T L) (L.drop (twidth (d + 1) T)) w) := by
  obtain ⟨hlohi, hm1, hm4, e, he, hoe, hek⟩ := hok.list k6
  clear hlohi hek
  have k5 : ¬ T.k = 5 := by omega
  have b5 : (T.k == 5) = false := by simpa using k5
  have b6 : (T.k == 6) = true := by simpa using k6
  obtain ⟨tw, htw⟩ : ∃ tw, twidth d e = tw := ⟨_, rfl⟩
  have hW : twidth (d + 1) T = 1 + T.mx.toNat * tw := by simp only [twidth, if_neg k5, if_pos k6, he, List.map_cons, List.headD_cons, htw]
  have hVv : vval (d + 1) T L = .mk 0 (vvals (vval d) (twidth d) (List.replicate (min (max 0 (L.headD 0)) T.mx).toNat e) (L.drop 1)) := by simp only [vval, if_neg k5, if_pos k6, he, List.headD_cons]
  rw [hW] at hlen ⊢
  rw [hVv]
  obtain ⟨hl, hcap, htop⟩ := h.len
  unfold maxLen at htop
  have hE0 : TyRd S w (d + 1) (.mk 0 0 0 0 T.es) A n c := h
  rw [he] at hE0 hl
  have hn1 : n = 1 := hl.symm
  have HRE0 : ∀ (k : Nat), k ≤ 4 → ∀ (S : Nat → Prop) (A : Option Addr) (c : Nat) (Q : Option Addr) (nq qq : Nat) (L : List Int) (w : World), TyRd S w (d + 1) (.mk 0 0 0 0 (List.replicate k e)) A k c → bd ≤ w.heap.size → IntRd bd w Q nq qq L → k * tw ≤ L.length →
      Calls Tryd.prog 42 #[.slice A k c, .slice Q nq qq] w (GivesRead bd (d + 1) (.mk 0 (vvals (vval d) (twidth d) (List.replicate k e) L)) (L.drop (k * tw)) w) := fun k hk S A c Q nq qq L w h hb hr hle => by
    have hs : ((List.replicate k e).map (twidth d)).sum = k * tw := by rw [List.map_replicate, htw, sum_replicate]
    have := readEls_x d IH bd S (List.replicate k e) A k c Q nq qq L w h (fun x hx => by rw [List.eq_of_mem_replicate hx]; exact hoe) (by omega) hb hr (by rw [hs]; exact hle)
    rw [hs] at this; exact this
  subst hn1
  obtain ⟨mx, hmx⟩ : ∃ mx : Nat, T.mx = mx := ⟨T.mx.toNat, by omega⟩
  have hrl := hr.len
  have hrc := hr.cap
  have hrt := hr.top
  obtain ⟨v, hvv⟩ : ∃ v, (w.alloc (.cells #[.int .i64 T.k, .int .i64 T.lo, .int .i64 T.hi, .int .i64 T.mx, .slice A 1 c] 27)).alloc (.cells #[.int .i64 0, .slice none 0 0] 31) = v := ⟨_, rfl⟩
  obtain ⟨hvs, hwv, hbx⟩ := boxes_tv w _ _ _ _ _ _ _ _ _ v hvv
  rw [hmx] at hbx hlen hm1 hm4 ⊢
  rw [Int.toNat_natCast] at hlen ⊢
  have hmx4 : mx ≤ 4 := by omega
  have hRV := hr.below hwv hbd
  cases L with
  | nil => simp at hlen
  | cons x L =>
  obtain ⟨nq', rfl⟩ : ∃ k, nq = k + 1 := ⟨nq - 1, by simp at hrl; omega⟩
  obtain ⟨gq, oq, rfl, hgq, hat⟩ := hRV.at_ (by omega)
  have hx0 := hat 0 x rfl
  have hTL := hRV.tail
  have hgw : gq < w.heap.size := by omega
  have hcv : v.drew.cell? ⟨gq, oq, none⟩ = some (.int .i64 x) := hx0
  obtain ⟨m0, hm0⟩ : ∃ m0 : Int, max 0 x = m0 := ⟨_, rfl⟩
  obtain ⟨k, hk⟩ : ∃ k : Nat, min m0 (mx : Int) = k := ⟨(min m0 (mx : Int)).toNat, by omega⟩
  have hkm : k ≤ mx := by omega
  have HM0 : Hid ((0 < x → m0 = x) ∧ (¬ 0 < x → m0 = 0)) := ⟨fun h => by omega, fun h => by omega⟩
  have HK0 : Hid (((mx : Int) < m0 → (k : Int) = mx) ∧ (¬ (mx : Int) < m0 → (k : Int) = m0)) := ⟨fun h => by omega, fun h => by omega⟩
  have hmul : k * tw + (mx - k) * tw = mx * tw := by rw [← Nat.add_mul]; congr 1; omega
  have hlenL : mx * tw ≤ L.length := by simp at hlen; omega
  simp only [List.headD_cons, hm0, hk, Int.toNat_natCast, List.drop_succ_cons, List.drop_zero]
  rw [show ((x :: L).drop (1 + mx * tw)) = L.drop (k * tw + (mx - k) * tw) by rw [hmul, Nat.add_comm, List.drop_succ_cons], ← List.drop_drop]
  obtain ⟨X, hX⟩ : ∃ X, vvals (vval d) (twidth d) (List.replicate k e) L = X := ⟨_, rfl⟩
  obtain ⟨L1, hL1⟩ : ∃ L1, L.drop (k * tw) = L1 := ⟨_, rfl⟩
  have hl1 : (mx - k) * tw ≤ L1.length := by rw [← hL1, List.length_drop]; omega
  have HF1 : Hid (∀ (S : Nat → Prop) (A : Option Addr) (c : Nat) (Q : Option Addr) (nq qq : Nat) (w : World), TyRd S w (d + 1) (.mk 0 0 0 0 (List.replicate k e)) A k c → bd ≤ w.heap.size → IntRd bd w Q nq qq L → Calls Tryd.prog 42 #[.slice A k c, .slice Q nq qq] w (GivesRead bd (d + 1) (.mk 0 X) L1 w)) := fun S A c Q nq qq w h hb hr => by
    have := HRE0 k (by omega) S A c Q nq qq L w h hb hr (by omega)
    rw [hX, hL1] at this; exact this
  have HF2 : Hid (∀ (S : Nat → Prop) (A : Option Addr) (c : Nat) (Q : Option Addr) (nq qq : Nat) (w : World), TyRd S w (d + 1) (.mk 0 0 0 0 (List.replicate (mx - k) e)) A (mx - k) c → bd ≤ w.heap.size → IntRd bd w Q nq qq L1 → Calls Tryd.prog 42 #[.slice A (mx - k) c, .slice Q nq qq] w (GivesRead bd (d + 1) (.mk 0 (vvals (vval d) (twidth d) (List.replicate (mx - k) e) L1)) (L1.drop ((mx - k) * tw)) w)) := fun S A c Q nq qq w h hb hr =>
    HRE0 (mx - k) (by omega) S A c Q nq qq L1 w h hb hr hl1
  have HP1 : Hid (∀ W, Below v.heap.size v W → Calls Tryd.prog 34 #[.slice A 1 c, .int .i64 k] W fun e' w' => ∃ B q, e' = .returned (.slice B k q) ∧ TyRd (fun b => S b ∨ W.heap.size ≤ b) w' (d + 1) (.mk 0 0 0 0 (List.replicate k e)) B k q ∧ Below W.heap.size W w') := fun W hW => rep_x k (by omega) S d e A c W ((hE0.below hwv).below hW)
  have HP2 : Hid (∀ W, Below v.heap.size v W → Calls Tryd.prog 34 #[.slice A 1 c, .int .i64 ((mx - k : Nat) : Int)] W fun e' w' => ∃ B q, e' = .returned (.slice B (mx - k) q) ∧ TyRd (fun b => S b ∨ W.heap.size ≤ b) w' (d + 1) (.mk 0 0 0 0 (List.replicate (mx - k) e)) B (mx - k) q ∧ Below W.heap.size W w') := fun W hW => rep_x (mx - k) (by omega) S d e A c W ((hE0.below hwv).below hW)
  have HTL : Hid (∀ W, Below v.heap.size v W → IntRd bd W (tailAt (some ⟨gq, oq, none⟩) qq) nq' (qq - 1) L) := fun W hW => hTL.below hW (by omega)
  have HBX := Lib.hid hbx
  have HVV := Lib.hid hvv
  have HWV := Lib.hid hwv
  have HVS := Lib.hid hvs
  have hbv : bd ≤ v.heap.size := by omega
  obtain ⟨R1, hR1⟩ : ∃ R1, L1.drop ((mx - k) * tw) = R1 := ⟨_, rfl⟩
  rw [hR1] at HF2
  rw [hX, hL1, hR1]
  generalize vvals (vval d) (twidth d) (List.replicate (mx - k) e) L1 = X2 at HF2
  have hsub : (mx : Int) - (k : Int) = ((mx - k : Nat) : Int) := by omega
  have HSB := Lib.hid hsub
  have hqc : nq' + 1 ≤ qq := hrc
  have hk0 : Below v.heap.size v v.drew := (Below.refl _ _).drew
  clear h hok IH HRE0 hE0 hl hr hRV hX hL1 hR1 hl1 hmul hlen hlenL hm0 hk hW hVv he htw hmx hvv hbx hwv hvs hat hTL hx0 k5 k6 hrl hrc hrt hoe hcap htop hm1 hm4 hsub
  go_enter Tryd.func28, Tryd.ntmps28
  go_wp2_with fail
  rw [HVV.out]
  refine wp_region_held_drew (S := fun W => W.cell? ⟨gq, oq, none⟩ = some (.int .i64 x) ∧ Below v.heap.size v W) (by kernel_rfl) ⟨hcv, hk0⟩ (fun hHeld => ?_)
  refine tkH (i := 0) (oi := ⟨some 21, _, _, _, _, _⟩) (v := ?_) ?_ ?_
  rotate_left
  · intro w hSw; go_simp; try with_reducible rfl
  try simp only [Act.put, List.setIfInBounds_toArray, List.set_cons_zero, List.set_cons_succ]
  refine tkH (i := 1) (oi := ⟨some 22, _, _, _, _, _⟩) (v := ?_) ?_ ?_
  rotate_left
  · intro w hSw; go_simp; try with_reducible rfl
  try simp only [Act.put, List.setIfInBounds_toArray, List.set_cons_zero, List.set_cons_succ]
  refine tkH (i := 2) (oi := ⟨some 23, _, _, _, _, _⟩) (v := ?_) ?_ ?_
  rotate_left
  · intro w hSw
    obtain ⟨⟨p0, p1, p2, p3, p4⟩, _⟩ := HBX.out w hSw.2
    obtain hq0 := hSw.1
    go_simp
    try with_reducible rfl
  try simp only [Act.put, List.setIfInBounds_toArray, List.set_cons_zero, List.set_cons_succ]
  refine tkH (i := 3) (oi := ⟨some 24, _, _, _, _, _⟩) (v := .int .i64 m0) ?_ ?_
  · intro w hSw
    by_cases hx : 0 < x
    · rw [HM0.out.1 (by omega)]; have hxd : decide (0 < x) = true := by simpa using hx
      go_simp
    · rw [HM0.out.2 (by omega)]; have hxd : decide (0 < x) = false := by simpa using Int.not_lt.mp hx
      go_simp
  try simp only [Act.put, List.setIfInBounds_toArray, List.set_cons_zero, List.set_cons_succ]
  refine tkH (i := 4) (oi := ⟨some 25, _, _, _, _, _⟩) (v := ?_) ?_ ?_
  rotate_left
  · intro w hSw; go_simp; try with_reducible rfl
  try simp only [Act.put, List.setIfInBounds_toArray, List.set_cons_zero, List.set_cons_succ]
  refine tkH (i := 5) (oi := ⟨some 26, _, _, _, _, _⟩) (v := ?_) ?_ ?_
  rotate_left
  · intro w hSw
    obtain ⟨⟨p0, p1, p2, p3, p4⟩, _⟩ := HBX.out w hSw.2
    obtain hq0 := hSw.1
    go_simp
    try with_reducible rfl
  try simp only [Act.put, List.setIfInBounds_toArray, List.set_cons_zero, List.set_cons_succ]
  refine tkH (i := 6) (oi := ⟨some 27, _, _, _, _, _⟩) (v := .int .i64 k) ?_ ?_
  · intro w hSw
    by_cases hx : (mx : Int) < m0
    · rw [HK0.out.1 (by omega)]; have hxd : decide ((mx : Int) < m0) = true := by simpa using hx
      go_simp
    · rw [HK0.out.2 (by omega)]; have hxd : decide ((mx : Int) < m0) = false := by simpa using Int.not_lt.mp hx
      go_simp
  try simp only [Act.put, List.setIfInBounds_toArray, List.set_cons_zero, List.set_cons_succ]
  refine tkH (i := 7) (oi := ⟨some 6, _, _, _, _, _⟩) (v := ?_) ?_ ?_
  rotate_left
  · intro w hSw; go_simp; try with_reducible rfl
  try simp only [Act.put, List.setIfInBounds_toArray, List.set_cons_zero, List.set_cons_succ]
  refine wpAnyH_done (by kernel_rfl) ?_ _
  go_wp2_with fail
  go_cut [7, 8] (fun u7 u8 wx => ∃ (b : Nat) (B2 : Option Addr) (m2 q2 : Nat) (Q2 : Option Addr) (n2 k2 : Nat), u7 = .pointer (some ⟨b, 0, none⟩) ∧ u8 = .slice Q2 n2 k2 ∧ Hid (v.heap.size ≤ b ∧ Box2 wx b (.int .i64 0) (.slice B2 m2 q2) ∧ VlRd (fun b => v.heap.size ≤ b) wx (d + 1) (.mk 0 X) B2 m2 q2 ∧ IntRd bd wx Q2 n2 k2 L1 ∧ Below v.heap.size v wx))
  case first =>
    replace hk0 : Below v.heap.size v v.drew.drew := ((Below.refl _ _).drew).drew
    clear hcv HM0 HK0 HF2 HP2 HSB X2
    refine wp_region_held_drew (S := Below v.heap.size v) (by kernel_rfl) hk0 (fun hHeld => ?_)
    obtain ⟨w0, hw0⟩ : ∃ w0, w0 = v.drew.drew := ⟨_, rfl⟩
    rw [← hw0] at hk0 hHeld ⊢
    clear hw0
    refine tkH (i := 0) (oi := ⟨some 29, _, _, _, _, _⟩) (v := ?_) ?_ ?_
    rotate_left
    · intro w hSw; go_simp; try with_reducible rfl
    try simp only [Act.put, List.setIfInBounds_toArray, List.set_cons_zero, List.set_cons_succ]
    refine tkH (i := 1) (oi := ⟨some 30, _, _, _, _, _⟩) (v := ?_) ?_ ?_
    rotate_left
    · intro w hSw
      obtain ⟨⟨p0, p1, p2, p3, p4⟩, _⟩ := HBX.out w hSw
      go_simp
      try with_reducible rfl
    try simp only [Act.put, List.setIfInBounds_toArray, List.set_cons_zero, List.set_cons_succ]
    refine tkH (i := 2) (oi := ⟨some 31, _, _, _, _, _⟩) (v := ?_) ?_ ?_
    rotate_left
    · intro w hSw; go_simp; try with_reducible rfl
    try simp only [Act.put, List.setIfInBounds_toArray, List.set_cons_zero, List.set_cons_succ]
    refine tkH (i := 4) (oi := ⟨some 33, _, _, _, _, _⟩) (v := ?_) ?_ ?_
    rotate_left
    · intro w hSw; go_simp; try with_reducible rfl
    try simp only [Act.put, List.setIfInBounds_toArray, List.set_cons_zero, List.set_cons_succ]
    refine tkH (i := 5) (oi := ⟨some 34, _, _, _, _, _⟩) (v := .slice (tailAt (some ⟨gq, oq, none⟩) qq) nq' (qq - 1 : Nat)) ?_ ?_
    · intro w hSw
      by_cases hq1 : qq = 1
      · subst hq1
        obtain rfl : nq' = 0 := by omega
        go_simp
        try (simp [tailAt])
      · have h1q : (1 : Int) ≤ (nq' : Int) + 1 := by omega
        simp only [tailAt, if_neg hq1]
        go_simp
    try simp only [Act.put, List.setIfInBounds_toArray, List.set_cons_zero, List.set_cons_succ]
    refine wpAnyH_ready (rs := [3, 10]) (by kernel_rfl) (by simp) ?_
    refine AllReadyH.cons (o := ⟨some 32, _, _, _, _, _⟩) rfl (fun K hK => ?_) (AllReadyH.cons (o := ⟨some 7, _, _, _, _, _⟩) rfl (fun K hK => ?_) AllReadyH.nil)
    · go_simp
      go_at_call 34
      (with_reducible refine (HP1.out _ hk0).mono ?_)
      rintro e1 w1 ⟨B1, q1, rfl, hrep, hb1⟩
      have hks := hk0.size
      have hns := hb1.size
      replace hk0 := nextB hk0 hb1
      clear hb1 hks hns
      go_wp2_with fail
      refine hK.out _ _ hk0 (fun hHeld => ?_)
      clear hK K
      try simp only [Act.put, List.setIfInBounds_toArray, List.set_cons_zero, List.set_cons_succ]
      refine wpAnyH_ready (rs := [6, 10]) (by kernel_rfl) (by simp) ?_
      refine AllReadyH.cons (o := ⟨some 35, _, _, _, _, _⟩) rfl (fun K hK => ?_) (AllReadyH.cons (o := ⟨some 7, _, _, _, _, _⟩) rfl (fun K hK => ?_) AllReadyH.nil)
      · go_simp
        go_at_call 42
        (with_reducible refine (HF1.out _ _ _ _ _ _ _ hrep (Nat.le_trans hbv hk0.size) (HTL.out _ hk0)).mono ?_)
        rintro e2 w2 ⟨B2, m2, q2, Q2, n2, k2, rfl, hV2, hR2, hb2⟩
        have hkE0 := hk0.size
        have hns := hb2.size
        replace hk0 := nextB hk0 hb2
        clear hb2 hns hrep
        go_wp2_with fail
        refine hK.out _ _ hk0 (fun hHeld => ?_)
        clear hK K
        try simp only [Act.put, List.setIfInBounds_toArray, List.set_cons_zero, List.set_cons_succ]
        refine tkH (i := 7) (oi := ⟨some 28, _, _, _, _, _⟩) (v := ?_) ?_ ?_
        rotate_left
        · intro w hSw; go_simp; try with_reducible rfl
        try simp only [Act.put, List.setIfInBounds_toArray, List.set_cons_zero, List.set_cons_succ]
        refine tkH (i := 8) (oi := ⟨some 36, _, _, _, _, _⟩) (v := ?_) ?_ ?_
        rotate_left
        · intro w hSw; go_simp; try with_reducible rfl
        try simp only [Act.put, List.setIfInBounds_toArray, List.set_cons_zero, List.set_cons_succ]
        refine tkH (i := 9) (oi := ⟨some 37, _, _, _, _, _⟩) (v := ?_) ?_ ?_
        rotate_left
        · intro w hSw; go_simp; try with_reducible rfl
        try simp only [Act.put, List.setIfInBounds_toArray, List.set_cons_zero, List.set_cons_succ]
        refine wpAnyH_ready (rs := [10]) (by kernel_rfl) (by simp) ?_
        refine AllReadyH.cons (o := ⟨some 7, _, _, _, _, _⟩) rfl (fun K hK => ?_) AllReadyH.nil
        go_simp
        obtain ⟨wn, hwn⟩ : ∃ wn, w2.alloc (.cells #[.int .i64 0, .slice none 0 0] 31) = wn := ⟨_, rfl⟩
        have hbn : Below w2.heap.size w2 wn := hwn ▸ allocB _ _
        have hxb : Box2 wn w2.heap.size (.int .i64 0) (.slice none 0 0) := hwn ▸ box2_new _ _ _ _
        have hsn : wn.heap.size = w2.heap.size + 1 := by rw [← hwn]; simp
        rw [hwn]
        have hks := hk0.size
        obtain ⟨pb, hpe⟩ : ∃ pb, w2.heap.size = pb := ⟨_, rfl⟩
        have HVS : Hid (∀ y0 y1, VlRd (fun b => v.heap.size ≤ b) ((wn.setCell ⟨pb, 0, none⟩ y0).setCell ⟨pb, 1, none⟩ y1) (d + 1) (.mk 0 X) B2 m2 q2) := fun y0 y1 => (hV2.below (((hbn.setCell (p := ⟨pb, 0, none⟩) (by simp [hpe]) y0).setCell (p := ⟨pb, 1, none⟩) (by simp [hpe]) y1))).in fun b hb => by omega
        have HR2 := Lib.hid (hR2.below hbn (by omega))
        clear hV2 hR2
        replace hk0 := nextB hk0 hbn
        rw [hpe] at hxb hsn hks ⊢
        have hpb : pb < wn.heap.size := by omega
        have hpv : v.heap.size ≤ pb := by omega
        clear hwn hbn hsn hks hpe
        refine hK.out _ _ hk0 (fun hHeld => ?_)
        clear hK K
        try simp only [Act.put, List.setIfInBounds_toArray, List.set_cons_zero, List.set_cons_succ]
        refine wpAnyH_ready (rs := [11]) (by kernel_rfl) (by simp) ?_
        refine AllReadyH.cons (o := ⟨none, _, _, _, _, _⟩) rfl (fun K hK => ?_) AllReadyH.nil
        obtain ⟨b0, b1, bf0, bf1⟩ := id hxb
        go_simp
        have hkE := (hk0.setCell (p := ⟨pb, 0, none⟩) hpv (.int .i64 0)).setCell (p := ⟨pb, 1, none⟩) hpv (.slice B2 m2 q2)
        refine hK.out _ _ hkE (fun hHeld => ?_)
        clear hK K b0 b1 bf0 bf1
        try simp only [Act.put, List.setIfInBounds_toArray, List.set_cons_zero, List.set_cons_succ]
        refine tkH (i := 12) (oi := ⟨some 8, _, _, _, _, _⟩) (v := ?_) ?_ ?_
        rotate_left
        · intro w hSw; go_simp; try with_reducible rfl
        try simp only [Act.put, List.setIfInBounds_toArray, List.set_cons_zero, List.set_cons_succ]
        refine wpAnyH_done (by kernel_rfl) ?_ _
        go_wp2_with fail
        go_meet
        exact ⟨pb, B2, m2, q2, Q2, n2, k2, rfl, rfl, ⟨hpv, (hxb.set0 _).set1 _, HVS.out _ _, HR2.out.below (((Below.refl v.heap.size _).setCell (p := ⟨pb, 0, none⟩) hpv _).setCell (p := ⟨pb, 1, none⟩) hpv _) hbv, hkE⟩⟩

      · go_simp
        obtain ⟨wn, hwn⟩ : ∃ wn, w1.alloc (.cells #[.int .i64 0, .slice none 0 0] 31) = wn := ⟨_, rfl⟩
        have hbn : Below w1.heap.size w1 wn := hwn ▸ allocB _ _
        have hxb : Box2 wn w1.heap.size (.int .i64 0) (.slice none 0 0) := hwn ▸ box2_new _ _ _ _
        have hsn : wn.heap.size = w1.heap.size + 1 := by rw [← hwn]; simp
        rw [hwn]
        have hks := hk0.size
        obtain ⟨pb, hpe⟩ : ∃ pb, w1.heap.size = pb := ⟨_, rfl⟩
        replace hrep := hrep.below hbn
        replace hk0 := nextB hk0 hbn
        rw [hpe] at hxb hsn hks ⊢
        have hpb : pb < wn.heap.size := by omega
        have hpv : v.heap.size ≤ pb := by omega
        clear hwn hbn hsn hks hpe
        refine hK.out _ _ hk0 (fun hHeld => ?_)
        clear hK K
        try simp only [Act.put, List.setIfInBounds_toArray, List.set_cons_zero, List.set_cons_succ]
        refine wpAnyH_ready (rs := [6]) (by kernel_rfl) (by simp) ?_
        refine AllReadyH.cons (o := ⟨some 35, _, _, _, _, _⟩) rfl (fun K hK => ?_) AllReadyH.nil
        go_simp
        go_at_call 42
        (with_reducible refine (HF1.out _ _ _ _ _ _ _ hrep (Nat.le_trans hbv hk0.size) (HTL.out _ hk0)).mono ?_)
        rintro e2 w2 ⟨B2, m2, q2, Q2, n2, k2, rfl, hV2, hR2, hb2⟩
        have hkE0 := hk0.size
        have hns := hb2.size
        replace hk0 := nextB hk0 hb2
        replace hxb := hxb.below hb2 (by omega)
        have HVS : Hid (∀ y0 y1, VlRd (fun b => v.heap.size ≤ b) ((w2.setCell ⟨pb, 0, none⟩ y0).setCell ⟨pb, 1, none⟩ y1) (d + 1) (.mk 0 X) B2 m2 q2) := fun y0 y1 => ((hV2.set (fun z hz => by omega)).set (fun z hz => by omega)).in fun b hb => by omega
        replace hpb := Nat.lt_of_lt_of_le hpb hns
        have HR2 := Lib.hid hR2
        clear hV2 hR2
        clear hb2 hns hrep
        go_wp2_with fail
        refine hK.out _ _ hk0 (fun hHeld => ?_)
        clear hK K
        try simp only [Act.put, List.setIfInBounds_toArray, List.set_cons_zero, List.set_cons_succ]
        refine tkH (i := 7) (oi := ⟨some 28, _, _, _, _, _⟩) (v := ?_) ?_ ?_
        rotate_left
        · intro w hSw; go_simp; try with_reducible rfl
        try simp only [Act.put, List.setIfInBounds_toArray, List.set_cons_zero, List.set_cons_succ]
        refine tkH (i := 8) (oi := ⟨some 36, _, _, _, _, _⟩) (v := ?_) ?_ ?_
        rotate_left
        · intro w hSw; go_simp; try with_reducible rfl
        try simp only [Act.put, List.setIfInBounds_toArray, List.set_cons_zero, List.set_cons_succ]
        refine tkH (i := 9) (oi := ⟨some 37, _, _, _, _, _⟩) (v := ?_) ?_ ?_
        rotate_left
        · intro w hSw; go_simp; try with_reducible rfl
        try simp only [Act.put, List.setIfInBounds_toArray, List.set_cons_zero, List.set_cons_succ]
        refine wpAnyH_ready (rs := [11]) (by kernel_rfl) (by simp) ?_
        refine AllReadyH.cons (o := ⟨none, _, _, _, _, _⟩) rfl (fun K hK => ?_) AllReadyH.nil
        obtain ⟨b0, b1, bf0, bf1⟩ := id hxb
        go_simp
        have hkE := (hk0.setCell (p := ⟨pb, 0, none⟩) hpv (.int .i64 0)).setCell (p := ⟨pb, 1, none⟩) hpv (.slice B2 m2 q2)
        refine hK.out _ _ hkE (fun hHeld => ?_)
        clear hK K b0 b1 bf0 bf1
        try simp only [Act.put, List.setIfInBounds_toArray, List.set_cons_zero, List.set_cons_succ]
        refine tkH (i := 12) (oi := ⟨some 8, _, _, _, _, _⟩) (v := ?_) ?_ ?_
        rotate_left
        · intro w hSw; go_simp; try with_reducible rfl
        try simp only [Act.put, List.setIfInBounds_toArray, List.set_cons_zero, List.set_cons_succ]
        refine wpAnyH_done (by kernel_rfl) ?_ _
        go_wp2_with fail
        go_meet
        exact ⟨pb, B2, m2, q2, Q2, n2, k2, rfl, rfl, ⟨hpv, (hxb.set0 _).set1 _, HVS.out _ _, HR2.out.below (((Below.refl v.heap.size _).setCell (p := ⟨pb, 0, none⟩) hpv _).setCell (p := ⟨pb, 1, none⟩) hpv _) hbv, hkE⟩⟩

    · go_simp
      obtain ⟨wn, hwn⟩ : ∃ wn, w0.alloc (.cells #[.int .i64 0, .slice none 0 0] 31) = wn := ⟨_, rfl⟩
      have hbn : Below w0.heap.size w0 wn := hwn ▸ allocB _ _
      have hxb : Box2 wn w0.heap.size (.int .i64 0) (.slice none 0 0) := hwn ▸ box2_new _ _ _ _
      have hsn : wn.heap.size = w0.heap.size + 1 := by rw [← hwn]; simp
      rw [hwn]
      have hks := hk0.size
      obtain ⟨pb, hpe⟩ : ∃ pb, w0.heap.size = pb := ⟨_, rfl⟩
      replace hk0 := nextB hk0 hbn
      rw [hpe] at hxb hsn hks ⊢
      have hpb : pb < wn.heap.size := by omega
      have hpv : v.heap.size ≤ pb := by omega
      clear hwn hbn hsn hks hpe
      refine hK.out _ _ hk0 (fun hHeld => ?_)
      clear hK K
      try simp only [Act.put, List.setIfInBounds_toArray, List.set_cons_zero, List.set_cons_succ]
      refine wpAnyH_ready (rs := [3]) (by kernel_rfl) (by simp) ?_
      refine AllReadyH.cons (o := ⟨some 32, _, _, _, _, _⟩) rfl (fun K hK => ?_) AllReadyH.nil
      go_simp
      go_at_call 34
      (with_reducible refine (HP1.out _ hk0).mono ?_)
      rintro e1 w1 ⟨B1, q1, rfl, hrep, hb1⟩
      have hks := hk0.size
      have hns := hb1.size
      replace hk0 := nextB hk0 hb1
      replace hxb := hxb.below hb1 (by omega)
      replace hpb := Nat.lt_of_lt_of_le hpb hns
      clear hb1 hks hns
      go_wp2_with fail
      refine hK.out _ _ hk0 (fun hHeld => ?_)
      clear hK K
      try simp only [Act.put, List.setIfInBounds_toArray, List.set_cons_zero, List.set_cons_succ]
      refine wpAnyH_ready (rs := [6]) (by kernel_rfl) (by simp) ?_
      refine AllReadyH.cons (o := ⟨some 35, _, _, _, _, _⟩) rfl (fun K hK => ?_) AllReadyH.nil
      go_simp
      go_at_call 42
      (with_reducible refine (HF1.out _ _ _ _ _ _ _ hrep (Nat.le_trans hbv hk0.size) (HTL.out _ hk0)).mono ?_)
      rintro e2 w2 ⟨B2, m2, q2, Q2, n2, k2, rfl, hV2, hR2, hb2⟩
      have hkE0 := hk0.size
      have hns := hb2.size
      replace hk0 := nextB hk0 hb2
      replace hxb := hxb.below hb2 (by omega)
      have HVS : Hid (∀ y0 y1, VlRd (fun b => v.heap.size ≤ b) ((w2.setCell ⟨pb, 0, none⟩ y0).setCell ⟨pb, 1, none⟩ y1) (d + 1) (.mk 0 X) B2 m2 q2) := fun y0 y1 => ((hV2.set (fun z hz => by omega)).set (fun z hz => by omega)).in fun b hb => by omega
      replace hpb := Nat.lt_of_lt_of_le hpb hns
      have HR2 := Lib.hid hR2
      clear hV2 hR2
      clear hb2 hns hrep
      go_wp2_with fail
      refine hK.out _ _ hk0 (fun hHeld => ?_)
      clear hK K
      try simp only [Act.put, List.setIfInBounds_toArray, List.set_cons_zero, List.set_cons_succ]
      refine tkH (i := 7) (oi := ⟨some 28, _, _, _, _, _⟩) (v := ?_) ?_ ?_
      rotate_left
      · intro w hSw; go_simp; try with_reducible rfl
      try simp only [Act.put, List.setIfInBounds_toArray, List.set_cons_zero, List.set_cons_succ]
      refine tkH (i := 8) (oi := ⟨some 36, _, _, _, _, _⟩) (v := ?_) ?_ ?_
      rotate_left
      · intro w hSw; go_simp; try with_reducible rfl
      try simp only [Act.put, List.setIfInBounds_toArray, List.set_cons_zero, List.set_cons_succ]
      refine tkH (i := 9) (oi := ⟨some 37, _, _, _, _, _⟩) (v := ?_) ?_ ?_
      rotate_left
      · intro w hSw; go_simp; try with_reducible rfl
      try simp only [Act.put, List.setIfInBounds_toArray, List.set_cons_zero, List.set_cons_succ]
      refine wpAnyH_ready (rs := [11]) (by kernel_rfl) (by simp) ?_
      refine AllReadyH.cons (o := ⟨none, _, _, _, _, _⟩) rfl (fun K hK => ?_) AllReadyH.nil
      obtain ⟨b0, b1, bf0, bf1⟩ := id hxb
      go_simp
      have hkE := (hk0.setCell (p := ⟨pb, 0, none⟩) hpv (.int .i64 0)).setCell (p := ⟨pb, 1, none⟩) hpv (.slice B2 m2 q2)
      refine hK.out _ _ hkE (fun hHeld => ?_)
      clear hK K b0 b1 bf0 bf1
      try simp only [Act.put, List.setIfInBounds_toArray, List.set_cons_zero, List.set_cons_succ]
      refine tkH (i := 12) (oi := ⟨some 8, _, _, _, _, _⟩) (v := ?_) ?_ ?_
      rotate_left
      · intro w hSw; go_simp; try with_reducible rfl
      try simp only [Act.put, List.setIfInBounds_toArray, List.set_cons_zero, List.set_cons_succ]
      refine wpAnyH_done (by kernel_rfl) ?_ _
      go_wp2_with fail
      go_meet
      exact ⟨pb, B2, m2, q2, Q2, n2, k2, rfl, rfl, ⟨hpv, (hxb.set0 _).set1 _, HVS.out _ _, HR2.out.below (((Below.refl v.heap.size _).setCell (p := ⟨pb, 0, none⟩) hpv _).setCell (p := ⟨pb, 1, none⟩) hpv _) hbv, hkE⟩⟩

  case rest =>
    obtain ⟨b, B2, m2, q2, Q2, n2, k2, rfl, rfl, hcutH⟩ := hcut
    obtain ⟨hvb, hbox, hV, hR, hk1⟩ := hcutH.out
    clear hcutH
    obtain ⟨⟨p0, p1, p2, p3, p4⟩, _⟩ := HBX.out wc hk1
    have hbl : b < wc.heap.size := World.block_lt_of_cell? wc _ hbox.1
    have HV := Lib.hid hV
    have HR := Lib.hid hR
    have HBOX := Lib.hid hbox
    clear hV hR hbox
    go_wp2_with fail
    rw [HSB.out]
    refine (HP2.out _ hk1).mono ?_
    rintro e3 w3 ⟨B3, q3, rfl, hrep, hb3⟩
    have hk3 := nextB hk1 hb3
    have hs1 := hk1.size
    have hs3 := hb3.size
    go_wp2_with fail
    refine (HF2.out _ _ _ _ _ _ _ hrep (Nat.le_trans hbv hk3.size) (HR.out.below hb3 (Nat.le_trans hbv hk1.size))).mono ?_
    rintro e4 w4 ⟨B4, m4, q4, Q4, n4, k4, rfl, hV4, hR4, hb4⟩
    have hk4 := nextB hk3 hb4
    have hs4 := hb4.size
    obtain ⟨b0, b1, _, _⟩ := (HBOX.out.below hb3 hbl).below hb4 (by omega)
    obtain ⟨_, r0, r1, f0, f1⟩ := HBX.out w4 hk4
    have HV5 : Hid (∀ y0 y1, VlRd (fun b => w.heap.size ≤ b) ((w4.setCell ⟨w.heap.size + 1, 0, none⟩ y0).setCell ⟨w.heap.size + 1, 1, none⟩ y1) (d + 1) (.mk 0 X) B2 m2 q2) := fun y0 y1 => ((((HV.out.below hb3).below hb4).set (fun z hz => by have := HVS.out; omega)).set (fun z hz => by have := HVS.out; omega)).in fun b hb => by have := HVS.out; omega
    have HB5 : Hid (∀ y0 y1, Below (w.heap.size + 1) w4 ((w4.setCell ⟨w.heap.size + 1, 0, none⟩ y0).setCell ⟨w.heap.size + 1, 1, none⟩ y1)) := fun y0 y1 => ((Below.refl (w.heap.size + 1) w4).setCell (p := ⟨w.heap.size + 1, 0, none⟩) (Nat.le_refl _) y0).setCell (p := ⟨w.heap.size + 1, 1, none⟩) (Nat.le_refl _) y1
    have HR4 := Lib.hid hR4
    have HWB := Lib.hid (nextB HWV.out hk4)
    clear hV4 hR4 hb4 hb3 hrep p0 p1 p2 p3 p4 HBX hk4 hk3
    go_wp2
    exact bodyPost_ret (v := .tuple #[vlV (.mk 0 X) B2 m2 q2, .slice Q4 n4 k4]) (by simp [results, Tryd.results28, go_sem, r0, r1, Vl.i]) rfl ⟨B2, m2, q2, Q4, n4, k4, rfl, HV5.out _ _, HR4.out.below (HB5.out _ _) (by omega), HWB.out.trans ((HB5.out _ _).mono (by omega))⟩
end Go.Proofs.YtklndjkblfncjaaDoor
