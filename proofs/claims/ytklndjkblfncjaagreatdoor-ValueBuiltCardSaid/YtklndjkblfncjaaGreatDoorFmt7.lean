/-
  value.join and value.format on values of valid types: the text of the value.
-/
import Derived.Test.YtklndjkblfncjaaGreatDoorFmP7
import Derived.Test.YtklndjkblfncjaaGreatDoorCel7
namespace Go.Proofs.YtklndjkblfncjaaGreatDoor
open Go Go.RowKit
set_option maxRecDepth 20000

def FmtAt (d : Nat) : Prop := ∀ (S : Nat → Prop) (T : Ty) (A : Option Addr) (n c : Nat) (w : World), TyRd S w d T A n c → TyOk d T → ∀ (S' : Nat → Prop) (d' : Nat) (V : Vl) (B : Option Addr) (m q : Nat), VlRd S' w d' V B m q → verr d T V = 0 → Tab w → Calls Tryz.prog 46 #[tyV T A n c, vlV V B m q] w (GivesStr (vfmt d T V) w)

set_option maxHeartbeats 8000000 in
theorem join_x (d : Nat) (IH : FmtAt d) (S : Nat → Prop) (Ls : List Ty) (A : Option Addr) (n c : Nat) (w : World) (h : TyRd S w (d + 1) (.mk 0 0 0 0 Ls) A n c) (hok : ∀ e ∈ Ls, TyOk d e)
    (S' : Nat → Prop) (d' : Nat) (V : Vl) (B : Option Addr) (m q : Nat) (hv : VlRd S' w d' V B m q) (hm : m ≤ n) (hm4 : m ≤ 1000) (hve : firstE (List.zipWith (verr d) Ls V.es) = 0) (htab : Tab w) (hlen : (Lib.join (List.zipWith (vfmt d) Ls V.es) [44, 32]).length ≤ 140737488355328) :
    Calls Tryz.prog 58 #[.slice A n c, vlV V B m q] w (GivesStr (Lib.join (List.zipWith (vfmt d) Ls V.es) [44, 32]) w) := by
  cases d' with
  | zero => exact hv.elim
  | succ d' =>
  obtain ⟨i0, hi, hy0, hy1, hy2⟩ := info_parts info_str
  obtain ⟨hl, hcap, htop⟩ := h.len
  obtain ⟨hvl, hvcap, hvtop⟩ := hv.len
  unfold maxLen at htop hvtop
  have HE := Lib.hid hok
  have HI := Lib.hid IH
  obtain ⟨Z, hZ⟩ : ∃ Z, List.zipWith (vfmt d) Ls V.es = Z := ⟨_, rfl⟩
  have HZN : Hid (Z.length = m) := by
    show _ = _
    have h1 : Ls.length = n := hl
    rw [← hZ, List.length_zipWith, h1, hvl]; omega
  have HIE : Hid (∀ i e f, Ls[i]? = some e → V.es[i]? = some f → Z[i]? = some (vfmt d e f) ∧ verr d e f = 0) := fun i e f he hf => ⟨by rw [← hZ]; exact zip_get _ he hf, zip_zero hve i e f he hf⟩
  rw [hZ] at hlen ⊢
  have HLEN := Lib.hid hlen
  obtain ⟨u, hu⟩ : ∃ u, w.alloc (.cells #[.int .i64 V.i, .slice B m q] 27) = u := ⟨_, rfl⟩
  have hwu : Below w.heap.size w u := by rw [← hu]; exact allocB _ _
  have hsu : w.heap.size < u.heap.size := by rw [← hu]; simp
  have H := Lib.hid (h.bound)
  have HVR := Lib.hid (hv.bound)
  have HTB := Lib.hid (htab.below hwu)
  have HU := Lib.hid hu
  have HWU := Lib.hid hwu
  have HSU := Lib.hid hsu
  clear h hv hok IH hl hvl hZ hve htab hlen hu hwu hsu
  go_enter Tryz.func58, Tryz.ntmps58
  go_wp2
  rw [HU.out]
  go_loopw [5, 11] (fun lv iv wr => ∃ (i : Nat) (Qi : Option Addr) (qi : Nat), i ≤ m ∧ iv = .int .i64 i ∧ lv = .slice Qi i qi ∧ Hid (wr.ownsRow u.heap.size 9 1 (.slice Qi i qi) i (strRow (Z.take i)) ∧ Below u.heap.size u wr)) (fun _ iv _ => m - (intOf iv).toNat)
  case atStart => exact ⟨0, none, 0, Nat.zero_le _, rfl, rfl, World.ownsRow_nil _ _ _ _, Below.refl _ _⟩
  case round =>
    obtain ⟨i, Qi, qi, hi', rfl, rfl, REL⟩ := hrel
    by_cases hlt : i < m
    · have hwr := nextB HWU.out REL.out.2
      have hin : i < n := by omega
      obtain ⟨f, gv, ov, Bf, mf, qf, hf, rfl, _, hgv, hcv, hrv⟩ := (HVR.out.below hwr).get hlt
      obtain ⟨e, g, o, A', n', c', he, rfl, hSg, hg, hc, hr⟩ := (H.out.below hwr).get (show i < n by omega)
      obtain ⟨hzi, hze⟩ := HIE.out i e f he hf
      obtain ⟨c0, c1⟩ := hcv
      obtain ⟨v, hv⟩ : ∃ v, wr.alloc (.cells #[.int .i64 f.i, .slice Bf mf qf] 27) = v := ⟨_, rfl⟩
      have hwv : Below wr.heap.size wr v := by rw [← hv]; exact allocB _ _
      have hb2 : Box2 v wr.heap.size (.int .i64 f.i) (.slice Bf mf qf) := hv ▸ box2_new _ _ _ _
      have hsv : wr.heap.size < v.heap.size := by rw [← hv]; simp
      have hQ1 : offA Qi wr.heap.size := fun a ha => by have := (row_lt REL.out.1 a ha).2; omega
      have hQ2 : offA Qi g := fun a ha => by have := (row_lt REL.out.1 a ha).1; have := hSg.2; have := HSU.out; omega
      have HS : Hid (∀ W, Kp Qi v W → TyCells W g (o + i * 5) e A' n' c' ∧ Box2 W wr.heap.size (.int .i64 f.i) (.slice Bf mf qf)) := by
        intro W hW
        refine ⟨?_, hb2.keep (hW.block _ hsv hQ1)⟩
        have h1 := hc.keep (hwv.block g hg)
        exact h1.keep (hW.block g (Nat.lt_of_lt_of_le hg hwv.size) hQ2)
      have HF : Hid (Calls Tryz.prog 46 #[tyV e A' n' c', vlV f Bf mf qf] v.drew (GivesStr (vfmt d e f) v.drew)) :=
        HI.out _ e A' n' c' v.drew (TyRd.keep (w := v) (w' := v.drew) (Nat.le_refl _) (fun _ _ _ => rfl) (fun _ h => h) (hr.below hwv)) (HE.out e (List.mem_of_getElem? he)) _ d' f Bf mf qf (VlRd.keep (w := v) (w' := v.drew) (Nat.le_refl _) (fun _ _ _ => rfl) (fun _ h => h) (hrv.below hwv)) hze
          (((HTB.out.below (REL.out.2)).below hwv).below (w' := v.drew) (Below.refl v.heap.size v).drew)
      obtain ⟨x, hx⟩ : ∃ x, vfmt d e f = x := ⟨_, rfl⟩
      rw [hx] at HF hzi
      have HNX : Hid (strRow (Z.take i) ++ [str x] = strRow (Z.take (i + 1))) := by
        show _ = _
        have h1 : Z.take (i + 1) = Z.take i ++ [x] := by rw [List.take_add_one, hzi]; rfl
        rw [h1, strRow_append]; rfl
      have HV := Lib.hid hv
      have HWV := Lib.hid hwv
      clear hv hwv hwr hf he hzi hze hrv hr hx hb2 hsv hQ1 hQ2 hSg hc hg hgv
      obtain ⟨⟨q0, q1, q2, q3, q4⟩, z0, z1, zf0, zf1⟩ := HS.out v (Kp.refl _ _)
      clear q0 q1 q2 q3 q4 z0 z1 zf0 zf1
      go_wp2_with fail
      rw [HV.out]
      have hk : Kp Qi v v.drew := (Kp.refl Qi v).drew
      refine wp_region_held_drew (S := fun W => Kp Qi v W) (by kernel_rfl) hk (fun hHeld => ?_)
      refine tkH (i := 0) (oi := ⟨some 16, _, _, _, _, _⟩) (v := ?_) ?_ ?_
      rotate_left
      · intro w hSw; go_simp; try with_reducible rfl
      try simp only [Act.put, List.setIfInBounds_toArray, List.set_cons_zero, List.set_cons_succ]
      refine tkH (i := 1) (oi := ⟨some 17, _, _, _, _, _⟩) (v := ?_) ?_ ?_
      rotate_left
      · intro w hSw; go_simp; try with_reducible rfl
      try simp only [Act.put, List.setIfInBounds_toArray, List.set_cons_zero, List.set_cons_succ]
      refine tkH (i := 2) (oi := ⟨some 18, _, _, _, _, _⟩) (v := ?_) ?_ ?_
      rotate_left
      · intro w hSw; go_simp; try with_reducible rfl
      try simp only [Act.put, List.setIfInBounds_toArray, List.set_cons_zero, List.set_cons_succ]
      refine tkH (i := 3) (oi := ⟨some 19, _, _, _, _, _⟩) (v := ?_) ?_ ?_
      rotate_left
      · intro w hSw; go_simp; try with_reducible rfl
      try simp only [Act.put, List.setIfInBounds_toArray, List.set_cons_zero, List.set_cons_succ]
      refine tkH (i := 4) (oi := ⟨some 20, _, _, _, _, _⟩) (v := ?_) ?_ ?_
      rotate_left
      · intro w hSw
        obtain ⟨⟨q0, q1, q2, q3, q4⟩, z0, z1, zf0, zf1⟩ := HS.out w hSw
        go_simp
        try with_reducible rfl
      try simp only [Act.put, List.setIfInBounds_toArray, List.set_cons_zero, List.set_cons_succ]
      refine tkH (i := 5) (oi := ⟨some 21, _, _, _, _, _⟩) (v := ?_) ?_ ?_
      rotate_left
      · intro w hSw
        obtain ⟨⟨q0, q1, q2, q3, q4⟩, z0, z1, zf0, zf1⟩ := HS.out w hSw
        go_simp
        try with_reducible rfl
      try simp only [Act.put, List.setIfInBounds_toArray, List.set_cons_zero, List.set_cons_succ]
      refine wpAnyH_ready (rs := [6]) (by kernel_rfl) (by simp) ?_
      refine AllReadyH.cons (o := ⟨some 22, _, _, _, _, _⟩) rfl (fun K hK => ?_) AllReadyH.nil
      go_simp
      go_at_call 46
      (with_reducible refine HF.out.mono ?_)
      rintro e1 w1 ⟨rfl, hb⟩
      have hk1 : Kp Qi v w1 := hk.trans (Kp.of_below hb) (Since.refl _ _)
      go_wp2_with fail
      refine hK.out _ _ hk1 (fun hHeld => ?_)
      clear hK K
      try simp only [Act.put, List.setIfInBounds_toArray, List.set_cons_zero, List.set_cons_succ]
      refine wpAnyH_ready (rs := [7]) (by kernel_rfl) (by simp) ?_
      refine AllReadyH.cons (o := ⟨some 23, _, _, _, _, _⟩) rfl (fun K hK => ?_) AllReadyH.nil
      go_simp
      have hbx : Below v.heap.size v w1 := ((Below.refl v.heap.size v).drew).trans hb
      have hbz : Below v.heap.size v (w1.alloc (.cells #[.string ⟨x.toArray⟩] 9)) := hbx.alloc hbx.size _
      have hk2 : Kp Qi v (w1.alloc (.cells #[.string ⟨x.toArray⟩] 9)) := Kp.of_below hbz
      refine hK.out _ _ hk2 (fun hHeld => ?_)
      clear hK K
      try simp only [Act.put, List.setIfInBounds_toArray, List.set_cons_zero, List.set_cons_succ]
      refine wpAnyH_ready (rs := [8]) (by kernel_rfl) (by simp) ?_
      refine AllReadyH.cons (o := ⟨some 24, _, _, _, _, _⟩) rfl (fun K hK => ?_) AllReadyH.nil
      have hwz : Below wr.heap.size wr (w1.alloc (.cells #[.string ⟨x.toArray⟩] 9)) := nextB HWV.out hbz
      have hOW : (w1.alloc (.cells #[.string ⟨x.toArray⟩] 9)).ownsRow u.heap.size 9 1 (.slice Qi i qi) i (strRow (Z.take i)) := row_keep REL.out.1 fun a ha => hwz.block _ (row_lt REL.out.1 a ha).2
      have hNW : ∀ j y, [str x][j]? = some y → (w1.alloc (.cells #[.string ⟨x.toArray⟩] 9)).cell? ((⟨w1.heap.size, 0, none⟩ : Addr).add j) = some y := fun j y hy => World.news_of_block (heap_alloc_new _ _) j y (by simpa [str] using hy)
      have hbase : u.heap.size ≤ (w1.alloc (.cells #[.string ⟨x.toArray⟩] 9)).heap.size := Nat.le_trans REL.out.2.size hwz.size
      refine step_append_lies _ rfl _ _ 87 rfl u.heap.size 9 i0 (.string ⟨#[]⟩) 1 16 Tryz.underlying87 hi hy0 hy1 hy2 rfl (by decide) (.slice Qi i qi) i (strRow (Z.take i)) rfl hOW ⟨w1.heap.size, 0, none⟩ 1 1 [str x] rfl rfl hNW (by intro y hy; rw [List.mem_singleton] at hy; rw [hy]; rfl) (by decide) (by unfold maxLen; omega) (by omega) hbase _ rfl ?_
      intro g3 c3 w3 hown hgrow hat hlt3
      have hk3 : Kp Qi v w3 := hk2.trans (Kp.of_grown hgrow) (Since.refl _ _)
      have HREL : Hid (w3.ownsRow u.heap.size 9 1 (.slice (some ⟨g3, 0, none⟩) (i + 1) c3) (i + 1) (strRow (Z.take (i + 1))) ∧ Below u.heap.size u w3) := ⟨by rw [← HNX.out]; exact hown, grown_own (REL.out.2.trans (hwz.mono REL.out.2.size)) hOW hgrow hbase⟩
      clear hown hgrow hat hlt3 hOW hNW hbase hwz hbx hbz hk1 hk2 hb
      refine hK.out _ _ hk3 (fun hHeld => ?_)
      clear hK K
      try simp only [Act.put, List.setIfInBounds_toArray, List.set_cons_zero, List.set_cons_succ]
      refine tkH (i := 9) (oi := ⟨some 5, _, _, _, _, _⟩) (v := ?_) ?_ ?_
      rotate_left
      · intro w hSw; go_simp; try with_reducible rfl
      try simp only [Act.put, List.setIfInBounds_toArray, List.set_cons_zero, List.set_cons_succ]
      refine wpAnyH_done (by kernel_rfl) ?_ _
      clear hHeld HF HS hk hk3 c0 c1
      go_wp2
      go_roundw
      case rel => exact ⟨i + 1, _, _, by omega, by go_num, rfl, HREL⟩
      case measure => simp [intOf] <;> omega
    · obtain rfl : i = m := by omega
      have hfull : Z.take i = Z := List.take_of_length_le (by rw [HZN.out]; exact Nat.le_refl _)
      rw [hfull] at REL
      have HJ := Lib.hid (join_row REL.out.1 HLEN.out (by omega))
      clear hfull
      go_wp2_with fail
      refine HJ.out.mono ?_
      rintro e1 w1 ⟨rfl, hb⟩
      have HEND := Lib.hid (nextB HWU.out (REL.out.2.trans (hb.mono REL.out.2.size)))
      clear HJ hb REL
      go_wp2
      go_ret
      exact ⟨rfl, HEND.out⟩

theorem wrap_str (a b : UInt8) (J : By) : ((⟨#[a]⟩ : ByteArray) ++ ⟨J.toArray⟩ ++ ⟨#[b]⟩) = ⟨(a :: (J ++ [b])).toArray⟩ := by
  apply ByteArray.ext
  rw [ByteArray.data_append, ByteArray.data_append]
  simp

set_option maxHeartbeats 8000000 in
theorem format_x : ∀ d, d ≤ 9 → FmtAt d
  | 0, _, _, _, _, _, _, _, h, _ => h.elim
  | d + 1, hd9, S, T, A, n, c, w, h, hok => by
    intro S' d' V B m q hv hve htab
    have IH := format_x d (by omega)
    have hp9 : 8 ^ d ≤ 134217728 := Nat.le_trans (Nat.pow_le_pow_right (by omega) (show d ≤ 9 by omega)) (by decide)
    have hlen := fmt_len (d + 1) T V hok hve
    rw [Nat.pow_succ] at hlen
    obtain ⟨hl, hcap, htop⟩ := h.len
    obtain ⟨hvl, hvcap, hvtop⟩ := hv.len
    unfold maxLen at htop hvtop
    obtain ⟨v, hvv⟩ : ∃ v, (w.alloc (.cells #[.int .i64 T.k, .int .i64 T.lo, .int .i64 T.hi, .int .i64 T.mx, .slice A n c] 24)).alloc (.cells #[.int .i64 V.i, .slice B m q] 27) = v := ⟨_, rfl⟩
    obtain ⟨hvs, hwv, hbx⟩ := boxes_tv w _ _ _ _ _ _ _ _ _ v hvv
    have HBX := Lib.hid hbx
    have HVV := Lib.hid hvv
    have HWV := Lib.hid hwv
    have HTB : Hid (∀ W, Below v.heap.size v W → Tab W) := fun W hW => (htab.below hwv).below hW
    obtain ⟨y, hy⟩ : ∃ y, vfmt (d + 1) T V = y := ⟨_, rfl⟩
    rw [hy] at hlen ⊢
    have HY := Lib.hid hy
    clear hvv hvs hy htab
    by_cases k1 : T.k = 1
    · have b1 : (T.k == 1) = true := by simpa using k1
      have HFB : Hid (∀ (b : Bool) (W : World), Calls Tryz.prog 57 #[.bool b] W (GivesStr (if b then [116, 114, 117, 101] else [102, 97, 108, 115, 101]) W)) := formatBool_x
      have HYB : Hid (y = if V.i = 1 then [116, 114, 117, 101] else [102, 97, 108, 115, 101]) := by
        show _ = _
        rw [← HY.out]; simp only [vfmt, if_pos k1]
      obtain ⟨_, r0, r1, f0, f1⟩ := hbx v (Below.refl _ _)
      clear h hv hve hok IH hl hvl HY hlen hbx HBX HTB hwv hp9 k1
      by_cases hV : V.i = 1
      · have bV : (V.i == 1) = true := by simpa using hV
        have HYC : Hid (y = [116, 114, 117, 101]) := by show _ = _; rw [HYB.out, if_pos hV]
        clear hV HYB
        go_enter Tryz.func46, Tryz.ntmps46
        go_wp2_with fail
        rw [HVV.out]
        refine (HFB.out _ _).mono ?_
        rintro e1 w1 ⟨rfl, hb⟩
        have HB := Lib.hid (nextB HWV.out hb)
        clear hb HFB
        go_wp2
        go_ret
        exact ⟨by rw [HYC.out]; rfl, HB.out⟩
      · have bV : (V.i == 1) = false := by simpa using hV
        have HYC : Hid (y = [102, 97, 108, 115, 101]) := by show _ = _; rw [HYB.out, if_neg hV]
        clear hV HYB
        go_enter Tryz.func46, Tryz.ntmps46
        go_wp2_with fail
        rw [HVV.out]
        refine (HFB.out _ _).mono ?_
        rintro e1 w1 ⟨rfl, hb⟩
        have HB := Lib.hid (nextB HWV.out hb)
        clear hb HFB
        go_wp2
        go_ret
        exact ⟨by rw [HYC.out]; rfl, HB.out⟩
    · have b1 : (T.k == 1) = false := by simpa using k1
      by_cases k5 : T.k = 5
      · have b5 : (T.k == 5) = true := by simpa using k5
        obtain ⟨hz, hn2, hn4, hels⟩ := hok.tuple k5
        obtain ⟨hmn, hVi, hf⟩ := verr_tuple k5 hve
        obtain rfl : m = n := by omega
        obtain ⟨J, hJ⟩ : ∃ J, Lib.join (List.zipWith (vfmt d) T.es V.es) [44, 32] = J := ⟨_, rfl⟩
        have HYJ : Hid (y = 40 :: (J ++ [41])) := by
          show _ = _
          rw [← HY.out]; simp only [vfmt, if_neg k1, if_pos k5]; rw [hJ]
        have hJl : J.length ≤ 1000000000000 := by
          rw [HYJ.out] at hlen
          simp only [List.length_cons, List.length_append, List.length_nil] at hlen; omega
        have HC : Hid (∀ W, Below v.heap.size v W → Calls Tryz.prog 58 #[.slice A m c, vlV V B m q] W (GivesStr J W)) := by
          intro W hW
          have hb := nextB hwv hW
          have := join_x d IH S T.es A m c W (h.below hb) (fun e he => (hels e he).1) S' d' V B m q (hv.below hb) (Nat.le_refl _) (by omega) hf (HTB.out W hW) (by rw [hJ]; omega)
          rwa [hJ] at this
        clear h hv hok hve IH hl hvl HY hels hz hn2 hn4 hmn hf hJ hlen hp9 hwv hbx HTB hVi k1 k5
        go_enter Tryz.func46, Tryz.ntmps46
        go_wp2_with fail
        rw [HVV.out]
        refine (HC.out _ (Below.refl _ _)).mono ?_
        rintro e1 w1 ⟨rfl, hb⟩
        have HB := Lib.hid (nextB HWV.out hb)
        clear hb HC HBX
        go_wp2
        go_ret
        refine ⟨?_, HB.out⟩
        rw [HYJ.out, ← wrap_str]
        try rfl
      · have b5 : (T.k == 5) = false := by simpa using k5
        by_cases k6 : T.k = 6
        · have b6 : (T.k == 6) = true := by simpa using k6
          obtain ⟨hz, hm1, hm4, x, hx, hox, hkx⟩ := hok.list k6
          obtain rfl : n = 1 := by rw [← hl, hx]; rfl
          obtain ⟨hlim, hVi, hf⟩ := verr_list k5 k6 hve
          rw [hvl] at hlim
          rw [hx, List.headD_cons] at hf
          obtain ⟨J, hJ⟩ : ∃ J, Lib.join (List.zipWith (vfmt d) (List.replicate m x) V.es) [44, 32] = J := ⟨_, rfl⟩
          have HYJ : Hid (y = 91 :: (J ++ [93])) := by
            show _ = _
            rw [← HY.out]; simp only [vfmt, if_neg k1, if_neg k5, if_pos k6, hx, List.headD_cons, hvl]; rw [hJ]
          have hJl : J.length ≤ 1000000000000 := by
            rw [HYJ.out] at hlen
            simp only [List.length_cons, List.length_append, List.length_nil] at hlen; omega
          have hf2 : firstE (List.zipWith (verr d) (List.replicate m x) V.es) = 0 := by rw [← hvl, zip_rep]; exact hf
          have hT1 : TyRd S w (d + 1) (.mk 0 0 0 0 [x]) A 1 c := by rw [← hx]; exact h
          have HREP : Hid (∀ W, Below v.heap.size v W → Calls Tryz.prog 51 #[.slice A 1 c, .int .i64 m] W fun e w' => ∃ B q, e = .returned (.slice B m q) ∧ TyRd (fun b => S b ∨ W.heap.size ≤ b) w' (d + 1) (.mk 0 0 0 0 (List.replicate m x)) B m q ∧ Below W.heap.size W w') := fun W hW => rep_x m (by omega) S d x A c W (hT1.below (nextB hwv hW))
          have HCOMP : Hid (∀ (S2 : Nat → Prop) (W : World) (B1 : Option Addr) (q1 : Nat), Below v.heap.size v W → TyRd S2 W (d + 1) (.mk 0 0 0 0 (List.replicate m x)) B1 m q1 → Calls Tryz.prog 58 #[.slice B1 m q1, vlV V B m q] W (GivesStr J W)) := by
            intro S2 W B1 q1 hW hT
            have := join_x d IH S2 (List.replicate m x) B1 m q1 W hT (fun e he => by rw [List.eq_of_mem_replicate he]; exact hox) S' d' V B m q (hv.below (nextB hwv hW)) (Nat.le_refl _) (by omega) hf2 (HTB.out W hW) (by rw [hJ]; omega)
            rwa [hJ] at this
          have HS := HBX
          clear h hok IH hv hve hz k5 k6 k1 hl hvl hwv hx hox hkx hT1 HBX hf hf2 hJ hlen hp9 hbx HTB HY hlim hm1 hm4 hVi
          go_enter Tryz.func46, Tryz.ntmps46
          go_wp2_with fail
          rw [HVV.out]
          have hk := (Below.refl v.heap.size v).drew
          refine wp_region_held_drew (S := fun W => Below v.heap.size v W) (by kernel_rfl) ?_ (fun hHeld => ?_)
          · exact hk
          refine tkH (i := 0) (oi := ⟨some 23, _, _, _, _, _⟩) (v := ?_) ?_ ?_
          rotate_left
          · intro w hSw; go_simp; try with_reducible rfl
          try simp only [Act.put, List.setIfInBounds_toArray, List.set_cons_zero, List.set_cons_succ]
          refine tkH (i := 1) (oi := ⟨some 24, _, _, _, _, _⟩) (v := ?_) ?_ ?_
          rotate_left
          · intro w hSw
            obtain ⟨⟨p0, p1, p2, p3, p4⟩, q0, q1⟩ := HS.out w hSw
            go_simp
            try with_reducible rfl
          try simp only [Act.put, List.setIfInBounds_toArray, List.set_cons_zero, List.set_cons_succ]
          refine tkH (i := 2) (oi := ⟨some 25, _, _, _, _, _⟩) (v := ?_) ?_ ?_
          rotate_left
          · intro w hSw; go_simp; try with_reducible rfl
          try simp only [Act.put, List.setIfInBounds_toArray, List.set_cons_zero, List.set_cons_succ]
          refine tkH (i := 3) (oi := ⟨some 26, _, _, _, _, _⟩) (v := ?_) ?_ ?_
          rotate_left
          · intro w hSw
            obtain ⟨⟨p0, p1, p2, p3, p4⟩, q0, q1⟩ := HS.out w hSw
            go_simp
            try with_reducible rfl
          try simp only [Act.put, List.setIfInBounds_toArray, List.set_cons_zero, List.set_cons_succ]
          refine tkH (i := 4) (oi := ⟨some 27, _, _, _, _, _⟩) (v := ?_) ?_ ?_
          rotate_left
          · intro w hSw; go_simp; try with_reducible rfl
          try simp only [Act.put, List.setIfInBounds_toArray, List.set_cons_zero, List.set_cons_succ]
          refine tkH (i := 6) (oi := ⟨some 29, _, _, _, _, _⟩) (v := ?_) ?_ ?_
          rotate_left
          · intro w hSw
            obtain ⟨⟨p0, p1, p2, p3, p4⟩, q0, q1⟩ := HS.out w hSw
            go_simp
            try with_reducible rfl
          try simp only [Act.put, List.setIfInBounds_toArray, List.set_cons_zero, List.set_cons_succ]
          refine wpAnyH_ready (rs := [5]) (by kernel_rfl) (by simp) ?_
          refine AllReadyH.cons (o := ⟨some 28, _, _, _, _, _⟩) rfl (fun K hK => ?_) AllReadyH.nil
          go_simp
          go_at_call 51
          refine (HREP.out _ hk).mono ?_
          rintro e1 w1 ⟨B1, q1', rfl, hrep, hb⟩
          replace hk := hk.trans (hb.mono hk.size)
          have HF := Lib.hid (HCOMP.out _ _ _ _ hk hrep)
          clear hrep
          go_wp2_with fail
          refine hK.out _ _ hk (fun hHeld => ?_)
          clear hK K
          try simp only [Act.put, List.setIfInBounds_toArray, List.set_cons_zero, List.set_cons_succ]
          refine wpAnyH_ready (rs := [7]) (by kernel_rfl) (by simp) ?_
          refine AllReadyH.cons (o := ⟨some 30, _, _, _, _, _⟩) rfl (fun K hK => ?_) AllReadyH.nil
          go_simp
          go_at_call 58
          refine HF.out.mono ?_
          rintro e2 w2 ⟨rfl, hb2⟩
          replace hk := hk.trans (hb2.mono hk.size)
          go_wp2_with fail
          refine hK.out _ _ hk (fun hHeld => ?_)
          clear hK K
          try simp only [Act.put, List.setIfInBounds_toArray, List.set_cons_zero, List.set_cons_succ]
          refine tkH (i := 8) (oi := ⟨some 31, _, _, _, _, _⟩) (v := ?_) ?_ ?_
          rotate_left
          · intro w hSw
            go_simp
            rw [if_neg (by omega)]
            try with_reducible rfl
          try simp only [Act.put, List.setIfInBounds_toArray, List.set_cons_zero, List.set_cons_succ]
          refine tkH (i := 9) (oi := ⟨some 32, _, _, _, _, _⟩) (v := ?_) ?_ ?_
          rotate_left
          · intro w hSw
            go_simp
            rw [if_neg (by omega)]
            try with_reducible rfl
          try simp only [Act.put, List.setIfInBounds_toArray, List.set_cons_zero, List.set_cons_succ]
          refine tkH (i := 10) (oi := ⟨some 4, _, _, _, _, _⟩) (v := ?_) ?_ ?_
          rotate_left
          · intro w hSw; go_simp; try with_reducible rfl
          try simp only [Act.put, List.setIfInBounds_toArray, List.set_cons_zero, List.set_cons_succ]
          refine wpAnyH_done (by kernel_rfl) ?_ _
          clear hHeld HREP HCOMP HF HS
          go_wp2
          go_ret
          refine ⟨?_, nextB HWV.out hk⟩
          rw [HYJ.out, ← wrap_str]
          try rfl
        · have b6 : (T.k == 6) = false := by simpa using k6
          obtain ⟨h0, h1⟩ := leaf_range hok k5 k6 hve
          have HIT : Hid (Calls Tryz.prog 59 #[.int .i64 V.i] v (GivesStr y v)) := by
            have := itoa_x V.i h0 h1 v (HTB.out v (Below.refl _ _))
            have e : vfmt (d + 1) T V = Lib.itoa V.i := by simp only [vfmt, if_neg k1, if_neg k5, if_neg k6]
            rw [HY.out] at e
            rwa [← e] at this
          obtain ⟨_, r0, r1, f0, f1⟩ := hbx v (Below.refl _ _)
          clear h hv hve hok IH hl hvl HY hlen hbx HBX HTB hwv hp9 h0 h1 k1 k5 k6
          go_enter Tryz.func46, Tryz.ntmps46
          go_wp2_with fail
          rw [HVV.out]
          refine HIT.out.mono ?_
          rintro e1 w1 ⟨rfl, hb⟩
          have HB := Lib.hid (nextB HWV.out hb)
          clear hb HIT
          go_wp2
          go_ret
          exact ⟨rfl, HB.out⟩

set_option maxHeartbeats 4000000 in
theorem Format_x (S : Nat → Prop) (d : Nat) (hd9 : d ≤ 9) (T : Ty) (A : Option Addr) (n c : Nat) (w : World) (h : TyRd S w d T A n c) (hg : Good d T) (hk : T.k ≠ 4) (S' : Nat → Prop) (d' : Nat) (V : Vl) (B : Option Addr) (m q : Nat) (hv : VlRd S' w d' V B m q) (hve : verr d T V = 0) (htab : Tab w) :
    Calls Tryz.prog 27 #[tyV T A n c, vlV V B m q] w fun e w' => e = .returned (.tuple #[.string ⟨(vfmt d T V).toArray⟩, .int .i64 0]) ∧ Below w.heap.size w w' := by
  obtain ⟨v, hvv⟩ : ∃ v, (w.alloc (.cells #[.int .i64 T.k, .int .i64 T.lo, .int .i64 T.hi, .int .i64 T.mx, .slice A n c] 24)).alloc (.cells #[.int .i64 V.i, .slice B m q] 27) = v := ⟨_, rfl⟩
  obtain ⟨hvs, hwv, hbx⟩ := boxes_tv w _ _ _ _ _ _ _ _ _ v hvv
  have hCk := Check_x S d T A n c v (h.below hwv) hg hk S' d' V B m q (hv.below hwv)
  rw [hve] at hCk
  have HF := Lib.hid hCk
  have HC : Hid (∀ W, Below v.heap.size v W → Calls Tryz.prog 46 #[tyV T A n c, vlV V B m q] W (GivesStr (vfmt d T V) W)) := fun W hW =>
    format_x d hd9 S T A n c W (h.below (nextB hwv hW)) hg.ok S' d' V B m q (hv.below (nextB hwv hW)) hve (htab.below (nextB hwv hW))
  generalize vfmt d T V = y at *
  have HBX := Lib.hid hbx
  have HVV := Lib.hid hvv
  have HWV := Lib.hid hwv
  clear h hg hk hv hvv hbx hwv hvs hCk hve htab
  go_enter Tryz.func27, Tryz.ntmps27
  go_wp2_with fail
  rw [HVV.out]
  refine HF.out.mono ?_
  rintro e1 w1 ⟨rfl, hb⟩
  obtain ⟨⟨p0, p1, p2, p3, p4⟩, r0, r1, f0, f1⟩ := HBX.out w1 hb
  have HC1 := Lib.hid (HC.out w1 hb)
  clear HF HC
  go_wp2_with fail
  refine HC1.out.mono ?_
  rintro e2 w2 ⟨rfl, hb2⟩
  have HB := Lib.hid (nextB HWV.out (nextB hb hb2))
  clear hb hb2 HC1 HBX p0 p1 p2 p3 p4 r0 r1 f0 f1
  go_wp2
  go_ret2
  exact ⟨rfl, HB.out⟩
end Go.Proofs.YtklndjkblfncjaaGreatDoor
