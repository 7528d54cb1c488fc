/-
  Package value on valid types: compoundFault, fault, Check: the error of a value.
-/
import Derived.Test.YtklndjkblfncjaaGreatDoorValZ
namespace Go.Proofs.YtklndjkblfncjaaGreatDoor
open Go Go.RowKit
set_option maxRecDepth 20000

def VFaultAt (d : Nat) : Prop := ∀ (S : Nat → Prop) (T : Ty) (A : Option Addr) (n c : Nat) (w : World), TyRd S w d T A n c → TyOk d T → ∀ (S' : Nat → Prop) (d' : Nat) (V : Vl) (B : Option Addr) (m q : Nat), VlRd S' w d' V B m q → Calls Tryz.prog 36 #[tyV T A n c, vlV V B m q] w (FaultIs (verr d T V) w)
theorem zip_get {α β γ : Type} (f : α → β → γ) {l : List α} {r : List β} {i : Nat} {a : α} {b : β} (ha : l[i]? = some a) (hb : r[i]? = some b) : (List.zipWith f l r)[i]? = some (f a b) := by
  rw [List.getElem?_zipWith, ha, hb]

set_option maxHeartbeats 8000000 in
theorem compound_x (d : Nat) (IH : VFaultAt d) (S : Nat → Prop) (Ls : List Ty) (A : Option Addr) (n c : Nat) (w : World) (h : TyRd S w (d + 1) (.mk 0 0 0 0 Ls) A n c) (hok : ∀ e ∈ Ls, TyOk d e)
    (S' : Nat → Prop) (d' : Nat) (V : Vl) (B : Option Addr) (m q : Nat) (hv : VlRd S' w d' V B m q) (hm : m ≤ n) :
    Calls Tryz.prog 52 #[.slice A n c, vlV V B m q] w (FaultIs (if V.i ≠ 0 then 2 else firstE (List.zipWith (verr d) Ls V.es)) w) := by
  by_cases hi : V.i = 0
  · rw [if_neg (by simpa using hi)]
    cases d' with
    | zero => exact hv.elim
    | succ d' =>
    obtain ⟨hl, hcap, htop⟩ := h.len
    obtain ⟨hvl, hvcap, hvtop⟩ := hv.len
    have bi : (V.i != 0) = false := by simpa using hi
    have H := Lib.hid h
    have HVR := Lib.hid hv
    have HE := Lib.hid hok
    have HI := Lib.hid IH
    have HL1 : Hid (Ls.length = n) := hl
    have HL2 := Lib.hid hvl
    obtain ⟨ZL, hZL⟩ : ∃ ZL, List.zipWith (verr d) Ls V.es = ZL := ⟨_, rfl⟩
    have HZL := Lib.hid hZL
    rw [hZL]
    clear h hv hok IH hl hvl hi hZL
    unfold maxLen at htop hvtop
    obtain ⟨u, hu⟩ : ∃ u, w.alloc (.cells #[.int .i64 V.i, .slice B m q] 27) = u := ⟨_, rfl⟩
    have hwu : Below w.heap.size w u := by rw [← hu]; exact allocB _ _
    have HU := Lib.hid hu
    have HWU := Lib.hid hwu
    clear hu hwu
    go_enter Tryz.func52, Tryz.ntmps52
    go_wp2
    rw [HU.out]
    go_loopw [14] (fun iv wr => ∃ i : Nat, i ≤ m ∧ iv = .int .i64 i ∧ Hid (firstE (ZL.take i) = 0) ∧ Hid (Below u.heap.size u wr)) (fun iv _ => m - (intOf iv).toNat)
    case atStart => exact ⟨0, Nat.zero_le _, rfl, by show _ = _; simp [firstE], Below.refl _ _⟩
    case round =>
      obtain ⟨i, hi, rfl, HZ, HB⟩ := hrel
      by_cases hlt : i < m
      · have hwr := nextB HWU.out HB.out
        have hin : i < n := by omega
        obtain ⟨f, gv, ov, Bf, mf, qf, hf, rfl, _, hgv, hcv, hrv⟩ := (HVR.out.below hwr).get hlt
        obtain ⟨e, g, o, A', n', c', he, rfl, _, hg, hc, hr⟩ := (H.out.below hwr).get (show i < n by omega)
        have hzi : ZL[i]? = some (verr d e f) := by rw [← HZL.out]; exact zip_get _ he hf
        obtain ⟨c0, c1⟩ := hcv
        obtain ⟨v, hv⟩ : ∃ v, wr.alloc (.cells #[.int .i64 f.i, .slice Bf mf qf] 27) = v := ⟨_, rfl⟩
        have hwv : Below wr.heap.size wr v := by rw [← hv]; exact allocB _ _
        have HS : Hid (∀ W, Below v.heap.size v W → TyCells W g (o + i * 5) e A' n' c' ∧ W.cell? ⟨wr.heap.size, 0, none⟩ = some (.int .i64 f.i) ∧ W.cell? ⟨wr.heap.size, 1, none⟩ = some (.slice Bf mf qf)) := by
          intro W hW
          have hb2 := box2_new wr (.int .i64 f.i) (.slice Bf mf qf) 27
          rw [hv] at hb2
          have hb3 := hb2.below hW (by rw [← hv]; simp)
          exact ⟨hc.keep ((nextB hwv hW).block g hg), hb3.1, hb3.2.1⟩
        have HF : Hid (∀ W, Below v.heap.size v W → Calls Tryz.prog 36 #[tyV e A' n' c', vlV f Bf mf qf] W (FaultIs (verr d e f) W)) := fun W hW => HI.out S e A' n' c' W (hr.below (nextB hwv hW)) (HE.out e (List.mem_of_getElem? he)) S' d' f Bf mf qf (hrv.below (nextB hwv hW))
        obtain ⟨x, hx⟩ : ∃ x, verr d e f = x := ⟨_, rfl⟩
        rw [hx] at HF hzi
        have HZI := Lib.hid hzi
        have HV := Lib.hid hv
        have HB2 := Lib.hid (nextB HB.out hwv)
        clear hv hwv hwr hf he hzi hrv hr hc hx
        go_wp2_with fail
        rw [HV.out]
        have hk := (Below.refl v.heap.size v).drew
        refine wp_region_held_drew (S := fun W => Below v.heap.size v W) (by kernel_rfl) ?_ (fun hHeld => ?_)
        · exact hk
        refine tkH (i := 0) (oi := ⟨some 19, _, _, _, _, _⟩) (v := ?_) ?_ ?_
        rotate_left
        · intro w hSw; go_simp; try with_reducible rfl
        try simp only [Act.put, List.setIfInBounds_toArray, List.set_cons_zero, List.set_cons_succ]
        refine tkH (i := 1) (oi := ⟨some 20, _, _, _, _, _⟩) (v := ?_) ?_ ?_
        rotate_left
        · intro w hSw; go_simp; try with_reducible rfl
        try simp only [Act.put, List.setIfInBounds_toArray, List.set_cons_zero, List.set_cons_succ]
        refine tkH (i := 2) (oi := ⟨some 21, _, _, _, _, _⟩) (v := ?_) ?_ ?_
        rotate_left
        · intro w hSw; go_simp; try with_reducible rfl
        try simp only [Act.put, List.setIfInBounds_toArray, List.set_cons_zero, List.set_cons_succ]
        refine tkH (i := 3) (oi := ⟨some 22, _, _, _, _, _⟩) (v := ?_) ?_ ?_
        rotate_left
        · intro w hSw
          obtain ⟨⟨q0, q1, q2, q3, q4⟩, p0, p1⟩ := HS.out w hSw
          go_simp
          try with_reducible rfl
        try simp only [Act.put, List.setIfInBounds_toArray, List.set_cons_zero, List.set_cons_succ]
        refine tkH (i := 4) (oi := ⟨some 23, _, _, _, _, _⟩) (v := ?_) ?_ ?_
        rotate_left
        · intro w hSw
          obtain ⟨⟨q0, q1, q2, q3, q4⟩, p0, p1⟩ := HS.out w hSw
          go_simp
          try with_reducible rfl
        try simp only [Act.put, List.setIfInBounds_toArray, List.set_cons_zero, List.set_cons_succ]
        refine wpAnyH_ready (rs := [5]) (by kernel_rfl) (by simp) ?_
        refine AllReadyH.cons (o := ⟨some 24, _, _, _, _, _⟩) rfl (fun K hK => ?_) AllReadyH.nil
        go_simp
        go_at_call 36
        refine (HF.out _ hk).mono ?_
        rintro e1 w1 ⟨rfl, hb⟩
        replace hk := hk.trans (hb.mono hk.size)
        go_wp2_with fail
        refine hK.out _ _ hk (fun hHeld => ?_)
        clear hK K
        try simp only [Act.put, List.setIfInBounds_toArray, List.set_cons_zero, List.set_cons_succ]
        refine tkH (i := 6) (oi := ⟨some 7, _, _, _, _, _⟩) (v := ?_) ?_ ?_
        rotate_left
        · intro w hSw; go_simp; try with_reducible rfl
        try simp only [Act.put, List.setIfInBounds_toArray, List.set_cons_zero, List.set_cons_succ]
        refine wpAnyH_done (by kernel_rfl) ?_ _
        clear hHeld
        have HK := Lib.hid (nextB HB2.out hk)
        clear hk hb HF HS
        by_cases hx0 : x = 0
        · subst hx0
          have HZ2 := Lib.hid (firstE_next HZ.out HZI.out rfl)
          clear c0 c1
          go_wp2
          go_roundw
          case rel => exact ⟨i + 1, by omega, by go_num, HZ2, HK⟩
          case measure => simp [intOf] <;> omega
        · have bx : (x != 0) = true := by simpa using hx0
          have HFIN := Lib.hid (firstE_at HZ.out HZI.out hx0)
          clear c0 c1 hx0
          go_wp2
          go_ret
          refine ⟨?_, nextB HWU.out HK.out⟩
          rw [HFIN.out]; rfl
      · obtain rfl : i = m := by omega
        have HFIN : Hid (firstE ZL = 0) := by
          have := HZ.out
          rwa [List.take_of_length_le (by rw [← HZL.out, List.length_zipWith, HL1.out, HL2.out]; omega)] at this
        clear HZ
        go_wp2
        go_ret
        refine ⟨?_, nextB HWU.out HB.out⟩
        rw [HFIN.out]; rfl
  · rw [if_pos hi]
    have bi : (V.i != 0) = true := by simpa using hi
    clear h hv hok IH hi
    go_enter Tryz.func52, Tryz.ntmps52
    go_wp2
    go_ret
    exact ⟨rfl, allocB _ _⟩

set_option maxHeartbeats 8000000 in
theorem vfault_x : ∀ d, VFaultAt d
  | 0, _, _, _, _, _, _, h, _ => h.elim
  | d + 1, S, T, A, n, c, w, h, hok => by
    intro S' d' V B m q hv
    have IH := vfault_x d
    obtain ⟨hl, hcap, htop⟩ := h.len
    obtain ⟨hvl, hvcap, hvtop⟩ := hv.len
    unfold maxLen at htop hvtop
    obtain ⟨v, hvv⟩ : ∃ v, (w.alloc (.cells #[.int .i64 T.k, .int .i64 T.lo, .int .i64 T.hi, .int .i64 T.mx, .slice A n c] 24)).alloc (.cells #[.int .i64 V.i, .slice B m q] 27) = v := ⟨_, rfl⟩
    obtain ⟨hvs, hwv, hbx⟩ := boxes_tv w _ _ _ _ _ _ _ _ _ v hvv
    have HBX := Lib.hid hbx
    have HVV := Lib.hid hvv
    have HWV := Lib.hid hwv
    clear hvv hvs hbx
    have HLM := Lib.hid hvl
    by_cases k5 : T.k = 5
    · have b5 : (T.k == 5) = true := by simpa using k5
      obtain ⟨hz, hn2, hn4, hels⟩ := hok.tuple k5
      by_cases hmn : m = n
      · have HE : Hid (verr (d + 1) T V = if V.i ≠ 0 then 2 else firstE (List.zipWith (verr d) T.es V.es)) := by
          show _ = _
          simp only [verr, if_pos k5]
          rw [if_neg (by rw [hvl, hl]; simpa using hmn)]
        have HC : Hid (∀ W, Below v.heap.size v W → Calls Tryz.prog 52 #[.slice A n c, vlV V B n q] W (FaultIs (verr (d + 1) T V) W)) := by
          intro W hW
          rw [HE.out]
          have hb := nextB hwv hW
          subst hmn
          exact compound_x d IH S T.es A m c W ((h.below hb)) (fun e he => (hels e he).1) S' d' V B m q (hv.below hb) (Nat.le_refl _)
        clear h hok IH hv hels hz k5 hl hvl hwv hn2 hn4 HE
        obtain ⟨x, hx⟩ : ∃ x, verr (d + 1) T V = x := ⟨_, rfl⟩
        rw [hx] at HC ⊢
        clear hx
        subst hmn
        go_enter Tryz.func36, Tryz.ntmps36
        go_wp2_with fail
        rw [HVV.out]
        refine (HC.out _ (Below.refl _ _)).mono ?_
        rintro e1 w1 ⟨rfl, hb⟩
        have hB := nextB HWV.out hb
        clear hb HC HBX
        go_wp2
        go_ret
        exact ⟨rfl, hB⟩
      · have HE : verr (d + 1) T V = 2 := by
          simp only [verr, if_pos k5]
          rw [if_pos (by rw [hvl, hl]; exact hmn)]
        rw [HE]
        have HB := Lib.hid hwv
        clear h hok IH hv hels hz k5 hl hvl hwv hn2 hn4 HE
        go_enter Tryz.func36, Tryz.ntmps36
        go_wp2
        rw [HVV.out]
        go_ret
        exact ⟨rfl, HB.out⟩
    · have b5 : (T.k == 5) = false := by simpa using k5
      by_cases k6 : T.k = 6
      · have b6 : (T.k == 6) = true := by simpa using k6
        obtain ⟨hz, hm1, hm4, x, hx, hox, hkx⟩ := hok.list k6
        by_cases hlim : T.mx < m
        · have HE : verr (d + 1) T V = 2 := by
            simp only [verr, if_neg k5, if_pos k6]
            rw [if_pos (by rw [hvl]; exact hlim)]
          rw [HE]
          have HB := Lib.hid hwv
          clear h hok IH hv hz k5 k6 hl hvl hwv HE hx hox hkx
          go_enter Tryz.func36, Tryz.ntmps36
          go_wp2
          rw [HVV.out]
          go_ret
          exact ⟨rfl, HB.out⟩
        · obtain rfl : n = 1 := by rw [← hl, hx]; rfl
          have HE : Hid (verr (d + 1) T V = if V.i ≠ 0 then 2 else firstE (List.zipWith (verr d) (List.replicate m x) V.es)) := by
            show _ = _
            simp only [verr, if_neg k5, if_pos k6, hx, hvl, List.headD_cons]
            rw [if_neg hlim]
          have hT1 : TyRd S w (d + 1) (.mk 0 0 0 0 [x]) A 1 c := by rw [← hx]; exact h
          have HREP : Hid (∀ W, Below v.heap.size v W → Calls Tryz.prog 51 #[.slice A 1 c, .int .i64 m] W fun e w' => ∃ B q, e = .returned (.slice B m q) ∧ TyRd (fun b => S b ∨ W.heap.size ≤ b) w' (d + 1) (.mk 0 0 0 0 (List.replicate m x)) B m q ∧ Below W.heap.size W w') := fun W hW => rep_x m (by omega) S d x A c W (hT1.below (nextB hwv hW))
          have HCOMP : Hid (∀ (S2 : Nat → Prop) (W : World) (B1 : Option Addr) (q1 : Nat), Below v.heap.size v W → TyRd S2 W (d + 1) (.mk 0 0 0 0 (List.replicate m x)) B1 m q1 → Calls Tryz.prog 52 #[.slice B1 m q1, vlV V B m q] W (FaultIs (verr (d + 1) T V) W)) := by
            intro S2 W B1 q1 hW hT
            rw [HE.out]
            exact compound_x d IH S2 (List.replicate m x) B1 m q1 W hT (fun e he => by rw [List.eq_of_mem_replicate he]; exact hox) S' d' V B m q (hv.below (nextB hwv hW)) (Nat.le_refl _)
          have HS := HBX
          obtain ⟨y, hy⟩ : ∃ y, verr (d + 1) T V = y := ⟨_, rfl⟩
          rw [hy] at HCOMP ⊢
          clear h hok IH hv hz k5 k6 hl hvl hwv HE hx hox hkx hy hT1 HBX
          go_enter Tryz.func36, Tryz.ntmps36
          go_wp2_with fail
          rw [HVV.out]
          have hk := (Below.refl v.heap.size v).drew
          refine wp_region_held_drew (S := fun W => Below v.heap.size v W) (by kernel_rfl) ?_ (fun hHeld => ?_)
          · exact hk
          refine tkH (i := 0) (oi := ⟨some 30, _, _, _, _, _⟩) (v := ?_) ?_ ?_
          rotate_left
          · intro w hSw; go_simp; try with_reducible rfl
          try simp only [Act.put, List.setIfInBounds_toArray, List.set_cons_zero, List.set_cons_succ]
          refine tkH (i := 1) (oi := ⟨some 31, _, _, _, _, _⟩) (v := ?_) ?_ ?_
          rotate_left
          · intro w hSw
            obtain ⟨⟨p0, p1, p2, p3, p4⟩, q0, q1⟩ := HS.out w hSw
            go_simp
            try with_reducible rfl
          try simp only [Act.put, List.setIfInBounds_toArray, List.set_cons_zero, List.set_cons_succ]
          refine tkH (i := 2) (oi := ⟨some 32, _, _, _, _, _⟩) (v := ?_) ?_ ?_
          rotate_left
          · intro w hSw; go_simp; try with_reducible rfl
          try simp only [Act.put, List.setIfInBounds_toArray, List.set_cons_zero, List.set_cons_succ]
          refine tkH (i := 3) (oi := ⟨some 33, _, _, _, _, _⟩) (v := ?_) ?_ ?_
          rotate_left
          · intro w hSw
            obtain ⟨⟨p0, p1, p2, p3, p4⟩, q0, q1⟩ := HS.out w hSw
            go_simp
            try with_reducible rfl
          try simp only [Act.put, List.setIfInBounds_toArray, List.set_cons_zero, List.set_cons_succ]
          refine tkH (i := 4) (oi := ⟨some 34, _, _, _, _, _⟩) (v := ?_) ?_ ?_
          rotate_left
          · intro w hSw; go_simp; try with_reducible rfl
          try simp only [Act.put, List.setIfInBounds_toArray, List.set_cons_zero, List.set_cons_succ]
          refine tkH (i := 6) (oi := ⟨some 36, _, _, _, _, _⟩) (v := ?_) ?_ ?_
          rotate_left
          · intro w hSw
            obtain ⟨⟨p0, p1, p2, p3, p4⟩, q0, q1⟩ := HS.out w hSw
            go_simp
            try with_reducible rfl
          try simp only [Act.put, List.setIfInBounds_toArray, List.set_cons_zero, List.set_cons_succ]
          refine wpAnyH_ready (rs := [5]) (by kernel_rfl) (by simp) ?_
          refine AllReadyH.cons (o := ⟨some 35, _, _, _, _, _⟩) rfl (fun K hK => ?_) AllReadyH.nil
          go_simp
          go_at_call 51
          refine (HREP.out _ hk).mono ?_
          rintro e1 w1 ⟨B1, q1', rfl, hrep, hb⟩
          replace hk := hk.trans (hb.mono hk.size)
          have HF := Lib.hid (HCOMP.out _ _ _ _ hk hrep)
          clear hrep
          go_wp2_with fail
          refine hK.out _ _ hk (fun hHeld => ?_)
          clear hK K
          try simp only [Act.put, List.setIfInBounds_toArray, List.set_cons_zero, List.set_cons_succ]
          refine wpAnyH_ready (rs := [7]) (by kernel_rfl) (by simp) ?_
          refine AllReadyH.cons (o := ⟨some 37, _, _, _, _, _⟩) rfl (fun K hK => ?_) AllReadyH.nil
          go_simp
          go_at_call 52
          refine HF.out.mono ?_
          rintro e2 w2 ⟨rfl, hb2⟩
          replace hk := hk.trans (hb2.mono hk.size)
          go_wp2_with fail
          refine hK.out _ _ hk (fun hHeld => ?_)
          clear hK K
          try simp only [Act.put, List.setIfInBounds_toArray, List.set_cons_zero, List.set_cons_succ]
          refine tkH (i := 8) (oi := ⟨some 4, _, _, _, _, _⟩) (v := ?_) ?_ ?_
          rotate_left
          · intro w hSw; go_simp; try with_reducible rfl
          try simp only [Act.put, List.setIfInBounds_toArray, List.set_cons_zero, List.set_cons_succ]
          refine wpAnyH_done (by kernel_rfl) ?_ _
          clear hHeld HREP HCOMP HF HS
          go_wp2
          go_ret
          exact ⟨rfl, nextB HWV.out hk⟩
      · have b6 : (T.k == 6) = false := by simpa using k6
        by_cases hm0 : 0 < m
        · have HE : verr (d + 1) T V = 2 := by
            simp only [verr, if_neg k5, if_neg k6]
            rw [if_pos (by rw [hvl]; exact hm0)]
          rw [HE]
          have HB := Lib.hid hwv
          clear h hok IH hv k5 k6 hl hvl hwv HE
          go_enter Tryz.func36, Tryz.ntmps36
          go_wp2
          rw [HVV.out]
          go_ret
          exact ⟨rfl, HB.out⟩
        · obtain rfl : m = 0 := by omega
          have HE : Hid (verr (d + 1) T V = if V.i < tlow T ∨ thigh T < V.i then 1 else 0) := by
            show _ = _
            simp only [verr, if_neg k5, if_neg k6]
            rw [if_neg (by rw [hvl]; omega)]
          have HBD := Lib.hid (fun W => bounds_x T A n c W)
          obtain ⟨y, hy⟩ : ∃ y, verr (d + 1) T V = y := ⟨_, rfl⟩
          rw [hy] at HE ⊢
          clear h hok IH hv k5 k6 hl hvl hwv hy
          go_enter Tryz.func36, Tryz.ntmps36
          go_wp2_with fail
          rw [HVV.out]
          refine (HBD.out v).mono ?_
          rintro e1 w1 ⟨rfl, hb⟩
          obtain ⟨_, r0, r1, f0, f1⟩ := HBX.out w1 hb
          have hB := nextB HWV.out hb
          generalize tlow T = lo at *
          generalize thigh T = hh at *
          clear hb HBD HBX
          by_cases h1 : V.i < lo
          · have hy := HE.out
            rw [if_pos (Or.inl h1)] at hy
            have HY := Lib.hid hy
            clear hy HE
            go_wp2
            go_ret
            refine ⟨?_, hB⟩
            rw [HY.out]; rfl
          · by_cases h2 : hh < V.i
            · have hy := HE.out
              rw [if_pos (Or.inr h2)] at hy
              have HY := Lib.hid hy
              clear hy HE
              go_wp2
              go_ret
              refine ⟨?_, hB⟩
              rw [HY.out]; rfl
            · have hy := HE.out
              rw [if_neg (by omega)] at hy
              have HY := Lib.hid hy
              clear hy HE
              go_wp2
              go_ret
              refine ⟨?_, hB⟩
              rw [HY.out]; rfl

set_option maxHeartbeats 4000000 in
theorem Check_e (S : Nat → Prop) (d : Nat) (hd : d ≤ 10) (T : Ty) (A : Option Addr) (n c : Nat) (w : World) (h : TyRd S w d T A n c) (S' : Nat → Prop) (d' : Nat) (V : Vl) (B : Option Addr) (m q : Nat) (hv : VlRd S' w d' V B m q) :
    Calls Tryz.prog 22 #[tyV T A n c, vlV V B m q] w (FaultIs (ckErr d T V) w) := by
  obtain ⟨v, hvv⟩ : ∃ v, (w.alloc (.cells #[.int .i64 T.k, .int .i64 T.lo, .int .i64 T.hi, .int .i64 T.mx, .slice A n c] 24)).alloc (.cells #[.int .i64 V.i, .slice B m q] 27) = v := ⟨_, rfl⟩
  obtain ⟨hvs, hwv, hbx⟩ := boxes_tv w _ _ _ _ _ _ _ _ _ v hvv
  have HF := Lib.hid (typeFault_e S d hd T A n c v (h.below hwv))
  have HC : Hid (tyErr d T = 0 → ∀ W, Below v.heap.size v W → Calls Tryz.prog 36 #[tyV T A n c, vlV V B m q] W (FaultIs (verr d T V) W)) := fun h0 W hW => vfault_x d S T A n c W (h.below (nextB hwv hW)) (tyErr_good h0 hd).1.ok S' d' V B m q (hv.below (nextB hwv hW))
  have hdef : ckErr d T V = if tyErr d T ≠ 0 then tyErr d T else verr d T V := rfl
  obtain ⟨x, hx⟩ : ∃ x, tyErr d T = x := ⟨_, rfl⟩
  obtain ⟨z, hz⟩ : ∃ z, ckErr d T V = z := ⟨_, rfl⟩
  rw [hx] at HF HC hdef
  rw [hz] at hdef ⊢
  generalize verr d T V = y at HC hdef
  have HD := Lib.hid hdef
  have HBX := Lib.hid hbx
  have HVV := Lib.hid hvv
  have HWV := Lib.hid hwv
  clear h hv hvv hbx hwv hvs hx hz hdef
  go_enter Tryz.func22, Tryz.ntmps22
  go_wp2_with fail
  rw [HVV.out]
  refine HF.out.mono ?_
  rintro e1 w1 ⟨rfl, hb⟩
  obtain ⟨⟨p0, p1, p2, p3, p4⟩, r0, r1, f0, f1⟩ := HBX.out w1 hb
  have hD := HD.out
  clear HF HD
  by_cases hx0 : x = 0
  · subst hx0
    rw [if_neg (by decide)] at hD
    have HZ := Lib.hid hD
    have HC1 := Lib.hid (HC.out rfl w1 hb)
    clear hD HC
    go_wp2_with fail
    refine HC1.out.mono ?_
    rintro e2 w2 ⟨rfl, hb2⟩
    have hB := nextB HWV.out (nextB hb hb2)
    clear hb hb2 HC1 HBX p0 p1 p2 p3 p4 r0 r1 f0 f1
    go_wp2
    go_ret
    exact ⟨by rw [HZ.out]; rfl, hB⟩
  · have bx : (x != 0) = true := by simpa using hx0
    rw [if_pos hx0] at hD
    have HZ := Lib.hid hD
    have hB := nextB HWV.out hb
    clear hD hx0 HC HBX p0 p1 p2 p3 p4 r0 r1 f0 f1 hb
    go_wp2
    go_ret
    exact ⟨by rw [HZ.out]; rfl, hB⟩
theorem Check_x (S : Nat → Prop) (d : Nat) (T : Ty) (A : Option Addr) (n c : Nat) (w : World) (h : TyRd S w d T A n c) (hg : Good d T) (hk : T.k ≠ 4) (S' : Nat → Prop) (d' : Nat) (V : Vl) (B : Option Addr) (m q : Nat) (hv : VlRd S' w d' V B m q) :
    Calls Tryz.prog 22 #[tyV T A n c, vlV V B m q] w (FaultIs (verr d T V) w) := by
  have := Check_e S d hg.deep T A n c w h S' d' V B m q hv
  rw [ckErr_good hg hk] at this
  exact this
end Go.Proofs.YtklndjkblfncjaaGreatDoor
