/-
  value.appendCells and Flatten on values of valid types: the cells of the value.
-/
import Derived.Test.YtklndjkblfncjaaGreatDoorKp
import Derived.Test.YtklndjkblfncjaaGreatDoorMk7
namespace Go.Proofs.YtklndjkblfncjaaGreatDoor
open Go Go.RowKit
set_option maxRecDepth 20000

/-- The zero of a type of numbers is a value of it. -/
theorem verr_zero {d : Nat} {x : Ty} (hk : x.k = 1 ∨ x.k = 2) (hd : deepOk d x) (hok : TyOk d x) : verr d x (vzero d x) = 0 := by
  cases d with
  | zero => exact hd.elim
  | succ d =>
    have h5 : ¬ x.k = 5 := by omega
    have h6 : ¬ x.k = 6 := by omega
    have hz : vzero (d + 1) x = .mk (min (max 0 (tlow x)) (thigh x)) [] := by simp only [vzero, if_neg h5, if_neg h6]
    rw [hz]
    simp only [verr, if_neg h5, if_neg h6]
    rw [if_neg (by show ¬ 0 < ([] : List Vl).length; simp)]
    have hle : tlow x ≤ thigh x := by
      unfold tlow thigh
      rcases hk with h | h
      · rw [if_pos h, if_pos h]; decide
      · rw [if_neg (by omega), if_neg (by omega), if_neg (by omega), if_neg (by omega)]
        exact (hok.int h).1.2.1
    rw [if_neg (by show ¬ (min (max 0 (tlow x)) (thigh x) < tlow x ∨ thigh x < min (max 0 (tlow x)) (thigh x)); omega)]
def CellsAt (d : Nat) : Prop := ∀ (S : Nat → Prop) (T : Ty) (A : Option Addr) (n c : Nat) (S' : Nat → Prop) (d' : Nat) (V : Vl) (B : Option Addr) (m q : Nat) (Q : Option Addr) (nq qq : Nat) (L : List Int) (w : World),
  TyRd S w d T A n c → TyOk d T → VlRd S' w d' V B m q → verr d T V = 0 → (∀ b, S b → offA Q b) → (∀ b, S' b → offA Q b) → IntOwn w Q nq qq L → L.length + (vflat d T V).length ≤ 1000 →
  Calls Tryz.prog 32 #[.slice Q nq qq, tyV T A n c, vlV V B m q] w (GivesInts (L ++ vflat d T V) Q w)

set_option maxHeartbeats 16000000 in
theorem cells_x : ∀ d, CellsAt d
  | 0, _, _, _, _, _, _, _, _, _, _, _, _, _, _, _, _, h, _, _, _, _, _, _, _ => h.elim
  | d + 1, S, T, A, n, c, S', d'', V, B, m, q, Q, nq, qq, L, w, h, hok, hv, hve, hSQ, hSQ', hO, hlen => by
    have IH := cells_x d
    obtain ⟨i0, hi, hy0, hy1, hy2⟩ := info_parts info_int
    obtain ⟨hl, hcap, htop⟩ := h.len
    obtain ⟨hvl, hvcap, hvtop⟩ := hv.len
    unfold maxLen at htop hvtop
    have hL := hO.len
    cases d'' with
    | zero => exact hv.elim
    | succ d' =>
    obtain ⟨v, hvv⟩ : ∃ v, (w.alloc (.cells #[.int .i64 T.k, .int .i64 T.lo, .int .i64 T.hi, .int .i64 T.mx, .slice A n c] 24)).alloc (.cells #[.int .i64 V.i, .slice B m q] 27) = v := ⟨_, rfl⟩
    obtain ⟨hvs, hwv, hbx⟩ := boxes_tv w _ _ _ _ _ _ _ _ _ v hvv
    have hQw : ∀ a, Q = some a → a.block < w.heap.size := fun a ha => (row_lt hO.row a ha).2
    have hQ0 : offA Q w.heap.size := fun a ha => by have := hQw a ha; omega
    have hQ1 : offA Q (w.heap.size + 1) := fun a ha => by have := hQw a ha; omega
    have HBX : Hid (∀ W, Kp Q v W → Box5 W w.heap.size (.int .i64 T.k) (.int .i64 T.lo) (.int .i64 T.hi) (.int .i64 T.mx) (.slice A n c) ∧ Box2 W (w.heap.size + 1) (.int .i64 V.i) (.slice B m q)) := by
      intro W hW
      obtain ⟨a, b⟩ := hbx v (Below.refl _ _)
      exact ⟨a.keep' (hW.block _ (by omega) hQ0), b.keep (hW.block _ (by omega) hQ1)⟩
    have HOV := Lib.hid (hO.below hwv)
    have HT : Hid (∀ W, Kp Q v W → TyRd (fun b => S b ∧ b < v.heap.size) W (d + 1) T A n c) := fun W hW => (h.below hwv).bound.kp hW fun b hb => hSQ b hb.1
    have HVR : Hid (∀ W, Kp Q v W → VlRd (fun b => S' b ∧ b < v.heap.size) W (d' + 1) V B m q) := fun W hW => (hv.below hwv).bound.kp hW fun b hb => hSQ' b hb.1
    have HVV := Lib.hid hvv
    have HWV := Lib.hid hwv
    have HVS := Lib.hid hvs
    have HSQ := Lib.hid hSQ
    have HSQ2 := Lib.hid hSQ'
    have HI := Lib.hid IH
    have HQ0 := Lib.hid hQ0
    have HQ1 := Lib.hid hQ1
    clear hvv hbx hvs IH h hv hO hwv hSQ hSQ' hQw hQ0 hQ1
    by_cases k5 : T.k = 5
    · have b5 : (T.k == 5) = true := by simpa using k5
      obtain ⟨hz, hn2, hn4, hels⟩ := hok.tuple k5
      have hve2 := hve
      simp only [verr, if_pos k5] at hve2
      have hmn : m = n := by
        by_cases hc : m = n
        · exact hc
        · rw [if_pos (by rw [hvl, hl]; exact hc)] at hve2; cases hve2
      subst hmn
      rw [if_neg (by rw [hvl, hl]; simp)] at hve2
      have hve3 : firstE (List.zipWith (verr d) T.es V.es) = 0 := by
        by_cases hc : V.i = 0
        · rwa [if_neg (by simpa using hc)] at hve2
        · rw [if_pos hc] at hve2; cases hve2
      obtain ⟨Z, hZ⟩ : ∃ Z, List.zipWith (vflat d) T.es V.es = Z := ⟨_, rfl⟩
      have HF0 : Hid (vflat (d + 1) T V = Z.flatten) := by show _ = _; simp only [vflat, if_pos k5]; rw [hZ]
      have HIE : Hid (∀ i e f, T.es[i]? = some e → V.es[i]? = some f → (Z[i]? = some (vflat d e f) ∧ (L ++ (Z.take i).flatten).length + (vflat d e f).length ≤ 1000) ∧ TyOk d e ∧ verr d e f = 0) := by
        intro i e f he hf
        have h1 : Z[i]? = some (vflat d e f) := by rw [← hZ]; exact zip_get _ he hf
        have h2 := flatten_take_le Z (i + 1)
        rw [flatten_next h1, List.length_append] at h2
        rw [HF0.out] at hlen
        exact ⟨⟨h1, by rw [List.length_append]; omega⟩, (hels e (List.mem_of_getElem? he)).1, firstE_zero.1 hve3 _ (List.mem_of_getElem? (zip_get (verr d) he hf))⟩
      have HZN : Hid (Z.length = m) := by show _ = _; rw [← hZ, List.length_zipWith, hl, hvl]; omega
      clear hok hve hve2 hve3 k5 hl hvl hlen hels hz hZ hn2 hn4
      go_enter Tryz.func32, Tryz.ntmps32
      go_wp2
      rw [HVV.out]
      go_loopw [0, 18] (fun lv iv wr => ∃ (i : Nat) (Qi : Option Addr) (ni qi : Nat), i ≤ m ∧ iv = .int .i64 i ∧ lv = .slice Qi ni qi ∧ Hid (IntOwn wr Qi ni qi (L ++ (Z.take i).flatten) ∧ Since v Q Qi ∧ Kp Q v wr)) (fun _ iv _ => m - (intOf iv).toNat)
      case atStart => exact ⟨0, Q, nq, qq, Nat.zero_le _, rfl, rfl, (by simpa using HOV.out), Since.refl _ _, Kp.refl _ _⟩
      case round =>
        obtain ⟨i, Qi, ni, qi, hi', rfl, rfl, REL⟩ := hrel
        by_cases hlt : i < m
        · obtain ⟨e, ge, oe, Ae, ne, ce, he, rfl, hSe, hge, hce, hre⟩ := (HT.out wr REL.out.2.2).get hlt
          obtain ⟨f, gf, of', Bf, mf, qf, hf, rfl, hSf, hgf, hcf, hrf⟩ := (HVR.out wr REL.out.2.2).get hlt
          obtain ⟨⟨hzi, hli⟩, hoe, hef⟩ := HIE.out i e f he hf
          have HNX : Hid ((L ++ (Z.take i).flatten) ++ vflat d e f = L ++ (Z.take (i + 1)).flatten) := by show _ = _; rw [flatten_next hzi, List.append_assoc]
          obtain ⟨Li, hLi⟩ : ∃ Li, L ++ (Z.take i).flatten = Li := ⟨_, rfl⟩
          rw [hLi] at hli HNX REL
          clear he hf hzi hLi
          obtain ⟨u, hu⟩ : ∃ u, wr.alloc (.cells #[.int .i64 f.i, .slice Bf mf qf] 27) = u := ⟨_, rfl⟩
          have hwu : Below wr.heap.size wr u := by rw [← hu]; exact allocB _ _
          have hQi : ∀ a, Qi = some a → a.block < wr.heap.size := fun a ha => (row_lt REL.out.1.row a ha).2
          have hQu : offA Qi wr.heap.size := fun a ha => by have := hQi a ha; omega
          have hb2 : Box2 u wr.heap.size (.int .i64 f.i) (.slice Bf mf qf) := by rw [← hu]; exact box2_new _ _ _ _
          have hus : wr.heap.size < u.heap.size := by rw [← hu]; simp
          have hgi : ∀ b, (S b ∧ b < v.heap.size) → offA Qi b := fun b hb => REL.out.2.1.off (HSQ.out b hb.1) hb.2
          have hgi' : ∀ b, (S' b ∧ b < v.heap.size) → offA Qi b := fun b hb => REL.out.2.1.off (HSQ2.out b hb.1) hb.2
          have hvu : v.heap.size ≤ u.heap.size := Nat.le_trans REL.out.2.2.size hwu.size
          have hQt : offA Qi w.heap.size := REL.out.2.1.off HQ0.out (by have := HVS.out; omega)
          have HS : Hid (∀ W, Kp Qi u W → Box5 W w.heap.size (.int .i64 T.k) (.int .i64 T.lo) (.int .i64 T.hi) (.int .i64 T.mx) (.slice (some ⟨ge, oe, none⟩) m c) ∧ TyCells W ge (oe + i * 5) e Ae ne ce ∧ Box2 W wr.heap.size (.int .i64 f.i) (.slice Bf mf qf)) := by
            intro W hW
            refine ⟨((HBX.out wr REL.out.2.2).1.keep' (hwu.block _ (by have := HVS.out; have := REL.out.2.2.size; omega))).keep' (hW.block _ (by have := HVS.out; omega) hQt), ?_, hb2.keep (hW.block _ hus hQu)⟩
            have h1 := hce.keep (hwu.block ge hge)
            have h2 := h1.keep (hW.block ge (Nat.lt_of_lt_of_le hge hwu.size) (hgi ge hSe))
            simpa using h2
          have HF : Hid (Calls Tryz.prog 32 #[.slice Qi ni qi, tyV e Ae ne ce, vlV f Bf mf qf] u.drew (GivesInts (Li ++ vflat d e f) Qi u.drew)) :=
            HI.out _ e Ae ne ce _ d' f Bf mf qf Qi ni qi Li u.drew (TyRd.keep (w := u) (w' := u.drew) (Nat.le_refl _) (fun _ _ _ => rfl) (fun _ h => h) (hre.below hwu)) hoe (VlRd.keep (w := u) (w' := u.drew) (Nat.le_refl _) (fun _ _ _ => rfl) (fun _ h => h) (hrf.below hwu)) hef hgi hgi' (REL.out.1.below hwu).drew hli
          have HU : Hid (wr.alloc (.cells #[.int .i64 f.i, .slice Bf mf qf] 27) = u ∧ Below wr.heap.size wr u) := ⟨hu, hwu⟩
          have hk : Kp Qi u u.drew := (Kp.refl Qi u).drew
          obtain ⟨⟨p0, p1, p2, p3, p4⟩, y0, y1, yf0, yf1⟩ := HBX.out wr REL.out.2.2
          obtain ⟨c0', c1'⟩ := hcf
          clear hu hwu hQi hQu hb2 hus hgi hgi' hvu hQt hce hre hrf hoe hef hli hSe hge hSf hgf
          go_wp2_with fail
          rw [HU.out.1]
          refine wp_region_held_drew (S := fun W => Kp Qi u W) (by kernel_rfl) hk (fun hHeld => ?_)
          refine tkH (i := 0) (oi := ⟨some 23, _, _, _, _, _⟩) (v := ?_) ?_ ?_
          rotate_left
          · intro w hSw; go_simp; try with_reducible rfl
          try simp only [Act.put, List.setIfInBounds_toArray, List.set_cons_zero, List.set_cons_succ]
          refine tkH (i := 1) (oi := ⟨some 24, _, _, _, _, _⟩) (v := ?_) ?_ ?_
          rotate_left
          · intro w hSw; go_simp; try with_reducible rfl
          try simp only [Act.put, List.setIfInBounds_toArray, List.set_cons_zero, List.set_cons_succ]
          refine tkH (i := 2) (oi := ⟨some 25, _, _, _, _, _⟩) (v := ?_) ?_ ?_
          rotate_left
          · intro w hSw
            obtain ⟨⟨p0, p1, p2, p3, p4⟩, ⟨q0, q1, q2, q3, q4⟩, r0, r1, f0, f1⟩ := HS.out w hSw
            go_simp
            try with_reducible rfl
          try simp only [Act.put, List.setIfInBounds_toArray, List.set_cons_zero, List.set_cons_succ]
          refine tkH (i := 3) (oi := ⟨some 26, _, _, _, _, _⟩) (v := ?_) ?_ ?_
          rotate_left
          · intro w hSw; go_simp; try with_reducible rfl
          try simp only [Act.put, List.setIfInBounds_toArray, List.set_cons_zero, List.set_cons_succ]
          refine tkH (i := 4) (oi := ⟨some 27, _, _, _, _, _⟩) (v := ?_) ?_ ?_
          rotate_left
          · intro w hSw; go_simp; try with_reducible rfl
          try simp only [Act.put, List.setIfInBounds_toArray, List.set_cons_zero, List.set_cons_succ]
          refine tkH (i := 5) (oi := ⟨some 28, _, _, _, _, _⟩) (v := ?_) ?_ ?_
          rotate_left
          · intro w hSw
            obtain ⟨⟨p0, p1, p2, p3, p4⟩, ⟨q0, q1, q2, q3, q4⟩, r0, r1, f0, f1⟩ := HS.out w hSw
            go_simp
            try with_reducible rfl
          try simp only [Act.put, List.setIfInBounds_toArray, List.set_cons_zero, List.set_cons_succ]
          refine tkH (i := 6) (oi := ⟨some 29, _, _, _, _, _⟩) (v := ?_) ?_ ?_
          rotate_left
          · intro w hSw
            obtain ⟨⟨p0, p1, p2, p3, p4⟩, ⟨q0, q1, q2, q3, q4⟩, r0, r1, f0, f1⟩ := HS.out w hSw
            go_simp
            try with_reducible rfl
          try simp only [Act.put, List.setIfInBounds_toArray, List.set_cons_zero, List.set_cons_succ]
          refine wpAnyH_ready (rs := [7]) (by kernel_rfl) (by simp) ?_
          refine AllReadyH.cons (o := ⟨some 30, _, _, _, _, _⟩) rfl (fun K hK => ?_) AllReadyH.nil
          go_simp
          go_at_call 32
          (with_reducible refine HF.out.mono ?_)
          rintro e1 w1 ⟨Q1, m1, k1, rfl, hO1, hS1, hK1⟩
          have hk1 : Kp Qi u w1 := hk.trans hK1 (Since.refl _ _)
          go_wp2_with fail
          refine hK.out _ _ hk1 (fun hHeld => ?_)
          clear hK K
          try simp only [Act.put, List.setIfInBounds_toArray, List.set_cons_zero, List.set_cons_succ]
          refine tkH (i := 8) (oi := ⟨some 0, _, _, _, _, _⟩) (v := ?_) ?_ ?_
          rotate_left
          · intro w hSw; go_simp; try with_reducible rfl
          try simp only [Act.put, List.setIfInBounds_toArray, List.set_cons_zero]
          refine wpAnyH_done (by kernel_rfl) ?_ _
          have HREL : Hid (IntOwn w1 Q1 m1 k1 (Li ++ vflat d e f) ∧ Since v Q Q1 ∧ Kp Q v w1) := ⟨hO1, REL.out.2.1.trans hS1 (Nat.le_trans REL.out.2.2.size HU.out.2.size), (REL.out.2.2.trans (Kp.of_below HU.out.2) (Since.refl _ _)).trans hk1 REL.out.2.1⟩
          clear hO1 hS1 hK1 hk hk1 HF HS HU hHeld
          rw [HNX.out] at HREL
          go_wp2
          go_roundw
          case rel => exact ⟨i + 1, _, _, _, by omega, by go_num, rfl, HREL⟩
          case measure => simp [intOf] <;> omega
        · obtain rfl : i = m := by omega
          have hfull : (Z.take i).flatten = Z.flatten := by rw [List.take_of_length_le (by rw [HZN.out]; exact Nat.le_refl _)]
          rw [hfull, ← HF0.out] at REL
          clear hfull
          go_wp2
          go_ret
          exact ⟨_, _, _, rfl, REL.out.1, fun a ha => (REL.out.2.1 a ha).imp id fun h => Nat.le_trans HWV.out.size h, (Kp.of_below HWV.out).trans REL.out.2.2 (Since.refl _ _)⟩
    · have b5 : (T.k == 5) = false := by simpa using k5
      by_cases k6 : T.k = 6
      · have b6 : (T.k == 6) = true := by simpa using k6
        obtain ⟨hz, hm1, hm4, x, hx, hox, hkx⟩ := hok.list k6
        obtain rfl : n = 1 := by rw [← hl, hx]; rfl
        have hve2 := hve
        simp only [verr, if_neg k5, if_pos k6, hx, hvl, List.headD_cons] at hve2
        have hmx : ¬ T.mx < m := by
          intro hc
          rw [if_pos hc] at hve2; cases hve2
        rw [if_neg hmx] at hve2
        have hve3 : firstE (List.zipWith (verr d) (List.replicate m x) V.es) = 0 := by
          by_cases hc : V.i = 0
          · rwa [if_neg (by simpa using hc)] at hve2
          · rw [if_pos hc] at hve2; cases hve2
        obtain ⟨k, hk⟩ : ∃ k : Nat, T.mx - (m : Int) = (k : Int) := Int.eq_ofNat_of_zero_le (by omega)
        have hk4 : k ≤ 4 := by omega
        obtain ⟨Z, hZ⟩ : ∃ Z, V.es.map (vflat d x) = Z := ⟨_, rfl⟩
        obtain ⟨P, hP⟩ : ∃ P, List.replicate k (vflat d x (vzero d x)) = P := ⟨_, rfl⟩
        have HF0 : Hid (vflat (d + 1) T V = ((m : Int) :: (Z.flatten ++ P.flatten))) := by
          show _ = _
          simp only [vflat, if_neg k5, if_pos k6, hx, List.headD_cons, hvl]
          rw [hZ, show T.mx.toNat - m = k by omega, hP]
        have hlen2 : L.length + 1 + Z.flatten.length + P.flatten.length ≤ 1000 := by
          rw [HF0.out, List.length_cons, List.length_append] at hlen; omega
        have HIE : Hid (∀ i f, V.es[i]? = some f → (Z[i]? = some (vflat d x f) ∧ (L ++ [(m : Int)] ++ (Z.take i).flatten).length + (vflat d x f).length ≤ 1000) ∧ verr d x f = 0) := by
          intro i f hf
          have h1 : Z[i]? = some (vflat d x f) := by rw [← hZ, List.getElem?_map, hf]; rfl
          have h2 := flatten_take_le Z (i + 1)
          rw [flatten_next h1, List.length_append] at h2
          have hi2 : i < m := by
            rcases Nat.lt_or_ge i V.es.length with h | h
            · omega
            · rw [List.getElem?_eq_none h] at hf; cases hf
          refine ⟨⟨h1, by simp only [List.length_append, List.length_singleton]; omega⟩, firstE_zero.1 hve3 _ (List.mem_of_getElem? (zip_get (verr d) (a := x) (by rw [List.getElem?_replicate, if_pos hi2]) hf))⟩
        have HIZ : Hid (∀ i, i < k → P[i]? = some (vflat d x (vzero d x)) ∧ (L ++ [(m : Int)] ++ Z.flatten ++ (P.take i).flatten).length + (vflat d x (vzero d x)).length ≤ 1000) := by
          intro i hik
          have h1 : P[i]? = some (vflat d x (vzero d x)) := by rw [← hP, List.getElem?_replicate, if_pos hik]
          have h2 := flatten_take_le P (i + 1)
          rw [flatten_next h1, List.length_append] at h2
          exact ⟨h1, by simp only [List.length_append, List.length_singleton]; omega⟩
        have HZN : Hid (Z.length = m) := by show _ = _; rw [← hZ, List.length_map, hvl]
        have HPN : Hid (P.length = k) := by show _ = _; rw [← hP, List.length_replicate]
        have HX := Lib.hid hx
        have HOX := Lib.hid hox
        have HKX := Lib.hid hkx
        have hnq : nq ≤ 1000 := by omega
        have HOU : Hid (IntOwn (((w.alloc (.cells #[.int .i64 T.k, .int .i64 T.lo, .int .i64 T.hi, .int .i64 T.mx, .slice A 1 c] 24)).alloc (.cells #[.int .i64 V.i, .slice B m q] 27)).alloc (.cells #[.int .i64 (m : Int)] 3)) Q nq qq L ∧ Kp Q v (((w.alloc (.cells #[.int .i64 T.k, .int .i64 T.lo, .int .i64 T.hi, .int .i64 T.mx, .slice A 1 c] 24)).alloc (.cells #[.int .i64 V.i, .slice B m q] 27)).alloc (.cells #[.int .i64 (m : Int)] 3)) ∧ ((w.alloc (.cells #[.int .i64 T.k, .int .i64 T.lo, .int .i64 T.hi, .int .i64 T.mx, .slice A 1 c] 24)).alloc (.cells #[.int .i64 V.i, .slice B m q] 27)).heap.size = w.heap.size + 2) := by
          rw [HVV.out]
          exact ⟨HOV.out.below (allocB _ _), Kp.of_below (allocB _ _), HVS.out⟩
        have hnews : ∀ j y, (intRow [(m : Int)])[j]? = some y → (((w.alloc (.cells #[.int .i64 T.k, .int .i64 T.lo, .int .i64 T.hi, .int .i64 T.mx, .slice A 1 c] 24)).alloc (.cells #[.int .i64 V.i, .slice B m q] 27)).alloc (.cells #[.int .i64 (m : Int)] 3)).cell? ((⟨w.heap.size + 2, 0, none⟩ : Addr).add j) = some y := by
          rw [← HOU.out.2.2]
          exact fun j y hy => World.news_of_block (heap_alloc_new _ _) j y (by simpa [intRow] using hy)
        have HNW := Lib.hid hnews
        have hmk : (m : Int) ≤ T.mx := by omega
        have HKK := Lib.hid hk
        clear hok hve hve2 hve3 k5 k6 hl hvl hlen hlen2 hz hZ hP hx hox hkx hnews hk hmx
        go_enter Tryz.func32, Tryz.ntmps32
        go_wp2_with (at_builtin; refine wpList_append_lies _ rfl _ _ 28 rfl 0 3 i0 (.int .i64 0) 1 8 Tryz.underlying28 hi hy0 hy1 hy2 rfl (by decide) (.slice Q nq qq) nq (intRow L) rfl HOU.out.1.row ⟨w.heap.size + 2, 0, none⟩ 1 1 (intRow [(m : Int)]) rfl rfl HNW.out (int_oneCell _) (by decide) (by unfold maxLen; omega) (by omega) (Nat.zero_le _) _ rfl ?_)
        intro g3 c3 w3 hown hgrow hat hlt3
        have HREL0 : Hid (IntOwn w3 (some ⟨g3, 0, none⟩) (nq + 1) c3 (L ++ [(m : Int)]) ∧ Since v Q (some ⟨g3, 0, none⟩) ∧ Kp Q v w3) :=
          ⟨⟨by rw [intRow_append]; exact hown⟩, (Since.refl v Q).trans (since_at (by rw [World.size_alloc, World.size_alloc, World.size_alloc]; exact hat)) HOU.out.2.1.size, HOU.out.2.1.trans (Kp.of_grown hgrow) (Since.refl _ _)⟩
        clear hown hgrow hat HOU HNW
        obtain ⟨⟨p0, p1, p2, p3, p4⟩, y0, y1, yf0, yf1⟩ := HBX.out w3 HREL0.out.2.2
        go_wp2
        clear p0 p1 p2 p3 p4 y0 y1 yf0 yf1
        go_loopw [0, 44] (fun lv iv wr => ∃ (i : Nat) (Qi : Option Addr) (ni qi : Nat), i ≤ m ∧ iv = .int .i64 i ∧ lv = .slice Qi ni qi ∧ Hid (IntOwn wr Qi ni qi (L ++ [(m : Int)] ++ (Z.take i).flatten) ∧ Since v Q Qi ∧ Kp Q v wr)) (fun _ iv _ => m - (intOf iv).toNat)
        case atStart => exact ⟨0, _, _, _, Nat.zero_le _, rfl, rfl, (by simpa using HREL0.out.1), HREL0.out.2.1, HREL0.out.2.2⟩
        case round =>
          obtain ⟨i, Qi, ni, qi, hi', rfl, rfl, REL⟩ := hrel
          clear HREL0
          by_cases hlt : i < m
          · obtain ⟨e, ge, oe, Ae, ne, ce, he, rfl, hSe, hge, hce, hre⟩ := (HT.out wr REL.out.2.2).get (i := 0) (by omega)
            obtain ⟨f, gf, of', Bf, mf, qf, hf, rfl, hSf, hgf, hcf, hrf⟩ := (HVR.out wr REL.out.2.2).get hlt
            obtain rfl : e = x := by rw [HX.out] at he; simpa using he.symm
            obtain ⟨⟨hzi, hli⟩, hef⟩ := HIE.out i f hf
            have hoe := HOX.out
            have HNX : Hid ((L ++ [(m : Int)] ++ (Z.take i).flatten) ++ vflat d e f = L ++ [(m : Int)] ++ (Z.take (i + 1)).flatten) := by show _ = _; rw [flatten_next hzi, List.append_assoc]
            obtain ⟨Li, hLi⟩ : ∃ Li, L ++ [(m : Int)] ++ (Z.take i).flatten = Li := ⟨_, rfl⟩
            rw [hLi] at hli HNX REL
            clear he hf hzi hLi
            obtain ⟨u, hu⟩ : ∃ u, wr.alloc (.cells #[.int .i64 f.i, .slice Bf mf qf] 27) = u := ⟨_, rfl⟩
            have hwu : Below wr.heap.size wr u := by rw [← hu]; exact allocB _ _
            have hQi : ∀ a, Qi = some a → a.block < wr.heap.size := fun a ha => (row_lt REL.out.1.row a ha).2
            have hQu : offA Qi wr.heap.size := fun a ha => by have := hQi a ha; omega
            have hb2 : Box2 u wr.heap.size (.int .i64 f.i) (.slice Bf mf qf) := by rw [← hu]; exact box2_new _ _ _ _
            have hus : wr.heap.size < u.heap.size := by rw [← hu]; simp
            have hgi : ∀ b, (S b ∧ b < v.heap.size) → offA Qi b := fun b hb => REL.out.2.1.off (HSQ.out b hb.1) hb.2
            have hgi' : ∀ b, (S' b ∧ b < v.heap.size) → offA Qi b := fun b hb => REL.out.2.1.off (HSQ2.out b hb.1) hb.2
            have hvu : v.heap.size ≤ u.heap.size := Nat.le_trans REL.out.2.2.size hwu.size
            have hQt : offA Qi w.heap.size := REL.out.2.1.off HQ0.out (by have := HVS.out; omega)
            have HS : Hid (∀ W, Kp Qi u W → Box5 W w.heap.size (.int .i64 T.k) (.int .i64 T.lo) (.int .i64 T.hi) (.int .i64 T.mx) (.slice (some ⟨ge, oe, none⟩) 1 c) ∧ TyCells W ge (oe) e Ae ne ce ∧ Box2 W wr.heap.size (.int .i64 f.i) (.slice Bf mf qf)) := by
              intro W hW
              refine ⟨((HBX.out wr REL.out.2.2).1.keep' (hwu.block _ (by have := HVS.out; have := REL.out.2.2.size; omega))).keep' (hW.block _ (by have := HVS.out; omega) hQt), ?_, hb2.keep (hW.block _ hus hQu)⟩
              have h1 := hce.keep (hwu.block ge hge)
              have h2 := h1.keep (hW.block ge (Nat.lt_of_lt_of_le hge hwu.size) (hgi ge hSe))
              simpa using h2
            have HF : Hid (Calls Tryz.prog 32 #[.slice Qi ni qi, tyV e Ae ne ce, vlV f Bf mf qf] u.drew (GivesInts (Li ++ vflat d e f) Qi u.drew)) :=
              HI.out _ e Ae ne ce _ d' f Bf mf qf Qi ni qi Li u.drew (TyRd.keep (w := u) (w' := u.drew) (Nat.le_refl _) (fun _ _ _ => rfl) (fun _ h => h) (hre.below hwu)) hoe (VlRd.keep (w := u) (w' := u.drew) (Nat.le_refl _) (fun _ _ _ => rfl) (fun _ h => h) (hrf.below hwu)) hef hgi hgi' (REL.out.1.below hwu).drew hli
            have HU : Hid (wr.alloc (.cells #[.int .i64 f.i, .slice Bf mf qf] 27) = u ∧ Below wr.heap.size wr u) := ⟨hu, hwu⟩
            have hk : Kp Qi u u.drew := (Kp.refl Qi u).drew
            obtain ⟨⟨p0, p1, p2, p3, p4⟩, y0, y1, yf0, yf1⟩ := HBX.out wr REL.out.2.2
            obtain ⟨c0', c1'⟩ := hcf
            clear hu hwu hQi hQu hb2 hus hgi hgi' hvu hQt hce hre hrf hoe hef hli hSe hge hSf hgf
            go_wp2_with fail
            rw [HU.out.1]
            refine wp_region_held_drew (S := fun W => Kp Qi u W) (by kernel_rfl) hk (fun hHeld => ?_)
            refine tkH (i := 0) (oi := ⟨some 48, _, _, _, _, _⟩) (v := ?_) ?_ ?_
            rotate_left
            · intro w hSw; go_simp; try with_reducible rfl
            try simp only [Act.put, List.setIfInBounds_toArray, List.set_cons_zero, List.set_cons_succ]
            refine tkH (i := 1) (oi := ⟨some 49, _, _, _, _, _⟩) (v := ?_) ?_ ?_
            rotate_left
            · intro w hSw; go_simp; try with_reducible rfl
            try simp only [Act.put, List.setIfInBounds_toArray, List.set_cons_zero, List.set_cons_succ]
            refine tkH (i := 2) (oi := ⟨some 50, _, _, _, _, _⟩) (v := ?_) ?_ ?_
            rotate_left
            · intro w hSw
              obtain ⟨⟨p0, p1, p2, p3, p4⟩, ⟨q0, q1, q2, q3, q4⟩, r0, r1, f0, f1⟩ := HS.out w hSw
              go_simp
              try with_reducible rfl
            try simp only [Act.put, List.setIfInBounds_toArray, List.set_cons_zero, List.set_cons_succ]
            refine tkH (i := 3) (oi := ⟨some 51, _, _, _, _, _⟩) (v := ?_) ?_ ?_
            rotate_left
            · intro w hSw; go_simp; try with_reducible rfl
            try simp only [Act.put, List.setIfInBounds_toArray, List.set_cons_zero, List.set_cons_succ]
            refine tkH (i := 4) (oi := ⟨some 52, _, _, _, _, _⟩) (v := ?_) ?_ ?_
            rotate_left
            · intro w hSw
              obtain ⟨⟨p0, p1, p2, p3, p4⟩, ⟨q0, q1, q2, q3, q4⟩, r0, r1, f0, f1⟩ := HS.out w hSw
              go_simp
              try with_reducible rfl
            try simp only [Act.put, List.setIfInBounds_toArray, List.set_cons_zero, List.set_cons_succ]
            refine tkH (i := 5) (oi := ⟨some 53, _, _, _, _, _⟩) (v := ?_) ?_ ?_
            rotate_left
            · intro w hSw
              obtain ⟨⟨p0, p1, p2, p3, p4⟩, ⟨q0, q1, q2, q3, q4⟩, r0, r1, f0, f1⟩ := HS.out w hSw
              go_simp
              try with_reducible rfl
            try simp only [Act.put, List.setIfInBounds_toArray, List.set_cons_zero, List.set_cons_succ]
            refine wpAnyH_ready (rs := [6]) (by kernel_rfl) (by simp) ?_
            refine AllReadyH.cons (o := ⟨some 54, _, _, _, _, _⟩) rfl (fun K hK => ?_) AllReadyH.nil
            go_simp
            go_at_call 32
            (with_reducible refine HF.out.mono ?_)
            rintro e1 w1 ⟨Q1, m1, k1, rfl, hO1, hS1, hK1⟩
            have hk1 : Kp Qi u w1 := hk.trans hK1 (Since.refl _ _)
            go_wp2_with fail
            refine hK.out _ _ hk1 (fun hHeld => ?_)
            clear hK K
            try simp only [Act.put, List.setIfInBounds_toArray, List.set_cons_zero, List.set_cons_succ]
            refine tkH (i := 7) (oi := ⟨some 0, _, _, _, _, _⟩) (v := ?_) ?_ ?_
            rotate_left
            · intro w hSw; go_simp; try with_reducible rfl
            try simp only [Act.put, List.setIfInBounds_toArray, List.set_cons_zero]
            refine wpAnyH_done (by kernel_rfl) ?_ _
            have HREL : Hid (IntOwn w1 Q1 m1 k1 (Li ++ vflat d e f) ∧ Since v Q Q1 ∧ Kp Q v w1) := ⟨hO1, REL.out.2.1.trans hS1 (Nat.le_trans REL.out.2.2.size HU.out.2.size), (REL.out.2.2.trans (Kp.of_below HU.out.2) (Since.refl _ _)).trans hk1 REL.out.2.1⟩
            clear hO1 hS1 hK1 hk hk1 HF HS HU hHeld
            rw [HNX.out] at HREL
            go_wp2
            go_roundw
            case rel => exact ⟨i + 1, _, _, _, by omega, by go_num, rfl, HREL⟩
            case measure => simp [intOf] <;> omega
          · obtain rfl : i = m := by omega
            have hfull : (Z.take i).flatten = Z.flatten := by rw [List.take_of_length_le (by rw [HZN.out]; exact Nat.le_refl _)]
            rw [hfull] at REL
            have REL1 := REL
            clear hfull REL
            obtain ⟨⟨p0, p1, p2, p3, p4⟩, y0, y1, yf0, yf1⟩ := HBX.out wr REL1.out.2.2
            have hkk := HKK.out
            have e1 : IntKind.i64.wrap (T.mx - (i : Int)) = (k : Int) := by rw [hkk, IntKind.wrap_i64]; omega
            go_wp2
            clear p0 p1 p2 p3 p4 y0 y1 yf0 yf1 e1 hkk
            go_loopw [0, 62] (fun lv iv wr => ∃ (j : Nat) (Qi : Option Addr) (ni qi : Nat), j ≤ k ∧ iv = .int .i64 j ∧ lv = .slice Qi ni qi ∧ Hid (IntOwn wr Qi ni qi (L ++ [(i : Int)] ++ Z.flatten ++ (P.take j).flatten) ∧ Since v Q Qi ∧ Kp Q v wr)) (fun _ iv _ => k - (intOf iv).toNat)
            case atStart => exact ⟨0, _, _, _, Nat.zero_le _, rfl, rfl, (by simpa using REL1.out.1), REL1.out.2.1, REL1.out.2.2⟩
            case round =>
              obtain ⟨j, Qi, ni, qi, hj', rfl, rfl, REL⟩ := hrel
              clear REL1
              obtain ⟨⟨p0, p1, p2, p3, p4⟩, y0, y1, yf0, yf1⟩ := HBX.out wr REL.out.2.2
              by_cases hlt : j < k
              · obtain ⟨e, ge, oe, Ae, ne, ce, he, rfl, hSe, hge, hce, hre⟩ := (HT.out wr REL.out.2.2).get (i := 0) (by omega)
                obtain rfl : e = x := by rw [HX.out] at he; simpa using he.symm
                obtain ⟨hpj, hli⟩ := HIZ.out j hlt
                have hoe := HOX.out
                have HNX : Hid ((L ++ [(i : Int)] ++ Z.flatten ++ (P.take j).flatten) ++ vflat d e (vzero d e) = L ++ [(i : Int)] ++ Z.flatten ++ (P.take (j + 1)).flatten) := by show _ = _; rw [flatten_next hpj, List.append_assoc]
                obtain ⟨Li, hLi⟩ : ∃ Li, L ++ [(i : Int)] ++ Z.flatten ++ (P.take j).flatten = Li := ⟨_, rfl⟩
                rw [hLi] at hli HNX REL
                have hQi : ∀ a, Qi = some a → a.block < wr.heap.size := fun a ha => (row_lt REL.out.1.row a ha).2
                have hgi : ∀ b, (S b ∧ b < v.heap.size) → offA Qi b := fun b hb => REL.out.2.1.off (HSQ.out b hb.1) hb.2
                have hQt : offA Qi w.heap.size := REL.out.2.1.off HQ0.out (by have := HVS.out; omega)
                have hvr := REL.out.2.2.size
                have HS : Hid (∀ W, Kp Qi wr W → Box5 W w.heap.size (.int .i64 T.k) (.int .i64 T.lo) (.int .i64 T.hi) (.int .i64 T.mx) (.slice (some ⟨ge, oe, none⟩) 1 c) ∧ TyCells W ge oe e Ae ne ce) := by
                  intro W hW
                  refine ⟨(HBX.out wr REL.out.2.2).1.keep' (hW.block _ (by have := HVS.out; omega) hQt), ?_⟩
                  have h2 := hce.keep (hW.block ge hge (hgi ge hSe))
                  simpa using h2
                have HZ := Lib.hid (zero_x d _ e Ae ne ce wr.drew (TyRd.keep (w := wr) (w' := wr.drew) (Nat.le_refl _) (fun _ _ _ => rfl) (fun _ h => h) hre) hoe)
                have HF2 : Hid (∀ B1 m1 k1 w1, VlRd (fun b => wr.drew.heap.size ≤ b) w1 d (vzero d e) B1 m1 k1 → Below wr.drew.heap.size wr.drew w1 → Calls Tryz.prog 32 #[.slice Qi ni qi, tyV e Ae ne ce, vlV (vzero d e) B1 m1 k1] w1 (GivesInts (Li ++ vflat d e (vzero d e)) Qi w1)) := by
                  intro B1 m1 k1 w1 hz1 hb1
                  have hb2 : Below wr.heap.size wr w1 := ⟨hb1.os, hb1.tape, hb1.output, hb1.size, hb1.block⟩
                  exact HI.out _ e Ae ne ce _ d (vzero d e) B1 m1 k1 Qi ni qi Li w1 (hre.below hb2) hoe hz1 (verr_zero (HKX.out) hre.deep hoe) hgi (fun b hb a ha => by have h1 := hQi a ha; have h2 : wr.heap.size ≤ b := hb; omega) (REL.out.1.below hb2) hli
                have hk : Kp Qi wr wr.drew := (Kp.refl Qi wr).drew
                clear he hpj hLi hQi hgi hQt hvr hSe hge hce hre hoe hli
                go_wp2_with fail
                refine wp_region_held_drew (S := fun W => Kp Qi wr W) (by kernel_rfl) hk (fun hHeld => ?_)
                refine tkH (i := 0) (oi := ⟨some 64, _, _, _, _, _⟩) (v := ?_) ?_ ?_
                rotate_left
                · intro w hSw; go_simp; try with_reducible rfl
                try simp only [Act.put, List.setIfInBounds_toArray, List.set_cons_zero, List.set_cons_succ]
                refine tkH (i := 1) (oi := ⟨some 65, _, _, _, _, _⟩) (v := ?_) ?_ ?_
                rotate_left
                · intro w hSw; go_simp; try with_reducible rfl
                try simp only [Act.put, List.setIfInBounds_toArray, List.set_cons_zero, List.set_cons_succ]
                refine tkH (i := 2) (oi := ⟨some 66, _, _, _, _, _⟩) (v := ?_) ?_ ?_
                rotate_left
                · intro w hSw
                  obtain ⟨⟨p0, p1, p2, p3, p4⟩, ⟨q0, q1, q2, q3, q4⟩⟩ := HS.out w hSw
                  go_simp
                  try with_reducible rfl
                try simp only [Act.put, List.setIfInBounds_toArray, List.set_cons_zero, List.set_cons_succ]
                refine tkH (i := 3) (oi := ⟨some 67, _, _, _, _, _⟩) (v := ?_) ?_ ?_
                rotate_left
                · intro w hSw; go_simp; try with_reducible rfl
                try simp only [Act.put, List.setIfInBounds_toArray, List.set_cons_zero, List.set_cons_succ]
                refine tkH (i := 4) (oi := ⟨some 68, _, _, _, _, _⟩) (v := ?_) ?_ ?_
                rotate_left
                · intro w hSw
                  obtain ⟨⟨p0, p1, p2, p3, p4⟩, ⟨q0, q1, q2, q3, q4⟩⟩ := HS.out w hSw
                  go_simp
                  try with_reducible rfl
                try simp only [Act.put, List.setIfInBounds_toArray, List.set_cons_zero, List.set_cons_succ]
                refine tkH (i := 5) (oi := ⟨some 69, _, _, _, _, _⟩) (v := ?_) ?_ ?_
                rotate_left
                · intro w hSw; go_simp; try with_reducible rfl
                try simp only [Act.put, List.setIfInBounds_toArray, List.set_cons_zero, List.set_cons_succ]
                refine tkH (i := 6) (oi := ⟨some 70, _, _, _, _, _⟩) (v := ?_) ?_ ?_
                rotate_left
                · intro w hSw
                  obtain ⟨⟨p0, p1, p2, p3, p4⟩, ⟨q0, q1, q2, q3, q4⟩⟩ := HS.out w hSw
                  go_simp
                  try with_reducible rfl
                try simp only [Act.put, List.setIfInBounds_toArray, List.set_cons_zero, List.set_cons_succ]
                refine tkH (i := 7) (oi := ⟨some 71, _, _, _, _, _⟩) (v := ?_) ?_ ?_
                rotate_left
                · intro w hSw; go_simp; try with_reducible rfl
                try simp only [Act.put, List.setIfInBounds_toArray, List.set_cons_zero, List.set_cons_succ]
                refine tkH (i := 8) (oi := ⟨some 72, _, _, _, _, _⟩) (v := ?_) ?_ ?_
                rotate_left
                · intro w hSw
                  obtain ⟨⟨p0, p1, p2, p3, p4⟩, ⟨q0, q1, q2, q3, q4⟩⟩ := HS.out w hSw
                  go_simp
                  try with_reducible rfl
                try simp only [Act.put, List.setIfInBounds_toArray, List.set_cons_zero, List.set_cons_succ]
                refine wpAnyH_ready (rs := [9]) (by kernel_rfl) (by simp) ?_
                refine AllReadyH.cons (o := ⟨some 73, _, _, _, _, _⟩) rfl (fun K hK => ?_) AllReadyH.nil
                go_simp
                go_at_call 38
                (with_reducible refine HZ.out.mono ?_)
                rintro e1 w1 ⟨B1, m1, k1, rfl, hrz, hbz⟩
                have hk1 : Kp Qi wr w1 := hk.trans (Kp.of_below hbz) (Since.refl _ _)
                have HF1 := Lib.hid (HF2.out _ _ _ _ hrz hbz)
                clear hrz hbz
                go_wp2_with fail
                refine hK.out _ _ hk1 (fun hHeld => ?_)
                clear hK K
                try simp only [Act.put, List.setIfInBounds_toArray, List.set_cons_zero, List.set_cons_succ]
                refine wpAnyH_ready (rs := [10]) (by kernel_rfl) (by simp) ?_
                refine AllReadyH.cons (o := ⟨some 74, _, _, _, _, _⟩) rfl (fun K hK => ?_) AllReadyH.nil
                go_simp
                go_at_call 32
                (with_reducible refine HF1.out.mono ?_)
                rintro e2 w2 ⟨Q2, m2, k2, rfl, hO2, hS2, hK2⟩
                have hk2 : Kp Qi wr w2 := hk1.trans hK2 (Since.refl _ _)
                go_wp2_with fail
                refine hK.out _ _ hk2 (fun hHeld => ?_)
                clear hK K
                try simp only [Act.put, List.setIfInBounds_toArray, List.set_cons_zero, List.set_cons_succ]
                refine tkH (i := 11) (oi := ⟨some 0, _, _, _, _, _⟩) (v := ?_) ?_ ?_
                rotate_left
                · intro w hSw; go_simp; try with_reducible rfl
                try simp only [Act.put, List.setIfInBounds_toArray, List.set_cons_zero]
                refine wpAnyH_done (by kernel_rfl) ?_ _
                have HREL : Hid (IntOwn w2 Q2 m2 k2 (Li ++ vflat d e (vzero d e)) ∧ Since v Q Q2 ∧ Kp Q v w2) := ⟨hO2, REL.out.2.1.trans hS2 (Nat.le_trans REL.out.2.2.size hk1.size), REL.out.2.2.trans hk2 REL.out.2.1⟩
                clear hO2 hS2 hK2 hk hk1 hk2 HF1 HF2 HS HZ hHeld
                rw [HNX.out] at HREL
                go_wp2
                go_roundw
                case rel => exact ⟨j + 1, _, _, _, by omega, by go_num, rfl, HREL⟩
                case measure => simp [intOf] <;> omega
              · obtain rfl : j = k := by omega
                have hfull : (P.take j).flatten = P.flatten := by rw [List.take_of_length_le (by rw [HPN.out]; exact Nat.le_refl _)]
                have hall : L ++ [(i : Int)] ++ Z.flatten ++ P.flatten = L ++ vflat (d + 1) T V := by rw [HF0.out]; simp
                rw [hfull, hall] at REL
                clear hfull hall
                go_wp2
                go_ret
                exact ⟨_, _, _, rfl, REL.out.1, fun a ha => (REL.out.2.1 a ha).imp id fun h => Nat.le_trans HWV.out.size h, (Kp.of_below HWV.out).trans REL.out.2.2 (Since.refl _ _)⟩
      · have b6 : (T.k == 6) = false := by simpa using k6
        have HF : Hid (vflat (d + 1) T V = [V.i]) := by show _ = _; simp only [vflat, if_neg k5, if_neg k6]
        have hlen2 : nq ≤ 1000 := by omega
        have HOU : Hid (IntOwn (((w.alloc (.cells #[.int .i64 T.k, .int .i64 T.lo, .int .i64 T.hi, .int .i64 T.mx, .slice A n c] 24)).alloc (.cells #[.int .i64 V.i, .slice B m q] 27)).alloc (.cells #[.int .i64 V.i] 3)) Q nq qq L ∧ Kp Q w (((w.alloc (.cells #[.int .i64 T.k, .int .i64 T.lo, .int .i64 T.hi, .int .i64 T.mx, .slice A n c] 24)).alloc (.cells #[.int .i64 V.i, .slice B m q] 27)).alloc (.cells #[.int .i64 V.i] 3)) ∧ ((w.alloc (.cells #[.int .i64 T.k, .int .i64 T.lo, .int .i64 T.hi, .int .i64 T.mx, .slice A n c] 24)).alloc (.cells #[.int .i64 V.i, .slice B m q] 27)).heap.size = w.heap.size + 2) := by
          rw [HVV.out]
          exact ⟨HOV.out.below (allocB _ _), Kp.of_below (nextB HWV.out (allocB _ _)), HVS.out⟩
        have hnews : ∀ j y, (intRow [V.i])[j]? = some y → (((w.alloc (.cells #[.int .i64 T.k, .int .i64 T.lo, .int .i64 T.hi, .int .i64 T.mx, .slice A n c] 24)).alloc (.cells #[.int .i64 V.i, .slice B m q] 27)).alloc (.cells #[.int .i64 V.i] 3)).cell? ((⟨w.heap.size + 2, 0, none⟩ : Addr).add j) = some y := by
          rw [← HOU.out.2.2]
          exact fun j y hy => World.news_of_block (heap_alloc_new _ _) j y (by simpa [intRow] using hy)
        have HNW := Lib.hid hnews
        clear hok hve k5 k6 hl hvl hlen HI HT HVR HSQ HSQ2 hnews HVV HBX HQ0 HQ1
        go_enter Tryz.func32, Tryz.ntmps32
        go_wp2_with (at_builtin; refine wpList_append_lies _ rfl _ _ 28 rfl 0 3 i0 (.int .i64 0) 1 8 Tryz.underlying28 hi hy0 hy1 hy2 rfl (by decide) (.slice Q nq qq) nq (intRow L) rfl HOU.out.1.row ⟨w.heap.size + 2, 0, none⟩ 1 1 (intRow [V.i]) rfl rfl HNW.out (int_oneCell _) (by decide) (by unfold maxLen; omega) (by omega) (Nat.zero_le _) _ rfl ?_)
        intro g3 c3 w3 hown hgrow hat hlt3
        have HK3 := Lib.hid (HOU.out.2.1.trans (Kp.of_grown hgrow) (Since.refl _ _))
        have HO3 : Hid (IntOwn w3 (some ⟨g3, 0, none⟩) (nq + 1) c3 (L ++ vflat (d + 1) T V)) := ⟨by rw [HF.out, intRow_append]; exact hown⟩
        have HS3 : Hid (Since w Q (some ⟨g3, 0, none⟩)) := (Since.refl w Q).trans (since_at (by rw [World.size_alloc, World.size_alloc, World.size_alloc]; exact hat)) HOU.out.2.1.size
        clear hown hgrow hat
        go_wp2
        go_ret
        exact ⟨_, _, _, rfl, HO3.out, HS3.out, HK3.out⟩

def GivesFlat (l : List Int) (w : World) (e : Ending) (w' : World) : Prop := ∃ Q n q, e = .returned (.tuple #[.slice Q n q, .int .i64 0]) ∧ IntOwn w' Q n q l ∧ (∀ a, Q = some a → w.heap.size ≤ a.block) ∧ Below w.heap.size w w'
set_option maxHeartbeats 4000000 in
theorem Flatten_x (S : Nat → Prop) (d : Nat) (T : Ty) (A : Option Addr) (n c : Nat) (w : World) (h : TyRd S w d T A n c) (hg : Good d T) (hk : T.k ≠ 4) (S' : Nat → Prop) (d' : Nat) (V : Vl) (B : Option Addr) (m q : Nat) (hv : VlRd S' w d' V B m q) (hve : verr d T V = 0) (hlen : (vflat d T V).length ≤ 1000) :
    Calls Tryz.prog 16 #[tyV T A n c, vlV V B m q] w (GivesFlat (vflat d T V) w) := by
  obtain ⟨v, hvv⟩ : ∃ v, (w.alloc (.cells #[.int .i64 T.k, .int .i64 T.lo, .int .i64 T.hi, .int .i64 T.mx, .slice A n c] 24)).alloc (.cells #[.int .i64 V.i, .slice B m q] 27) = v := ⟨_, rfl⟩
  obtain ⟨hvs, hwv, hbx⟩ := boxes_tv w _ _ _ _ _ _ _ _ _ v hvv
  have hCk := Check_x S d T A n c v (h.below hwv) hg hk S' d' V B m q (hv.below hwv)
  rw [hve] at hCk
  have HF := Lib.hid hCk
  have HC : Hid (∀ W, Below v.heap.size v W → Calls Tryz.prog 32 #[.slice none 0 0, tyV T A n c, vlV V B m q] W (GivesInts (vflat d T V) none W)) := by
    intro W hW
    have := cells_x d S T A n c S' d' V B m q none 0 0 [] W (h.below (nextB hwv hW)) hg.ok (hv.below (nextB hwv hW)) hve (fun b _ a ha => by cases ha) (fun b _ a ha => by cases ha) (IntOwn.nil W) (by simpa using hlen)
    simpa using this
  have HBX := Lib.hid hbx
  have HVV := Lib.hid hvv
  have HWV := Lib.hid hwv
  clear h hg hk hv hvv hbx hwv hvs hCk hve hlen
  go_enter Tryz.func16, Tryz.ntmps16
  go_wp2_with fail
  rw [HVV.out]
  refine HF.out.mono ?_
  rintro e1 w1 ⟨rfl, hb⟩
  obtain ⟨⟨p0, p1, p2, p3, p4⟩, r0, r1, f0, f1⟩ := HBX.out w1 hb
  have HC1 := Lib.hid (HC.out w1 hb)
  clear HF HC
  go_wp2_with fail
  refine HC1.out.mono ?_
  rintro e2 w2 ⟨Q, nq, qq, rfl, hO, hS, hK⟩
  have hB := nextB HWV.out (nextB hb (hK.below rfl))
  have hQ : ∀ a, Q = some a → w.heap.size ≤ a.block := fun a ha => by
    rcases hS a ha with ⟨a0, h0, _⟩ | h1
    · cases h0
    · exact Nat.le_trans (nextB HWV.out hb).size h1
  clear hb HC1 HBX p0 p1 p2 p3 p4 r0 r1 f0 f1 hK hS
  go_wp2
  go_ret2
  exact ⟨_, _, _, rfl, hO, hQ, hB⟩
end Go.Proofs.YtklndjkblfncjaaGreatDoor
