/-
  The reference's flat: the cells of a value.
-/
import Derived.Test.YtklndjkblfncjaaGreatDoorRefZ7
import Derived.Test.YtklndjkblfncjaaGreatDoorCel7
import Derived.Test.YtklndjkblfncjaaGreatDoorZerP
namespace Go.Proofs.YtklndjkblfncjaaGreatDoor
open Go Go.RowKit
set_option maxRecDepth 20000

/-- A row of ints in blocks from base on. -/
structure IntNew (w : World) (base : Nat) (Q : Option Addr) (n q : Nat) (l : List Int) : Prop where
  row : w.ownsRow base 3 1 (.slice Q n q) n (intRow l)
theorem ownsRow_base {w : World} {base base' : Nat} {t : TypeId} {sz n : Nat} {v : Value} {xs : List Value} (h : w.ownsRow base t sz v n xs) (hb : base' ≤ base) : w.ownsRow base' t sz v n xs := by
  refine ⟨h.1, ?_⟩
  rcases h.2 with e | ⟨g, cap, cur, e, hg, rest⟩
  · exact .inl e
  · exact .inr ⟨g, cap, cur, e, Nat.le_trans hb hg, rest⟩
theorem IntNew.mono {w : World} {base base' : Nat} {Q : Option Addr} {n q : Nat} {l : List Int} (h : IntNew w base Q n q l) (hb : base' ≤ base) : IntNew w base' Q n q l := ⟨ownsRow_base h.row hb⟩
theorem IntNew.own {w : World} {base : Nat} {Q : Option Addr} {n q : Nat} {l : List Int} (h : IntNew w base Q n q l) : IntOwn w Q n q l := ⟨ownsRow_base h.row (Nat.zero_le _)⟩
theorem IntNew.len {w : World} {base : Nat} {Q : Option Addr} {n q : Nat} {l : List Int} (h : IntNew w base Q n q l) : l.length = n := h.own.len
theorem IntNew.below {w w' : World} {base : Nat} {Q : Option Addr} {n q : Nat} {l : List Int} (h : IntNew w base Q n q l) (hb : Below w.heap.size w w') : IntNew w' base Q n q l :=
  ⟨row_keep h.row fun a ha => hb.block _ (row_lt h.row a ha).2⟩
theorem IntNew.setB {w : World} {base : Nat} {Q : Option Addr} {n q b j : Nat} {l : List Int} {u : Value} (h : IntNew w base Q n q l) (hb : ∀ a, Q = some a → a.block ≠ b) : IntNew (w.setCell ⟨b, j, none⟩ u) base Q n q l :=
  ⟨row_keep h.row fun a ha => Below.heap_setCell _ _ _ _ (hb a ha)⟩
theorem IntNew.one {w : World} {base g : Nat} (hb : base ≤ g) (hg : w.heap.size = g) (x : Int) : IntNew (w.alloc (.cells #[.int .i64 x] 3)) base (some ⟨g, 0, none⟩) 1 1 [x] := by
  subst hg
  exact ⟨⟨rfl, .inr ⟨w.heap.size, 1, #[.int .i64 x], rfl, hb, heap_alloc_new w _, Nat.le_refl _, by decide, rfl, rfl⟩⟩⟩
def GivesNew (l : List Int) (w : World) (e : Ending) (w' : World) : Prop := ∃ Q n q, e = .returned (.slice Q n q) ∧ IntNew w' w.heap.size Q n q l ∧ Below w.heap.size w w'
def FlatAt (d : Nat) : Prop := ∀ (S : Nat → Prop) (T : Ty) (A : Option Addr) (n c : Nat) (S' : Nat → Prop) (d' : Nat) (V : Vl) (B : Option Addr) (m q : Nat) (w : World),
  TyRd S w d T A n c → TyOk d T → VlRd S' w d' V B m q → verr d T V = 0 → (vflat d T V).length ≤ 1000 → Calls Tryz.prog 31 #[tyV T A n c, vlV V B m q] w (GivesNew (vflat d T V) w)

set_option maxHeartbeats 16000000 in
theorem flat_x : ∀ d, FlatAt d
  | 0, _, _, _, _, _, _, _, _, _, _, _, _, h, _, _, _, _ => h.elim
  | d + 1, S, T, A, n0, c, S', d'', V, B, m, q0, w, h, hok, hv, hve, hlen => by
    have IH := flat_x d
    obtain ⟨i0, hi, hy0, hy1, hy2⟩ := info_parts info_int
    obtain ⟨hl, hcap, htop⟩ := h.len
    obtain ⟨hvl, hvcap, hvtop⟩ := hv.len
    unfold maxLen at htop hvtop
    cases d'' with
    | zero => exact hv.elim
    | succ d' =>
    obtain ⟨v, hvv⟩ : ∃ v, (w.alloc (.cells #[.int .i64 T.k, .int .i64 T.lo, .int .i64 T.hi, .int .i64 T.mx, .slice A n0 c] 24)).alloc (.cells #[.int .i64 V.i, .slice B m q0] 27) = v := ⟨_, rfl⟩
    obtain ⟨hvs, hwv, hbx⟩ := boxes_tv w _ _ _ _ _ _ _ _ _ v hvv
    have HBX := Lib.hid hbx
    have HVV := Lib.hid hvv
    have HWV := Lib.hid hwv
    have HVS := Lib.hid hvs
    have hdp := h.deep
    clear hvv hvs hbx
    by_cases k5 : T.k = 5
    · have b5 : (T.k == 5) = true := by simpa using k5
      obtain ⟨hz, hn2, hn4, hels⟩ := hok.tuple k5
      obtain ⟨hc1, hc2, hve3⟩ := verr_tuple k5 hve
      have hmn : m = n0 := by rw [← hvl, hc1, hl]
      subst hmn
      obtain ⟨P, hP⟩ : ∃ P, List.zipWith (vflat d) T.es V.es = P := ⟨_, rfl⟩
      have HF0 : Hid (vflat (d + 1) T V = P.flatten) := by show _ = _; simp only [vflat, if_pos k5]; rw [hP]
      have HIE : Hid (∀ i e f, T.es[i]? = some e → V.es[i]? = some f → ((P.take (i + 1)).flatten = (P.take i).flatten ++ vflat d e f ∧ (P.take i).flatten.length + (vflat d e f).length ≤ 1000 ∧ 0 < (vflat d e f).length) ∧ TyOk d e ∧ verr d e f = 0) := by
        intro i e f he hf
        have h1 : P[i]? = some (vflat d e f) := by rw [← hP]; exact zip_get _ he hf
        have h2 := flatten_take_le P (i + 1)
        rw [flatten_next h1, List.length_append] at h2
        rw [HF0.out] at hlen
        have hoe := (hels e (List.mem_of_getElem? he)).1
        have hef := firstE_zero.1 hve3 _ (List.mem_of_getElem? (zip_get (verr d) he hf))
        have hde := hdp e (List.mem_of_getElem? he)
        have hw := flat_width d e f hde hoe hef
        have hp := width_pos d e hde hoe
        exact ⟨⟨flatten_next h1, by omega, by omega⟩, hoe, hef⟩
      have HPN : Hid (P.length = m) := by show _ = _; rw [← hP, List.length_zipWith, hl, hvl]; omega
      have H := Lib.hid h
      have HVR := Lib.hid hv
      have HI := Lib.hid IH
      clear h hok hv hve hve3 IH k5 hl hvl hlen hels hz hP hn2 hn4 hc1 hc2 hdp
      have hvw := HWV.out.size
      go_enter Tryz.func31, Tryz.ntmps31
      go_wp2
      rw [HVV.out]
      go_loopw [5, 6] (fun lv iv wr => ∃ (n : Nat) (Q : Option Addr) (q t : Nat), n ≤ m ∧ iv = .int .i64 n ∧ lv = .slice Q t q ∧ Hid (IntNew wr v.heap.size Q t q (P.take n).flatten ∧ Below v.heap.size v wr)) (fun _ iv _ => m - (intOf iv).toNat)
      case atStart => exact ⟨0, none, 0, 0, Nat.zero_le _, rfl, rfl, ⟨by simpa [intRow] using World.ownsRow_nil v v.heap.size _ _⟩, Below.refl _ _⟩
      case round =>
        obtain ⟨n, Q, q, t, hn, rfl, rfl, REL⟩ := hrel
        obtain ⟨⟨p0, p1, p2, p3, p4⟩, r0, r1, f0, f1⟩ := HBX.out wr REL.out.2
        by_cases hlt : n < m
        · obtain ⟨e, ge, oe, Ae, ne, ce, he, rfl, _, hge, hce, hre⟩ := (H.out.below (nextB HWV.out REL.out.2)).get hlt
          obtain ⟨f, gf, of', Bf, mf, qf, hf, rfl, _, hgf, hcf, hrf⟩ := (HVR.out.below (nextB HWV.out REL.out.2)).get hlt
          obtain ⟨⟨hpi, hle, hpos⟩, hoe, hef⟩ := HIE.out n e f he hf
          have ht := REL.out.1.len
          rw [ht] at hle
          have HT : Hid (∀ W, Below v.heap.size v W → Box5 W w.heap.size (.int .i64 T.k) (.int .i64 T.lo) (.int .i64 T.hi) (.int .i64 T.mx) (.slice (some ⟨ge, oe, none⟩) m c) ∧ TyCells W ge (oe + n * 5) e Ae ne ce ∧ W.cell? ⟨w.heap.size + 1, 1, none⟩ = some (.slice (some ⟨gf, of', none⟩) m q0) ∧ W.cell? ⟨w.heap.size + 1, 0, none⟩ = some (.int .i64 V.i) ∧ VlCells W gf (of' + n * 2) f Bf mf qf) := by
            have hge2 : ge < v.heap.size := by
              obtain ⟨_, _, _, _, _, _, _, hA2, _, hg2, _⟩ := H.out.get hlt
              injection hA2 with hA2
              injection hA2 with hA2 _
              rw [hA2]; omega
            have hgf2 : gf < v.heap.size := by
              obtain ⟨_, _, _, _, _, _, _, hA2, _, hg2, _⟩ := HVR.out.get hlt
              injection hA2 with hA2
              injection hA2 with hA2 _
              rw [hA2]; omega
            intro W hW
            obtain ⟨x1, x2⟩ := HBX.out W hW
            exact ⟨x1, hce.keep ((hW.block ge hge2).trans (REL.out.2.block ge hge2).symm), x2.2.1, x2.1, hcf.keep ((hW.block gf hgf2).trans (REL.out.2.block gf hgf2).symm)⟩
          have HF : Hid (∀ W, Below wr.heap.size wr W → Calls Tryz.prog 31 #[tyV e Ae ne ce, vlV f Bf mf qf] W (GivesNew (vflat d e f) W)) := fun W hW => HI.out S e Ae ne ce S' d' f Bf mf qf W (hre.below hW) hoe (hrf.below hW) hef (by omega)
          have HBT : Hid (∀ W, Below wr.heap.size wr W → Below v.heap.size v W) := fun W hW => nextB REL.out.2 hW
          obtain ⟨pe, hpe⟩ : ∃ pe, vflat d e f = pe := ⟨_, rfl⟩
          rw [hpe] at hpi hle hpos HF
          have HPI := Lib.hid hpi
          have hk := (Below.refl wr.heap.size wr).drew
          clear he hf hre hrf hce hcf hpi hpe hoe hef hge hgf ht
          go_wp2_with fail
          clear p0 p1 p2 p3 p4 r0 r1 f0 f1
          refine wp_region_held_drew (S := fun W => Below v.heap.size v W) (by kernel_rfl) (HBT.out _ hk) (fun hHeld => ?_)
          refine tkH (i := 0) (oi := ⟨some 21, _, _, _, _, _⟩) (v := ?_) ?_ ?_
          rotate_left
          · intro w hSw; go_simp; try with_reducible rfl
          try simp only [Act.put, List.setIfInBounds_toArray, List.set_cons_zero, List.set_cons_succ]
          refine tkH (i := 1) (oi := ⟨some 22, _, _, _, _, _⟩) (v := ?_) ?_ ?_
          rotate_left
          · intro w hSw; go_simp; try with_reducible rfl
          try simp only [Act.put, List.setIfInBounds_toArray, List.set_cons_zero, List.set_cons_succ]
          refine tkH (i := 2) (oi := ⟨some 23, _, _, _, _, _⟩) (v := ?_) ?_ ?_
          rotate_left
          · intro w hSw
            obtain ⟨⟨p0, p1, p2, p3, p4⟩, ⟨q0, q1, q2, q3, q4⟩, r0, r1, z0, z1⟩ := HT.out w hSw
            go_simp
            try with_reducible rfl
          try simp only [Act.put, List.setIfInBounds_toArray, List.set_cons_zero, List.set_cons_succ]
          refine tkH (i := 3) (oi := ⟨some 24, _, _, _, _, _⟩) (v := ?_) ?_ ?_
          rotate_left
          · intro w hSw; go_simp; try with_reducible rfl
          try simp only [Act.put, List.setIfInBounds_toArray, List.set_cons_zero, List.set_cons_succ]
          refine tkH (i := 4) (oi := ⟨some 25, _, _, _, _, _⟩) (v := ?_) ?_ ?_
          rotate_left
          · intro w hSw; go_simp; try with_reducible rfl
          try simp only [Act.put, List.setIfInBounds_toArray, List.set_cons_zero, List.set_cons_succ]
          refine tkH (i := 5) (oi := ⟨some 26, _, _, _, _, _⟩) (v := ?_) ?_ ?_
          rotate_left
          · intro w hSw
            obtain ⟨⟨p0, p1, p2, p3, p4⟩, ⟨q0, q1, q2, q3, q4⟩, r0, r1, z0, z1⟩ := HT.out w hSw
            go_simp
            try with_reducible rfl
          try simp only [Act.put, List.setIfInBounds_toArray, List.set_cons_zero, List.set_cons_succ]
          refine tkH (i := 6) (oi := ⟨some 27, _, _, _, _, _⟩) (v := ?_) ?_ ?_
          rotate_left
          · intro w hSw; go_simp; try with_reducible rfl
          try simp only [Act.put, List.setIfInBounds_toArray, List.set_cons_zero, List.set_cons_succ]
          refine tkH (i := 7) (oi := ⟨some 28, _, _, _, _, _⟩) (v := ?_) ?_ ?_
          rotate_left
          · intro w hSw
            obtain ⟨⟨p0, p1, p2, p3, p4⟩, ⟨q0, q1, q2, q3, q4⟩, r0, r1, z0, z1⟩ := HT.out w hSw
            go_simp
            try with_reducible rfl
          try simp only [Act.put, List.setIfInBounds_toArray, List.set_cons_zero, List.set_cons_succ]
          refine tkH (i := 8) (oi := ⟨some 29, _, _, _, _, _⟩) (v := ?_) ?_ ?_
          rotate_left
          · intro w hSw; go_simp; try with_reducible rfl
          try simp only [Act.put, List.setIfInBounds_toArray, List.set_cons_zero, List.set_cons_succ]
          refine tkH (i := 9) (oi := ⟨some 30, _, _, _, _, _⟩) (v := ?_) ?_ ?_
          rotate_left
          · intro w hSw; go_simp; try with_reducible rfl
          try simp only [Act.put, List.setIfInBounds_toArray, List.set_cons_zero, List.set_cons_succ]
          refine tkH (i := 10) (oi := ⟨some 31, _, _, _, _, _⟩) (v := ?_) ?_ ?_
          rotate_left
          · intro w hSw
            obtain ⟨⟨p0, p1, p2, p3, p4⟩, ⟨q0, q1, q2, q3, q4⟩, r0, r1, z0, z1⟩ := HT.out w hSw
            go_simp
            try with_reducible rfl
          try simp only [Act.put, List.setIfInBounds_toArray, List.set_cons_zero, List.set_cons_succ]
          refine wpAnyH_ready (rs := [11]) (by kernel_rfl) (by simp) ?_
          refine AllReadyH.cons (o := ⟨some 32, _, _, _, _, _⟩) rfl (fun K hK => ?_) AllReadyH.nil
          go_simp
          go_at_call 31
          (with_reducible refine (HF.out _ hk).mono ?_)
          rintro e1 w1 ⟨B1, m1, k1, rfl, hO1, hb1⟩
          replace hk := hk.trans (hb1.mono hk.size)
          go_wp2_with fail
          refine hK.out _ _ (HBT.out _ hk) (fun hHeld => ?_)
          clear hK K
          try simp only [Act.put, List.setIfInBounds_toArray, List.set_cons_zero, List.set_cons_succ]
          refine wpAnyH_ready (rs := [12]) (by kernel_rfl) (by simp) ?_
          refine AllReadyH.cons (o := ⟨some 33, _, _, _, _, _⟩) rfl (fun K hK => ?_) AllReadyH.nil
          have hlm := hO1.len
          rw [hlm] at hle hpos
          obtain ⟨gb, rfl, _, _⟩ := row_form hO1.row hpos
          have HO1 := Lib.hid (REL.out.1.below hk)
          have HBB := Lib.hid (HBT.out _ hk)
          have HNW : Hid (∀ j u, (intRow pe)[j]? = some u → w1.cell? ((⟨gb, 0, none⟩ : Addr).add j) = some u) := hO1.row.cells (g := gb) rfl
          have HNL : Hid ((intRow pe).length = m1 * 1) := by show _ = _; rw [intRow_length, hlm]; omega
          refine step_append_lies _ rfl _ _ 28 rfl v.heap.size 3 i0 (.int .i64 0) 1 8 Tryz.underlying28 hi hy0 hy1 hy2 rfl (by decide) (.slice Q t q) t (intRow (P.take n).flatten) rfl HO1.out.row ⟨gb, 0, none⟩ m1 k1 (intRow pe) rfl HNL.out HNW.out (int_oneCell _) hpos (by unfold maxLen; omega) (by omega) HBB.out.size _ rfl ?_
          intro g3 c3 w3 hown hgrow hat hlt3
          have HB3 := Lib.hid (grown_own HBB.out HO1.out.row hgrow HBB.out.size)
          have HO3 : Hid (IntNew w3 v.heap.size (some ⟨g3, 0, none⟩) (t + m1) c3 (P.take (n + 1)).flatten ∧ Below v.heap.size v w3) := ⟨⟨by rw [HPI.out, intRow_append]; exact hown⟩, HB3.out⟩
          clear hown hgrow hat hk hb1 hO1 hlm HO1 HBB HNW HNL HF
          refine hK.out _ _ HB3.out (fun hHeld => ?_)
          clear hK K
          try simp only [Act.put, List.setIfInBounds_toArray, List.set_cons_zero, List.set_cons_succ]
          refine tkH (i := 13) (oi := ⟨some 5, _, _, _, _, _⟩) (v := ?_) ?_ ?_
          rotate_left
          · intro w hSw; go_simp; try with_reducible rfl
          try simp only [Act.put, List.setIfInBounds_toArray, List.set_cons_zero, List.set_cons_succ]
          refine wpAnyH_done (by kernel_rfl) ?_ _
          clear hHeld
          go_wp2
          go_roundw
          case rel => exact ⟨n + 1, _, _, _, by omega, by go_num, rfl, HO3⟩
          case measure => simp [intOf] <;> omega
        · obtain rfl : n = m := by omega
          have hfull : (P.take n).flatten = P.flatten := by rw [List.take_of_length_le (by rw [HPN.out]; exact Nat.le_refl _)]
          rw [hfull, ← HF0.out] at REL
          clear hfull
          go_wp2
          go_ret
          exact ⟨_, _, _, rfl, REL.out.1.mono HWV.out.size, nextB HWV.out REL.out.2⟩
    · have b5 : (T.k == 5) = false := by simpa using k5
      by_cases k6 : T.k = 6
      · have b6 : (T.k == 6) = true := by simpa using k6
        obtain ⟨hz, hm1, hm4, x, hx, hox, hkx⟩ := hok.list k6
        obtain ⟨hc1, hc2, hve3⟩ := verr_list k5 k6 hve
        obtain rfl : n0 = 1 := by rw [← hl, hx]; rfl
        obtain ⟨e, ge, oe, Ae, ne, ce, he, rfl, _, hge, hce, hre⟩ := h.get (i := 0) (by omega)
        obtain rfl : e = x := by rw [hx] at he; simpa using he.symm
        obtain ⟨k, hk⟩ := Int.eq_ofNat_of_zero_le (show 0 ≤ T.mx by omega)
        obtain ⟨Y, hzz⟩ : ∃ Y, vzero d e = Y := ⟨_, rfl⟩
        have hone : ∀ f, vflat d e f = [f.i] := by
          intro f
          cases d with
          | zero => exact hre.elim
          | succ d => simp only [vflat, if_neg (show ¬ e.k = 5 by omega), if_neg (show ¬ e.k = 6 by omega)]
        obtain ⟨Z, hZ⟩ : ∃ Z, V.es.map Vl.i ++ List.replicate (k - m) Y.i = Z := ⟨_, rfl⟩
        have hmk : m ≤ k := by rw [← hvl]; omega
        have hk4 : k ≤ 4 := by omega
        have HZN : Hid (Z.length = k) := by show _ = _; rw [← hZ]; simp [hvl]; omega
        have HF0 : Hid (vflat (d + 1) T V = (m : Int) :: Z) := by
          show _ = _
          have hfn : vflat d e = fun f => [f.i] := funext hone
          simp only [vflat, if_neg k5, if_pos k6, hx, List.headD_cons, hvl, hk, hzz, hfn]
          rw [← hZ]
          have e1 : ∀ l : List Vl, (l.map fun f => [f.i]).flatten = l.map Vl.i := by
            intro l
            induction l with
            | nil => rfl
            | cons f l ih => simp [ih]
          rw [e1, Int.toNat_natCast, rep_one]
        have HZI : Hid (∀ i, i < m → ∀ f, V.es[i]? = some f → Z.take (i + 1) = Z.take i ++ [f.i]) := by
          intro i hi f hf
          have : Z[i]? = some f.i := by rw [← hZ, List.getElem?_append_left (by simp [hvl]; exact hi), List.getElem?_map, hf]; rfl
          rw [List.take_add_one, this]; rfl
        have HZJ : Hid (∀ i, m ≤ i → i < k → Z.take (i + 1) = Z.take i ++ [Y.i]) := by
          intro i hi1 hi2
          have : Z[i]? = some Y.i := by
            rw [← hZ, List.getElem?_append_right (by simp [hvl]; exact hi1), List.getElem?_replicate, if_pos (by simp [hvl]; omega)]
          rw [List.take_add_one, this]; rfl
        have HF : Hid (∀ W, Below v.heap.size v W → Calls Tryz.prog 40 #[tyV e Ae ne ce] W (GivesVl d Y W)) := by
          intro W hW
          have := rzero_x d S e Ae ne ce W (hre.below (nextB hwv hW)) hox
          rwa [hzz] at this
        have HC : Hid (∀ W, Below v.heap.size v W → TyCells W ge oe e Ae ne ce) := fun W hW => by have := hce.keep ((nextB hwv hW).block ge hge); simpa using this
        have HVR : Hid (∀ W, Below v.heap.size v W → VlRd S' W (d' + 1) V B m q0) := fun W hW => hv.below (nextB hwv hW)
        clear h hok hv hve hve3 IH k5 k6 hl hvl hlen hz hx he hox hkx hce hre hge hzz hone hZ hc1 hc2 hdp hm1 hm4 hwv
        rw [hk] at HBX HVV
        simp only [tyV, hk]
        clear hk
        go_enter Tryz.func31, Tryz.ntmps31
        go_wp2
        rw [HVV.out]
        go_loopw [7, 8] (fun lv iv wr => ∃ (n : Nat) (Q : Option Addr) (q : Nat), n ≤ k ∧ iv = .int .i64 n ∧ lv = .slice Q (n + 1) q ∧ Hid (IntNew wr v.heap.size Q (n + 1) q ((m : Int) :: Z.take n) ∧ Below v.heap.size v wr)) (fun _ iv _ => k - (intOf iv).toNat)
        case atStart => exact ⟨0, _, _, Nat.zero_le _, rfl, rfl, by simpa using IntNew.one (by have := HVS.out; omega) HVS.out (m : Int), allocB _ _⟩
        case round =>
          obtain ⟨n, Q, q, hn, rfl, rfl, REL⟩ := hrel
          obtain ⟨⟨p0, p1, p2, p3, p4⟩, r0, r1, f0, f1⟩ := HBX.out wr REL.out.2
          by_cases hlt : n < k
          · obtain ⟨c0, c1, c2, c3, c4⟩ := HC.out wr REL.out.2
            have HF1 := Lib.hid (HF.out wr REL.out.2)
            go_wp2_with fail
            refine HF1.out.mono ?_
            rintro e1 w1 ⟨B1, m1, k1, rfl, _, hb1⟩
            clear p0 p1 p2 p3 p4 r0 r1 f0 f1 c0 c1 c2 c3 c4 HF1
            have hv1 := nextB REL.out.2 hb1
            have HOW : Hid (∀ y0 y1 x, IntNew ((w1.alloc (.cells #[y0, y1] 27)).alloc (.cells #[.int .i64 x] 3)) v.heap.size Q (n + 1) q ((m : Int) :: Z.take n) ∧ Below v.heap.size v ((w1.alloc (.cells #[y0, y1] 27)).alloc (.cells #[.int .i64 x] 3))) := fun y0 y1 x =>
              ⟨((REL.out.1.below hb1).below (allocB _ _)).below (allocB _ _), nextB (nextB hv1 (allocB _ _)) (allocB _ _)⟩
            have HNW : Hid (∀ y0 y1 x, ∀ j u, (intRow [x])[j]? = some u → ((w1.alloc (.cells #[y0, y1] 27)).alloc (.cells #[.int .i64 x] 3)).cell? ((⟨w1.heap.size + 1, 0, none⟩ : Addr).add j) = some u) := by
              intro y0 y1 x j u hu
              rw [← World.size_alloc w1 (.cells #[y0, y1] 27)]
              exact World.news_of_block (heap_alloc_new _ _) j u (by simpa [intRow] using hu)
            have hb2 := nextB hv1 (allocB w1 (.cells #[.int .i64 Y.i, .slice B1 m1 k1] 27))
            obtain ⟨⟨p0, p1, p2, p3, p4⟩, r0, r1, f0, f1⟩ := HBX.out _ hb2
            obtain ⟨y0, y1, g0, g1⟩ := box2_new w1 (.int .i64 Y.i) (.slice B1 m1 k1) 27
            by_cases hnm : n < m
            · obtain ⟨f, gf, of', Bf, mf, qf, hf, rfl, _, hgf, hcf, hrf⟩ := (HVR.out _ hb2).get hnm
              have HPI := Lib.hid (HZI.out n hnm f hf)
              obtain ⟨c0, c1⟩ := hcf
              clear hf hrf hb1 hb2 hv1 hgf
              go_wp2_with (at_builtin; refine wpList_append_lies _ rfl _ _ 28 rfl v.heap.size 3 i0 (.int .i64 0) 1 8 Tryz.underlying28 hi hy0 hy1 hy2 rfl (by decide) (.slice Q (n + 1) q) (n + 1) (intRow ((m : Int) :: Z.take n)) rfl (HOW.out _ _ _).1.row ⟨w1.heap.size + 1, 0, none⟩ 1 1 (intRow [f.i]) rfl rfl (HNW.out _ _ _) (int_oneCell _) (by decide) (by unfold maxLen; omega) (by omega) (HOW.out _ _ _).2.size _ rfl ?_)
              intro g3 c3 w3 hown hgrow hat hlt3
              have HO3 : Hid (IntNew w3 v.heap.size (some ⟨g3, 0, none⟩) (n + 1 + 1) c3 ((m : Int) :: Z.take (n + 1)) ∧ Below v.heap.size v w3) :=
                ⟨⟨by rw [HPI.out, ← List.cons_append, intRow_append]; exact hown⟩, grown_own (HOW.out _ _ _).2 (HOW.out _ _ _).1.row hgrow (HOW.out _ _ _).2.size⟩
              clear hown hgrow hat HOW HNW p0 p1 p2 p3 p4 r0 r1 f0 f1 y0 y1 g0 g1 c0 c1
              go_wp2
              go_roundw
              case rel => exact ⟨n + 1, _, _, by omega, by go_num, rfl, HO3⟩
              case measure => simp [intOf] <;> omega
            · have HPI := Lib.hid (HZJ.out n (by omega) hlt)
              clear hb1 hb2 hv1
              go_wp2_with (at_builtin; refine wpList_append_lies _ rfl _ _ 28 rfl v.heap.size 3 i0 (.int .i64 0) 1 8 Tryz.underlying28 hi hy0 hy1 hy2 rfl (by decide) (.slice Q (n + 1) q) (n + 1) (intRow ((m : Int) :: Z.take n)) rfl (HOW.out _ _ _).1.row ⟨w1.heap.size + 1, 0, none⟩ 1 1 (intRow [Y.i]) rfl rfl (HNW.out _ _ _) (int_oneCell _) (by decide) (by unfold maxLen; omega) (by omega) (HOW.out _ _ _).2.size _ rfl ?_)
              intro g3 c3 w3 hown hgrow hat hlt3
              have HO3 : Hid (IntNew w3 v.heap.size (some ⟨g3, 0, none⟩) (n + 1 + 1) c3 ((m : Int) :: Z.take (n + 1)) ∧ Below v.heap.size v w3) :=
                ⟨⟨by rw [HPI.out, ← List.cons_append, intRow_append]; exact hown⟩, grown_own (HOW.out _ _ _).2 (HOW.out _ _ _).1.row hgrow (HOW.out _ _ _).2.size⟩
              clear hown hgrow hat HOW HNW p0 p1 p2 p3 p4 r0 r1 f0 f1 y0 y1 g0 g1
              go_wp2
              go_roundw
              case rel => exact ⟨n + 1, _, _, by omega, by go_num, rfl, HO3⟩
              case measure => simp [intOf] <;> omega
          · obtain rfl : n = k := by omega
            have hfull : Z.take n = Z := by rw [List.take_of_length_le (by rw [HZN.out]; exact Nat.le_refl _)]
            rw [hfull, ← HF0.out] at REL
            clear hfull
            go_wp2
            go_ret
            exact ⟨_, _, _, rfl, REL.out.1.mono HWV.out.size, nextB HWV.out REL.out.2⟩
      · have b6 : (T.k == 6) = false := by simpa using k6
        have HF0 : Hid (vflat (d + 1) T V = [V.i]) := by show _ = _; simp only [vflat, if_neg k5, if_neg k6]
        clear h hok hv hve IH k5 k6 hl hvl hlen hdp
        go_enter Tryz.func31, Tryz.ntmps31
        go_wp2
        rw [HVV.out]
        go_ret
        exact ⟨_, _, _, rfl, by rw [HF0.out]; exact IntNew.one (by omega) HVS.out V.i, HWV.out.alloc HWV.out.size _⟩
end Go.Proofs.YtklndjkblfncjaaGreatDoor
