/-
  The reference's zero and Zero.
-/
import Derived.Test.YtklndjkblfncjaaGreatDoorRefW7
import Derived.Test.YtklndjkblfncjaaGreatDoorMk7
namespace Go.Proofs.YtklndjkblfncjaaGreatDoor
open Go Go.RowKit
set_option maxRecDepth 20000

/-- While elements are added to a value of the call's own: the box at p, the row behind it. -/
structure WInv (p d : Nat) (v W : World) (S4 : Value) (Q : Option Addr) (n q : Nat) (l : List VlAt) : Prop where
  box : Box2 W p (.int .i64 0) S4
  own : VlOwn W (p + 1) d Q n q l
  bel : Below p v W
  size : p + 1 ≤ W.heap.size
section
variable {p d n q : Nat} {v W : World} {S4 : Value} {Q : Option Addr} {l : List VlAt}
theorem WInv.below (h : WInv p d v W S4 Q n q l) {W' : World} (hb : Below W.heap.size W W') : WInv p d v W' S4 Q n q l := by
  have hs := h.size
  exact ⟨h.box.below hb (by omega), h.own.below hb, h.bel.trans (hb.mono (by omega)), Nat.le_trans hs hb.size⟩
theorem WInv.tail (h : WInv p d v W S4 Q n q l) {x : VlAt} {w1 : World} (hx : VlRd (fun b => W.heap.size ≤ b) w1 d x.V x.A x.n x.c) (hb : Below W.heap.size W w1) :
    VlOwn (w1.alloc (.cells x.cells.toArray 27)) (p + 1) d Q n q l ∧ (∀ j u, x.cells[j]? = some u → (w1.alloc (.cells x.cells.toArray 27)).cell? ((⟨w1.heap.size, 0, none⟩ : Addr).add j) = some u) ∧ VlRd (fun b => p + 1 ≤ b ∧ offA Q b) (w1.alloc (.cells x.cells.toArray 27)) d x.V x.A x.n x.c := by
  refine ⟨(h.own.below hb).below (allocB _ _), fun j u hu => World.news_of_block (heap_alloc_new w1 _) j u (by simpa using hu), ?_⟩
  refine (hx.below (allocB _ _)).in fun b hb' => ?_
  have hs : W.heap.size ≤ b := hb'
  refine ⟨by have := h.size; omega, fun a ha => ?_⟩
  have := (row_lt h.own.row a ha).2
  omega
theorem WInv.added (h : WInv p d v W S4 Q n q l) {x : VlAt} {w1 w3 : World} {g3 c3 : Nat} (hx : VlRd (fun b => W.heap.size ≤ b) w1 d x.V x.A x.n x.c) (hb : Below W.heap.size W w1)
    (hown : w3.ownsRow (p + 1) 27 2 (.slice (some ⟨g3, 0, none⟩) (n + 1) c3) (n + 1) (vlRow l ++ x.cells)) (hgrow : (w1.alloc (.cells x.cells.toArray 27)).grownBy w3 (Value.ownBlock (.slice Q n q))) (hat : Value.ownBlock (.slice Q n q) = some g3 ∨ g3 = w1.heap.size + 1) :
    WInv p d v w3 S4 (some ⟨g3, 0, none⟩) (n + 1) c3 (l ++ [x]) := by
  obtain ⟨hO, _, hX⟩ := h.tail hx hb
  have hsz1 : W.heap.size ≤ w1.heap.size := hb.size
  have hpw := h.size
  have hB : Below (p + 1) w1 w3 := grown_own (((Below.refl (p + 1) w1).alloc (by omega) _)) hO.row hgrow (by rw [World.size_alloc]; omega)
  refine ⟨?_, hO.push hX hown hgrow (by rw [World.size_alloc]; exact hat), ?_, by have := hB.size; omega⟩
  · exact (h.box.below hb (by omega)).keep (hB.block p (by omega))
  · exact (h.bel.trans (hb.mono (by omega))).trans (hB.mono (by omega))
theorem WInv.stored (h : WInv p d v W S4 Q n q l) (y : Value) : WInv p d v (W.setCell ⟨p, 1, none⟩ y) y Q n q l :=
  ⟨h.box.set1 y, h.own.setB (by omega), h.bel.setCell (p := ⟨p, 1, none⟩) (Nat.le_refl _) y, by simp [World.setCell]; exact h.size⟩
end
/-- A type's box and two of values. -/
theorem boxes_tvv (w : World) (x0 x1 x2 x3 x4 y0 y1 z0 z1 : Value) (t u : TypeId) (v : World) (hv : ((w.alloc (.cells #[x0, x1, x2, x3, x4] t)).alloc (.cells #[y0, y1] u)).alloc (.cells #[z0, z1] u) = v) :
    v.heap.size = w.heap.size + 3 ∧ Below w.heap.size w v ∧ Box5 v w.heap.size x0 x1 x2 x3 x4 ∧ Box2 v (w.heap.size + 1) y0 y1 ∧ Box2 v (w.heap.size + 2) z0 z1 := by
  obtain ⟨u1, hu1⟩ : ∃ u1, (w.alloc (.cells #[x0, x1, x2, x3, x4] t)).alloc (.cells #[y0, y1] u) = u1 := ⟨_, rfl⟩
  obtain ⟨h1, h2, h3⟩ := boxes_tv w x0 x1 x2 x3 x4 y0 y1 t u u1 hu1
  rw [hu1] at hv
  have hb := allocB u1 (.cells #[z0, z1] u)
  have hz := box2_new u1 z0 z1 u
  rw [hv] at hb hz
  rw [h1] at hz
  exact ⟨by rw [← hv, World.size_alloc, h1], nextB h2 hb, (h3 v hb).1, (h3 v hb).2, hz⟩

theorem nearest_x (lo hi : Int) (w : World) : Calls Tryz.prog 55 #[.int .i64 lo, .int .i64 hi] w fun e w' => e = .returned (.int .i64 (max lo (min hi 0))) ∧ w = w' := by
  obtain ⟨z, hz⟩ : ∃ z, max lo (min hi 0) = z := ⟨_, rfl⟩
  rw [hz]
  have HZ := Lib.hid hz
  clear hz
  go_enter Tryz.func55, Tryz.ntmps55
  go_wp2
  all_goals
    go_ret
    have hz := HZ.out
    refine ⟨?_, rfl⟩
    first
      | (show Ending.returned (.int .i64 _) = _; congr 2; omega)
      | (simp; omega)

set_option maxHeartbeats 16000000 in
theorem rzero_x : ∀ (d : Nat) (S : Nat → Prop) (T : Ty) (A : Option Addr) (n c : Nat) (w : World), TyRd S w d T A n c → TyOk d T → Calls Tryz.prog 40 #[tyV T A n c] w (GivesVl d (vzero d T) w)
  | 0, _, _, _, _, _, _, h, _ => h.elim
  | d + 1, S, T, A, n0, c, w, h, hok => by
    have IH := rzero_x d
    obtain ⟨i0, hi, hy0, hy1, hy2⟩ := info_parts info_value
    obtain ⟨hl, hcap, htop⟩ := h.len
    unfold maxLen at htop
    obtain ⟨v, hv⟩ : ∃ v, ((w.alloc (.cells #[.int .i64 T.k, .int .i64 T.lo, .int .i64 T.hi, .int .i64 T.mx, .slice A n0 c] 24)).alloc (.cells #[.int .i64 0, .slice none 0 0] 27)).alloc (.cells #[.int .i64 0, .slice none 0 0] 27) = v := ⟨_, rfl⟩
    obtain ⟨hvs, hwv, hb0, hb1, hb2⟩ := boxes_tvv w _ _ _ _ _ _ _ _ _ _ _ v hv
    obtain ⟨p, hp⟩ : ∃ p, w.heap.size + 2 = p := ⟨_, rfl⟩
    rw [hp] at hb2
    have HVV := Lib.hid hv
    have HWV := Lib.hid hwv
    have HP := Lib.hid hp
    have HPV : Hid (v.heap.size = p + 1) := by show _ = _; omega
    have HTB : Hid (∀ W, Below p v W → Box5 W w.heap.size (.int .i64 T.k) (.int .i64 T.lo) (.int .i64 T.hi) (.int .i64 T.mx) (.slice A n0 c)) := fun W hW => Box5.keep hb0 (hW.block _ (by omega))
    have HRB : Hid (∀ W, Below p v W → Box2 W (w.heap.size + 1) (.int .i64 0) (.slice none 0 0)) := fun W hW => hb1.keep (hW.block _ (by omega))
    have INV0 : Hid (WInv p d v v (.slice none 0 0) none 0 0 []) := ⟨hb2, VlOwn.nil _ _ _, Below.refl _ _, by omega⟩
    have HWP : Hid (∀ W, Below p v W → Below w.heap.size w W) := fun W hW => hwv.trans (hW.mono (by omega))
    by_cases k5 : T.k = 5
    · have b2 : (T.k == 2) = false := by simp; omega
      have b5 : (T.k == 5) = true := by simpa using k5
      obtain ⟨hz, hn2, hn4, hels⟩ := hok.tuple k5
      rw [hl] at hn4
      have HV : Hid (vzero (d + 1) T = .mk 0 (T.es.map (vzero d))) := by show _ = _; simp only [vzero, if_pos k5]
      have H := Lib.hid h
      have HE : Hid (∀ e ∈ T.es, TyOk d e) := fun e he => (hels e he).1
      have HI := Lib.hid IH
      have HLN := Lib.hid hl
      clear h hok IH k5 hz hn2 hels hl hv hwv hp hb0 hb1 hb2 hvs
      obtain ⟨p0, p1, p2, p3, p4⟩ := HTB.out v (Below.refl _ _)
      go_enter Tryz.func40, Tryz.ntmps40
      go_wp2_with fail
      rw [HVV.out, HP.out]
      go_wp2
      clear p0 p1 p2 p3 p4
      go_loopw [4] (fun iv wr => ∃ (n : Nat) (Q : Option Addr) (q : Nat) (l : List VlAt), n ≤ n0 ∧ iv = .int .i64 n ∧ Hid (WInv p d v wr (.slice Q n q) Q n q l) ∧ Hid (l.map VlAt.V = (T.es.take n).map (vzero d))) (fun iv _ => n0 - (intOf iv).toNat)
      case atStart => exact ⟨0, none, 0, [], Nat.zero_le _, rfl, INV0, by show _ = _; simp⟩
      case round =>
        obtain ⟨n, Q, q, l, hn, rfl, INV, HL⟩ := hrel
        obtain ⟨p0, p1, p2, p3, p4⟩ := HTB.out wr INV.out.bel
        by_cases hlt : n < n0
        · obtain ⟨e, ge, oe, Ae, ne, ce, he, rfl, _, hge, hce, hre⟩ := (H.out.below (HWP.out wr INV.out.bel)).get hlt
          have hpw := INV.out.size
          have hge2 : ge < p := by
            obtain ⟨_, _, _, _, _, _, _, hA2, _, hg2, _⟩ := H.out.get hlt
            injection hA2 with hA2
            injection hA2 with hA2 _
            rw [hA2]; have := HP.out; omega
          have HT : Hid (∀ W, Below p v W → Box5 W w.heap.size (.int .i64 T.k) (.int .i64 T.lo) (.int .i64 T.hi) (.int .i64 T.mx) (.slice (some ⟨ge, oe, none⟩) n0 c) ∧ TyCells W ge (oe + n * 5) e Ae ne ce) := fun W hW =>
            ⟨HTB.out W hW, hce.keep ((hW.block ge hge2).trans (INV.out.bel.block ge hge2).symm)⟩
          have HBT : Hid (∀ W, Below wr.heap.size wr W → Below p v W) := fun W hW => INV.out.bel.trans (hW.mono (by omega))
          have HF : Hid (∀ W, Below wr.heap.size wr W → Calls Tryz.prog 40 #[tyV e Ae ne ce] W (GivesVl d (vzero d e) W)) := fun W hW => HI.out S e Ae ne ce W (hre.below hW) (HE.out e (List.mem_of_getElem? he))
          have HEI := Lib.hid he
          obtain ⟨V1, hV1⟩ : ∃ V1, vzero d e = V1 := ⟨_, rfl⟩
          rw [hV1] at HF
          have HV1 := Lib.hid hV1
          have hk := (Below.refl wr.heap.size wr).drew
          clear he hre hce hge hge2 hV1 hpw
          go_wp2_with fail
          clear p0 p1 p2 p3 p4
          refine wp_region_held_drew (S := fun W => Below p v W) (by kernel_rfl) (HBT.out _ hk) (fun hHeld => ?_)
          refine tkH (i := 0) (oi := ⟨some 24, _, _, _, _, _⟩) (v := ?_) ?_ ?_
          rotate_left
          · intro w hSw; go_simp; try with_reducible rfl
          try simp only [Act.put, List.setIfInBounds_toArray, List.set_cons_zero, List.set_cons_succ]
          refine tkH (i := 2) (oi := ⟨some 26, _, _, _, _, _⟩) (v := ?_) ?_ ?_
          rotate_left
          · intro w hSw; go_simp; try with_reducible rfl
          try simp only [Act.put, List.setIfInBounds_toArray, List.set_cons_zero, List.set_cons_succ]
          refine tkH (i := 3) (oi := ⟨some 27, _, _, _, _, _⟩) (v := ?_) ?_ ?_
          rotate_left
          · intro w hSw
            obtain ⟨⟨p0, p1, p2, p3, p4⟩, ⟨q0, q1, q2, q3, q4⟩⟩ := HT.out w hSw
            go_simp
            try with_reducible rfl
          try simp only [Act.put, List.setIfInBounds_toArray, List.set_cons_zero, List.set_cons_succ]
          refine tkH (i := 4) (oi := ⟨some 28, _, _, _, _, _⟩) (v := ?_) ?_ ?_
          rotate_left
          · intro w hSw; go_simp; try with_reducible rfl
          try simp only [Act.put, List.setIfInBounds_toArray, List.set_cons_zero, List.set_cons_succ]
          refine tkH (i := 5) (oi := ⟨some 29, _, _, _, _, _⟩) (v := ?_) ?_ ?_
          rotate_left
          · intro w hSw; go_simp; try with_reducible rfl
          try simp only [Act.put, List.setIfInBounds_toArray, List.set_cons_zero, List.set_cons_succ]
          refine tkH (i := 6) (oi := ⟨some 30, _, _, _, _, _⟩) (v := ?_) ?_ ?_
          rotate_left
          · intro w hSw
            obtain ⟨⟨p0, p1, p2, p3, p4⟩, ⟨q0, q1, q2, q3, q4⟩⟩ := HT.out w hSw
            go_simp
            try with_reducible rfl
          try simp only [Act.put, List.setIfInBounds_toArray, List.set_cons_zero, List.set_cons_succ]
          refine wpAnyH_ready (rs := [1, 7]) (by kernel_rfl) (by simp) ?_
          refine AllReadyH.cons (o := ⟨some 25, _, _, _, _, _⟩) rfl (fun K hK => ?_) (AllReadyH.cons (o := ⟨some 31, _, _, _, _, _⟩) rfl (fun K hK => ?_) AllReadyH.nil)
          · have q1 := (INV.out.box.below hk (by have := INV.out.size; omega)).2.1
            go_simp
            refine hK.out _ _ (HBT.out _ hk) (fun hHeld => ?_)
            clear hK K
            try simp only [Act.put, List.setIfInBounds_toArray, List.set_cons_zero, List.set_cons_succ]
            refine wpAnyH_ready (rs := [7]) (by kernel_rfl) (by simp) ?_
            refine AllReadyH.cons (o := ⟨some 31, _, _, _, _, _⟩) rfl (fun K hK => ?_) AllReadyH.nil
            go_simp
            go_at_call 40
            refine (HF.out _ hk).mono ?_
            rintro e1 w1 ⟨A1, n1, c1, rfl, hrd0, hb1⟩
            have hrd1 := hrd0.in (S' := fun b => wr.heap.size ≤ b) fun b hb => Nat.le_trans hk.size hb
            replace hk := hk.trans (hb1.mono hk.size)
            have hk1 := hk
            clear hrd0 hb1
            go_wp2_with fail
            refine hK.out _ _ (HBT.out _ hk) (fun hHeld => ?_)
            clear hK K
            try simp only [Act.put, List.setIfInBounds_toArray, List.set_cons_zero, List.set_cons_succ]
            refine wpAnyH_ready (rs := [8]) (by kernel_rfl) (by simp) ?_
            refine AllReadyH.cons (o := ⟨some 32, _, _, _, _, _⟩) rfl (fun K hK => ?_) AllReadyH.nil
            go_simp
            have hk := hk.alloc hk.size (.cells #[.int .i64 V1.i, .slice A1 n1 c1] 27)
            refine hK.out _ _ (HBT.out _ hk) (fun hHeld => ?_)
            clear hK K
            try simp only [Act.put, List.setIfInBounds_toArray, List.set_cons_zero, List.set_cons_succ]
            refine wpAnyH_ready (rs := [9]) (by kernel_rfl) (by simp) ?_
            refine AllReadyH.cons (o := ⟨some 33, _, _, _, _, _⟩) rfl (fun K hK => ?_) AllReadyH.nil
            obtain ⟨hOWx, hNW, _⟩ := INV.out.tail (x := ⟨V1, A1, n1, c1⟩) hrd1 hk1
            refine step_append_lies _ rfl _ _ 25 rfl (p + 1) 27 i0 (.agg #[.int .i64 0, .slice none 0 0]) 2 32 Tryz.underlying25 hi hy0 hy1 hy2 rfl (by decide) (.slice Q n q) n (vlRow l) rfl hOWx.row ⟨w1.heap.size, 0, none⟩ 1 1 (VlAt.mk V1 A1 n1 c1).cells rfl rfl hNW (VlAt.oneCell _) (by decide) (by unfold maxLen; omega) (by omega) (by rw [World.size_alloc]; have := INV.out.size; have h2 : wr.heap.size ≤ w1.heap.size := hk1.size; omega) _ rfl ?_
            intro g3 c3 w3 hown hgrow hat hlt3
            have hKE := Lib.hid (INV.out.added (x := ⟨V1, A1, n1, c1⟩) hrd1 hk1 hown hgrow (by rw [World.size_alloc] at hat; exact hat))
            clear hown hgrow hat hOWx hNW hrd1 hk1 hk
            refine hK.out _ _ hKE.out.bel (fun hHeld => ?_)
            clear hK K
            try simp only [Act.put, List.setIfInBounds_toArray, List.set_cons_zero, List.set_cons_succ]
            refine tkH (i := 10) (oi := ⟨some 34, _, _, _, _, _⟩) (v := ?_) ?_ ?_
            rotate_left
            · intro w hSw; go_simp; try with_reducible rfl
            try simp only [Act.put, List.setIfInBounds_toArray, List.set_cons_zero, List.set_cons_succ]
            refine wpAnyH_ready (rs := [11]) (by kernel_rfl) (by simp) ?_
            refine AllReadyH.cons (o := ⟨none, _, _, _, _, _⟩) rfl (fun K hK => ?_) AllReadyH.nil
            have x1 := hKE.out.box.2.1
            have f1 := hKE.out.box.2.2.2
            go_simp
            have HEND := Lib.hid (hKE.out.stored (.slice (some ⟨g3, 0, none⟩) (n + 1) c3))
            refine hK.out _ _ HEND.out.bel (fun hHeld => ?_)
            clear hK K x1 f1 hKE
            try simp only [Act.put, List.setIfInBounds_toArray, List.set_cons_zero, List.set_cons_succ]
            refine wpAnyH_done (by kernel_rfl) ?_ _
            have HE2 : Hid ((l ++ [(⟨V1, A1, n1, c1⟩ : VlAt)]).map VlAt.V = (T.es.take (n + 1)).map (vzero d)) := by
              show _ = _
              rw [List.map_append, HL.out, List.take_add_one, HEI.out, List.map_append]
              simp [HV1.out]
            go_wp2
            go_roundw
            case rel => exact ⟨n + 1, _, _, _, by omega, by go_num, HEND, HE2⟩
            case measure => simp [intOf] <;> omega
          · go_simp
            go_at_call 40
            refine (HF.out _ hk).mono ?_
            rintro e1 w1 ⟨A1, n1, c1, rfl, hrd0, hb1⟩
            have hrd1 := hrd0.in (S' := fun b => wr.heap.size ≤ b) fun b hb => Nat.le_trans hk.size hb
            replace hk := hk.trans (hb1.mono hk.size)
            have hk1 := hk
            clear hrd0 hb1
            go_wp2_with fail
            refine hK.out _ _ (HBT.out _ hk) (fun hHeld => ?_)
            clear hK K
            try simp only [Act.put, List.setIfInBounds_toArray, List.set_cons_zero, List.set_cons_succ]
            refine wpAnyH_ready (rs := [1, 8]) (by kernel_rfl) (by simp) ?_
            refine AllReadyH.cons (o := ⟨some 25, _, _, _, _, _⟩) rfl (fun K hK => ?_) (AllReadyH.cons (o := ⟨some 32, _, _, _, _, _⟩) rfl (fun K hK => ?_) AllReadyH.nil)
            · have q1 := (INV.out.box.below hk (by have := INV.out.size; omega)).2.1
              go_simp
              refine hK.out _ _ (HBT.out _ hk) (fun hHeld => ?_)
              clear hK K
              try simp only [Act.put, List.setIfInBounds_toArray, List.set_cons_zero, List.set_cons_succ]
              refine wpAnyH_ready (rs := [8]) (by kernel_rfl) (by simp) ?_
              refine AllReadyH.cons (o := ⟨some 32, _, _, _, _, _⟩) rfl (fun K hK => ?_) AllReadyH.nil
              go_simp
              have hk := hk.alloc hk.size (.cells #[.int .i64 V1.i, .slice A1 n1 c1] 27)
              refine hK.out _ _ (HBT.out _ hk) (fun hHeld => ?_)
              clear hK K
              try simp only [Act.put, List.setIfInBounds_toArray, List.set_cons_zero, List.set_cons_succ]
              refine wpAnyH_ready (rs := [9]) (by kernel_rfl) (by simp) ?_
              refine AllReadyH.cons (o := ⟨some 33, _, _, _, _, _⟩) rfl (fun K hK => ?_) AllReadyH.nil
              obtain ⟨hOWx, hNW, _⟩ := INV.out.tail (x := ⟨V1, A1, n1, c1⟩) hrd1 hk1
              refine step_append_lies _ rfl _ _ 25 rfl (p + 1) 27 i0 (.agg #[.int .i64 0, .slice none 0 0]) 2 32 Tryz.underlying25 hi hy0 hy1 hy2 rfl (by decide) (.slice Q n q) n (vlRow l) rfl hOWx.row ⟨w1.heap.size, 0, none⟩ 1 1 (VlAt.mk V1 A1 n1 c1).cells rfl rfl hNW (VlAt.oneCell _) (by decide) (by unfold maxLen; omega) (by omega) (by rw [World.size_alloc]; have := INV.out.size; have h2 : wr.heap.size ≤ w1.heap.size := hk1.size; omega) _ rfl ?_
              intro g3 c3 w3 hown hgrow hat hlt3
              have hKE := Lib.hid (INV.out.added (x := ⟨V1, A1, n1, c1⟩) hrd1 hk1 hown hgrow (by rw [World.size_alloc] at hat; exact hat))
              clear hown hgrow hat hOWx hNW hrd1 hk1 hk
              refine hK.out _ _ hKE.out.bel (fun hHeld => ?_)
              clear hK K
              try simp only [Act.put, List.setIfInBounds_toArray, List.set_cons_zero, List.set_cons_succ]
              refine tkH (i := 10) (oi := ⟨some 34, _, _, _, _, _⟩) (v := ?_) ?_ ?_
              rotate_left
              · intro w hSw; go_simp; try with_reducible rfl
              try simp only [Act.put, List.setIfInBounds_toArray, List.set_cons_zero, List.set_cons_succ]
              refine wpAnyH_ready (rs := [11]) (by kernel_rfl) (by simp) ?_
              refine AllReadyH.cons (o := ⟨none, _, _, _, _, _⟩) rfl (fun K hK => ?_) AllReadyH.nil
              have x1 := hKE.out.box.2.1
              have f1 := hKE.out.box.2.2.2
              go_simp
              have HEND := Lib.hid (hKE.out.stored (.slice (some ⟨g3, 0, none⟩) (n + 1) c3))
              refine hK.out _ _ HEND.out.bel (fun hHeld => ?_)
              clear hK K x1 f1 hKE
              try simp only [Act.put, List.setIfInBounds_toArray, List.set_cons_zero, List.set_cons_succ]
              refine wpAnyH_done (by kernel_rfl) ?_ _
              have HE2 : Hid ((l ++ [(⟨V1, A1, n1, c1⟩ : VlAt)]).map VlAt.V = (T.es.take (n + 1)).map (vzero d)) := by
                show _ = _
                rw [List.map_append, HL.out, List.take_add_one, HEI.out, List.map_append]
                simp [HV1.out]
              go_wp2
              go_roundw
              case rel => exact ⟨n + 1, _, _, _, by omega, by go_num, HEND, HE2⟩
              case measure => simp [intOf] <;> omega
            · go_simp
              have hk := hk.alloc hk.size (.cells #[.int .i64 V1.i, .slice A1 n1 c1] 27)
              refine hK.out _ _ (HBT.out _ hk) (fun hHeld => ?_)
              clear hK K
              try simp only [Act.put, List.setIfInBounds_toArray, List.set_cons_zero, List.set_cons_succ]
              refine wpAnyH_ready (rs := [1]) (by kernel_rfl) (by simp) ?_
              refine AllReadyH.cons (o := ⟨some 25, _, _, _, _, _⟩) rfl (fun K hK => ?_) AllReadyH.nil
              have q1 := (INV.out.box.below hk (by have := INV.out.size; omega)).2.1
              go_simp
              refine hK.out _ _ (HBT.out _ hk) (fun hHeld => ?_)
              clear hK K
              try simp only [Act.put, List.setIfInBounds_toArray, List.set_cons_zero, List.set_cons_succ]
              refine wpAnyH_ready (rs := [9]) (by kernel_rfl) (by simp) ?_
              refine AllReadyH.cons (o := ⟨some 33, _, _, _, _, _⟩) rfl (fun K hK => ?_) AllReadyH.nil
              obtain ⟨hOWx, hNW, _⟩ := INV.out.tail (x := ⟨V1, A1, n1, c1⟩) hrd1 hk1
              refine step_append_lies _ rfl _ _ 25 rfl (p + 1) 27 i0 (.agg #[.int .i64 0, .slice none 0 0]) 2 32 Tryz.underlying25 hi hy0 hy1 hy2 rfl (by decide) (.slice Q n q) n (vlRow l) rfl hOWx.row ⟨w1.heap.size, 0, none⟩ 1 1 (VlAt.mk V1 A1 n1 c1).cells rfl rfl hNW (VlAt.oneCell _) (by decide) (by unfold maxLen; omega) (by omega) (by rw [World.size_alloc]; have := INV.out.size; have h2 : wr.heap.size ≤ w1.heap.size := hk1.size; omega) _ rfl ?_
              intro g3 c3 w3 hown hgrow hat hlt3
              have hKE := Lib.hid (INV.out.added (x := ⟨V1, A1, n1, c1⟩) hrd1 hk1 hown hgrow (by rw [World.size_alloc] at hat; exact hat))
              clear hown hgrow hat hOWx hNW hrd1 hk1 hk
              refine hK.out _ _ hKE.out.bel (fun hHeld => ?_)
              clear hK K
              try simp only [Act.put, List.setIfInBounds_toArray, List.set_cons_zero, List.set_cons_succ]
              refine tkH (i := 10) (oi := ⟨some 34, _, _, _, _, _⟩) (v := ?_) ?_ ?_
              rotate_left
              · intro w hSw; go_simp; try with_reducible rfl
              try simp only [Act.put, List.setIfInBounds_toArray, List.set_cons_zero, List.set_cons_succ]
              refine wpAnyH_ready (rs := [11]) (by kernel_rfl) (by simp) ?_
              refine AllReadyH.cons (o := ⟨none, _, _, _, _, _⟩) rfl (fun K hK => ?_) AllReadyH.nil
              have x1 := hKE.out.box.2.1
              have f1 := hKE.out.box.2.2.2
              go_simp
              have HEND := Lib.hid (hKE.out.stored (.slice (some ⟨g3, 0, none⟩) (n + 1) c3))
              refine hK.out _ _ HEND.out.bel (fun hHeld => ?_)
              clear hK K x1 f1 hKE
              try simp only [Act.put, List.setIfInBounds_toArray, List.set_cons_zero, List.set_cons_succ]
              refine wpAnyH_done (by kernel_rfl) ?_ _
              have HE2 : Hid ((l ++ [(⟨V1, A1, n1, c1⟩ : VlAt)]).map VlAt.V = (T.es.take (n + 1)).map (vzero d)) := by
                show _ = _
                rw [List.map_append, HL.out, List.take_add_one, HEI.out, List.map_append]
                simp [HV1.out]
              go_wp2
              go_roundw
              case rel => exact ⟨n + 1, _, _, _, by omega, by go_num, HEND, HE2⟩
              case measure => simp [intOf] <;> omega
        · obtain rfl : n = n0 := by omega
          obtain ⟨r0, r1, f0, f1⟩ := HRB.out wr INV.out.bel
          obtain ⟨x0, x1, _, _⟩ := INV.out.box
          have hrd := INV.out.own.rd (.mk 0 (T.es.map (vzero d))) (by
            show T.es.map (vzero d) = _
            rw [HL.out, List.take_of_length_le (by rw [HLN.out]; exact Nat.le_refl _)])
          have HSET : Hid (∀ y0 y1, VlRd (fun b => p + 1 ≤ b) ((wr.setCell ⟨w.heap.size + 1, 0, none⟩ y0).setCell ⟨w.heap.size + 1, 1, none⟩ y1) (d + 1) (.mk 0 (T.es.map (vzero d))) Q n q) := fun y0 y1 => (hrd.set (fun x hx => by have := HP.out; omega)).set (fun x hx => by have := HP.out; omega)
          have HFB : Hid (∀ y0 y1, Below w.heap.size w ((wr.setCell ⟨w.heap.size + 1, 0, none⟩ y0).setCell ⟨w.heap.size + 1, 1, none⟩ y1)) := fun y0 y1 => ((HWP.out wr INV.out.bel).setCell (p := ⟨w.heap.size + 1, 0, none⟩) (by simp) y0).setCell (p := ⟨w.heap.size + 1, 1, none⟩) (by simp) y1
          clear hrd INV
          go_wp2
          refine bodyPost_ret (v := vlV (vzero (d + 1) T) Q n q) (by simp [results, Tryz.results40, go_sem, r0, r1, HV.out, Vl.i]) rfl ⟨Q, n, q, rfl, ?_, HFB.out _ _⟩
          rw [HV.out]
          exact (HSET.out _ _).in fun b hb => by have := HP.out; omega
    · have b5 : (T.k == 5) = false := by simpa using k5
      by_cases k2 : T.k = 2
      · have b2 : (T.k == 2) = true := by simpa using k2
        obtain ⟨⟨h1, h2, h3⟩, h4, h5⟩ := hok.int k2
        clear h4 h5
        have HV : Hid (vzero (d + 1) T = .mk (max T.lo (min T.hi 0)) []) := by
          show _ = _
          simp only [vzero, if_neg k5]
          rw [if_neg (by omega)]
          have e1 : tlow T = T.lo := by unfold tlow; rw [if_neg (by omega), if_neg (by omega)]
          have e2 : thigh T = T.hi := by unfold thigh; rw [if_neg (by omega), if_neg (by omega)]
          rw [e1, e2]
          congr 1
          omega
        obtain ⟨p0, p1, p2, p3, p4⟩ := HTB.out v (Below.refl _ _)
        obtain ⟨x0, x1, g0, g1⟩ := INV0.out.box
        have r := HRB.out _ (((Below.refl p v).setCell (p := ⟨p, 0, none⟩) (Nat.le_refl _) (.int .i64 (max T.lo (min T.hi 0)))))
        obtain ⟨r0, r1, f0, f1⟩ := r
        have bx := (INV0.out.box.set0 (.int .i64 (max T.lo (min T.hi 0))))
        obtain ⟨y0, y1, _, _⟩ := bx
        have HFB : Hid (∀ y z0 z1, Below w.heap.size w (((v.setCell ⟨p, 0, none⟩ y).setCell ⟨w.heap.size + 1, 0, none⟩ z0).setCell ⟨w.heap.size + 1, 1, none⟩ z1)) := fun y z0 z1 => ((HWP.out _ (((Below.refl p v).setCell (p := ⟨p, 0, none⟩) (Nat.le_refl _) y))).setCell (p := ⟨w.heap.size + 1, 0, none⟩) (by simp) z0).setCell (p := ⟨w.heap.size + 1, 1, none⟩) (by simp) z1
        clear h hok IH k5 k2 hv hwv hp hb0 hb1 hb2 hvs hl INV0 h1 h2 h3
        have HN := Lib.hid (fun W => nearest_x T.lo T.hi W)
        have HVW := Lib.hid (HWP.out)
        generalize max T.lo (min T.hi 0) = z at *
        go_enter Tryz.func40, Tryz.ntmps40
        go_wp2_with fail
        rw [HVV.out, HP.out]
        go_wp2_with fail
        refine (HN.out _).mono ?_
        rintro e1 w1 ⟨rfl, rfl⟩
        clear p0 p1 p2 p3 p4 r0 r1 f0 f1
        obtain ⟨p0, p1, p2, p3, p4⟩ := HTB.out _ (((Below.refl p v).setCell (p := ⟨p, 0, none⟩) (Nat.le_refl _) (.int .i64 z)))
        obtain ⟨r0, r1, f0, f1⟩ := HRB.out _ (((Below.refl p v).setCell (p := ⟨p, 0, none⟩) (Nat.le_refl _) (.int .i64 z)))
        go_wp2
        refine bodyPost_ret (v := vlV (vzero (d + 1) T) none 0 0) (by simp [results, Tryz.results40, go_sem, r0, r1, HV.out, Vl.i]) rfl ⟨none, 0, 0, rfl, ?_, HFB.out _ _ _⟩
        rw [HV.out]; exact VlRd.nil _ _ rfl
      · have b2 : (T.k == 2) = false := by simpa using k2
        have HV : Hid (vzero (d + 1) T = .mk 0 []) := by
          show _ = _
          simp only [vzero, if_neg k5]
          by_cases k6 : T.k = 6
          · rw [if_pos k6]
          · rw [if_neg k6]
            have hz : T.lo = 0 ∧ T.hi = 0 := by have := hok.leaf (by have := hok.kinds; omega); exact ⟨this.1, this.2.1⟩
            have e1 : tlow T = 0 := by unfold tlow; split <;> first | rfl | (split <;> first | rfl | exact hz.1)
            have e2 : 0 ≤ thigh T := by unfold thigh; split <;> first | omega | (split <;> omega)
            rw [e1]
            congr 1
            omega
        obtain ⟨p0, p1, p2, p3, p4⟩ := HTB.out v (Below.refl _ _)
        obtain ⟨x0, x1, g0, g1⟩ := INV0.out.box
        obtain ⟨r0, r1, f0, f1⟩ := HRB.out v (Below.refl _ _)
        have HFB : Hid (∀ z0 z1, Below w.heap.size w ((v.setCell ⟨w.heap.size + 1, 0, none⟩ z0).setCell ⟨w.heap.size + 1, 1, none⟩ z1)) := fun z0 z1 => ((HWP.out v (Below.refl _ _)).setCell (p := ⟨w.heap.size + 1, 0, none⟩) (by simp) z0).setCell (p := ⟨w.heap.size + 1, 1, none⟩) (by simp) z1
        clear h hok IH k5 k2 hv hwv hp hb0 hb1 hb2 hvs hl INV0
        go_enter Tryz.func40, Tryz.ntmps40
        go_wp2_with fail
        rw [HVV.out, HP.out]
        go_wp2
        refine bodyPost_ret (v := vlV (vzero (d + 1) T) none 0 0) (by simp [results, Tryz.results40, go_sem, r0, r1, HV.out, Vl.i]) rfl ⟨none, 0, 0, rfl, ?_, ?_⟩
        · rw [HV.out]; exact VlRd.nil _ _ rfl
        · first | exact HFB.out _ _ | exact HWP.out v (Below.refl _ _)
end Go.Proofs.YtklndjkblfncjaaGreatDoor
