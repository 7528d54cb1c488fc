/-
  (*sum).addTerms and (*sum).addProducts: what the sum denotes grows by the terms, by the products.
-/
import Derived.Test.YtebbnmjmjoklmaaGreatDoorSortT
namespace Go.Proofs.YtebbnmjmjoklmaaGreatDoor
open Go Go.RowKit Go.WideMaps
set_option maxRecDepth 20000

theorem PolyRd.get {w : World} {A : Option Addr} {n c : Nat} {ds : List Tq} {k : Nat} {E : Int} (h : PolyRd w A n c ds k E) {i : Nat} (hi : i < n) : ∃ g x, A = some ⟨g, 0, none⟩ ∧ g < w.heap.size ∧ ds[i]? = some x ∧ MonoE E x.1.L ∧ x.1.loose w x.2 k ∧ (tms ds)[i]? = some x.1 ∧
    w.ownsRow 0 47 11 (.slice (some ⟨g, 0, none⟩) n c) n (rowOf (tms ds)) ∧ (∀ u ∈ tms ds, u.L.length = 8) := by
  obtain ⟨g, e, hr⟩ := h.row (by omega)
  have hl := h.len
  have hx : ds[i]? = some (ds[i]'(by omega)) := List.getElem?_eq_getElem _
  have hm := List.mem_of_getElem? hx
  refine ⟨g, _, e, (hr.lt g rfl).2, hx, h.mono _ hm, h.coef _ hm, ?_, hr, fun u hu => ?_⟩
  · unfold tms; rw [List.getElem?_map, hx]; rfl
  · obtain ⟨y, hy, rfl⟩ := List.mem_map.1 hu
    exact (h.mono y hy).1
theorem take_trms {ds : List Tq} {i : Nat} {x : Tq} (hx : ds[i]? = some x) : trms (ds.take (i + 1)) = trms (ds.take i) ++ [(x.1.L, x.2)] := by
  rw [List.take_add_one, hx, trms_append]; rfl
/-- A box with a term's cells. -/
def TermBox (h : Nat) (x0 x1 x2 x3 x4 x5 x6 x7 : Int) (t : Tm) (W : World) : Prop := W.cell? ⟨h, 0, none⟩ = some (.int .i64 x0) ∧ W.cell? ⟨h, 1, none⟩ = some (.int .i64 x1) ∧ W.cell? ⟨h, 2, none⟩ = some (.int .i64 x2) ∧ W.cell? ⟨h, 3, none⟩ = some (.int .i64 x3) ∧ W.cell? ⟨h, 4, none⟩ = some (.int .i64 x4) ∧ W.cell? ⟨h, 5, none⟩ = some (.int .i64 x5) ∧ W.cell? ⟨h, 6, none⟩ = some (.int .i64 x6) ∧ W.cell? ⟨h, 7, none⟩ = some (.int .i64 x7) ∧ W.cell? ⟨h, 8, none⟩ = some (.bool t.s) ∧ W.cell? ⟨h, 9, none⟩ = some (.slice t.A t.n t.c) ∧ W.cell? ⟨h, 10, none⟩ = some (.slice t.B t.m t.d)
theorem TermBox.far {h : Nat} {x0 x1 x2 x3 x4 x5 x6 x7 : Int} {t : Tm} {W W' : World} (hb : TermBox h x0 x1 x2 x3 x4 x5 x6 x7 t W) (hf : W'.heap[h]? = W.heap[h]?) : TermBox h x0 x1 x2 x3 x4 x5 x6 x7 t W' := by
  have hc : ∀ j, W'.cell? ⟨h, j, none⟩ = W.cell? ⟨h, j, none⟩ := fun j => World.cell?_of_block (w := W) (a := ⟨h, j, none⟩) hf
  obtain ⟨h0, h1, h2, h3, h4, h5, h6, h7, h8, h9, h10⟩ := hb
  exact ⟨(hc 0).trans h0, (hc 1).trans h1, (hc 2).trans h2, (hc 3).trans h3, (hc 4).trans h4, (hc 5).trans h5, (hc 6).trans h6, (hc 7).trans h7, (hc 8).trans h8, (hc 9).trans h9, (hc 10).trans h10⟩
theorem TermBox.mk {w v : World} {x0 x1 x2 x3 x4 x5 x6 x7 : Int} {t : Tm} (hv : w.alloc (.cells #[.int .i64 x0, .int .i64 x1, .int .i64 x2, .int .i64 x3, .int .i64 x4, .int .i64 x5, .int .i64 x6, .int .i64 x7, .bool t.s, .slice t.A t.n t.c, .slice t.B t.m t.d] 47) = v) : TermBox w.heap.size x0 x1 x2 x3 x4 x5 x6 x7 t v := by
  have h := (alloc_facts hv).2.2.1
  have ha : ∀ q, (⟨w.heap.size, 0, none⟩ : Addr).add q = ⟨w.heap.size, q, none⟩ := fun q => by unfold Addr.add; split <;> simp_all
  simp only [ha] at h
  exact ⟨h 0 _ rfl, h 1 _ rfl, h 2 _ rfl, h 3 _ rfl, h 4 _ rfl, h 5 _ rfl, h 6 _ rfl, h 7 _ rfl, h 8 _ rfl, h 9 _ rfl, h 10 _ rfl⟩
/-- A change of a fraction that gives a normal form of another one. -/
def Changes (f : Nat) (ch : Rat → Rat) (k : Nat) : Prop := ∀ (w : World) (t : Tm) (q : Rat), Laid w → t.loose w q k → Calls Tryz.prog f #[.agg #[.bool t.s, .slice t.A t.n t.c, .slice t.B t.m t.d]] w (GivesR w (ch q) k)

set_option maxHeartbeats 8000000 in
theorem addTerms_x {w : World} {base p k k' fc : Nat} {E : Int} {A : Option Addr} {n c : Nat} {ds cs : List Tq} {ch : Rat → Rat} (hl : Laid w) (hg : 0 < base) (ef : ∀ args w, (callFunc fc args).run Tryz.prog w = .ok (.enter fc args) w) (hc : Changes fc ch k') (hs : SumIs w base p cs k E) (hd : PolyRd w A n c ds k' E) (hbel : ∀ g, 0 < n → A = some ⟨g, 0, none⟩ → g < base) (hlow : ∀ x ∈ ds, x.1.lies (· < base)) (hE : E ≤ 1000000000) (k0 : 1 ≤ k') (hK : 1 ≤ k) (hk8 : k' ≤ 300000) (hbig : k + n * (k' + 1) ≤ 300000) (hcs : cs.length + n < 1000000) :
    Calls Tryz.prog 48 #[.pointer (some ⟨p, 0, none⟩), .slice A n c, .func (.func fc) #[] #[]] w fun e w' => e = .returned (.tuple #[]) ∧ Below base w w' ∧
      ∃ cs', SumIs w' base p cs' (k + n * (k' + 1)) E ∧ Eqv (trms cs') (trms cs ++ (trms ds).map fun t => (t.1, ch t.2)) ∧ cs'.length ≤ cs.length + n := by
  have HC := Lib.hid hc
  have HD := Lib.hid hd
  have HBEL := Lib.hid hbel
  have HLOW := Lib.hid hlow
  have hmix : Tryz.prog.follows .mixedOrders = true := by kernel_rfl
  have hlen := hd.len
  have HLEN := Lib.hid hlen
  have hbn := hd.big
  have hS0 := Lib.hid hs
  clear hc hd hs hbel hlow hlen
  go_enter Tryz.func48, Tryz.ntmps48
  go_wp2
  go_loopw [10] (fun iv wr => ∃ (i : Nat) (cs' : List Tq), i ≤ n ∧ iv = .int .i64 i ∧ Below base w wr ∧ Hid (SumIs wr base p cs' (k + i * (k' + 1)) E) ∧ Hid (Eqv (trms cs') (trms cs ++ (trms (ds.take i)).map fun t => (t.1, ch t.2))) ∧ cs'.length ≤ cs.length + i) (fun iv _ => n - (intOf iv).toNat)
  case atStart => exact ⟨0, cs, Nat.zero_le _, rfl, Below.refl _ _, (hS0.out.mono (by omega) (Int.le_refl _)), fun f => by simp [trms], by omega⟩
  case round =>
    obtain ⟨i, cs', hi, rfl, hB, HS, HQ, hcl⟩ := hrel
    by_cases hlt : i < n
    · have hi2 : (i : Int) < n := by omega
      have hi3 : (0 : Int) ≤ i := by omega
      obtain ⟨g, x, rfl, hgl, hx, hM, hlo, hxt, hrow, h8⟩ := HD.out.get hlt
      have hgb := HBEL.out g (by omega) rfl
      have hxm := List.mem_of_getElem? hx
      have hK0 : 1 ≤ k + i * (k' + 1) := by omega
      have hstep : k + i * (k' + 1) + (k' + 1) = k + (i + 1) * (k' + 1) := by rw [Nat.add_mul, Nat.one_mul]; omega
      have hle : (i + 1) * (k' + 1) ≤ n * (k' + 1) := Nat.mul_le_mul_right _ hlt
      have hK8 : k + i * (k' + 1) ≤ 300000 := by omega
      have hcs : cs'.length < 1000000 := by omega
      have hlr := hl.under hB hg
      have hlor : x.1.loose wr x.2 k' := hlo.apart hB.size ((HLOW.out x hxm).mono fun b hb => hB.block b hb)
      obtain ⟨x0, x1, x2, x3, x4, x5, x6, x7, hL⟩ := eight hM.1
      have hM8 : MonoE E [x0, x1, x2, x3, x4, x5, x6, x7] := hL ▸ hM
      have hrow' : wr.ownsRow 0 47 11 (.slice (some ⟨g, 0, none⟩) n c) n (rowOf (tms ds)) := by
        obtain ⟨a1, a2⟩ := hrow
        refine ⟨a1, a2.imp id ?_⟩
        rintro ⟨g', cap', cur, e1, e2, e3, e4⟩
        simp only [Value.slice.injEq, Option.some.injEq, Addr.mk.injEq, and_true, true_and] at e1
        obtain ⟨rfl, rfl⟩ := e1
        exact ⟨g, c, cur, rfl, e2, (hB.block g hgb).trans e3, e4⟩
      obtain ⟨c0, c1, c2, c3, c4, c5, c6, c7, c8, c9, c10⟩ := row_cells hrow' h8 (by rw [tms_length, HLEN.out]) hxt hL
      obtain ⟨v, hv⟩ : ∃ v, wr.alloc (.cells #[.int .i64 x0, .int .i64 x1, .int .i64 x2, .int .i64 x3, .int .i64 x4, .int .i64 x5, .int .i64 x6, .int .i64 x7, .bool x.1.s, .slice x.1.A x.1.n x.1.c, .slice x.1.B x.1.m x.1.d] 47) = v := ⟨_, rfl⟩
      have hbv : Below wr.heap.size wr v := hv ▸ (Below.refl _ wr).alloc (Nat.le_refl _) _
      have hvs : v.heap.size = wr.heap.size + 1 := (alloc_facts hv).2.2.2
      have HBX : Hid (∀ W, Below v.heap.size v W → TermBox wr.heap.size x0 x1 x2 x3 x4 x5 x6 x7 x.1 W) := fun W hW => (TermBox.mk hv).far (hW.block _ (by omega))
      have HV := Lib.hid hv
      have HL := Lib.hid hL
      have HX := Lib.hid hx
      have hlv := hlr.below hbv
      replace hlo := hlor.below hbv
      have HROW := Lib.hid hrow'
      clear hL hx hv hrow hrow' hxm hlor h8 hM hxt
      go_wp2_with fail
      rw [HV.out]
      clear c0 c1 c2 c3 c4 c5 c6 c7 c8 c9 c10
      have hk : Below v.heap.size v v.drew := (Below.refl _ _).drew
      refine wp_region_held_drew (S := (fun W => TermBox wr.heap.size x0 x1 x2 x3 x4 x5 x6 x7 x.1 W)) (by kernel_rfl) ?_ (fun hHeld => ?_)
      · exact HBX.out _ hk
      refine wpAnyH_take (i := 0) (oi := ⟨some 14, _, _, _, _, _⟩) (v := ?_) rfl (by kernel_rfl) (by kernel_rfl) (by kernel_rfl) (fun _ _ _ h => h) (Or.inl ⟨by rfl, ?_⟩) (by assumption) ?_
      rotate_left
      · intro w hSw
        (try dsimp only at hSw)
        unfold TermBox at hSw
        obtain ⟨h0, h1, h2, h3, h4, h5, h6, h7, h8, h9, h10⟩ := hSw
        go_simp
        try with_reducible rfl
      try simp only [Act.put, List.setIfInBounds_toArray, List.set_cons_zero, List.set_cons_succ]
      refine wpAnyH_take (i := 1) (oi := ⟨some 15, _, _, _, _, _⟩) (v := ?_) rfl (by kernel_rfl) (by kernel_rfl) (by kernel_rfl) (fun _ _ _ h => h) (Or.inl ⟨by rfl, ?_⟩) (by assumption) ?_
      rotate_left
      · intro w hSw
        (try dsimp only at hSw)
        unfold TermBox at hSw
        obtain ⟨h0, h1, h2, h3, h4, h5, h6, h7, h8, h9, h10⟩ := hSw
        go_simp
        try with_reducible rfl
      try simp only [Act.put, List.setIfInBounds_toArray, List.set_cons_zero, List.set_cons_succ]
      refine wpAnyH_take (i := 2) (oi := ⟨some 16, _, _, _, _, _⟩) (v := ?_) rfl (by kernel_rfl) (by kernel_rfl) (by kernel_rfl) (fun _ _ _ h => h) (Or.inl ⟨by rfl, ?_⟩) (by assumption) ?_
      rotate_left
      · intro w hSw
        (try dsimp only at hSw)
        unfold TermBox at hSw
        obtain ⟨h0, h1, h2, h3, h4, h5, h6, h7, h8, h9, h10⟩ := hSw
        go_simp
        try with_reducible rfl
      try simp only [Act.put, List.setIfInBounds_toArray, List.set_cons_zero, List.set_cons_succ]
      refine wpAnyH_take (i := 3) (oi := ⟨some 17, _, _, _, _, _⟩) (v := ?_) rfl (by kernel_rfl) (by kernel_rfl) (by kernel_rfl) (fun _ _ _ h => h) (Or.inl ⟨by rfl, ?_⟩) (by assumption) ?_
      rotate_left
      · intro w hSw
        (try dsimp only at hSw)
        unfold TermBox at hSw
        obtain ⟨h0, h1, h2, h3, h4, h5, h6, h7, h8, h9, h10⟩ := hSw
        go_simp
        try with_reducible rfl
      try simp only [Act.put, List.setIfInBounds_toArray, List.set_cons_zero, List.set_cons_succ]
      refine wpAnyH_take (i := 4) (oi := ⟨some 18, _, _, _, _, _⟩) (v := ?_) rfl (by kernel_rfl) (by kernel_rfl) (by kernel_rfl) (fun _ _ _ h => h) (Or.inl ⟨by rfl, ?_⟩) (by assumption) ?_
      rotate_left
      · intro w hSw
        (try dsimp only at hSw)
        unfold TermBox at hSw
        obtain ⟨h0, h1, h2, h3, h4, h5, h6, h7, h8, h9, h10⟩ := hSw
        go_simp
        try with_reducible rfl
      try simp only [Act.put, List.setIfInBounds_toArray, List.set_cons_zero, List.set_cons_succ]
      refine wpAnyH_take (i := 5) (oi := ⟨some 19, _, _, _, _, _⟩) (v := ?_) rfl (by kernel_rfl) (by kernel_rfl) (by kernel_rfl) (fun _ _ _ h => h) (Or.inl ⟨by rfl, ?_⟩) (by assumption) ?_
      rotate_left
      · intro w hSw
        (try dsimp only at hSw)
        unfold TermBox at hSw
        obtain ⟨h0, h1, h2, h3, h4, h5, h6, h7, h8, h9, h10⟩ := hSw
        go_simp
        try with_reducible rfl
      try simp only [Act.put, List.setIfInBounds_toArray, List.set_cons_zero, List.set_cons_succ]
      refine wpAnyH_ready (rs := [6]) (by kernel_rfl) (by simp) ?_
      refine AllReadyH.cons (o := ⟨some 20, _, _, _, _, _⟩) rfl (fun K hK => ?_) AllReadyH.nil
      go_simp
      go_at_fn fc
      refine (HC.out _ x.1 x.2 (hlv.below hk) (hlo.below hk)).mono ?_
      rintro e w3 ⟨s3, A3, n3, c3, B3, m3, d3, rfl, r3, oA3, oB3, e3⟩
      have hw3 := Nat.le_trans hbv.size hk.size
      replace hk := nextB hk e3
      go_wp2_with fail
      refine hK.out _ _ (HBX.out _ hk) (fun hHeld => ?_)
      clear hK K
      try simp only [Act.put, List.setIfInBounds_toArray, List.set_cons_zero, List.set_cons_succ]
      refine wpAnyH_ready (rs := [7]) (by kernel_rfl) (by simp) ?_
      refine AllReadyH.cons (o := ⟨some 21, _, _, _, _, _⟩) rfl (fun K hK => ?_) AllReadyH.nil
      go_simp
      go_at_call 61
      refine ((SumIs.add (t := ⟨[x0, x1, x2, x3, x4, x5, x6, x7], s3, A3, n3, c3, B3, m3, d3⟩) (hlv.below hk) HS.out (hbv.trans (hk.mono hbv.size)) hE hM8 r3 (.inl (Off.lies (t := ⟨[x0, x1, x2, x3, x4, x5, x6, x7], s3, A3, n3, c3, B3, m3, d3⟩) (oA3.mono hw3) (oB3.mono hw3))) hK0 k0 hK8 hk8 hcs)).mono ?_
      rintro e w4 ⟨b4, rfl, hB4, hF4, cs4, hs4, hq4, hl4⟩
      have hX4 := (HBX.out _ hk).far (hF4 _ (Nat.le_refl _) (by have := hk.size; omega))
      go_wp2_with fail
      refine hK.out _ _ hX4 (fun hHeld => ?_)
      clear hK K
      try simp only [Act.put, List.setIfInBounds_toArray, List.set_cons_zero, List.set_cons_succ]
      refine wpAnyH_done (by kernel_rfl) ?_ _
      have hbs : base ≤ wr.heap.size := by
        obtain ⟨_, _, _, _, hh⟩ := HS.out
        have := hh.basep
        have := hh.lt
        omega
      have hB5 : Below base w w4 := ((hB.trans (hbv.mono hbs)).trans (hk.mono (Nat.le_trans hbs hbv.size))).trans hB4
      have HS5 : Hid (SumIs w4 base p cs4 (k + (i + 1) * (k' + 1)) E) := by show SumIs _ _ _ _ _ _; rw [← hstep]; exact hs4
      have HQ5 : Hid (Eqv (trms cs4) (trms cs ++ (trms (ds.take (i + 1))).map fun t => (t.1, ch t.2))) := fun f => by
        rw [take_trms HX.out, List.map_append, ← List.append_assoc, hq4 f, lin_append, lin_append, HQ.out f, HL.out]
        rfl
      have hcl5 : cs4.length ≤ cs.length + (i + 1) := by omega
      clear hq4 hs4 hB4 hF4 hX4 hk hbv hB HS HQ hl4 r3 oA3 oB3
      go_wp2
      go_roundw
      case rel => exact ⟨i + 1, cs4, by omega, by go_num, hB5, HS5, HQ5, hcl5⟩
      case measure => simp [intOf] <;> omega
    · obtain rfl : i = n := by omega
      have hq : Hid (Eqv (trms cs') (trms cs ++ (trms ds).map fun t => (t.1, ch t.2))) := by
        have := HQ.out
        rw [List.take_of_length_le (by rw [← HLEN.out]; exact Nat.le_refl _)] at this
        exact this
      clear HQ
      go_wp2
      go_end0
      exact ⟨rfl, hB, cs', HS.out, hq.out, hcl⟩

/-- A sum whose blocks are none of O. -/
def SumOn (w : World) (base p : Nat) (cs : List Tq) (k : Nat) (E : Int) (O : List Nat) : Prop := ∃ b g cap D, SumAt w base p b g cap D cs k E ∧ ∀ i ∈ O, i < w.heap.size ∧ i ≠ p ∧ i ≠ b ∧ i ≠ g
theorem SumIs.on {w : World} {base p k : Nat} {E : Int} {cs : List Tq} (h : SumIs w base p cs k E) : SumOn w base p cs k E [] := by
  obtain ⟨b, g, cap, D, h⟩ := h
  exact ⟨b, g, cap, D, h, fun i hi => by cases hi⟩
theorem SumOn.is {w : World} {base p k : Nat} {E : Int} {cs : List Tq} {O : List Nat} (h : SumOn w base p cs k E O) : SumIs w base p cs k E := by
  obtain ⟨b, g, cap, D, h, _⟩ := h
  exact ⟨b, g, cap, D, h⟩
theorem SumOn.below {w w' : World} {base p k : Nat} {E : Int} {cs : List Tq} {O : List Nat} (h : SumOn w base p cs k E O) (hb : Below w.heap.size w w') : SumOn w' base p cs k E O := by
  obtain ⟨b, g, cap, D, h, ho⟩ := h
  exact ⟨b, g, cap, D, h.below hb, fun i hi => ⟨Nat.lt_of_lt_of_le (ho i hi).1 hb.size, (ho i hi).2⟩⟩
theorem SumOn.push {w w' : World} {base p k : Nat} {E : Int} {cs : List Tq} {O : List Nat} (h : SumOn w base p cs k E O) (hb : Below w.heap.size w w') {i : Nat} (h1 : w.heap.size ≤ i) (h2 : i < w'.heap.size) : SumOn w' base p cs k E (i :: O) := by
  obtain ⟨b, g, cap, D, h, ho⟩ := h
  have hpl := h.lt
  have hbl := h.map.lt
  have hgl := (h.row.lt g rfl).2
  refine ⟨b, g, cap, D, h.below hb, fun j hj => ?_⟩
  rcases List.mem_cons.1 hj with rfl | hj
  · exact ⟨h2, by omega, by omega, by omega⟩
  · exact ⟨Nat.lt_of_lt_of_le (ho j hj).1 hb.size, (ho j hj).2⟩
theorem SumOn.pop {w : World} {base p k i : Nat} {E : Int} {cs : List Tq} {O : List Nat} (h : SumOn w base p cs k E (i :: O)) : SumOn w base p cs k E O := by
  obtain ⟨b, g, cap, D, h, ho⟩ := h
  exact ⟨b, g, cap, D, h, fun j hj => ho j (List.mem_cons_of_mem _ hj)⟩
theorem SumOn.mono {w : World} {base p k j : Nat} {E : Int} {cs : List Tq} {O : List Nat} (h : SumOn w base p cs k E O) (hk : k ≤ j) : SumOn w base p cs j E O := by
  obtain ⟨b, g, cap, D, h, ho⟩ := h
  exact ⟨b, g, cap, D, { h with coef := fun x hx => ⟨(h.coef x hx).1.mono hk, (h.coef x hx).2⟩ }, ho⟩
theorem SumOn.base_le {w : World} {base p k : Nat} {E : Int} {cs : List Tq} {O : List Nat} (h : SumOn w base p cs k E O) : base ≤ w.heap.size := by
  obtain ⟨b, g, cap, D, h, ho⟩ := h
  have := h.lt
  have := h.basep
  omega
theorem SumOn.add {w0 w : World} {base p k k' : Nat} {E : Int} {cs : List Tq} {O : List Nat} {t : Tm} {q : Rat} (hl : Laid w) (h : SumOn w0 base p cs k E O) (hb : Below w0.heap.size w0 w) (hE : E ≤ 1000000000) (hM : MonoE E t.L) (hr : t.rn w q k') (ht : t.lies (w0.heap.size ≤ ·)) (k0 : 1 ≤ k) (k1 : 1 ≤ k') (hk8 : k ≤ 300000) (hk9 : k' ≤ 300000) (hn : cs.length < 1000000) :
    Calls Tryz.prog 61 #[.pointer (some ⟨p, 0, none⟩), monV t.L, .agg #[.bool t.s, .slice t.A t.n t.c, .slice t.B t.m t.d]] w fun e w' => ∃ v, e = .returned (.bool v) ∧ Below base w w' ∧ (∀ i ∈ O, w'.heap[i]? = w.heap[i]?) ∧
      ∃ cs', SumOn w' base p cs' (k + k' + 1) E O ∧ Eqv (trms cs') (trms cs ++ [(t.L, q)]) ∧ cs'.length ≤ cs.length + 1 := by
  have hw0 := h.base_le
  obtain ⟨b, g, cap, D, h, ho⟩ := h
  have hpl := h.lt
  have hbl := h.map.lt
  have hgl := (h.row.lt g rfl).2
  replace h := h.below hb
  have hsz := hb.size
  have hw : base ≤ w.heap.size := by omega
  have ho' : ∀ i ∈ O, i < w.heap.size ∧ i ≠ p ∧ i ≠ b ∧ i ≠ g := fun i hi => ⟨Nat.lt_of_lt_of_le (ho i hi).1 hsz, (ho i hi).2⟩
  by_cases hin : t.L ∈ mons cs
  · obtain ⟨i, hi⟩ := List.mem_iff_getElem?.mp hin
    unfold mons at hi
    rw [List.getElem?_map] at hi
    obtain ⟨x, hx, hxL⟩ := Option.map_eq_some_iff.1 hi
    refine (h.old hl hE hx hxL hr.loose k0 k1 hk8 hk9).mono ?_
    rintro e w' ⟨rfl, K, y, hy, hs⟩
    refine ⟨_, rfl, K.below_base h.basep h.baseb h.baseg hw, fun i hi => K.block i (ho' i hi).1 (ho' i hi).2.1 (ho' i hi).2.2.1 (ho' i hi).2.2.2, _, ⟨b, g, cap, D, hs, fun i hi => ⟨Nat.lt_of_lt_of_le (ho' i hi).1 K.size, (ho' i hi).2⟩⟩, fun f => ?_, by rw [List.length_set]; omega⟩
    have := lin_set hx (y := (y, x.2 + q)) hy q rfl f
    rw [hxL] at this
    exact this
  · have hm : SumAt w base p b g cap D cs (k + k' + 1) E := { h with coef := fun x hx => ⟨(h.coef x hx).1.mono (by omega), (h.coef x hx).2⟩ }
    refine (hm.new hE hM hin (hr.mono (by omega)) (ht.mono fun i hi => by omega) hn).mono ?_
    rintro e w' ⟨rfl, K, g', cap', hg', hs⟩
    refine ⟨_, rfl, K.below_base h.basep h.baseb h.baseg hw, fun i hi => K.block i (ho' i hi).1 (ho' i hi).2.1 (ho' i hi).2.2.1 (ho' i hi).2.2.2, _, ⟨b, g', cap', _, hs, fun i hi => ⟨Nat.lt_of_lt_of_le (ho' i hi).1 K.size, (ho' i hi).2.1, (ho' i hi).2.2.1, ?_⟩⟩, fun f => by rw [trms_append]; rfl, by rw [List.length_append]; simp⟩
    have := ho' i hi
    omega

/-- A polynomial that lies below base. -/
structure PolyLow (w : World) (base : Nat) (A : Option Addr) (n c : Nat) (ds : List Tq) (k : Nat) (E : Int) : Prop where
  rd : PolyRd w A n c ds k E
  blk : ∀ g, 0 < n → A = some ⟨g, 0, none⟩ → g < base
  low : ∀ x ∈ ds, x.1.lies (· < base)
theorem PolyLow.keep {w w' : World} {base : Nat} {A : Option Addr} {n c : Nat} {ds : List Tq} {k : Nat} {E : Int} (h : PolyLow w base A n c ds k E) (hb : Below base w w') : PolyLow w' base A n c ds k E :=
  ⟨⟨h.rd.len, h.rd.cap, h.rd.big, fun hn => by
      obtain ⟨g, e, hr⟩ := h.rd.row hn
      refine ⟨g, e, ?_⟩
      have hgb := h.blk g hn e
      obtain ⟨a1, a2⟩ := hr
      refine ⟨a1, a2.imp id ?_⟩
      rintro ⟨g', cap', cur, e1, e2, e3, e4⟩
      simp only [Value.slice.injEq, Option.some.injEq, Addr.mk.injEq, and_true, true_and] at e1
      obtain ⟨rfl, rfl⟩ := e1
      exact ⟨g, c, cur, rfl, e2, (hb.block g hgb).trans e3, e4⟩, h.rd.mono, fun x hx => (h.rd.coef x hx).apart hb.size ((h.low x hx).mono fun b hh => hb.block b hh)⟩, h.blk, h.low⟩
theorem PolyRd.lower {w : World} {A : Option Addr} {n c : Nat} {ds : List Tq} {k : Nat} {E : Int} (h : PolyRd w A n c ds k E) : (∀ g, 0 < n → A = some ⟨g, 0, none⟩ → g < w.heap.size) ∧ ∀ x ∈ ds, x.1.lies (· < w.heap.size) :=
  ⟨fun g hn e => by
    obtain ⟨g', e', hr⟩ := h.row hn
    rw [e] at e'
    injection e' with e'
    injection e' with e'
    subst e'
    exact (hr.lt g rfl).2, fun x hx => (h.coef x hx).old⟩
theorem prods_left (l r s : List Trm) : prods (l ++ r) s = prods l s ++ prods r s := List.flatMap_append

set_option maxHeartbeats 20000000 in
theorem addProducts_x {w : World} {base p k kd ke : Nat} {E F G : Int} {A B : Option Addr} {n c m d : Nat} {ds es cs : List Tq} (hl : Laid w) (hg : 0 < base) (hs : SumIs w base p cs k G) (hd : PolyLow w base A n c ds kd E) (he : PolyLow w base B m d es ke F) (hE : E ≤ 1000000000) (hF : F ≤ 1000000000) (hEF : E + F ≤ G) (hG : G ≤ 1000000000) (k0 : 1 ≤ k) (kd0 : 1 ≤ kd) (ke0 : 1 ≤ ke) (hbig : k + n * (m * (kd + ke + 1)) ≤ 300000) (hkde : kd + ke ≤ 300000) (hcs : cs.length + n * m < 1000000) :
    Calls Tryz.prog 40 #[.pointer (some ⟨p, 0, none⟩), .slice A n c, .slice B m d] w fun e w' => e = .returned (.tuple #[]) ∧ Below base w w' ∧
      ∃ cs', SumIs w' base p cs' (k + n * (m * (kd + ke + 1))) G ∧ Eqv (trms cs') (trms cs ++ prods (trms ds) (trms es)) ∧ cs'.length ≤ cs.length + n * m := by
  have HD := Lib.hid hd
  have HE := Lib.hid he
  have HLD := Lib.hid hd.rd.len
  have HLE := Lib.hid he.rd.len
  have hbn := hd.rd.big
  have hbm := he.rd.big
  have hS0 := Lib.hid hs
  obtain ⟨q, hq⟩ : ∃ q, kd + ke + 1 = q := ⟨_, rfl⟩
  rw [hq] at hbig ⊢
  obtain ⟨mq, hmq⟩ : ∃ mq, m * q = mq := ⟨_, rfl⟩
  rw [hmq] at hbig ⊢
  have HQE := Lib.hid hq
  have HMQ := Lib.hid hmq
  have HBIG := Lib.hid hbig
  have HCS := Lib.hid hcs
  have HKDE := Lib.hid hkde
  have hmix : Tryz.prog.follows .mixedOrders = true := by kernel_rfl
  clear hd he hs hq hmq hbig hcs hkde
  go_enter Tryz.func40, Tryz.ntmps40
  go_wp2
  go_loopw [12] (fun iv wr => ∃ (i : Nat) (cs' : List Tq), i ≤ n ∧ iv = .int .i64 i ∧ Below base w wr ∧ Hid (SumIs wr base p cs' (k + i * mq) G) ∧ Hid (Eqv (trms cs') (trms cs ++ prods (trms (ds.take i)) (trms es))) ∧ Hid (cs'.length ≤ cs.length + i * m)) (fun iv _ => n - (intOf iv).toNat)
  case atStart => exact ⟨0, cs, Nat.zero_le _, rfl, Below.refl _ _, (hS0.out.mono (by omega) (Int.le_refl _)), fun f => by simp [trms, prods], by show _ ≤ _; omega⟩
  case round =>
    obtain ⟨i, cs', hi, rfl, hB, HS, HQ, hcl⟩ := hrel
    by_cases hlt : i < n
    · have hi2 : (i : Int) < n := by omega
      have hi3 : (0 : Int) ≤ i := by omega
      obtain ⟨g, x, rfl, hgl, hx, hMx, hlo, hxt, hrow, h8⟩ := (HD.out.keep hB).rd.get hlt
      obtain ⟨x0, x1, x2, x3, x4, x5, x6, x7, hL⟩ := eight hMx.1
      obtain ⟨c0, c1, c2, c3, c4, c5, c6, c7, c8, c9, c10⟩ := row_cells hrow h8 (by rw [tms_length, HLD.out]) hxt hL
      obtain ⟨v, hv⟩ : ∃ v, wr.alloc (.cells #[.int .i64 x0, .int .i64 x1, .int .i64 x2, .int .i64 x3, .int .i64 x4, .int .i64 x5, .int .i64 x6, .int .i64 x7, .bool x.1.s, .slice x.1.A x.1.n x.1.c, .slice x.1.B x.1.m x.1.d] 47) = v := ⟨_, rfl⟩
      have hbv : Below wr.heap.size wr v := hv ▸ (Below.refl _ wr).alloc (Nat.le_refl _) _
      have hvs : v.heap.size = wr.heap.size + 1 := (alloc_facts hv).2.2.2
      have hbs : base ≤ wr.heap.size := HS.out.on.base_le
      obtain ⟨hb0, hhb⟩ : ∃ h, wr.heap.size = h := ⟨_, rfl⟩
      have HBX0 : Hid (TermBox hb0 x0 x1 x2 x3 x4 x5 x6 x7 x.1 v) := by show TermBox _ _ _ _ _ _ _ _ _ _ _; rw [← hhb]; exact TermBox.mk hv
      have HS1 : Hid (SumOn v base p cs' (k + i * mq + 0 * q) G [hb0]) := by
        show SumOn _ _ _ _ _ _ _
        rw [Nat.zero_mul, Nat.add_zero, ← hhb]
        exact HS.out.on.push hbv (Nat.le_refl _) (by omega)
      have hBv : Below base w v := hB.trans (hbv.mono hbs)
      have HV := Lib.hid hv
      have HHB := Lib.hid hhb
      have HL := Lib.hid hL
      have HX := Lib.hid hx
      have hMx' : MonoE E [x0, x1, x2, x3, x4, x5, x6, x7] := hL ▸ hMx
      clear hL hx hv hrow h8 hMx hxt hlo HS hhb
      go_wp2_with fail
      rw [HV.out, HHB.out]
      clear c0 c1 c2 c3 c4 c5 c6 c7 c8 c9 c10
      go_wp2
      go_loopw [18] (fun jv wr => ∃ (j : Nat) (cu : List Tq), j ≤ m ∧ jv = .int .i64 j ∧ Below base w wr ∧ Hid (SumOn wr base p cu (k + i * mq + j * q) G [hb0]) ∧ Hid (TermBox hb0 x0 x1 x2 x3 x4 x5 x6 x7 x.1 wr) ∧ Hid (Eqv (trms cu) (trms cs' ++ prods [(x.1.L, x.2)] (trms (es.take j)))) ∧ Hid (cu.length ≤ cs'.length + j)) (fun jv _ => m - (intOf jv).toNat)
      case atStart => exact ⟨0, cs', Nat.zero_le _, rfl, hBv, HS1.out, HBX0.out, fun f => by simp [trms, prods], by show _ ≤ _; omega⟩
      case round =>
        clear HS1 HBX0 hBv hB hbv hvs hbs
        obtain ⟨j, cu, hj, rfl, hB, HS, HTX, HQ2, hcl2⟩ := hrel
        by_cases hlt2 : j < m
        · have hj2 : (j : Int) < m := by omega
          have hj3 : (0 : Int) ≤ j := by omega
          obtain ⟨g2, y, rfl, hgl2, hy, hMy0, hlo, hyt, hrow, h8⟩ := (HE.out.keep hB).rd.get hlt2
          obtain ⟨y0, y1, y2, y3, y4, y5, y6, y7, hL2⟩ := eight hMy0.1
          obtain ⟨c0, c1, c2, c3, c4, c5, c6, c7, c8, c9, c10⟩ := row_cells hrow h8 (by rw [tms_length, HLE.out]) hyt hL2
          obtain ⟨v2, hv⟩ : ∃ v, wr.alloc (.cells #[.int .i64 y0, .int .i64 y1, .int .i64 y2, .int .i64 y3, .int .i64 y4, .int .i64 y5, .int .i64 y6, .int .i64 y7, .bool y.1.s, .slice y.1.A y.1.n y.1.c, .slice y.1.B y.1.m y.1.d] 47) = v := ⟨_, rfl⟩
          have hbv : Below wr.heap.size wr v2 := hv ▸ (Below.refl _ wr).alloc (Nat.le_refl _) _
          have hvs : v2.heap.size = wr.heap.size + 1 := (alloc_facts hv).2.2.2
          have hbs : base ≤ wr.heap.size := HS.out.base_le
          have hb0l : hb0 < wr.heap.size := by
            obtain ⟨_, _, _, _, _, ho⟩ := HS.out
            exact (ho hb0 (by simp)).1
          have HBX : Hid (∀ W, Below v2.heap.size v2 W → TermBox hb0 x0 x1 x2 x3 x4 x5 x6 x7 x.1 W) := fun W hW => HTX.out.far ((hW.block _ (by omega)).trans (hbv.block _ hb0l))
          have HBY : Hid (∀ W, Below v2.heap.size v2 W → TermBox wr.heap.size y0 y1 y2 y3 y4 y5 y6 y7 y.1 W) := fun W hW => (TermBox.mk hv).far (hW.block _ (by omega))
          have HS2 : Hid (SumOn v2 base p cu (k + i * mq + j * q) G [wr.heap.size, hb0]) := HS.out.push hbv (Nat.le_refl _) (by omega)
          have hBv : Below base w v2 := hB.trans (hbv.mono hbs)
          have hlv : Laid v2 := hl.under hBv hg
          have hlx : x.1.loose v2 x.2 kd := (HD.out.keep hBv).rd.coef x (List.mem_of_getElem? HX.out)
          have hly : y.1.loose v2 y.2 ke := hlo.below hbv
          have hMx : MonoE E [x0, x1, x2, x3, x4, x5, x6, x7] := hMx'
          have hMy : MonoE F [y0, y1, y2, y3, y4, y5, y6, y7] := hL2 ▸ hMy0
          have hMxy : MonoE G (madd [x0, x1, x2, x3, x4, x5, x6, x7] [y0, y1, y2, y3, y4, y5, y6, y7]) := (hMx.add hMy).le hEF
          have hstep : k + i * mq + j * q + (kd + ke) + 1 = k + i * mq + (j + 1) * q := by rw [Nat.add_mul, Nat.one_mul]; have := HQE.out; omega
          have hle1 : (j + 1) * q ≤ mq := by rw [← HMQ.out]; exact Nat.mul_le_mul_right _ hlt2
          have hle2 : (i + 1) * mq ≤ n * mq := Nat.mul_le_mul_right _ hlt
          have hexp : (i + 1) * mq = i * mq + mq := by rw [Nat.add_mul, Nat.one_mul]
          have hexp2 : (j + 1) * q = j * q + q := by rw [Nat.add_mul, Nat.one_mul]
          have hbig := HBIG.out
          have hkde := HKDE.out
          have hK0 : 1 ≤ k + i * mq + j * q := by omega
          have hK8 : k + i * mq + j * q ≤ 300000 := by omega
          have hq0 : 1 ≤ kd + ke := by omega
          have hq8 : kd + ke ≤ 300000 := hkde
          have hcs : cu.length < 1000000 := by
            have h1 := hcl2.out
            have h2 := hcl.out
            have h3 := HCS.out
            have h4 : (i + 1) * m ≤ n * m := Nat.mul_le_mul_right _ hlt
            rw [Nat.add_mul, Nat.one_mul] at h4
            omega
          have HV2 := Lib.hid hv
          have HL2 := Lib.hid hL2
          have HY := Lib.hid hy
          have HST := Lib.hid hstep
          clear hL2 hy hv hrow h8 hMy0 hyt hlo hle1 hle2 hexp hexp2 hbig hkde hstep HS HTX
          go_wp2_with fail
          rw [HV2.out]
          clear c0 c1 c2 c3 c4 c5 c6 c7 c8 c9 c10
          have hk : Below v2.heap.size v2 v2.drew := (Below.refl _ _).drew
          refine wp_region_held_drew (S := (fun W => TermBox hb0 x0 x1 x2 x3 x4 x5 x6 x7 x.1 W ∧ TermBox wr.heap.size y0 y1 y2 y3 y4 y5 y6 y7 y.1 W)) (by kernel_rfl) ?_ (fun hHeld => ?_)
          · exact ⟨HBX.out _ hk, HBY.out _ hk⟩
          refine wpAnyH_take (i := 0) (oi := ⟨some 22, _, _, _, _, _⟩) (v := ?_) rfl (by kernel_rfl) (by kernel_rfl) (by kernel_rfl) (fun _ _ _ h => h) (Or.inl ⟨by rfl, ?_⟩) (by assumption) ?_
          rotate_left
          · intro w hSw
            (try dsimp only at hSw)
            unfold TermBox at hSw
            obtain ⟨⟨h0, h1, h2, h3, h4, h5, h6, h7, h8, h9, h10⟩, ⟨g0, g1, g2, g3, g4, g5, g6, g7, g8, g9, g10⟩⟩ := hSw
            go_simp
            try with_reducible rfl
          try simp only [Act.put, List.setIfInBounds_toArray, List.set_cons_zero, List.set_cons_succ]
          refine wpAnyH_take (i := 1) (oi := ⟨some 23, _, _, _, _, _⟩) (v := ?_) rfl (by kernel_rfl) (by kernel_rfl) (by kernel_rfl) (fun _ _ _ h => h) (Or.inl ⟨by rfl, ?_⟩) (by assumption) ?_
          rotate_left
          · intro w hSw
            (try dsimp only at hSw)
            unfold TermBox at hSw
            obtain ⟨⟨h0, h1, h2, h3, h4, h5, h6, h7, h8, h9, h10⟩, ⟨g0, g1, g2, g3, g4, g5, g6, g7, g8, g9, g10⟩⟩ := hSw
            go_simp
            try with_reducible rfl
          try simp only [Act.put, List.setIfInBounds_toArray, List.set_cons_zero, List.set_cons_succ]
          refine wpAnyH_take (i := 2) (oi := ⟨some 24, _, _, _, _, _⟩) (v := ?_) rfl (by kernel_rfl) (by kernel_rfl) (by kernel_rfl) (fun _ _ _ h => h) (Or.inl ⟨by rfl, ?_⟩) (by assumption) ?_
          rotate_left
          · intro w hSw
            (try dsimp only at hSw)
            unfold TermBox at hSw
            obtain ⟨⟨h0, h1, h2, h3, h4, h5, h6, h7, h8, h9, h10⟩, ⟨g0, g1, g2, g3, g4, g5, g6, g7, g8, g9, g10⟩⟩ := hSw
            go_simp
            try with_reducible rfl
          try simp only [Act.put, List.setIfInBounds_toArray, List.set_cons_zero, List.set_cons_succ]
          refine wpAnyH_take (i := 3) (oi := ⟨some 25, _, _, _, _, _⟩) (v := ?_) rfl (by kernel_rfl) (by kernel_rfl) (by kernel_rfl) (fun _ _ _ h => h) (Or.inl ⟨by rfl, ?_⟩) (by assumption) ?_
          rotate_left
          · intro w hSw
            (try dsimp only at hSw)
            unfold TermBox at hSw
            obtain ⟨⟨h0, h1, h2, h3, h4, h5, h6, h7, h8, h9, h10⟩, ⟨g0, g1, g2, g3, g4, g5, g6, g7, g8, g9, g10⟩⟩ := hSw
            go_simp
            try with_reducible rfl
          try simp only [Act.put, List.setIfInBounds_toArray, List.set_cons_zero, List.set_cons_succ]
          refine wpAnyH_take (i := 4) (oi := ⟨some 26, _, _, _, _, _⟩) (v := ?_) rfl (by kernel_rfl) (by kernel_rfl) (by kernel_rfl) (fun _ _ _ h => h) (Or.inl ⟨by rfl, ?_⟩) (by assumption) ?_
          rotate_left
          · intro w hSw
            (try dsimp only at hSw)
            unfold TermBox at hSw
            obtain ⟨⟨h0, h1, h2, h3, h4, h5, h6, h7, h8, h9, h10⟩, ⟨g0, g1, g2, g3, g4, g5, g6, g7, g8, g9, g10⟩⟩ := hSw
            go_simp
            try with_reducible rfl
          try simp only [Act.put, List.setIfInBounds_toArray, List.set_cons_zero, List.set_cons_succ]
          refine wpAnyH_take (i := 6) (oi := ⟨some 28, _, _, _, _, _⟩) (v := ?_) rfl (by kernel_rfl) (by kernel_rfl) (by kernel_rfl) (fun _ _ _ h => h) (Or.inl ⟨by rfl, ?_⟩) (by assumption) ?_
          rotate_left
          · intro w hSw
            (try dsimp only at hSw)
            unfold TermBox at hSw
            obtain ⟨⟨h0, h1, h2, h3, h4, h5, h6, h7, h8, h9, h10⟩, ⟨g0, g1, g2, g3, g4, g5, g6, g7, g8, g9, g10⟩⟩ := hSw
            go_simp
            try with_reducible rfl
          try simp only [Act.put, List.setIfInBounds_toArray, List.set_cons_zero, List.set_cons_succ]
          refine wpAnyH_take (i := 7) (oi := ⟨some 29, _, _, _, _, _⟩) (v := ?_) rfl (by kernel_rfl) (by kernel_rfl) (by kernel_rfl) (fun _ _ _ h => h) (Or.inl ⟨by rfl, ?_⟩) (by assumption) ?_
          rotate_left
          · intro w hSw
            (try dsimp only at hSw)
            unfold TermBox at hSw
            obtain ⟨⟨h0, h1, h2, h3, h4, h5, h6, h7, h8, h9, h10⟩, ⟨g0, g1, g2, g3, g4, g5, g6, g7, g8, g9, g10⟩⟩ := hSw
            go_simp
            try with_reducible rfl
          try simp only [Act.put, List.setIfInBounds_toArray, List.set_cons_zero, List.set_cons_succ]
          refine wpAnyH_take (i := 8) (oi := ⟨some 30, _, _, _, _, _⟩) (v := ?_) rfl (by kernel_rfl) (by kernel_rfl) (by kernel_rfl) (fun _ _ _ h => h) (Or.inl ⟨by rfl, ?_⟩) (by assumption) ?_
          rotate_left
          · intro w hSw
            (try dsimp only at hSw)
            unfold TermBox at hSw
            obtain ⟨⟨h0, h1, h2, h3, h4, h5, h6, h7, h8, h9, h10⟩, ⟨g0, g1, g2, g3, g4, g5, g6, g7, g8, g9, g10⟩⟩ := hSw
            go_simp
            try with_reducible rfl
          try simp only [Act.put, List.setIfInBounds_toArray, List.set_cons_zero, List.set_cons_succ]
          refine wpAnyH_take (i := 9) (oi := ⟨some 31, _, _, _, _, _⟩) (v := ?_) rfl (by kernel_rfl) (by kernel_rfl) (by kernel_rfl) (fun _ _ _ h => h) (Or.inl ⟨by rfl, ?_⟩) (by assumption) ?_
          rotate_left
          · intro w hSw
            (try dsimp only at hSw)
            unfold TermBox at hSw
            obtain ⟨⟨h0, h1, h2, h3, h4, h5, h6, h7, h8, h9, h10⟩, ⟨g0, g1, g2, g3, g4, g5, g6, g7, g8, g9, g10⟩⟩ := hSw
            go_simp
            try with_reducible rfl
          try simp only [Act.put, List.setIfInBounds_toArray, List.set_cons_zero, List.set_cons_succ]
          refine wpAnyH_ready (rs := [5]) (by kernel_rfl) (by simp) ?_
          refine AllReadyH.cons (o := ⟨some 27, _, _, _, _, _⟩) rfl (fun K hK => ?_) AllReadyH.nil
          go_simp
          go_at_call 36
          refine (monoProduct_any (L := [x0, x1, x2, x3, x4, x5, x6, x7]) (M := [y0, y1, y2, y3, y4, y5, y6, y7]) _ (hMx.mono8 hE) (hMy.mono8 hF)).mono ?_
          rintro e w2 ⟨rfl, e2⟩
          replace hk := nextB hk e2
          go_wp2_with fail
          refine hK.out _ _ ⟨HBX.out _ hk, HBY.out _ hk⟩ (fun hHeld => ?_)
          clear hK K
          try simp only [Act.put, List.setIfInBounds_toArray, List.set_cons_zero, List.set_cons_succ]
          refine wpAnyH_ready (rs := [10]) (by kernel_rfl) (by simp) ?_
          refine AllReadyH.cons (o := ⟨some 32, _, _, _, _, _⟩) rfl (fun K hK => ?_) AllReadyH.nil
          go_simp
          go_at_call 30
          refine (mul_r (hlv.below hk) (Tm.loose.below hlx hk) (Tm.loose.below hly hk) kd0 ke0 (by omega) (by omega)).mono ?_
          rintro e w3 ⟨s3, A3, n3, c3, B3, m3, d3, rfl, r3, oA3, oB3, e3⟩
          have hw3 := hk.size
          replace hk := nextB hk e3
          go_wp2_with fail
          refine hK.out _ _ ⟨HBX.out _ hk, HBY.out _ hk⟩ (fun hHeld => ?_)
          clear hK K
          try simp only [Act.put, List.setIfInBounds_toArray, List.set_cons_zero, List.set_cons_succ]
          refine wpAnyH_ready (rs := [11]) (by kernel_rfl) (by simp) ?_
          refine AllReadyH.cons (o := ⟨some 33, _, _, _, _, _⟩) rfl (fun K hK => ?_) AllReadyH.nil
          go_simp
          go_at_call 61
          refine (SumOn.add (t := ⟨madd [x0, x1, x2, x3, x4, x5, x6, x7] [y0, y1, y2, y3, y4, y5, y6, y7], s3, A3, n3, c3, B3, m3, d3⟩) (hlv.below hk) HS2.out hk hG hMxy r3 (Off.lies (t := ⟨madd [x0, x1, x2, x3, x4, x5, x6, x7] [y0, y1, y2, y3, y4, y5, y6, y7], s3, A3, n3, c3, B3, m3, d3⟩) (oA3.mono hw3) (oB3.mono hw3)) hK0 hq0 hK8 hq8 hcs).mono ?_
          rintro e w4 ⟨b4, rfl, hB4, hF4, cs4, hs4, hq4, hl4⟩
          have hX4 := (HBX.out _ hk).far (hF4 _ (by simp))
          have hY4 := (HBY.out _ hk).far (hF4 _ (by simp))
          go_wp2_with fail
          refine hK.out _ _ ⟨hX4, hY4⟩ (fun hHeld => ?_)
          clear hK K
          try simp only [Act.put, List.setIfInBounds_toArray, List.set_cons_zero, List.set_cons_succ]
          refine wpAnyH_done (by kernel_rfl) ?_ _
          have hB5 : Below base w w4 := (hBv.trans (hk.mono (Nat.le_trans hbs hbv.size))).trans hB4
          have HS5 : Hid (SumOn w4 base p cs4 (k + i * mq + (j + 1) * q) G [hb0]) := by show SumOn _ _ _ _ _ _ _; rw [← HST.out]; exact hs4.pop
          have HQ5 : Hid (Eqv (trms cs4) (trms cs' ++ prods [(x.1.L, x.2)] (trms (es.take (j + 1))))) := fun f => by
            rw [take_trms HY.out, hq4 f, lin_append, lin_append, HQ2.out f, lin_append, (prods_append _ _ _ f), lin_append, HL.out, HL2.out, Rat.add_assoc]
            simp [prods]
          have HC5 : Hid (cs4.length ≤ cs'.length + (j + 1)) := by show _ ≤ _; have := hcl2.out; omega
          have HX5 := Lib.hid hX4
          clear hq4 hs4 hB4 hF4 hX4 hY4 hk hbv hBv hB HS2 HQ2 hl4 r3 oA3 oB3 hlx hly hlv HBX HBY
          go_wp2
          go_roundw
          case rel => exact ⟨j + 1, cs4, by omega, by go_num, hB5, HS5, HX5, HQ5, HC5⟩
          case measure => simp [intOf] <;> omega
        · obtain rfl : j = m := by omega
          have HS5 : Hid (SumIs wr base p cu (k + (i + 1) * mq) G) := by
            show SumIs _ _ _ _ _ _
            have h1 := HS.out.is
            have h2 : k + i * mq + j * q = k + (i + 1) * mq := by rw [HMQ.out, Nat.add_mul, Nat.one_mul]; omega
            rw [h2] at h1
            exact h1
          have HQ5 : Hid (Eqv (trms cu) (trms cs ++ prods (trms (ds.take (i + 1))) (trms es))) := fun f => by
            have h1 := HQ2.out f
            rw [List.take_of_length_le (l := es) (by rw [← HLE.out]; exact Nat.le_refl _)] at h1
            rw [take_trms HX.out, prods_left, h1, lin_append, HQ.out f, lin_append, lin_append, lin_append, Rat.add_assoc]
          have HC5 : Hid (cu.length ≤ cs.length + (i + 1) * j) := by
            show _ ≤ _
            have h1 := hcl2.out
            have h2 := hcl.out
            rw [Nat.add_mul, Nat.one_mul]
            omega
          clear HS HQ HQ2 HTX hcl hcl2
          go_wp2
          go_roundw
          case rel => exact ⟨i + 1, cu, by omega, by go_num, hB, HS5, HQ5, HC5⟩
          case measure => simp [intOf] <;> omega
    · obtain rfl : i = n := by omega
      have hq : Hid (Eqv (trms cs') (trms cs ++ prods (trms ds) (trms es))) := by
        have := HQ.out
        rw [List.take_of_length_le (by rw [← HLD.out]; exact Nat.le_refl _)] at this
        exact this
      clear HQ
      go_wp2
      go_end0
      exact ⟨rfl, hB, cs', HS.out, hq.out, hcl.out⟩
end Go.Proofs.YtebbnmjmjoklmaaGreatDoor
