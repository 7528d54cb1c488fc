/-
  PolynomialLimits returns true for every byte.
-/
import Derived.Test.YtnkfmbjpbfpfkaaGreatDoorTmAt
import Derived.Test.YtnkfmbjpbfpfkaaGreatDoorAwake3
import Derived.Test.YtnkfmbjpbfpfkaaGreatDoorRefR1
namespace Go.Proofs.YtnkfmbjpbfpfkaaGreatDoor
open Go Go.RowKit Go.WideMaps
set_option maxRecDepth 100000

theorem madd_same : ∀ i : Fin 8, madd (single i.1 1024) (single i.1 1) = single i.1 1025 := by decide
theorem madd_other : ∀ i k : Fin 8, i ≠ k → (madd (single i.1 1024) (single k.1 1)).all (fun e => decide (e ≤ 1024)) = true := by decide
theorem single_mem (i : Nat) (h : i < 8) (e : Int) : e ∈ single i e := by
  unfold single
  exact List.mem_set (by simpa using h) e
theorem degs_single : ∀ i : Fin 8, (mmax [0, 0, 0, 0, 0, 0, 0, 0] (single i.1 1024)).getD i.1 0 = 1024 := by decide
theorem single_get (t : Tm) {i : Nat} {e : Int} (h : i < 8) (hL : t.L = single i e) : t.cells[i]? = some (.int .i64 e) := by
  unfold Tm.cells
  rw [hL, List.getElem?_append_left (by simp [single]; exact h), List.getElem?_map]
  unfold single
  rw [List.getElem?_set_self (by simpa using h)]; rfl
/-- A polynomial in normal form that denotes one term has that term alone. -/
theorem one_of_eqv {rs : List Tq} {M : Mon} {q : Rat} (hn : Norml (trms rs)) (he : Eqv (trms rs) [(M, q)]) (hq : q ≠ 0) : ∃ x, rs = [x] ∧ x.1.L = M ∧ x.2 = q := by
  have h1 : trms rs = [(M, q)] := Norml.unique hn ⟨List.pairwise_singleton _ _, fun t ht => by rw [List.mem_singleton.1 ht]; exact hq⟩ he
  match rs, h1 with
  | [x], h1 =>
    simp only [trms, List.map_cons, List.map_nil, List.cons.injEq, Prod.mk.injEq, and_true] at h1
    exact ⟨x, rfl, h1.1, h1.2⟩
theorem prods_one (t u : Tm) : prods (trms [(t, (1 : Rat))]) (trms [(u, 1)]) = [(madd t.L u.L, 1)] := by
  simp [prods, trms, Rat.mul_one]

theorem degs_one {z : Tq} : degs [z] = mmax [0, 0, 0, 0, 0, 0, 0, 0] z.1.L := rfl
theorem reach_same : ∀ i : Fin 8, (madd (mmax [0, 0, 0, 0, 0, 0, 0, 0] (single i.1 1024)) (mmax [0, 0, 0, 0, 0, 0, 0, 0] (single i.1 1))).getD i.1 0 = 1025 := by decide
theorem reach_other : ∀ i k : Fin 8, i ≠ k → ∀ j : Fin 8, (madd (mmax [0, 0, 0, 0, 0, 0, 0, 0] (single i.1 1024)) (mmax [0, 0, 0, 0, 0, 0, 0, 0] (single k.1 1))).getD j.1 0 ≤ 1024 := by decide
theorem mul_singles {w : World} {t u : Tm} {g gx i k : Nat} (hl : Laid w) (hp : PolyNf w (some ⟨g, 0, none⟩) 1 1 [(t, 1)] 2 1024) (hx : PolyNf w (some ⟨gx, 0, none⟩) 1 1 [(u, 1)] 2 1) (hi : i < 8) (hk : k < 8) (hti : t.L = single i 1024) (huk : u.L = single k 1) :
    Calls Tryz.prog 9 #[.slice (some ⟨g, 0, none⟩) 1 1, .slice (some ⟨gx, 0, none⟩) 1 1] w fun e w' => Below w.heap.size w w' ∧ ((i = k ∧ e = Two none 0 0 9) ∨ (i ≠ k ∧ ∃ P q, e = Two P 1 q 0)) := by
  refine (mul_x (kd' := 4) (ke' := 4) hl hp.rd hx.rd (by decide) (by decide) (by decide) (by decide) (by decide) (by decide) (by decide) (by decide) (by decide) (by decide) (by decide) (by decide) (by decide) (by decide) (by decide) (by decide) (hp.rd.lim (by decide)) (hx.rd.lim (by decide))).mono ?_
  rintro e w' ⟨ds', es', n1, n2, q1, q2, _, _, hb, hres⟩
  have e1 : trms [(t, (1 : Rat))] = [(single i 1024, 1)] := by simp [trms, hti]
  have e2 : trms [(u, (1 : Rat))] = [(single k 1, 1)] := by simp [trms, huk]
  rw [e1] at q1
  rw [e2] at q2
  obtain ⟨z1, rfl, hz1, _⟩ := one_of_eqv n1 q1 (by decide)
  obtain ⟨z2, rfl, hz2, _⟩ := one_of_eqv n2 q2 (by decide)
  have hfit : Fits [z1] [z2] ↔ i ≠ k := by
    unfold Fits reachOf
    rw [degs_one, degs_one, hz1, hz2]
    constructor
    · intro h e
      subst e
      have h1 := h i hi
      rw [if_neg (by simp), reach_same ⟨i, hi⟩] at h1
      omega
    · intro hne j hj
      rw [if_neg (by simp)]
      exact reach_other ⟨i, hi⟩ ⟨k, hk⟩ (fun h => hne (by injection h)) ⟨j, hj⟩
  refine ⟨hb, ?_⟩
  rcases hres with ⟨hf, P, r, q, rs, rfl, nf, eq, _⟩ | ⟨hf, rfl⟩
  · refine .inr ⟨hfit.1 hf, P, q, ?_⟩
    rw [prods_one] at eq
    obtain ⟨z, hz, _⟩ := one_of_eqv nf.norml eq (by decide)
    have hr1 : r = 1 := by rw [nf.rd.len, hz]; rfl
    rw [hr1]
  · refine .inl ⟨Classical.byContradiction fun h => hf (hfit.2 h), rfl⟩

set_option maxHeartbeats 8000000 in
theorem limits_walk {w : World} {V : Nat} (hl : Laid w) (hV : V < 256) : Calls Tryz.prog 6 #[.int .u8 (V : Int)] w (True1 w) := by
  have HI : Hid (∀ W, Calls Tryz.prog 25 #[.int .i64 1] W (GivesR W ((1 : Int) : Rat) 2)) := fun W => refIntR (by decide) (by decide)
  have HL := Lib.hid hl
  clear hl
  go_enter Tryz.func6, Tryz.ntmps6
  go_wp2_with fail
  obtain ⟨i, hi⟩ : ∃ i : Nat, (V : Int) % 8 = i := ⟨V % 8, by omega⟩
  obtain ⟨k, hk⟩ : ∃ k : Nat, (V : Int) / 8 % 8 = k := ⟨V / 8 % 8, by omega⟩
  rw [hi, hk]
  have hi8 : i < 8 := by omega
  have hk8 : k < 8 := by omega
  clear hi hk
  obtain ⟨b, hb⟩ : ∃ b, w.heap.size = b := ⟨_, rfl⟩
  have T0 : TmAt b ⟨[0, 0, 0, 0, 0, 0, 0, 0], false, none, 0, 0, none, 0, 0⟩ (w.alloc (.cells (⟨[0, 0, 0, 0, 0, 0, 0, 0], false, none, 0, 0, none, 0, 0⟩ : Tm).cells.toArray 55)) := by rw [← hb]; exact TmAt.new w _ rfl
  obtain ⟨w0, hw0⟩ : ∃ w0, w.alloc (.cells (⟨[0, 0, 0, 0, 0, 0, 0, 0], false, none, 0, 0, none, 0, 0⟩ : Tm).cells.toArray 55) = w0 := ⟨_, rfl⟩
  have hb0 : Below w.heap.size w w0 := hw0 ▸ (Below.refl _ w).alloc (Nat.le_refl _) _
  have hs0 : w0.heap.size = b + 1 := by rw [← hw0, ← hb]; simp
  rw [hw0] at T0
  have HW0 : Hid (w.alloc (.cells #[.int .i64 0, .int .i64 0, .int .i64 0, .int .i64 0, .int .i64 0, .int .i64 0, .int .i64 0, .int .i64 0, .bool false, .slice none 0 0, .slice none 0 0] 55) = w0) := hw0
  have HB := Lib.hid hb
  clear hw0 hb
  rw [HW0.out, HB.out]
  refine (HI.out w0).mono ?_
  rintro e w1 ⟨s1, A1, n1, c1, B1, m1, d1, rfl, r1, o1, o2, e1⟩
  have T1 := T0.far (e1.block b (by omega))
  have hb1 := nextB hb0 e1
  obtain ⟨f0, f1, f2, f3, f4, f5, f6, f7, f8, f9, f10⟩ := T1.box rfl
  have z8 := T1.free 8
  have z9 := T1.free 9
  have z10 := T1.free 10
  have T2 : TmAt b ⟨[0, 0, 0, 0, 0, 0, 0, 0], s1, A1, n1, c1, B1, m1, d1⟩ (((w1.setCell ⟨b, 8, none⟩ (.bool s1)).setCell ⟨b, 9, none⟩ (.slice A1 n1 c1)).setCell ⟨b, 10, none⟩ (.slice B1 m1 d1)) :=
    ((T1.one (t' := ⟨[0, 0, 0, 0, 0, 0, 0, 0], s1, none, 0, 0, none, 0, 0⟩) (i := 8) (by decide) (.bool s1) rfl rfl).one (t' := ⟨[0, 0, 0, 0, 0, 0, 0, 0], s1, A1, n1, c1, none, 0, 0⟩) (i := 9) (by decide) (.slice A1 n1 c1) rfl rfl).one (i := 10) (by decide) (.slice B1 m1 d1) rfl rfl
  obtain ⟨u1, hu1⟩ : ∃ u, ((w1.setCell ⟨b, 8, none⟩ (.bool s1)).setCell ⟨b, 9, none⟩ (.slice A1 n1 c1)).setCell ⟨b, 10, none⟩ (.slice B1 m1 d1) = u := ⟨_, rfl⟩
  have hbu1 : Below w.heap.size w u1 := by
    rw [← hu1]
    have hle : w.heap.size ≤ b := Nat.le_of_eq HB.out
    exact ((hb1.setCell (p := ⟨b, 8, none⟩) hle _).setCell (p := ⟨b, 9, none⟩) hle _).setCell (p := ⟨b, 10, none⟩) hle _
  have hne : ∀ j : Nat, w0.heap.size ≤ j → j ≠ b := fun j hj e => by omega
  have rn1 : RN u1 s1 A1 n1 c1 B1 m1 d1 1 2 := by
    rw [← hu1]
    exact r1.far3 (fun _ a ha => hne _ (o1 a ha)) (fun _ a ha => hne _ (o2 a ha)) _ _ _ _ _ _
  have hl1 : Tm.lies ⟨[0, 0, 0, 0, 0, 0, 0, 0], s1, A1, n1, c1, B1, m1, d1⟩ (· ≠ b) := ⟨fun _ a ha => hne _ (o1 a ha), fun _ a ha => hne _ (o2 a ha)⟩
  rw [hu1] at T2
  have hus1 : u1.heap.size = w1.heap.size := by rw [← hu1]; simp
  have HU1 := Lib.hid hu1
  have R1 := Lib.hid rn1
  clear hu1 r1 o1 o2 T0 T1 HI rn1
  go_upto_region 4 with fail
  rw [HU1.out]
  clear f0 f1 f2 f3 f4 f5 f6 f7 f8 f9 f10 z8 z9 z10
  obtain ⟨uu, huu⟩ : ∃ uu, u1.cell? ⟨b, i, none⟩ = some uu := ⟨_, (T2.cell i (by omega)).trans (List.getElem?_eq_getElem (by rw [Tm.length rfl]; omega))⟩
  have hzz := T2.free i
  have hii : (i : Int) < 8 := by omega
  have hii0 : (0 : Int) ≤ i := by omega
  obtain ⟨tP, htP⟩ : ∃ tP : Tm, tP = ⟨single i 1024, s1, A1, n1, c1, B1, m1, d1⟩ := ⟨_, rfl⟩
  have T3 : TmAt b tP (u1.setCell ⟨b, i, none⟩ (.int .i64 1024)) := by
    rw [htP]; exact T2.one (by omega) _ (cells_set rfl hi8 1024) (single_8 _ _)
  have hbl : w.heap.size ≤ b := Nat.le_of_eq HB.out
  obtain ⟨u2, hu2⟩ : ∃ u, u1.setCell ⟨b, i, none⟩ (.int .i64 1024) = u := ⟨_, rfl⟩
  have hbu2 : Below w.heap.size w u2 := hu2 ▸ hbu1.setCell (p := ⟨b, i, none⟩) hbl _
  have rn2 : tP.rn u2 1 2 := by
    rw [htP]
    have hl2 : Tm.lies ⟨single i 1024, s1, A1, n1, c1, B1, m1, d1⟩ (· ≠ b) := hl1
    exact Tm.rn.apart (t := ⟨single i 1024, s1, A1, n1, c1, B1, m1, d1⟩) (w := u1) R1.out (by rw [← hu2]; simp) (hl2.mono fun j hj => by rw [← hu2]; exact Below.heap_setCell _ _ _ _ hj)
  rw [hu2] at T3
  have HU2 := Lib.hid hu2
  have hPL : tP.L = single i 1024 := by rw [htP]
  have HLB : Hid (tP.lies (· ≠ b)) := by show Tm.lies _ _; rw [htP]; exact hl1
  clear hu2 T2 hl1 htP
  go_upto_region 5 with fail
  rw [HU2.out]
  clear huu hzz
  obtain ⟨x0, x1, x2, x3, x4, x5, x6, x7, hX⟩ := eight (single_8 i 1024)
  obtain ⟨f0, f1, f2, f3, f4, f5, f6, f7, f8, f9, f10⟩ := T3.box (hPL.trans hX)
  have hcP : tP.cells = [.int .i64 x0, .int .i64 x1, .int .i64 x2, .int .i64 x3, .int .i64 x4, .int .i64 x5, .int .i64 x6, .int .i64 x7, .bool tP.s, .slice tP.A tP.n tP.c, .slice tP.B tP.m tP.d] := by unfold Tm.cells; rw [hPL, hX]; rfl
  obtain ⟨u3, hu3⟩ : ∃ u, u2.alloc (.cells #[.int .i64 x0, .int .i64 x1, .int .i64 x2, .int .i64 x3, .int .i64 x4, .int .i64 x5, .int .i64 x6, .int .i64 x7, .bool tP.s, .slice tP.A tP.n tP.c, .slice tP.B tP.m tP.d] 55) = u := ⟨_, rfl⟩
  have hbu3 : Below u2.heap.size u2 u3 := hu3 ▸ (Below.refl _ u2).alloc (Nat.le_refl _) _
  obtain ⟨g, hg⟩ : ∃ g, u2.heap.size = g := ⟨_, rfl⟩
  have row3 : u3.ownsRow 0 55 11 (.slice (some ⟨g, 0, none⟩) 1 1) 1 (rowOf [tP]) := by
    have h := World.ownsRow_lit (base := 0) (e := 55) (size := 11) u2 #[.int .i64 x0, .int .i64 x1, .int .i64 x2, .int .i64 x3, .int .i64 x4, .int .i64 x5, .int .i64 x6, .int .i64 x7, .bool tP.s, .slice tP.A tP.n tP.c, .slice tP.B tP.m tP.d] 1 (Nat.zero_le _) (by decide) rfl
    rw [hu3, hg] at h
    have e : rowOf [tP] = tP.cells := by simp [rowOf]
    rw [e, hcP]
    exact h
  have NP : PolyNf u3 (some ⟨g, 0, none⟩) 1 1 [(tP, 1)] 2 1024 := one_nf row3 (by rw [hPL]; exact single_monoE (by decide) (by decide)) (rn2.below hbu3) (by decide)
  have hb3 := nextB hbu2 hbu3
  have T4 := T3.far (hbu3.block b (World.block_lt_of_cell? u2 ⟨b, 0, none⟩ f0))
  have hb4 : b < u3.heap.size := Nat.lt_of_lt_of_le (World.block_lt_of_cell? u2 ⟨b, 0, none⟩ f0) hbu3.size
  have HU3 := Lib.hid hu3
  have HG := Lib.hid hg
  have HGB : Hid (g ≠ b) := by show g ≠ b; rw [← hg]; have := World.block_lt_of_cell? u2 ⟨b, 0, none⟩ f0; simp only at this; omega
  clear hu3 hg row3 T3
  go_upto_region 6 with fail
  rw [HU3.out, HG.out]
  clear f0 f1 f2 f3 f4 f5 f6 f7 f8 f9 f10
  have HPL := Lib.hid hPL
  have HCP := Lib.hid hcP
  have HX8 := Lib.hid hX
  have HNP := Lib.hid NP
  have HT4 := Lib.hid T4
  have HVX := Lib.hid (var_x (v := i) (HL.out.below hb3) hi8)
  clear hPL hcP hX NP T4
  go_wp2_with fail
  refine HVX.out.mono ?_
  rintro e w4 ⟨x, gx, rfl, hxL, nx, e4⟩
  have hb4w := nextB hb3 e4
  have np4 := HNP.out.rd.below e4
  have HM1 := Lib.hid (mul_singles (HL.out.below hb4w) (HNP.out.below e4) nx hi8 hi8 HPL.out hxL)
  clear HVX nx hxL np4
  unfold Two
  go_wp2_with fail
  refine HM1.out.mono ?_
  rintro e w5 ⟨e5, hres⟩
  have hb5 := nextB hb4w e5
  obtain rfl : e = Two none 0 0 9 := by
    rcases hres with ⟨_, h⟩ | ⟨h, _⟩
    · exact h
    · exact absurd rfl h
  have c5 := e4.trans (e5.mono e4.size)
  have np5 := HNP.out.rd.below c5
  have HDG := Lib.hid (degree_x (v := i) (HL.out.below hb5) np5 (by decide) (by decide) (by decide) (by decide) (by decide) (np5.lim (by decide)) hi8)
  clear HM1 hres np5
  unfold Two
  go_wp2_with fail
  refine HDG.out.mono ?_
  rintro e w6 ⟨rs6, hn6, he6, rfl, e6⟩
  have hdg : (if rs6 = [] then (-1 : Int) else (degs rs6).getD i 0) = 1024 := by
    have h1 : trms [(tP, (1 : Rat))] = [(single i 1024, 1)] := by simp [trms, HPL.out]
    rw [h1] at he6
    obtain ⟨z, rfl, hz, _⟩ := one_of_eqv hn6 he6 (by decide)
    rw [if_neg (by simp)]
    show (mmax [0, 0, 0, 0, 0, 0, 0, 0] z.1.L).getD i 0 = 1024
    rw [hz]
    exact degs_single ⟨i, hi8⟩
  rw [hdg]
  have c6 := c5.trans (e6.mono (c5.size))
  have hb6 := nextB hb5 e6
  have T6 := HT4.out.far (c6.block b hb4)
  have hcl6 : w6.cell? ⟨b, i, none⟩ = some (.int .i64 1024) := (T6.cell i (by omega)).trans (single_get tP hi8 HPL.out)
  have hfr6 := T6.free i
  obtain ⟨tQ, htQ⟩ : ∃ tQ : Tm, tQ = { tP with L := single i 1025 } := ⟨_, rfl⟩
  have T7 : TmAt b tQ (w6.setCell ⟨b, i, none⟩ (.int .i64 1025)) := by
    rw [htQ]
    refine T6.one (by omega) _ ?_ (single_8 _ _)
    rw [cells_set T6.len hi8 1025, HPL.out]
    simp [single]
  obtain ⟨u7, hu7⟩ : ∃ u, w6.setCell ⟨b, i, none⟩ (.int .i64 1025) = u := ⟨_, rfl⟩
  have hb7 : Below w.heap.size w u7 := hu7 ▸ hb6.setCell (p := ⟨b, i, none⟩) hbl _
  have rn6 : tP.rn w6 1 2 := (HNP.out.rn (tP, 1) (by simp)).below c6
  have rn7 : tQ.rn u7 1 2 := by
    rw [htQ]
    have h : tP.rn u7 1 2 := rn6.apart (by rw [← hu7]; simp) (HLB.out.mono fun j hj => by rw [← hu7]; exact Below.heap_setCell _ _ _ _ hj)
    exact h
  have hQL : tQ.L = single i 1025 := by rw [htQ]
  rw [hu7] at T7
  have c7 : ∀ j, j ≠ b → u7.heap[j]? = w6.heap[j]? := fun j hj => by rw [← hu7]; exact Below.heap_setCell _ _ _ _ hj
  have hus7 : u7.heap.size = w6.heap.size := by rw [← hu7]; simp
  have HU7 := Lib.hid hu7
  have NP7 : PolyNf u7 (some ⟨g, 0, none⟩) 1 1 [(tP, 1)] 2 1024 := by
    have h6 := HNP.out.below c6
    obtain ⟨g', hg', hrow6⟩ := h6.rd.row (by decide)
    injection hg' with hg'
    injection hg' with hg'
    subst hg'
    have hgb : g ≠ b := HGB.out
    refine one_nf (base := 0) ?_ (by rw [HPL.out]; exact single_monoE (by decide) (by decide)) (rn6.apart (by rw [hus7]; exact Nat.le_refl _) (HLB.out.mono fun j hj => c7 j hj)) (by decide)
    exact ownsRow_keep (p := b) (b := b) (h := b) hrow6 ⟨by rw [← hu7]; rfl, by rw [← hu7]; rfl, by rw [← hu7]; rfl, by rw [hus7]; exact Nat.le_refl _, fun j _ hj _ _ => c7 j hj⟩ hgb hgb hgb
  have HNP7 := Lib.hid NP7
  clear hu7 htQ rn6 NP7 HDG he6 hn6 hdg
  go_upto_region 10 with fail
  rw [HU7.out]
  clear hcl6 hfr6
  obtain ⟨y0, y1, y2, y3, y4, y5, y6, y7, hY⟩ := eight (single_8 i 1025)
  obtain ⟨f0, f1, f2, f3, f4, f5, f6, f7, f8, f9, f10⟩ := T7.box (hQL.trans hY)
  have hcQ : tQ.cells = [.int .i64 y0, .int .i64 y1, .int .i64 y2, .int .i64 y3, .int .i64 y4, .int .i64 y5, .int .i64 y6, .int .i64 y7, .bool tQ.s, .slice tQ.A tQ.n tQ.c, .slice tQ.B tQ.m tQ.d] := by unfold Tm.cells; rw [hQL, hY]; rfl
  obtain ⟨u8, hu8⟩ : ∃ u, u7.alloc (.cells #[.int .i64 y0, .int .i64 y1, .int .i64 y2, .int .i64 y3, .int .i64 y4, .int .i64 y5, .int .i64 y6, .int .i64 y7, .bool tQ.s, .slice tQ.A tQ.n tQ.c, .slice tQ.B tQ.m tQ.d] 55) = u := ⟨_, rfl⟩
  have hbu8 : Below u7.heap.size u7 u8 := hu8 ▸ (Below.refl _ u7).alloc (Nat.le_refl _) _
  obtain ⟨g8, hg8⟩ : ∃ g, u7.heap.size = g := ⟨_, rfl⟩
  have row8 : u8.ownsRow 0 55 11 (.slice (some ⟨g8, 0, none⟩) 1 1) 1 (rowOf [tQ]) := by
    have h := World.ownsRow_lit (base := 0) (e := 55) (size := 11) u7 #[.int .i64 y0, .int .i64 y1, .int .i64 y2, .int .i64 y3, .int .i64 y4, .int .i64 y5, .int .i64 y6, .int .i64 y7, .bool tQ.s, .slice tQ.A tQ.n tQ.c, .slice tQ.B tQ.m tQ.d] 1 (Nat.zero_le _) (by decide) rfl
    rw [hu8, hg8] at h
    have e : rowOf [tQ] = tQ.cells := by simp [rowOf]
    rw [e, hcQ]
    exact h
  have NQ : PolyNf u8 (some ⟨g8, 0, none⟩) 1 1 [(tQ, 1)] 2 1025 := one_nf row8 (by rw [hQL]; exact single_monoE (by decide) (by decide)) (rn7.below hbu8) (by decide)
  have hb8 := nextB hb7 hbu8
  have hbad : ¬ inLim [(tQ, (1 : Rat))] := fun h => by
    have := h (tQ, 1) (by simp) 1025 (by rw [hQL]; exact single_mem i hi8 1025)
    omega
  have HNB := Lib.hid (norm_bad NQ.rd hbad)
  have HU8 := Lib.hid hu8
  have HG8 := Lib.hid hg8
  clear hu8 hg8 row8 NQ hbad T7 hcQ hY hQL rn7 c7 hus7
  go_wp2_with fail
  rw [HU8.out, HG8.out]
  refine HNB.out.mono ?_
  rintro e w9 ⟨rfl, e9⟩
  have c9 := nextB hbu8 e9
  have hb9 := nextB hb8 e9
  have HVY := Lib.hid (var_x (v := k) (HL.out.below hb9) hk8)
  clear f0 f1 f2 f3 f4 f5 f6 f7 f8 f9 f10 HNB
  unfold Two
  go_wp2_with fail
  refine HVY.out.mono ?_
  rintro e w10 ⟨y, gy, rfl, hyL, ny, e10⟩
  have c10 := nextB c9 e10
  have hb10 := nextB hb9 e10
  have np10 := HNP7.out.rd.below c10
  have HM2 := Lib.hid (mul_singles (HL.out.below hb10) (HNP7.out.below c10) ny hi8 hk8 HPL.out hyL)
  clear HVY ny hyL np10
  unfold Two
  go_wp2_with fail
  refine HM2.out.mono ?_
  rintro e w11 ⟨e11, hres⟩
  have hb11 := nextB hb10 e11
  have HAW := Lib.hid (awake3 (HL.out.below hb11))
  by_cases hik : i = k
  · subst hik
    obtain rfl : e = Two none 0 0 9 := by
      rcases hres with ⟨_, h⟩ | ⟨h, _⟩
      · exact h
      · exact absurd rfl h
    clear HM2 hres
    unfold Two
    go_wp2_with fail
    refine HAW.out.mono ?_
    rintro e w12 ⟨rfl, e12⟩
    have hb12 := nextB hb11 e12
    clear HAW
    go_wp2
    go_ret
    exact ⟨rfl, hb12⟩
  · obtain ⟨P11, q11, rfl⟩ : ∃ P q, e = Two P 1 q 0 := by
      rcases hres with ⟨h, _⟩ | ⟨_, h⟩
      · exact absurd h hik
      · exact h
    have hik2 : ¬ (i : Int) = k := by omega
    have hik3 : ((i : Int) == k) = false := by rw [beq_eq_false_iff_ne]; omega
    clear HM2 hres
    unfold Two
    go_wp2_with fail
    refine HAW.out.mono ?_
    rintro e w12 ⟨rfl, e12⟩
    have hb12 := nextB hb11 e12
    clear HAW
    go_wp2
    go_ret
    have hik4 : ((i : Int) != k) = true := by simp [bne, hik3]
    exact ⟨congrArg (fun b => Ending.returned (Value.bool b)) hik4, hb12⟩
end Go.Proofs.YtnkfmbjpbfpfkaaGreatDoor
