/-
  slices.partitionCmpFunc over a row of terms, with the order of the normal form.
-/
import Derived.Test.YtebbnmjmjoklmaaGreatDoorReverse
import Derived.Test.YtebbnmjmjoklmaaGreatDoorRowBox
import Derived.Deep.DeepCutAuto
import Derived.Deep.CutBlock
namespace Go.Proofs.YtebbnmjmjoklmaaGreatDoor
open Go Go.RowKit Go.WideMaps Go.Sort
set_option maxRecDepth 20000

theorem ploop_ge {lt : Q8 → Q8 → Bool} {a i j i2 j2 : Nat} {d : Array Q8} (hi : scanUp (fun x => lt x d[a]!) d j i = i2) (hj : scanDown (fun x => !lt x d[a]!) d i2 j = j2) (h : i2 > j2) : partLoop lt a i j d = (j2, d) := by
  subst hi; subst hj
  unfold partLoop
  rw [if_pos h]
theorem ploop_lt {lt : Q8 → Q8 → Bool} {a i j i2 j2 : Nat} {d : Array Q8} (hi : scanUp (fun x => lt x d[a]!) d j i = i2) (hj : scanDown (fun x => !lt x d[a]!) d i2 j = j2) (h : i2 < j2) (hi' : i ≤ i2) (hj' : j2 ≤ j) : partLoop lt a i j d = partLoop lt a (i2 + 1) (j2 - 1) (swp d i2 j2) := by
  subst hi; subst hj
  conv => lhs; unfold partLoop
  rw [if_neg (by omega), dif_pos (by omega)]
theorem part_ge {lt : Q8 → Q8 → Bool} {a b pv i j : Nat} {d D : Array Q8} (hD : swp d a pv = D) (hi : scanUp (fun x => lt x D[a]!) D (b - 1) (a + 1) = i) (hj : scanDown (fun x => !lt x D[a]!) D i (b - 1) = j) (h : i > j) : partition lt d a b pv = (j, true, swp D j a) := by
  subst hD; subst hi; subst hj
  unfold partition
  simp only
  rw [if_pos h]
theorem part_lt {lt : Q8 → Q8 → Bool} {a b pv i j : Nat} {d D : Array Q8} (hD : swp d a pv = D) (hi : scanUp (fun x => lt x D[a]!) D (b - 1) (a + 1) = i) (hj : scanDown (fun x => !lt x D[a]!) D i (b - 1) = j) (h : ¬ i > j) : partition lt d a b pv = ((partLoop lt a (i + 1) (j - 1) (swp D i j)).1, false, swp (partLoop lt a (i + 1) (j - 1) (swp D i j)).2 (partLoop lt a (i + 1) (j - 1) (swp D i j)).1 a) := by
  subst hD; subst hi; subst hj
  unfold partition
  simp only
  rw [if_neg h]

set_option maxHeartbeats 40000000 in
theorem partition_x {w : World} {base g cap a b pv : Nat} {d : Array Q8} (hrow : w.ownsRow base 47 11 (.slice (some ⟨g, 0, none⟩) d.size cap) d.size (rowOf (tms (cs8 d)))) (hn : d.size < 1000000) (hap : a < pv) (hpb : pv < b) (hb : b ≤ d.size) :
    Calls Tryz.prog 118 #[.slice (some ⟨g, 0, none⟩) d.size cap, .int .i64 a, .int .i64 b, .int .i64 pv, .func (.func 65) #[.int .i64 (-1)] #[]] w fun e w' => e = .returned (.tuple #[.int .i64 (partition lt8 d a b pv).1, .bool (partition lt8 d a b pv).2.1]) ∧ w'.ownsRow base 47 11 (.slice (some ⟨g, 0, none⟩) d.size cap) d.size (rowOf (tms (cs8 (partition lt8 d a b pv).2.2))) ∧ Keeps g g g w w' := by
  obtain ⟨n, hlen⟩ : ∃ n, d.size = n := ⟨_, rfl⟩
  obtain ⟨R, hR⟩ : ∃ R, partition lt8 d a b pv = R := ⟨_, rfl⟩
  have HR := Lib.hid hR
  rw [hR]
  rw [hlen] at hrow hn hb ⊢
  have HROW := Lib.hid hrow
  obtain ⟨b', hbb⟩ : ∃ b', b - 1 = b' := ⟨_, rfl⟩
  have HBB := Lib.hid hbb
  have hbI : (b : Int) - 1 = (b' : Int) := by omega
  have hb1 : b' < n := by omega
  have hpb1 : pv ≤ b' := by omega
  obtain ⟨i1, hi1⟩ : ∃ i1, a + 1 = i1 := ⟨_, rfl⟩
  have hiI : (a : Int) + 1 = (i1 : Int) := by omega
  have hij : i1 ≤ b' + 1 := by omega
  have hi1b : i1 ≤ n := by omega
  have HIA := Lib.hid hi1
  have hbq1 : (b : Int) ≤ n := by omega
  have hbq0 : (0 : Int) < b := by omega
  clear hR hrow hbb
  have aq1 : (a : Int) < n := by omega
  have aq0 : (0 : Int) ≤ a := by omega
  have pvq1 : (pv : Int) < n := by omega
  have pvq0 : (0 : Int) ≤ pv := by omega
  have b'q1 : (b' : Int) < n := by omega
  have b'q0 : (0 : Int) ≤ b' := by omega
  have hmix : Tryz.prog.follows .mixedOrders = true := by kernel_rfl
  have hsj : (tms (cs8 d))[a]? = some d[a]!.1.1 := tms8_get (by omega)
  have hsp : (tms (cs8 d))[pv]? = some d[pv]!.1.1 := tms8_get (by omega)
  obtain ⟨q2, k2⟩ := swap_row (i := a) (j := pv) HROW.out hlen (by omega) (by omega)
  obtain ⟨xj, hxj⟩ : ∃ x, d[a]! = x := ⟨_, rfl⟩
  obtain ⟨xp, hxp⟩ : ∃ x, d[pv]! = x := ⟨_, rfl⟩
  rw [hxj] at hsj q2 k2
  rw [hxp] at hsp q2 k2
  obtain ⟨x0, x1, x2, x3, x4, x5, x6, x7, hX⟩ := eight xj.2
  obtain ⟨y0, y1, y2, y3, y4, y5, y6, y7, hY⟩ := eight xp.2
  obtain ⟨c0, c1, c2, c3, c4, c5, c6, c7, c8, c9, c10⟩ := row_cells HROW.out (tms8 d) (by rw [tms8_length, hlen]) hsj hX
  obtain ⟨d0, d1, d2, d3, d4, d5, d6, d7, d8, d9, d10⟩ := row_cells HROW.out (tms8 d) (by rw [tms8_length, hlen]) hsp hY
  have exj : xj.1.1.cells = [.int .i64 x0, .int .i64 x1, .int .i64 x2, .int .i64 x3, .int .i64 x4, .int .i64 x5, .int .i64 x6, .int .i64 x7, .bool xj.1.1.s, .slice xj.1.1.A xj.1.1.n xj.1.1.c, .slice xj.1.1.B xj.1.1.m xj.1.1.d] := by unfold Tm.cells; rw [hX]; rfl
  have exp : xp.1.1.cells = [.int .i64 y0, .int .i64 y1, .int .i64 y2, .int .i64 y3, .int .i64 y4, .int .i64 y5, .int .i64 y6, .int .i64 y7, .bool xp.1.1.s, .slice xp.1.1.A xp.1.1.n xp.1.1.c, .slice xp.1.1.B xp.1.1.m xp.1.1.d] := by unfold Tm.cells; rw [hY]; rfl
  rw [exj, exp] at q2 k2
  simp only [World.setCells, Nat.add_assoc, Nat.reduceAdd] at q2 k2
  have HQ := Lib.hid q2
  have HKN := Lib.hid ((Keeps.refl g g g w).trans k2)
  have z0 := HROW.out.frozenAt ((a) * 11)
  have u0 := HROW.out.frozenAt ((pv) * 11)
  have z1 := HROW.out.frozenAt ((a) * 11 + 1)
  have u1 := HROW.out.frozenAt ((pv) * 11 + 1)
  have z2 := HROW.out.frozenAt ((a) * 11 + 2)
  have u2 := HROW.out.frozenAt ((pv) * 11 + 2)
  have z3 := HROW.out.frozenAt ((a) * 11 + 3)
  have u3 := HROW.out.frozenAt ((pv) * 11 + 3)
  have z4 := HROW.out.frozenAt ((a) * 11 + 4)
  have u4 := HROW.out.frozenAt ((pv) * 11 + 4)
  have z5 := HROW.out.frozenAt ((a) * 11 + 5)
  have u5 := HROW.out.frozenAt ((pv) * 11 + 5)
  have z6 := HROW.out.frozenAt ((a) * 11 + 6)
  have u6 := HROW.out.frozenAt ((pv) * 11 + 6)
  have z7 := HROW.out.frozenAt ((a) * 11 + 7)
  have u7 := HROW.out.frozenAt ((pv) * 11 + 7)
  have z8 := HROW.out.frozenAt ((a) * 11 + 8)
  have u8 := HROW.out.frozenAt ((pv) * 11 + 8)
  have z9 := HROW.out.frozenAt ((a) * 11 + 9)
  have u9 := HROW.out.frozenAt ((pv) * 11 + 9)
  have z10 := HROW.out.frozenAt ((a) * 11 + 10)
  have u10 := HROW.out.frozenAt ((pv) * 11 + 10)
  have hsz : (swp d (a) (pv)).size = n := by rw [size_swp, hlen]
  clear q2 k2 exj exp hX hY hsj hsp hxj hxp
  obtain ⟨di, hDD⟩ : ∃ di, swp d a pv = di := ⟨_, rfl⟩
  have HDD := Lib.hid hDD
  rw [hDD] at hsz HQ
  have hdi := hsz
  clear hlen hDD hsz
  go_enter Tryz.func118, Tryz.ntmps118
  go_wp2_with fail
  go_region
  clear c0 d0 z0 u0 c1 d1 z1 u1 c2 d2 z2 u2 c3 d3 z3 u3 c4 d4 z4 u4 c5 d5 z5 u5 c6 d6 z6 u6 c7 d7 z7 u7 c8 d8 z8 u8 c9 d9 z9 u9 c10 d10 z10 u10
  have HW := Lib.hid (World.ownsRow.drew HQ.out)
  have HK := Lib.hid (Keeps.drewn HKN.out)
  clear HQ HKN HROW
  go_upto_block 0 with fail
  try rw [hiI]
  try rw [hbI]
  clear hiI hbI
  go_cut [12] (fun iv wx => ∃ i2 : Nat, iv = .int .i64 i2 ∧ (i1 ≤ i2 ∧ i2 ≤ b' + 1) ∧ Hid (scanUp (fun x => lt8 x di[a]!) di b' i1 = i2) ∧ Hid (i2 ≤ b' → lt8 di[i2]! di[a]! = false) ∧ Hid (wx.ownsRow base 47 11 (.slice (some ⟨g, 0, none⟩) n cap) n (rowOf (tms (cs8 di)))) ∧ Hid (Keeps g g g w wx))
  case first =>
    go_wp2_with fail
    go_loopw [12] (fun iv wq => ∃ i2 : Nat, iv = .int .i64 i2 ∧ (i1 ≤ i2 ∧ i2 ≤ b' + 1) ∧ Hid (scanUp (fun x => lt8 x di[a]!) di b' i1 = scanUp (fun x => lt8 x di[a]!) di b' i2) ∧ Hid (wq.ownsRow base 47 11 (.slice (some ⟨g, 0, none⟩) n cap) n (rowOf (tms (cs8 di)))) ∧ Hid (Keeps g g g w wq)) (fun iv _ => b' + 1 - (intOf iv).toNat)
    case atStart => exact ⟨i1, rfl, ⟨Nat.le_refl _, hij⟩, rfl, HW, HK⟩
    case round =>
      obtain ⟨i2, rfl, hi2, HS, HWi, HKi⟩ := hrel
      clear HW HK
      have i2n : (i2 : Int) ≤ n := by omega
      have i20 : (0 : Int) ≤ i2 := by omega
      by_cases hle : i2 ≤ b'
      · have hleI : (i2 : Int) ≤ b' := by omega
        have i2q1 : (i2 : Int) < n := by omega
        have i2q0 : (0 : Int) ≤ i2 := by omega
        obtain ⟨xa, hxa⟩ : ∃ x, di[i2]! = x := ⟨_, rfl⟩
        obtain ⟨xb, hxb⟩ : ∃ x, di[a]! = x := ⟨_, rfl⟩
        have hsj : (tms (cs8 di))[i2]? = some di[i2]!.1.1 := tms8_get (by omega)
        have hsp : (tms (cs8 di))[a]? = some di[a]!.1.1 := tms8_get (by omega)
        rw [hxa] at hsj
        rw [hxb] at hsp
        have hlt8 := lt8_cmp xa xb
        obtain ⟨x0, x1, x2, x3, x4, x5, x6, x7, hX⟩ := eight xa.2
        obtain ⟨y0, y1, y2, y3, y4, y5, y6, y7, hY⟩ := eight xb.2
        have hb1 : RowBox g (i2) x0 x1 x2 x3 x4 x5 x6 x7 xa.1.1 wr := row_cells HWi.out (tms8 di) (by rw [tms8_length, hdi]) hsj hX
        have hb2 : RowBox g (a) y0 y1 y2 y3 y4 y5 y6 y7 xb.1.1 wr := row_cells HWi.out (tms8 di) (by rw [tms8_length, hdi]) hsp hY
        have hgl : g < wr.heap.size := (HWi.out.lt g rfl).2
        obtain ⟨r, hr⟩ : ∃ r, -cmpL [x0, x1, x2, x3, x4, x5, x6, x7] [y0, y1, y2, y3, y4, y5, y6, y7] = r := ⟨_, rfl⟩
        have HC : Hid (∀ W, Calls Tryz.prog 65 #[.int .i64 (-1), .agg #[.int .i64 x0, .int .i64 x1, .int .i64 x2, .int .i64 x3, .int .i64 x4, .int .i64 x5, .int .i64 x6, .int .i64 x7, .bool xa.1.1.s, .slice xa.1.1.A xa.1.1.n xa.1.1.c, .slice xa.1.1.B xa.1.1.m xa.1.1.d], .agg #[.int .i64 y0, .int .i64 y1, .int .i64 y2, .int .i64 y3, .int .i64 y4, .int .i64 y5, .int .i64 y6, .int .i64 y7, .bool xb.1.1.s, .slice xb.1.1.A xb.1.1.n xb.1.1.c, .slice xb.1.1.B xb.1.1.m xb.1.1.d]] W fun e w' => e = .returned (.int .i64 r) ∧ Below W.heap.size W w') := fun W => by
          rw [← hr]; exact compare_x _ _ _ _ _ _ _ _ _ _ _ _ _ _ _ _ _ _ _ _ _ _ _ _ _ _ _ _ _ _ _
        rw [hX, hY, hr] at hlt8
        have HBX : Hid (∀ W, Below wr.heap.size wr W → RowBox g (i2) x0 x1 x2 x3 x4 x5 x6 x7 xa.1.1 W ∧ RowBox g (a) y0 y1 y2 y3 y4 y5 y6 y7 xb.1.1 W) := fun W hW => ⟨hb1.below hW hgl, hb2.below hW hgl⟩
        have HLT := Lib.hid hlt8
        have HXI := Lib.hid hxa
        have HXJ := Lib.hid hxb
        clear hX hY hsj hsp hlt8 hxa hxb hr hb1 hb2 hgl
        have hk : Below wr.heap.size wr wr.drew := (Below.refl _ wr).drew
        go_wp2_with fail
        by_cases hlv : r < 0
        · have HST : Hid (scanUp (fun x => lt8 x di[a]!) di b' i1 = scanUp (fun x => lt8 x di[a]!) di b' (i2 + 1)) := by
            show _ = _
            rw [HS.out]
            refine up_more hle ?_
            show lt8 di[i2]! di[a]! = true
            rw [HXI.out, HXJ.out]; exact HLT.out.1 hlv
          clear HXI HXJ HLT HS
          refine wp_region_held_drew (S := (fun W => RowBox g (i2) x0 x1 x2 x3 x4 x5 x6 x7 xa.1.1 W ∧ RowBox g (a) y0 y1 y2 y3 y4 y5 y6 y7 xb.1.1 W)) (by kernel_rfl) ?_ (fun hHeld => ?_)
          · exact HBX.out _ hk
          refine wpAnyH_take (i := 0) (oi := ⟨some 32, _, _, _, _, _⟩) (v := ?_) rfl (by kernel_rfl) (by kernel_rfl) (by kernel_rfl) (fun _ _ _ h => h) (Or.inl ⟨by rfl, ?_⟩) (by assumption) ?_
          rotate_left
          · intro w hSw
            (try dsimp only at hSw)
            unfold RowBox at hSw
            obtain ⟨⟨h0, h1, h2, h3, h4, h5, h6, h7, h8, h9, h10⟩, j0, j1, j2, j3, j4, j5, j6, j7, j8, j9, j10⟩ := hSw
            go_simp
            try with_reducible rfl
          try simp only [Act.put, List.setIfInBounds_toArray, List.set_cons_zero, List.set_cons_succ]
          refine wpAnyH_take (i := 1) (oi := ⟨some 33, _, _, _, _, _⟩) (v := ?_) rfl (by kernel_rfl) (by kernel_rfl) (by kernel_rfl) (fun _ _ _ h => h) (Or.inl ⟨by rfl, ?_⟩) (by assumption) ?_
          rotate_left
          · intro w hSw
            (try dsimp only at hSw)
            unfold RowBox at hSw
            obtain ⟨⟨h0, h1, h2, h3, h4, h5, h6, h7, h8, h9, h10⟩, j0, j1, j2, j3, j4, j5, j6, j7, j8, j9, j10⟩ := hSw
            go_simp
            try with_reducible rfl
          try simp only [Act.put, List.setIfInBounds_toArray, List.set_cons_zero, List.set_cons_succ]
          refine wpAnyH_take (i := 2) (oi := ⟨some 34, _, _, _, _, _⟩) (v := ?_) rfl (by kernel_rfl) (by kernel_rfl) (by kernel_rfl) (fun _ _ _ h => h) (Or.inl ⟨by rfl, ?_⟩) (by assumption) ?_
          rotate_left
          · intro w hSw
            (try dsimp only at hSw)
            unfold RowBox at hSw
            obtain ⟨⟨h0, h1, h2, h3, h4, h5, h6, h7, h8, h9, h10⟩, j0, j1, j2, j3, j4, j5, j6, j7, j8, j9, j10⟩ := hSw
            go_simp
            try with_reducible rfl
          try simp only [Act.put, List.setIfInBounds_toArray, List.set_cons_zero, List.set_cons_succ]
          refine wpAnyH_take (i := 3) (oi := ⟨some 35, _, _, _, _, _⟩) (v := ?_) rfl (by kernel_rfl) (by kernel_rfl) (by kernel_rfl) (fun _ _ _ h => h) (Or.inl ⟨by rfl, ?_⟩) (by assumption) ?_
          rotate_left
          · intro w hSw
            (try dsimp only at hSw)
            unfold RowBox at hSw
            obtain ⟨⟨h0, h1, h2, h3, h4, h5, h6, h7, h8, h9, h10⟩, j0, j1, j2, j3, j4, j5, j6, j7, j8, j9, j10⟩ := hSw
            go_simp
            try with_reducible rfl
          try simp only [Act.put, List.setIfInBounds_toArray, List.set_cons_zero, List.set_cons_succ]
          refine wpAnyH_take (i := 4) (oi := ⟨some 36, _, _, _, _, _⟩) (v := ?_) rfl (by kernel_rfl) (by kernel_rfl) (by kernel_rfl) (fun _ _ _ h => h) (Or.inl ⟨by rfl, ?_⟩) (by assumption) ?_
          rotate_left
          · intro w hSw
            (try dsimp only at hSw)
            unfold RowBox at hSw
            obtain ⟨⟨h0, h1, h2, h3, h4, h5, h6, h7, h8, h9, h10⟩, j0, j1, j2, j3, j4, j5, j6, j7, j8, j9, j10⟩ := hSw
            go_simp
            try with_reducible rfl
          try simp only [Act.put, List.setIfInBounds_toArray, List.set_cons_zero, List.set_cons_succ]
          refine wpAnyH_take (i := 5) (oi := ⟨some 37, _, _, _, _, _⟩) (v := ?_) rfl (by kernel_rfl) (by kernel_rfl) (by kernel_rfl) (fun _ _ _ h => h) (Or.inl ⟨by rfl, ?_⟩) (by assumption) ?_
          rotate_left
          · intro w hSw
            (try dsimp only at hSw)
            unfold RowBox at hSw
            obtain ⟨⟨h0, h1, h2, h3, h4, h5, h6, h7, h8, h9, h10⟩, j0, j1, j2, j3, j4, j5, j6, j7, j8, j9, j10⟩ := hSw
            go_simp
            try with_reducible rfl
          try simp only [Act.put, List.setIfInBounds_toArray, List.set_cons_zero, List.set_cons_succ]
          refine wpAnyH_take (i := 6) (oi := ⟨some 38, _, _, _, _, _⟩) (v := ?_) rfl (by kernel_rfl) (by kernel_rfl) (by kernel_rfl) (fun _ _ _ h => h) (Or.inl ⟨by rfl, ?_⟩) (by assumption) ?_
          rotate_left
          · intro w hSw
            (try dsimp only at hSw)
            unfold RowBox at hSw
            obtain ⟨⟨h0, h1, h2, h3, h4, h5, h6, h7, h8, h9, h10⟩, j0, j1, j2, j3, j4, j5, j6, j7, j8, j9, j10⟩ := hSw
            go_simp
            try with_reducible rfl
          try simp only [Act.put, List.setIfInBounds_toArray, List.set_cons_zero, List.set_cons_succ]
          refine wpAnyH_take (i := 7) (oi := ⟨some 39, _, _, _, _, _⟩) (v := ?_) rfl (by kernel_rfl) (by kernel_rfl) (by kernel_rfl) (fun _ _ _ h => h) (Or.inl ⟨by rfl, ?_⟩) (by assumption) ?_
          rotate_left
          · intro w hSw
            (try dsimp only at hSw)
            unfold RowBox at hSw
            obtain ⟨⟨h0, h1, h2, h3, h4, h5, h6, h7, h8, h9, h10⟩, j0, j1, j2, j3, j4, j5, j6, j7, j8, j9, j10⟩ := hSw
            go_simp
            try with_reducible rfl
          try simp only [Act.put, List.setIfInBounds_toArray, List.set_cons_zero, List.set_cons_succ]
          refine wpAnyH_take (i := 8) (oi := ⟨some 40, _, _, _, _, _⟩) (v := ?_) rfl (by kernel_rfl) (by kernel_rfl) (by kernel_rfl) (fun _ _ _ h => h) (Or.inl ⟨by rfl, ?_⟩) (by assumption) ?_
          rotate_left
          · intro w hSw
            (try dsimp only at hSw)
            unfold RowBox at hSw
            obtain ⟨⟨h0, h1, h2, h3, h4, h5, h6, h7, h8, h9, h10⟩, j0, j1, j2, j3, j4, j5, j6, j7, j8, j9, j10⟩ := hSw
            go_simp
            try with_reducible rfl
          try simp only [Act.put, List.setIfInBounds_toArray, List.set_cons_zero, List.set_cons_succ]
          refine wpAnyH_take (i := 9) (oi := ⟨some 41, _, _, _, _, _⟩) (v := ?_) rfl (by kernel_rfl) (by kernel_rfl) (by kernel_rfl) (fun _ _ _ h => h) (Or.inl ⟨by rfl, ?_⟩) (by assumption) ?_
          rotate_left
          · intro w hSw
            (try dsimp only at hSw)
            unfold RowBox at hSw
            obtain ⟨⟨h0, h1, h2, h3, h4, h5, h6, h7, h8, h9, h10⟩, j0, j1, j2, j3, j4, j5, j6, j7, j8, j9, j10⟩ := hSw
            go_simp
            try with_reducible rfl
          try simp only [Act.put, List.setIfInBounds_toArray, List.set_cons_zero, List.set_cons_succ]
          refine wpAnyH_take (i := 10) (oi := ⟨some 42, _, _, _, _, _⟩) (v := ?_) rfl (by kernel_rfl) (by kernel_rfl) (by kernel_rfl) (fun _ _ _ h => h) (Or.inl ⟨by rfl, ?_⟩) (by assumption) ?_
          rotate_left
          · intro w hSw
            (try dsimp only at hSw)
            unfold RowBox at hSw
            obtain ⟨⟨h0, h1, h2, h3, h4, h5, h6, h7, h8, h9, h10⟩, j0, j1, j2, j3, j4, j5, j6, j7, j8, j9, j10⟩ := hSw
            go_simp
            try with_reducible rfl
          try simp only [Act.put, List.setIfInBounds_toArray, List.set_cons_zero, List.set_cons_succ]
          refine wpAnyH_take (i := 11) (oi := ⟨some 43, _, _, _, _, _⟩) (v := ?_) rfl (by kernel_rfl) (by kernel_rfl) (by kernel_rfl) (fun _ _ _ h => h) (Or.inl ⟨by rfl, ?_⟩) (by assumption) ?_
          rotate_left
          · intro w hSw
            (try dsimp only at hSw)
            unfold RowBox at hSw
            obtain ⟨⟨h0, h1, h2, h3, h4, h5, h6, h7, h8, h9, h10⟩, j0, j1, j2, j3, j4, j5, j6, j7, j8, j9, j10⟩ := hSw
            go_simp
            try with_reducible rfl
          try simp only [Act.put, List.setIfInBounds_toArray, List.set_cons_zero, List.set_cons_succ]
          refine wpAnyH_take (i := 12) (oi := ⟨some 44, _, _, _, _, _⟩) (v := ?_) rfl (by kernel_rfl) (by kernel_rfl) (by kernel_rfl) (fun _ _ _ h => h) (Or.inl ⟨by rfl, ?_⟩) (by assumption) ?_
          rotate_left
          · intro w hSw
            (try dsimp only at hSw)
            unfold RowBox at hSw
            obtain ⟨⟨h0, h1, h2, h3, h4, h5, h6, h7, h8, h9, h10⟩, j0, j1, j2, j3, j4, j5, j6, j7, j8, j9, j10⟩ := hSw
            go_simp
            try with_reducible rfl
          try simp only [Act.put, List.setIfInBounds_toArray, List.set_cons_zero, List.set_cons_succ]
          refine wpAnyH_ready (rs := [13]) (by kernel_rfl) (by simp) ?_
          refine AllReadyH.cons (o := ⟨some 45, _, _, _, _, _⟩) rfl (fun K hK => ?_) AllReadyH.nil
          go_simp
          go_at_call 65
          refine (HC.out _).mono ?_
          rintro e w3 ⟨rfl, e3⟩
          replace hk := nextB hk e3
          go_wp2_with fail
          refine hK.out _ _ (HBX.out _ hk) (fun hHeld => ?_)
          clear hK K
          try simp only [Act.put, List.setIfInBounds_toArray, List.set_cons_zero, List.set_cons_succ]
          refine wpAnyH_take (i := 14) (oi := ⟨some 46, _, _, _, _, _⟩) (v := ?_) rfl (by kernel_rfl) (by kernel_rfl) (by kernel_rfl) (fun _ _ _ h => h) (Or.inl ⟨by rfl, ?_⟩) (by assumption) ?_
          rotate_left
          · intro w hSw
            (try dsimp only at hSw)
            unfold RowBox at hSw
            obtain ⟨⟨h0, h1, h2, h3, h4, h5, h6, h7, h8, h9, h10⟩, j0, j1, j2, j3, j4, j5, j6, j7, j8, j9, j10⟩ := hSw
            go_simp
            try with_reducible rfl
          try simp only [Act.put, List.setIfInBounds_toArray, List.set_cons_zero, List.set_cons_succ]
          refine wpAnyH_take (i := 15) (oi := ⟨some 47, _, _, _, _, _⟩) (v := ?_) rfl (by kernel_rfl) (by kernel_rfl) (by kernel_rfl) (fun _ _ _ h => h) (Or.inl ⟨by rfl, ?_⟩) (by assumption) ?_
          rotate_left
          · intro w hSw
            (try dsimp only at hSw)
            unfold RowBox at hSw
            obtain ⟨⟨h0, h1, h2, h3, h4, h5, h6, h7, h8, h9, h10⟩, j0, j1, j2, j3, j4, j5, j6, j7, j8, j9, j10⟩ := hSw
            go_simp
            try with_reducible rfl
          try simp only [Act.put, List.setIfInBounds_toArray, List.set_cons_zero, List.set_cons_succ]
          refine wpAnyH_done (by kernel_rfl) ?_ _
          have HW3 := Lib.hid (ownsRow_below HWi.out hk)
          have HK3 := Lib.hid (HKi.out.trans (Keeps.below hk))
          clear hk HBX HC hHeld HWi HKi
          go_wp2
          go_roundw
          case rel => exact ⟨i2 + 1, by go_num, by omega, HST, HW3, HK3⟩
          case measure => simp [intOf] <;> omega
        · have hnl : lt8 di[i2]! di[a]! = false := by
            rw [HXI.out, HXJ.out]
            cases hq : lt8 xa xb with
            | false => rfl
            | true => exact absurd (HLT.out.2 hq) hlv
          have HST : Hid (scanUp (fun x => lt8 x di[a]!) di b' i1 = i2) := by
            show _ = _
            rw [HS.out]
            exact up_stop (.inr hnl)
          have HPF : Hid (i2 ≤ b' → lt8 di[i2]! di[a]! = false) := fun _ => hnl
          have hdf : decide (r < 0) = false := decide_eq_false (by omega)
          clear HXI HXJ HLT HS hnl
          refine wp_region_held_drew (S := (fun W => RowBox g (i2) x0 x1 x2 x3 x4 x5 x6 x7 xa.1.1 W ∧ RowBox g (a) y0 y1 y2 y3 y4 y5 y6 y7 xb.1.1 W)) (by kernel_rfl) ?_ (fun hHeld => ?_)
          · exact HBX.out _ hk
          refine wpAnyH_take (i := 0) (oi := ⟨some 32, _, _, _, _, _⟩) (v := ?_) rfl (by kernel_rfl) (by kernel_rfl) (by kernel_rfl) (fun _ _ _ h => h) (Or.inl ⟨by rfl, ?_⟩) (by assumption) ?_
          rotate_left
          · intro w hSw
            (try dsimp only at hSw)
            unfold RowBox at hSw
            obtain ⟨⟨h0, h1, h2, h3, h4, h5, h6, h7, h8, h9, h10⟩, j0, j1, j2, j3, j4, j5, j6, j7, j8, j9, j10⟩ := hSw
            go_simp
            try with_reducible rfl
          try simp only [Act.put, List.setIfInBounds_toArray, List.set_cons_zero, List.set_cons_succ]
          refine wpAnyH_take (i := 1) (oi := ⟨some 33, _, _, _, _, _⟩) (v := ?_) rfl (by kernel_rfl) (by kernel_rfl) (by kernel_rfl) (fun _ _ _ h => h) (Or.inl ⟨by rfl, ?_⟩) (by assumption) ?_
          rotate_left
          · intro w hSw
            (try dsimp only at hSw)
            unfold RowBox at hSw
            obtain ⟨⟨h0, h1, h2, h3, h4, h5, h6, h7, h8, h9, h10⟩, j0, j1, j2, j3, j4, j5, j6, j7, j8, j9, j10⟩ := hSw
            go_simp
            try with_reducible rfl
          try simp only [Act.put, List.setIfInBounds_toArray, List.set_cons_zero, List.set_cons_succ]
          refine wpAnyH_take (i := 2) (oi := ⟨some 34, _, _, _, _, _⟩) (v := ?_) rfl (by kernel_rfl) (by kernel_rfl) (by kernel_rfl) (fun _ _ _ h => h) (Or.inl ⟨by rfl, ?_⟩) (by assumption) ?_
          rotate_left
          · intro w hSw
            (try dsimp only at hSw)
            unfold RowBox at hSw
            obtain ⟨⟨h0, h1, h2, h3, h4, h5, h6, h7, h8, h9, h10⟩, j0, j1, j2, j3, j4, j5, j6, j7, j8, j9, j10⟩ := hSw
            go_simp
            try with_reducible rfl
          try simp only [Act.put, List.setIfInBounds_toArray, List.set_cons_zero, List.set_cons_succ]
          refine wpAnyH_take (i := 3) (oi := ⟨some 35, _, _, _, _, _⟩) (v := ?_) rfl (by kernel_rfl) (by kernel_rfl) (by kernel_rfl) (fun _ _ _ h => h) (Or.inl ⟨by rfl, ?_⟩) (by assumption) ?_
          rotate_left
          · intro w hSw
            (try dsimp only at hSw)
            unfold RowBox at hSw
            obtain ⟨⟨h0, h1, h2, h3, h4, h5, h6, h7, h8, h9, h10⟩, j0, j1, j2, j3, j4, j5, j6, j7, j8, j9, j10⟩ := hSw
            go_simp
            try with_reducible rfl
          try simp only [Act.put, List.setIfInBounds_toArray, List.set_cons_zero, List.set_cons_succ]
          refine wpAnyH_take (i := 4) (oi := ⟨some 36, _, _, _, _, _⟩) (v := ?_) rfl (by kernel_rfl) (by kernel_rfl) (by kernel_rfl) (fun _ _ _ h => h) (Or.inl ⟨by rfl, ?_⟩) (by assumption) ?_
          rotate_left
          · intro w hSw
            (try dsimp only at hSw)
            unfold RowBox at hSw
            obtain ⟨⟨h0, h1, h2, h3, h4, h5, h6, h7, h8, h9, h10⟩, j0, j1, j2, j3, j4, j5, j6, j7, j8, j9, j10⟩ := hSw
            go_simp
            try with_reducible rfl
          try simp only [Act.put, List.setIfInBounds_toArray, List.set_cons_zero, List.set_cons_succ]
          refine wpAnyH_take (i := 5) (oi := ⟨some 37, _, _, _, _, _⟩) (v := ?_) rfl (by kernel_rfl) (by kernel_rfl) (by kernel_rfl) (fun _ _ _ h => h) (Or.inl ⟨by rfl, ?_⟩) (by assumption) ?_
          rotate_left
          · intro w hSw
            (try dsimp only at hSw)
            unfold RowBox at hSw
            obtain ⟨⟨h0, h1, h2, h3, h4, h5, h6, h7, h8, h9, h10⟩, j0, j1, j2, j3, j4, j5, j6, j7, j8, j9, j10⟩ := hSw
            go_simp
            try with_reducible rfl
          try simp only [Act.put, List.setIfInBounds_toArray, List.set_cons_zero, List.set_cons_succ]
          refine wpAnyH_take (i := 6) (oi := ⟨some 38, _, _, _, _, _⟩) (v := ?_) rfl (by kernel_rfl) (by kernel_rfl) (by kernel_rfl) (fun _ _ _ h => h) (Or.inl ⟨by rfl, ?_⟩) (by assumption) ?_
          rotate_left
          · intro w hSw
            (try dsimp only at hSw)
            unfold RowBox at hSw
            obtain ⟨⟨h0, h1, h2, h3, h4, h5, h6, h7, h8, h9, h10⟩, j0, j1, j2, j3, j4, j5, j6, j7, j8, j9, j10⟩ := hSw
            go_simp
            try with_reducible rfl
          try simp only [Act.put, List.setIfInBounds_toArray, List.set_cons_zero, List.set_cons_succ]
          refine wpAnyH_take (i := 7) (oi := ⟨some 39, _, _, _, _, _⟩) (v := ?_) rfl (by kernel_rfl) (by kernel_rfl) (by kernel_rfl) (fun _ _ _ h => h) (Or.inl ⟨by rfl, ?_⟩) (by assumption) ?_
          rotate_left
          · intro w hSw
            (try dsimp only at hSw)
            unfold RowBox at hSw
            obtain ⟨⟨h0, h1, h2, h3, h4, h5, h6, h7, h8, h9, h10⟩, j0, j1, j2, j3, j4, j5, j6, j7, j8, j9, j10⟩ := hSw
            go_simp
            try with_reducible rfl
          try simp only [Act.put, List.setIfInBounds_toArray, List.set_cons_zero, List.set_cons_succ]
          refine wpAnyH_take (i := 8) (oi := ⟨some 40, _, _, _, _, _⟩) (v := ?_) rfl (by kernel_rfl) (by kernel_rfl) (by kernel_rfl) (fun _ _ _ h => h) (Or.inl ⟨by rfl, ?_⟩) (by assumption) ?_
          rotate_left
          · intro w hSw
            (try dsimp only at hSw)
            unfold RowBox at hSw
            obtain ⟨⟨h0, h1, h2, h3, h4, h5, h6, h7, h8, h9, h10⟩, j0, j1, j2, j3, j4, j5, j6, j7, j8, j9, j10⟩ := hSw
            go_simp
            try with_reducible rfl
          try simp only [Act.put, List.setIfInBounds_toArray, List.set_cons_zero, List.set_cons_succ]
          refine wpAnyH_take (i := 9) (oi := ⟨some 41, _, _, _, _, _⟩) (v := ?_) rfl (by kernel_rfl) (by kernel_rfl) (by kernel_rfl) (fun _ _ _ h => h) (Or.inl ⟨by rfl, ?_⟩) (by assumption) ?_
          rotate_left
          · intro w hSw
            (try dsimp only at hSw)
            unfold RowBox at hSw
            obtain ⟨⟨h0, h1, h2, h3, h4, h5, h6, h7, h8, h9, h10⟩, j0, j1, j2, j3, j4, j5, j6, j7, j8, j9, j10⟩ := hSw
            go_simp
            try with_reducible rfl
          try simp only [Act.put, List.setIfInBounds_toArray, List.set_cons_zero, List.set_cons_succ]
          refine wpAnyH_take (i := 10) (oi := ⟨some 42, _, _, _, _, _⟩) (v := ?_) rfl (by kernel_rfl) (by kernel_rfl) (by kernel_rfl) (fun _ _ _ h => h) (Or.inl ⟨by rfl, ?_⟩) (by assumption) ?_
          rotate_left
          · intro w hSw
            (try dsimp only at hSw)
            unfold RowBox at hSw
            obtain ⟨⟨h0, h1, h2, h3, h4, h5, h6, h7, h8, h9, h10⟩, j0, j1, j2, j3, j4, j5, j6, j7, j8, j9, j10⟩ := hSw
            go_simp
            try with_reducible rfl
          try simp only [Act.put, List.setIfInBounds_toArray, List.set_cons_zero, List.set_cons_succ]
          refine wpAnyH_take (i := 11) (oi := ⟨some 43, _, _, _, _, _⟩) (v := ?_) rfl (by kernel_rfl) (by kernel_rfl) (by kernel_rfl) (fun _ _ _ h => h) (Or.inl ⟨by rfl, ?_⟩) (by assumption) ?_
          rotate_left
          · intro w hSw
            (try dsimp only at hSw)
            unfold RowBox at hSw
            obtain ⟨⟨h0, h1, h2, h3, h4, h5, h6, h7, h8, h9, h10⟩, j0, j1, j2, j3, j4, j5, j6, j7, j8, j9, j10⟩ := hSw
            go_simp
            try with_reducible rfl
          try simp only [Act.put, List.setIfInBounds_toArray, List.set_cons_zero, List.set_cons_succ]
          refine wpAnyH_take (i := 12) (oi := ⟨some 44, _, _, _, _, _⟩) (v := ?_) rfl (by kernel_rfl) (by kernel_rfl) (by kernel_rfl) (fun _ _ _ h => h) (Or.inl ⟨by rfl, ?_⟩) (by assumption) ?_
          rotate_left
          · intro w hSw
            (try dsimp only at hSw)
            unfold RowBox at hSw
            obtain ⟨⟨h0, h1, h2, h3, h4, h5, h6, h7, h8, h9, h10⟩, j0, j1, j2, j3, j4, j5, j6, j7, j8, j9, j10⟩ := hSw
            go_simp
            try with_reducible rfl
          try simp only [Act.put, List.setIfInBounds_toArray, List.set_cons_zero, List.set_cons_succ]
          refine wpAnyH_ready (rs := [13]) (by kernel_rfl) (by simp) ?_
          refine AllReadyH.cons (o := ⟨some 45, _, _, _, _, _⟩) rfl (fun K hK => ?_) AllReadyH.nil
          go_simp
          go_at_call 65
          refine (HC.out _).mono ?_
          rintro e w3 ⟨rfl, e3⟩
          replace hk := nextB hk e3
          go_wp2_with fail
          refine hK.out _ _ (HBX.out _ hk) (fun hHeld => ?_)
          clear hK K
          try simp only [Act.put, List.setIfInBounds_toArray, List.set_cons_zero, List.set_cons_succ]
          refine wpAnyH_take (i := 14) (oi := ⟨some 46, _, _, _, _, _⟩) (v := ?_) rfl (by kernel_rfl) (by kernel_rfl) (by kernel_rfl) (fun _ _ _ h => h) (Or.inl ⟨by rfl, ?_⟩) (by assumption) ?_
          rotate_left
          · intro w hSw
            (try dsimp only at hSw)
            unfold RowBox at hSw
            obtain ⟨⟨h0, h1, h2, h3, h4, h5, h6, h7, h8, h9, h10⟩, j0, j1, j2, j3, j4, j5, j6, j7, j8, j9, j10⟩ := hSw
            go_simp
            try with_reducible rfl
          try simp only [Act.put, List.setIfInBounds_toArray, List.set_cons_zero, List.set_cons_succ]
          refine wpAnyH_take (i := 15) (oi := ⟨some 47, _, _, _, _, _⟩) (v := ?_) rfl (by kernel_rfl) (by kernel_rfl) (by kernel_rfl) (fun _ _ _ h => h) (Or.inl ⟨by rfl, ?_⟩) (by assumption) ?_
          rotate_left
          · intro w hSw
            (try dsimp only at hSw)
            unfold RowBox at hSw
            obtain ⟨⟨h0, h1, h2, h3, h4, h5, h6, h7, h8, h9, h10⟩, j0, j1, j2, j3, j4, j5, j6, j7, j8, j9, j10⟩ := hSw
            go_simp
            try with_reducible rfl
          try simp only [Act.put, List.setIfInBounds_toArray, List.set_cons_zero, List.set_cons_succ]
          refine wpAnyH_done (by kernel_rfl) ?_ _
          have HW3 := Lib.hid (ownsRow_below HWi.out hk)
          have HK3 := Lib.hid (HKi.out.trans (Keeps.below hk))
          clear hk HBX HC hHeld HWi HKi
          go_wp2
          go_meet
          exact ⟨i2, rfl, hi2, HST, HPF, HW3, HK3⟩
      · have hleI : ¬ (i2 : Int) ≤ b' := by omega
        have HST : Hid (scanUp (fun x => lt8 x di[a]!) di b' i1 = i2) := by show _ = _; rw [HS.out]; exact up_stop (.inl hle)
        have HPF : Hid (i2 ≤ b' → lt8 di[i2]! di[a]! = false) := fun h => absurd h hle
        have hk : Below wr.heap.size wr wr.drew := (Below.refl _ wr).drew
        have HW3 := Lib.hid (ownsRow_below HWi.out hk)
        have HK3 := Lib.hid (HKi.out.trans (Keeps.below hk))
        go_wp2_with fail
        refine wp_region_held_drew (S := (fun _ => True)) (by kernel_rfl) ?_ (fun hHeld => ?_)
        · trivial
        refine wpAnyH_take (i := 0) (oi := ⟨some 32, _, _, _, _, _⟩) (v := ?_) rfl (by kernel_rfl) (by kernel_rfl) (by kernel_rfl) (fun _ _ _ h => h) (Or.inl ⟨by rfl, ?_⟩) (by assumption) ?_
        rotate_left
        · intro w hSw
          (try dsimp only at hSw)
          go_simp
          try with_reducible rfl
        try simp only [Act.put, List.setIfInBounds_toArray, List.set_cons_zero, List.set_cons_succ]
        refine wpAnyH_take (i := 1) (oi := ⟨some 33, _, _, _, _, _⟩) (v := ?_) rfl (by kernel_rfl) (by kernel_rfl) (by kernel_rfl) (fun _ _ _ h => h) (Or.inl ⟨by rfl, ?_⟩) (by assumption) ?_
        rotate_left
        · intro w hSw
          (try dsimp only at hSw)
          go_simp
          try with_reducible rfl
        try simp only [Act.put, List.setIfInBounds_toArray, List.set_cons_zero, List.set_cons_succ]
        refine wpAnyH_take (i := 2) (oi := ⟨some 34, _, _, _, _, _⟩) (v := ?_) rfl (by kernel_rfl) (by kernel_rfl) (by kernel_rfl) (fun _ _ _ h => h) (Or.inl ⟨by rfl, ?_⟩) (by assumption) ?_
        rotate_left
        · intro w hSw
          (try dsimp only at hSw)
          go_simp
          try with_reducible rfl
        try simp only [Act.put, List.setIfInBounds_toArray, List.set_cons_zero, List.set_cons_succ]
        refine wpAnyH_take (i := 3) (oi := ⟨some 35, _, _, _, _, _⟩) (v := ?_) rfl (by kernel_rfl) (by kernel_rfl) (by kernel_rfl) (fun _ _ _ h => h) (Or.inl ⟨by rfl, ?_⟩) (by assumption) ?_
        rotate_left
        · intro w hSw
          (try dsimp only at hSw)
          go_simp
          try with_reducible rfl
        try simp only [Act.put, List.setIfInBounds_toArray, List.set_cons_zero, List.set_cons_succ]
        refine wpAnyH_take (i := 4) (oi := ⟨some 36, _, _, _, _, _⟩) (v := undef) rfl (by kernel_rfl) (by kernel_rfl) (by kernel_rfl) (fun _ _ _ h => h) (Or.inr ⟨by rfl, rfl⟩) (by assumption) ?_
        try simp only [Act.put, List.setIfInBounds_toArray, List.set_cons_zero, List.set_cons_succ]
        refine wpAnyH_take (i := 5) (oi := ⟨some 37, _, _, _, _, _⟩) (v := undef) rfl (by kernel_rfl) (by kernel_rfl) (by kernel_rfl) (fun _ _ _ h => h) (Or.inr ⟨by rfl, rfl⟩) (by assumption) ?_
        try simp only [Act.put, List.setIfInBounds_toArray, List.set_cons_zero, List.set_cons_succ]
        refine wpAnyH_take (i := 6) (oi := ⟨some 38, _, _, _, _, _⟩) (v := undef) rfl (by kernel_rfl) (by kernel_rfl) (by kernel_rfl) (fun _ _ _ h => h) (Or.inr ⟨by rfl, rfl⟩) (by assumption) ?_
        try simp only [Act.put, List.setIfInBounds_toArray, List.set_cons_zero, List.set_cons_succ]
        refine wpAnyH_take (i := 7) (oi := ⟨some 39, _, _, _, _, _⟩) (v := undef) rfl (by kernel_rfl) (by kernel_rfl) (by kernel_rfl) (fun _ _ _ h => h) (Or.inr ⟨by rfl, rfl⟩) (by assumption) ?_
        try simp only [Act.put, List.setIfInBounds_toArray, List.set_cons_zero, List.set_cons_succ]
        refine wpAnyH_take (i := 8) (oi := ⟨some 40, _, _, _, _, _⟩) (v := undef) rfl (by kernel_rfl) (by kernel_rfl) (by kernel_rfl) (fun _ _ _ h => h) (Or.inr ⟨by rfl, rfl⟩) (by assumption) ?_
        try simp only [Act.put, List.setIfInBounds_toArray, List.set_cons_zero, List.set_cons_succ]
        refine wpAnyH_take (i := 9) (oi := ⟨some 41, _, _, _, _, _⟩) (v := undef) rfl (by kernel_rfl) (by kernel_rfl) (by kernel_rfl) (fun _ _ _ h => h) (Or.inr ⟨by rfl, rfl⟩) (by assumption) ?_
        try simp only [Act.put, List.setIfInBounds_toArray, List.set_cons_zero, List.set_cons_succ]
        refine wpAnyH_take (i := 10) (oi := ⟨some 42, _, _, _, _, _⟩) (v := undef) rfl (by kernel_rfl) (by kernel_rfl) (by kernel_rfl) (fun _ _ _ h => h) (Or.inr ⟨by rfl, rfl⟩) (by assumption) ?_
        try simp only [Act.put, List.setIfInBounds_toArray, List.set_cons_zero, List.set_cons_succ]
        refine wpAnyH_take (i := 11) (oi := ⟨some 43, _, _, _, _, _⟩) (v := undef) rfl (by kernel_rfl) (by kernel_rfl) (by kernel_rfl) (fun _ _ _ h => h) (Or.inr ⟨by rfl, rfl⟩) (by assumption) ?_
        try simp only [Act.put, List.setIfInBounds_toArray, List.set_cons_zero, List.set_cons_succ]
        refine wpAnyH_take (i := 12) (oi := ⟨some 44, _, _, _, _, _⟩) (v := undef) rfl (by kernel_rfl) (by kernel_rfl) (by kernel_rfl) (fun _ _ _ h => h) (Or.inr ⟨by rfl, rfl⟩) (by assumption) ?_
        try simp only [Act.put, List.setIfInBounds_toArray, List.set_cons_zero, List.set_cons_succ]
        refine wpAnyH_take (i := 13) (oi := ⟨some 45, _, _, _, _, _⟩) (v := undef) rfl (by kernel_rfl) (by kernel_rfl) (by kernel_rfl) (fun _ _ _ h => h) (Or.inr ⟨by rfl, rfl⟩) (by assumption) ?_
        try simp only [Act.put, List.setIfInBounds_toArray, List.set_cons_zero, List.set_cons_succ]
        refine wpAnyH_take (i := 14) (oi := ⟨some 46, _, _, _, _, _⟩) (v := undef) rfl (by kernel_rfl) (by kernel_rfl) (by kernel_rfl) (fun _ _ _ h => h) (Or.inr ⟨by rfl, rfl⟩) (by assumption) ?_
        try simp only [Act.put, List.setIfInBounds_toArray, List.set_cons_zero, List.set_cons_succ]
        refine wpAnyH_take (i := 15) (oi := ⟨some 47, _, _, _, _, _⟩) (v := ?_) rfl (by kernel_rfl) (by kernel_rfl) (by kernel_rfl) (fun _ _ _ h => h) (Or.inl ⟨by rfl, ?_⟩) (by assumption) ?_
        rotate_left
        · intro w hSw
          (try dsimp only at hSw)
          go_simp
          try with_reducible rfl
        try simp only [Act.put, List.setIfInBounds_toArray, List.set_cons_zero, List.set_cons_succ]
        refine wpAnyH_done (by kernel_rfl) ?_ _
        clear hk HS hHeld HWi HKi
        go_wp2
        go_meet
        exact ⟨i2, rfl, hi2, HST, HPF, HW3, HK3⟩
  case rest =>
    obtain ⟨i2, rfl, hi2, HST, HPF, HW3, HK3⟩ := hcut
    clear HW HK
    have i2n : (i2 : Int) ≤ n := by omega
    have i20 : (0 : Int) ≤ i2 := by omega
    have hi22 := hi2.2
    go_upto_block 2 with fail
    go_cut [13] (fun jv wx => ∃ j2 : Nat, jv = .int .i64 j2 ∧ (j2 ≤ b' ∧ i2 ≤ j2 + 1) ∧ Hid (scanDown (fun x => !lt8 x di[a]!) di i2 b' = j2) ∧ Hid (i2 ≤ j2 → lt8 di[j2]! di[a]! = true) ∧ Hid (wx.ownsRow base 47 11 (.slice (some ⟨g, 0, none⟩) n cap) n (rowOf (tms (cs8 di)))) ∧ Hid (Keeps g g g w wx))
    case first =>
      go_wp2_with fail
      go_loopw [13] (fun jv wq => ∃ j2 : Nat, jv = .int .i64 j2 ∧ (j2 ≤ b' ∧ i2 ≤ j2 + 1) ∧ Hid (scanDown (fun x => !lt8 x di[a]!) di i2 b' = scanDown (fun x => !lt8 x di[a]!) di i2 j2) ∧ Hid (wq.ownsRow base 47 11 (.slice (some ⟨g, 0, none⟩) n cap) n (rowOf (tms (cs8 di)))) ∧ Hid (Keeps g g g w wq)) (fun jv _ => (intOf jv + 1 - i2).toNat)
      case atStart => exact ⟨b', rfl, ⟨Nat.le_refl _, hi22⟩, rfl, HW3, HK3⟩
      case round =>
        obtain ⟨j2, rfl, hj2, HD, HWj, HKj⟩ := hrel
        clear HW3 HK3
        have hj2n : (j2 : Int) < n := by omega
        have hj20 : (0 : Int) ≤ j2 := by omega
        by_cases hle2 : i2 ≤ j2
        · have hleJ : (i2 : Int) ≤ j2 := by omega
          obtain ⟨xa, hxa⟩ : ∃ x, di[j2]! = x := ⟨_, rfl⟩
          obtain ⟨xb, hxb⟩ : ∃ x, di[a]! = x := ⟨_, rfl⟩
          have hsj : (tms (cs8 di))[j2]? = some di[j2]!.1.1 := tms8_get (by omega)
          have hsp : (tms (cs8 di))[a]? = some di[a]!.1.1 := tms8_get (by omega)
          rw [hxa] at hsj
          rw [hxb] at hsp
          have hlt8 := lt8_cmp xa xb
          obtain ⟨x0, x1, x2, x3, x4, x5, x6, x7, hX⟩ := eight xa.2
          obtain ⟨y0, y1, y2, y3, y4, y5, y6, y7, hY⟩ := eight xb.2
          have hb1 : RowBox g (j2) x0 x1 x2 x3 x4 x5 x6 x7 xa.1.1 wr := row_cells HWj.out (tms8 di) (by rw [tms8_length, hdi]) hsj hX
          have hb2 : RowBox g (a) y0 y1 y2 y3 y4 y5 y6 y7 xb.1.1 wr := row_cells HWj.out (tms8 di) (by rw [tms8_length, hdi]) hsp hY
          have hgl : g < wr.heap.size := (HWj.out.lt g rfl).2
          obtain ⟨r, hr⟩ : ∃ r, -cmpL [x0, x1, x2, x3, x4, x5, x6, x7] [y0, y1, y2, y3, y4, y5, y6, y7] = r := ⟨_, rfl⟩
          have HC : Hid (∀ W, Calls Tryz.prog 65 #[.int .i64 (-1), .agg #[.int .i64 x0, .int .i64 x1, .int .i64 x2, .int .i64 x3, .int .i64 x4, .int .i64 x5, .int .i64 x6, .int .i64 x7, .bool xa.1.1.s, .slice xa.1.1.A xa.1.1.n xa.1.1.c, .slice xa.1.1.B xa.1.1.m xa.1.1.d], .agg #[.int .i64 y0, .int .i64 y1, .int .i64 y2, .int .i64 y3, .int .i64 y4, .int .i64 y5, .int .i64 y6, .int .i64 y7, .bool xb.1.1.s, .slice xb.1.1.A xb.1.1.n xb.1.1.c, .slice xb.1.1.B xb.1.1.m xb.1.1.d]] W fun e w' => e = .returned (.int .i64 r) ∧ Below W.heap.size W w') := fun W => by
            rw [← hr]; exact compare_x _ _ _ _ _ _ _ _ _ _ _ _ _ _ _ _ _ _ _ _ _ _ _ _ _ _ _ _ _ _ _
          rw [hX, hY, hr] at hlt8
          have HBX : Hid (∀ W, Below wr.heap.size wr W → RowBox g (j2) x0 x1 x2 x3 x4 x5 x6 x7 xa.1.1 W ∧ RowBox g (a) y0 y1 y2 y3 y4 y5 y6 y7 xb.1.1 W) := fun W hW => ⟨hb1.below hW hgl, hb2.below hW hgl⟩
          have HLT := Lib.hid hlt8
          have HXI := Lib.hid hxa
          have HXJ := Lib.hid hxb
          clear hX hY hsj hsp hlt8 hxa hxb hr hb1 hb2 hgl
          have hk : Below wr.heap.size wr wr.drew := (Below.refl _ wr).drew
          go_wp2_with fail
          by_cases hlv2 : r < 0
          · have hlt : lt8 di[j2]! di[a]! = true := by rw [HXI.out, HXJ.out]; exact HLT.out.1 hlv2
            have HDN : Hid (scanDown (fun x => !lt8 x di[a]!) di i2 b' = j2) := by
              show _ = _
              rw [HD.out]
              refine down_stop (.inr ?_)
              show (!lt8 di[j2]! di[a]!) = false
              rw [hlt]; rfl
            have HPG : Hid (i2 ≤ j2 → lt8 di[j2]! di[a]! = true) := fun _ => hlt
            clear HXI HXJ HLT HD hlt
            refine wp_region_held_drew (S := (fun W => RowBox g (j2) x0 x1 x2 x3 x4 x5 x6 x7 xa.1.1 W ∧ RowBox g (a) y0 y1 y2 y3 y4 y5 y6 y7 xb.1.1 W)) (by kernel_rfl) ?_ (fun hHeld => ?_)
            · exact HBX.out _ hk
            refine wpAnyH_take (i := 0) (oi := ⟨some 50, _, _, _, _, _⟩) (v := ?_) rfl (by kernel_rfl) (by kernel_rfl) (by kernel_rfl) (fun _ _ _ h => h) (Or.inl ⟨by rfl, ?_⟩) (by assumption) ?_
            rotate_left
            · intro w hSw
              (try dsimp only at hSw)
              unfold RowBox at hSw
              obtain ⟨⟨h0, h1, h2, h3, h4, h5, h6, h7, h8, h9, h10⟩, j0, j1, j2, j3, j4, j5, j6, j7, j8, j9, j10⟩ := hSw
              go_simp
              try with_reducible rfl
            try simp only [Act.put, List.setIfInBounds_toArray, List.set_cons_zero, List.set_cons_succ]
            refine wpAnyH_take (i := 1) (oi := ⟨some 51, _, _, _, _, _⟩) (v := ?_) rfl (by kernel_rfl) (by kernel_rfl) (by kernel_rfl) (fun _ _ _ h => h) (Or.inl ⟨by rfl, ?_⟩) (by assumption) ?_
            rotate_left
            · intro w hSw
              (try dsimp only at hSw)
              unfold RowBox at hSw
              obtain ⟨⟨h0, h1, h2, h3, h4, h5, h6, h7, h8, h9, h10⟩, j0, j1, j2, j3, j4, j5, j6, j7, j8, j9, j10⟩ := hSw
              go_simp
              try with_reducible rfl
            try simp only [Act.put, List.setIfInBounds_toArray, List.set_cons_zero, List.set_cons_succ]
            refine wpAnyH_take (i := 2) (oi := ⟨some 52, _, _, _, _, _⟩) (v := ?_) rfl (by kernel_rfl) (by kernel_rfl) (by kernel_rfl) (fun _ _ _ h => h) (Or.inl ⟨by rfl, ?_⟩) (by assumption) ?_
            rotate_left
            · intro w hSw
              (try dsimp only at hSw)
              unfold RowBox at hSw
              obtain ⟨⟨h0, h1, h2, h3, h4, h5, h6, h7, h8, h9, h10⟩, j0, j1, j2, j3, j4, j5, j6, j7, j8, j9, j10⟩ := hSw
              go_simp
              try with_reducible rfl
            try simp only [Act.put, List.setIfInBounds_toArray, List.set_cons_zero, List.set_cons_succ]
            refine wpAnyH_take (i := 3) (oi := ⟨some 53, _, _, _, _, _⟩) (v := ?_) rfl (by kernel_rfl) (by kernel_rfl) (by kernel_rfl) (fun _ _ _ h => h) (Or.inl ⟨by rfl, ?_⟩) (by assumption) ?_
            rotate_left
            · intro w hSw
              (try dsimp only at hSw)
              unfold RowBox at hSw
              obtain ⟨⟨h0, h1, h2, h3, h4, h5, h6, h7, h8, h9, h10⟩, j0, j1, j2, j3, j4, j5, j6, j7, j8, j9, j10⟩ := hSw
              go_simp
              try with_reducible rfl
            try simp only [Act.put, List.setIfInBounds_toArray, List.set_cons_zero, List.set_cons_succ]
            refine wpAnyH_take (i := 4) (oi := ⟨some 54, _, _, _, _, _⟩) (v := ?_) rfl (by kernel_rfl) (by kernel_rfl) (by kernel_rfl) (fun _ _ _ h => h) (Or.inl ⟨by rfl, ?_⟩) (by assumption) ?_
            rotate_left
            · intro w hSw
              (try dsimp only at hSw)
              unfold RowBox at hSw
              obtain ⟨⟨h0, h1, h2, h3, h4, h5, h6, h7, h8, h9, h10⟩, j0, j1, j2, j3, j4, j5, j6, j7, j8, j9, j10⟩ := hSw
              go_simp
              try with_reducible rfl
            try simp only [Act.put, List.setIfInBounds_toArray, List.set_cons_zero, List.set_cons_succ]
            refine wpAnyH_take (i := 5) (oi := ⟨some 55, _, _, _, _, _⟩) (v := ?_) rfl (by kernel_rfl) (by kernel_rfl) (by kernel_rfl) (fun _ _ _ h => h) (Or.inl ⟨by rfl, ?_⟩) (by assumption) ?_
            rotate_left
            · intro w hSw
              (try dsimp only at hSw)
              unfold RowBox at hSw
              obtain ⟨⟨h0, h1, h2, h3, h4, h5, h6, h7, h8, h9, h10⟩, j0, j1, j2, j3, j4, j5, j6, j7, j8, j9, j10⟩ := hSw
              go_simp
              try with_reducible rfl
            try simp only [Act.put, List.setIfInBounds_toArray, List.set_cons_zero, List.set_cons_succ]
            refine wpAnyH_take (i := 6) (oi := ⟨some 56, _, _, _, _, _⟩) (v := ?_) rfl (by kernel_rfl) (by kernel_rfl) (by kernel_rfl) (fun _ _ _ h => h) (Or.inl ⟨by rfl, ?_⟩) (by assumption) ?_
            rotate_left
            · intro w hSw
              (try dsimp only at hSw)
              unfold RowBox at hSw
              obtain ⟨⟨h0, h1, h2, h3, h4, h5, h6, h7, h8, h9, h10⟩, j0, j1, j2, j3, j4, j5, j6, j7, j8, j9, j10⟩ := hSw
              go_simp
              try with_reducible rfl
            try simp only [Act.put, List.setIfInBounds_toArray, List.set_cons_zero, List.set_cons_succ]
            refine wpAnyH_take (i := 7) (oi := ⟨some 57, _, _, _, _, _⟩) (v := ?_) rfl (by kernel_rfl) (by kernel_rfl) (by kernel_rfl) (fun _ _ _ h => h) (Or.inl ⟨by rfl, ?_⟩) (by assumption) ?_
            rotate_left
            · intro w hSw
              (try dsimp only at hSw)
              unfold RowBox at hSw
              obtain ⟨⟨h0, h1, h2, h3, h4, h5, h6, h7, h8, h9, h10⟩, j0, j1, j2, j3, j4, j5, j6, j7, j8, j9, j10⟩ := hSw
              go_simp
              try with_reducible rfl
            try simp only [Act.put, List.setIfInBounds_toArray, List.set_cons_zero, List.set_cons_succ]
            refine wpAnyH_take (i := 8) (oi := ⟨some 58, _, _, _, _, _⟩) (v := ?_) rfl (by kernel_rfl) (by kernel_rfl) (by kernel_rfl) (fun _ _ _ h => h) (Or.inl ⟨by rfl, ?_⟩) (by assumption) ?_
            rotate_left
            · intro w hSw
              (try dsimp only at hSw)
              unfold RowBox at hSw
              obtain ⟨⟨h0, h1, h2, h3, h4, h5, h6, h7, h8, h9, h10⟩, j0, j1, j2, j3, j4, j5, j6, j7, j8, j9, j10⟩ := hSw
              go_simp
              try with_reducible rfl
            try simp only [Act.put, List.setIfInBounds_toArray, List.set_cons_zero, List.set_cons_succ]
            refine wpAnyH_take (i := 9) (oi := ⟨some 59, _, _, _, _, _⟩) (v := ?_) rfl (by kernel_rfl) (by kernel_rfl) (by kernel_rfl) (fun _ _ _ h => h) (Or.inl ⟨by rfl, ?_⟩) (by assumption) ?_
            rotate_left
            · intro w hSw
              (try dsimp only at hSw)
              unfold RowBox at hSw
              obtain ⟨⟨h0, h1, h2, h3, h4, h5, h6, h7, h8, h9, h10⟩, j0, j1, j2, j3, j4, j5, j6, j7, j8, j9, j10⟩ := hSw
              go_simp
              try with_reducible rfl
            try simp only [Act.put, List.setIfInBounds_toArray, List.set_cons_zero, List.set_cons_succ]
            refine wpAnyH_take (i := 10) (oi := ⟨some 60, _, _, _, _, _⟩) (v := ?_) rfl (by kernel_rfl) (by kernel_rfl) (by kernel_rfl) (fun _ _ _ h => h) (Or.inl ⟨by rfl, ?_⟩) (by assumption) ?_
            rotate_left
            · intro w hSw
              (try dsimp only at hSw)
              unfold RowBox at hSw
              obtain ⟨⟨h0, h1, h2, h3, h4, h5, h6, h7, h8, h9, h10⟩, j0, j1, j2, j3, j4, j5, j6, j7, j8, j9, j10⟩ := hSw
              go_simp
              try with_reducible rfl
            try simp only [Act.put, List.setIfInBounds_toArray, List.set_cons_zero, List.set_cons_succ]
            refine wpAnyH_take (i := 11) (oi := ⟨some 61, _, _, _, _, _⟩) (v := ?_) rfl (by kernel_rfl) (by kernel_rfl) (by kernel_rfl) (fun _ _ _ h => h) (Or.inl ⟨by rfl, ?_⟩) (by assumption) ?_
            rotate_left
            · intro w hSw
              (try dsimp only at hSw)
              unfold RowBox at hSw
              obtain ⟨⟨h0, h1, h2, h3, h4, h5, h6, h7, h8, h9, h10⟩, j0, j1, j2, j3, j4, j5, j6, j7, j8, j9, j10⟩ := hSw
              go_simp
              try with_reducible rfl
            try simp only [Act.put, List.setIfInBounds_toArray, List.set_cons_zero, List.set_cons_succ]
            refine wpAnyH_take (i := 12) (oi := ⟨some 62, _, _, _, _, _⟩) (v := ?_) rfl (by kernel_rfl) (by kernel_rfl) (by kernel_rfl) (fun _ _ _ h => h) (Or.inl ⟨by rfl, ?_⟩) (by assumption) ?_
            rotate_left
            · intro w hSw
              (try dsimp only at hSw)
              unfold RowBox at hSw
              obtain ⟨⟨h0, h1, h2, h3, h4, h5, h6, h7, h8, h9, h10⟩, j0, j1, j2, j3, j4, j5, j6, j7, j8, j9, j10⟩ := hSw
              go_simp
              try with_reducible rfl
            try simp only [Act.put, List.setIfInBounds_toArray, List.set_cons_zero, List.set_cons_succ]
            refine wpAnyH_ready (rs := [13]) (by kernel_rfl) (by simp) ?_
            refine AllReadyH.cons (o := ⟨some 63, _, _, _, _, _⟩) rfl (fun K hK => ?_) AllReadyH.nil
            go_simp
            go_at_call 65
            refine (HC.out _).mono ?_
            rintro e w3 ⟨rfl, e3⟩
            replace hk := nextB hk e3
            go_wp2_with fail
            refine hK.out _ _ (HBX.out _ hk) (fun hHeld => ?_)
            clear hK K
            try simp only [Act.put, List.setIfInBounds_toArray, List.set_cons_zero, List.set_cons_succ]
            refine wpAnyH_take (i := 14) (oi := ⟨some 64, _, _, _, _, _⟩) (v := ?_) rfl (by kernel_rfl) (by kernel_rfl) (by kernel_rfl) (fun _ _ _ h => h) (Or.inl ⟨by rfl, ?_⟩) (by assumption) ?_
            rotate_left
            · intro w hSw
              (try dsimp only at hSw)
              unfold RowBox at hSw
              obtain ⟨⟨h0, h1, h2, h3, h4, h5, h6, h7, h8, h9, h10⟩, j0, j1, j2, j3, j4, j5, j6, j7, j8, j9, j10⟩ := hSw
              go_simp
              try with_reducible rfl
            try simp only [Act.put, List.setIfInBounds_toArray, List.set_cons_zero, List.set_cons_succ]
            refine wpAnyH_take (i := 15) (oi := ⟨some 65, _, _, _, _, _⟩) (v := ?_) rfl (by kernel_rfl) (by kernel_rfl) (by kernel_rfl) (fun _ _ _ h => h) (Or.inl ⟨by rfl, ?_⟩) (by assumption) ?_
            rotate_left
            · intro w hSw
              (try dsimp only at hSw)
              unfold RowBox at hSw
              obtain ⟨⟨h0, h1, h2, h3, h4, h5, h6, h7, h8, h9, h10⟩, j0, j1, j2, j3, j4, j5, j6, j7, j8, j9, j10⟩ := hSw
              go_simp
              try with_reducible rfl
            try simp only [Act.put, List.setIfInBounds_toArray, List.set_cons_zero, List.set_cons_succ]
            refine wpAnyH_take (i := 16) (oi := ⟨some 66, _, _, _, _, _⟩) (v := ?_) rfl (by kernel_rfl) (by kernel_rfl) (by kernel_rfl) (fun _ _ _ h => h) (Or.inl ⟨by rfl, ?_⟩) (by assumption) ?_
            rotate_left
            · intro w hSw
              (try dsimp only at hSw)
              unfold RowBox at hSw
              obtain ⟨⟨h0, h1, h2, h3, h4, h5, h6, h7, h8, h9, h10⟩, j0, j1, j2, j3, j4, j5, j6, j7, j8, j9, j10⟩ := hSw
              go_simp
              try with_reducible rfl
            try simp only [Act.put, List.setIfInBounds_toArray, List.set_cons_zero, List.set_cons_succ]
            refine wpAnyH_done (by kernel_rfl) ?_ _
            have HW4 := Lib.hid (ownsRow_below HWj.out hk)
            have HK4 := Lib.hid (HKj.out.trans (Keeps.below hk))
            clear hk HBX HC hHeld HWj HKj
            go_wp2
            go_meet
            exact ⟨j2, rfl, hj2, HDN, HPG, HW4, HK4⟩
          · have hdf2 : decide (r < 0) = false := decide_eq_false (by omega)
            have hj21 : 1 ≤ j2 := by omega
            have HDN : Hid (scanDown (fun x => !lt8 x di[a]!) di i2 b' = scanDown (fun x => !lt8 x di[a]!) di i2 (j2 - 1)) := by
              show _ = _
              rw [HD.out]
              have hl : (!lt8 di[j2]! di[a]!) = true := by
                rw [HXI.out, HXJ.out]
                cases hq : lt8 xa xb with
                | false => rfl
                | true => exact absurd (HLT.out.2 hq) hlv2
              obtain ⟨j3, rfl⟩ : ∃ j3, j2 = j3 + 1 := ⟨j2 - 1, by omega⟩
              exact down_more hle2 hl
            clear HXI HXJ HLT HD
            refine wp_region_held_drew (S := (fun W => RowBox g (j2) x0 x1 x2 x3 x4 x5 x6 x7 xa.1.1 W ∧ RowBox g (a) y0 y1 y2 y3 y4 y5 y6 y7 xb.1.1 W)) (by kernel_rfl) ?_ (fun hHeld => ?_)
            · exact HBX.out _ hk
            refine wpAnyH_take (i := 0) (oi := ⟨some 50, _, _, _, _, _⟩) (v := ?_) rfl (by kernel_rfl) (by kernel_rfl) (by kernel_rfl) (fun _ _ _ h => h) (Or.inl ⟨by rfl, ?_⟩) (by assumption) ?_
            rotate_left
            · intro w hSw
              (try dsimp only at hSw)
              unfold RowBox at hSw
              obtain ⟨⟨h0, h1, h2, h3, h4, h5, h6, h7, h8, h9, h10⟩, j0, j1, j2, j3, j4, j5, j6, j7, j8, j9, j10⟩ := hSw
              go_simp
              try with_reducible rfl
            try simp only [Act.put, List.setIfInBounds_toArray, List.set_cons_zero, List.set_cons_succ]
            refine wpAnyH_take (i := 1) (oi := ⟨some 51, _, _, _, _, _⟩) (v := ?_) rfl (by kernel_rfl) (by kernel_rfl) (by kernel_rfl) (fun _ _ _ h => h) (Or.inl ⟨by rfl, ?_⟩) (by assumption) ?_
            rotate_left
            · intro w hSw
              (try dsimp only at hSw)
              unfold RowBox at hSw
              obtain ⟨⟨h0, h1, h2, h3, h4, h5, h6, h7, h8, h9, h10⟩, j0, j1, j2, j3, j4, j5, j6, j7, j8, j9, j10⟩ := hSw
              go_simp
              try with_reducible rfl
            try simp only [Act.put, List.setIfInBounds_toArray, List.set_cons_zero, List.set_cons_succ]
            refine wpAnyH_take (i := 2) (oi := ⟨some 52, _, _, _, _, _⟩) (v := ?_) rfl (by kernel_rfl) (by kernel_rfl) (by kernel_rfl) (fun _ _ _ h => h) (Or.inl ⟨by rfl, ?_⟩) (by assumption) ?_
            rotate_left
            · intro w hSw
              (try dsimp only at hSw)
              unfold RowBox at hSw
              obtain ⟨⟨h0, h1, h2, h3, h4, h5, h6, h7, h8, h9, h10⟩, j0, j1, j2, j3, j4, j5, j6, j7, j8, j9, j10⟩ := hSw
              go_simp
              try with_reducible rfl
            try simp only [Act.put, List.setIfInBounds_toArray, List.set_cons_zero, List.set_cons_succ]
            refine wpAnyH_take (i := 3) (oi := ⟨some 53, _, _, _, _, _⟩) (v := ?_) rfl (by kernel_rfl) (by kernel_rfl) (by kernel_rfl) (fun _ _ _ h => h) (Or.inl ⟨by rfl, ?_⟩) (by assumption) ?_
            rotate_left
            · intro w hSw
              (try dsimp only at hSw)
              unfold RowBox at hSw
              obtain ⟨⟨h0, h1, h2, h3, h4, h5, h6, h7, h8, h9, h10⟩, j0, j1, j2, j3, j4, j5, j6, j7, j8, j9, j10⟩ := hSw
              go_simp
              try with_reducible rfl
            try simp only [Act.put, List.setIfInBounds_toArray, List.set_cons_zero, List.set_cons_succ]
            refine wpAnyH_take (i := 4) (oi := ⟨some 54, _, _, _, _, _⟩) (v := ?_) rfl (by kernel_rfl) (by kernel_rfl) (by kernel_rfl) (fun _ _ _ h => h) (Or.inl ⟨by rfl, ?_⟩) (by assumption) ?_
            rotate_left
            · intro w hSw
              (try dsimp only at hSw)
              unfold RowBox at hSw
              obtain ⟨⟨h0, h1, h2, h3, h4, h5, h6, h7, h8, h9, h10⟩, j0, j1, j2, j3, j4, j5, j6, j7, j8, j9, j10⟩ := hSw
              go_simp
              try with_reducible rfl
            try simp only [Act.put, List.setIfInBounds_toArray, List.set_cons_zero, List.set_cons_succ]
            refine wpAnyH_take (i := 5) (oi := ⟨some 55, _, _, _, _, _⟩) (v := ?_) rfl (by kernel_rfl) (by kernel_rfl) (by kernel_rfl) (fun _ _ _ h => h) (Or.inl ⟨by rfl, ?_⟩) (by assumption) ?_
            rotate_left
            · intro w hSw
              (try dsimp only at hSw)
              unfold RowBox at hSw
              obtain ⟨⟨h0, h1, h2, h3, h4, h5, h6, h7, h8, h9, h10⟩, j0, j1, j2, j3, j4, j5, j6, j7, j8, j9, j10⟩ := hSw
              go_simp
              try with_reducible rfl
            try simp only [Act.put, List.setIfInBounds_toArray, List.set_cons_zero, List.set_cons_succ]
            refine wpAnyH_take (i := 6) (oi := ⟨some 56, _, _, _, _, _⟩) (v := ?_) rfl (by kernel_rfl) (by kernel_rfl) (by kernel_rfl) (fun _ _ _ h => h) (Or.inl ⟨by rfl, ?_⟩) (by assumption) ?_
            rotate_left
            · intro w hSw
              (try dsimp only at hSw)
              unfold RowBox at hSw
              obtain ⟨⟨h0, h1, h2, h3, h4, h5, h6, h7, h8, h9, h10⟩, j0, j1, j2, j3, j4, j5, j6, j7, j8, j9, j10⟩ := hSw
              go_simp
              try with_reducible rfl
            try simp only [Act.put, List.setIfInBounds_toArray, List.set_cons_zero, List.set_cons_succ]
            refine wpAnyH_take (i := 7) (oi := ⟨some 57, _, _, _, _, _⟩) (v := ?_) rfl (by kernel_rfl) (by kernel_rfl) (by kernel_rfl) (fun _ _ _ h => h) (Or.inl ⟨by rfl, ?_⟩) (by assumption) ?_
            rotate_left
            · intro w hSw
              (try dsimp only at hSw)
              unfold RowBox at hSw
              obtain ⟨⟨h0, h1, h2, h3, h4, h5, h6, h7, h8, h9, h10⟩, j0, j1, j2, j3, j4, j5, j6, j7, j8, j9, j10⟩ := hSw
              go_simp
              try with_reducible rfl
            try simp only [Act.put, List.setIfInBounds_toArray, List.set_cons_zero, List.set_cons_succ]
            refine wpAnyH_take (i := 8) (oi := ⟨some 58, _, _, _, _, _⟩) (v := ?_) rfl (by kernel_rfl) (by kernel_rfl) (by kernel_rfl) (fun _ _ _ h => h) (Or.inl ⟨by rfl, ?_⟩) (by assumption) ?_
            rotate_left
            · intro w hSw
              (try dsimp only at hSw)
              unfold RowBox at hSw
              obtain ⟨⟨h0, h1, h2, h3, h4, h5, h6, h7, h8, h9, h10⟩, j0, j1, j2, j3, j4, j5, j6, j7, j8, j9, j10⟩ := hSw
              go_simp
              try with_reducible rfl
            try simp only [Act.put, List.setIfInBounds_toArray, List.set_cons_zero, List.set_cons_succ]
            refine wpAnyH_take (i := 9) (oi := ⟨some 59, _, _, _, _, _⟩) (v := ?_) rfl (by kernel_rfl) (by kernel_rfl) (by kernel_rfl) (fun _ _ _ h => h) (Or.inl ⟨by rfl, ?_⟩) (by assumption) ?_
            rotate_left
            · intro w hSw
              (try dsimp only at hSw)
              unfold RowBox at hSw
              obtain ⟨⟨h0, h1, h2, h3, h4, h5, h6, h7, h8, h9, h10⟩, j0, j1, j2, j3, j4, j5, j6, j7, j8, j9, j10⟩ := hSw
              go_simp
              try with_reducible rfl
            try simp only [Act.put, List.setIfInBounds_toArray, List.set_cons_zero, List.set_cons_succ]
            refine wpAnyH_take (i := 10) (oi := ⟨some 60, _, _, _, _, _⟩) (v := ?_) rfl (by kernel_rfl) (by kernel_rfl) (by kernel_rfl) (fun _ _ _ h => h) (Or.inl ⟨by rfl, ?_⟩) (by assumption) ?_
            rotate_left
            · intro w hSw
              (try dsimp only at hSw)
              unfold RowBox at hSw
              obtain ⟨⟨h0, h1, h2, h3, h4, h5, h6, h7, h8, h9, h10⟩, j0, j1, j2, j3, j4, j5, j6, j7, j8, j9, j10⟩ := hSw
              go_simp
              try with_reducible rfl
            try simp only [Act.put, List.setIfInBounds_toArray, List.set_cons_zero, List.set_cons_succ]
            refine wpAnyH_take (i := 11) (oi := ⟨some 61, _, _, _, _, _⟩) (v := ?_) rfl (by kernel_rfl) (by kernel_rfl) (by kernel_rfl) (fun _ _ _ h => h) (Or.inl ⟨by rfl, ?_⟩) (by assumption) ?_
            rotate_left
            · intro w hSw
              (try dsimp only at hSw)
              unfold RowBox at hSw
              obtain ⟨⟨h0, h1, h2, h3, h4, h5, h6, h7, h8, h9, h10⟩, j0, j1, j2, j3, j4, j5, j6, j7, j8, j9, j10⟩ := hSw
              go_simp
              try with_reducible rfl
            try simp only [Act.put, List.setIfInBounds_toArray, List.set_cons_zero, List.set_cons_succ]
            refine wpAnyH_take (i := 12) (oi := ⟨some 62, _, _, _, _, _⟩) (v := ?_) rfl (by kernel_rfl) (by kernel_rfl) (by kernel_rfl) (fun _ _ _ h => h) (Or.inl ⟨by rfl, ?_⟩) (by assumption) ?_
            rotate_left
            · intro w hSw
              (try dsimp only at hSw)
              unfold RowBox at hSw
              obtain ⟨⟨h0, h1, h2, h3, h4, h5, h6, h7, h8, h9, h10⟩, j0, j1, j2, j3, j4, j5, j6, j7, j8, j9, j10⟩ := hSw
              go_simp
              try with_reducible rfl
            try simp only [Act.put, List.setIfInBounds_toArray, List.set_cons_zero, List.set_cons_succ]
            refine wpAnyH_ready (rs := [13]) (by kernel_rfl) (by simp) ?_
            refine AllReadyH.cons (o := ⟨some 63, _, _, _, _, _⟩) rfl (fun K hK => ?_) AllReadyH.nil
            go_simp
            go_at_call 65
            refine (HC.out _).mono ?_
            rintro e w3 ⟨rfl, e3⟩
            replace hk := nextB hk e3
            go_wp2_with fail
            refine hK.out _ _ (HBX.out _ hk) (fun hHeld => ?_)
            clear hK K
            try simp only [Act.put, List.setIfInBounds_toArray, List.set_cons_zero, List.set_cons_succ]
            refine wpAnyH_take (i := 14) (oi := ⟨some 64, _, _, _, _, _⟩) (v := ?_) rfl (by kernel_rfl) (by kernel_rfl) (by kernel_rfl) (fun _ _ _ h => h) (Or.inl ⟨by rfl, ?_⟩) (by assumption) ?_
            rotate_left
            · intro w hSw
              (try dsimp only at hSw)
              unfold RowBox at hSw
              obtain ⟨⟨h0, h1, h2, h3, h4, h5, h6, h7, h8, h9, h10⟩, j0, j1, j2, j3, j4, j5, j6, j7, j8, j9, j10⟩ := hSw
              go_simp
              try with_reducible rfl
            try simp only [Act.put, List.setIfInBounds_toArray, List.set_cons_zero, List.set_cons_succ]
            refine wpAnyH_take (i := 15) (oi := ⟨some 65, _, _, _, _, _⟩) (v := ?_) rfl (by kernel_rfl) (by kernel_rfl) (by kernel_rfl) (fun _ _ _ h => h) (Or.inl ⟨by rfl, ?_⟩) (by assumption) ?_
            rotate_left
            · intro w hSw
              (try dsimp only at hSw)
              unfold RowBox at hSw
              obtain ⟨⟨h0, h1, h2, h3, h4, h5, h6, h7, h8, h9, h10⟩, j0, j1, j2, j3, j4, j5, j6, j7, j8, j9, j10⟩ := hSw
              go_simp
              try with_reducible rfl
            try simp only [Act.put, List.setIfInBounds_toArray, List.set_cons_zero, List.set_cons_succ]
            refine wpAnyH_take (i := 16) (oi := ⟨some 66, _, _, _, _, _⟩) (v := ?_) rfl (by kernel_rfl) (by kernel_rfl) (by kernel_rfl) (fun _ _ _ h => h) (Or.inl ⟨by rfl, ?_⟩) (by assumption) ?_
            rotate_left
            · intro w hSw
              (try dsimp only at hSw)
              unfold RowBox at hSw
              obtain ⟨⟨h0, h1, h2, h3, h4, h5, h6, h7, h8, h9, h10⟩, j0, j1, j2, j3, j4, j5, j6, j7, j8, j9, j10⟩ := hSw
              go_simp
              try with_reducible rfl
            try simp only [Act.put, List.setIfInBounds_toArray, List.set_cons_zero, List.set_cons_succ]
            refine wpAnyH_done (by kernel_rfl) ?_ _
            have HW4 := Lib.hid (ownsRow_below HWj.out hk)
            have HK4 := Lib.hid (HKj.out.trans (Keeps.below hk))
            clear hk HBX HC hHeld HWj HKj
            go_wp2
            go_roundw
            case rel => exact ⟨j2 - 1, by go_num, by omega, HDN, HW4, HK4⟩
            case measure => simp [intOf] <;> omega
        · have hleJ : ¬ (i2 : Int) ≤ j2 := by omega
          have HDN : Hid (scanDown (fun x => !lt8 x di[a]!) di i2 b' = j2) := by show _ = _; rw [HD.out]; exact down_stop (.inl hle2)
          have HPG : Hid (i2 ≤ j2 → lt8 di[j2]! di[a]! = true) := fun h => absurd h hle2
          have hk : Below wr.heap.size wr wr.drew := (Below.refl _ wr).drew
          have HW4 := Lib.hid (ownsRow_below HWj.out hk)
          have HK4 := Lib.hid (HKj.out.trans (Keeps.below hk))
          go_wp2_with fail
          refine wp_region_held_drew (S := (fun _ => True)) (by kernel_rfl) ?_ (fun hHeld => ?_)
          · trivial
          refine wpAnyH_take (i := 0) (oi := ⟨some 50, _, _, _, _, _⟩) (v := ?_) rfl (by kernel_rfl) (by kernel_rfl) (by kernel_rfl) (fun _ _ _ h => h) (Or.inl ⟨by rfl, ?_⟩) (by assumption) ?_
          rotate_left
          · intro w hSw
            (try dsimp only at hSw)
            go_simp
            try with_reducible rfl
          try simp only [Act.put, List.setIfInBounds_toArray, List.set_cons_zero, List.set_cons_succ]
          refine wpAnyH_take (i := 1) (oi := ⟨some 51, _, _, _, _, _⟩) (v := ?_) rfl (by kernel_rfl) (by kernel_rfl) (by kernel_rfl) (fun _ _ _ h => h) (Or.inl ⟨by rfl, ?_⟩) (by assumption) ?_
          rotate_left
          · intro w hSw
            (try dsimp only at hSw)
            go_simp
            try with_reducible rfl
          try simp only [Act.put, List.setIfInBounds_toArray, List.set_cons_zero, List.set_cons_succ]
          refine wpAnyH_take (i := 2) (oi := ⟨some 52, _, _, _, _, _⟩) (v := ?_) rfl (by kernel_rfl) (by kernel_rfl) (by kernel_rfl) (fun _ _ _ h => h) (Or.inl ⟨by rfl, ?_⟩) (by assumption) ?_
          rotate_left
          · intro w hSw
            (try dsimp only at hSw)
            go_simp
            try with_reducible rfl
          try simp only [Act.put, List.setIfInBounds_toArray, List.set_cons_zero, List.set_cons_succ]
          refine wpAnyH_take (i := 3) (oi := ⟨some 53, _, _, _, _, _⟩) (v := ?_) rfl (by kernel_rfl) (by kernel_rfl) (by kernel_rfl) (fun _ _ _ h => h) (Or.inl ⟨by rfl, ?_⟩) (by assumption) ?_
          rotate_left
          · intro w hSw
            (try dsimp only at hSw)
            go_simp
            try with_reducible rfl
          try simp only [Act.put, List.setIfInBounds_toArray, List.set_cons_zero, List.set_cons_succ]
          refine wpAnyH_take (i := 4) (oi := ⟨some 54, _, _, _, _, _⟩) (v := undef) rfl (by kernel_rfl) (by kernel_rfl) (by kernel_rfl) (fun _ _ _ h => h) (Or.inr ⟨by rfl, rfl⟩) (by assumption) ?_
          try simp only [Act.put, List.setIfInBounds_toArray, List.set_cons_zero, List.set_cons_succ]
          refine wpAnyH_take (i := 5) (oi := ⟨some 55, _, _, _, _, _⟩) (v := undef) rfl (by kernel_rfl) (by kernel_rfl) (by kernel_rfl) (fun _ _ _ h => h) (Or.inr ⟨by rfl, rfl⟩) (by assumption) ?_
          try simp only [Act.put, List.setIfInBounds_toArray, List.set_cons_zero, List.set_cons_succ]
          refine wpAnyH_take (i := 6) (oi := ⟨some 56, _, _, _, _, _⟩) (v := undef) rfl (by kernel_rfl) (by kernel_rfl) (by kernel_rfl) (fun _ _ _ h => h) (Or.inr ⟨by rfl, rfl⟩) (by assumption) ?_
          try simp only [Act.put, List.setIfInBounds_toArray, List.set_cons_zero, List.set_cons_succ]
          refine wpAnyH_take (i := 7) (oi := ⟨some 57, _, _, _, _, _⟩) (v := undef) rfl (by kernel_rfl) (by kernel_rfl) (by kernel_rfl) (fun _ _ _ h => h) (Or.inr ⟨by rfl, rfl⟩) (by assumption) ?_
          try simp only [Act.put, List.setIfInBounds_toArray, List.set_cons_zero, List.set_cons_succ]
          refine wpAnyH_take (i := 8) (oi := ⟨some 58, _, _, _, _, _⟩) (v := undef) rfl (by kernel_rfl) (by kernel_rfl) (by kernel_rfl) (fun _ _ _ h => h) (Or.inr ⟨by rfl, rfl⟩) (by assumption) ?_
          try simp only [Act.put, List.setIfInBounds_toArray, List.set_cons_zero, List.set_cons_succ]
          refine wpAnyH_take (i := 9) (oi := ⟨some 59, _, _, _, _, _⟩) (v := undef) rfl (by kernel_rfl) (by kernel_rfl) (by kernel_rfl) (fun _ _ _ h => h) (Or.inr ⟨by rfl, rfl⟩) (by assumption) ?_
          try simp only [Act.put, List.setIfInBounds_toArray, List.set_cons_zero, List.set_cons_succ]
          refine wpAnyH_take (i := 10) (oi := ⟨some 60, _, _, _, _, _⟩) (v := undef) rfl (by kernel_rfl) (by kernel_rfl) (by kernel_rfl) (fun _ _ _ h => h) (Or.inr ⟨by rfl, rfl⟩) (by assumption) ?_
          try simp only [Act.put, List.setIfInBounds_toArray, List.set_cons_zero, List.set_cons_succ]
          refine wpAnyH_take (i := 11) (oi := ⟨some 61, _, _, _, _, _⟩) (v := undef) rfl (by kernel_rfl) (by kernel_rfl) (by kernel_rfl) (fun _ _ _ h => h) (Or.inr ⟨by rfl, rfl⟩) (by assumption) ?_
          try simp only [Act.put, List.setIfInBounds_toArray, List.set_cons_zero, List.set_cons_succ]
          refine wpAnyH_take (i := 12) (oi := ⟨some 62, _, _, _, _, _⟩) (v := undef) rfl (by kernel_rfl) (by kernel_rfl) (by kernel_rfl) (fun _ _ _ h => h) (Or.inr ⟨by rfl, rfl⟩) (by assumption) ?_
          try simp only [Act.put, List.setIfInBounds_toArray, List.set_cons_zero, List.set_cons_succ]
          refine wpAnyH_take (i := 13) (oi := ⟨some 63, _, _, _, _, _⟩) (v := undef) rfl (by kernel_rfl) (by kernel_rfl) (by kernel_rfl) (fun _ _ _ h => h) (Or.inr ⟨by rfl, rfl⟩) (by assumption) ?_
          try simp only [Act.put, List.setIfInBounds_toArray, List.set_cons_zero, List.set_cons_succ]
          refine wpAnyH_take (i := 14) (oi := ⟨some 64, _, _, _, _, _⟩) (v := undef) rfl (by kernel_rfl) (by kernel_rfl) (by kernel_rfl) (fun _ _ _ h => h) (Or.inr ⟨by rfl, rfl⟩) (by assumption) ?_
          try simp only [Act.put, List.setIfInBounds_toArray, List.set_cons_zero, List.set_cons_succ]
          refine wpAnyH_take (i := 15) (oi := ⟨some 65, _, _, _, _, _⟩) (v := undef) rfl (by kernel_rfl) (by kernel_rfl) (by kernel_rfl) (fun _ _ _ h => h) (Or.inr ⟨by rfl, rfl⟩) (by assumption) ?_
          try simp only [Act.put, List.setIfInBounds_toArray, List.set_cons_zero, List.set_cons_succ]
          refine wpAnyH_take (i := 16) (oi := ⟨some 66, _, _, _, _, _⟩) (v := ?_) rfl (by kernel_rfl) (by kernel_rfl) (by kernel_rfl) (fun _ _ _ h => h) (Or.inl ⟨by rfl, ?_⟩) (by assumption) ?_
          rotate_left
          · intro w hSw
            (try dsimp only at hSw)
            go_simp
            try with_reducible rfl
          try simp only [Act.put, List.setIfInBounds_toArray, List.set_cons_zero, List.set_cons_succ]
          refine wpAnyH_done (by kernel_rfl) ?_ _
          clear hk HD hHeld HWj HKj
          go_wp2
          go_meet
          exact ⟨j2, rfl, hj2, HDN, HPG, HW4, HK4⟩
    case rest =>
      obtain ⟨j2, rfl, hj2, HDN, HPG, HW4, HK4⟩ := hcut
      clear HW3 HK3
      have hj2n : (j2 : Int) < n := by omega
      have hj20 : (0 : Int) ≤ j2 := by omega
      have hne : i2 ≤ j2 → i2 ≠ j2 := fun h e => by
        subst e
        have h1 := HPF.out (by omega)
        rw [HPG.out h] at h1
        cases h1
      clear HPF HPG
      by_cases hgt2 : j2 < i2
      · have hgt : (j2 : Int) < i2 := by omega
        have hRR : Hid (R = (j2, true, swp di j2 a)) := by
          show _ = _
          rw [← HR.out]
          have h1 := HST.out; have h2 := HDN.out
          rw [← HBB.out, ← HIA.out] at h1
          rw [← HBB.out] at h2
          exact part_ge HDD.out h1 h2 (by omega)
        by_cases hja : a = j2
        · subst hja
          have hsj : (tms (cs8 di))[a]? = some di[a]!.1.1 := tms8_get (by omega)
          obtain ⟨q2, k2⟩ := swap_row (i := a) (j := a) HW4.out hdi (by omega) (by omega)
          obtain ⟨xj, hxj⟩ : ∃ x, di[a]! = x := ⟨_, rfl⟩
          rw [hxj] at hsj q2 k2
          obtain ⟨x0, x1, x2, x3, x4, x5, x6, x7, hX⟩ := eight xj.2
          obtain ⟨c0, c1, c2, c3, c4, c5, c6, c7, c8, c9, c10⟩ := row_cells HW4.out (tms8 di) (by rw [tms8_length, hdi]) hsj hX
          have exj : xj.1.1.cells = [.int .i64 x0, .int .i64 x1, .int .i64 x2, .int .i64 x3, .int .i64 x4, .int .i64 x5, .int .i64 x6, .int .i64 x7, .bool xj.1.1.s, .slice xj.1.1.A xj.1.1.n xj.1.1.c, .slice xj.1.1.B xj.1.1.m xj.1.1.d] := by unfold Tm.cells; rw [hX]; rfl
          rw [exj] at q2 k2
          simp only [World.setCells, Nat.add_assoc, Nat.reduceAdd] at q2 k2
          have HQ := Lib.hid q2
          have HKN := Lib.hid (HK4.out.trans k2)
          have z0 := HW4.out.frozenAt ((a) * 11)
          have z1 := HW4.out.frozenAt ((a) * 11 + 1)
          have z2 := HW4.out.frozenAt ((a) * 11 + 2)
          have z3 := HW4.out.frozenAt ((a) * 11 + 3)
          have z4 := HW4.out.frozenAt ((a) * 11 + 4)
          have z5 := HW4.out.frozenAt ((a) * 11 + 5)
          have z6 := HW4.out.frozenAt ((a) * 11 + 6)
          have z7 := HW4.out.frozenAt ((a) * 11 + 7)
          have z8 := HW4.out.frozenAt ((a) * 11 + 8)
          have z9 := HW4.out.frozenAt ((a) * 11 + 9)
          have z10 := HW4.out.frozenAt ((a) * 11 + 10)
          have hsz : (swp di (a) (a)).size = n := by rw [size_swp, hdi]
          clear q2 k2 exj hX hsj hxj
          go_wp2_with fail
          go_region
          clear c0 z0 c1 z1 c2 z2 c3 z3 c4 z4 c5 z5 c6 z6 c7 z7 c8 z8 c9 z9 c10 z10
          go_wp2
          exact bodyPost_ret (v := .tuple #[.int .i64 a, .bool true]) (by simp [results, Tryz.results118, go_sem]) rfl ⟨by rw [hRR.out], by rw [hRR.out]; exact World.ownsRow.drew HQ.out, Keeps.drewn HKN.out⟩
        · have hja2 : j2 ≠ a := fun e => hja e.symm
          have hsj : (tms (cs8 di))[j2]? = some di[j2]!.1.1 := tms8_get (by omega)
          have hsp : (tms (cs8 di))[a]? = some di[a]!.1.1 := tms8_get (by omega)
          obtain ⟨q2, k2⟩ := swap_row (i := j2) (j := a) HW4.out hdi (by omega) (by omega)
          obtain ⟨xj, hxj⟩ : ∃ x, di[j2]! = x := ⟨_, rfl⟩
          obtain ⟨xp, hxp⟩ : ∃ x, di[a]! = x := ⟨_, rfl⟩
          rw [hxj] at hsj q2 k2
          rw [hxp] at hsp q2 k2
          obtain ⟨x0, x1, x2, x3, x4, x5, x6, x7, hX⟩ := eight xj.2
          obtain ⟨y0, y1, y2, y3, y4, y5, y6, y7, hY⟩ := eight xp.2
          obtain ⟨c0, c1, c2, c3, c4, c5, c6, c7, c8, c9, c10⟩ := row_cells HW4.out (tms8 di) (by rw [tms8_length, hdi]) hsj hX
          obtain ⟨d0, d1, d2, d3, d4, d5, d6, d7, d8, d9, d10⟩ := row_cells HW4.out (tms8 di) (by rw [tms8_length, hdi]) hsp hY
          have exj : xj.1.1.cells = [.int .i64 x0, .int .i64 x1, .int .i64 x2, .int .i64 x3, .int .i64 x4, .int .i64 x5, .int .i64 x6, .int .i64 x7, .bool xj.1.1.s, .slice xj.1.1.A xj.1.1.n xj.1.1.c, .slice xj.1.1.B xj.1.1.m xj.1.1.d] := by unfold Tm.cells; rw [hX]; rfl
          have exp : xp.1.1.cells = [.int .i64 y0, .int .i64 y1, .int .i64 y2, .int .i64 y3, .int .i64 y4, .int .i64 y5, .int .i64 y6, .int .i64 y7, .bool xp.1.1.s, .slice xp.1.1.A xp.1.1.n xp.1.1.c, .slice xp.1.1.B xp.1.1.m xp.1.1.d] := by unfold Tm.cells; rw [hY]; rfl
          rw [exj, exp] at q2 k2
          simp only [World.setCells, Nat.add_assoc, Nat.reduceAdd] at q2 k2
          have HQ := Lib.hid q2
          have HKN := Lib.hid (HK4.out.trans k2)
          have z0 := HW4.out.frozenAt ((j2) * 11)
          have u0 := HW4.out.frozenAt ((a) * 11)
          have z1 := HW4.out.frozenAt ((j2) * 11 + 1)
          have u1 := HW4.out.frozenAt ((a) * 11 + 1)
          have z2 := HW4.out.frozenAt ((j2) * 11 + 2)
          have u2 := HW4.out.frozenAt ((a) * 11 + 2)
          have z3 := HW4.out.frozenAt ((j2) * 11 + 3)
          have u3 := HW4.out.frozenAt ((a) * 11 + 3)
          have z4 := HW4.out.frozenAt ((j2) * 11 + 4)
          have u4 := HW4.out.frozenAt ((a) * 11 + 4)
          have z5 := HW4.out.frozenAt ((j2) * 11 + 5)
          have u5 := HW4.out.frozenAt ((a) * 11 + 5)
          have z6 := HW4.out.frozenAt ((j2) * 11 + 6)
          have u6 := HW4.out.frozenAt ((a) * 11 + 6)
          have z7 := HW4.out.frozenAt ((j2) * 11 + 7)
          have u7 := HW4.out.frozenAt ((a) * 11 + 7)
          have z8 := HW4.out.frozenAt ((j2) * 11 + 8)
          have u8 := HW4.out.frozenAt ((a) * 11 + 8)
          have z9 := HW4.out.frozenAt ((j2) * 11 + 9)
          have u9 := HW4.out.frozenAt ((a) * 11 + 9)
          have z10 := HW4.out.frozenAt ((j2) * 11 + 10)
          have u10 := HW4.out.frozenAt ((a) * 11 + 10)
          have hsz : (swp di (j2) (a)).size = n := by rw [size_swp, hdi]
          clear q2 k2 exj exp hX hY hsj hsp hxj hxp
          go_wp2_with fail
          go_region
          clear c0 d0 z0 u0 c1 d1 z1 u1 c2 d2 z2 u2 c3 d3 z3 u3 c4 d4 z4 u4 c5 d5 z5 u5 c6 d6 z6 u6 c7 d7 z7 u7 c8 d8 z8 u8 c9 d9 z9 u9 c10 d10 z10 u10
          go_wp2
          exact bodyPost_ret (v := .tuple #[.int .i64 j2, .bool true]) (by simp [results, Tryz.results118, go_sem]) rfl ⟨by rw [hRR.out], by rw [hRR.out]; exact World.ownsRow.drew HQ.out, Keeps.drewn HKN.out⟩
      · have hgt : ¬ (j2 : Int) < i2 := by omega
        have hltn : i2 < j2 := by have := hne (by omega); omega
        have HLN : Hid (R = ((partLoop lt8 a (i2 + 1) (j2 - 1) (swp di i2 j2)).1, false, swp (partLoop lt8 a (i2 + 1) (j2 - 1) (swp di i2 j2)).2 (partLoop lt8 a (i2 + 1) (j2 - 1) (swp di i2 j2)).1 a)) := by
          show _ = _
          rw [← HR.out]
          have h1 := HST.out; have h2 := HDN.out
          rw [← HBB.out, ← HIA.out] at h1
          rw [← HBB.out] at h2
          exact part_lt HDD.out h1 h2 (by omega)
        have hsj : (tms (cs8 di))[i2]? = some di[i2]!.1.1 := tms8_get (by omega)
        have hsp : (tms (cs8 di))[j2]? = some di[j2]!.1.1 := tms8_get (by omega)
        obtain ⟨q2, k2⟩ := swap_row (i := i2) (j := j2) HW4.out hdi (by omega) (by omega)
        obtain ⟨xj, hxj⟩ : ∃ x, di[i2]! = x := ⟨_, rfl⟩
        obtain ⟨xp, hxp⟩ : ∃ x, di[j2]! = x := ⟨_, rfl⟩
        rw [hxj] at hsj q2 k2
        rw [hxp] at hsp q2 k2
        obtain ⟨x0, x1, x2, x3, x4, x5, x6, x7, hX⟩ := eight xj.2
        obtain ⟨y0, y1, y2, y3, y4, y5, y6, y7, hY⟩ := eight xp.2
        obtain ⟨c0, c1, c2, c3, c4, c5, c6, c7, c8, c9, c10⟩ := row_cells HW4.out (tms8 di) (by rw [tms8_length, hdi]) hsj hX
        obtain ⟨d0, d1, d2, d3, d4, d5, d6, d7, d8, d9, d10⟩ := row_cells HW4.out (tms8 di) (by rw [tms8_length, hdi]) hsp hY
        have exj : xj.1.1.cells = [.int .i64 x0, .int .i64 x1, .int .i64 x2, .int .i64 x3, .int .i64 x4, .int .i64 x5, .int .i64 x6, .int .i64 x7, .bool xj.1.1.s, .slice xj.1.1.A xj.1.1.n xj.1.1.c, .slice xj.1.1.B xj.1.1.m xj.1.1.d] := by unfold Tm.cells; rw [hX]; rfl
        have exp : xp.1.1.cells = [.int .i64 y0, .int .i64 y1, .int .i64 y2, .int .i64 y3, .int .i64 y4, .int .i64 y5, .int .i64 y6, .int .i64 y7, .bool xp.1.1.s, .slice xp.1.1.A xp.1.1.n xp.1.1.c, .slice xp.1.1.B xp.1.1.m xp.1.1.d] := by unfold Tm.cells; rw [hY]; rfl
        rw [exj, exp] at q2 k2
        simp only [World.setCells, Nat.add_assoc, Nat.reduceAdd] at q2 k2
        have HQ := Lib.hid q2
        have HKN := Lib.hid (HK4.out.trans k2)
        have z0 := HW4.out.frozenAt ((i2) * 11)
        have u0 := HW4.out.frozenAt ((j2) * 11)
        have z1 := HW4.out.frozenAt ((i2) * 11 + 1)
        have u1 := HW4.out.frozenAt ((j2) * 11 + 1)
        have z2 := HW4.out.frozenAt ((i2) * 11 + 2)
        have u2 := HW4.out.frozenAt ((j2) * 11 + 2)
        have z3 := HW4.out.frozenAt ((i2) * 11 + 3)
        have u3 := HW4.out.frozenAt ((j2) * 11 + 3)
        have z4 := HW4.out.frozenAt ((i2) * 11 + 4)
        have u4 := HW4.out.frozenAt ((j2) * 11 + 4)
        have z5 := HW4.out.frozenAt ((i2) * 11 + 5)
        have u5 := HW4.out.frozenAt ((j2) * 11 + 5)
        have z6 := HW4.out.frozenAt ((i2) * 11 + 6)
        have u6 := HW4.out.frozenAt ((j2) * 11 + 6)
        have z7 := HW4.out.frozenAt ((i2) * 11 + 7)
        have u7 := HW4.out.frozenAt ((j2) * 11 + 7)
        have z8 := HW4.out.frozenAt ((i2) * 11 + 8)
        have u8 := HW4.out.frozenAt ((j2) * 11 + 8)
        have z9 := HW4.out.frozenAt ((i2) * 11 + 9)
        have u9 := HW4.out.frozenAt ((j2) * 11 + 9)
        have z10 := HW4.out.frozenAt ((i2) * 11 + 10)
        have u10 := HW4.out.frozenAt ((j2) * 11 + 10)
        have hsz : (swp di (i2) (j2)).size = n := by rw [size_swp, hdi]
        clear q2 k2 exj exp hX hY hsj hsp hxj hxp
        clear HW4 HK4 HDN HST HR HDD
        go_wp2_with fail
        go_region
        clear c0 d0 z0 u0 c1 d1 z1 u1 c2 d2 z2 u2 c3 d3 z3 u3 c4 d4 z4 u4 c5 d5 z5 u5 c6 d6 z6 u6 c7 d7 z7 u7 c8 d8 z8 u8 c9 d9 z9 u9 c10 d10 z10 u10
        have HW0 := Lib.hid (World.ownsRow.drew HQ.out)
        have HK0 := Lib.hid (Keeps.drewn HKN.out)
        clear HQ HKN
        obtain ⟨L, hL⟩ : ∃ L, partLoop lt8 a (i2 + 1) (j2 - 1) (swp di i2 j2) = L := ⟨_, rfl⟩
        have HLL := Lib.hid hL
        rw [hL] at HLN
        have HR := HLN
        clear hL HLN hgt
        go_wp2
        go_loopw [12, 13] (fun iv jv wq => ∃ (i j : Nat) (di : Array Q8), iv = .int .i64 i ∧ jv = .int .i64 j ∧ a + 1 ≤ i ∧ i ≤ j + 1 ∧ j ≤ b' ∧ di.size = n ∧ Hid (partLoop lt8 a i j di = L) ∧ Hid (wq.ownsRow base 47 11 (.slice (some ⟨g, 0, none⟩) n cap) n (rowOf (tms (cs8 di)))) ∧ Hid (Keeps g g g w wq)) (fun iv jv _ => (intOf jv + 1 - intOf iv).toNat)
        case atStart => exact ⟨i2 + 1, j2 - 1, _, by go_num, by go_num, by omega, by omega, by omega, hsz, HLL, HW0, HK0⟩
        case round =>
          clear hdi
          obtain ⟨i, j, di, rfl, rfl, hai, hij, hjb, hdi, HL, HW, HK⟩ := hrel
          clear HW0 HK0 HLL hsz hi2 hi22 i2n i20 hj2 hj2n hj20 hne hltn hgt2
          have hjn : (j : Int) < n := by omega
          have hj0 : (0 : Int) ≤ j := by omega
          go_upto_block 6 with fail
          go_cut [12] (fun iv wx => ∃ i2 : Nat, iv = .int .i64 i2 ∧ (i ≤ i2 ∧ i2 ≤ j + 1) ∧ Hid (scanUp (fun x => lt8 x di[a]!) di j i = i2) ∧ Hid (i2 ≤ j → lt8 di[i2]! di[a]! = false) ∧ Hid (wx.ownsRow base 47 11 (.slice (some ⟨g, 0, none⟩) n cap) n (rowOf (tms (cs8 di)))) ∧ Hid (Keeps g g g w wx))
          case first =>
            go_wp2_with fail
            go_loopw [12] (fun iv wq => ∃ i2 : Nat, iv = .int .i64 i2 ∧ (i ≤ i2 ∧ i2 ≤ j + 1) ∧ Hid (scanUp (fun x => lt8 x di[a]!) di j i = scanUp (fun x => lt8 x di[a]!) di j i2) ∧ Hid (wq.ownsRow base 47 11 (.slice (some ⟨g, 0, none⟩) n cap) n (rowOf (tms (cs8 di)))) ∧ Hid (Keeps g g g w wq)) (fun iv _ => j + 1 - (intOf iv).toNat)
            case atStart => exact ⟨i, rfl, ⟨Nat.le_refl _, hij⟩, rfl, HW, HK⟩
            case round =>
              obtain ⟨i2, rfl, hi2, HS, HWi, HKi⟩ := hrel
              clear HW HK
              have i2n : (i2 : Int) ≤ n := by omega
              have i20 : (0 : Int) ≤ i2 := by omega
              by_cases hle : i2 ≤ j
              · have hleI : (i2 : Int) ≤ j := by omega
                have i2q1 : (i2 : Int) < n := by omega
                have i2q0 : (0 : Int) ≤ i2 := by omega
                obtain ⟨xa, hxa⟩ : ∃ x, di[i2]! = x := ⟨_, rfl⟩
                obtain ⟨xb, hxb⟩ : ∃ x, di[a]! = x := ⟨_, rfl⟩
                have hsj : (tms (cs8 di))[i2]? = some di[i2]!.1.1 := tms8_get (by omega)
                have hsp : (tms (cs8 di))[a]? = some di[a]!.1.1 := tms8_get (by omega)
                rw [hxa] at hsj
                rw [hxb] at hsp
                have hlt8 := lt8_cmp xa xb
                obtain ⟨x0, x1, x2, x3, x4, x5, x6, x7, hX⟩ := eight xa.2
                obtain ⟨y0, y1, y2, y3, y4, y5, y6, y7, hY⟩ := eight xb.2
                have hb1 : RowBox g (i2) x0 x1 x2 x3 x4 x5 x6 x7 xa.1.1 wr := row_cells HWi.out (tms8 di) (by rw [tms8_length, hdi]) hsj hX
                have hb2 : RowBox g (a) y0 y1 y2 y3 y4 y5 y6 y7 xb.1.1 wr := row_cells HWi.out (tms8 di) (by rw [tms8_length, hdi]) hsp hY
                have hgl : g < wr.heap.size := (HWi.out.lt g rfl).2
                obtain ⟨r, hr⟩ : ∃ r, -cmpL [x0, x1, x2, x3, x4, x5, x6, x7] [y0, y1, y2, y3, y4, y5, y6, y7] = r := ⟨_, rfl⟩
                have HC : Hid (∀ W, Calls Tryz.prog 65 #[.int .i64 (-1), .agg #[.int .i64 x0, .int .i64 x1, .int .i64 x2, .int .i64 x3, .int .i64 x4, .int .i64 x5, .int .i64 x6, .int .i64 x7, .bool xa.1.1.s, .slice xa.1.1.A xa.1.1.n xa.1.1.c, .slice xa.1.1.B xa.1.1.m xa.1.1.d], .agg #[.int .i64 y0, .int .i64 y1, .int .i64 y2, .int .i64 y3, .int .i64 y4, .int .i64 y5, .int .i64 y6, .int .i64 y7, .bool xb.1.1.s, .slice xb.1.1.A xb.1.1.n xb.1.1.c, .slice xb.1.1.B xb.1.1.m xb.1.1.d]] W fun e w' => e = .returned (.int .i64 r) ∧ Below W.heap.size W w') := fun W => by
                  rw [← hr]; exact compare_x _ _ _ _ _ _ _ _ _ _ _ _ _ _ _ _ _ _ _ _ _ _ _ _ _ _ _ _ _ _ _
                rw [hX, hY, hr] at hlt8
                have HBX : Hid (∀ W, Below wr.heap.size wr W → RowBox g (i2) x0 x1 x2 x3 x4 x5 x6 x7 xa.1.1 W ∧ RowBox g (a) y0 y1 y2 y3 y4 y5 y6 y7 xb.1.1 W) := fun W hW => ⟨hb1.below hW hgl, hb2.below hW hgl⟩
                have HLT := Lib.hid hlt8
                have HXI := Lib.hid hxa
                have HXJ := Lib.hid hxb
                clear hX hY hsj hsp hlt8 hxa hxb hr hb1 hb2 hgl
                have hk : Below wr.heap.size wr wr.drew := (Below.refl _ wr).drew
                go_wp2_with fail
                by_cases hlv : r < 0
                · have HST : Hid (scanUp (fun x => lt8 x di[a]!) di j i = scanUp (fun x => lt8 x di[a]!) di j (i2 + 1)) := by
                    show _ = _
                    rw [HS.out]
                    refine up_more hle ?_
                    show lt8 di[i2]! di[a]! = true
                    rw [HXI.out, HXJ.out]; exact HLT.out.1 hlv
                  clear HXI HXJ HLT HS
                  refine wp_region_held_drew (S := (fun W => RowBox g (i2) x0 x1 x2 x3 x4 x5 x6 x7 xa.1.1 W ∧ RowBox g (a) y0 y1 y2 y3 y4 y5 y6 y7 xb.1.1 W)) (by kernel_rfl) ?_ (fun hHeld => ?_)
                  · exact HBX.out _ hk
                  refine wpAnyH_take (i := 0) (oi := ⟨some 105, _, _, _, _, _⟩) (v := ?_) rfl (by kernel_rfl) (by kernel_rfl) (by kernel_rfl) (fun _ _ _ h => h) (Or.inl ⟨by rfl, ?_⟩) (by assumption) ?_
                  rotate_left
                  · intro w hSw
                    (try dsimp only at hSw)
                    unfold RowBox at hSw
                    obtain ⟨⟨h0, h1, h2, h3, h4, h5, h6, h7, h8, h9, h10⟩, j0, j1, j2, j3, j4, j5, j6, j7, j8, j9, j10⟩ := hSw
                    go_simp
                    try with_reducible rfl
                  try simp only [Act.put, List.setIfInBounds_toArray, List.set_cons_zero, List.set_cons_succ]
                  refine wpAnyH_take (i := 1) (oi := ⟨some 106, _, _, _, _, _⟩) (v := ?_) rfl (by kernel_rfl) (by kernel_rfl) (by kernel_rfl) (fun _ _ _ h => h) (Or.inl ⟨by rfl, ?_⟩) (by assumption) ?_
                  rotate_left
                  · intro w hSw
                    (try dsimp only at hSw)
                    unfold RowBox at hSw
                    obtain ⟨⟨h0, h1, h2, h3, h4, h5, h6, h7, h8, h9, h10⟩, j0, j1, j2, j3, j4, j5, j6, j7, j8, j9, j10⟩ := hSw
                    go_simp
                    try with_reducible rfl
                  try simp only [Act.put, List.setIfInBounds_toArray, List.set_cons_zero, List.set_cons_succ]
                  refine wpAnyH_take (i := 2) (oi := ⟨some 107, _, _, _, _, _⟩) (v := ?_) rfl (by kernel_rfl) (by kernel_rfl) (by kernel_rfl) (fun _ _ _ h => h) (Or.inl ⟨by rfl, ?_⟩) (by assumption) ?_
                  rotate_left
                  · intro w hSw
                    (try dsimp only at hSw)
                    unfold RowBox at hSw
                    obtain ⟨⟨h0, h1, h2, h3, h4, h5, h6, h7, h8, h9, h10⟩, j0, j1, j2, j3, j4, j5, j6, j7, j8, j9, j10⟩ := hSw
                    go_simp
                    try with_reducible rfl
                  try simp only [Act.put, List.setIfInBounds_toArray, List.set_cons_zero, List.set_cons_succ]
                  refine wpAnyH_take (i := 3) (oi := ⟨some 108, _, _, _, _, _⟩) (v := ?_) rfl (by kernel_rfl) (by kernel_rfl) (by kernel_rfl) (fun _ _ _ h => h) (Or.inl ⟨by rfl, ?_⟩) (by assumption) ?_
                  rotate_left
                  · intro w hSw
                    (try dsimp only at hSw)
                    unfold RowBox at hSw
                    obtain ⟨⟨h0, h1, h2, h3, h4, h5, h6, h7, h8, h9, h10⟩, j0, j1, j2, j3, j4, j5, j6, j7, j8, j9, j10⟩ := hSw
                    go_simp
                    try with_reducible rfl
                  try simp only [Act.put, List.setIfInBounds_toArray, List.set_cons_zero, List.set_cons_succ]
                  refine wpAnyH_take (i := 4) (oi := ⟨some 109, _, _, _, _, _⟩) (v := ?_) rfl (by kernel_rfl) (by kernel_rfl) (by kernel_rfl) (fun _ _ _ h => h) (Or.inl ⟨by rfl, ?_⟩) (by assumption) ?_
                  rotate_left
                  · intro w hSw
                    (try dsimp only at hSw)
                    unfold RowBox at hSw
                    obtain ⟨⟨h0, h1, h2, h3, h4, h5, h6, h7, h8, h9, h10⟩, j0, j1, j2, j3, j4, j5, j6, j7, j8, j9, j10⟩ := hSw
                    go_simp
                    try with_reducible rfl
                  try simp only [Act.put, List.setIfInBounds_toArray, List.set_cons_zero, List.set_cons_succ]
                  refine wpAnyH_take (i := 5) (oi := ⟨some 110, _, _, _, _, _⟩) (v := ?_) rfl (by kernel_rfl) (by kernel_rfl) (by kernel_rfl) (fun _ _ _ h => h) (Or.inl ⟨by rfl, ?_⟩) (by assumption) ?_
                  rotate_left
                  · intro w hSw
                    (try dsimp only at hSw)
                    unfold RowBox at hSw
                    obtain ⟨⟨h0, h1, h2, h3, h4, h5, h6, h7, h8, h9, h10⟩, j0, j1, j2, j3, j4, j5, j6, j7, j8, j9, j10⟩ := hSw
                    go_simp
                    try with_reducible rfl
                  try simp only [Act.put, List.setIfInBounds_toArray, List.set_cons_zero, List.set_cons_succ]
                  refine wpAnyH_take (i := 6) (oi := ⟨some 111, _, _, _, _, _⟩) (v := ?_) rfl (by kernel_rfl) (by kernel_rfl) (by kernel_rfl) (fun _ _ _ h => h) (Or.inl ⟨by rfl, ?_⟩) (by assumption) ?_
                  rotate_left
                  · intro w hSw
                    (try dsimp only at hSw)
                    unfold RowBox at hSw
                    obtain ⟨⟨h0, h1, h2, h3, h4, h5, h6, h7, h8, h9, h10⟩, j0, j1, j2, j3, j4, j5, j6, j7, j8, j9, j10⟩ := hSw
                    go_simp
                    try with_reducible rfl
                  try simp only [Act.put, List.setIfInBounds_toArray, List.set_cons_zero, List.set_cons_succ]
                  refine wpAnyH_take (i := 7) (oi := ⟨some 112, _, _, _, _, _⟩) (v := ?_) rfl (by kernel_rfl) (by kernel_rfl) (by kernel_rfl) (fun _ _ _ h => h) (Or.inl ⟨by rfl, ?_⟩) (by assumption) ?_
                  rotate_left
                  · intro w hSw
                    (try dsimp only at hSw)
                    unfold RowBox at hSw
                    obtain ⟨⟨h0, h1, h2, h3, h4, h5, h6, h7, h8, h9, h10⟩, j0, j1, j2, j3, j4, j5, j6, j7, j8, j9, j10⟩ := hSw
                    go_simp
                    try with_reducible rfl
                  try simp only [Act.put, List.setIfInBounds_toArray, List.set_cons_zero, List.set_cons_succ]
                  refine wpAnyH_take (i := 8) (oi := ⟨some 113, _, _, _, _, _⟩) (v := ?_) rfl (by kernel_rfl) (by kernel_rfl) (by kernel_rfl) (fun _ _ _ h => h) (Or.inl ⟨by rfl, ?_⟩) (by assumption) ?_
                  rotate_left
                  · intro w hSw
                    (try dsimp only at hSw)
                    unfold RowBox at hSw
                    obtain ⟨⟨h0, h1, h2, h3, h4, h5, h6, h7, h8, h9, h10⟩, j0, j1, j2, j3, j4, j5, j6, j7, j8, j9, j10⟩ := hSw
                    go_simp
                    try with_reducible rfl
                  try simp only [Act.put, List.setIfInBounds_toArray, List.set_cons_zero, List.set_cons_succ]
                  refine wpAnyH_take (i := 9) (oi := ⟨some 114, _, _, _, _, _⟩) (v := ?_) rfl (by kernel_rfl) (by kernel_rfl) (by kernel_rfl) (fun _ _ _ h => h) (Or.inl ⟨by rfl, ?_⟩) (by assumption) ?_
                  rotate_left
                  · intro w hSw
                    (try dsimp only at hSw)
                    unfold RowBox at hSw
                    obtain ⟨⟨h0, h1, h2, h3, h4, h5, h6, h7, h8, h9, h10⟩, j0, j1, j2, j3, j4, j5, j6, j7, j8, j9, j10⟩ := hSw
                    go_simp
                    try with_reducible rfl
                  try simp only [Act.put, List.setIfInBounds_toArray, List.set_cons_zero, List.set_cons_succ]
                  refine wpAnyH_take (i := 10) (oi := ⟨some 115, _, _, _, _, _⟩) (v := ?_) rfl (by kernel_rfl) (by kernel_rfl) (by kernel_rfl) (fun _ _ _ h => h) (Or.inl ⟨by rfl, ?_⟩) (by assumption) ?_
                  rotate_left
                  · intro w hSw
                    (try dsimp only at hSw)
                    unfold RowBox at hSw
                    obtain ⟨⟨h0, h1, h2, h3, h4, h5, h6, h7, h8, h9, h10⟩, j0, j1, j2, j3, j4, j5, j6, j7, j8, j9, j10⟩ := hSw
                    go_simp
                    try with_reducible rfl
                  try simp only [Act.put, List.setIfInBounds_toArray, List.set_cons_zero, List.set_cons_succ]
                  refine wpAnyH_take (i := 11) (oi := ⟨some 116, _, _, _, _, _⟩) (v := ?_) rfl (by kernel_rfl) (by kernel_rfl) (by kernel_rfl) (fun _ _ _ h => h) (Or.inl ⟨by rfl, ?_⟩) (by assumption) ?_
                  rotate_left
                  · intro w hSw
                    (try dsimp only at hSw)
                    unfold RowBox at hSw
                    obtain ⟨⟨h0, h1, h2, h3, h4, h5, h6, h7, h8, h9, h10⟩, j0, j1, j2, j3, j4, j5, j6, j7, j8, j9, j10⟩ := hSw
                    go_simp
                    try with_reducible rfl
                  try simp only [Act.put, List.setIfInBounds_toArray, List.set_cons_zero, List.set_cons_succ]
                  refine wpAnyH_take (i := 12) (oi := ⟨some 117, _, _, _, _, _⟩) (v := ?_) rfl (by kernel_rfl) (by kernel_rfl) (by kernel_rfl) (fun _ _ _ h => h) (Or.inl ⟨by rfl, ?_⟩) (by assumption) ?_
                  rotate_left
                  · intro w hSw
                    (try dsimp only at hSw)
                    unfold RowBox at hSw
                    obtain ⟨⟨h0, h1, h2, h3, h4, h5, h6, h7, h8, h9, h10⟩, j0, j1, j2, j3, j4, j5, j6, j7, j8, j9, j10⟩ := hSw
                    go_simp
                    try with_reducible rfl
                  try simp only [Act.put, List.setIfInBounds_toArray, List.set_cons_zero, List.set_cons_succ]
                  refine wpAnyH_ready (rs := [13]) (by kernel_rfl) (by simp) ?_
                  refine AllReadyH.cons (o := ⟨some 118, _, _, _, _, _⟩) rfl (fun K hK => ?_) AllReadyH.nil
                  go_simp
                  go_at_call 65
                  refine (HC.out _).mono ?_
                  rintro e w3 ⟨rfl, e3⟩
                  replace hk := nextB hk e3
                  go_wp2_with fail
                  refine hK.out _ _ (HBX.out _ hk) (fun hHeld => ?_)
                  clear hK K
                  try simp only [Act.put, List.setIfInBounds_toArray, List.set_cons_zero, List.set_cons_succ]
                  refine wpAnyH_take (i := 14) (oi := ⟨some 119, _, _, _, _, _⟩) (v := ?_) rfl (by kernel_rfl) (by kernel_rfl) (by kernel_rfl) (fun _ _ _ h => h) (Or.inl ⟨by rfl, ?_⟩) (by assumption) ?_
                  rotate_left
                  · intro w hSw
                    (try dsimp only at hSw)
                    unfold RowBox at hSw
                    obtain ⟨⟨h0, h1, h2, h3, h4, h5, h6, h7, h8, h9, h10⟩, j0, j1, j2, j3, j4, j5, j6, j7, j8, j9, j10⟩ := hSw
                    go_simp
                    try with_reducible rfl
                  try simp only [Act.put, List.setIfInBounds_toArray, List.set_cons_zero, List.set_cons_succ]
                  refine wpAnyH_take (i := 15) (oi := ⟨some 120, _, _, _, _, _⟩) (v := ?_) rfl (by kernel_rfl) (by kernel_rfl) (by kernel_rfl) (fun _ _ _ h => h) (Or.inl ⟨by rfl, ?_⟩) (by assumption) ?_
                  rotate_left
                  · intro w hSw
                    (try dsimp only at hSw)
                    unfold RowBox at hSw
                    obtain ⟨⟨h0, h1, h2, h3, h4, h5, h6, h7, h8, h9, h10⟩, j0, j1, j2, j3, j4, j5, j6, j7, j8, j9, j10⟩ := hSw
                    go_simp
                    try with_reducible rfl
                  try simp only [Act.put, List.setIfInBounds_toArray, List.set_cons_zero, List.set_cons_succ]
                  refine wpAnyH_done (by kernel_rfl) ?_ _
                  have HW3 := Lib.hid (ownsRow_below HWi.out hk)
                  have HK3 := Lib.hid (HKi.out.trans (Keeps.below hk))
                  clear hk HBX HC hHeld HWi HKi
                  go_wp2
                  go_roundw
                  case rel => exact ⟨i2 + 1, by go_num, by omega, HST, HW3, HK3⟩
                  case measure => simp [intOf] <;> omega
                · have hnl : lt8 di[i2]! di[a]! = false := by
                    rw [HXI.out, HXJ.out]
                    cases hq : lt8 xa xb with
                    | false => rfl
                    | true => exact absurd (HLT.out.2 hq) hlv
                  have HST : Hid (scanUp (fun x => lt8 x di[a]!) di j i = i2) := by
                    show _ = _
                    rw [HS.out]
                    exact up_stop (.inr hnl)
                  have HPF : Hid (i2 ≤ j → lt8 di[i2]! di[a]! = false) := fun _ => hnl
                  have hdf : decide (r < 0) = false := decide_eq_false (by omega)
                  clear HXI HXJ HLT HS hnl
                  refine wp_region_held_drew (S := (fun W => RowBox g (i2) x0 x1 x2 x3 x4 x5 x6 x7 xa.1.1 W ∧ RowBox g (a) y0 y1 y2 y3 y4 y5 y6 y7 xb.1.1 W)) (by kernel_rfl) ?_ (fun hHeld => ?_)
                  · exact HBX.out _ hk
                  refine wpAnyH_take (i := 0) (oi := ⟨some 105, _, _, _, _, _⟩) (v := ?_) rfl (by kernel_rfl) (by kernel_rfl) (by kernel_rfl) (fun _ _ _ h => h) (Or.inl ⟨by rfl, ?_⟩) (by assumption) ?_
                  rotate_left
                  · intro w hSw
                    (try dsimp only at hSw)
                    unfold RowBox at hSw
                    obtain ⟨⟨h0, h1, h2, h3, h4, h5, h6, h7, h8, h9, h10⟩, j0, j1, j2, j3, j4, j5, j6, j7, j8, j9, j10⟩ := hSw
                    go_simp
                    try with_reducible rfl
                  try simp only [Act.put, List.setIfInBounds_toArray, List.set_cons_zero, List.set_cons_succ]
                  refine wpAnyH_take (i := 1) (oi := ⟨some 106, _, _, _, _, _⟩) (v := ?_) rfl (by kernel_rfl) (by kernel_rfl) (by kernel_rfl) (fun _ _ _ h => h) (Or.inl ⟨by rfl, ?_⟩) (by assumption) ?_
                  rotate_left
                  · intro w hSw
                    (try dsimp only at hSw)
                    unfold RowBox at hSw
                    obtain ⟨⟨h0, h1, h2, h3, h4, h5, h6, h7, h8, h9, h10⟩, j0, j1, j2, j3, j4, j5, j6, j7, j8, j9, j10⟩ := hSw
                    go_simp
                    try with_reducible rfl
                  try simp only [Act.put, List.setIfInBounds_toArray, List.set_cons_zero, List.set_cons_succ]
                  refine wpAnyH_take (i := 2) (oi := ⟨some 107, _, _, _, _, _⟩) (v := ?_) rfl (by kernel_rfl) (by kernel_rfl) (by kernel_rfl) (fun _ _ _ h => h) (Or.inl ⟨by rfl, ?_⟩) (by assumption) ?_
                  rotate_left
                  · intro w hSw
                    (try dsimp only at hSw)
                    unfold RowBox at hSw
                    obtain ⟨⟨h0, h1, h2, h3, h4, h5, h6, h7, h8, h9, h10⟩, j0, j1, j2, j3, j4, j5, j6, j7, j8, j9, j10⟩ := hSw
                    go_simp
                    try with_reducible rfl
                  try simp only [Act.put, List.setIfInBounds_toArray, List.set_cons_zero, List.set_cons_succ]
                  refine wpAnyH_take (i := 3) (oi := ⟨some 108, _, _, _, _, _⟩) (v := ?_) rfl (by kernel_rfl) (by kernel_rfl) (by kernel_rfl) (fun _ _ _ h => h) (Or.inl ⟨by rfl, ?_⟩) (by assumption) ?_
                  rotate_left
                  · intro w hSw
                    (try dsimp only at hSw)
                    unfold RowBox at hSw
                    obtain ⟨⟨h0, h1, h2, h3, h4, h5, h6, h7, h8, h9, h10⟩, j0, j1, j2, j3, j4, j5, j6, j7, j8, j9, j10⟩ := hSw
                    go_simp
                    try with_reducible rfl
                  try simp only [Act.put, List.setIfInBounds_toArray, List.set_cons_zero, List.set_cons_succ]
                  refine wpAnyH_take (i := 4) (oi := ⟨some 109, _, _, _, _, _⟩) (v := ?_) rfl (by kernel_rfl) (by kernel_rfl) (by kernel_rfl) (fun _ _ _ h => h) (Or.inl ⟨by rfl, ?_⟩) (by assumption) ?_
                  rotate_left
                  · intro w hSw
                    (try dsimp only at hSw)
                    unfold RowBox at hSw
                    obtain ⟨⟨h0, h1, h2, h3, h4, h5, h6, h7, h8, h9, h10⟩, j0, j1, j2, j3, j4, j5, j6, j7, j8, j9, j10⟩ := hSw
                    go_simp
                    try with_reducible rfl
                  try simp only [Act.put, List.setIfInBounds_toArray, List.set_cons_zero, List.set_cons_succ]
                  refine wpAnyH_take (i := 5) (oi := ⟨some 110, _, _, _, _, _⟩) (v := ?_) rfl (by kernel_rfl) (by kernel_rfl) (by kernel_rfl) (fun _ _ _ h => h) (Or.inl ⟨by rfl, ?_⟩) (by assumption) ?_
                  rotate_left
                  · intro w hSw
                    (try dsimp only at hSw)
                    unfold RowBox at hSw
                    obtain ⟨⟨h0, h1, h2, h3, h4, h5, h6, h7, h8, h9, h10⟩, j0, j1, j2, j3, j4, j5, j6, j7, j8, j9, j10⟩ := hSw
                    go_simp
                    try with_reducible rfl
                  try simp only [Act.put, List.setIfInBounds_toArray, List.set_cons_zero, List.set_cons_succ]
                  refine wpAnyH_take (i := 6) (oi := ⟨some 111, _, _, _, _, _⟩) (v := ?_) rfl (by kernel_rfl) (by kernel_rfl) (by kernel_rfl) (fun _ _ _ h => h) (Or.inl ⟨by rfl, ?_⟩) (by assumption) ?_
                  rotate_left
                  · intro w hSw
                    (try dsimp only at hSw)
                    unfold RowBox at hSw
                    obtain ⟨⟨h0, h1, h2, h3, h4, h5, h6, h7, h8, h9, h10⟩, j0, j1, j2, j3, j4, j5, j6, j7, j8, j9, j10⟩ := hSw
                    go_simp
                    try with_reducible rfl
                  try simp only [Act.put, List.setIfInBounds_toArray, List.set_cons_zero, List.set_cons_succ]
                  refine wpAnyH_take (i := 7) (oi := ⟨some 112, _, _, _, _, _⟩) (v := ?_) rfl (by kernel_rfl) (by kernel_rfl) (by kernel_rfl) (fun _ _ _ h => h) (Or.inl ⟨by rfl, ?_⟩) (by assumption) ?_
                  rotate_left
                  · intro w hSw
                    (try dsimp only at hSw)
                    unfold RowBox at hSw
                    obtain ⟨⟨h0, h1, h2, h3, h4, h5, h6, h7, h8, h9, h10⟩, j0, j1, j2, j3, j4, j5, j6, j7, j8, j9, j10⟩ := hSw
                    go_simp
                    try with_reducible rfl
                  try simp only [Act.put, List.setIfInBounds_toArray, List.set_cons_zero, List.set_cons_succ]
                  refine wpAnyH_take (i := 8) (oi := ⟨some 113, _, _, _, _, _⟩) (v := ?_) rfl (by kernel_rfl) (by kernel_rfl) (by kernel_rfl) (fun _ _ _ h => h) (Or.inl ⟨by rfl, ?_⟩) (by assumption) ?_
                  rotate_left
                  · intro w hSw
                    (try dsimp only at hSw)
                    unfold RowBox at hSw
                    obtain ⟨⟨h0, h1, h2, h3, h4, h5, h6, h7, h8, h9, h10⟩, j0, j1, j2, j3, j4, j5, j6, j7, j8, j9, j10⟩ := hSw
                    go_simp
                    try with_reducible rfl
                  try simp only [Act.put, List.setIfInBounds_toArray, List.set_cons_zero, List.set_cons_succ]
                  refine wpAnyH_take (i := 9) (oi := ⟨some 114, _, _, _, _, _⟩) (v := ?_) rfl (by kernel_rfl) (by kernel_rfl) (by kernel_rfl) (fun _ _ _ h => h) (Or.inl ⟨by rfl, ?_⟩) (by assumption) ?_
                  rotate_left
                  · intro w hSw
                    (try dsimp only at hSw)
                    unfold RowBox at hSw
                    obtain ⟨⟨h0, h1, h2, h3, h4, h5, h6, h7, h8, h9, h10⟩, j0, j1, j2, j3, j4, j5, j6, j7, j8, j9, j10⟩ := hSw
                    go_simp
                    try with_reducible rfl
                  try simp only [Act.put, List.setIfInBounds_toArray, List.set_cons_zero, List.set_cons_succ]
                  refine wpAnyH_take (i := 10) (oi := ⟨some 115, _, _, _, _, _⟩) (v := ?_) rfl (by kernel_rfl) (by kernel_rfl) (by kernel_rfl) (fun _ _ _ h => h) (Or.inl ⟨by rfl, ?_⟩) (by assumption) ?_
                  rotate_left
                  · intro w hSw
                    (try dsimp only at hSw)
                    unfold RowBox at hSw
                    obtain ⟨⟨h0, h1, h2, h3, h4, h5, h6, h7, h8, h9, h10⟩, j0, j1, j2, j3, j4, j5, j6, j7, j8, j9, j10⟩ := hSw
                    go_simp
                    try with_reducible rfl
                  try simp only [Act.put, List.setIfInBounds_toArray, List.set_cons_zero, List.set_cons_succ]
                  refine wpAnyH_take (i := 11) (oi := ⟨some 116, _, _, _, _, _⟩) (v := ?_) rfl (by kernel_rfl) (by kernel_rfl) (by kernel_rfl) (fun _ _ _ h => h) (Or.inl ⟨by rfl, ?_⟩) (by assumption) ?_
                  rotate_left
                  · intro w hSw
                    (try dsimp only at hSw)
                    unfold RowBox at hSw
                    obtain ⟨⟨h0, h1, h2, h3, h4, h5, h6, h7, h8, h9, h10⟩, j0, j1, j2, j3, j4, j5, j6, j7, j8, j9, j10⟩ := hSw
                    go_simp
                    try with_reducible rfl
                  try simp only [Act.put, List.setIfInBounds_toArray, List.set_cons_zero, List.set_cons_succ]
                  refine wpAnyH_take (i := 12) (oi := ⟨some 117, _, _, _, _, _⟩) (v := ?_) rfl (by kernel_rfl) (by kernel_rfl) (by kernel_rfl) (fun _ _ _ h => h) (Or.inl ⟨by rfl, ?_⟩) (by assumption) ?_
                  rotate_left
                  · intro w hSw
                    (try dsimp only at hSw)
                    unfold RowBox at hSw
                    obtain ⟨⟨h0, h1, h2, h3, h4, h5, h6, h7, h8, h9, h10⟩, j0, j1, j2, j3, j4, j5, j6, j7, j8, j9, j10⟩ := hSw
                    go_simp
                    try with_reducible rfl
                  try simp only [Act.put, List.setIfInBounds_toArray, List.set_cons_zero, List.set_cons_succ]
                  refine wpAnyH_ready (rs := [13]) (by kernel_rfl) (by simp) ?_
                  refine AllReadyH.cons (o := ⟨some 118, _, _, _, _, _⟩) rfl (fun K hK => ?_) AllReadyH.nil
                  go_simp
                  go_at_call 65
                  refine (HC.out _).mono ?_
                  rintro e w3 ⟨rfl, e3⟩
                  replace hk := nextB hk e3
                  go_wp2_with fail
                  refine hK.out _ _ (HBX.out _ hk) (fun hHeld => ?_)
                  clear hK K
                  try simp only [Act.put, List.setIfInBounds_toArray, List.set_cons_zero, List.set_cons_succ]
                  refine wpAnyH_take (i := 14) (oi := ⟨some 119, _, _, _, _, _⟩) (v := ?_) rfl (by kernel_rfl) (by kernel_rfl) (by kernel_rfl) (fun _ _ _ h => h) (Or.inl ⟨by rfl, ?_⟩) (by assumption) ?_
                  rotate_left
                  · intro w hSw
                    (try dsimp only at hSw)
                    unfold RowBox at hSw
                    obtain ⟨⟨h0, h1, h2, h3, h4, h5, h6, h7, h8, h9, h10⟩, j0, j1, j2, j3, j4, j5, j6, j7, j8, j9, j10⟩ := hSw
                    go_simp
                    try with_reducible rfl
                  try simp only [Act.put, List.setIfInBounds_toArray, List.set_cons_zero, List.set_cons_succ]
                  refine wpAnyH_take (i := 15) (oi := ⟨some 120, _, _, _, _, _⟩) (v := ?_) rfl (by kernel_rfl) (by kernel_rfl) (by kernel_rfl) (fun _ _ _ h => h) (Or.inl ⟨by rfl, ?_⟩) (by assumption) ?_
                  rotate_left
                  · intro w hSw
                    (try dsimp only at hSw)
                    unfold RowBox at hSw
                    obtain ⟨⟨h0, h1, h2, h3, h4, h5, h6, h7, h8, h9, h10⟩, j0, j1, j2, j3, j4, j5, j6, j7, j8, j9, j10⟩ := hSw
                    go_simp
                    try with_reducible rfl
                  try simp only [Act.put, List.setIfInBounds_toArray, List.set_cons_zero, List.set_cons_succ]
                  refine wpAnyH_done (by kernel_rfl) ?_ _
                  have HW3 := Lib.hid (ownsRow_below HWi.out hk)
                  have HK3 := Lib.hid (HKi.out.trans (Keeps.below hk))
                  clear hk HBX HC hHeld HWi HKi
                  go_wp2
                  go_meet
                  exact ⟨i2, rfl, hi2, HST, HPF, HW3, HK3⟩
              · have hleI : ¬ (i2 : Int) ≤ j := by omega
                have HST : Hid (scanUp (fun x => lt8 x di[a]!) di j i = i2) := by show _ = _; rw [HS.out]; exact up_stop (.inl hle)
                have HPF : Hid (i2 ≤ j → lt8 di[i2]! di[a]! = false) := fun h => absurd h hle
                have hk : Below wr.heap.size wr wr.drew := (Below.refl _ wr).drew
                have HW3 := Lib.hid (ownsRow_below HWi.out hk)
                have HK3 := Lib.hid (HKi.out.trans (Keeps.below hk))
                go_wp2_with fail
                refine wp_region_held_drew (S := (fun _ => True)) (by kernel_rfl) ?_ (fun hHeld => ?_)
                · trivial
                refine wpAnyH_take (i := 0) (oi := ⟨some 105, _, _, _, _, _⟩) (v := ?_) rfl (by kernel_rfl) (by kernel_rfl) (by kernel_rfl) (fun _ _ _ h => h) (Or.inl ⟨by rfl, ?_⟩) (by assumption) ?_
                rotate_left
                · intro w hSw
                  (try dsimp only at hSw)
                  go_simp
                  try with_reducible rfl
                try simp only [Act.put, List.setIfInBounds_toArray, List.set_cons_zero, List.set_cons_succ]
                refine wpAnyH_take (i := 1) (oi := ⟨some 106, _, _, _, _, _⟩) (v := ?_) rfl (by kernel_rfl) (by kernel_rfl) (by kernel_rfl) (fun _ _ _ h => h) (Or.inl ⟨by rfl, ?_⟩) (by assumption) ?_
                rotate_left
                · intro w hSw
                  (try dsimp only at hSw)
                  go_simp
                  try with_reducible rfl
                try simp only [Act.put, List.setIfInBounds_toArray, List.set_cons_zero, List.set_cons_succ]
                refine wpAnyH_take (i := 2) (oi := ⟨some 107, _, _, _, _, _⟩) (v := ?_) rfl (by kernel_rfl) (by kernel_rfl) (by kernel_rfl) (fun _ _ _ h => h) (Or.inl ⟨by rfl, ?_⟩) (by assumption) ?_
                rotate_left
                · intro w hSw
                  (try dsimp only at hSw)
                  go_simp
                  try with_reducible rfl
                try simp only [Act.put, List.setIfInBounds_toArray, List.set_cons_zero, List.set_cons_succ]
                refine wpAnyH_take (i := 3) (oi := ⟨some 108, _, _, _, _, _⟩) (v := ?_) rfl (by kernel_rfl) (by kernel_rfl) (by kernel_rfl) (fun _ _ _ h => h) (Or.inl ⟨by rfl, ?_⟩) (by assumption) ?_
                rotate_left
                · intro w hSw
                  (try dsimp only at hSw)
                  go_simp
                  try with_reducible rfl
                try simp only [Act.put, List.setIfInBounds_toArray, List.set_cons_zero, List.set_cons_succ]
                refine wpAnyH_take (i := 4) (oi := ⟨some 109, _, _, _, _, _⟩) (v := undef) rfl (by kernel_rfl) (by kernel_rfl) (by kernel_rfl) (fun _ _ _ h => h) (Or.inr ⟨by rfl, rfl⟩) (by assumption) ?_
                try simp only [Act.put, List.setIfInBounds_toArray, List.set_cons_zero, List.set_cons_succ]
                refine wpAnyH_take (i := 5) (oi := ⟨some 110, _, _, _, _, _⟩) (v := undef) rfl (by kernel_rfl) (by kernel_rfl) (by kernel_rfl) (fun _ _ _ h => h) (Or.inr ⟨by rfl, rfl⟩) (by assumption) ?_
                try simp only [Act.put, List.setIfInBounds_toArray, List.set_cons_zero, List.set_cons_succ]
                refine wpAnyH_take (i := 6) (oi := ⟨some 111, _, _, _, _, _⟩) (v := undef) rfl (by kernel_rfl) (by kernel_rfl) (by kernel_rfl) (fun _ _ _ h => h) (Or.inr ⟨by rfl, rfl⟩) (by assumption) ?_
                try simp only [Act.put, List.setIfInBounds_toArray, List.set_cons_zero, List.set_cons_succ]
                refine wpAnyH_take (i := 7) (oi := ⟨some 112, _, _, _, _, _⟩) (v := undef) rfl (by kernel_rfl) (by kernel_rfl) (by kernel_rfl) (fun _ _ _ h => h) (Or.inr ⟨by rfl, rfl⟩) (by assumption) ?_
                try simp only [Act.put, List.setIfInBounds_toArray, List.set_cons_zero, List.set_cons_succ]
                refine wpAnyH_take (i := 8) (oi := ⟨some 113, _, _, _, _, _⟩) (v := undef) rfl (by kernel_rfl) (by kernel_rfl) (by kernel_rfl) (fun _ _ _ h => h) (Or.inr ⟨by rfl, rfl⟩) (by assumption) ?_
                try simp only [Act.put, List.setIfInBounds_toArray, List.set_cons_zero, List.set_cons_succ]
                refine wpAnyH_take (i := 9) (oi := ⟨some 114, _, _, _, _, _⟩) (v := undef) rfl (by kernel_rfl) (by kernel_rfl) (by kernel_rfl) (fun _ _ _ h => h) (Or.inr ⟨by rfl, rfl⟩) (by assumption) ?_
                try simp only [Act.put, List.setIfInBounds_toArray, List.set_cons_zero, List.set_cons_succ]
                refine wpAnyH_take (i := 10) (oi := ⟨some 115, _, _, _, _, _⟩) (v := undef) rfl (by kernel_rfl) (by kernel_rfl) (by kernel_rfl) (fun _ _ _ h => h) (Or.inr ⟨by rfl, rfl⟩) (by assumption) ?_
                try simp only [Act.put, List.setIfInBounds_toArray, List.set_cons_zero, List.set_cons_succ]
                refine wpAnyH_take (i := 11) (oi := ⟨some 116, _, _, _, _, _⟩) (v := undef) rfl (by kernel_rfl) (by kernel_rfl) (by kernel_rfl) (fun _ _ _ h => h) (Or.inr ⟨by rfl, rfl⟩) (by assumption) ?_
                try simp only [Act.put, List.setIfInBounds_toArray, List.set_cons_zero, List.set_cons_succ]
                refine wpAnyH_take (i := 12) (oi := ⟨some 117, _, _, _, _, _⟩) (v := undef) rfl (by kernel_rfl) (by kernel_rfl) (by kernel_rfl) (fun _ _ _ h => h) (Or.inr ⟨by rfl, rfl⟩) (by assumption) ?_
                try simp only [Act.put, List.setIfInBounds_toArray, List.set_cons_zero, List.set_cons_succ]
                refine wpAnyH_take (i := 13) (oi := ⟨some 118, _, _, _, _, _⟩) (v := undef) rfl (by kernel_rfl) (by kernel_rfl) (by kernel_rfl) (fun _ _ _ h => h) (Or.inr ⟨by rfl, rfl⟩) (by assumption) ?_
                try simp only [Act.put, List.setIfInBounds_toArray, List.set_cons_zero, List.set_cons_succ]
                refine wpAnyH_take (i := 14) (oi := ⟨some 119, _, _, _, _, _⟩) (v := undef) rfl (by kernel_rfl) (by kernel_rfl) (by kernel_rfl) (fun _ _ _ h => h) (Or.inr ⟨by rfl, rfl⟩) (by assumption) ?_
                try simp only [Act.put, List.setIfInBounds_toArray, List.set_cons_zero, List.set_cons_succ]
                refine wpAnyH_take (i := 15) (oi := ⟨some 120, _, _, _, _, _⟩) (v := ?_) rfl (by kernel_rfl) (by kernel_rfl) (by kernel_rfl) (fun _ _ _ h => h) (Or.inl ⟨by rfl, ?_⟩) (by assumption) ?_
                rotate_left
                · intro w hSw
                  (try dsimp only at hSw)
                  go_simp
                  try with_reducible rfl
                try simp only [Act.put, List.setIfInBounds_toArray, List.set_cons_zero, List.set_cons_succ]
                refine wpAnyH_done (by kernel_rfl) ?_ _
                clear hk HS hHeld HWi HKi
                go_wp2
                go_meet
                exact ⟨i2, rfl, hi2, HST, HPF, HW3, HK3⟩
          case rest =>
            obtain ⟨i2, rfl, hi2, HST, HPF, HW3, HK3⟩ := hcut
            clear HW HK
            have i2n : (i2 : Int) ≤ n := by omega
            have i20 : (0 : Int) ≤ i2 := by omega
            have hi22 := hi2.2
            go_upto_block 8 with fail
            go_cut [13] (fun jv wx => ∃ j2 : Nat, jv = .int .i64 j2 ∧ (j2 ≤ j ∧ i2 ≤ j2 + 1) ∧ Hid (scanDown (fun x => !lt8 x di[a]!) di i2 j = j2) ∧ Hid (i2 ≤ j2 → lt8 di[j2]! di[a]! = true) ∧ Hid (wx.ownsRow base 47 11 (.slice (some ⟨g, 0, none⟩) n cap) n (rowOf (tms (cs8 di)))) ∧ Hid (Keeps g g g w wx))
            case first =>
              go_wp2_with fail
              go_loopw [13] (fun jv wq => ∃ j2 : Nat, jv = .int .i64 j2 ∧ (j2 ≤ j ∧ i2 ≤ j2 + 1) ∧ Hid (scanDown (fun x => !lt8 x di[a]!) di i2 j = scanDown (fun x => !lt8 x di[a]!) di i2 j2) ∧ Hid (wq.ownsRow base 47 11 (.slice (some ⟨g, 0, none⟩) n cap) n (rowOf (tms (cs8 di)))) ∧ Hid (Keeps g g g w wq)) (fun jv _ => (intOf jv + 1 - i2).toNat)
              case atStart => exact ⟨j, rfl, ⟨Nat.le_refl _, hi22⟩, rfl, HW3, HK3⟩
              case round =>
                obtain ⟨j2, rfl, hj2, HD, HWj, HKj⟩ := hrel
                clear HW3 HK3
                have hj2n : (j2 : Int) < n := by omega
                have hj20 : (0 : Int) ≤ j2 := by omega
                by_cases hle2 : i2 ≤ j2
                · have hleJ : (i2 : Int) ≤ j2 := by omega
                  obtain ⟨xa, hxa⟩ : ∃ x, di[j2]! = x := ⟨_, rfl⟩
                  obtain ⟨xb, hxb⟩ : ∃ x, di[a]! = x := ⟨_, rfl⟩
                  have hsj : (tms (cs8 di))[j2]? = some di[j2]!.1.1 := tms8_get (by omega)
                  have hsp : (tms (cs8 di))[a]? = some di[a]!.1.1 := tms8_get (by omega)
                  rw [hxa] at hsj
                  rw [hxb] at hsp
                  have hlt8 := lt8_cmp xa xb
                  obtain ⟨x0, x1, x2, x3, x4, x5, x6, x7, hX⟩ := eight xa.2
                  obtain ⟨y0, y1, y2, y3, y4, y5, y6, y7, hY⟩ := eight xb.2
                  have hb1 : RowBox g (j2) x0 x1 x2 x3 x4 x5 x6 x7 xa.1.1 wr := row_cells HWj.out (tms8 di) (by rw [tms8_length, hdi]) hsj hX
                  have hb2 : RowBox g (a) y0 y1 y2 y3 y4 y5 y6 y7 xb.1.1 wr := row_cells HWj.out (tms8 di) (by rw [tms8_length, hdi]) hsp hY
                  have hgl : g < wr.heap.size := (HWj.out.lt g rfl).2
                  obtain ⟨r, hr⟩ : ∃ r, -cmpL [x0, x1, x2, x3, x4, x5, x6, x7] [y0, y1, y2, y3, y4, y5, y6, y7] = r := ⟨_, rfl⟩
                  have HC : Hid (∀ W, Calls Tryz.prog 65 #[.int .i64 (-1), .agg #[.int .i64 x0, .int .i64 x1, .int .i64 x2, .int .i64 x3, .int .i64 x4, .int .i64 x5, .int .i64 x6, .int .i64 x7, .bool xa.1.1.s, .slice xa.1.1.A xa.1.1.n xa.1.1.c, .slice xa.1.1.B xa.1.1.m xa.1.1.d], .agg #[.int .i64 y0, .int .i64 y1, .int .i64 y2, .int .i64 y3, .int .i64 y4, .int .i64 y5, .int .i64 y6, .int .i64 y7, .bool xb.1.1.s, .slice xb.1.1.A xb.1.1.n xb.1.1.c, .slice xb.1.1.B xb.1.1.m xb.1.1.d]] W fun e w' => e = .returned (.int .i64 r) ∧ Below W.heap.size W w') := fun W => by
                    rw [← hr]; exact compare_x _ _ _ _ _ _ _ _ _ _ _ _ _ _ _ _ _ _ _ _ _ _ _ _ _ _ _ _ _ _ _
                  rw [hX, hY, hr] at hlt8
                  have HBX : Hid (∀ W, Below wr.heap.size wr W → RowBox g (j2) x0 x1 x2 x3 x4 x5 x6 x7 xa.1.1 W ∧ RowBox g (a) y0 y1 y2 y3 y4 y5 y6 y7 xb.1.1 W) := fun W hW => ⟨hb1.below hW hgl, hb2.below hW hgl⟩
                  have HLT := Lib.hid hlt8
                  have HXI := Lib.hid hxa
                  have HXJ := Lib.hid hxb
                  clear hX hY hsj hsp hlt8 hxa hxb hr hb1 hb2 hgl
                  have hk : Below wr.heap.size wr wr.drew := (Below.refl _ wr).drew
                  go_wp2_with fail
                  by_cases hlv2 : r < 0
                  · have hlt : lt8 di[j2]! di[a]! = true := by rw [HXI.out, HXJ.out]; exact HLT.out.1 hlv2
                    have HDN : Hid (scanDown (fun x => !lt8 x di[a]!) di i2 j = j2) := by
                      show _ = _
                      rw [HD.out]
                      refine down_stop (.inr ?_)
                      show (!lt8 di[j2]! di[a]!) = false
                      rw [hlt]; rfl
                    have HPG : Hid (i2 ≤ j2 → lt8 di[j2]! di[a]! = true) := fun _ => hlt
                    clear HXI HXJ HLT HD hlt
                    refine wp_region_held_drew (S := (fun W => RowBox g (j2) x0 x1 x2 x3 x4 x5 x6 x7 xa.1.1 W ∧ RowBox g (a) y0 y1 y2 y3 y4 y5 y6 y7 xb.1.1 W)) (by kernel_rfl) ?_ (fun hHeld => ?_)
                    · exact HBX.out _ hk
                    refine wpAnyH_take (i := 0) (oi := ⟨some 123, _, _, _, _, _⟩) (v := ?_) rfl (by kernel_rfl) (by kernel_rfl) (by kernel_rfl) (fun _ _ _ h => h) (Or.inl ⟨by rfl, ?_⟩) (by assumption) ?_
                    rotate_left
                    · intro w hSw
                      (try dsimp only at hSw)
                      unfold RowBox at hSw
                      obtain ⟨⟨h0, h1, h2, h3, h4, h5, h6, h7, h8, h9, h10⟩, j0, j1, j2, j3, j4, j5, j6, j7, j8, j9, j10⟩ := hSw
                      go_simp
                      try with_reducible rfl
                    try simp only [Act.put, List.setIfInBounds_toArray, List.set_cons_zero, List.set_cons_succ]
                    refine wpAnyH_take (i := 1) (oi := ⟨some 124, _, _, _, _, _⟩) (v := ?_) rfl (by kernel_rfl) (by kernel_rfl) (by kernel_rfl) (fun _ _ _ h => h) (Or.inl ⟨by rfl, ?_⟩) (by assumption) ?_
                    rotate_left
                    · intro w hSw
                      (try dsimp only at hSw)
                      unfold RowBox at hSw
                      obtain ⟨⟨h0, h1, h2, h3, h4, h5, h6, h7, h8, h9, h10⟩, j0, j1, j2, j3, j4, j5, j6, j7, j8, j9, j10⟩ := hSw
                      go_simp
                      try with_reducible rfl
                    try simp only [Act.put, List.setIfInBounds_toArray, List.set_cons_zero, List.set_cons_succ]
                    refine wpAnyH_take (i := 2) (oi := ⟨some 125, _, _, _, _, _⟩) (v := ?_) rfl (by kernel_rfl) (by kernel_rfl) (by kernel_rfl) (fun _ _ _ h => h) (Or.inl ⟨by rfl, ?_⟩) (by assumption) ?_
                    rotate_left
                    · intro w hSw
                      (try dsimp only at hSw)
                      unfold RowBox at hSw
                      obtain ⟨⟨h0, h1, h2, h3, h4, h5, h6, h7, h8, h9, h10⟩, j0, j1, j2, j3, j4, j5, j6, j7, j8, j9, j10⟩ := hSw
                      go_simp
                      try with_reducible rfl
                    try simp only [Act.put, List.setIfInBounds_toArray, List.set_cons_zero, List.set_cons_succ]
                    refine wpAnyH_take (i := 3) (oi := ⟨some 126, _, _, _, _, _⟩) (v := ?_) rfl (by kernel_rfl) (by kernel_rfl) (by kernel_rfl) (fun _ _ _ h => h) (Or.inl ⟨by rfl, ?_⟩) (by assumption) ?_
                    rotate_left
                    · intro w hSw
                      (try dsimp only at hSw)
                      unfold RowBox at hSw
                      obtain ⟨⟨h0, h1, h2, h3, h4, h5, h6, h7, h8, h9, h10⟩, j0, j1, j2, j3, j4, j5, j6, j7, j8, j9, j10⟩ := hSw
                      go_simp
                      try with_reducible rfl
                    try simp only [Act.put, List.setIfInBounds_toArray, List.set_cons_zero, List.set_cons_succ]
                    refine wpAnyH_take (i := 4) (oi := ⟨some 127, _, _, _, _, _⟩) (v := ?_) rfl (by kernel_rfl) (by kernel_rfl) (by kernel_rfl) (fun _ _ _ h => h) (Or.inl ⟨by rfl, ?_⟩) (by assumption) ?_
                    rotate_left
                    · intro w hSw
                      (try dsimp only at hSw)
                      unfold RowBox at hSw
                      obtain ⟨⟨h0, h1, h2, h3, h4, h5, h6, h7, h8, h9, h10⟩, j0, j1, j2, j3, j4, j5, j6, j7, j8, j9, j10⟩ := hSw
                      go_simp
                      try with_reducible rfl
                    try simp only [Act.put, List.setIfInBounds_toArray, List.set_cons_zero, List.set_cons_succ]
                    refine wpAnyH_take (i := 5) (oi := ⟨some 128, _, _, _, _, _⟩) (v := ?_) rfl (by kernel_rfl) (by kernel_rfl) (by kernel_rfl) (fun _ _ _ h => h) (Or.inl ⟨by rfl, ?_⟩) (by assumption) ?_
                    rotate_left
                    · intro w hSw
                      (try dsimp only at hSw)
                      unfold RowBox at hSw
                      obtain ⟨⟨h0, h1, h2, h3, h4, h5, h6, h7, h8, h9, h10⟩, j0, j1, j2, j3, j4, j5, j6, j7, j8, j9, j10⟩ := hSw
                      go_simp
                      try with_reducible rfl
                    try simp only [Act.put, List.setIfInBounds_toArray, List.set_cons_zero, List.set_cons_succ]
                    refine wpAnyH_take (i := 6) (oi := ⟨some 129, _, _, _, _, _⟩) (v := ?_) rfl (by kernel_rfl) (by kernel_rfl) (by kernel_rfl) (fun _ _ _ h => h) (Or.inl ⟨by rfl, ?_⟩) (by assumption) ?_
                    rotate_left
                    · intro w hSw
                      (try dsimp only at hSw)
                      unfold RowBox at hSw
                      obtain ⟨⟨h0, h1, h2, h3, h4, h5, h6, h7, h8, h9, h10⟩, j0, j1, j2, j3, j4, j5, j6, j7, j8, j9, j10⟩ := hSw
                      go_simp
                      try with_reducible rfl
                    try simp only [Act.put, List.setIfInBounds_toArray, List.set_cons_zero, List.set_cons_succ]
                    refine wpAnyH_take (i := 7) (oi := ⟨some 130, _, _, _, _, _⟩) (v := ?_) rfl (by kernel_rfl) (by kernel_rfl) (by kernel_rfl) (fun _ _ _ h => h) (Or.inl ⟨by rfl, ?_⟩) (by assumption) ?_
                    rotate_left
                    · intro w hSw
                      (try dsimp only at hSw)
                      unfold RowBox at hSw
                      obtain ⟨⟨h0, h1, h2, h3, h4, h5, h6, h7, h8, h9, h10⟩, j0, j1, j2, j3, j4, j5, j6, j7, j8, j9, j10⟩ := hSw
                      go_simp
                      try with_reducible rfl
                    try simp only [Act.put, List.setIfInBounds_toArray, List.set_cons_zero, List.set_cons_succ]
                    refine wpAnyH_take (i := 8) (oi := ⟨some 131, _, _, _, _, _⟩) (v := ?_) rfl (by kernel_rfl) (by kernel_rfl) (by kernel_rfl) (fun _ _ _ h => h) (Or.inl ⟨by rfl, ?_⟩) (by assumption) ?_
                    rotate_left
                    · intro w hSw
                      (try dsimp only at hSw)
                      unfold RowBox at hSw
                      obtain ⟨⟨h0, h1, h2, h3, h4, h5, h6, h7, h8, h9, h10⟩, j0, j1, j2, j3, j4, j5, j6, j7, j8, j9, j10⟩ := hSw
                      go_simp
                      try with_reducible rfl
                    try simp only [Act.put, List.setIfInBounds_toArray, List.set_cons_zero, List.set_cons_succ]
                    refine wpAnyH_take (i := 9) (oi := ⟨some 132, _, _, _, _, _⟩) (v := ?_) rfl (by kernel_rfl) (by kernel_rfl) (by kernel_rfl) (fun _ _ _ h => h) (Or.inl ⟨by rfl, ?_⟩) (by assumption) ?_
                    rotate_left
                    · intro w hSw
                      (try dsimp only at hSw)
                      unfold RowBox at hSw
                      obtain ⟨⟨h0, h1, h2, h3, h4, h5, h6, h7, h8, h9, h10⟩, j0, j1, j2, j3, j4, j5, j6, j7, j8, j9, j10⟩ := hSw
                      go_simp
                      try with_reducible rfl
                    try simp only [Act.put, List.setIfInBounds_toArray, List.set_cons_zero, List.set_cons_succ]
                    refine wpAnyH_take (i := 10) (oi := ⟨some 133, _, _, _, _, _⟩) (v := ?_) rfl (by kernel_rfl) (by kernel_rfl) (by kernel_rfl) (fun _ _ _ h => h) (Or.inl ⟨by rfl, ?_⟩) (by assumption) ?_
                    rotate_left
                    · intro w hSw
                      (try dsimp only at hSw)
                      unfold RowBox at hSw
                      obtain ⟨⟨h0, h1, h2, h3, h4, h5, h6, h7, h8, h9, h10⟩, j0, j1, j2, j3, j4, j5, j6, j7, j8, j9, j10⟩ := hSw
                      go_simp
                      try with_reducible rfl
                    try simp only [Act.put, List.setIfInBounds_toArray, List.set_cons_zero, List.set_cons_succ]
                    refine wpAnyH_take (i := 11) (oi := ⟨some 134, _, _, _, _, _⟩) (v := ?_) rfl (by kernel_rfl) (by kernel_rfl) (by kernel_rfl) (fun _ _ _ h => h) (Or.inl ⟨by rfl, ?_⟩) (by assumption) ?_
                    rotate_left
                    · intro w hSw
                      (try dsimp only at hSw)
                      unfold RowBox at hSw
                      obtain ⟨⟨h0, h1, h2, h3, h4, h5, h6, h7, h8, h9, h10⟩, j0, j1, j2, j3, j4, j5, j6, j7, j8, j9, j10⟩ := hSw
                      go_simp
                      try with_reducible rfl
                    try simp only [Act.put, List.setIfInBounds_toArray, List.set_cons_zero, List.set_cons_succ]
                    refine wpAnyH_take (i := 12) (oi := ⟨some 135, _, _, _, _, _⟩) (v := ?_) rfl (by kernel_rfl) (by kernel_rfl) (by kernel_rfl) (fun _ _ _ h => h) (Or.inl ⟨by rfl, ?_⟩) (by assumption) ?_
                    rotate_left
                    · intro w hSw
                      (try dsimp only at hSw)
                      unfold RowBox at hSw
                      obtain ⟨⟨h0, h1, h2, h3, h4, h5, h6, h7, h8, h9, h10⟩, j0, j1, j2, j3, j4, j5, j6, j7, j8, j9, j10⟩ := hSw
                      go_simp
                      try with_reducible rfl
                    try simp only [Act.put, List.setIfInBounds_toArray, List.set_cons_zero, List.set_cons_succ]
                    refine wpAnyH_ready (rs := [13]) (by kernel_rfl) (by simp) ?_
                    refine AllReadyH.cons (o := ⟨some 136, _, _, _, _, _⟩) rfl (fun K hK => ?_) AllReadyH.nil
                    go_simp
                    go_at_call 65
                    refine (HC.out _).mono ?_
                    rintro e w3 ⟨rfl, e3⟩
                    replace hk := nextB hk e3
                    go_wp2_with fail
                    refine hK.out _ _ (HBX.out _ hk) (fun hHeld => ?_)
                    clear hK K
                    try simp only [Act.put, List.setIfInBounds_toArray, List.set_cons_zero, List.set_cons_succ]
                    refine wpAnyH_take (i := 14) (oi := ⟨some 137, _, _, _, _, _⟩) (v := ?_) rfl (by kernel_rfl) (by kernel_rfl) (by kernel_rfl) (fun _ _ _ h => h) (Or.inl ⟨by rfl, ?_⟩) (by assumption) ?_
                    rotate_left
                    · intro w hSw
                      (try dsimp only at hSw)
                      unfold RowBox at hSw
                      obtain ⟨⟨h0, h1, h2, h3, h4, h5, h6, h7, h8, h9, h10⟩, j0, j1, j2, j3, j4, j5, j6, j7, j8, j9, j10⟩ := hSw
                      go_simp
                      try with_reducible rfl
                    try simp only [Act.put, List.setIfInBounds_toArray, List.set_cons_zero, List.set_cons_succ]
                    refine wpAnyH_take (i := 15) (oi := ⟨some 138, _, _, _, _, _⟩) (v := ?_) rfl (by kernel_rfl) (by kernel_rfl) (by kernel_rfl) (fun _ _ _ h => h) (Or.inl ⟨by rfl, ?_⟩) (by assumption) ?_
                    rotate_left
                    · intro w hSw
                      (try dsimp only at hSw)
                      unfold RowBox at hSw
                      obtain ⟨⟨h0, h1, h2, h3, h4, h5, h6, h7, h8, h9, h10⟩, j0, j1, j2, j3, j4, j5, j6, j7, j8, j9, j10⟩ := hSw
                      go_simp
                      try with_reducible rfl
                    try simp only [Act.put, List.setIfInBounds_toArray, List.set_cons_zero, List.set_cons_succ]
                    refine wpAnyH_take (i := 16) (oi := ⟨some 139, _, _, _, _, _⟩) (v := ?_) rfl (by kernel_rfl) (by kernel_rfl) (by kernel_rfl) (fun _ _ _ h => h) (Or.inl ⟨by rfl, ?_⟩) (by assumption) ?_
                    rotate_left
                    · intro w hSw
                      (try dsimp only at hSw)
                      unfold RowBox at hSw
                      obtain ⟨⟨h0, h1, h2, h3, h4, h5, h6, h7, h8, h9, h10⟩, j0, j1, j2, j3, j4, j5, j6, j7, j8, j9, j10⟩ := hSw
                      go_simp
                      try with_reducible rfl
                    try simp only [Act.put, List.setIfInBounds_toArray, List.set_cons_zero, List.set_cons_succ]
                    refine wpAnyH_done (by kernel_rfl) ?_ _
                    have HW4 := Lib.hid (ownsRow_below HWj.out hk)
                    have HK4 := Lib.hid (HKj.out.trans (Keeps.below hk))
                    clear hk HBX HC hHeld HWj HKj
                    go_wp2
                    go_meet
                    exact ⟨j2, rfl, hj2, HDN, HPG, HW4, HK4⟩
                  · have hdf2 : decide (r < 0) = false := decide_eq_false (by omega)
                    have hj21 : 1 ≤ j2 := by omega
                    have HDN : Hid (scanDown (fun x => !lt8 x di[a]!) di i2 j = scanDown (fun x => !lt8 x di[a]!) di i2 (j2 - 1)) := by
                      show _ = _
                      rw [HD.out]
                      have hl : (!lt8 di[j2]! di[a]!) = true := by
                        rw [HXI.out, HXJ.out]
                        cases hq : lt8 xa xb with
                        | false => rfl
                        | true => exact absurd (HLT.out.2 hq) hlv2
                      obtain ⟨j3, rfl⟩ : ∃ j3, j2 = j3 + 1 := ⟨j2 - 1, by omega⟩
                      exact down_more hle2 hl
                    clear HXI HXJ HLT HD
                    refine wp_region_held_drew (S := (fun W => RowBox g (j2) x0 x1 x2 x3 x4 x5 x6 x7 xa.1.1 W ∧ RowBox g (a) y0 y1 y2 y3 y4 y5 y6 y7 xb.1.1 W)) (by kernel_rfl) ?_ (fun hHeld => ?_)
                    · exact HBX.out _ hk
                    refine wpAnyH_take (i := 0) (oi := ⟨some 123, _, _, _, _, _⟩) (v := ?_) rfl (by kernel_rfl) (by kernel_rfl) (by kernel_rfl) (fun _ _ _ h => h) (Or.inl ⟨by rfl, ?_⟩) (by assumption) ?_
                    rotate_left
                    · intro w hSw
                      (try dsimp only at hSw)
                      unfold RowBox at hSw
                      obtain ⟨⟨h0, h1, h2, h3, h4, h5, h6, h7, h8, h9, h10⟩, j0, j1, j2, j3, j4, j5, j6, j7, j8, j9, j10⟩ := hSw
                      go_simp
                      try with_reducible rfl
                    try simp only [Act.put, List.setIfInBounds_toArray, List.set_cons_zero, List.set_cons_succ]
                    refine wpAnyH_take (i := 1) (oi := ⟨some 124, _, _, _, _, _⟩) (v := ?_) rfl (by kernel_rfl) (by kernel_rfl) (by kernel_rfl) (fun _ _ _ h => h) (Or.inl ⟨by rfl, ?_⟩) (by assumption) ?_
                    rotate_left
                    · intro w hSw
                      (try dsimp only at hSw)
                      unfold RowBox at hSw
                      obtain ⟨⟨h0, h1, h2, h3, h4, h5, h6, h7, h8, h9, h10⟩, j0, j1, j2, j3, j4, j5, j6, j7, j8, j9, j10⟩ := hSw
                      go_simp
                      try with_reducible rfl
                    try simp only [Act.put, List.setIfInBounds_toArray, List.set_cons_zero, List.set_cons_succ]
                    refine wpAnyH_take (i := 2) (oi := ⟨some 125, _, _, _, _, _⟩) (v := ?_) rfl (by kernel_rfl) (by kernel_rfl) (by kernel_rfl) (fun _ _ _ h => h) (Or.inl ⟨by rfl, ?_⟩) (by assumption) ?_
                    rotate_left
                    · intro w hSw
                      (try dsimp only at hSw)
                      unfold RowBox at hSw
                      obtain ⟨⟨h0, h1, h2, h3, h4, h5, h6, h7, h8, h9, h10⟩, j0, j1, j2, j3, j4, j5, j6, j7, j8, j9, j10⟩ := hSw
                      go_simp
                      try with_reducible rfl
                    try simp only [Act.put, List.setIfInBounds_toArray, List.set_cons_zero, List.set_cons_succ]
                    refine wpAnyH_take (i := 3) (oi := ⟨some 126, _, _, _, _, _⟩) (v := ?_) rfl (by kernel_rfl) (by kernel_rfl) (by kernel_rfl) (fun _ _ _ h => h) (Or.inl ⟨by rfl, ?_⟩) (by assumption) ?_
                    rotate_left
                    · intro w hSw
                      (try dsimp only at hSw)
                      unfold RowBox at hSw
                      obtain ⟨⟨h0, h1, h2, h3, h4, h5, h6, h7, h8, h9, h10⟩, j0, j1, j2, j3, j4, j5, j6, j7, j8, j9, j10⟩ := hSw
                      go_simp
                      try with_reducible rfl
                    try simp only [Act.put, List.setIfInBounds_toArray, List.set_cons_zero, List.set_cons_succ]
                    refine wpAnyH_take (i := 4) (oi := ⟨some 127, _, _, _, _, _⟩) (v := ?_) rfl (by kernel_rfl) (by kernel_rfl) (by kernel_rfl) (fun _ _ _ h => h) (Or.inl ⟨by rfl, ?_⟩) (by assumption) ?_
                    rotate_left
                    · intro w hSw
                      (try dsimp only at hSw)
                      unfold RowBox at hSw
                      obtain ⟨⟨h0, h1, h2, h3, h4, h5, h6, h7, h8, h9, h10⟩, j0, j1, j2, j3, j4, j5, j6, j7, j8, j9, j10⟩ := hSw
                      go_simp
                      try with_reducible rfl
                    try simp only [Act.put, List.setIfInBounds_toArray, List.set_cons_zero, List.set_cons_succ]
                    refine wpAnyH_take (i := 5) (oi := ⟨some 128, _, _, _, _, _⟩) (v := ?_) rfl (by kernel_rfl) (by kernel_rfl) (by kernel_rfl) (fun _ _ _ h => h) (Or.inl ⟨by rfl, ?_⟩) (by assumption) ?_
                    rotate_left
                    · intro w hSw
                      (try dsimp only at hSw)
                      unfold RowBox at hSw
                      obtain ⟨⟨h0, h1, h2, h3, h4, h5, h6, h7, h8, h9, h10⟩, j0, j1, j2, j3, j4, j5, j6, j7, j8, j9, j10⟩ := hSw
                      go_simp
                      try with_reducible rfl
                    try simp only [Act.put, List.setIfInBounds_toArray, List.set_cons_zero, List.set_cons_succ]
                    refine wpAnyH_take (i := 6) (oi := ⟨some 129, _, _, _, _, _⟩) (v := ?_) rfl (by kernel_rfl) (by kernel_rfl) (by kernel_rfl) (fun _ _ _ h => h) (Or.inl ⟨by rfl, ?_⟩) (by assumption) ?_
                    rotate_left
                    · intro w hSw
                      (try dsimp only at hSw)
                      unfold RowBox at hSw
                      obtain ⟨⟨h0, h1, h2, h3, h4, h5, h6, h7, h8, h9, h10⟩, j0, j1, j2, j3, j4, j5, j6, j7, j8, j9, j10⟩ := hSw
                      go_simp
                      try with_reducible rfl
                    try simp only [Act.put, List.setIfInBounds_toArray, List.set_cons_zero, List.set_cons_succ]
                    refine wpAnyH_take (i := 7) (oi := ⟨some 130, _, _, _, _, _⟩) (v := ?_) rfl (by kernel_rfl) (by kernel_rfl) (by kernel_rfl) (fun _ _ _ h => h) (Or.inl ⟨by rfl, ?_⟩) (by assumption) ?_
                    rotate_left
                    · intro w hSw
                      (try dsimp only at hSw)
                      unfold RowBox at hSw
                      obtain ⟨⟨h0, h1, h2, h3, h4, h5, h6, h7, h8, h9, h10⟩, j0, j1, j2, j3, j4, j5, j6, j7, j8, j9, j10⟩ := hSw
                      go_simp
                      try with_reducible rfl
                    try simp only [Act.put, List.setIfInBounds_toArray, List.set_cons_zero, List.set_cons_succ]
                    refine wpAnyH_take (i := 8) (oi := ⟨some 131, _, _, _, _, _⟩) (v := ?_) rfl (by kernel_rfl) (by kernel_rfl) (by kernel_rfl) (fun _ _ _ h => h) (Or.inl ⟨by rfl, ?_⟩) (by assumption) ?_
                    rotate_left
                    · intro w hSw
                      (try dsimp only at hSw)
                      unfold RowBox at hSw
                      obtain ⟨⟨h0, h1, h2, h3, h4, h5, h6, h7, h8, h9, h10⟩, j0, j1, j2, j3, j4, j5, j6, j7, j8, j9, j10⟩ := hSw
                      go_simp
                      try with_reducible rfl
                    try simp only [Act.put, List.setIfInBounds_toArray, List.set_cons_zero, List.set_cons_succ]
                    refine wpAnyH_take (i := 9) (oi := ⟨some 132, _, _, _, _, _⟩) (v := ?_) rfl (by kernel_rfl) (by kernel_rfl) (by kernel_rfl) (fun _ _ _ h => h) (Or.inl ⟨by rfl, ?_⟩) (by assumption) ?_
                    rotate_left
                    · intro w hSw
                      (try dsimp only at hSw)
                      unfold RowBox at hSw
                      obtain ⟨⟨h0, h1, h2, h3, h4, h5, h6, h7, h8, h9, h10⟩, j0, j1, j2, j3, j4, j5, j6, j7, j8, j9, j10⟩ := hSw
                      go_simp
                      try with_reducible rfl
                    try simp only [Act.put, List.setIfInBounds_toArray, List.set_cons_zero, List.set_cons_succ]
                    refine wpAnyH_take (i := 10) (oi := ⟨some 133, _, _, _, _, _⟩) (v := ?_) rfl (by kernel_rfl) (by kernel_rfl) (by kernel_rfl) (fun _ _ _ h => h) (Or.inl ⟨by rfl, ?_⟩) (by assumption) ?_
                    rotate_left
                    · intro w hSw
                      (try dsimp only at hSw)
                      unfold RowBox at hSw
                      obtain ⟨⟨h0, h1, h2, h3, h4, h5, h6, h7, h8, h9, h10⟩, j0, j1, j2, j3, j4, j5, j6, j7, j8, j9, j10⟩ := hSw
                      go_simp
                      try with_reducible rfl
                    try simp only [Act.put, List.setIfInBounds_toArray, List.set_cons_zero, List.set_cons_succ]
                    refine wpAnyH_take (i := 11) (oi := ⟨some 134, _, _, _, _, _⟩) (v := ?_) rfl (by kernel_rfl) (by kernel_rfl) (by kernel_rfl) (fun _ _ _ h => h) (Or.inl ⟨by rfl, ?_⟩) (by assumption) ?_
                    rotate_left
                    · intro w hSw
                      (try dsimp only at hSw)
                      unfold RowBox at hSw
                      obtain ⟨⟨h0, h1, h2, h3, h4, h5, h6, h7, h8, h9, h10⟩, j0, j1, j2, j3, j4, j5, j6, j7, j8, j9, j10⟩ := hSw
                      go_simp
                      try with_reducible rfl
                    try simp only [Act.put, List.setIfInBounds_toArray, List.set_cons_zero, List.set_cons_succ]
                    refine wpAnyH_take (i := 12) (oi := ⟨some 135, _, _, _, _, _⟩) (v := ?_) rfl (by kernel_rfl) (by kernel_rfl) (by kernel_rfl) (fun _ _ _ h => h) (Or.inl ⟨by rfl, ?_⟩) (by assumption) ?_
                    rotate_left
                    · intro w hSw
                      (try dsimp only at hSw)
                      unfold RowBox at hSw
                      obtain ⟨⟨h0, h1, h2, h3, h4, h5, h6, h7, h8, h9, h10⟩, j0, j1, j2, j3, j4, j5, j6, j7, j8, j9, j10⟩ := hSw
                      go_simp
                      try with_reducible rfl
                    try simp only [Act.put, List.setIfInBounds_toArray, List.set_cons_zero, List.set_cons_succ]
                    refine wpAnyH_ready (rs := [13]) (by kernel_rfl) (by simp) ?_
                    refine AllReadyH.cons (o := ⟨some 136, _, _, _, _, _⟩) rfl (fun K hK => ?_) AllReadyH.nil
                    go_simp
                    go_at_call 65
                    refine (HC.out _).mono ?_
                    rintro e w3 ⟨rfl, e3⟩
                    replace hk := nextB hk e3
                    go_wp2_with fail
                    refine hK.out _ _ (HBX.out _ hk) (fun hHeld => ?_)
                    clear hK K
                    try simp only [Act.put, List.setIfInBounds_toArray, List.set_cons_zero, List.set_cons_succ]
                    refine wpAnyH_take (i := 14) (oi := ⟨some 137, _, _, _, _, _⟩) (v := ?_) rfl (by kernel_rfl) (by kernel_rfl) (by kernel_rfl) (fun _ _ _ h => h) (Or.inl ⟨by rfl, ?_⟩) (by assumption) ?_
                    rotate_left
                    · intro w hSw
                      (try dsimp only at hSw)
                      unfold RowBox at hSw
                      obtain ⟨⟨h0, h1, h2, h3, h4, h5, h6, h7, h8, h9, h10⟩, j0, j1, j2, j3, j4, j5, j6, j7, j8, j9, j10⟩ := hSw
                      go_simp
                      try with_reducible rfl
                    try simp only [Act.put, List.setIfInBounds_toArray, List.set_cons_zero, List.set_cons_succ]
                    refine wpAnyH_take (i := 15) (oi := ⟨some 138, _, _, _, _, _⟩) (v := ?_) rfl (by kernel_rfl) (by kernel_rfl) (by kernel_rfl) (fun _ _ _ h => h) (Or.inl ⟨by rfl, ?_⟩) (by assumption) ?_
                    rotate_left
                    · intro w hSw
                      (try dsimp only at hSw)
                      unfold RowBox at hSw
                      obtain ⟨⟨h0, h1, h2, h3, h4, h5, h6, h7, h8, h9, h10⟩, j0, j1, j2, j3, j4, j5, j6, j7, j8, j9, j10⟩ := hSw
                      go_simp
                      try with_reducible rfl
                    try simp only [Act.put, List.setIfInBounds_toArray, List.set_cons_zero, List.set_cons_succ]
                    refine wpAnyH_take (i := 16) (oi := ⟨some 139, _, _, _, _, _⟩) (v := ?_) rfl (by kernel_rfl) (by kernel_rfl) (by kernel_rfl) (fun _ _ _ h => h) (Or.inl ⟨by rfl, ?_⟩) (by assumption) ?_
                    rotate_left
                    · intro w hSw
                      (try dsimp only at hSw)
                      unfold RowBox at hSw
                      obtain ⟨⟨h0, h1, h2, h3, h4, h5, h6, h7, h8, h9, h10⟩, j0, j1, j2, j3, j4, j5, j6, j7, j8, j9, j10⟩ := hSw
                      go_simp
                      try with_reducible rfl
                    try simp only [Act.put, List.setIfInBounds_toArray, List.set_cons_zero, List.set_cons_succ]
                    refine wpAnyH_done (by kernel_rfl) ?_ _
                    have HW4 := Lib.hid (ownsRow_below HWj.out hk)
                    have HK4 := Lib.hid (HKj.out.trans (Keeps.below hk))
                    clear hk HBX HC hHeld HWj HKj
                    go_wp2
                    go_roundw
                    case rel => exact ⟨j2 - 1, by go_num, by omega, HDN, HW4, HK4⟩
                    case measure => simp [intOf] <;> omega
                · have hleJ : ¬ (i2 : Int) ≤ j2 := by omega
                  have HDN : Hid (scanDown (fun x => !lt8 x di[a]!) di i2 j = j2) := by show _ = _; rw [HD.out]; exact down_stop (.inl hle2)
                  have HPG : Hid (i2 ≤ j2 → lt8 di[j2]! di[a]! = true) := fun h => absurd h hle2
                  have hk : Below wr.heap.size wr wr.drew := (Below.refl _ wr).drew
                  have HW4 := Lib.hid (ownsRow_below HWj.out hk)
                  have HK4 := Lib.hid (HKj.out.trans (Keeps.below hk))
                  go_wp2_with fail
                  refine wp_region_held_drew (S := (fun _ => True)) (by kernel_rfl) ?_ (fun hHeld => ?_)
                  · trivial
                  refine wpAnyH_take (i := 0) (oi := ⟨some 123, _, _, _, _, _⟩) (v := ?_) rfl (by kernel_rfl) (by kernel_rfl) (by kernel_rfl) (fun _ _ _ h => h) (Or.inl ⟨by rfl, ?_⟩) (by assumption) ?_
                  rotate_left
                  · intro w hSw
                    (try dsimp only at hSw)
                    go_simp
                    try with_reducible rfl
                  try simp only [Act.put, List.setIfInBounds_toArray, List.set_cons_zero, List.set_cons_succ]
                  refine wpAnyH_take (i := 1) (oi := ⟨some 124, _, _, _, _, _⟩) (v := ?_) rfl (by kernel_rfl) (by kernel_rfl) (by kernel_rfl) (fun _ _ _ h => h) (Or.inl ⟨by rfl, ?_⟩) (by assumption) ?_
                  rotate_left
                  · intro w hSw
                    (try dsimp only at hSw)
                    go_simp
                    try with_reducible rfl
                  try simp only [Act.put, List.setIfInBounds_toArray, List.set_cons_zero, List.set_cons_succ]
                  refine wpAnyH_take (i := 2) (oi := ⟨some 125, _, _, _, _, _⟩) (v := ?_) rfl (by kernel_rfl) (by kernel_rfl) (by kernel_rfl) (fun _ _ _ h => h) (Or.inl ⟨by rfl, ?_⟩) (by assumption) ?_
                  rotate_left
                  · intro w hSw
                    (try dsimp only at hSw)
                    go_simp
                    try with_reducible rfl
                  try simp only [Act.put, List.setIfInBounds_toArray, List.set_cons_zero, List.set_cons_succ]
                  refine wpAnyH_take (i := 3) (oi := ⟨some 126, _, _, _, _, _⟩) (v := ?_) rfl (by kernel_rfl) (by kernel_rfl) (by kernel_rfl) (fun _ _ _ h => h) (Or.inl ⟨by rfl, ?_⟩) (by assumption) ?_
                  rotate_left
                  · intro w hSw
                    (try dsimp only at hSw)
                    go_simp
                    try with_reducible rfl
                  try simp only [Act.put, List.setIfInBounds_toArray, List.set_cons_zero, List.set_cons_succ]
                  refine wpAnyH_take (i := 4) (oi := ⟨some 127, _, _, _, _, _⟩) (v := undef) rfl (by kernel_rfl) (by kernel_rfl) (by kernel_rfl) (fun _ _ _ h => h) (Or.inr ⟨by rfl, rfl⟩) (by assumption) ?_
                  try simp only [Act.put, List.setIfInBounds_toArray, List.set_cons_zero, List.set_cons_succ]
                  refine wpAnyH_take (i := 5) (oi := ⟨some 128, _, _, _, _, _⟩) (v := undef) rfl (by kernel_rfl) (by kernel_rfl) (by kernel_rfl) (fun _ _ _ h => h) (Or.inr ⟨by rfl, rfl⟩) (by assumption) ?_
                  try simp only [Act.put, List.setIfInBounds_toArray, List.set_cons_zero, List.set_cons_succ]
                  refine wpAnyH_take (i := 6) (oi := ⟨some 129, _, _, _, _, _⟩) (v := undef) rfl (by kernel_rfl) (by kernel_rfl) (by kernel_rfl) (fun _ _ _ h => h) (Or.inr ⟨by rfl, rfl⟩) (by assumption) ?_
                  try simp only [Act.put, List.setIfInBounds_toArray, List.set_cons_zero, List.set_cons_succ]
                  refine wpAnyH_take (i := 7) (oi := ⟨some 130, _, _, _, _, _⟩) (v := undef) rfl (by kernel_rfl) (by kernel_rfl) (by kernel_rfl) (fun _ _ _ h => h) (Or.inr ⟨by rfl, rfl⟩) (by assumption) ?_
                  try simp only [Act.put, List.setIfInBounds_toArray, List.set_cons_zero, List.set_cons_succ]
                  refine wpAnyH_take (i := 8) (oi := ⟨some 131, _, _, _, _, _⟩) (v := undef) rfl (by kernel_rfl) (by kernel_rfl) (by kernel_rfl) (fun _ _ _ h => h) (Or.inr ⟨by rfl, rfl⟩) (by assumption) ?_
                  try simp only [Act.put, List.setIfInBounds_toArray, List.set_cons_zero, List.set_cons_succ]
                  refine wpAnyH_take (i := 9) (oi := ⟨some 132, _, _, _, _, _⟩) (v := undef) rfl (by kernel_rfl) (by kernel_rfl) (by kernel_rfl) (fun _ _ _ h => h) (Or.inr ⟨by rfl, rfl⟩) (by assumption) ?_
                  try simp only [Act.put, List.setIfInBounds_toArray, List.set_cons_zero, List.set_cons_succ]
                  refine wpAnyH_take (i := 10) (oi := ⟨some 133, _, _, _, _, _⟩) (v := undef) rfl (by kernel_rfl) (by kernel_rfl) (by kernel_rfl) (fun _ _ _ h => h) (Or.inr ⟨by rfl, rfl⟩) (by assumption) ?_
                  try simp only [Act.put, List.setIfInBounds_toArray, List.set_cons_zero, List.set_cons_succ]
                  refine wpAnyH_take (i := 11) (oi := ⟨some 134, _, _, _, _, _⟩) (v := undef) rfl (by kernel_rfl) (by kernel_rfl) (by kernel_rfl) (fun _ _ _ h => h) (Or.inr ⟨by rfl, rfl⟩) (by assumption) ?_
                  try simp only [Act.put, List.setIfInBounds_toArray, List.set_cons_zero, List.set_cons_succ]
                  refine wpAnyH_take (i := 12) (oi := ⟨some 135, _, _, _, _, _⟩) (v := undef) rfl (by kernel_rfl) (by kernel_rfl) (by kernel_rfl) (fun _ _ _ h => h) (Or.inr ⟨by rfl, rfl⟩) (by assumption) ?_
                  try simp only [Act.put, List.setIfInBounds_toArray, List.set_cons_zero, List.set_cons_succ]
                  refine wpAnyH_take (i := 13) (oi := ⟨some 136, _, _, _, _, _⟩) (v := undef) rfl (by kernel_rfl) (by kernel_rfl) (by kernel_rfl) (fun _ _ _ h => h) (Or.inr ⟨by rfl, rfl⟩) (by assumption) ?_
                  try simp only [Act.put, List.setIfInBounds_toArray, List.set_cons_zero, List.set_cons_succ]
                  refine wpAnyH_take (i := 14) (oi := ⟨some 137, _, _, _, _, _⟩) (v := undef) rfl (by kernel_rfl) (by kernel_rfl) (by kernel_rfl) (fun _ _ _ h => h) (Or.inr ⟨by rfl, rfl⟩) (by assumption) ?_
                  try simp only [Act.put, List.setIfInBounds_toArray, List.set_cons_zero, List.set_cons_succ]
                  refine wpAnyH_take (i := 15) (oi := ⟨some 138, _, _, _, _, _⟩) (v := undef) rfl (by kernel_rfl) (by kernel_rfl) (by kernel_rfl) (fun _ _ _ h => h) (Or.inr ⟨by rfl, rfl⟩) (by assumption) ?_
                  try simp only [Act.put, List.setIfInBounds_toArray, List.set_cons_zero, List.set_cons_succ]
                  refine wpAnyH_take (i := 16) (oi := ⟨some 139, _, _, _, _, _⟩) (v := ?_) rfl (by kernel_rfl) (by kernel_rfl) (by kernel_rfl) (fun _ _ _ h => h) (Or.inl ⟨by rfl, ?_⟩) (by assumption) ?_
                  rotate_left
                  · intro w hSw
                    (try dsimp only at hSw)
                    go_simp
                    try with_reducible rfl
                  try simp only [Act.put, List.setIfInBounds_toArray, List.set_cons_zero, List.set_cons_succ]
                  refine wpAnyH_done (by kernel_rfl) ?_ _
                  clear hk HD hHeld HWj HKj
                  go_wp2
                  go_meet
                  exact ⟨j2, rfl, hj2, HDN, HPG, HW4, HK4⟩
            case rest =>
              obtain ⟨j2, rfl, hj2, HDN, HPG, HW4, HK4⟩ := hcut
              clear HW3 HK3
              have hj2n : (j2 : Int) < n := by omega
              have hj20 : (0 : Int) ≤ j2 := by omega
              have hne : i2 ≤ j2 → i2 ≠ j2 := fun h e => by
                subst e
                have h1 := HPF.out (by omega)
                rw [HPG.out h] at h1
                cases h1
              clear HPF HPG
              by_cases hgt2 : j2 < i2
              · have hgt : (j2 : Int) < i2 := by omega
                have hRR : Hid (R = (j2, false, swp di j2 a)) := by show _ = _; rw [HR.out, ← HL.out, ploop_ge HST.out HDN.out (by omega)]
                by_cases hja : a = j2
                · subst hja
                  have hsj : (tms (cs8 di))[a]? = some di[a]!.1.1 := tms8_get (by omega)
                  obtain ⟨q2, k2⟩ := swap_row (i := a) (j := a) HW4.out hdi (by omega) (by omega)
                  obtain ⟨xj, hxj⟩ : ∃ x, di[a]! = x := ⟨_, rfl⟩
                  rw [hxj] at hsj q2 k2
                  obtain ⟨x0, x1, x2, x3, x4, x5, x6, x7, hX⟩ := eight xj.2
                  obtain ⟨c0, c1, c2, c3, c4, c5, c6, c7, c8, c9, c10⟩ := row_cells HW4.out (tms8 di) (by rw [tms8_length, hdi]) hsj hX
                  have exj : xj.1.1.cells = [.int .i64 x0, .int .i64 x1, .int .i64 x2, .int .i64 x3, .int .i64 x4, .int .i64 x5, .int .i64 x6, .int .i64 x7, .bool xj.1.1.s, .slice xj.1.1.A xj.1.1.n xj.1.1.c, .slice xj.1.1.B xj.1.1.m xj.1.1.d] := by unfold Tm.cells; rw [hX]; rfl
                  rw [exj] at q2 k2
                  simp only [World.setCells, Nat.add_assoc, Nat.reduceAdd] at q2 k2
                  have HQ := Lib.hid q2
                  have HKN := Lib.hid (HK4.out.trans k2)
                  have z0 := HW4.out.frozenAt ((a) * 11)
                  have z1 := HW4.out.frozenAt ((a) * 11 + 1)
                  have z2 := HW4.out.frozenAt ((a) * 11 + 2)
                  have z3 := HW4.out.frozenAt ((a) * 11 + 3)
                  have z4 := HW4.out.frozenAt ((a) * 11 + 4)
                  have z5 := HW4.out.frozenAt ((a) * 11 + 5)
                  have z6 := HW4.out.frozenAt ((a) * 11 + 6)
                  have z7 := HW4.out.frozenAt ((a) * 11 + 7)
                  have z8 := HW4.out.frozenAt ((a) * 11 + 8)
                  have z9 := HW4.out.frozenAt ((a) * 11 + 9)
                  have z10 := HW4.out.frozenAt ((a) * 11 + 10)
                  have hsz : (swp di (a) (a)).size = n := by rw [size_swp, hdi]
                  clear q2 k2 exj hX hsj hxj
                  go_wp2_with fail
                  go_region
                  clear c0 z0 c1 z1 c2 z2 c3 z3 c4 z4 c5 z5 c6 z6 c7 z7 c8 z8 c9 z9 c10 z10
                  go_wp2
                  exact bodyPost_ret (v := .tuple #[.int .i64 a, .bool false]) (by simp [results, Tryz.results118, go_sem]) rfl ⟨by rw [hRR.out], by rw [hRR.out]; exact World.ownsRow.drew HQ.out, Keeps.drewn HKN.out⟩
                · have hja2 : j2 ≠ a := fun e => hja e.symm
                  have hsj : (tms (cs8 di))[j2]? = some di[j2]!.1.1 := tms8_get (by omega)
                  have hsp : (tms (cs8 di))[a]? = some di[a]!.1.1 := tms8_get (by omega)
                  obtain ⟨q2, k2⟩ := swap_row (i := j2) (j := a) HW4.out hdi (by omega) (by omega)
                  obtain ⟨xj, hxj⟩ : ∃ x, di[j2]! = x := ⟨_, rfl⟩
                  obtain ⟨xp, hxp⟩ : ∃ x, di[a]! = x := ⟨_, rfl⟩
                  rw [hxj] at hsj q2 k2
                  rw [hxp] at hsp q2 k2
                  obtain ⟨x0, x1, x2, x3, x4, x5, x6, x7, hX⟩ := eight xj.2
                  obtain ⟨y0, y1, y2, y3, y4, y5, y6, y7, hY⟩ := eight xp.2
                  obtain ⟨c0, c1, c2, c3, c4, c5, c6, c7, c8, c9, c10⟩ := row_cells HW4.out (tms8 di) (by rw [tms8_length, hdi]) hsj hX
                  obtain ⟨d0, d1, d2, d3, d4, d5, d6, d7, d8, d9, d10⟩ := row_cells HW4.out (tms8 di) (by rw [tms8_length, hdi]) hsp hY
                  have exj : xj.1.1.cells = [.int .i64 x0, .int .i64 x1, .int .i64 x2, .int .i64 x3, .int .i64 x4, .int .i64 x5, .int .i64 x6, .int .i64 x7, .bool xj.1.1.s, .slice xj.1.1.A xj.1.1.n xj.1.1.c, .slice xj.1.1.B xj.1.1.m xj.1.1.d] := by unfold Tm.cells; rw [hX]; rfl
                  have exp : xp.1.1.cells = [.int .i64 y0, .int .i64 y1, .int .i64 y2, .int .i64 y3, .int .i64 y4, .int .i64 y5, .int .i64 y6, .int .i64 y7, .bool xp.1.1.s, .slice xp.1.1.A xp.1.1.n xp.1.1.c, .slice xp.1.1.B xp.1.1.m xp.1.1.d] := by unfold Tm.cells; rw [hY]; rfl
                  rw [exj, exp] at q2 k2
                  simp only [World.setCells, Nat.add_assoc, Nat.reduceAdd] at q2 k2
                  have HQ := Lib.hid q2
                  have HKN := Lib.hid (HK4.out.trans k2)
                  have z0 := HW4.out.frozenAt ((j2) * 11)
                  have u0 := HW4.out.frozenAt ((a) * 11)
                  have z1 := HW4.out.frozenAt ((j2) * 11 + 1)
                  have u1 := HW4.out.frozenAt ((a) * 11 + 1)
                  have z2 := HW4.out.frozenAt ((j2) * 11 + 2)
                  have u2 := HW4.out.frozenAt ((a) * 11 + 2)
                  have z3 := HW4.out.frozenAt ((j2) * 11 + 3)
                  have u3 := HW4.out.frozenAt ((a) * 11 + 3)
                  have z4 := HW4.out.frozenAt ((j2) * 11 + 4)
                  have u4 := HW4.out.frozenAt ((a) * 11 + 4)
                  have z5 := HW4.out.frozenAt ((j2) * 11 + 5)
                  have u5 := HW4.out.frozenAt ((a) * 11 + 5)
                  have z6 := HW4.out.frozenAt ((j2) * 11 + 6)
                  have u6 := HW4.out.frozenAt ((a) * 11 + 6)
                  have z7 := HW4.out.frozenAt ((j2) * 11 + 7)
                  have u7 := HW4.out.frozenAt ((a) * 11 + 7)
                  have z8 := HW4.out.frozenAt ((j2) * 11 + 8)
                  have u8 := HW4.out.frozenAt ((a) * 11 + 8)
                  have z9 := HW4.out.frozenAt ((j2) * 11 + 9)
                  have u9 := HW4.out.frozenAt ((a) * 11 + 9)
                  have z10 := HW4.out.frozenAt ((j2) * 11 + 10)
                  have u10 := HW4.out.frozenAt ((a) * 11 + 10)
                  have hsz : (swp di (j2) (a)).size = n := by rw [size_swp, hdi]
                  clear q2 k2 exj exp hX hY hsj hsp hxj hxp
                  go_wp2_with fail
                  go_region
                  clear c0 d0 z0 u0 c1 d1 z1 u1 c2 d2 z2 u2 c3 d3 z3 u3 c4 d4 z4 u4 c5 d5 z5 u5 c6 d6 z6 u6 c7 d7 z7 u7 c8 d8 z8 u8 c9 d9 z9 u9 c10 d10 z10 u10
                  go_wp2
                  exact bodyPost_ret (v := .tuple #[.int .i64 j2, .bool false]) (by simp [results, Tryz.results118, go_sem]) rfl ⟨by rw [hRR.out], by rw [hRR.out]; exact World.ownsRow.drew HQ.out, Keeps.drewn HKN.out⟩
              · have hgt : ¬ (j2 : Int) < i2 := by omega
                have hltn : i2 < j2 := by have := hne (by omega); omega
                have HLN : Hid (partLoop lt8 a (i2 + 1) (j2 - 1) (swp di i2 j2) = L) := by
                  show _ = _
                  rw [← HL.out]; exact (ploop_lt HST.out HDN.out (by omega) (by omega) (by omega)).symm
                have hsj : (tms (cs8 di))[i2]? = some di[i2]!.1.1 := tms8_get (by omega)
                have hsp : (tms (cs8 di))[j2]? = some di[j2]!.1.1 := tms8_get (by omega)
                obtain ⟨q2, k2⟩ := swap_row (i := i2) (j := j2) HW4.out hdi (by omega) (by omega)
                obtain ⟨xj, hxj⟩ : ∃ x, di[i2]! = x := ⟨_, rfl⟩
                obtain ⟨xp, hxp⟩ : ∃ x, di[j2]! = x := ⟨_, rfl⟩
                rw [hxj] at hsj q2 k2
                rw [hxp] at hsp q2 k2
                obtain ⟨x0, x1, x2, x3, x4, x5, x6, x7, hX⟩ := eight xj.2
                obtain ⟨y0, y1, y2, y3, y4, y5, y6, y7, hY⟩ := eight xp.2
                obtain ⟨c0, c1, c2, c3, c4, c5, c6, c7, c8, c9, c10⟩ := row_cells HW4.out (tms8 di) (by rw [tms8_length, hdi]) hsj hX
                obtain ⟨d0, d1, d2, d3, d4, d5, d6, d7, d8, d9, d10⟩ := row_cells HW4.out (tms8 di) (by rw [tms8_length, hdi]) hsp hY
                have exj : xj.1.1.cells = [.int .i64 x0, .int .i64 x1, .int .i64 x2, .int .i64 x3, .int .i64 x4, .int .i64 x5, .int .i64 x6, .int .i64 x7, .bool xj.1.1.s, .slice xj.1.1.A xj.1.1.n xj.1.1.c, .slice xj.1.1.B xj.1.1.m xj.1.1.d] := by unfold Tm.cells; rw [hX]; rfl
                have exp : xp.1.1.cells = [.int .i64 y0, .int .i64 y1, .int .i64 y2, .int .i64 y3, .int .i64 y4, .int .i64 y5, .int .i64 y6, .int .i64 y7, .bool xp.1.1.s, .slice xp.1.1.A xp.1.1.n xp.1.1.c, .slice xp.1.1.B xp.1.1.m xp.1.1.d] := by unfold Tm.cells; rw [hY]; rfl
                rw [exj, exp] at q2 k2
                simp only [World.setCells, Nat.add_assoc, Nat.reduceAdd] at q2 k2
                have HQ := Lib.hid q2
                have HKN := Lib.hid (HK4.out.trans k2)
                have z0 := HW4.out.frozenAt ((i2) * 11)
                have u0 := HW4.out.frozenAt ((j2) * 11)
                have z1 := HW4.out.frozenAt ((i2) * 11 + 1)
                have u1 := HW4.out.frozenAt ((j2) * 11 + 1)
                have z2 := HW4.out.frozenAt ((i2) * 11 + 2)
                have u2 := HW4.out.frozenAt ((j2) * 11 + 2)
                have z3 := HW4.out.frozenAt ((i2) * 11 + 3)
                have u3 := HW4.out.frozenAt ((j2) * 11 + 3)
                have z4 := HW4.out.frozenAt ((i2) * 11 + 4)
                have u4 := HW4.out.frozenAt ((j2) * 11 + 4)
                have z5 := HW4.out.frozenAt ((i2) * 11 + 5)
                have u5 := HW4.out.frozenAt ((j2) * 11 + 5)
                have z6 := HW4.out.frozenAt ((i2) * 11 + 6)
                have u6 := HW4.out.frozenAt ((j2) * 11 + 6)
                have z7 := HW4.out.frozenAt ((i2) * 11 + 7)
                have u7 := HW4.out.frozenAt ((j2) * 11 + 7)
                have z8 := HW4.out.frozenAt ((i2) * 11 + 8)
                have u8 := HW4.out.frozenAt ((j2) * 11 + 8)
                have z9 := HW4.out.frozenAt ((i2) * 11 + 9)
                have u9 := HW4.out.frozenAt ((j2) * 11 + 9)
                have z10 := HW4.out.frozenAt ((i2) * 11 + 10)
                have u10 := HW4.out.frozenAt ((j2) * 11 + 10)
                have hsz : (swp di (i2) (j2)).size = n := by rw [size_swp, hdi]
                clear q2 k2 exj exp hX hY hsj hsp hxj hxp
                clear HW4 HK4 HDN HST HL
                go_wp2_with fail
                go_region
                clear c0 d0 z0 u0 c1 d1 z1 u1 c2 d2 z2 u2 c3 d3 z3 u3 c4 d4 z4 u4 c5 d5 z5 u5 c6 d6 z6 u6 c7 d7 z7 u7 c8 d8 z8 u8 c9 d9 z9 u9 c10 d10 z10 u10
                go_wp2
                go_roundw
                case rel => exact ⟨i2 + 1, j2 - 1, swp di i2 j2, by go_num, by go_num, by omega, by omega, by omega, hsz, HLN, World.ownsRow.drew HQ.out, Keeps.drewn HKN.out⟩
                case measure => simp [intOf] <;> omega
end Go.Proofs.YtebbnmjmjoklmaaGreatDoor
