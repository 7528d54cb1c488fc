/-
  CoreReads, walked.
-/
import Derived.Test.YtlhncmnhpnhfhaaFxI
import Derived.Test.YtlhncmnhpnhfhaaFxT
import Derived.Test.YtlhncmnhpnhfhaaFxU
namespace Go.Proofs.Ytlhncmnhpnhfhaa
open Go Go.RowKit Go.Shelf
set_option maxRecDepth 20000
namespace Fx

theorem rd_lo {S : Nat → Prop} {w : World} {d : D} {v : Value} (h : Rd S w d v) : Rd (Lo w.heap.size) w d v := h.keep (Nat.le_refl _) (fun _ _ _ => rfl) fun _ _ h => h
theorem ints4 (w : World) (t : TypeId) : IntsAt (w.alloc (.cells #[.int .i64 0, .int .i64 1, .int .i64 2, .int .i64 3] t)) ⟨w.heap.size, 0, none⟩ 4 0 (((4 : Nat) : Int) - 1) := by
  refine ⟨by simp, fun i hi => ?_⟩
  have h : i = 0 ∨ i = 1 ∨ i = 2 ∨ i = 3 := by omega
  rw [add_plain, Nat.zero_add]
  rcases h with rfl | rfl | rfl | rfl
  · exact ⟨0, by simp, by omega, by omega⟩
  · exact ⟨1, by simp, by omega, by omega⟩
  · exact ⟨2, by simp, by omega, by omega⟩
  · exact ⟨3, by simp, by omega, by omega⟩

theorem own_below {w w' : World} {base sz n : Nat} {t : TypeId} {v : Value} {vs : List Value} (h : w.ownsRow base t sz v n vs) (hb : Below w.heap.size w w') : w'.ownsRow base t sz v n vs := by
  refine ⟨h.1, ?_⟩
  rcases h.2 with e | ⟨b, cap, cur, e, h1, h2, rest⟩
  · exact .inl e
  · exact .inr ⟨b, cap, cur, e, h1, (hb.block b (Array.getElem?_eq_some_iff.1 h2).1).trans h2, rest⟩

theorem own_but2 {w w' : World} {base b sz n n' c : Nat} {t : TypeId} {k : Nat} {vs : List Value} (h : w.ownsRow base t sz (.slice (some ⟨b, 0, none⟩) n c) n' vs) (hb : But k w w') (hk : b ≠ k) : w'.ownsRow base t sz (.slice (some ⟨b, 0, none⟩) n c) n' vs := by
  refine ⟨h.1, ?_⟩
  rcases h.2 with e | ⟨b', cap, cur, e, h1, h2, rest⟩
  · exact .inl e
  · cases e
    exact .inr ⟨b, c, cur, rfl, h1, (hb.block b (Array.getElem?_eq_some_iff.1 h2).1 hk).trans h2, rest⟩
theorem st_row {w : World} {base b n c : Nat} {t : TypeId} {zs : List Int} (h : w.ownsRow base t 1 (.slice (some ⟨b, 0, none⟩) n c) n (zs.map (.int .i64))) (hl : zs.length = n) : St w n (fun i => (zs[i]?).getD 0) (some ⟨b, 0, none⟩) := fun i hi => by
  refine ⟨_, rfl, ?_⟩
  have hi' : i < zs.length := by omega
  rw [add_plain, Nat.zero_add, h.cellAt i (by omega), List.getElem?_map]
  simp [hi']

set_option maxHeartbeats 4000000 in
theorem reads_walk (A : Option Addr) (n c : Nat) (w : World) (hcap : n ≤ c) (htop : c ≤ maxLen) (hI : 0 < n → ∃ ad, A = some ad ∧ IntsAt w ad n (-9223372036854775808) 9223372036854775807) :
    Calls Try.prog 4 #[.slice A n c] w (SaysTrue w) := by
  have hN := new_any A n c w hcap htop hI
  clear hI hcap htop
  go_enter Try.func4, Try.ntmps4
  go_wp2_with fail
  refine hN.mono ?_
  clear hN
  rintro e W1 ⟨g, rfl, hg, hs1, hb1⟩
  have hF := form_x 4 4 (by omega) (by omega) g 4 4 ⟨W1.heap.size, 0, none⟩ _ (hs1.below (allocB W1 (.cells #[.int .i64 0, .int .i64 1, .int .i64 2, .int .i64 3] 3))) (ints4 W1 3) (by have := hs1.size; show W1.heap.size ≠ g; omega) (by omega) (by omega)
  simp only [show ((4 : Nat) : Int) = 4 from rfl] at hF
  have hgs := hs1.size
  go_wp2_with fail
  refine hF.mono ?_
  clear hF
  rintro e W3 ⟨f, B, cc, rfl, hr, hfine, hdeep, hs3, hb3⟩
  obtain ⟨W2, hW2⟩ : ∃ W2, W1.alloc (.cells #[.int .i64 0, .int .i64 1, .int .i64 2, .int .i64 3] 3) = W2 := ⟨_, rfl⟩
  have hsW2 : W2.heap.size = W1.heap.size + 1 := by rw [← hW2]; simp
  have hb2 : Below W1.heap.size W1 W2 := by rw [← hW2]; exact allocB W1 _
  rw [hW2] at hr hb3
  clear hW2 hs1
  have hs3s := hb3.size
  have hr0 : Rd (fun k => W2.heap.size ≤ k ∧ k < W3.heap.size) W3 (.l 6 (fds f.args)) (.slice B f.args.length cc) := hr.keep (Nat.le_refl _) (fun _ _ _ => rfl) fun _ h h' => ⟨h, h'⟩
  clear hr
  have hPL := parts_len 4 200 1 f hfine hdeep
  obtain ⟨W4, hW4⟩ : ∃ W4, W3.alloc (.cells (fv6 f.op f.num B f.args.length cc) 27) = W4 := ⟨_, rfl⟩
  have hsW4 : W4.heap.size = W3.heap.size + 1 := by rw [← hW4]; simp
  have x4 : Bx W4 W3.heap.size 27 (fv6 f.op f.num B f.args.length cc) := by rw [← hW4]; exact bx_alloc _ _ _
  have b4 : But g W3 W4 := by rw [← hW4]; exact (But.refl g W3).alloc _
  have s4 : Src W4 g := by rw [← hW4]; exact hs3.below (allocB W3 _)
  have hI1 := ints_x 4 3 g W4 (by omega) (by omega) (by omega) (by omega) s4
  simp only [show ((4 : Nat) : Int) = 4 from rfl] at hI1
  clear s4 hs3
  go_wp2_with fail
  try rw [hW4]
  refine hI1.mono ?_
  clear hI1 hW4
  rintro e W5 ⟨ba, ca, za, rfl, qa1, qa2, qa3, qa4, rowa, rza, s5, b5⟩
  have hI2 := ints_x 4 3 g W5 (by omega) (by omega) (by omega) (by omega) s5
  simp only [show ((4 : Nat) : Int) = 4 from rfl] at hI2
  go_wp2_with fail
  refine hI2.mono ?_
  clear hI2 s5
  rintro e W6 ⟨bb, cb, zb, rfl, qb1, qb2, qb3, qb4, rowb, rzb, s6, b6⟩
  have z5 := b5.size
  have z6 := b6.size
  have b36 : But g W3 W6 := (b4.trans b5).trans b6
  have x6 : Bx W6 W3.heap.size 27 (fv6 f.op f.num B f.args.length cc) := (x4.but b5 (by omega)).but b6 (by omega)
  have hr6 : Rd (fun k => W2.heap.size ≤ k ∧ k < W3.heap.size) W6 (.l 6 (fds f.args)) (.slice B f.args.length cc) := hr0.keep b36.size (fun k hk hl => b36.block k hl (by omega)) fun _ h _ => h
  have rowa6 := own_but rowa b6 (by omega)
  have la : ba < W5.heap.size := rowa.lt ba rfl |>.2
  have lb : bb < W6.heap.size := rowb.lt bb rfl |>.2
  clear x4 hr0 rowa
  have hRd := reads_x (f := f) (v := fv6 f.op f.num B f.args.length cc) ⟨_, _, _, _, _, rfl, rd_lo hr6⟩ (Nat.le_trans hPL (by decide))
  go_wp2_with (refine wpList_load_row rfl 27 (.tmp 4) rfl W3.heap.size rfl 27 _ (0, 0) (.struct _) x6 rfl rfl (by kernel_rfl) ?_)
  refine hRd.mono ?_
  clear hRd
  rintro e W7 ⟨Ar, cr, rfl, hcr, hcm, hir, hb7⟩
  unfold maxLen at hcm
  have z7 := hb7.size
  have hspec := asc_spec (vars f)
  have hvr : ∀ v ∈ asc (vars f), 0 ≤ v ∧ v < 4 := by
    intro v hv
    have hv2 := (hspec.2 v).1 hv
    simp only [vars, List.mem_map, List.mem_filter] at hv2
    obtain ⟨p, ⟨hp, h3⟩, rfl⟩ := hv2
    exact (parts_fine 200 1 f hfine p hp).eq.2.2.1 (by simpa [isVar] using h3)
  obtain ⟨R, hR⟩ : ∃ R, asc (vars f) = R := ⟨_, rfl⟩
  rw [hR] at hvr hspec hir hcr
  have HR := Lib.hid hR
  have HSP := Lib.hid hspec
  clear hR hspec
  have x7 : Bx W7 W3.heap.size 27 (fv6 f.op f.num B f.args.length cc) := (hb7.block _ (by omega)).trans x6
  have rowa7 := own_below rowa6 hb7
  have rowb7 := own_below rowb hb7
  clear rowa6 rowb x6
  rw [HR.out]
  go_wp2_with fail
  go_loopw [8] (fun q wr => ∃ (i : Nat) (zc : List Int), q = .int .i64 i ∧ i ≤ R.length ∧ zc.length = 4 ∧ wr.ownsRow W5.heap.size 3 1 (.slice (some ⟨bb, 0, none⟩) 4 cb) 4 (zc.map (.int .i64)) ∧ (∀ j v, j < i → R[j]? = some v → zc[v.toNat]? = za[v.toNat]?) ∧ But bb W7 wr)
    (fun q _ => R.length - (intOf q).toNat)
  case atStart =>
    exact ⟨0, zb, rfl, Nat.zero_le _, qb2, rowb7, fun j v hj => absurd hj (by omega), But.refl _ _⟩
  case round =>
    obtain ⟨i, zc, rfl, hi, hzc, rowc, hag, hbr⟩ := hrel
    by_cases hlt : i < R.length
    · obtain ⟨v, hv⟩ : ∃ v, R[i]? = some v := ⟨_, List.getElem?_eq_getElem hlt⟩
      obtain ⟨br, rfl, hbr0, kr7⟩ := hir i v hv
      obtain ⟨v0, v4⟩ := hvr v (List.mem_of_getElem? hv)
      obtain ⟨u, rfl⟩ := Int.eq_ofNat_of_zero_le v0
      have hu : u < 4 := by omega
      obtain ⟨x, hx⟩ : ∃ x, za[u]? = some x := ⟨_, List.getElem?_eq_getElem (by omega)⟩
      have kr := (hbr.cell (p := ⟨br, i, none⟩) (World.block_lt_of_cell? W7 _ kr7) (by simp; omega)).trans kr7
      have ka7 : W7.cell? ⟨ba, u, none⟩ = some (.int .i64 x) := by rw [rowa7.cellAt u (by omega), List.getElem?_map, hx]; rfl
      have ka := (hbr.cell (p := ⟨ba, u, none⟩) (World.block_lt_of_cell? W7 _ ka7) (by simp; omega)).trans ka7
      have kb : ∃ y, wr.cell? ⟨bb, u, none⟩ = some (.int .i64 y) := by
        rw [rowc.cellAt u (by omega), List.getElem?_map, List.getElem?_eq_getElem (by omega)]; exact ⟨_, rfl⟩
      obtain ⟨y, kb⟩ := kb
      have fb := rowc.frozenAt u
      have hprev : ∀ j, i = j + 1 → ∃ p : Nat, wr.cell? ⟨br, j, none⟩ = some (.int .i64 p) ∧ p < u := by
        rintro j rfl
        obtain ⟨p, hp⟩ : ∃ p, R[j]? = some p := ⟨_, List.getElem?_eq_getElem (by omega)⟩
        obtain ⟨br', e, _, kp7⟩ := hir j p hp
        cases e
        obtain ⟨p0, _⟩ := hvr p (List.mem_of_getElem? hp)
        obtain ⟨p, rfl⟩ := Int.eq_ofNat_of_zero_le p0
        refine ⟨p, (hbr.cell (p := ⟨br, j, none⟩) (World.block_lt_of_cell? W7 _ kp7) (by simp; omega)).trans kp7, ?_⟩
        have hlt2 := List.pairwise_iff_getElem.1 HSP.out.1 j (j + 1) (by omega) hlt (by omega)
        rw [(List.getElem?_eq_some_iff.1 hp).2, (List.getElem?_eq_some_iff.1 hv).2] at hlt2
        omega
      have hlt' : (i : Int) < (R.length : Int) := by omega
      have nxt : ∀ m, ∃ zc' : List Int, i + 1 ≤ R.length ∧ zc'.length = 4 ∧ ((wr.drewN m).setCell ⟨bb, u, none⟩ (.int .i64 x)).ownsRow W5.heap.size 3 1 (.slice (some ⟨bb, 0, none⟩) 4 cb) 4 (zc'.map (.int .i64)) ∧
          (∀ j v, j < i + 1 → R[j]? = some v → zc'[v.toNat]? = za[v.toNat]?) ∧ But bb W7 ((wr.drewN m).setCell ⟨bb, u, none⟩ (.int .i64 x)) := by
        intro m
        have r2 : (wr.drewN m).ownsRow W5.heap.size 3 1 (.slice (some ⟨bb, 0, none⟩) 4 cb) 4 (zc.map (.int .i64)) := rowc
        refine ⟨zc.set u x, by omega, by simp [hzc], by rw [List.map_set]; exact (r2.stored u _).1, fun j v' hj hv' => ?_, (hbr.drewN m).set u _⟩
        by_cases e : u = v'.toNat
        · rw [← e, List.getElem?_set_self (by omega), hx]
        · rw [List.getElem?_set_ne e]
          refine hag j v' ?_ hv'
          by_cases e2 : j = i
          · subst e2
            rw [hv] at hv'
            cases hv'
            exact absurd (Int.toNat_natCast u).symm e
          · omega
      have NX := Lib.hid nxt
      clear nxt
      clear hx hv hag rowc kr7 ka7 hir rowa7 rowb7 hbr
      cases i with
      | zero =>
        clear hprev
        simp only [Int.natCast_zero] at hlt'
        go_wp2_with fail
        have d0 : ¬ (u : Int) < 0 := by omega
        have d3 : ¬ (3 : Int) < (u : Int) := by omega
        go_quiet (fail)
        go_wp2_with fail
        refine wp_region_held_drew (S := fun V => V.cell? ⟨br, 0, none⟩ = some (.int .i64 u) ∧ V.cell? ⟨ba, u, none⟩ = some (.int .i64 x)) (by kernel_rfl) ?_ (fun hHeld => ?_)
        · exact ⟨kr, ka⟩
        refine tkH (i := 0) (oi := ⟨some 58, _, _, _, _, _⟩) (v := ?_) ?_ ?_
        rotate_left
        · intro W hSw
          obtain ⟨z1, z2⟩ := hSw
          go_simp
          try (first | with_reducible rfl | exact rfl)
        try simp only [Act.put, List.setIfInBounds_toArray, List.set_cons_zero, List.set_cons_succ]
        refine tkH (i := 1) (oi := ⟨some 59, _, _, _, _, _⟩) (v := ?_) ?_ ?_
        rotate_left
        · intro W hSw
          obtain ⟨z1, z2⟩ := hSw
          go_simp
          try (first | with_reducible rfl | exact rfl)
        try simp only [Act.put, List.setIfInBounds_toArray, List.set_cons_zero, List.set_cons_succ]
        refine tkH (i := 2) (oi := ⟨some 60, _, _, _, _, _⟩) (v := ?_) ?_ ?_
        rotate_left
        · intro W hSw
          obtain ⟨z1, z2⟩ := hSw
          go_simp
          try (first | with_reducible rfl | exact rfl)
        try simp only [Act.put, List.setIfInBounds_toArray, List.set_cons_zero, List.set_cons_succ]
        refine tkH (i := 3) (oi := ⟨some 61, _, _, _, _, _⟩) (v := ?_) ?_ ?_
        rotate_left
        · intro W hSw
          obtain ⟨z1, z2⟩ := hSw
          go_simp
          try (first | with_reducible rfl | exact rfl)
        try simp only [Act.put, List.setIfInBounds_toArray, List.set_cons_zero, List.set_cons_succ]
        refine tkH (i := 4) (oi := ⟨some 62, _, _, _, _, _⟩) (v := ?_) ?_ ?_
        rotate_left
        · intro W hSw
          obtain ⟨z1, z2⟩ := hSw
          go_simp
          try (first | with_reducible rfl | exact rfl)
        try simp only [Act.put, List.setIfInBounds_toArray, List.set_cons_zero, List.set_cons_succ]
        refine tkH (i := 5) (oi := ⟨some 63, _, _, _, _, _⟩) (v := ?_) ?_ ?_
        rotate_left
        · intro W hSw
          obtain ⟨z1, z2⟩ := hSw
          go_simp
          try (first | with_reducible rfl | exact rfl)
        try simp only [Act.put, List.setIfInBounds_toArray, List.set_cons_zero, List.set_cons_succ]
        refine tkH (i := 6) (oi := ⟨some 64, _, _, _, _, _⟩) (v := ?_) ?_ ?_
        rotate_left
        · intro W hSw
          obtain ⟨z1, z2⟩ := hSw
          go_simp
          try (first | with_reducible rfl | exact rfl)
        try simp only [Act.put, List.setIfInBounds_toArray, List.set_cons_zero, List.set_cons_succ]
        refine tkH (i := 7) (oi := ⟨some 65, _, _, _, _, _⟩) (v := ?_) ?_ ?_
        rotate_left
        · intro W hSw
          obtain ⟨z1, z2⟩ := hSw
          go_simp
          try (first | with_reducible rfl | exact rfl)
        try simp only [Act.put, List.setIfInBounds_toArray, List.set_cons_zero, List.set_cons_succ]
        refine tkH (i := 8) (oi := ⟨some 66, _, _, _, _, _⟩) (v := ?_) ?_ ?_
        rotate_left
        · intro W hSw
          obtain ⟨z1, z2⟩ := hSw
          go_simp
          try (first | with_reducible rfl | exact rfl)
        try simp only [Act.put, List.setIfInBounds_toArray, List.set_cons_zero, List.set_cons_succ]
        refine tkH (i := 9) (oi := ⟨some 67, _, _, _, _, _⟩) (v := ?_) ?_ ?_
        rotate_left
        · intro W hSw
          obtain ⟨z1, z2⟩ := hSw
          go_simp
          try (first | with_reducible rfl | exact rfl)
        try simp only [Act.put, List.setIfInBounds_toArray, List.set_cons_zero, List.set_cons_succ]
        refine tkH (i := 10) (oi := ⟨some 68, _, _, _, _, _⟩) (v := ?_) ?_ ?_
        rotate_left
        · intro W hSw
          obtain ⟨z1, z2⟩ := hSw
          go_simp
          try (first | with_reducible rfl | exact rfl)
        try simp only [Act.put, List.setIfInBounds_toArray, List.set_cons_zero, List.set_cons_succ]
        refine tkH (i := 11) (oi := ⟨some 69, _, _, _, _, _⟩) (v := ?_) ?_ ?_
        rotate_left
        · intro W hSw
          obtain ⟨z1, z2⟩ := hSw
          go_simp
          try (first | with_reducible rfl | exact rfl)
        try simp only [Act.put, List.setIfInBounds_toArray, List.set_cons_zero, List.set_cons_succ]
        refine tkH (i := 12) (oi := ⟨some 70, _, _, _, _, _⟩) (v := ?_) ?_ ?_
        rotate_left
        · intro W hSw
          obtain ⟨z1, z2⟩ := hSw
          go_simp
          try (first | with_reducible rfl | exact rfl)
        try simp only [Act.put, List.setIfInBounds_toArray, List.set_cons_zero, List.set_cons_succ]
        refine wpAnyH_ready (rs := [13]) (by kernel_rfl) (by simp) ?_
        refine AllReadyH.cons (o := ⟨none, _, _, _, _, _⟩) rfl (fun K hK => ?_) AllReadyH.nil
        go_simp
        refine hK.out _ _ (⟨by show World.cell? (World.setCell _ _ _) _ = _; rw [World.cell?_setCell_far _ _ _ _ (by simp; omega)]; exact kr, by show World.cell? (World.setCell _ _ _) _ = _; rw [World.cell?_setCell_far _ _ _ _ (by simp; omega)]; exact ka⟩) (fun hHeld => ?_)
        clear hK K
        try simp only [Act.put, List.setIfInBounds_toArray, List.set_cons_zero, List.set_cons_succ]
        refine wpAnyH_done (by kernel_rfl) ?_ _
        go_wp2_with fail
        obtain ⟨zc', c1, c2, c3, c4, c5⟩ := NX.out (nq + 1)
        exact ⟨⟨_, zc', rfl, c1, c2, c3, c4, c5⟩, by simp [intOf]; omega⟩
      | succ j =>
        obtain ⟨p, kp, hpu⟩ := hprev j rfl
        clear hprev
        go_wp2_with fail
        have d0 : ¬ (u : Int) < 0 := by omega
        have d3 : ¬ (3 : Int) < (u : Int) := by omega
        have dp : ¬ (u : Int) ≤ (p : Int) := by omega
        have dj : (0 : Int) < (j : Int) + 1 := by omega
        go_quiet (fail)
        go_wp2_with fail
        refine wp_region_held_drew (S := fun V => V.cell? ⟨br, j + 1, none⟩ = some (.int .i64 u) ∧ V.cell? ⟨ba, u, none⟩ = some (.int .i64 x)) (by kernel_rfl) ?_ (fun hHeld => ?_)
        · exact ⟨kr, ka⟩
        refine tkH (i := 0) (oi := ⟨some 58, _, _, _, _, _⟩) (v := ?_) ?_ ?_
        rotate_left
        · intro W hSw
          obtain ⟨z1, z2⟩ := hSw
          go_simp
          try (first | with_reducible rfl | exact rfl)
        try simp only [Act.put, List.setIfInBounds_toArray, List.set_cons_zero, List.set_cons_succ]
        refine tkH (i := 1) (oi := ⟨some 59, _, _, _, _, _⟩) (v := ?_) ?_ ?_
        rotate_left
        · intro W hSw
          obtain ⟨z1, z2⟩ := hSw
          go_simp
          try (first | with_reducible rfl | exact rfl)
        try simp only [Act.put, List.setIfInBounds_toArray, List.set_cons_zero, List.set_cons_succ]
        refine tkH (i := 2) (oi := ⟨some 60, _, _, _, _, _⟩) (v := ?_) ?_ ?_
        rotate_left
        · intro W hSw
          obtain ⟨z1, z2⟩ := hSw
          go_simp
          try (first | with_reducible rfl | exact rfl)
        try simp only [Act.put, List.setIfInBounds_toArray, List.set_cons_zero, List.set_cons_succ]
        refine tkH (i := 3) (oi := ⟨some 61, _, _, _, _, _⟩) (v := ?_) ?_ ?_
        rotate_left
        · intro W hSw
          obtain ⟨z1, z2⟩ := hSw
          go_simp
          try (first | with_reducible rfl | exact rfl)
        try simp only [Act.put, List.setIfInBounds_toArray, List.set_cons_zero, List.set_cons_succ]
        refine tkH (i := 4) (oi := ⟨some 62, _, _, _, _, _⟩) (v := ?_) ?_ ?_
        rotate_left
        · intro W hSw
          obtain ⟨z1, z2⟩ := hSw
          go_simp
          try (first | with_reducible rfl | exact rfl)
        try simp only [Act.put, List.setIfInBounds_toArray, List.set_cons_zero, List.set_cons_succ]
        refine tkH (i := 5) (oi := ⟨some 63, _, _, _, _, _⟩) (v := ?_) ?_ ?_
        rotate_left
        · intro W hSw
          obtain ⟨z1, z2⟩ := hSw
          go_simp
          try (first | with_reducible rfl | exact rfl)
        try simp only [Act.put, List.setIfInBounds_toArray, List.set_cons_zero, List.set_cons_succ]
        refine tkH (i := 6) (oi := ⟨some 64, _, _, _, _, _⟩) (v := ?_) ?_ ?_
        rotate_left
        · intro W hSw
          obtain ⟨z1, z2⟩ := hSw
          go_simp
          try (first | with_reducible rfl | exact rfl)
        try simp only [Act.put, List.setIfInBounds_toArray, List.set_cons_zero, List.set_cons_succ]
        refine tkH (i := 7) (oi := ⟨some 65, _, _, _, _, _⟩) (v := ?_) ?_ ?_
        rotate_left
        · intro W hSw
          obtain ⟨z1, z2⟩ := hSw
          go_simp
          try (first | with_reducible rfl | exact rfl)
        try simp only [Act.put, List.setIfInBounds_toArray, List.set_cons_zero, List.set_cons_succ]
        refine tkH (i := 8) (oi := ⟨some 66, _, _, _, _, _⟩) (v := ?_) ?_ ?_
        rotate_left
        · intro W hSw
          obtain ⟨z1, z2⟩ := hSw
          go_simp
          try (first | with_reducible rfl | exact rfl)
        try simp only [Act.put, List.setIfInBounds_toArray, List.set_cons_zero, List.set_cons_succ]
        refine tkH (i := 9) (oi := ⟨some 67, _, _, _, _, _⟩) (v := ?_) ?_ ?_
        rotate_left
        · intro W hSw
          obtain ⟨z1, z2⟩ := hSw
          go_simp
          try (first | with_reducible rfl | exact rfl)
        try simp only [Act.put, List.setIfInBounds_toArray, List.set_cons_zero, List.set_cons_succ]
        refine tkH (i := 10) (oi := ⟨some 68, _, _, _, _, _⟩) (v := ?_) ?_ ?_
        rotate_left
        · intro W hSw
          obtain ⟨z1, z2⟩ := hSw
          go_simp
          try (first | with_reducible rfl | exact rfl)
        try simp only [Act.put, List.setIfInBounds_toArray, List.set_cons_zero, List.set_cons_succ]
        refine tkH (i := 11) (oi := ⟨some 69, _, _, _, _, _⟩) (v := ?_) ?_ ?_
        rotate_left
        · intro W hSw
          obtain ⟨z1, z2⟩ := hSw
          go_simp
          try (first | with_reducible rfl | exact rfl)
        try simp only [Act.put, List.setIfInBounds_toArray, List.set_cons_zero, List.set_cons_succ]
        refine tkH (i := 12) (oi := ⟨some 70, _, _, _, _, _⟩) (v := ?_) ?_ ?_
        rotate_left
        · intro W hSw
          obtain ⟨z1, z2⟩ := hSw
          go_simp
          try (first | with_reducible rfl | exact rfl)
        try simp only [Act.put, List.setIfInBounds_toArray, List.set_cons_zero, List.set_cons_succ]
        refine wpAnyH_ready (rs := [13]) (by kernel_rfl) (by simp) ?_
        refine AllReadyH.cons (o := ⟨none, _, _, _, _, _⟩) rfl (fun K hK => ?_) AllReadyH.nil
        go_simp
        refine hK.out _ _ (⟨by show World.cell? (World.setCell _ _ _) _ = _; rw [World.cell?_setCell_far _ _ _ _ (by simp; omega)]; exact kr, by show World.cell? (World.setCell _ _ _) _ = _; rw [World.cell?_setCell_far _ _ _ _ (by simp; omega)]; exact ka⟩) (fun hHeld => ?_)
        clear hK K
        try simp only [Act.put, List.setIfInBounds_toArray, List.set_cons_zero, List.set_cons_succ]
        refine wpAnyH_done (by kernel_rfl) ?_ _
        go_wp2_with fail
        obtain ⟨zc', c1, c2, c3, c4, c5⟩ := NX.out (nq + 1)
        exact ⟨⟨_, zc', rfl, c1, c2, c3, c4, c5⟩, by simp [intOf]; omega⟩
    · obtain rfl : i = R.length := by omega
      have hrr : Rd (fun k => W2.heap.size ≤ k ∧ k < W3.heap.size) wr (.l 6 (fds f.args)) (.slice B f.args.length cc) :=
        (hr6.keep (S' := fun k => W2.heap.size ≤ k ∧ k < W3.heap.size) hb7.size (fun k _ hl => hb7.block k hl) fun _ h _ => h).keep hbr.size (fun k hk hl => hbr.block k hl (by omega)) fun _ h _ => h
      have xr : Bx wr W3.heap.size 27 (fv6 f.op f.num B f.args.length cc) := x7.but hbr (by omega)
      have rowar : wr.ownsRow W4.heap.size 3 1 (.slice (some ⟨ba, 0, none⟩) 4 ca) 4 (za.map (.int .i64)) := own_but2 rowa7 hbr (by omega)
      have h0 : ferr 4 f = 0 := ferr_zero.2 ⟨hfine, hdeep.up 200 (by omega)⟩
      have hev : ev (fun i => (za[i]?).getD 0) f = ev (fun i => (zc[i]?).getD 0) f := by
        refine ev_congr 4 200 1 f hfine hdeep (by omega) fun p hp h3 => ?_
        have hm : p.2.num ∈ R := (HSP.out.2 _).2 (by
          rw [vars, List.mem_map]
          exact ⟨p, List.mem_filter.2 ⟨hp, by simp [isVar, h3]⟩, rfl⟩)
        obtain ⟨j, hj, e⟩ := List.getElem_of_mem hm
        have := hag j p.2.num hj (by rw [List.getElem?_eq_getElem hj, e])
        simp only [this]
      have hE1 := eval_x (nv := 4) (c := ca) (s := fun i => (za[i]?).getD 0) (A := some ⟨ba, 0, none⟩) (w := wr) (f := f) (v := fv6 f.op f.num B f.args.length cc) (by omega) ⟨_, _, _, _, _, rfl, rd_lo hrr⟩ (st_row rowar qa2)
      have hE2 := fun W8 (hb8 : Below wr.heap.size wr W8) => eval_x (nv := 4) (c := cb) (s := fun i => (zc[i]?).getD 0) (A := some ⟨bb, 0, none⟩) (w := W8) (f := f) (v := fv6 f.op f.num B f.args.length cc) (by omega) ⟨_, _, _, _, _, rfl, rd_lo (hrr.keep hb8.size (fun k _ hl => hb8.block k hl) fun _ h _ => h)⟩ (st_row (own_below rowc hb8) hzc)
      simp only [ePair, h0, if_true, ← hev] at hE1 hE2
      have xr8 := fun W8 (hb8 : Below wr.heap.size wr W8) => (show Bx W8 W3.heap.size 27 (fv6 f.op f.num B f.args.length cc) from (hb8.block _ xr.lt).trans xr)
      have zr := hbr.size
      have hfin : Below w.heap.size w wr := (((hb1.trans (hb2.mono (by omega))).trans (((hb3.trans b36).below hg (by omega)))).trans (hb7.mono (by omega))).trans (hbr.below (by omega) (by omega))
      have HF := Lib.hid hfin
      have zw := hfin.size
      generalize ev (fun i => (za[i]?).getD 0) f = y at hE1 hE2
      clear hev hfin hrr h0 hr6 hag rowc rowar rowa7 rowb7 hvr hir hPL hfine hdeep hbr
      go_wp2_with (first
        | (refine wpList_load_row rfl 27 (.tmp 4) rfl W3.heap.size rfl 27 _ (0, 0) (.struct _) xr rfl rfl (by kernel_rfl) ?_)
        | (with_reducible refine hE1.mono ?_; clear hE1 xr; rintro e W8 ⟨rfl, hb8⟩; (have hE3 := hE2 W8 hb8); (have xr2 := xr8 W8 hb8); clear hE2 xr8)
        | (refine wpList_load_row rfl 27 (.tmp 4) rfl W3.heap.size rfl 27 _ (0, 0) (.struct _) xr2 rfl rfl (by kernel_rfl) ?_)
        | (with_reducible refine hE3.mono ?_; clear hE3; rintro e W9 ⟨rfl, hb9⟩)
        | (refine (awake_x _).mono ?_; rintro e W10 ⟨rfl, hb10⟩))
      go_ret
      exact ⟨rfl, (((HF.out.trans (hb8.mono zw)).trans (hb9.mono (Nat.le_trans zw hb8.size))).trans (hb10.mono (Nat.le_trans zw (Nat.le_trans hb8.size hb9.size))))⟩
end Fx
end Go.Proofs.Ytlhncmnhpnhfhaa
