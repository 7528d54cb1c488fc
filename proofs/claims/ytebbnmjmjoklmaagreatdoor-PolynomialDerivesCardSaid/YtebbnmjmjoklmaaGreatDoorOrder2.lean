/-
  slices.order2CmpFunc, medianCmpFunc and medianAdjacentCmpFunc over a row of terms, with the order of the normal form.
-/
import Derived.Test.YtebbnmjmjoklmaaGreatDoorInsert
namespace Go.Proofs.YtebbnmjmjoklmaaGreatDoor
open Go Go.RowKit Go.WideMaps Go.Sort
set_option maxRecDepth 20000

/-- What one of these leaves: the number of swaps, and everything else. -/
structure Left2 (w w' : World) (base g cap p : Nat) (d : Array Q8) (s : Nat) : Prop where
  cell : w'.cell? ⟨p, 0, none⟩ = some (.int .i64 s)
  free : w'.frozen? ⟨p, 0, none⟩ = false
  row : w'.ownsRow base 47 11 (.slice (some ⟨g, 0, none⟩) d.size cap) d.size (rowOf (tms (cs8 d)))
  keeps : Keeps p p p w w'

set_option maxHeartbeats 8000000 in
theorem order2_x {w : World} {base g cap p a b s : Nat} {d : Array Q8} (h : Left2 w w base g cap p d s) (hn : d.size < 1000000) (ha : a < d.size) (hb : b < d.size) (hpg : p ≠ g) (hpl : p < w.heap.size) (hs : s ≤ 1000) :
    Calls Tryz.prog 158 #[.slice (some ⟨g, 0, none⟩) d.size cap, .int .i64 a, .int .i64 b, .pointer (some ⟨p, 0, none⟩), .func (.func 65) #[.int .i64 (-1)] #[]] w fun e w' =>
      e = .returned (.tuple #[.int .i64 (order2 lt8 d a b s).1, .int .i64 (order2 lt8 d a b s).2.1]) ∧ Left2 w w' base g cap p d (order2 lt8 d a b s).2.2 := by
  have _h9 := hn
  obtain ⟨n, hlen⟩ : ∃ n, d.size = n := ⟨_, rfl⟩
  obtain ⟨hpc, hpf, hrow, _⟩ := h
  rw [hlen] at hrow hn ha hb ⊢
  have ha2 : (a : Int) < n := by omega
  have hb2 : (b : Int) < n := by omega
  have ha3 : (0 : Int) ≤ a := by omega
  have hb3 : (0 : Int) ≤ b := by omega
  have hsj : (tms (cs8 d))[b]? = some d[b]!.1.1 := tms8_get (by omega)
  have hsp : (tms (cs8 d))[a]? = some d[a]!.1.1 := tms8_get (by omega)
  have hlt8 := lt8_cmp d[b]! d[a]!
  obtain ⟨xj, hxj⟩ : ∃ x, d[b]! = x := ⟨_, rfl⟩
  obtain ⟨xp, hxp⟩ : ∃ x, d[a]! = x := ⟨_, rfl⟩
  have HO : Hid (order2 lt8 d a b s = if lt8 xj xp then (b, a, s + 1) else (a, b, s)) := by rw [← hxj, ← hxp]; rfl
  rw [hxj, hxp] at hlt8
  rw [hxj] at hsj
  rw [hxp] at hsp
  obtain ⟨x0, x1, x2, x3, x4, x5, x6, x7, hX⟩ := eight xj.2
  obtain ⟨y0, y1, y2, y3, y4, y5, y6, y7, hY⟩ := eight xp.2
  obtain ⟨c0, c1, c2, c3, c4, c5, c6, c7, c8, c9, c10⟩ := row_cells hrow (tms8 d) (by rw [tms8_length, hlen]) hsj hX
  obtain ⟨d0, d1, d2, d3, d4, d5, d6, d7, d8, d9, d10⟩ := row_cells hrow (tms8 d) (by rw [tms8_length, hlen]) hsp hY
  have hgl : g < w.heap.size := (hrow.lt g rfl).2
  obtain ⟨r, hr⟩ : ∃ r, -cmpL [x0, x1, x2, x3, x4, x5, x6, x7] [y0, y1, y2, y3, y4, y5, y6, y7] = r := ⟨_, rfl⟩
  have hcg : ∀ n' os', Calls Tryz.prog 65 #[.int .i64 (-1), .agg #[.int .i64 x0, .int .i64 x1, .int .i64 x2, .int .i64 x3, .int .i64 x4, .int .i64 x5, .int .i64 x6, .int .i64 x7, .bool xj.1.1.s, .slice xj.1.1.A xj.1.1.n xj.1.1.c, .slice xj.1.1.B xj.1.1.m xj.1.1.d], .agg #[.int .i64 y0, .int .i64 y1, .int .i64 y2, .int .i64 y3, .int .i64 y4, .int .i64 y5, .int .i64 y6, .int .i64 y7, .bool xp.1.1.s, .slice xp.1.1.A xp.1.1.n xp.1.1.c, .slice xp.1.1.B xp.1.1.m xp.1.1.d]] (grow (w.drewN n') os') fun e w' => e = .returned (.int .i64 r) ∧ ∃ q os'', w' = grow ((grow (w.drewN n') os').drewN q) os'' := fun n' os' => by
    rw [← hr]; exact compare_g _ _ _ _ _ _ _ _ _ _ _ _ _ _ _ _ _ _ _ _ _ _ _ _ _ _ _ _ _ _ _
  rw [hX, hY, hr] at hlt8
  have c0' := fun n' os' => cell_grown (os := os') (n := n') hgl c0
  have d0' := fun n' os' => cell_grown (os := os') (n := n') hgl d0
  have c1' := fun n' os' => cell_grown (os := os') (n := n') hgl c1
  have d1' := fun n' os' => cell_grown (os := os') (n := n') hgl d1
  have c2' := fun n' os' => cell_grown (os := os') (n := n') hgl c2
  have d2' := fun n' os' => cell_grown (os := os') (n := n') hgl d2
  have c3' := fun n' os' => cell_grown (os := os') (n := n') hgl c3
  have d3' := fun n' os' => cell_grown (os := os') (n := n') hgl d3
  have c4' := fun n' os' => cell_grown (os := os') (n := n') hgl c4
  have d4' := fun n' os' => cell_grown (os := os') (n := n') hgl d4
  have c5' := fun n' os' => cell_grown (os := os') (n := n') hgl c5
  have d5' := fun n' os' => cell_grown (os := os') (n := n') hgl d5
  have c6' := fun n' os' => cell_grown (os := os') (n := n') hgl c6
  have d6' := fun n' os' => cell_grown (os := os') (n := n') hgl d6
  have c7' := fun n' os' => cell_grown (os := os') (n := n') hgl c7
  have d7' := fun n' os' => cell_grown (os := os') (n := n') hgl d7
  have c8' := fun n' os' => cell_grown (os := os') (n := n') hgl c8
  have d8' := fun n' os' => cell_grown (os := os') (n := n') hgl d8
  have c9' := fun n' os' => cell_grown (os := os') (n := n') hgl c9
  have d9' := fun n' os' => cell_grown (os := os') (n := n') hgl d9
  have c10' := fun n' os' => cell_grown (os := os') (n := n') hgl c10
  have d10' := fun n' os' => cell_grown (os := os') (n := n') hgl d10
  have HLEN := Lib.hid hlen
  have HROW := Lib.hid hrow
  have HLT := Lib.hid hlt8
  have HPC := Lib.hid hpc
  have HPF := Lib.hid hpf
  clear hX hY hsj hsp hlt8 hxj hxp hr hlen hrow hpc hpf c0 c1 c2 c3 c4 c5 c6 c7 c8 c9 c10 d0 d1 d2 d3 d4 d5 d6 d7 d8 d9 d10
  have hmix : Tryz.prog.follows .mixedOrders = true := by kernel_rfl
  go_enter Tryz.func158, Tryz.ntmps158
  by_cases hlv : r < 0
  · have HO2 : Hid (order2 lt8 d a b s = (b, a, s + 1)) := by show _ = _; rw [HO.out, if_pos (HLT.out.1 hlv)]
    rw [HO2.out]
    go_wp2_with fail
    go_quiet_grown (first | (go_at_call 65; refine Calls.grown_of (hcg _ _)))
    have hbz : Below w.heap.size w (grow (w.drewN nq) osq) := growBelow nq osq
    clear hcg c0' c1' c2' c3' c4' c5' c6' c7' c8' c9' c10' d0' d1' d2' d3' d4' d5' d6' d7' d8' d9' d10'
    generalize grow (w.drewN nq) osq = wz at hbz ⊢
    have hpc2 : wz.cell? ⟨p, 0, none⟩ = some (.int .i64 s) := (hbz.cell (p := ⟨p, 0, none⟩) hpl).trans HPC.out
    have hpf2 : wz.frozen? ⟨p, 0, none⟩ = false := (hbz.frozen (p := ⟨p, 0, none⟩) hpl).trans HPF.out
    have HRZ := Lib.hid (ownsRow_below HROW.out hbz)
    have HBZ := Lib.hid hbz
    clear hbz
    go_wp2
    refine bodyPost_ret (v := .tuple #[.int .i64 b, .int .i64 a]) (by simp [results, Tryz.results158, go_sem]) rfl ⟨rfl, ?_⟩
    refine ⟨by go_simp, by rw [World.frozen?_setCell]; exact hpf2, by rw [HLEN.out]; exact ownsRow_keep HRZ.out (Keeps.set (p := p) (b := p) (g := p) _ _) hpg.symm hpg.symm hpg.symm, (Keeps.below HBZ.out).trans (Keeps.set _ _)⟩
  · have HO2 : Hid (order2 lt8 d a b s = (a, b, s)) := by show _ = _; rw [HO.out, if_neg (fun hh => hlv (HLT.out.2 hh))]
    rw [HO2.out]
    go_wp2_with fail
    go_quiet_grown (first | (go_at_call 65; refine Calls.grown_of (hcg _ _)))
    have hbz : Below w.heap.size w (grow (w.drewN nq) osq) := growBelow nq osq
    clear hcg c0' c1' c2' c3' c4' c5' c6' c7' c8' c9' c10' d0' d1' d2' d3' d4' d5' d6' d7' d8' d9' d10'
    generalize grow (w.drewN nq) osq = wz at hbz ⊢
    go_wp2
    refine bodyPost_ret (v := .tuple #[.int .i64 a, .int .i64 b]) (by simp [results, Tryz.results158, go_sem]) rfl ⟨rfl, ?_⟩
    exact ⟨(hbz.cell (p := ⟨p, 0, none⟩) hpl).trans HPC.out, (hbz.frozen (p := ⟨p, 0, none⟩) hpl).trans HPF.out, by rw [HLEN.out]; exact ownsRow_below HROW.out hbz, Keeps.below hbz⟩

theorem order2_lt {d : Array Q8} {a b s n a1 b1 s1 : Nat} (h : order2 lt8 d a b s = (a1, b1, s1)) (ha : a < n) (hb : b < n) : a1 < n ∧ b1 < n ∧ s1 ≤ s + 1 := by
  unfold order2 at h
  split at h
  · simp only [Prod.mk.injEq] at h; omega
  · simp only [Prod.mk.injEq] at h; omega
theorem Left2.from {w v w' : World} {base g cap p : Nat} {d : Array Q8} {s s' : Nat} (h : Left2 w v base g cap p d s) (k : Left2 v w' base g cap p d s') : Left2 w w' base g cap p d s' := ⟨k.cell, k.free, k.row, h.keeps.trans k.keeps⟩
theorem Left2.here {w v : World} {base g cap p : Nat} {d : Array Q8} {s : Nat} (h : Left2 w v base g cap p d s) : Left2 v v base g cap p d s := ⟨h.cell, h.free, h.row, Keeps.refl ..⟩

set_option maxHeartbeats 8000000 in
theorem median_x {w : World} {base g cap p a b c s : Nat} {d : Array Q8} (h : Left2 w w base g cap p d s) (hn : d.size < 1000000) (ha : a < d.size) (hb : b < d.size) (hc : c < d.size) (hpg : p ≠ g) (hpl : p < w.heap.size) (hs : s ≤ 900) :
    Calls Tryz.prog 140 #[.slice (some ⟨g, 0, none⟩) d.size cap, .int .i64 a, .int .i64 b, .int .i64 c, .pointer (some ⟨p, 0, none⟩), .func (.func 65) #[.int .i64 (-1)] #[]] w fun e w' =>
      e = .returned (.int .i64 (median lt8 d a b c s).1) ∧ Left2 w w' base g cap p d (median lt8 d a b c s).2 := by
  obtain ⟨a1, b1, s1, h1⟩ : ∃ a1 b1 s1, order2 lt8 d a b s = (a1, b1, s1) := ⟨_, _, _, rfl⟩
  obtain ⟨b2, c2, s2, h2⟩ : ∃ b2 c2 s2, order2 lt8 d b1 c s1 = (b2, c2, s2) := ⟨_, _, _, rfl⟩
  obtain ⟨a3, b3, s3, h3⟩ : ∃ a3 b3 s3, order2 lt8 d a1 b2 s2 = (a3, b3, s3) := ⟨_, _, _, rfl⟩
  have hm : median lt8 d a b c s = (b3, s3) := by unfold median; simp only [h1, h2, h3]
  rw [hm]
  obtain ⟨l1, l2, l3⟩ := order2_lt h1 ha hb
  obtain ⟨l4, l5, l6⟩ := order2_lt h2 l2 hc
  obtain ⟨l7, l8, l9⟩ := order2_lt h3 l1 l4
  have H1 := Lib.hid (order2_x (a := a) (b := b) h hn ha hb hpg hpl (by omega))
  rw [h1] at H1
  have H2 : Hid (∀ v, Left2 w v base g cap p d s1 → _) := fun v hv => order2_x (a := b1) (b := c) hv.here hn l2 hc hpg (Nat.lt_of_lt_of_le hpl hv.keeps.size) (by omega)
  rw [h2] at H2
  have H3 : Hid (∀ v, Left2 w v base g cap p d s2 → _) := fun v hv => order2_x (a := a1) (b := b2) hv.here hn l1 l4 hpg (Nat.lt_of_lt_of_le hpl hv.keeps.size) (by omega)
  rw [h3] at H3
  clear h hm h1 h2 h3 l1 l2 l3 l4 l5 l6 l7 l8 l9 ha hb hc hs
  go_enter Tryz.func140, Tryz.ntmps140
  go_wp2_with fail
  refine H1.out.mono ?_
  rintro e w1 ⟨rfl, k1⟩
  go_wp2_with fail
  refine (H2.out w1 k1).mono ?_
  rintro e w2 ⟨rfl, k2'⟩
  have k2 := k1.from k2'
  go_wp2_with fail
  refine (H3.out w2 k2).mono ?_
  rintro e w3 ⟨rfl, k3'⟩
  have k3 := k2.from k3'
  go_wp2
  go_ret
  exact ⟨rfl, k3⟩

theorem medianAdjacent_x {w : World} {base g cap p a s : Nat} {d : Array Q8} (h : Left2 w w base g cap p d s) (hn : d.size < 1000000) (ha0 : 1 ≤ a) (ha : a + 1 < d.size) (hpg : p ≠ g) (hpl : p < w.heap.size) (hs : s ≤ 900) :
    Calls Tryz.prog 139 #[.slice (some ⟨g, 0, none⟩) d.size cap, .int .i64 a, .pointer (some ⟨p, 0, none⟩), .func (.func 65) #[.int .i64 (-1)] #[]] w fun e w' =>
      e = .returned (.int .i64 (medianAdjacent lt8 d a s).1) ∧ Left2 w w' base g cap p d (medianAdjacent lt8 d a s).2 := by
  obtain ⟨q, rfl⟩ : ∃ q, a = q + 1 := ⟨a - 1, by omega⟩
  have H1 := Lib.hid (median_x (a := q) (b := q + 1) (c := q + 1 + 1) h hn (by omega) (by omega) ha hpg hpl hs)
  have hm : medianAdjacent lt8 d (q + 1) s = median lt8 d q (q + 1) (q + 1 + 1) s := rfl
  rw [hm]
  obtain ⟨r, hr⟩ : ∃ r, median lt8 d q (q + 1) (q + 1 + 1) s = r := ⟨_, rfl⟩
  rw [hr] at H1 ⊢
  obtain ⟨r1, r2⟩ := r
  clear hm hr h
  have e1 : ((q + 1 : Nat) : Int) = (q : Int) + 1 := rfl
  have e2 : ((q + 1 + 1 : Nat) : Int) = (q : Int) + 1 + 1 := rfl
  rw [e2, e1] at H1
  rw [e1]
  clear e1 e2
  have hq1 : (q : Int) < 1000000 := by omega
  have hq0 : (0 : Int) ≤ q := by omega
  have hw1 : IntKind.i64.wrap (q : Int) = (q : Int) := by rw [IntKind.wrap_i64]; omega
  go_enter Tryz.func139, Tryz.ntmps139
  go_wp2_with fail

  refine H1.out.mono ?_
  rintro e w1 ⟨rfl, k1⟩
  go_wp2
  go_ret
  exact ⟨rfl, k1⟩
end Go.Proofs.YtebbnmjmjoklmaaGreatDoor
