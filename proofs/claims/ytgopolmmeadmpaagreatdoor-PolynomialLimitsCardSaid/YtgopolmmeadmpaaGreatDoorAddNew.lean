/-
  sum.add of a monomial that is new to the sum.
-/
import Derived.Test.YtgopolmmeadmpaaGreatDoorTerms
import Derived.Maps.OwnSet
import Derived.Deep.AppendLies
namespace Go.Proofs.YtgopolmmeadmpaaGreatDoor
open Go Go.RowKit Go.WideMaps
set_option maxRecDepth 20000
theorem termInfoB2 : ((Tryz.prog.info? 43).any fun i => (i.zero.any fun z => z.cells.size == 11) && i.size == 11 && decide (i.bytes ≤ 200)) = true := by kernel_rfl
theorem termInfo2 : ∃ i z, Tryz.prog.info? 43 = some i ∧ i.zero = some z ∧ z.cells.size = 11 ∧ i.size = 11 ∧ i.bytes ≤ 200 := by
  have h := termInfoB2
  cases hi : Tryz.prog.info? 43 with
  | none => rw [hi] at h; simp at h
  | some i =>
    rw [hi] at h
    simp only [Option.any_some, Bool.and_eq_true, beq_iff_eq, decide_eq_true_eq] at h
    obtain ⟨⟨h1, h2⟩, h3⟩ := h
    cases hz : i.zero with
    | none => rw [hz] at h1; simp at h1
    | some z =>
      rw [hz] at h1
      simp only [Option.any_some, beq_iff_eq] at h1
      exact ⟨i, z, rfl, hz, h1, h2, h3⟩
/-- Only the blocks p, b and g of w have changed in w'. -/
structure Keeps (p b g : Nat) (w w' : World) : Prop where
  os : w'.os = w.os
  tape : w'.tape = w.tape
  output : w'.output = w.output
  size : w.heap.size ≤ w'.heap.size
  block : ∀ k, k < w.heap.size → k ≠ p → k ≠ b → k ≠ g → w'.heap[k]? = w.heap[k]?
theorem Keeps.trans {p b g : Nat} {w w' w'' : World} (h : Keeps p b g w w') (k : Keeps p b g w' w'') : Keeps p b g w w'' :=
  ⟨k.os.trans h.os, k.tape.trans h.tape, k.output.trans h.output, Nat.le_trans h.size k.size, fun i hi h1 h2 h3 => (k.block i (Nat.lt_of_lt_of_le hi h.size) h1 h2 h3).trans (h.block i hi h1 h2 h3)⟩
theorem Keeps.below {p b g : Nat} {w w' : World} (h : Below w.heap.size w w') : Keeps p b g w w' := ⟨h.os, h.tape, h.output, h.size, fun i hi _ _ _ => h.block i hi⟩
theorem Keeps.grown {p b g : Nat} {w w' : World} {r : Option Nat} (h : w.grownBy w' r) (hr : r = some b ∨ r = some g) : Keeps p b g w w' :=
  ⟨h.os, h.tape, h.output, h.size, fun i hi _ h2 h3 => h.block i hi (by rcases hr with rfl | rfl <;> simp <;> assumption)⟩
theorem Keeps.set {p b g : Nat} {w : World} (j : Nat) (u : Value) : Keeps p b g w (w.setCell ⟨p, j, none⟩ u) :=
  ⟨rfl, rfl, rfl, by simp, fun i _ h1 _ _ => Below.heap_setCell w ⟨p, j, none⟩ u i h1⟩
theorem alloc_facts {w w' : World} {cs : Array Value} {e : TypeId} (h : w.alloc (.cells cs e) = w') :
    (∀ a : Addr, a.block < w.heap.size → w'.cell? a = w.cell? a) ∧ (∀ a : Addr, a.block < w.heap.size → w'.frozen? a = w.frozen? a) ∧
    (∀ j u, cs.toList[j]? = some u → w'.cell? ((⟨w.heap.size, 0, none⟩ : Addr).add j) = some u) ∧ w'.heap.size = w.heap.size + 1 := by
  subst h
  have hb : Below w.heap.size w (w.alloc (.cells cs e)) := (Below.refl _ w).alloc (Nat.le_refl _) _
  exact ⟨fun a ha => hb.cell ha, fun a ha => hb.frozen ha, World.news_of_block (heap_alloc_new w _), by simp⟩
/-- The two boxes of sum.add hold the monomial and the coefficient. -/
def Boxes (h : Nat) (x0 x1 x2 x3 x4 x5 x6 x7 : Int) (s : Bool) (A B : Option Addr) (an ac bm bd : Nat) (W : World) : Prop :=
  W.cell? ⟨h, 0, none⟩ = some (.int .i64 x0) ∧ W.cell? ⟨h, 1, none⟩ = some (.int .i64 x1) ∧ W.cell? ⟨h, 2, none⟩ = some (.int .i64 x2) ∧ W.cell? ⟨h, 3, none⟩ = some (.int .i64 x3) ∧ W.cell? ⟨h, 4, none⟩ = some (.int .i64 x4) ∧ W.cell? ⟨h, 5, none⟩ = some (.int .i64 x5) ∧ W.cell? ⟨h, 6, none⟩ = some (.int .i64 x6) ∧ W.cell? ⟨h, 7, none⟩ = some (.int .i64 x7) ∧
  W.cell? ⟨h + 1, 0, none⟩ = some (.bool s) ∧ W.cell? ⟨h + 1, 1, none⟩ = some (.slice A an ac) ∧ W.cell? ⟨h + 1, 2, none⟩ = some (.slice B bm bd)
theorem Boxes.far {h : Nat} {x0 x1 x2 x3 x4 x5 x6 x7 : Int} {s : Bool} {A B : Option Addr} {an ac bm bd : Nat} {W W' : World} (hb : Boxes h x0 x1 x2 x3 x4 x5 x6 x7 s A B an ac bm bd W)
    (hf : ∀ j k, k = h ∨ k = h + 1 → W'.cell? ⟨k, j, none⟩ = W.cell? ⟨k, j, none⟩) : Boxes h x0 x1 x2 x3 x4 x5 x6 x7 s A B an ac bm bd W' := by
  obtain ⟨h0, h1, h2, h3, h4, h5, h6, h7, h8, h9, h10⟩ := hb
  exact ⟨(hf 0 _ (.inl rfl)).trans h0, (hf 1 _ (.inl rfl)).trans h1, (hf 2 _ (.inl rfl)).trans h2, (hf 3 _ (.inl rfl)).trans h3, (hf 4 _ (.inl rfl)).trans h4, (hf 5 _ (.inl rfl)).trans h5, (hf 6 _ (.inl rfl)).trans h6, (hf 7 _ (.inl rfl)).trans h7, (hf 0 _ (.inr rfl)).trans h8, (hf 1 _ (.inr rfl)).trans h9, (hf 2 _ (.inr rfl)).trans h10⟩
set_option maxHeartbeats 2000000 in
theorem sumAdd_new {H : Type} {w : World} {p b g N n cap base : Nat} {D : DataW H} {ts : List Tm} {M : List Int} {s : Bool} {A B : Option Addr} {an ac bm bd : Nat}
    (hp0 : w.cell? ⟨p, 0, none⟩ = some (.map (some b))) (hp1 : w.cell? ⟨p, 1, none⟩ = some (.slice (some ⟨g, 0, none⟩) n cap)) (hpf : ∀ j, w.frozen? ⟨p, j, none⟩ = false)
    (hmap : w.ownsMap Tryz.prog 38 (plainElem Tryz.prog 3) b N D) (hD : Places D (ts.map Tm.L)) (hM : Mono8 M) (hrow : w.ownsRow base 43 11 (.slice (some ⟨g, 0, none⟩) n cap) n (rowOf ts)) (hpl : p < w.heap.size) (hin : M ∉ ts.map Tm.L) (hN : N < 1000000) (hn : n < 1000000) (hpb : p ≠ b) (hgb : g ≠ b) (hpg : p ≠ g) (hbb : base ≤ w.heap.size) :
    Calls Tryz.prog 53 #[.pointer (some ⟨p, 0, none⟩), monV M, .agg #[.bool s, .slice A an ac, .slice B bm bd]] w fun e w' => e = .returned (.bool true) ∧ ∃ g' cap', w'.cell? ⟨p, 0, none⟩ = some (.map (some b)) ∧ w'.cell? ⟨p, 1, none⟩ = some (.slice (some ⟨g', 0, none⟩) (n + 1) cap') ∧ (∀ j, w'.frozen? ⟨p, j, none⟩ = false) ∧
      w'.ownsMap Tryz.prog 38 (plainElem Tryz.prog 3) b (N + 1) (D.put (keyLit M) (.lit (.int .i64 (n : Int)))) ∧ w'.ownsRow base 43 11 (.slice (some ⟨g', 0, none⟩) (n + 1) cap') (n + 1) (rowOf ts ++ (⟨M, s, A, an, ac, B, bm, bd⟩ : Tm).cells) ∧
      (g' = g ∨ w.heap.size ≤ g') ∧ Keeps p b g w w' := by
  obtain ⟨x0, x1, x2, x3, x4, x5, x6, x7, rfl⟩ := eight hM.1
  have hkey := keyLit_eq hM
  have hz : ∀ w : World, (zeroValue 3).run Tryz.prog w = .ok (.int .i64 0) w := fun w => by rfl
  show Calls Tryz.prog 53 #[.pointer (some ⟨p, 0, none⟩), .agg #[.int .i64 x0, .int .i64 x1, .int .i64 x2, .int .i64 x3, .int .i64 x4, .int .i64 x5, .int .i64 x6, .int .i64 x7], .agg #[.bool s, .slice A an ac, .slice B bm bd]] w _
  obtain ⟨v1, hv1⟩ : ∃ v1, ((w.alloc (.cells #[.int .i64 x0, .int .i64 x1, .int .i64 x2, .int .i64 x3, .int .i64 x4, .int .i64 x5, .int .i64 x6, .int .i64 x7] 38)).alloc (.cells #[.bool s, .slice A an ac, .slice B bm bd] 41)) = v1 := ⟨_, rfl⟩
  have hb1 : Below w.heap.size w v1 := hv1 ▸ (((Below.refl _ w).alloc (Nat.le_refl _) _).alloc (by simp) _)
  have hsz : v1.heap.size = w.heap.size + 1 + 1 := by rw [← hv1]; simp
  have hc0 : v1.cell? ⟨p, 0, none⟩ = some (.map (some b)) := by rw [hb1.cell (by exact hpl)]; exact hp0
  have hc1 : v1.cell? ⟨p, 1, none⟩ = some (.slice (some ⟨g, 0, none⟩) n cap) := by rw [hb1.cell (by exact hpl)]; exact hp1
  have hM0 : v1.cell? ⟨w.heap.size, 0, none⟩ = some (.int .i64 x0) ∧ v1.cell? ⟨w.heap.size, 1, none⟩ = some (.int .i64 x1) ∧ v1.cell? ⟨w.heap.size, 2, none⟩ = some (.int .i64 x2) ∧ v1.cell? ⟨w.heap.size, 3, none⟩ = some (.int .i64 x3) ∧ v1.cell? ⟨w.heap.size, 4, none⟩ = some (.int .i64 x4) ∧ v1.cell? ⟨w.heap.size, 5, none⟩ = some (.int .i64 x5) ∧ v1.cell? ⟨w.heap.size, 6, none⟩ = some (.int .i64 x6) ∧ v1.cell? ⟨w.heap.size, 7, none⟩ = some (.int .i64 x7) := by
    rw [← hv1]; clear hb1 hsz hc0 hc1 hv1; refine ⟨?_, ?_, ?_, ?_, ?_, ?_, ?_, ?_⟩ <;> go_simp
  have hC0 : v1.cell? ⟨w.heap.size + 1, 0, none⟩ = some (.bool s) ∧ v1.cell? ⟨w.heap.size + 1, 1, none⟩ = some (.slice A an ac) ∧ v1.cell? ⟨w.heap.size + 1, 2, none⟩ = some (.slice B bm bd) := by
    rw [← hv1]; clear hM0 hb1 hsz hc0 hc1 hv1; refine ⟨?_, ?_, ?_⟩ <;> go_simp
  have hmap1 : v1.ownsMap Tryz.prog 38 (plainElem Tryz.prog 3) b N D := hv1 ▸ ((hmap.alloc _).alloc _)
  have hrow1 : v1.ownsRow base 43 11 (.slice (some ⟨g, 0, none⟩) n cap) n (rowOf ts) := hv1 ▸ ((hrow.alloc _).alloc _)
  obtain ⟨n0, n1, n2⟩ := hC0
  obtain ⟨m0, m1, m2, m3, m4, m5, m6, m7⟩ := hM0
  obtain ⟨vv, ps, hlook, hv⟩ := hmap1.drew.look_ok monoKeyed Tryz.underlying59 (hz v1.drew) (plainElem_int Tryz.underlying3 (by decide)) hkey
  obtain ⟨cc, rfl, hcc, hwc⟩ := plainElem_int_inv Tryz.underlying3 hv
  have hlook' : (Instr.lookup 59 (.map (some b)) (.agg #[.int .i64 x0, .int .i64 x1, .int .i64 x2, .int .i64 x3, .int .i64 x4, .int .i64 x5, .int .i64 x6, .int .i64 x7]) true).run Tryz.prog v1.drew = .ok (.tuple #[.int .i64 cc, .bool (Maps.has D (keyLit [x0, x1, x2, x3, x4, x5, x6, x7]))]) v1.drew := hlook
  rw [hD.has _ hM, decide_eq_false hin] at hlook'
  clear hlook hv hcc
  obtain ⟨w2, hupd, hmap2, hgr2⟩ := hmap1.drew.drew.update monoKeyed Tryz.underlying59 (by simp [maxLen]; omega) (val := .int .i64 (n : Int)) hkey (plainElem_int Tryz.underlying3 (WalkArith.wf_i64 (by omega)))
  have hupd' : (Instr.mapUpdate 59 (.map (some b)) (.agg #[.int .i64 x0, .int .i64 x1, .int .i64 x2, .int .i64 x3, .int .i64 x4, .int .i64 x5, .int .i64 x6, .int .i64 x7]) (.int .i64 (n : Int))).run Tryz.prog v1.drew.drew = .ok () w2 := hupd
  clear hupd
  have hbl := hmap.lt
  have hsz2 : v1.drew.drew.heap.size = w.heap.size + 1 + 1 := hsz
  have hf0 : v1.frozen? ⟨p, 1, none⟩ = false := by rw [hb1.frozen (by exact hpl)]; exact hpf 1
  have c2 : w2.cell? ⟨p, 1, none⟩ = some (.slice (some ⟨g, 0, none⟩) n cap) := (hgr2.cell_far ⟨p, 1, none⟩ (by rw [hsz2]; simp; omega) (by simp; exact hpb)).trans hc1
  have f2 : w2.frozen? ⟨p, 1, none⟩ = false := (hgr2.frozen_far ⟨p, 1, none⟩ (by rw [hsz2]; simp; omega) (by simp; exact hpb)).trans hf0
  have far : ∀ j k, k = w.heap.size ∨ k = w.heap.size + 1 → w2.cell? ⟨k, j, none⟩ = v1.cell? ⟨k, j, none⟩ := fun j k hk => hgr2.cell_far ⟨k, j, none⟩ (by rw [hsz2]; simp; omega) (by simp; omega)
  have p0 := (far 0 _ (.inl rfl)).trans m0
  have p1 := (far 1 _ (.inl rfl)).trans m1
  have p2 := (far 2 _ (.inl rfl)).trans m2
  have p3 := (far 3 _ (.inl rfl)).trans m3
  have p4 := (far 4 _ (.inl rfl)).trans m4
  have p5 := (far 5 _ (.inl rfl)).trans m5
  have p6 := (far 6 _ (.inl rfl)).trans m6
  have p7 := (far 7 _ (.inl rfl)).trans m7
  have q0 := (far 0 _ (.inr rfl)).trans n0
  have q1 := (far 1 _ (.inr rfl)).trans n1
  have q2 := (far 2 _ (.inr rfl)).trans n2
  have hrow2 : w2.ownsRow base 43 11 (.slice (some ⟨g, 0, none⟩) n cap) n (rowOf ts) := hrow1.drew.drew.kept hgr2 (.inr (by simp [Value.ownBlock]; exact hgb))
  have FAR := Lib.hid far
  clear far
  have HV := Lib.hid hv1
  clear hv1
  go_enter Tryz.func53, Tryz.ntmps53
  go_wp2_with fail
  have hv1 := HV.out
  rw [hv1]
  go_region
  go_wp2_with fail
  go_region
  go_wp2_with fail
  clear hlook' hupd' m0 m1 m2 m3 m4 m5 m6 m7 n0 n1 n2 hc0 hc1 hf0
  have HB : Boxes w.heap.size x0 x1 x2 x3 x4 x5 x6 x7 s A B an ac bm bd w2 := ⟨p0, p1, p2, p3, p4, p5, p6, p7, q0, q1, q2⟩
  clear p0 p1 p2 p3 p4 p5 p6 p7 q0 q1 q2
  refine wp_region_held_drew (S := Boxes w.heap.size x0 x1 x2 x3 x4 x5 x6 x7 s A B an ac bm bd) (by kernel_rfl) ?_ (fun hHeld => ?_)
  · exact HB
  have d3 : w2.drew.cell? ⟨p, 0, none⟩ = some (.map (some b)) := (hgr2.cell_far ⟨p, 0, none⟩ (by rw [hsz2]; simp; omega) (by simp; exact hpb)).trans ((hb1.cell (p := ⟨p, 0, none⟩) (by exact hpl)).trans hp0)
  have fz3 : ∀ j, w2.drew.frozen? ⟨p, j, none⟩ = false := fun j => (hgr2.frozen_far ⟨p, j, none⟩ (by rw [hsz2]; simp; omega) (by simp; exact hpb)).trans ((hb1.frozen (p := ⟨p, j, none⟩) (by exact hpl)).trans (hpf j))
  have K2 : Keeps p b g v1.drew.drew w2 := Keeps.grown hgr2 (.inl rfl)
  have K3 : Keeps p b g w w2.drew := (Keeps.below hb1).trans (show Keeps p b g v1 w2.drew from ⟨K2.os, K2.tape, K2.output, K2.size, K2.block⟩)
  clear K2
  have c3 : w2.drew.cell? ⟨p, 1, none⟩ = some (.slice (some ⟨g, 0, none⟩) n cap) := c2
  have f3 : w2.drew.frozen? ⟨p, 1, none⟩ = false := f2
  have row3 := hrow2.drew
  have map3 := hmap2.drew
  have size3 : w.heap.size + 1 + 1 ≤ w2.drew.heap.size := by rw [← hsz2]; exact hgr2.size
  have hgl : g < w.heap.size := hrow.lt g rfl |>.2
  obtain ⟨ti, z, hi, hz1, hz2, hs1, hbt⟩ := termInfo2
  have hby : (n + 1) * ti.bytes ≤ 140737488355328 := Nat.le_trans (Nat.mul_le_mul (show n + 1 ≤ 1000000 by omega) hbt) (by decide)
  clear c2 f2 hrow2 hmap2 HB
  generalize w2.drew = wd at *
  refine wpAnyH_take (i := 0) (oi := ⟨some 45, _, _, _, _, _⟩) (v := ?_) rfl (by kernel_rfl) (by kernel_rfl) (by kernel_rfl) (fun _ _ _ h => h) (Or.inl ⟨by rfl, ?_⟩) (by assumption) ?_
  rotate_left
  · intro w hSw
    (try dsimp only at hSw)
    unfold Boxes at hSw
    obtain ⟨h0, h1, h2, h3, h4, h5, h6, h7, h8, h9, h10⟩ := hSw
    go_simp
    try with_reducible rfl
  try simp only [Act.put, List.setIfInBounds_toArray, List.set_cons_zero, List.set_cons_succ]
  refine wpAnyH_take (i := 1) (oi := ⟨some 46, _, _, _, _, _⟩) (v := ?_) rfl (by kernel_rfl) (by kernel_rfl) (by kernel_rfl) (fun _ _ _ h => h) (Or.inl ⟨by rfl, ?_⟩) (by assumption) ?_
  rotate_left
  · intro w hSw
    (try dsimp only at hSw)
    unfold Boxes at hSw
    obtain ⟨h0, h1, h2, h3, h4, h5, h6, h7, h8, h9, h10⟩ := hSw
    go_simp
    try with_reducible rfl
  try simp only [Act.put, List.setIfInBounds_toArray, List.set_cons_zero, List.set_cons_succ]
  refine wpAnyH_take (i := 2) (oi := ⟨some 47, _, _, _, _, _⟩) (v := ?_) rfl (by kernel_rfl) (by kernel_rfl) (by kernel_rfl) (fun _ _ _ h => h) (Or.inl ⟨by rfl, ?_⟩) (by assumption) ?_
  rotate_left
  · intro w hSw
    (try dsimp only at hSw)
    unfold Boxes at hSw
    obtain ⟨h0, h1, h2, h3, h4, h5, h6, h7, h8, h9, h10⟩ := hSw
    go_simp
    try with_reducible rfl
  try simp only [Act.put, List.setIfInBounds_toArray, List.set_cons_zero, List.set_cons_succ]
  refine wpAnyH_take (i := 3) (oi := ⟨some 48, _, _, _, _, _⟩) (v := ?_) rfl (by kernel_rfl) (by kernel_rfl) (by kernel_rfl) (fun _ _ _ h => h) (Or.inl ⟨by rfl, ?_⟩) (by assumption) ?_
  rotate_left
  · intro w hSw
    (try dsimp only at hSw)
    unfold Boxes at hSw
    obtain ⟨h0, h1, h2, h3, h4, h5, h6, h7, h8, h9, h10⟩ := hSw
    go_simp
    try with_reducible rfl
  try simp only [Act.put, List.setIfInBounds_toArray, List.set_cons_zero, List.set_cons_succ]
  refine wpAnyH_take (i := 5) (oi := ⟨some 50, _, _, _, _, _⟩) (v := ?_) rfl (by kernel_rfl) (by kernel_rfl) (by kernel_rfl) (fun _ _ _ h => h) (Or.inl ⟨by rfl, ?_⟩) (by assumption) ?_
  rotate_left
  · intro w hSw
    (try dsimp only at hSw)
    unfold Boxes at hSw
    obtain ⟨h0, h1, h2, h3, h4, h5, h6, h7, h8, h9, h10⟩ := hSw
    go_simp
    try with_reducible rfl
  try simp only [Act.put, List.setIfInBounds_toArray, List.set_cons_zero, List.set_cons_succ]
  refine wpAnyH_take (i := 6) (oi := ⟨some 51, _, _, _, _, _⟩) (v := ?_) rfl (by kernel_rfl) (by kernel_rfl) (by kernel_rfl) (fun _ _ _ h => h) (Or.inl ⟨by rfl, ?_⟩) (by assumption) ?_
  rotate_left
  · intro w hSw
    (try dsimp only at hSw)
    unfold Boxes at hSw
    obtain ⟨h0, h1, h2, h3, h4, h5, h6, h7, h8, h9, h10⟩ := hSw
    go_simp
    try with_reducible rfl
  try simp only [Act.put, List.setIfInBounds_toArray, List.set_cons_zero, List.set_cons_succ]
  refine wpAnyH_take (i := 7) (oi := ⟨some 52, _, _, _, _, _⟩) (v := ?_) rfl (by kernel_rfl) (by kernel_rfl) (by kernel_rfl) (fun _ _ _ h => h) (Or.inl ⟨by rfl, ?_⟩) (by assumption) ?_
  rotate_left
  · intro w hSw
    (try dsimp only at hSw)
    unfold Boxes at hSw
    obtain ⟨h0, h1, h2, h3, h4, h5, h6, h7, h8, h9, h10⟩ := hSw
    go_simp
    try with_reducible rfl
  try simp only [Act.put, List.setIfInBounds_toArray, List.set_cons_zero, List.set_cons_succ]
  refine wpAnyH_ready (rs := [4, 8]) (by kernel_rfl) (by simp) ?_
  refine AllReadyH.cons (o := ⟨some 49, _, _, _, _, _⟩) rfl (fun K hK => ?_) ?_
  · go_simp; have HL := hHeld; refine hK.out _ _ HL (fun hHeld => ?_); clear hK K; try simp only [Act.put, List.setIfInBounds_toArray, List.set_cons_zero, List.set_cons_succ]
    refine wpAnyH_ready (rs := [8]) (by kernel_rfl) (by simp) ?_
    refine AllReadyH.cons (o := ⟨some 53, _, _, _, _, _⟩) rfl (fun K hK => ?_) AllReadyH.nil
    go_simp
    have HL := hHeld
    obtain ⟨w3, hv⟩ : ∃ v, wd.alloc (.cells #[.int .i64 x0, .int .i64 x1, .int .i64 x2, .int .i64 x3, .int .i64 x4, .int .i64 x5, .int .i64 x6, .int .i64 x7, .bool s, .slice A an ac, .slice B bm bd] 43) = v := ⟨_, rfl⟩
    have A3 := alloc_facts hv
    rw [hv]
    refine hK.out _ _ (HL.far (fun j k hk => A3.1 ⟨k, j, none⟩ (by simp; omega))) (fun hHeld => ?_); clear hK K HL
    try simp only [Act.put, List.setIfInBounds_toArray, List.set_cons_zero, List.set_cons_succ]
    have c4 : w3.cell? ⟨p, 1, none⟩ = some (.slice (some ⟨g, 0, none⟩) n cap) := (A3.1 ⟨p, 1, none⟩ (by simp; omega)).trans c3
    have f4 : w3.frozen? ⟨p, 1, none⟩ = false := (A3.2.1 ⟨p, 1, none⟩ (by simp; omega)).trans f3
    have d4 : w3.cell? ⟨p, 0, none⟩ = some (.map (some b)) := (A3.1 ⟨p, 0, none⟩ (by simp; omega)).trans d3
    have fz4 : ∀ j, w3.frozen? ⟨p, j, none⟩ = false := fun j => (A3.2.1 ⟨p, j, none⟩ (by simp; omega)).trans (fz3 j)
    have K4 : Keeps p b g w w3 := K3.trans (Keeps.below (hv ▸ (Below.refl _ wd).alloc (Nat.le_refl _) _))
    have row4 : w3.ownsRow base 43 11 (.slice (some ⟨g, 0, none⟩) n cap) n (rowOf ts) := hv ▸ row3.alloc _
    have hv3map := hv ▸ map3.alloc (.cells #[.int .i64 x0, .int .i64 x1, .int .i64 x2, .int .i64 x3, .int .i64 x4, .int .i64 x5, .int .i64 x6, .int .i64 x7, .bool s, .slice A an ac, .slice B bm bd] 43)
    have NEWS := A3.2.2.1
    have HS3 := A3.2.2.2
    have HV3 := Lib.hid hv
    clear hv A3
    refine wpAnyH_ready (rs := [9]) (by kernel_rfl) (by simp) ?_
    refine AllReadyH.cons (o := ⟨some 54, _, _, _, _, _⟩) rfl (fun K hK => ?_) AllReadyH.nil
    have HL := hHeld
    refine step_append_lies _ rfl _ _ 25 rfl base 43 ti z 11 ti.bytes Tryz.underlying25 hi hz1 hs1 rfl hz2 (by decide) (.slice (some ⟨g, 0, none⟩) n cap) n (rowOf ts) rfl row4 ⟨wd.heap.size, 0, none⟩ 1 1 [.int .i64 x0, .int .i64 x1, .int .i64 x2, .int .i64 x3, .int .i64 x4, .int .i64 x5, .int .i64 x6, .int .i64 x7, .bool s, .slice A an ac, .slice B bm bd] rfl rfl NEWS (by simp [Value.oneCell']) (by decide) (by simp [maxLen]; omega) hby (by omega) w3.heap.size rfl ?_
    intro g' cap' w4 hown hgrow hat hlt
    have far4 : ∀ a : Addr, a.block < w3.heap.size → a.block ≠ g → w4.cell? a = w3.cell? a := fun a h1 h2 => hgrow.cell_far a h1 (by simp [Value.ownBlock]; exact h2)
    have c5 : w4.cell? ⟨p, 1, none⟩ = some (.slice (some ⟨g, 0, none⟩) n cap) := (far4 ⟨p, 1, none⟩ (by simp; omega) (by simp; exact hpg)).trans c4
    have d5 : w4.cell? ⟨p, 0, none⟩ = some (.map (some b)) := (far4 ⟨p, 0, none⟩ (by simp; omega) (by simp; exact hpg)).trans d4
    have fz5 : ∀ j, w4.frozen? ⟨p, j, none⟩ = false := fun j => (hgrow.frozen_far ⟨p, j, none⟩ (by simp; omega) (by simp [Value.ownBlock]; exact hpg)).trans (fz4 j)
    have K5 : Keeps p b g w w4 := K4.trans (Keeps.grown hgrow (.inr rfl))
    have f5 : w4.frozen? ⟨p, 1, none⟩ = false := (hgrow.frozen_far ⟨p, 1, none⟩ (by simp; omega) (by simp [Value.ownBlock]; exact hpg)).trans f4
    refine hK.out _ _ (HL.far (fun j k hk => far4 ⟨k, j, none⟩ (by simp; omega) (by simp; omega))) (fun hHeld => ?_); clear hK K
    try simp only [Act.put, List.setIfInBounds_toArray, List.set_cons_zero, List.set_cons_succ]
    refine wpAnyH_take (i := 10) (oi := ⟨some 55, _, _, _, _, _⟩) (v := ?_) rfl (by kernel_rfl) (by kernel_rfl) (by kernel_rfl) (fun _ _ _ h => h) (Or.inl ⟨by rfl, ?_⟩) (by assumption) ?_
    rotate_left
    · intro w hSw
      go_simp
      try with_reducible rfl
    try simp only [Act.put, List.setIfInBounds_toArray, List.set_cons_zero, List.set_cons_succ]
    refine wpAnyH_take (i := 11) (oi := ⟨some 56, _, _, _, _, _⟩) (v := ?_) rfl (by kernel_rfl) (by kernel_rfl) (by kernel_rfl) (fun _ _ _ h => h) (Or.inl ⟨by rfl, ?_⟩) (by assumption) ?_
    rotate_left
    · intro w hSw
      go_simp
      try with_reducible rfl
    try simp only [Act.put, List.setIfInBounds_toArray, List.set_cons_zero, List.set_cons_succ]
    have HL5 := hHeld
    refine wpAnyH_ready (rs := [12]) (by kernel_rfl) (by simp) ?_
    refine AllReadyH.cons (o := ⟨none, _, _, _, _, _⟩) rfl (fun K hK => ?_) AllReadyH.nil
    go_simp
    refine hK.out _ _ (HL5.far (fun j k hk => World.cell?_setCell_other _ _ _ _ (by first | (simp; omega) | (simp; done) | omega))) (fun hHeld => ?_); clear hK K
    try simp only [Act.put, List.setIfInBounds_toArray, List.set_cons_zero, List.set_cons_succ]
    refine wpAnyH_done (by kernel_rfl) ?_ _
    have map4 := (hv3map.kept hgrow (by simp [Value.ownBlock]; exact fun h => hgb h.symm))
    have hgp : g' ≠ p := by
      rcases hat with h | h
      · simp [Value.ownBlock] at h; omega
      · omega
    have PM := map4.setCell (a := ⟨p, 1, none⟩) (by simp; omega) (.slice (some ⟨g', 0, none⟩) (n + 1) cap')
    have PR := ownsRow_setCell_other hown (a := ⟨p, 1, none⟩) (by simp [Value.ownBlock]; exact hgp) (.slice (some ⟨g', 0, none⟩) (n + 1) cap')
    clear hHeld HL5 HL
    go_wp2_with fail
    refine bodyPost_ret (v := .bool true) (by simp [results, Tryz.results53, go_sem]) rfl ⟨rfl, ?_, g', cap', ?_, ?_, PM, PR, ?_, K5.trans (Keeps.set _ _)⟩
    · go_simp
    · go_simp
    · intro j; have := fz5 j; go_simp
    · rcases hat with h | h
      · simp [Value.ownBlock] at h; exact .inl h.symm
      · exact .inr (by omega)
  refine AllReadyH.cons (o := ⟨some 53, _, _, _, _, _⟩) rfl (fun K hK => ?_) AllReadyH.nil
  go_simp
  have HL := hHeld
  obtain ⟨w3, hv⟩ : ∃ v, wd.alloc (.cells #[.int .i64 x0, .int .i64 x1, .int .i64 x2, .int .i64 x3, .int .i64 x4, .int .i64 x5, .int .i64 x6, .int .i64 x7, .bool s, .slice A an ac, .slice B bm bd] 43) = v := ⟨_, rfl⟩
  have A3 := alloc_facts hv
  rw [hv]
  refine hK.out _ _ (HL.far (fun j k hk => A3.1 ⟨k, j, none⟩ (by simp; omega))) (fun hHeld => ?_); clear hK K HL
  try simp only [Act.put, List.setIfInBounds_toArray, List.set_cons_zero, List.set_cons_succ]
  have c4 : w3.cell? ⟨p, 1, none⟩ = some (.slice (some ⟨g, 0, none⟩) n cap) := (A3.1 ⟨p, 1, none⟩ (by simp; omega)).trans c3
  have f4 : w3.frozen? ⟨p, 1, none⟩ = false := (A3.2.1 ⟨p, 1, none⟩ (by simp; omega)).trans f3
  have d4 : w3.cell? ⟨p, 0, none⟩ = some (.map (some b)) := (A3.1 ⟨p, 0, none⟩ (by simp; omega)).trans d3
  have fz4 : ∀ j, w3.frozen? ⟨p, j, none⟩ = false := fun j => (A3.2.1 ⟨p, j, none⟩ (by simp; omega)).trans (fz3 j)
  have K4 : Keeps p b g w w3 := K3.trans (Keeps.below (hv ▸ (Below.refl _ wd).alloc (Nat.le_refl _) _))
  have row4 : w3.ownsRow base 43 11 (.slice (some ⟨g, 0, none⟩) n cap) n (rowOf ts) := hv ▸ row3.alloc _
  have hv3map := hv ▸ map3.alloc (.cells #[.int .i64 x0, .int .i64 x1, .int .i64 x2, .int .i64 x3, .int .i64 x4, .int .i64 x5, .int .i64 x6, .int .i64 x7, .bool s, .slice A an ac, .slice B bm bd] 43)
  have NEWS := A3.2.2.1
  have HS3 := A3.2.2.2
  have HV3 := Lib.hid hv
  clear hv A3
  refine wpAnyH_ready (rs := [4]) (by kernel_rfl) (by simp) ?_
  refine AllReadyH.cons (o := ⟨some 49, _, _, _, _, _⟩) rfl (fun K hK => ?_) AllReadyH.nil
  go_simp; have HL := hHeld; refine hK.out _ _ HL (fun hHeld => ?_); clear hK K; try simp only [Act.put, List.setIfInBounds_toArray, List.set_cons_zero, List.set_cons_succ]
  refine wpAnyH_ready (rs := [9]) (by kernel_rfl) (by simp) ?_
  refine AllReadyH.cons (o := ⟨some 54, _, _, _, _, _⟩) rfl (fun K hK => ?_) AllReadyH.nil
  have HL := hHeld
  refine step_append_lies _ rfl _ _ 25 rfl base 43 ti z 11 ti.bytes Tryz.underlying25 hi hz1 hs1 rfl hz2 (by decide) (.slice (some ⟨g, 0, none⟩) n cap) n (rowOf ts) rfl row4 ⟨wd.heap.size, 0, none⟩ 1 1 [.int .i64 x0, .int .i64 x1, .int .i64 x2, .int .i64 x3, .int .i64 x4, .int .i64 x5, .int .i64 x6, .int .i64 x7, .bool s, .slice A an ac, .slice B bm bd] rfl rfl NEWS (by simp [Value.oneCell']) (by decide) (by simp [maxLen]; omega) hby (by omega) w3.heap.size rfl ?_
  intro g' cap' w4 hown hgrow hat hlt
  have far4 : ∀ a : Addr, a.block < w3.heap.size → a.block ≠ g → w4.cell? a = w3.cell? a := fun a h1 h2 => hgrow.cell_far a h1 (by simp [Value.ownBlock]; exact h2)
  have c5 : w4.cell? ⟨p, 1, none⟩ = some (.slice (some ⟨g, 0, none⟩) n cap) := (far4 ⟨p, 1, none⟩ (by simp; omega) (by simp; exact hpg)).trans c4
  have d5 : w4.cell? ⟨p, 0, none⟩ = some (.map (some b)) := (far4 ⟨p, 0, none⟩ (by simp; omega) (by simp; exact hpg)).trans d4
  have fz5 : ∀ j, w4.frozen? ⟨p, j, none⟩ = false := fun j => (hgrow.frozen_far ⟨p, j, none⟩ (by simp; omega) (by simp [Value.ownBlock]; exact hpg)).trans (fz4 j)
  have K5 : Keeps p b g w w4 := K4.trans (Keeps.grown hgrow (.inr rfl))
  have f5 : w4.frozen? ⟨p, 1, none⟩ = false := (hgrow.frozen_far ⟨p, 1, none⟩ (by simp; omega) (by simp [Value.ownBlock]; exact hpg)).trans f4
  refine hK.out _ _ (HL.far (fun j k hk => far4 ⟨k, j, none⟩ (by simp; omega) (by simp; omega))) (fun hHeld => ?_); clear hK K
  try simp only [Act.put, List.setIfInBounds_toArray, List.set_cons_zero, List.set_cons_succ]
  refine wpAnyH_take (i := 10) (oi := ⟨some 55, _, _, _, _, _⟩) (v := ?_) rfl (by kernel_rfl) (by kernel_rfl) (by kernel_rfl) (fun _ _ _ h => h) (Or.inl ⟨by rfl, ?_⟩) (by assumption) ?_
  rotate_left
  · intro w hSw
    go_simp
    try with_reducible rfl
  try simp only [Act.put, List.setIfInBounds_toArray, List.set_cons_zero, List.set_cons_succ]
  refine wpAnyH_take (i := 11) (oi := ⟨some 56, _, _, _, _, _⟩) (v := ?_) rfl (by kernel_rfl) (by kernel_rfl) (by kernel_rfl) (fun _ _ _ h => h) (Or.inl ⟨by rfl, ?_⟩) (by assumption) ?_
  rotate_left
  · intro w hSw
    go_simp
    try with_reducible rfl
  try simp only [Act.put, List.setIfInBounds_toArray, List.set_cons_zero, List.set_cons_succ]
  have HL5 := hHeld
  refine wpAnyH_ready (rs := [12]) (by kernel_rfl) (by simp) ?_
  refine AllReadyH.cons (o := ⟨none, _, _, _, _, _⟩) rfl (fun K hK => ?_) AllReadyH.nil
  go_simp
  refine hK.out _ _ (HL5.far (fun j k hk => World.cell?_setCell_other _ _ _ _ (by first | (simp; omega) | (simp; done) | omega))) (fun hHeld => ?_); clear hK K
  try simp only [Act.put, List.setIfInBounds_toArray, List.set_cons_zero, List.set_cons_succ]
  refine wpAnyH_done (by kernel_rfl) ?_ _
  have map4 := (hv3map.kept hgrow (by simp [Value.ownBlock]; exact fun h => hgb h.symm))
  have hgp : g' ≠ p := by
    rcases hat with h | h
    · simp [Value.ownBlock] at h; omega
    · omega
  have PM := map4.setCell (a := ⟨p, 1, none⟩) (by simp; omega) (.slice (some ⟨g', 0, none⟩) (n + 1) cap')
  have PR := ownsRow_setCell_other hown (a := ⟨p, 1, none⟩) (by simp [Value.ownBlock]; exact hgp) (.slice (some ⟨g', 0, none⟩) (n + 1) cap')
  clear hHeld HL5 HL
  go_wp2_with fail
  refine bodyPost_ret (v := .bool true) (by simp [results, Tryz.results53, go_sem]) rfl ⟨rfl, ?_, g', cap', ?_, ?_, PM, PR, ?_, K5.trans (Keeps.set _ _)⟩
  · go_simp
  · go_simp
  · intro j; have := fz5 j; go_simp
  · rcases hat with h | h
    · simp [Value.ownBlock] at h; exact .inl h.symm
    · exact .inr (by omega)
end Go.Proofs.YtgopolmmeadmpaaGreatDoor
