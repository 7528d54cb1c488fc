/-
  CoreForms, walked.
-/
import Derived.Test.YtlhncmnhpnhfhaaFxJ
import Derived.Test.YtlhncmnhpnhfhaaFxC
namespace Go.Proofs.Ytlhncmnhpnhfhaa
open Go Go.RowKit Go.Shelf
set_option maxRecDepth 20000
namespace Fx

theorem ints3 (w : World) (t : TypeId) : IntsAt (w.alloc (.cells #[.int .i64 0, .int .i64 1, .int .i64 2] t)) ⟨w.heap.size, 0, none⟩ 3 0 (((3 : Nat) : Int) - 1) := by
  refine ⟨by simp, fun i hi => ?_⟩
  have h : i = 0 ∨ i = 1 ∨ i = 2 := by omega
  rw [add_plain, Nat.zero_add]
  rcases h with rfl | rfl | rfl
  · exact ⟨0, by simp, by omega, by omega⟩
  · exact ⟨1, by simp, by omega, by omega⟩
  · exact ⟨2, by simp, by omega, by omega⟩

theorem six_bx {w : World} {k : Nat} {t : TypeId} {o n : Int} {D : Option Addr} {l c : Nat} (h : Bx w k t (fv6 o n D l c)) : w.cell? ⟨k, 0, none⟩ = some (.int .i64 o) ∧ w.cell? ⟨k, 1, none⟩ = some (.int .i64 n) ∧ w.cell? ⟨k, 2, none⟩ = some (.bool false) ∧
    w.cell? ⟨k, 3, none⟩ = some (.slice none 0 0) ∧ w.cell? ⟨k, 4, none⟩ = some (.slice none 0 0) ∧ w.cell? ⟨k, 5, none⟩ = some (.slice D l c) := by
  have key : ∀ i, w.cell? ⟨k, i, none⟩ = (fv6 o n D l c)[i]? := fun i => by
    unfold World.cell?
    have h' : w.heap[k]? = some (.cells (fv6 o n D l c) t (0, 0)) := h
    simp [h']
  exact ⟨key 0, key 1, key 2, key 3, key 4, key 5⟩
theorem ints5 (w : World) (t : TypeId) : IntsAt (w.alloc (.cells #[.int .i64 1073741824, .int .i64 (-1073741824), .int .i64 1073741833, .int .i64 4611686018427387904, .int .i64 (-9223372036854775808)] t)) ⟨w.heap.size, 0, none⟩ 5 (-9223372036854775808) 4611686018427387904 := by
  refine ⟨by simp, fun i hi => ?_⟩
  have h : i = 0 ∨ i = 1 ∨ i = 2 ∨ i = 3 ∨ i = 4 := by omega
  rw [add_plain, Nat.zero_add]
  rcases h with rfl | rfl | rfl | rfl | rfl
  · exact ⟨1073741824, by simp, by omega, by omega⟩
  · exact ⟨-1073741824, by simp, by omega, by omega⟩
  · exact ⟨1073741833, by simp, by omega, by omega⟩
  · exact ⟨4611686018427387904, by simp, by omega, by omega⟩
  · exact ⟨-9223372036854775808, by simp, by omega, by omega⟩
/-- What a round of the law reads: a form and a state. -/
def Rnd (W : World) (fb sb i : Nat) : Prop := ∃ (ft : Fm) (x2 x3 x4 : Value) (Dt : Option Addr) (cd : Nat) (At : Option Addr) (nv ct : Nat) (st : Nat → Int), W.cell? ⟨fb, i * 6, none⟩ = some (.int .i64 ft.op) ∧ W.cell? ⟨fb, i * 6 + 1, none⟩ = some (.int .i64 ft.num) ∧
  W.cell? ⟨fb, i * 6 + 2, none⟩ = some x2 ∧ W.cell? ⟨fb, i * 6 + 3, none⟩ = some x3 ∧ W.cell? ⟨fb, i * 6 + 4, none⟩ = some x4 ∧ W.cell? ⟨fb, i * 6 + 5, none⟩ = some (.slice Dt ft.args.length cd) ∧ W.cell? ⟨sb, i, none⟩ = some (.slice At nv ct) ∧
  FV All W ft #[.int .i64 ft.op, .int .i64 ft.num, x2, x3, x4, .slice Dt ft.args.length cd] ∧ St W nv st At ∧ nv ≤ 20 ∧ Deep 200 ft ∧ sz ft ≤ 200
theorem Rnd.below {W W' : World} {fb sb i : Nat} (h : Rnd W fb sb i) (hU : Below W.heap.size W W') : Rnd W' fb sb i := by
  obtain ⟨ft, x2, x3, x4, Dt, cd, At, nv, ct, st, k0, k1, k2, k3, k4, k5, k6, hfv, hst, h1, h2, h3⟩ := h
  exact ⟨ft, x2, x3, x4, Dt, cd, At, nv, ct, st, (hU.cell (World.block_lt_of_cell? W _ k0)).trans k0, (hU.cell (World.block_lt_of_cell? W _ k1)).trans k1, (hU.cell (World.block_lt_of_cell? W _ k2)).trans k2, (hU.cell (World.block_lt_of_cell? W _ k3)).trans k3, (hU.cell (World.block_lt_of_cell? W _ k4)).trans k4, (hU.cell (World.block_lt_of_cell? W _ k5)).trans k5, (hU.cell (World.block_lt_of_cell? W _ k6)).trans k6, fv_nb hfv hU, hst.below hU, h1, h2, h3⟩
theorem fv_lo {S : Nat → Prop} {w : World} {f : Fm} {v : Array Value} (h : FV S w f v) : FV (Lo w.heap.size) w f v := h.keep (Nat.le_refl _) (fun _ _ _ => rfl) fun _ _ h => h
theorem st3 {w : World} {b : Nat} {t : TypeId} {y1 y2 y3 : Int} (h : Bx w b t #[.int .i64 y1, .int .i64 y2, .int .i64 y3]) : St w 3 (fun i => ([y1, y2, y3][i]?).getD 0) (some ⟨b, 0, none⟩) := fun i hi => by
  refine ⟨_, rfl, ?_⟩
  have h' : w.heap[b]? = some (.cells #[.int .i64 y1, .int .i64 y2, .int .i64 y3] t (0, 0)) := h
  rw [add_plain, Nat.zero_add]
  unfold World.cell?
  have h3 : i = 0 ∨ i = 1 ∨ i = 2 := by omega
  rcases h3 with rfl | rfl | rfl <;> simp [h']
theorem sz_fine {n : Nat} : ∀ (d : Nat) (f : Fm), Fine n f → Deep d f → 2 * sz f + 1 ≤ 3 ^ d := by
  intro d
  induction d with
  | zero => intro f _ h; obtain ⟨_, e, _⟩ := h.args; omega
  | succ d ih =>
    intro f hf hd
    obtain ⟨d', e, hk⟩ := hd.args
    obtain rfl : d' = d := by omega
    have hl := fine_len hf
    have h4 := hf.eq.2.2.2
    rw [sz_eq]
    have key : ∀ l : List Fm, (∀ a ∈ l, 2 * sz a + 1 ≤ 3 ^ d') → 2 * (l.map sz).sum + l.length ≤ l.length * 3 ^ d' := by
      intro l
      induction l with
      | nil => simp
      | cons a l ihl =>
        intro h
        have h1 := h a (by simp)
        have h2 := ihl fun b hb => h b (by simp [hb])
        simp only [List.map_cons, List.sum_cons, List.length_cons, Nat.add_mul]
        omega
    have h5 := key f.args fun a ha => ih a (h4 a ha) (hk a ha)
    have h6 : 1 ≤ 3 ^ d' := Nat.one_le_pow _ _ (by omega)
    rw [Nat.pow_succ]
    rcases (show f.args.length = 0 ∨ f.args.length = 1 ∨ f.args.length = 2 ∨ f.args.length = 3 by omega) with h | h | h | h <;> rw [h] at h5 <;> omega
theorem rnds (W : World) {f q h : Fm} {a2 a3 a4 : Value} {C D E O A : Option Addr} {e cc ch n c : Nat} {s s3 : Nat → Int} (hf : Rd All W (.l 6 (fds f.args)) (.slice C f.args.length e)) (hq : Rd All W (.l 6 (fds q.args)) (.slice D q.args.length cc)) (hh : Rd All W (.l 6 (fds h.args)) (.slice E h.args.length ch))
    (hs : St W n s A) (ho : St W 3 s3 O) (hn : n ≤ 20) (sf : sz f ≤ 200) (sq : sz q ≤ 200) (sh : sz h ≤ 200) : ∀ i, i < 5 → Rnd ((W.alloc (.cells #[.int .i64 f.op, .int .i64 f.num, a2, a3, a4, .slice C f.args.length e, .int .i64 q.op, .int .i64 q.num, .bool false, .slice none 0 0, .slice none 0 0, .slice D q.args.length cc,
      .int .i64 h.op, .int .i64 h.num, .bool false, .slice none 0 0, .slice none 0 0, .slice E h.args.length ch, .int .i64 q.op, .int .i64 q.num, .bool false, .slice none 0 0, .slice none 0 0, .slice D q.args.length cc, .int .i64 f.op, .int .i64 f.num, a2, a3, a4, .slice C f.args.length e] 27)).alloc
      (.cells #[.slice A n c, .slice O 3 3, .slice O 3 3, .slice A n c, .slice O 3 3] 28)) W.heap.size (W.heap.size + 1) i := by
  intro i hi
  have hb : ∀ (o o' : Obj), Below W.heap.size W ((W.alloc o).alloc o') := fun o o' => ((Below.refl _ _).alloc (Nat.le_refl _) _).alloc (by simp) _
  have df := (deep_sz f).up 200 sf
  have dq := (deep_sz q).up 200 sq
  have dh := (deep_sz h).up 200 sh
  have h5 : i = 0 ∨ i = 1 ∨ i = 2 ∨ i = 3 ∨ i = 4 := by omega
  rcases h5 with rfl | rfl | rfl | rfl | rfl
  · exact ⟨f, a2, a3, a4, C, e, A, n, c, s, by simp, by simp, by simp, by simp, by simp, by simp, by simp, ⟨_, _, _, _, _, rfl, rd_nb hf (hb _ _)⟩, hs.below (hb _ _), hn, df, sf⟩
  · exact ⟨q, .bool false, .slice none 0 0, .slice none 0 0, D, cc, O, 3, 3, s3, by simp, by simp, by simp, by simp, by simp, by simp, by simp, ⟨_, _, _, _, _, rfl, rd_nb hq (hb _ _)⟩, ho.below (hb _ _), by omega, dq, sq⟩
  · exact ⟨h, .bool false, .slice none 0 0, .slice none 0 0, E, ch, O, 3, 3, s3, by simp, by simp, by simp, by simp, by simp, by simp, by simp, ⟨_, _, _, _, _, rfl, rd_nb hh (hb _ _)⟩, ho.below (hb _ _), by omega, dh, sh⟩
  · exact ⟨q, .bool false, .slice none 0 0, .slice none 0 0, D, cc, A, n, c, s, by simp, by simp, by simp, by simp, by simp, by simp, by simp, ⟨_, _, _, _, _, rfl, rd_nb hq (hb _ _)⟩, hs.below (hb _ _), hn, dq, sq⟩
  · exact ⟨f, a2, a3, a4, C, e, O, 3, 3, s3, by simp, by simp, by simp, by simp, by simp, by simp, by simp, ⟨_, _, _, _, _, rfl, rd_nb hf (hb _ _)⟩, ho.below (hb _ _), by omega, df, sf⟩
theorem ir_ic {w : World} {base : Nat} {A : Option Addr} {l : List Int} (h : IR w base A l) : IC w A l := fun i z hz => by
  obtain ⟨b, e, _, hc⟩ := h i z hz
  exact ⟨_, e, by rw [add_plain, Nat.zero_add]; exact hc⟩
theorem ints2 (w : World) (t : TypeId) : IntsAt (w.alloc (.cells #[.int .i64 0, .int .i64 3] t)) ⟨w.heap.size, 0, none⟩ 2 0 3 := by
  refine ⟨by simp, fun i hi => ?_⟩
  have h : i = 0 ∨ i = 1 := by omega
  rw [add_plain, Nat.zero_add]
  rcases h with rfl | rfl
  · exact ⟨0, by simp, by omega, by omega⟩
  · exact ⟨3, by simp, by omega, by omega⟩
set_option maxHeartbeats 8000000 in
theorem forms_walk {f : Fm} {fv : Array Value} {s : Nat → Int} (A : Option Addr) (n c : Nat) (B : Option Addr) (m d : Nat) (w : World) (hf : FV All w f fv) (hz : sz f ≤ 1048576) (hs : St w n s A) (hcap : m ≤ d) (htop : d ≤ maxLen)
    (hI : 0 < m → ∃ ad, B = some ad ∧ IntsAt w ad m (-9223372036854775808) 9223372036854775807) :
    Calls Try.prog 3 #[.agg fv, .slice A n c, .slice B m d] w (SaysTrue w) := by
  obtain ⟨va, vb, vc, C, e, rfl, hr⟩ := hf
  obtain ⟨V, hV⟩ : ∃ V, w.alloc (.cells #[.int .i64 f.op, .int .i64 f.num, va, vb, vc, .slice C f.args.length e] 27) = V := ⟨_, rfl⟩
  obtain ⟨hvs, hwv, hbx⟩ := box6 w _ _ _ _ _ _ _ V hV
  have hF : ∀ W, Below V.heap.size V W → FV All W f #[.int .i64 f.op, .int .i64 f.num, va, vb, vc, .slice C f.args.length e] := fun W hW => ⟨va, vb, vc, C, e, rfl, rd_nb hr (nextB hwv hW)⟩
  have hSt : ∀ W, Below V.heap.size V W → St W n s A := fun W hW => hs.below (nextB hwv hW)
  obtain ⟨p0, p1, p2, p3, p4, p5⟩ := hbx V (Below.refl _ _)
  have HBX := Lib.hid hbx
  have HVV := Lib.hid hV
  have HWV := Lib.hid hwv
  have HF := Lib.hid hF
  have HS := Lib.hid hSt
  have hN := nodes_x (S := All) f (by omega) _ V (hF V (Below.refl _ _))
  have HI := Lib.hid hI
  have HT := Lib.hid htop
  clear hr hV hwv hbx hF hSt hs hI htop
  go_enter Try.func3, Try.ntmps3
  go_wp2_with fail
  rw [HVV.out]
  go_wp2_with fail
  refine hN.mono ?_
  clear hN
  rintro e1 V1 ⟨x, rfl, hx1, hx2, hb1⟩
  have HX := Lib.hid hx2
  have HB1 := Lib.hid hb1
  clear hx2 hb1 p0 p1 p2 p3 p4 p5
  by_cases hx : 200 < x
  · have hx' : (200 : Int) < (x : Int) := by omega
    go_wp2_with (refine (awake_x _).mono ?_; rintro e2 V2 ⟨rfl, hb2⟩)
    go_ret
    exact ⟨rfl, nextB HWV.out (HB1.out.trans (hb2.mono HB1.out.size))⟩
  have hx' : ¬ (200 : Int) < (x : Int) := by omega
  by_cases hn : 20 < n
  · have hn' : (20 : Int) < (n : Int) := by omega
    go_wp2_with (refine (awake_x _).mono ?_; rintro e2 V2 ⟨rfl, hb2⟩)
    go_ret
    exact ⟨rfl, nextB HWV.out (HB1.out.trans (hb2.mono HB1.out.size))⟩
  have hn' : ¬ (20 : Int) < (n : Int) := by omega
  have hsz : sz f ≤ 200 := by have := HX.out (by omega); omega
  -- the maker
  have hNew := new_any B m d V1 hcap HT.out fun h => by
    obtain ⟨ad, e, h1⟩ := HI.out h
    exact ⟨ad, e, IntsAt.but h1 (But.of_below (g := V1.heap.size) (nextB HWV.out HB1.out)) (by have := h1.1; have := (nextB HWV.out HB1.out).size; omega)⟩
  clear hcap
  go_wp2_with fail
  refine hNew.mono ?_
  clear hNew
  rintro e2 W1 ⟨g, rfl, hg, hs1, hb1⟩
  have HBW := Lib.hid (HB1.out.trans (hb1.mono HB1.out.size))
  have hgV : V.heap.size ≤ g := Nat.le_trans HB1.out.size hg
  clear hb1
  have hF3 := form_x 3 5 (by omega) (by omega) g 3 3 ⟨W1.heap.size, 0, none⟩ _ (hs1.below (allocB W1 (.cells #[.int .i64 0, .int .i64 1, .int .i64 2] 3))) (ints3 W1 3) (by have := hs1.size; show W1.heap.size ≠ g; omega) (by omega) (by omega)
  simp only [show ((5 : Nat) : Int) = 5 from rfl] at hF3
  have hgs := hs1.size
  go_wp2_with fail
  refine hF3.mono ?_
  clear hF3
  rintro e3 W3 ⟨q, D, cc, rfl, hrq, hfine, hdeep, hs3, hb3⟩
  obtain ⟨W2, hW2⟩ : ∃ W2, W1.alloc (.cells #[.int .i64 0, .int .i64 1, .int .i64 2] 3) = W2 := ⟨_, rfl⟩
  have hsW2 : W2.heap.size = W1.heap.size + 1 := by rw [← hW2]; simp
  have hb2 : Below W1.heap.size W1 W2 := by rw [← hW2]; exact allocB W1 _
  rw [hW2] at hrq hb3
  clear hW2 hs1
  have hs3s := hb3.size
  have hr0 : Rd (fun k => W2.heap.size ≤ k ∧ k < W3.heap.size) W3 (.l 6 (fds q.args)) (.slice D q.args.length cc) := hrq.keep (Nat.le_refl _) (fun _ _ _ => rfl) fun _ h h' => ⟨h, h'⟩
  clear hrq
  obtain ⟨W4, hW4⟩ : ∃ W4, W3.alloc (.cells (fv6 q.op q.num D q.args.length cc) 27) = W4 := ⟨_, rfl⟩
  have hsW4 : W4.heap.size = W3.heap.size + 1 := by rw [← hW4]; simp
  have x4 : Bx W4 W3.heap.size 27 (fv6 q.op q.num D q.args.length cc) := by rw [← hW4]; exact bx_alloc _ _ _
  have b4 : But g W3 W4 := by rw [← hW4]; exact (But.refl g W3).alloc _
  have s4 : Src W4 g := by rw [← hW4]; exact hs3.below (allocB W3 _)
  clear hs3
  go_wp2_with fail
  try rw [hW4]
  go_cut [9] (fun u9 wx => ∃ (h p : Fm) (bN bB : Nat), u9 = .pointer (some ⟨bN, 0, none⟩) ∧ W4.heap.size ≤ bN ∧ Src wx g ∧ But g W4 wx ∧ Bx wx bN 27 (fv6 h.op h.num (some ⟨bB, 0, none⟩) 2 2) ∧ h.args = [q, p] ∧ Fine 4 p ∧ Deep 2 p ∧ Rd (fun j => j ≠ g) wx (.l 6 (fds h.args)) (.slice (some ⟨bB, 0, none⟩) 2 2))
  case first =>
    have hgW : g < W4.heap.size := s4.size
    have hF2 : ∀ (b : Nat) (U : World), Src U g → IntsAt U ⟨b, 0, none⟩ 2 0 3 → b ≠ g → Calls Try.prog 9 #[.pointer (some ⟨g, 0, none⟩), .slice (some ⟨b, 0, none⟩) 2 2, .int .i64 2] U (GivesF 4 2 U.heap.size g U) := fun b U h1 h2 h3 => by
      have := form_x 4 2 (by omega) (by omega) g 2 2 ⟨b, 0, none⟩ U h1 h2 h3 (by omega) (by omega)
      simpa using this
    refine wp_region_held_drew (S := fun U => U.cell? ⟨W3.heap.size, 0, none⟩ = some (.int .i64 q.op) ∧ U.cell? ⟨W3.heap.size, 1, none⟩ = some (.int .i64 q.num) ∧ U.cell? ⟨W3.heap.size, 2, none⟩ = some (.bool false) ∧ U.cell? ⟨W3.heap.size, 3, none⟩ = some (.slice none 0 0) ∧ U.cell? ⟨W3.heap.size, 4, none⟩ = some (.slice none 0 0) ∧ U.cell? ⟨W3.heap.size, 5, none⟩ = some (.slice D q.args.length cc)) (by kernel_rfl) ?_ (fun hHeld => ?_)
    · exact six_bx x4
    have hs0 : Src W4.drew g := s4.below (drewN_below (Below.refl _ _) 1)
    have hb0 : But g W4 W4.drew := But.of_below (drewN_below (Below.refl _ _) 1)
    have hd : W4.heap.size ≤ W4.drew.heap.size := Nat.le_refl _
    have hd4 : W3.heap.size < W4.heap.size := by omega
    have hd2 : W2.heap.size ≤ W3.heap.size := hs3s
    have hd1 : W1.heap.size < W2.heap.size := by omega
    clear hsW4 hsW2
    have xq0 : Bx W4.drew W3.heap.size 27 (fv6 q.op q.num D q.args.length cc) := x4
    generalize W4.drew = W5 at hs0 hb0 hd hHeld xq0
    refine tkH (i := 0) (oi := ⟨some 32, _, _, _, _, _⟩) (v := ?_) ?_ ?_
    rotate_left
    · intro U hSw
      obtain ⟨z0, z1, z2, z3, z4, z5⟩ := hSw
      go_simp
      try (first | with_reducible rfl | exact rfl)
    try simp only [Act.put, List.setIfInBounds_toArray, List.set_cons_zero, List.set_cons_succ]
    refine tkH (i := 2) (oi := ⟨some 34, _, _, _, _, _⟩) (v := ?_) ?_ ?_
    rotate_left
    · intro U hSw
      obtain ⟨z0, z1, z2, z3, z4, z5⟩ := hSw
      go_simp
      try (first | with_reducible rfl | exact rfl)
    try simp only [Act.put, List.setIfInBounds_toArray, List.set_cons_zero, List.set_cons_succ]
    refine tkH (i := 3) (oi := ⟨some 35, _, _, _, _, _⟩) (v := ?_) ?_ ?_
    rotate_left
    · intro U hSw
      obtain ⟨z0, z1, z2, z3, z4, z5⟩ := hSw
      go_simp
      try (first | with_reducible rfl | exact rfl)
    try simp only [Act.put, List.setIfInBounds_toArray, List.set_cons_zero, List.set_cons_succ]
    refine wpAnyH_ready (rs := [1, 4, 8]) (by kernel_rfl) (by simp) ?_
    refine AllReadyH.cons (o := ⟨some 33, _, _, _, _, _⟩) rfl (fun K hK => ?_) (AllReadyH.cons (o := ⟨some 36, _, _, _, _, _⟩) rfl (fun K hK => ?_) (AllReadyH.cons (o := ⟨some 9, _, _, _, _, _⟩) rfl (fun K hK => ?_) AllReadyH.nil))
    · go_simp
      go_at_call 10
      (with_reducible refine (range_any g _ 0 14 hs0 (by omega) (by omega) (by omega)).mono ?_)
      rintro er w1 ⟨z, rfl, hz, hs1, hbn⟩
      have hb1 := hb0.trans hbn
      have zn1 := hbn.size
      clear hbn
      go_wp2_with fail
      refine hK.out _ _ (six_bx (x4.but hb1 (by omega))) (fun hHeld => ?_)
      clear hK K
      try simp only [Act.put, List.setIfInBounds_toArray, List.set_cons_zero, List.set_cons_succ]
      refine wpAnyH_ready (rs := [4, 8]) (by kernel_rfl) (by simp) ?_
      refine AllReadyH.cons (o := ⟨some 36, _, _, _, _, _⟩) rfl (fun K hK => ?_) (AllReadyH.cons (o := ⟨some 9, _, _, _, _, _⟩) rfl (fun K hK => ?_) AllReadyH.nil)
      · go_simp
        have hs2 : Src (w1.alloc (.cells #[.int .i64 0, .int .i64 3] 3)) g := hs1.below (allocB _ _)
        have hb2 : But g W4 (w1.alloc (.cells #[.int .i64 0, .int .i64 3] 3)) := hb1.alloc _
        have zn2 : w1.heap.size < (w1.alloc (.cells #[.int .i64 0, .int .i64 3] 3)).heap.size := by simp
        have iA2 : IntsAt (w1.alloc (.cells #[.int .i64 0, .int .i64 3] 3)) ⟨w1.heap.size, 0, none⟩ 2 0 3 := ints2 _ _
        obtain ⟨w2, hw2⟩ : ∃ X, w1.alloc (.cells #[.int .i64 0, .int .i64 3] 3) = X := ⟨_, rfl⟩
        rw [hw2] at hs2 hb2 zn2 iA2
        try rw [hw2]
        clear hw2
        refine hK.out _ _ (six_bx (x4.but hb2 (by omega))) (fun hHeld => ?_)
        clear hK K
        try simp only [Act.put, List.setIfInBounds_toArray, List.set_cons_zero, List.set_cons_succ]
        refine wpAnyH_ready (rs := [5, 8]) (by kernel_rfl) (by simp) ?_
        refine AllReadyH.cons (o := ⟨some 37, _, _, _, _, _⟩) rfl (fun K hK => ?_) (AllReadyH.cons (o := ⟨some 9, _, _, _, _, _⟩) rfl (fun K hK => ?_) AllReadyH.nil)
        · go_simp
          go_at_call 9
          (with_reducible refine (hF2 _ _ hs2 iA2 (by (try dsimp only); omega)).mono ?_)
          rintro er w3 ⟨p, E2, c2, rfl, hrp, hfp, hdp, hs3, hbn⟩
          have hb3 := hb2.trans hbn
          have zn3 := hbn.size
          have rF3 : Rd (fun j => W2.heap.size ≤ j) w3 (.l 6 (fds p.args)) (.slice E2 p.args.length c2) := hrp.keep (Nat.le_refl _) (fun _ _ _ => rfl) fun j hj _ => by (try unfold Fr at hj); have := hb2.size; (try dsimp only); omega
          clear hbn
          go_wp2_with fail
          refine hK.out _ _ (six_bx (x4.but hb3 (by omega))) (fun hHeld => ?_)
          clear hK K
          try simp only [Act.put, List.setIfInBounds_toArray, List.set_cons_zero, List.set_cons_succ]
          refine wpAnyH_ready (rs := [6, 8]) (by kernel_rfl) (by simp) ?_
          refine AllReadyH.cons (o := ⟨some 38, _, _, _, _, _⟩) rfl (fun K hK => ?_) (AllReadyH.cons (o := ⟨some 9, _, _, _, _, _⟩) rfl (fun K hK => ?_) AllReadyH.nil)
          · go_simp
            have hs4 : Src (w3.alloc (.cells #[.int .i64 q.op, .int .i64 q.num, .bool false, .slice none 0 0, .slice none 0 0, .slice D q.args.length cc, .int .i64 p.op, .int .i64 p.num, .bool false, .slice none 0 0, .slice none 0 0, .slice E2 p.args.length c2] 27)) g := hs3.below (allocB _ _)
            have hb4 : But g W4 (w3.alloc (.cells #[.int .i64 q.op, .int .i64 q.num, .bool false, .slice none 0 0, .slice none 0 0, .slice D q.args.length cc, .int .i64 p.op, .int .i64 p.num, .bool false, .slice none 0 0, .slice none 0 0, .slice E2 p.args.length c2] 27)) := hb3.alloc _
            have zn4 : w3.heap.size < (w3.alloc (.cells #[.int .i64 q.op, .int .i64 q.num, .bool false, .slice none 0 0, .slice none 0 0, .slice D q.args.length cc, .int .i64 p.op, .int .i64 p.num, .bool false, .slice none 0 0, .slice none 0 0, .slice E2 p.args.length c2] 27)).heap.size := by simp
            have rq : Rd (fun j => W2.heap.size ≤ j) w3 (.l 6 (fds q.args)) (.slice D q.args.length cc) := hr0.keep (by have := hb3.size; omega) (fun j hj hl => (b4.trans hb3).block j hl (by omega)) fun j hj hl => by have := hb3.size; (try dsimp only); omega
            have rB4 : Rd (fun j => W2.heap.size ≤ j) (w3.alloc (.cells #[.int .i64 q.op, .int .i64 q.num, .bool false, .slice none 0 0, .slice none 0 0, .slice D q.args.length cc, .int .i64 p.op, .int .i64 p.num, .bool false, .slice none 0 0, .slice none 0 0, .slice E2 p.args.length c2] 27)) (.l 6 (fds [q, p])) (.slice (some ⟨w3.heap.size, 0, none⟩) 2 2) := Rds.laidS (S := (fun j => W2.heap.size ≤ j)) (n := 2) 27 (vs := [.int .i64 q.op, .int .i64 q.num, .bool false, .slice none 0 0, .slice none 0 0, .slice D q.args.length cc, .int .i64 p.op, .int .i64 p.num, .bool false, .slice none 0 0, .slice none 0 0, .slice E2 p.args.length c2]) (by simpa [fds] using (fv_rds rq).app (fv_rds rF3)) (by simp [fds_len]) (fun _ h _ => h) (by have := hb3.size; (try dsimp only); omega) (by decide)
            clear rq
            obtain ⟨w4, hw4⟩ : ∃ X, w3.alloc (.cells #[.int .i64 q.op, .int .i64 q.num, .bool false, .slice none 0 0, .slice none 0 0, .slice D q.args.length cc, .int .i64 p.op, .int .i64 p.num, .bool false, .slice none 0 0, .slice none 0 0, .slice E2 p.args.length c2] 27) = X := ⟨_, rfl⟩
            rw [hw4] at hs4 hb4 zn4 rB4
            try rw [hw4]
            clear hw4
            refine hK.out _ _ (six_bx (x4.but hb4 (by omega))) (fun hHeld => ?_)
            clear hK K
            try simp only [Act.put, List.setIfInBounds_toArray, List.set_cons_zero, List.set_cons_succ]
            refine tkH (i := 7) (oi := ⟨some 39, _, _, _, _, _⟩) (v := ?_) ?_ ?_
            rotate_left
            · intro U hSw
              obtain ⟨z0, z1, z2, z3, z4, z5⟩ := hSw
              go_simp
              try (first | with_reducible rfl | exact rfl)
            try simp only [Act.put, List.setIfInBounds_toArray, List.set_cons_zero, List.set_cons_succ]
            refine wpAnyH_ready (rs := [8]) (by kernel_rfl) (by simp) ?_
            refine AllReadyH.cons (o := ⟨some 9, _, _, _, _, _⟩) rfl (fun K hK => ?_) AllReadyH.nil
            · go_simp
              have hs5 : Src (w4.alloc (.cells #[.int .i64 0, .int .i64 0, .bool false, .slice none 0 0, .slice none 0 0, .slice none 0 0] 27)) g := hs4.below (allocB _ _)
              have hb5 : But g W4 (w4.alloc (.cells #[.int .i64 0, .int .i64 0, .bool false, .slice none 0 0, .slice none 0 0, .slice none 0 0] 27)) := hb4.alloc _
              have zn5 : w4.heap.size < (w4.alloc (.cells #[.int .i64 0, .int .i64 0, .bool false, .slice none 0 0, .slice none 0 0, .slice none 0 0] 27)).heap.size := by simp
              have xN5 : Bx (w4.alloc (.cells #[.int .i64 0, .int .i64 0, .bool false, .slice none 0 0, .slice none 0 0, .slice none 0 0] 27)) w4.heap.size 27 #[.int .i64 0, .int .i64 0, .bool false, .slice none 0 0, .slice none 0 0, .slice none 0 0] := bx_alloc _ _ _
              have lN : W4.heap.size ≤ w4.heap.size := hb4.size
              have rB5 : Rd (fun j => W2.heap.size ≤ j ∧ j ≠ w4.heap.size) (w4.alloc (.cells #[.int .i64 0, .int .i64 0, .bool false, .slice none 0 0, .slice none 0 0, .slice none 0 0] 27)) (.l 6 (fds [q, p])) (.slice (some ⟨w3.heap.size, 0, none⟩) 2 2) := rB4.keep (by simp) (fun j _ hj => Below.heap_alloc _ _ _ hj) fun j h hl => ⟨h, by omega⟩
              obtain ⟨w5, hw5⟩ : ∃ X, w4.alloc (.cells #[.int .i64 0, .int .i64 0, .bool false, .slice none 0 0, .slice none 0 0, .slice none 0 0] 27) = X := ⟨_, rfl⟩
              rw [hw5] at hs5 hb5 zn5 xN5 rB5
              try rw [hw5]
              clear hw5
              refine hK.out _ _ (six_bx (x4.but hb5 (by omega))) (fun hHeld => ?_)
              clear hK K
              try simp only [Act.put, List.setIfInBounds_toArray, List.set_cons_zero, List.set_cons_succ]
              refine wpAnyH_ready (rs := [9]) (by kernel_rfl) (by simp) ?_
              refine AllReadyH.cons (o := ⟨none, _, _, _, _, _⟩) rfl (fun K hK => ?_) AllReadyH.nil
              rw [if_pos (by rfl)]
              refine wp_store_row 27 (.tmp 9) (.tmp 39) rfl (w4.heap.size) _ rfl rfl 27 _ xN5 (by kernel_rfl) rfl (by simp [Value.oneCell']) ?_
              have hbF := but_setRow hb5 lN #[.int .i64 z, .int .i64 0, .bool false, .slice none 0 0, .slice none 0 0, .slice (some ⟨w3.heap.size, 0, none⟩) 2 2]
              refine hK.out _ _ (six_bx (x4.but hbF (by omega))) (fun hHeld => ?_)
              clear hK K
              try simp only [Act.put]
              refine wpAnyH_done (by kernel_rfl) ?_ _
              go_wp2
              go_meet
              exact ⟨.mk z 0 [q, p], p, w4.heap.size, w3.heap.size, rfl, lN, src_setRow hs5 (by omega) _, hbF, Bx.set xN5 _, rfl, hfp, hdp, rB5.keep (by simp [World.setRow]) (fun j hj _ => setRow_other _ _ _ _ (by omega)) fun j hj _ => by omega⟩
          · go_simp
            have hs4 : Src (w3.alloc (.cells #[.int .i64 0, .int .i64 0, .bool false, .slice none 0 0, .slice none 0 0, .slice none 0 0] 27)) g := hs3.below (allocB _ _)
            have hb4 : But g W4 (w3.alloc (.cells #[.int .i64 0, .int .i64 0, .bool false, .slice none 0 0, .slice none 0 0, .slice none 0 0] 27)) := hb3.alloc _
            have zn4 : w3.heap.size < (w3.alloc (.cells #[.int .i64 0, .int .i64 0, .bool false, .slice none 0 0, .slice none 0 0, .slice none 0 0] 27)).heap.size := by simp
            have xN4 : Bx (w3.alloc (.cells #[.int .i64 0, .int .i64 0, .bool false, .slice none 0 0, .slice none 0 0, .slice none 0 0] 27)) w3.heap.size 27 #[.int .i64 0, .int .i64 0, .bool false, .slice none 0 0, .slice none 0 0, .slice none 0 0] := bx_alloc _ _ _
            have lN : W4.heap.size ≤ w3.heap.size := hb3.size
            have rF4 : Rd (fun j => W2.heap.size ≤ j ∧ j ≠ w3.heap.size) (w3.alloc (.cells #[.int .i64 0, .int .i64 0, .bool false, .slice none 0 0, .slice none 0 0, .slice none 0 0] 27)) (.l 6 (fds p.args)) (.slice E2 p.args.length c2) := rF3.keep (by simp) (fun j _ hj => Below.heap_alloc _ _ _ hj) fun j h hl => ⟨h, by omega⟩
            obtain ⟨w4, hw4⟩ : ∃ X, w3.alloc (.cells #[.int .i64 0, .int .i64 0, .bool false, .slice none 0 0, .slice none 0 0, .slice none 0 0] 27) = X := ⟨_, rfl⟩
            rw [hw4] at hs4 hb4 zn4 xN4 rF4
            try rw [hw4]
            clear hw4
            refine hK.out _ _ (six_bx (x4.but hb4 (by omega))) (fun hHeld => ?_)
            clear hK K
            try simp only [Act.put, List.setIfInBounds_toArray, List.set_cons_zero, List.set_cons_succ]
            refine wpAnyH_ready (rs := [6]) (by kernel_rfl) (by simp) ?_
            refine AllReadyH.cons (o := ⟨some 38, _, _, _, _, _⟩) rfl (fun K hK => ?_) AllReadyH.nil
            · go_simp
              have hs5 : Src (w4.alloc (.cells #[.int .i64 q.op, .int .i64 q.num, .bool false, .slice none 0 0, .slice none 0 0, .slice D q.args.length cc, .int .i64 p.op, .int .i64 p.num, .bool false, .slice none 0 0, .slice none 0 0, .slice E2 p.args.length c2] 27)) g := hs4.below (allocB _ _)
              have hb5 : But g W4 (w4.alloc (.cells #[.int .i64 q.op, .int .i64 q.num, .bool false, .slice none 0 0, .slice none 0 0, .slice D q.args.length cc, .int .i64 p.op, .int .i64 p.num, .bool false, .slice none 0 0, .slice none 0 0, .slice E2 p.args.length c2] 27)) := hb4.alloc _
              have zn5 : w4.heap.size < (w4.alloc (.cells #[.int .i64 q.op, .int .i64 q.num, .bool false, .slice none 0 0, .slice none 0 0, .slice D q.args.length cc, .int .i64 p.op, .int .i64 p.num, .bool false, .slice none 0 0, .slice none 0 0, .slice E2 p.args.length c2] 27)).heap.size := by simp
              have xN5 := Bx.alloc xN4 (.cells #[.int .i64 q.op, .int .i64 q.num, .bool false, .slice none 0 0, .slice none 0 0, .slice D q.args.length cc, .int .i64 p.op, .int .i64 p.num, .bool false, .slice none 0 0, .slice none 0 0, .slice E2 p.args.length c2] 27)
              have rq : Rd (fun j => W2.heap.size ≤ j ∧ j ≠ w3.heap.size) w4 (.l 6 (fds q.args)) (.slice D q.args.length cc) := hr0.keep (by have := hb4.size; omega) (fun j hj hl => (b4.trans hb4).block j hl (by omega)) fun j hj hl => by have := hb4.size; (try dsimp only); omega
              have rB5 : Rd (fun j => W2.heap.size ≤ j ∧ j ≠ w3.heap.size) (w4.alloc (.cells #[.int .i64 q.op, .int .i64 q.num, .bool false, .slice none 0 0, .slice none 0 0, .slice D q.args.length cc, .int .i64 p.op, .int .i64 p.num, .bool false, .slice none 0 0, .slice none 0 0, .slice E2 p.args.length c2] 27)) (.l 6 (fds [q, p])) (.slice (some ⟨w4.heap.size, 0, none⟩) 2 2) := Rds.laidS (S := (fun j => W2.heap.size ≤ j ∧ j ≠ w3.heap.size)) (n := 2) 27 (vs := [.int .i64 q.op, .int .i64 q.num, .bool false, .slice none 0 0, .slice none 0 0, .slice D q.args.length cc, .int .i64 p.op, .int .i64 p.num, .bool false, .slice none 0 0, .slice none 0 0, .slice E2 p.args.length c2]) (by simpa [fds] using (fv_rds rq).app (fv_rds rF4)) (by simp [fds_len]) (fun _ h _ => h) (by have := hb4.size; (try dsimp only); omega) (by decide)
              clear rq
              obtain ⟨w5, hw5⟩ : ∃ X, w4.alloc (.cells #[.int .i64 q.op, .int .i64 q.num, .bool false, .slice none 0 0, .slice none 0 0, .slice D q.args.length cc, .int .i64 p.op, .int .i64 p.num, .bool false, .slice none 0 0, .slice none 0 0, .slice E2 p.args.length c2] 27) = X := ⟨_, rfl⟩
              rw [hw5] at hs5 hb5 zn5 xN5 rB5
              try rw [hw5]
              clear hw5
              refine hK.out _ _ (six_bx (x4.but hb5 (by omega))) (fun hHeld => ?_)
              clear hK K
              try simp only [Act.put, List.setIfInBounds_toArray, List.set_cons_zero, List.set_cons_succ]
              refine tkH (i := 7) (oi := ⟨some 39, _, _, _, _, _⟩) (v := ?_) ?_ ?_
              rotate_left
              · intro U hSw
                obtain ⟨z0, z1, z2, z3, z4, z5⟩ := hSw
                go_simp
                try (first | with_reducible rfl | exact rfl)
              try simp only [Act.put, List.setIfInBounds_toArray, List.set_cons_zero, List.set_cons_succ]
              refine wpAnyH_ready (rs := [9]) (by kernel_rfl) (by simp) ?_
              refine AllReadyH.cons (o := ⟨none, _, _, _, _, _⟩) rfl (fun K hK => ?_) AllReadyH.nil
              rw [if_pos (by rfl)]
              refine wp_store_row 27 (.tmp 9) (.tmp 39) rfl (w3.heap.size) _ rfl rfl 27 _ xN5 (by kernel_rfl) rfl (by simp [Value.oneCell']) ?_
              have hbF := but_setRow hb5 lN #[.int .i64 z, .int .i64 0, .bool false, .slice none 0 0, .slice none 0 0, .slice (some ⟨w4.heap.size, 0, none⟩) 2 2]
              refine hK.out _ _ (six_bx (x4.but hbF (by omega))) (fun hHeld => ?_)
              clear hK K
              try simp only [Act.put]
              refine wpAnyH_done (by kernel_rfl) ?_ _
              go_wp2
              go_meet
              exact ⟨.mk z 0 [q, p], p, w3.heap.size, w4.heap.size, rfl, lN, src_setRow hs5 (by omega) _, hbF, Bx.set xN5 _, rfl, hfp, hdp, rB5.keep (by simp [World.setRow]) (fun j hj _ => setRow_other _ _ _ _ (by omega)) fun j hj _ => by omega⟩
        · go_simp
          have hs3 : Src (w2.alloc (.cells #[.int .i64 0, .int .i64 0, .bool false, .slice none 0 0, .slice none 0 0, .slice none 0 0] 27)) g := hs2.below (allocB _ _)
          have hb3 : But g W4 (w2.alloc (.cells #[.int .i64 0, .int .i64 0, .bool false, .slice none 0 0, .slice none 0 0, .slice none 0 0] 27)) := hb2.alloc _
          have zn3 : w2.heap.size < (w2.alloc (.cells #[.int .i64 0, .int .i64 0, .bool false, .slice none 0 0, .slice none 0 0, .slice none 0 0] 27)).heap.size := by simp
          have iA3 : IntsAt (w2.alloc (.cells #[.int .i64 0, .int .i64 0, .bool false, .slice none 0 0, .slice none 0 0, .slice none 0 0] 27)) _ 2 0 3 := IntsAt.but iA2 (But.of_below (g := g) (allocB _ _)) (by (try dsimp only); omega)
          have xN3 : Bx (w2.alloc (.cells #[.int .i64 0, .int .i64 0, .bool false, .slice none 0 0, .slice none 0 0, .slice none 0 0] 27)) w2.heap.size 27 #[.int .i64 0, .int .i64 0, .bool false, .slice none 0 0, .slice none 0 0, .slice none 0 0] := bx_alloc _ _ _
          have lN : W4.heap.size ≤ w2.heap.size := hb2.size
          obtain ⟨w3, hw3⟩ : ∃ X, w2.alloc (.cells #[.int .i64 0, .int .i64 0, .bool false, .slice none 0 0, .slice none 0 0, .slice none 0 0] 27) = X := ⟨_, rfl⟩
          rw [hw3] at hs3 hb3 zn3 iA3 xN3
          try rw [hw3]
          clear hw3
          refine hK.out _ _ (six_bx (x4.but hb3 (by omega))) (fun hHeld => ?_)
          clear hK K
          try simp only [Act.put, List.setIfInBounds_toArray, List.set_cons_zero, List.set_cons_succ]
          refine wpAnyH_ready (rs := [5]) (by kernel_rfl) (by simp) ?_
          refine AllReadyH.cons (o := ⟨some 37, _, _, _, _, _⟩) rfl (fun K hK => ?_) AllReadyH.nil
          · go_simp
            go_at_call 9
            (with_reducible refine (hF2 _ _ hs3 iA3 (by (try dsimp only); omega)).mono ?_)
            rintro er w4 ⟨p, E2, c2, rfl, hrp, hfp, hdp, hs4, hbn⟩
            have hb4 := hb3.trans hbn
            have zn4 := hbn.size
            have xN4 := xN3.but hbn (by omega)
            have rF4 : Rd (fun j => W2.heap.size ≤ j ∧ j ≠ w2.heap.size) w4 (.l 6 (fds p.args)) (.slice E2 p.args.length c2) := hrp.keep (Nat.le_refl _) (fun _ _ _ => rfl) fun j hj _ => by (try unfold Fr at hj); have := hb3.size; (try dsimp only); omega
            clear hbn
            go_wp2_with fail
            refine hK.out _ _ (six_bx (x4.but hb4 (by omega))) (fun hHeld => ?_)
            clear hK K
            try simp only [Act.put, List.setIfInBounds_toArray, List.set_cons_zero, List.set_cons_succ]
            refine wpAnyH_ready (rs := [6]) (by kernel_rfl) (by simp) ?_
            refine AllReadyH.cons (o := ⟨some 38, _, _, _, _, _⟩) rfl (fun K hK => ?_) AllReadyH.nil
            · go_simp
              have hs5 : Src (w4.alloc (.cells #[.int .i64 q.op, .int .i64 q.num, .bool false, .slice none 0 0, .slice none 0 0, .slice D q.args.length cc, .int .i64 p.op, .int .i64 p.num, .bool false, .slice none 0 0, .slice none 0 0, .slice E2 p.args.length c2] 27)) g := hs4.below (allocB _ _)
              have hb5 : But g W4 (w4.alloc (.cells #[.int .i64 q.op, .int .i64 q.num, .bool false, .slice none 0 0, .slice none 0 0, .slice D q.args.length cc, .int .i64 p.op, .int .i64 p.num, .bool false, .slice none 0 0, .slice none 0 0, .slice E2 p.args.length c2] 27)) := hb4.alloc _
              have zn5 : w4.heap.size < (w4.alloc (.cells #[.int .i64 q.op, .int .i64 q.num, .bool false, .slice none 0 0, .slice none 0 0, .slice D q.args.length cc, .int .i64 p.op, .int .i64 p.num, .bool false, .slice none 0 0, .slice none 0 0, .slice E2 p.args.length c2] 27)).heap.size := by simp
              have xN5 := Bx.alloc xN4 (.cells #[.int .i64 q.op, .int .i64 q.num, .bool false, .slice none 0 0, .slice none 0 0, .slice D q.args.length cc, .int .i64 p.op, .int .i64 p.num, .bool false, .slice none 0 0, .slice none 0 0, .slice E2 p.args.length c2] 27)
              have rq : Rd (fun j => W2.heap.size ≤ j ∧ j ≠ w2.heap.size) w4 (.l 6 (fds q.args)) (.slice D q.args.length cc) := hr0.keep (by have := hb4.size; omega) (fun j hj hl => (b4.trans hb4).block j hl (by omega)) fun j hj hl => by have := hb4.size; (try dsimp only); omega
              have rB5 : Rd (fun j => W2.heap.size ≤ j ∧ j ≠ w2.heap.size) (w4.alloc (.cells #[.int .i64 q.op, .int .i64 q.num, .bool false, .slice none 0 0, .slice none 0 0, .slice D q.args.length cc, .int .i64 p.op, .int .i64 p.num, .bool false, .slice none 0 0, .slice none 0 0, .slice E2 p.args.length c2] 27)) (.l 6 (fds [q, p])) (.slice (some ⟨w4.heap.size, 0, none⟩) 2 2) := Rds.laidS (S := (fun j => W2.heap.size ≤ j ∧ j ≠ w2.heap.size)) (n := 2) 27 (vs := [.int .i64 q.op, .int .i64 q.num, .bool false, .slice none 0 0, .slice none 0 0, .slice D q.args.length cc, .int .i64 p.op, .int .i64 p.num, .bool false, .slice none 0 0, .slice none 0 0, .slice E2 p.args.length c2]) (by simpa [fds] using (fv_rds rq).app (fv_rds rF4)) (by simp [fds_len]) (fun _ h _ => h) (by have := hb4.size; (try dsimp only); omega) (by decide)
              clear rq
              obtain ⟨w5, hw5⟩ : ∃ X, w4.alloc (.cells #[.int .i64 q.op, .int .i64 q.num, .bool false, .slice none 0 0, .slice none 0 0, .slice D q.args.length cc, .int .i64 p.op, .int .i64 p.num, .bool false, .slice none 0 0, .slice none 0 0, .slice E2 p.args.length c2] 27) = X := ⟨_, rfl⟩
              rw [hw5] at hs5 hb5 zn5 xN5 rB5
              try rw [hw5]
              clear hw5
              refine hK.out _ _ (six_bx (x4.but hb5 (by omega))) (fun hHeld => ?_)
              clear hK K
              try simp only [Act.put, List.setIfInBounds_toArray, List.set_cons_zero, List.set_cons_succ]
              refine tkH (i := 7) (oi := ⟨some 39, _, _, _, _, _⟩) (v := ?_) ?_ ?_
              rotate_left
              · intro U hSw
                obtain ⟨z0, z1, z2, z3, z4, z5⟩ := hSw
                go_simp
                try (first | with_reducible rfl | exact rfl)
              try simp only [Act.put, List.setIfInBounds_toArray, List.set_cons_zero, List.set_cons_succ]
              refine wpAnyH_ready (rs := [9]) (by kernel_rfl) (by simp) ?_
              refine AllReadyH.cons (o := ⟨none, _, _, _, _, _⟩) rfl (fun K hK => ?_) AllReadyH.nil
              rw [if_pos (by rfl)]
              refine wp_store_row 27 (.tmp 9) (.tmp 39) rfl (w2.heap.size) _ rfl rfl 27 _ xN5 (by kernel_rfl) rfl (by simp [Value.oneCell']) ?_
              have hbF := but_setRow hb5 lN #[.int .i64 z, .int .i64 0, .bool false, .slice none 0 0, .slice none 0 0, .slice (some ⟨w4.heap.size, 0, none⟩) 2 2]
              refine hK.out _ _ (six_bx (x4.but hbF (by omega))) (fun hHeld => ?_)
              clear hK K
              try simp only [Act.put]
              refine wpAnyH_done (by kernel_rfl) ?_ _
              go_wp2
              go_meet
              exact ⟨.mk z 0 [q, p], p, w2.heap.size, w4.heap.size, rfl, lN, src_setRow hs5 (by omega) _, hbF, Bx.set xN5 _, rfl, hfp, hdp, rB5.keep (by simp [World.setRow]) (fun j hj _ => setRow_other _ _ _ _ (by omega)) fun j hj _ => by omega⟩
      · go_simp
        have hs2 : Src (w1.alloc (.cells #[.int .i64 0, .int .i64 0, .bool false, .slice none 0 0, .slice none 0 0, .slice none 0 0] 27)) g := hs1.below (allocB _ _)
        have hb2 : But g W4 (w1.alloc (.cells #[.int .i64 0, .int .i64 0, .bool false, .slice none 0 0, .slice none 0 0, .slice none 0 0] 27)) := hb1.alloc _
        have zn2 : w1.heap.size < (w1.alloc (.cells #[.int .i64 0, .int .i64 0, .bool false, .slice none 0 0, .slice none 0 0, .slice none 0 0] 27)).heap.size := by simp
        have xN2 : Bx (w1.alloc (.cells #[.int .i64 0, .int .i64 0, .bool false, .slice none 0 0, .slice none 0 0, .slice none 0 0] 27)) w1.heap.size 27 #[.int .i64 0, .int .i64 0, .bool false, .slice none 0 0, .slice none 0 0, .slice none 0 0] := bx_alloc _ _ _
        have lN : W4.heap.size ≤ w1.heap.size := hb1.size
        obtain ⟨w2, hw2⟩ : ∃ X, w1.alloc (.cells #[.int .i64 0, .int .i64 0, .bool false, .slice none 0 0, .slice none 0 0, .slice none 0 0] 27) = X := ⟨_, rfl⟩
        rw [hw2] at hs2 hb2 zn2 xN2
        try rw [hw2]
        clear hw2
        refine hK.out _ _ (six_bx (x4.but hb2 (by omega))) (fun hHeld => ?_)
        clear hK K
        try simp only [Act.put, List.setIfInBounds_toArray, List.set_cons_zero, List.set_cons_succ]
        refine wpAnyH_ready (rs := [4]) (by kernel_rfl) (by simp) ?_
        refine AllReadyH.cons (o := ⟨some 36, _, _, _, _, _⟩) rfl (fun K hK => ?_) AllReadyH.nil
        · go_simp
          have hs3 : Src (w2.alloc (.cells #[.int .i64 0, .int .i64 3] 3)) g := hs2.below (allocB _ _)
          have hb3 : But g W4 (w2.alloc (.cells #[.int .i64 0, .int .i64 3] 3)) := hb2.alloc _
          have zn3 : w2.heap.size < (w2.alloc (.cells #[.int .i64 0, .int .i64 3] 3)).heap.size := by simp
          have iA3 : IntsAt (w2.alloc (.cells #[.int .i64 0, .int .i64 3] 3)) ⟨w2.heap.size, 0, none⟩ 2 0 3 := ints2 _ _
          have xN3 := Bx.alloc xN2 (.cells #[.int .i64 0, .int .i64 3] 3)
          obtain ⟨w3, hw3⟩ : ∃ X, w2.alloc (.cells #[.int .i64 0, .int .i64 3] 3) = X := ⟨_, rfl⟩
          rw [hw3] at hs3 hb3 zn3 iA3 xN3
          try rw [hw3]
          clear hw3
          refine hK.out _ _ (six_bx (x4.but hb3 (by omega))) (fun hHeld => ?_)
          clear hK K
          try simp only [Act.put, List.setIfInBounds_toArray, List.set_cons_zero, List.set_cons_succ]
          refine wpAnyH_ready (rs := [5]) (by kernel_rfl) (by simp) ?_
          refine AllReadyH.cons (o := ⟨some 37, _, _, _, _, _⟩) rfl (fun K hK => ?_) AllReadyH.nil
          · go_simp
            go_at_call 9
            (with_reducible refine (hF2 _ _ hs3 iA3 (by (try dsimp only); omega)).mono ?_)
            rintro er w4 ⟨p, E2, c2, rfl, hrp, hfp, hdp, hs4, hbn⟩
            have hb4 := hb3.trans hbn
            have zn4 := hbn.size
            have xN4 := xN3.but hbn (by omega)
            have rF4 : Rd (fun j => W2.heap.size ≤ j ∧ j ≠ w1.heap.size) w4 (.l 6 (fds p.args)) (.slice E2 p.args.length c2) := hrp.keep (Nat.le_refl _) (fun _ _ _ => rfl) fun j hj _ => by (try unfold Fr at hj); have := hb3.size; (try dsimp only); omega
            clear hbn
            go_wp2_with fail
            refine hK.out _ _ (six_bx (x4.but hb4 (by omega))) (fun hHeld => ?_)
            clear hK K
            try simp only [Act.put, List.setIfInBounds_toArray, List.set_cons_zero, List.set_cons_succ]
            refine wpAnyH_ready (rs := [6]) (by kernel_rfl) (by simp) ?_
            refine AllReadyH.cons (o := ⟨some 38, _, _, _, _, _⟩) rfl (fun K hK => ?_) AllReadyH.nil
            · go_simp
              have hs5 : Src (w4.alloc (.cells #[.int .i64 q.op, .int .i64 q.num, .bool false, .slice none 0 0, .slice none 0 0, .slice D q.args.length cc, .int .i64 p.op, .int .i64 p.num, .bool false, .slice none 0 0, .slice none 0 0, .slice E2 p.args.length c2] 27)) g := hs4.below (allocB _ _)
              have hb5 : But g W4 (w4.alloc (.cells #[.int .i64 q.op, .int .i64 q.num, .bool false, .slice none 0 0, .slice none 0 0, .slice D q.args.length cc, .int .i64 p.op, .int .i64 p.num, .bool false, .slice none 0 0, .slice none 0 0, .slice E2 p.args.length c2] 27)) := hb4.alloc _
              have zn5 : w4.heap.size < (w4.alloc (.cells #[.int .i64 q.op, .int .i64 q.num, .bool false, .slice none 0 0, .slice none 0 0, .slice D q.args.length cc, .int .i64 p.op, .int .i64 p.num, .bool false, .slice none 0 0, .slice none 0 0, .slice E2 p.args.length c2] 27)).heap.size := by simp
              have xN5 := Bx.alloc xN4 (.cells #[.int .i64 q.op, .int .i64 q.num, .bool false, .slice none 0 0, .slice none 0 0, .slice D q.args.length cc, .int .i64 p.op, .int .i64 p.num, .bool false, .slice none 0 0, .slice none 0 0, .slice E2 p.args.length c2] 27)
              have rq : Rd (fun j => W2.heap.size ≤ j ∧ j ≠ w1.heap.size) w4 (.l 6 (fds q.args)) (.slice D q.args.length cc) := hr0.keep (by have := hb4.size; omega) (fun j hj hl => (b4.trans hb4).block j hl (by omega)) fun j hj hl => by have := hb4.size; (try dsimp only); omega
              have rB5 : Rd (fun j => W2.heap.size ≤ j ∧ j ≠ w1.heap.size) (w4.alloc (.cells #[.int .i64 q.op, .int .i64 q.num, .bool false, .slice none 0 0, .slice none 0 0, .slice D q.args.length cc, .int .i64 p.op, .int .i64 p.num, .bool false, .slice none 0 0, .slice none 0 0, .slice E2 p.args.length c2] 27)) (.l 6 (fds [q, p])) (.slice (some ⟨w4.heap.size, 0, none⟩) 2 2) := Rds.laidS (S := (fun j => W2.heap.size ≤ j ∧ j ≠ w1.heap.size)) (n := 2) 27 (vs := [.int .i64 q.op, .int .i64 q.num, .bool false, .slice none 0 0, .slice none 0 0, .slice D q.args.length cc, .int .i64 p.op, .int .i64 p.num, .bool false, .slice none 0 0, .slice none 0 0, .slice E2 p.args.length c2]) (by simpa [fds] using (fv_rds rq).app (fv_rds rF4)) (by simp [fds_len]) (fun _ h _ => h) (by have := hb4.size; (try dsimp only); omega) (by decide)
              clear rq
              obtain ⟨w5, hw5⟩ : ∃ X, w4.alloc (.cells #[.int .i64 q.op, .int .i64 q.num, .bool false, .slice none 0 0, .slice none 0 0, .slice D q.args.length cc, .int .i64 p.op, .int .i64 p.num, .bool false, .slice none 0 0, .slice none 0 0, .slice E2 p.args.length c2] 27) = X := ⟨_, rfl⟩
              rw [hw5] at hs5 hb5 zn5 xN5 rB5
              try rw [hw5]
              clear hw5
              refine hK.out _ _ (six_bx (x4.but hb5 (by omega))) (fun hHeld => ?_)
              clear hK K
              try simp only [Act.put, List.setIfInBounds_toArray, List.set_cons_zero, List.set_cons_succ]
              refine tkH (i := 7) (oi := ⟨some 39, _, _, _, _, _⟩) (v := ?_) ?_ ?_
              rotate_left
              · intro U hSw
                obtain ⟨z0, z1, z2, z3, z4, z5⟩ := hSw
                go_simp
                try (first | with_reducible rfl | exact rfl)
              try simp only [Act.put, List.setIfInBounds_toArray, List.set_cons_zero, List.set_cons_succ]
              refine wpAnyH_ready (rs := [9]) (by kernel_rfl) (by simp) ?_
              refine AllReadyH.cons (o := ⟨none, _, _, _, _, _⟩) rfl (fun K hK => ?_) AllReadyH.nil
              rw [if_pos (by rfl)]
              refine wp_store_row 27 (.tmp 9) (.tmp 39) rfl (w1.heap.size) _ rfl rfl 27 _ xN5 (by kernel_rfl) rfl (by simp [Value.oneCell']) ?_
              have hbF := but_setRow hb5 lN #[.int .i64 z, .int .i64 0, .bool false, .slice none 0 0, .slice none 0 0, .slice (some ⟨w4.heap.size, 0, none⟩) 2 2]
              refine hK.out _ _ (six_bx (x4.but hbF (by omega))) (fun hHeld => ?_)
              clear hK K
              try simp only [Act.put]
              refine wpAnyH_done (by kernel_rfl) ?_ _
              go_wp2
              go_meet
              exact ⟨.mk z 0 [q, p], p, w1.heap.size, w4.heap.size, rfl, lN, src_setRow hs5 (by omega) _, hbF, Bx.set xN5 _, rfl, hfp, hdp, rB5.keep (by simp [World.setRow]) (fun j hj _ => setRow_other _ _ _ _ (by omega)) fun j hj _ => by omega⟩
    · go_simp
      have hs1 : Src (W5.alloc (.cells #[.int .i64 0, .int .i64 3] 3)) g := hs0.below (allocB _ _)
      have hb1 : But g W4 (W5.alloc (.cells #[.int .i64 0, .int .i64 3] 3)) := hb0.alloc _
      have zn1 : W5.heap.size < (W5.alloc (.cells #[.int .i64 0, .int .i64 3] 3)).heap.size := by simp
      have iA1 : IntsAt (W5.alloc (.cells #[.int .i64 0, .int .i64 3] 3)) ⟨W5.heap.size, 0, none⟩ 2 0 3 := ints2 _ _
      obtain ⟨w1, hw1⟩ : ∃ X, W5.alloc (.cells #[.int .i64 0, .int .i64 3] 3) = X := ⟨_, rfl⟩
      rw [hw1] at hs1 hb1 zn1 iA1
      try rw [hw1]
      clear hw1
      refine hK.out _ _ (six_bx (x4.but hb1 (by omega))) (fun hHeld => ?_)
      clear hK K
      try simp only [Act.put, List.setIfInBounds_toArray, List.set_cons_zero, List.set_cons_succ]
      refine wpAnyH_ready (rs := [1, 8]) (by kernel_rfl) (by simp) ?_
      refine AllReadyH.cons (o := ⟨some 33, _, _, _, _, _⟩) rfl (fun K hK => ?_) (AllReadyH.cons (o := ⟨some 9, _, _, _, _, _⟩) rfl (fun K hK => ?_) AllReadyH.nil)
      · go_simp
        go_at_call 10
        (with_reducible refine (range_any g _ 0 14 hs1 (by omega) (by omega) (by omega)).mono ?_)
        rintro er w2 ⟨z, rfl, hz, hs2, hbn⟩
        have hb2 := hb1.trans hbn
        have zn2 := hbn.size
        have iA2 := IntsAt.but iA1 hbn (by (try dsimp only); omega)
        clear hbn
        go_wp2_with fail
        refine hK.out _ _ (six_bx (x4.but hb2 (by omega))) (fun hHeld => ?_)
        clear hK K
        try simp only [Act.put, List.setIfInBounds_toArray, List.set_cons_zero, List.set_cons_succ]
        refine wpAnyH_ready (rs := [5, 8]) (by kernel_rfl) (by simp) ?_
        refine AllReadyH.cons (o := ⟨some 37, _, _, _, _, _⟩) rfl (fun K hK => ?_) (AllReadyH.cons (o := ⟨some 9, _, _, _, _, _⟩) rfl (fun K hK => ?_) AllReadyH.nil)
        · go_simp
          go_at_call 9
          (with_reducible refine (hF2 _ _ hs2 iA2 (by (try dsimp only); omega)).mono ?_)
          rintro er w3 ⟨p, E2, c2, rfl, hrp, hfp, hdp, hs3, hbn⟩
          have hb3 := hb2.trans hbn
          have zn3 := hbn.size
          have rF3 : Rd (fun j => W2.heap.size ≤ j) w3 (.l 6 (fds p.args)) (.slice E2 p.args.length c2) := hrp.keep (Nat.le_refl _) (fun _ _ _ => rfl) fun j hj _ => by (try unfold Fr at hj); have := hb2.size; (try dsimp only); omega
          clear hbn
          go_wp2_with fail
          refine hK.out _ _ (six_bx (x4.but hb3 (by omega))) (fun hHeld => ?_)
          clear hK K
          try simp only [Act.put, List.setIfInBounds_toArray, List.set_cons_zero, List.set_cons_succ]
          refine wpAnyH_ready (rs := [6, 8]) (by kernel_rfl) (by simp) ?_
          refine AllReadyH.cons (o := ⟨some 38, _, _, _, _, _⟩) rfl (fun K hK => ?_) (AllReadyH.cons (o := ⟨some 9, _, _, _, _, _⟩) rfl (fun K hK => ?_) AllReadyH.nil)
          · go_simp
            have hs4 : Src (w3.alloc (.cells #[.int .i64 q.op, .int .i64 q.num, .bool false, .slice none 0 0, .slice none 0 0, .slice D q.args.length cc, .int .i64 p.op, .int .i64 p.num, .bool false, .slice none 0 0, .slice none 0 0, .slice E2 p.args.length c2] 27)) g := hs3.below (allocB _ _)
            have hb4 : But g W4 (w3.alloc (.cells #[.int .i64 q.op, .int .i64 q.num, .bool false, .slice none 0 0, .slice none 0 0, .slice D q.args.length cc, .int .i64 p.op, .int .i64 p.num, .bool false, .slice none 0 0, .slice none 0 0, .slice E2 p.args.length c2] 27)) := hb3.alloc _
            have zn4 : w3.heap.size < (w3.alloc (.cells #[.int .i64 q.op, .int .i64 q.num, .bool false, .slice none 0 0, .slice none 0 0, .slice D q.args.length cc, .int .i64 p.op, .int .i64 p.num, .bool false, .slice none 0 0, .slice none 0 0, .slice E2 p.args.length c2] 27)).heap.size := by simp
            have rq : Rd (fun j => W2.heap.size ≤ j) w3 (.l 6 (fds q.args)) (.slice D q.args.length cc) := hr0.keep (by have := hb3.size; omega) (fun j hj hl => (b4.trans hb3).block j hl (by omega)) fun j hj hl => by have := hb3.size; (try dsimp only); omega
            have rB4 : Rd (fun j => W2.heap.size ≤ j) (w3.alloc (.cells #[.int .i64 q.op, .int .i64 q.num, .bool false, .slice none 0 0, .slice none 0 0, .slice D q.args.length cc, .int .i64 p.op, .int .i64 p.num, .bool false, .slice none 0 0, .slice none 0 0, .slice E2 p.args.length c2] 27)) (.l 6 (fds [q, p])) (.slice (some ⟨w3.heap.size, 0, none⟩) 2 2) := Rds.laidS (S := (fun j => W2.heap.size ≤ j)) (n := 2) 27 (vs := [.int .i64 q.op, .int .i64 q.num, .bool false, .slice none 0 0, .slice none 0 0, .slice D q.args.length cc, .int .i64 p.op, .int .i64 p.num, .bool false, .slice none 0 0, .slice none 0 0, .slice E2 p.args.length c2]) (by simpa [fds] using (fv_rds rq).app (fv_rds rF3)) (by simp [fds_len]) (fun _ h _ => h) (by have := hb3.size; (try dsimp only); omega) (by decide)
            clear rq
            obtain ⟨w4, hw4⟩ : ∃ X, w3.alloc (.cells #[.int .i64 q.op, .int .i64 q.num, .bool false, .slice none 0 0, .slice none 0 0, .slice D q.args.length cc, .int .i64 p.op, .int .i64 p.num, .bool false, .slice none 0 0, .slice none 0 0, .slice E2 p.args.length c2] 27) = X := ⟨_, rfl⟩
            rw [hw4] at hs4 hb4 zn4 rB4
            try rw [hw4]
            clear hw4
            refine hK.out _ _ (six_bx (x4.but hb4 (by omega))) (fun hHeld => ?_)
            clear hK K
            try simp only [Act.put, List.setIfInBounds_toArray, List.set_cons_zero, List.set_cons_succ]
            refine tkH (i := 7) (oi := ⟨some 39, _, _, _, _, _⟩) (v := ?_) ?_ ?_
            rotate_left
            · intro U hSw
              obtain ⟨z0, z1, z2, z3, z4, z5⟩ := hSw
              go_simp
              try (first | with_reducible rfl | exact rfl)
            try simp only [Act.put, List.setIfInBounds_toArray, List.set_cons_zero, List.set_cons_succ]
            refine wpAnyH_ready (rs := [8]) (by kernel_rfl) (by simp) ?_
            refine AllReadyH.cons (o := ⟨some 9, _, _, _, _, _⟩) rfl (fun K hK => ?_) AllReadyH.nil
            · go_simp
              have hs5 : Src (w4.alloc (.cells #[.int .i64 0, .int .i64 0, .bool false, .slice none 0 0, .slice none 0 0, .slice none 0 0] 27)) g := hs4.below (allocB _ _)
              have hb5 : But g W4 (w4.alloc (.cells #[.int .i64 0, .int .i64 0, .bool false, .slice none 0 0, .slice none 0 0, .slice none 0 0] 27)) := hb4.alloc _
              have zn5 : w4.heap.size < (w4.alloc (.cells #[.int .i64 0, .int .i64 0, .bool false, .slice none 0 0, .slice none 0 0, .slice none 0 0] 27)).heap.size := by simp
              have xN5 : Bx (w4.alloc (.cells #[.int .i64 0, .int .i64 0, .bool false, .slice none 0 0, .slice none 0 0, .slice none 0 0] 27)) w4.heap.size 27 #[.int .i64 0, .int .i64 0, .bool false, .slice none 0 0, .slice none 0 0, .slice none 0 0] := bx_alloc _ _ _
              have lN : W4.heap.size ≤ w4.heap.size := hb4.size
              have rB5 : Rd (fun j => W2.heap.size ≤ j ∧ j ≠ w4.heap.size) (w4.alloc (.cells #[.int .i64 0, .int .i64 0, .bool false, .slice none 0 0, .slice none 0 0, .slice none 0 0] 27)) (.l 6 (fds [q, p])) (.slice (some ⟨w3.heap.size, 0, none⟩) 2 2) := rB4.keep (by simp) (fun j _ hj => Below.heap_alloc _ _ _ hj) fun j h hl => ⟨h, by omega⟩
              obtain ⟨w5, hw5⟩ : ∃ X, w4.alloc (.cells #[.int .i64 0, .int .i64 0, .bool false, .slice none 0 0, .slice none 0 0, .slice none 0 0] 27) = X := ⟨_, rfl⟩
              rw [hw5] at hs5 hb5 zn5 xN5 rB5
              try rw [hw5]
              clear hw5
              refine hK.out _ _ (six_bx (x4.but hb5 (by omega))) (fun hHeld => ?_)
              clear hK K
              try simp only [Act.put, List.setIfInBounds_toArray, List.set_cons_zero, List.set_cons_succ]
              refine wpAnyH_ready (rs := [9]) (by kernel_rfl) (by simp) ?_
              refine AllReadyH.cons (o := ⟨none, _, _, _, _, _⟩) rfl (fun K hK => ?_) AllReadyH.nil
              rw [if_pos (by rfl)]
              refine wp_store_row 27 (.tmp 9) (.tmp 39) rfl (w4.heap.size) _ rfl rfl 27 _ xN5 (by kernel_rfl) rfl (by simp [Value.oneCell']) ?_
              have hbF := but_setRow hb5 lN #[.int .i64 z, .int .i64 0, .bool false, .slice none 0 0, .slice none 0 0, .slice (some ⟨w3.heap.size, 0, none⟩) 2 2]
              refine hK.out _ _ (six_bx (x4.but hbF (by omega))) (fun hHeld => ?_)
              clear hK K
              try simp only [Act.put]
              refine wpAnyH_done (by kernel_rfl) ?_ _
              go_wp2
              go_meet
              exact ⟨.mk z 0 [q, p], p, w4.heap.size, w3.heap.size, rfl, lN, src_setRow hs5 (by omega) _, hbF, Bx.set xN5 _, rfl, hfp, hdp, rB5.keep (by simp [World.setRow]) (fun j hj _ => setRow_other _ _ _ _ (by omega)) fun j hj _ => by omega⟩
          · go_simp
            have hs4 : Src (w3.alloc (.cells #[.int .i64 0, .int .i64 0, .bool false, .slice none 0 0, .slice none 0 0, .slice none 0 0] 27)) g := hs3.below (allocB _ _)
            have hb4 : But g W4 (w3.alloc (.cells #[.int .i64 0, .int .i64 0, .bool false, .slice none 0 0, .slice none 0 0, .slice none 0 0] 27)) := hb3.alloc _
            have zn4 : w3.heap.size < (w3.alloc (.cells #[.int .i64 0, .int .i64 0, .bool false, .slice none 0 0, .slice none 0 0, .slice none 0 0] 27)).heap.size := by simp
            have xN4 : Bx (w3.alloc (.cells #[.int .i64 0, .int .i64 0, .bool false, .slice none 0 0, .slice none 0 0, .slice none 0 0] 27)) w3.heap.size 27 #[.int .i64 0, .int .i64 0, .bool false, .slice none 0 0, .slice none 0 0, .slice none 0 0] := bx_alloc _ _ _
            have lN : W4.heap.size ≤ w3.heap.size := hb3.size
            have rF4 : Rd (fun j => W2.heap.size ≤ j ∧ j ≠ w3.heap.size) (w3.alloc (.cells #[.int .i64 0, .int .i64 0, .bool false, .slice none 0 0, .slice none 0 0, .slice none 0 0] 27)) (.l 6 (fds p.args)) (.slice E2 p.args.length c2) := rF3.keep (by simp) (fun j _ hj => Below.heap_alloc _ _ _ hj) fun j h hl => ⟨h, by omega⟩
            obtain ⟨w4, hw4⟩ : ∃ X, w3.alloc (.cells #[.int .i64 0, .int .i64 0, .bool false, .slice none 0 0, .slice none 0 0, .slice none 0 0] 27) = X := ⟨_, rfl⟩
            rw [hw4] at hs4 hb4 zn4 xN4 rF4
            try rw [hw4]
            clear hw4
            refine hK.out _ _ (six_bx (x4.but hb4 (by omega))) (fun hHeld => ?_)
            clear hK K
            try simp only [Act.put, List.setIfInBounds_toArray, List.set_cons_zero, List.set_cons_succ]
            refine wpAnyH_ready (rs := [6]) (by kernel_rfl) (by simp) ?_
            refine AllReadyH.cons (o := ⟨some 38, _, _, _, _, _⟩) rfl (fun K hK => ?_) AllReadyH.nil
            · go_simp
              have hs5 : Src (w4.alloc (.cells #[.int .i64 q.op, .int .i64 q.num, .bool false, .slice none 0 0, .slice none 0 0, .slice D q.args.length cc, .int .i64 p.op, .int .i64 p.num, .bool false, .slice none 0 0, .slice none 0 0, .slice E2 p.args.length c2] 27)) g := hs4.below (allocB _ _)
              have hb5 : But g W4 (w4.alloc (.cells #[.int .i64 q.op, .int .i64 q.num, .bool false, .slice none 0 0, .slice none 0 0, .slice D q.args.length cc, .int .i64 p.op, .int .i64 p.num, .bool false, .slice none 0 0, .slice none 0 0, .slice E2 p.args.length c2] 27)) := hb4.alloc _
              have zn5 : w4.heap.size < (w4.alloc (.cells #[.int .i64 q.op, .int .i64 q.num, .bool false, .slice none 0 0, .slice none 0 0, .slice D q.args.length cc, .int .i64 p.op, .int .i64 p.num, .bool false, .slice none 0 0, .slice none 0 0, .slice E2 p.args.length c2] 27)).heap.size := by simp
              have xN5 := Bx.alloc xN4 (.cells #[.int .i64 q.op, .int .i64 q.num, .bool false, .slice none 0 0, .slice none 0 0, .slice D q.args.length cc, .int .i64 p.op, .int .i64 p.num, .bool false, .slice none 0 0, .slice none 0 0, .slice E2 p.args.length c2] 27)
              have rq : Rd (fun j => W2.heap.size ≤ j ∧ j ≠ w3.heap.size) w4 (.l 6 (fds q.args)) (.slice D q.args.length cc) := hr0.keep (by have := hb4.size; omega) (fun j hj hl => (b4.trans hb4).block j hl (by omega)) fun j hj hl => by have := hb4.size; (try dsimp only); omega
              have rB5 : Rd (fun j => W2.heap.size ≤ j ∧ j ≠ w3.heap.size) (w4.alloc (.cells #[.int .i64 q.op, .int .i64 q.num, .bool false, .slice none 0 0, .slice none 0 0, .slice D q.args.length cc, .int .i64 p.op, .int .i64 p.num, .bool false, .slice none 0 0, .slice none 0 0, .slice E2 p.args.length c2] 27)) (.l 6 (fds [q, p])) (.slice (some ⟨w4.heap.size, 0, none⟩) 2 2) := Rds.laidS (S := (fun j => W2.heap.size ≤ j ∧ j ≠ w3.heap.size)) (n := 2) 27 (vs := [.int .i64 q.op, .int .i64 q.num, .bool false, .slice none 0 0, .slice none 0 0, .slice D q.args.length cc, .int .i64 p.op, .int .i64 p.num, .bool false, .slice none 0 0, .slice none 0 0, .slice E2 p.args.length c2]) (by simpa [fds] using (fv_rds rq).app (fv_rds rF4)) (by simp [fds_len]) (fun _ h _ => h) (by have := hb4.size; (try dsimp only); omega) (by decide)
              clear rq
              obtain ⟨w5, hw5⟩ : ∃ X, w4.alloc (.cells #[.int .i64 q.op, .int .i64 q.num, .bool false, .slice none 0 0, .slice none 0 0, .slice D q.args.length cc, .int .i64 p.op, .int .i64 p.num, .bool false, .slice none 0 0, .slice none 0 0, .slice E2 p.args.length c2] 27) = X := ⟨_, rfl⟩
              rw [hw5] at hs5 hb5 zn5 xN5 rB5
              try rw [hw5]
              clear hw5
              refine hK.out _ _ (six_bx (x4.but hb5 (by omega))) (fun hHeld => ?_)
              clear hK K
              try simp only [Act.put, List.setIfInBounds_toArray, List.set_cons_zero, List.set_cons_succ]
              refine tkH (i := 7) (oi := ⟨some 39, _, _, _, _, _⟩) (v := ?_) ?_ ?_
              rotate_left
              · intro U hSw
                obtain ⟨z0, z1, z2, z3, z4, z5⟩ := hSw
                go_simp
                try (first | with_reducible rfl | exact rfl)
              try simp only [Act.put, List.setIfInBounds_toArray, List.set_cons_zero, List.set_cons_succ]
              refine wpAnyH_ready (rs := [9]) (by kernel_rfl) (by simp) ?_
              refine AllReadyH.cons (o := ⟨none, _, _, _, _, _⟩) rfl (fun K hK => ?_) AllReadyH.nil
              rw [if_pos (by rfl)]
              refine wp_store_row 27 (.tmp 9) (.tmp 39) rfl (w3.heap.size) _ rfl rfl 27 _ xN5 (by kernel_rfl) rfl (by simp [Value.oneCell']) ?_
              have hbF := but_setRow hb5 lN #[.int .i64 z, .int .i64 0, .bool false, .slice none 0 0, .slice none 0 0, .slice (some ⟨w4.heap.size, 0, none⟩) 2 2]
              refine hK.out _ _ (six_bx (x4.but hbF (by omega))) (fun hHeld => ?_)
              clear hK K
              try simp only [Act.put]
              refine wpAnyH_done (by kernel_rfl) ?_ _
              go_wp2
              go_meet
              exact ⟨.mk z 0 [q, p], p, w3.heap.size, w4.heap.size, rfl, lN, src_setRow hs5 (by omega) _, hbF, Bx.set xN5 _, rfl, hfp, hdp, rB5.keep (by simp [World.setRow]) (fun j hj _ => setRow_other _ _ _ _ (by omega)) fun j hj _ => by omega⟩
        · go_simp
          have hs3 : Src (w2.alloc (.cells #[.int .i64 0, .int .i64 0, .bool false, .slice none 0 0, .slice none 0 0, .slice none 0 0] 27)) g := hs2.below (allocB _ _)
          have hb3 : But g W4 (w2.alloc (.cells #[.int .i64 0, .int .i64 0, .bool false, .slice none 0 0, .slice none 0 0, .slice none 0 0] 27)) := hb2.alloc _
          have zn3 : w2.heap.size < (w2.alloc (.cells #[.int .i64 0, .int .i64 0, .bool false, .slice none 0 0, .slice none 0 0, .slice none 0 0] 27)).heap.size := by simp
          have iA3 : IntsAt (w2.alloc (.cells #[.int .i64 0, .int .i64 0, .bool false, .slice none 0 0, .slice none 0 0, .slice none 0 0] 27)) _ 2 0 3 := IntsAt.but iA2 (But.of_below (g := g) (allocB _ _)) (by (try dsimp only); omega)
          have xN3 : Bx (w2.alloc (.cells #[.int .i64 0, .int .i64 0, .bool false, .slice none 0 0, .slice none 0 0, .slice none 0 0] 27)) w2.heap.size 27 #[.int .i64 0, .int .i64 0, .bool false, .slice none 0 0, .slice none 0 0, .slice none 0 0] := bx_alloc _ _ _
          have lN : W4.heap.size ≤ w2.heap.size := hb2.size
          obtain ⟨w3, hw3⟩ : ∃ X, w2.alloc (.cells #[.int .i64 0, .int .i64 0, .bool false, .slice none 0 0, .slice none 0 0, .slice none 0 0] 27) = X := ⟨_, rfl⟩
          rw [hw3] at hs3 hb3 zn3 iA3 xN3
          try rw [hw3]
          clear hw3
          refine hK.out _ _ (six_bx (x4.but hb3 (by omega))) (fun hHeld => ?_)
          clear hK K
          try simp only [Act.put, List.setIfInBounds_toArray, List.set_cons_zero, List.set_cons_succ]
          refine wpAnyH_ready (rs := [5]) (by kernel_rfl) (by simp) ?_
          refine AllReadyH.cons (o := ⟨some 37, _, _, _, _, _⟩) rfl (fun K hK => ?_) AllReadyH.nil
          · go_simp
            go_at_call 9
            (with_reducible refine (hF2 _ _ hs3 iA3 (by (try dsimp only); omega)).mono ?_)
            rintro er w4 ⟨p, E2, c2, rfl, hrp, hfp, hdp, hs4, hbn⟩
            have hb4 := hb3.trans hbn
            have zn4 := hbn.size
            have xN4 := xN3.but hbn (by omega)
            have rF4 : Rd (fun j => W2.heap.size ≤ j ∧ j ≠ w2.heap.size) w4 (.l 6 (fds p.args)) (.slice E2 p.args.length c2) := hrp.keep (Nat.le_refl _) (fun _ _ _ => rfl) fun j hj _ => by (try unfold Fr at hj); have := hb3.size; (try dsimp only); omega
            clear hbn
            go_wp2_with fail
            refine hK.out _ _ (six_bx (x4.but hb4 (by omega))) (fun hHeld => ?_)
            clear hK K
            try simp only [Act.put, List.setIfInBounds_toArray, List.set_cons_zero, List.set_cons_succ]
            refine wpAnyH_ready (rs := [6]) (by kernel_rfl) (by simp) ?_
            refine AllReadyH.cons (o := ⟨some 38, _, _, _, _, _⟩) rfl (fun K hK => ?_) AllReadyH.nil
            · go_simp
              have hs5 : Src (w4.alloc (.cells #[.int .i64 q.op, .int .i64 q.num, .bool false, .slice none 0 0, .slice none 0 0, .slice D q.args.length cc, .int .i64 p.op, .int .i64 p.num, .bool false, .slice none 0 0, .slice none 0 0, .slice E2 p.args.length c2] 27)) g := hs4.below (allocB _ _)
              have hb5 : But g W4 (w4.alloc (.cells #[.int .i64 q.op, .int .i64 q.num, .bool false, .slice none 0 0, .slice none 0 0, .slice D q.args.length cc, .int .i64 p.op, .int .i64 p.num, .bool false, .slice none 0 0, .slice none 0 0, .slice E2 p.args.length c2] 27)) := hb4.alloc _
              have zn5 : w4.heap.size < (w4.alloc (.cells #[.int .i64 q.op, .int .i64 q.num, .bool false, .slice none 0 0, .slice none 0 0, .slice D q.args.length cc, .int .i64 p.op, .int .i64 p.num, .bool false, .slice none 0 0, .slice none 0 0, .slice E2 p.args.length c2] 27)).heap.size := by simp
              have xN5 := Bx.alloc xN4 (.cells #[.int .i64 q.op, .int .i64 q.num, .bool false, .slice none 0 0, .slice none 0 0, .slice D q.args.length cc, .int .i64 p.op, .int .i64 p.num, .bool false, .slice none 0 0, .slice none 0 0, .slice E2 p.args.length c2] 27)
              have rq : Rd (fun j => W2.heap.size ≤ j ∧ j ≠ w2.heap.size) w4 (.l 6 (fds q.args)) (.slice D q.args.length cc) := hr0.keep (by have := hb4.size; omega) (fun j hj hl => (b4.trans hb4).block j hl (by omega)) fun j hj hl => by have := hb4.size; (try dsimp only); omega
              have rB5 : Rd (fun j => W2.heap.size ≤ j ∧ j ≠ w2.heap.size) (w4.alloc (.cells #[.int .i64 q.op, .int .i64 q.num, .bool false, .slice none 0 0, .slice none 0 0, .slice D q.args.length cc, .int .i64 p.op, .int .i64 p.num, .bool false, .slice none 0 0, .slice none 0 0, .slice E2 p.args.length c2] 27)) (.l 6 (fds [q, p])) (.slice (some ⟨w4.heap.size, 0, none⟩) 2 2) := Rds.laidS (S := (fun j => W2.heap.size ≤ j ∧ j ≠ w2.heap.size)) (n := 2) 27 (vs := [.int .i64 q.op, .int .i64 q.num, .bool false, .slice none 0 0, .slice none 0 0, .slice D q.args.length cc, .int .i64 p.op, .int .i64 p.num, .bool false, .slice none 0 0, .slice none 0 0, .slice E2 p.args.length c2]) (by simpa [fds] using (fv_rds rq).app (fv_rds rF4)) (by simp [fds_len]) (fun _ h _ => h) (by have := hb4.size; (try dsimp only); omega) (by decide)
              clear rq
              obtain ⟨w5, hw5⟩ : ∃ X, w4.alloc (.cells #[.int .i64 q.op, .int .i64 q.num, .bool false, .slice none 0 0, .slice none 0 0, .slice D q.args.length cc, .int .i64 p.op, .int .i64 p.num, .bool false, .slice none 0 0, .slice none 0 0, .slice E2 p.args.length c2] 27) = X := ⟨_, rfl⟩
              rw [hw5] at hs5 hb5 zn5 xN5 rB5
              try rw [hw5]
              clear hw5
              refine hK.out _ _ (six_bx (x4.but hb5 (by omega))) (fun hHeld => ?_)
              clear hK K
              try simp only [Act.put, List.setIfInBounds_toArray, List.set_cons_zero, List.set_cons_succ]
              refine tkH (i := 7) (oi := ⟨some 39, _, _, _, _, _⟩) (v := ?_) ?_ ?_
              rotate_left
              · intro U hSw
                obtain ⟨z0, z1, z2, z3, z4, z5⟩ := hSw
                go_simp
                try (first | with_reducible rfl | exact rfl)
              try simp only [Act.put, List.setIfInBounds_toArray, List.set_cons_zero, List.set_cons_succ]
              refine wpAnyH_ready (rs := [9]) (by kernel_rfl) (by simp) ?_
              refine AllReadyH.cons (o := ⟨none, _, _, _, _, _⟩) rfl (fun K hK => ?_) AllReadyH.nil
              rw [if_pos (by rfl)]
              refine wp_store_row 27 (.tmp 9) (.tmp 39) rfl (w2.heap.size) _ rfl rfl 27 _ xN5 (by kernel_rfl) rfl (by simp [Value.oneCell']) ?_
              have hbF := but_setRow hb5 lN #[.int .i64 z, .int .i64 0, .bool false, .slice none 0 0, .slice none 0 0, .slice (some ⟨w4.heap.size, 0, none⟩) 2 2]
              refine hK.out _ _ (six_bx (x4.but hbF (by omega))) (fun hHeld => ?_)
              clear hK K
              try simp only [Act.put]
              refine wpAnyH_done (by kernel_rfl) ?_ _
              go_wp2
              go_meet
              exact ⟨.mk z 0 [q, p], p, w2.heap.size, w4.heap.size, rfl, lN, src_setRow hs5 (by omega) _, hbF, Bx.set xN5 _, rfl, hfp, hdp, rB5.keep (by simp [World.setRow]) (fun j hj _ => setRow_other _ _ _ _ (by omega)) fun j hj _ => by omega⟩
      · go_simp
        have hs2 : Src (w1.alloc (.cells #[.int .i64 0, .int .i64 0, .bool false, .slice none 0 0, .slice none 0 0, .slice none 0 0] 27)) g := hs1.below (allocB _ _)
        have hb2 : But g W4 (w1.alloc (.cells #[.int .i64 0, .int .i64 0, .bool false, .slice none 0 0, .slice none 0 0, .slice none 0 0] 27)) := hb1.alloc _
        have zn2 : w1.heap.size < (w1.alloc (.cells #[.int .i64 0, .int .i64 0, .bool false, .slice none 0 0, .slice none 0 0, .slice none 0 0] 27)).heap.size := by simp
        have iA2 : IntsAt (w1.alloc (.cells #[.int .i64 0, .int .i64 0, .bool false, .slice none 0 0, .slice none 0 0, .slice none 0 0] 27)) _ 2 0 3 := IntsAt.but iA1 (But.of_below (g := g) (allocB _ _)) (by (try dsimp only); omega)
        have xN2 : Bx (w1.alloc (.cells #[.int .i64 0, .int .i64 0, .bool false, .slice none 0 0, .slice none 0 0, .slice none 0 0] 27)) w1.heap.size 27 #[.int .i64 0, .int .i64 0, .bool false, .slice none 0 0, .slice none 0 0, .slice none 0 0] := bx_alloc _ _ _
        have lN : W4.heap.size ≤ w1.heap.size := hb1.size
        obtain ⟨w2, hw2⟩ : ∃ X, w1.alloc (.cells #[.int .i64 0, .int .i64 0, .bool false, .slice none 0 0, .slice none 0 0, .slice none 0 0] 27) = X := ⟨_, rfl⟩
        rw [hw2] at hs2 hb2 zn2 iA2 xN2
        try rw [hw2]
        clear hw2
        refine hK.out _ _ (six_bx (x4.but hb2 (by omega))) (fun hHeld => ?_)
        clear hK K
        try simp only [Act.put, List.setIfInBounds_toArray, List.set_cons_zero, List.set_cons_succ]
        refine wpAnyH_ready (rs := [1]) (by kernel_rfl) (by simp) ?_
        refine AllReadyH.cons (o := ⟨some 33, _, _, _, _, _⟩) rfl (fun K hK => ?_) AllReadyH.nil
        · go_simp
          go_at_call 10
          (with_reducible refine (range_any g _ 0 14 hs2 (by omega) (by omega) (by omega)).mono ?_)
          rintro er w3 ⟨z, rfl, hz, hs3, hbn⟩
          have hb3 := hb2.trans hbn
          have zn3 := hbn.size
          have iA3 := IntsAt.but iA2 hbn (by (try dsimp only); omega)
          have xN3 := xN2.but hbn (by omega)
          clear hbn
          go_wp2_with fail
          refine hK.out _ _ (six_bx (x4.but hb3 (by omega))) (fun hHeld => ?_)
          clear hK K
          try simp only [Act.put, List.setIfInBounds_toArray, List.set_cons_zero, List.set_cons_succ]
          refine wpAnyH_ready (rs := [5]) (by kernel_rfl) (by simp) ?_
          refine AllReadyH.cons (o := ⟨some 37, _, _, _, _, _⟩) rfl (fun K hK => ?_) AllReadyH.nil
          · go_simp
            go_at_call 9
            (with_reducible refine (hF2 _ _ hs3 iA3 (by (try dsimp only); omega)).mono ?_)
            rintro er w4 ⟨p, E2, c2, rfl, hrp, hfp, hdp, hs4, hbn⟩
            have hb4 := hb3.trans hbn
            have zn4 := hbn.size
            have xN4 := xN3.but hbn (by omega)
            have rF4 : Rd (fun j => W2.heap.size ≤ j ∧ j ≠ w1.heap.size) w4 (.l 6 (fds p.args)) (.slice E2 p.args.length c2) := hrp.keep (Nat.le_refl _) (fun _ _ _ => rfl) fun j hj _ => by (try unfold Fr at hj); have := hb3.size; (try dsimp only); omega
            clear hbn
            go_wp2_with fail
            refine hK.out _ _ (six_bx (x4.but hb4 (by omega))) (fun hHeld => ?_)
            clear hK K
            try simp only [Act.put, List.setIfInBounds_toArray, List.set_cons_zero, List.set_cons_succ]
            refine wpAnyH_ready (rs := [6]) (by kernel_rfl) (by simp) ?_
            refine AllReadyH.cons (o := ⟨some 38, _, _, _, _, _⟩) rfl (fun K hK => ?_) AllReadyH.nil
            · go_simp
              have hs5 : Src (w4.alloc (.cells #[.int .i64 q.op, .int .i64 q.num, .bool false, .slice none 0 0, .slice none 0 0, .slice D q.args.length cc, .int .i64 p.op, .int .i64 p.num, .bool false, .slice none 0 0, .slice none 0 0, .slice E2 p.args.length c2] 27)) g := hs4.below (allocB _ _)
              have hb5 : But g W4 (w4.alloc (.cells #[.int .i64 q.op, .int .i64 q.num, .bool false, .slice none 0 0, .slice none 0 0, .slice D q.args.length cc, .int .i64 p.op, .int .i64 p.num, .bool false, .slice none 0 0, .slice none 0 0, .slice E2 p.args.length c2] 27)) := hb4.alloc _
              have zn5 : w4.heap.size < (w4.alloc (.cells #[.int .i64 q.op, .int .i64 q.num, .bool false, .slice none 0 0, .slice none 0 0, .slice D q.args.length cc, .int .i64 p.op, .int .i64 p.num, .bool false, .slice none 0 0, .slice none 0 0, .slice E2 p.args.length c2] 27)).heap.size := by simp
              have xN5 := Bx.alloc xN4 (.cells #[.int .i64 q.op, .int .i64 q.num, .bool false, .slice none 0 0, .slice none 0 0, .slice D q.args.length cc, .int .i64 p.op, .int .i64 p.num, .bool false, .slice none 0 0, .slice none 0 0, .slice E2 p.args.length c2] 27)
              have rq : Rd (fun j => W2.heap.size ≤ j ∧ j ≠ w1.heap.size) w4 (.l 6 (fds q.args)) (.slice D q.args.length cc) := hr0.keep (by have := hb4.size; omega) (fun j hj hl => (b4.trans hb4).block j hl (by omega)) fun j hj hl => by have := hb4.size; (try dsimp only); omega
              have rB5 : Rd (fun j => W2.heap.size ≤ j ∧ j ≠ w1.heap.size) (w4.alloc (.cells #[.int .i64 q.op, .int .i64 q.num, .bool false, .slice none 0 0, .slice none 0 0, .slice D q.args.length cc, .int .i64 p.op, .int .i64 p.num, .bool false, .slice none 0 0, .slice none 0 0, .slice E2 p.args.length c2] 27)) (.l 6 (fds [q, p])) (.slice (some ⟨w4.heap.size, 0, none⟩) 2 2) := Rds.laidS (S := (fun j => W2.heap.size ≤ j ∧ j ≠ w1.heap.size)) (n := 2) 27 (vs := [.int .i64 q.op, .int .i64 q.num, .bool false, .slice none 0 0, .slice none 0 0, .slice D q.args.length cc, .int .i64 p.op, .int .i64 p.num, .bool false, .slice none 0 0, .slice none 0 0, .slice E2 p.args.length c2]) (by simpa [fds] using (fv_rds rq).app (fv_rds rF4)) (by simp [fds_len]) (fun _ h _ => h) (by have := hb4.size; (try dsimp only); omega) (by decide)
              clear rq
              obtain ⟨w5, hw5⟩ : ∃ X, w4.alloc (.cells #[.int .i64 q.op, .int .i64 q.num, .bool false, .slice none 0 0, .slice none 0 0, .slice D q.args.length cc, .int .i64 p.op, .int .i64 p.num, .bool false, .slice none 0 0, .slice none 0 0, .slice E2 p.args.length c2] 27) = X := ⟨_, rfl⟩
              rw [hw5] at hs5 hb5 zn5 xN5 rB5
              try rw [hw5]
              clear hw5
              refine hK.out _ _ (six_bx (x4.but hb5 (by omega))) (fun hHeld => ?_)
              clear hK K
              try simp only [Act.put, List.setIfInBounds_toArray, List.set_cons_zero, List.set_cons_succ]
              refine tkH (i := 7) (oi := ⟨some 39, _, _, _, _, _⟩) (v := ?_) ?_ ?_
              rotate_left
              · intro U hSw
                obtain ⟨z0, z1, z2, z3, z4, z5⟩ := hSw
                go_simp
                try (first | with_reducible rfl | exact rfl)
              try simp only [Act.put, List.setIfInBounds_toArray, List.set_cons_zero, List.set_cons_succ]
              refine wpAnyH_ready (rs := [9]) (by kernel_rfl) (by simp) ?_
              refine AllReadyH.cons (o := ⟨none, _, _, _, _, _⟩) rfl (fun K hK => ?_) AllReadyH.nil
              rw [if_pos (by rfl)]
              refine wp_store_row 27 (.tmp 9) (.tmp 39) rfl (w1.heap.size) _ rfl rfl 27 _ xN5 (by kernel_rfl) rfl (by simp [Value.oneCell']) ?_
              have hbF := but_setRow hb5 lN #[.int .i64 z, .int .i64 0, .bool false, .slice none 0 0, .slice none 0 0, .slice (some ⟨w4.heap.size, 0, none⟩) 2 2]
              refine hK.out _ _ (six_bx (x4.but hbF (by omega))) (fun hHeld => ?_)
              clear hK K
              try simp only [Act.put]
              refine wpAnyH_done (by kernel_rfl) ?_ _
              go_wp2
              go_meet
              exact ⟨.mk z 0 [q, p], p, w1.heap.size, w4.heap.size, rfl, lN, src_setRow hs5 (by omega) _, hbF, Bx.set xN5 _, rfl, hfp, hdp, rB5.keep (by simp [World.setRow]) (fun j hj _ => setRow_other _ _ _ _ (by omega)) fun j hj _ => by omega⟩
    · go_simp
      have hs1 : Src (W5.alloc (.cells #[.int .i64 0, .int .i64 0, .bool false, .slice none 0 0, .slice none 0 0, .slice none 0 0] 27)) g := hs0.below (allocB _ _)
      have hb1 : But g W4 (W5.alloc (.cells #[.int .i64 0, .int .i64 0, .bool false, .slice none 0 0, .slice none 0 0, .slice none 0 0] 27)) := hb0.alloc _
      have zn1 : W5.heap.size < (W5.alloc (.cells #[.int .i64 0, .int .i64 0, .bool false, .slice none 0 0, .slice none 0 0, .slice none 0 0] 27)).heap.size := by simp
      have xN1 : Bx (W5.alloc (.cells #[.int .i64 0, .int .i64 0, .bool false, .slice none 0 0, .slice none 0 0, .slice none 0 0] 27)) W5.heap.size 27 #[.int .i64 0, .int .i64 0, .bool false, .slice none 0 0, .slice none 0 0, .slice none 0 0] := bx_alloc _ _ _
      have lN : W4.heap.size ≤ W5.heap.size := hb0.size
      obtain ⟨w1, hw1⟩ : ∃ X, W5.alloc (.cells #[.int .i64 0, .int .i64 0, .bool false, .slice none 0 0, .slice none 0 0, .slice none 0 0] 27) = X := ⟨_, rfl⟩
      rw [hw1] at hs1 hb1 zn1 xN1
      try rw [hw1]
      clear hw1
      refine hK.out _ _ (six_bx (x4.but hb1 (by omega))) (fun hHeld => ?_)
      clear hK K
      try simp only [Act.put, List.setIfInBounds_toArray, List.set_cons_zero, List.set_cons_succ]
      refine wpAnyH_ready (rs := [1, 4]) (by kernel_rfl) (by simp) ?_
      refine AllReadyH.cons (o := ⟨some 33, _, _, _, _, _⟩) rfl (fun K hK => ?_) (AllReadyH.cons (o := ⟨some 36, _, _, _, _, _⟩) rfl (fun K hK => ?_) AllReadyH.nil)
      · go_simp
        go_at_call 10
        (with_reducible refine (range_any g _ 0 14 hs1 (by omega) (by omega) (by omega)).mono ?_)
        rintro er w2 ⟨z, rfl, hz, hs2, hbn⟩
        have hb2 := hb1.trans hbn
        have zn2 := hbn.size
        have xN2 := xN1.but hbn (by omega)
        clear hbn
        go_wp2_with fail
        refine hK.out _ _ (six_bx (x4.but hb2 (by omega))) (fun hHeld => ?_)
        clear hK K
        try simp only [Act.put, List.setIfInBounds_toArray, List.set_cons_zero, List.set_cons_succ]
        refine wpAnyH_ready (rs := [4]) (by kernel_rfl) (by simp) ?_
        refine AllReadyH.cons (o := ⟨some 36, _, _, _, _, _⟩) rfl (fun K hK => ?_) AllReadyH.nil
        · go_simp
          have hs3 : Src (w2.alloc (.cells #[.int .i64 0, .int .i64 3] 3)) g := hs2.below (allocB _ _)
          have hb3 : But g W4 (w2.alloc (.cells #[.int .i64 0, .int .i64 3] 3)) := hb2.alloc _
          have zn3 : w2.heap.size < (w2.alloc (.cells #[.int .i64 0, .int .i64 3] 3)).heap.size := by simp
          have iA3 : IntsAt (w2.alloc (.cells #[.int .i64 0, .int .i64 3] 3)) ⟨w2.heap.size, 0, none⟩ 2 0 3 := ints2 _ _
          have xN3 := Bx.alloc xN2 (.cells #[.int .i64 0, .int .i64 3] 3)
          obtain ⟨w3, hw3⟩ : ∃ X, w2.alloc (.cells #[.int .i64 0, .int .i64 3] 3) = X := ⟨_, rfl⟩
          rw [hw3] at hs3 hb3 zn3 iA3 xN3
          try rw [hw3]
          clear hw3
          refine hK.out _ _ (six_bx (x4.but hb3 (by omega))) (fun hHeld => ?_)
          clear hK K
          try simp only [Act.put, List.setIfInBounds_toArray, List.set_cons_zero, List.set_cons_succ]
          refine wpAnyH_ready (rs := [5]) (by kernel_rfl) (by simp) ?_
          refine AllReadyH.cons (o := ⟨some 37, _, _, _, _, _⟩) rfl (fun K hK => ?_) AllReadyH.nil
          · go_simp
            go_at_call 9
            (with_reducible refine (hF2 _ _ hs3 iA3 (by (try dsimp only); omega)).mono ?_)
            rintro er w4 ⟨p, E2, c2, rfl, hrp, hfp, hdp, hs4, hbn⟩
            have hb4 := hb3.trans hbn
            have zn4 := hbn.size
            have xN4 := xN3.but hbn (by omega)
            have rF4 : Rd (fun j => W2.heap.size ≤ j ∧ j ≠ W5.heap.size) w4 (.l 6 (fds p.args)) (.slice E2 p.args.length c2) := hrp.keep (Nat.le_refl _) (fun _ _ _ => rfl) fun j hj _ => by (try unfold Fr at hj); have := hb3.size; (try dsimp only); omega
            clear hbn
            go_wp2_with fail
            refine hK.out _ _ (six_bx (x4.but hb4 (by omega))) (fun hHeld => ?_)
            clear hK K
            try simp only [Act.put, List.setIfInBounds_toArray, List.set_cons_zero, List.set_cons_succ]
            refine wpAnyH_ready (rs := [6]) (by kernel_rfl) (by simp) ?_
            refine AllReadyH.cons (o := ⟨some 38, _, _, _, _, _⟩) rfl (fun K hK => ?_) AllReadyH.nil
            · go_simp
              have hs5 : Src (w4.alloc (.cells #[.int .i64 q.op, .int .i64 q.num, .bool false, .slice none 0 0, .slice none 0 0, .slice D q.args.length cc, .int .i64 p.op, .int .i64 p.num, .bool false, .slice none 0 0, .slice none 0 0, .slice E2 p.args.length c2] 27)) g := hs4.below (allocB _ _)
              have hb5 : But g W4 (w4.alloc (.cells #[.int .i64 q.op, .int .i64 q.num, .bool false, .slice none 0 0, .slice none 0 0, .slice D q.args.length cc, .int .i64 p.op, .int .i64 p.num, .bool false, .slice none 0 0, .slice none 0 0, .slice E2 p.args.length c2] 27)) := hb4.alloc _
              have zn5 : w4.heap.size < (w4.alloc (.cells #[.int .i64 q.op, .int .i64 q.num, .bool false, .slice none 0 0, .slice none 0 0, .slice D q.args.length cc, .int .i64 p.op, .int .i64 p.num, .bool false, .slice none 0 0, .slice none 0 0, .slice E2 p.args.length c2] 27)).heap.size := by simp
              have xN5 := Bx.alloc xN4 (.cells #[.int .i64 q.op, .int .i64 q.num, .bool false, .slice none 0 0, .slice none 0 0, .slice D q.args.length cc, .int .i64 p.op, .int .i64 p.num, .bool false, .slice none 0 0, .slice none 0 0, .slice E2 p.args.length c2] 27)
              have rq : Rd (fun j => W2.heap.size ≤ j ∧ j ≠ W5.heap.size) w4 (.l 6 (fds q.args)) (.slice D q.args.length cc) := hr0.keep (by have := hb4.size; omega) (fun j hj hl => (b4.trans hb4).block j hl (by omega)) fun j hj hl => by have := hb4.size; (try dsimp only); omega
              have rB5 : Rd (fun j => W2.heap.size ≤ j ∧ j ≠ W5.heap.size) (w4.alloc (.cells #[.int .i64 q.op, .int .i64 q.num, .bool false, .slice none 0 0, .slice none 0 0, .slice D q.args.length cc, .int .i64 p.op, .int .i64 p.num, .bool false, .slice none 0 0, .slice none 0 0, .slice E2 p.args.length c2] 27)) (.l 6 (fds [q, p])) (.slice (some ⟨w4.heap.size, 0, none⟩) 2 2) := Rds.laidS (S := (fun j => W2.heap.size ≤ j ∧ j ≠ W5.heap.size)) (n := 2) 27 (vs := [.int .i64 q.op, .int .i64 q.num, .bool false, .slice none 0 0, .slice none 0 0, .slice D q.args.length cc, .int .i64 p.op, .int .i64 p.num, .bool false, .slice none 0 0, .slice none 0 0, .slice E2 p.args.length c2]) (by simpa [fds] using (fv_rds rq).app (fv_rds rF4)) (by simp [fds_len]) (fun _ h _ => h) (by have := hb4.size; (try dsimp only); omega) (by decide)
              clear rq
              obtain ⟨w5, hw5⟩ : ∃ X, w4.alloc (.cells #[.int .i64 q.op, .int .i64 q.num, .bool false, .slice none 0 0, .slice none 0 0, .slice D q.args.length cc, .int .i64 p.op, .int .i64 p.num, .bool false, .slice none 0 0, .slice none 0 0, .slice E2 p.args.length c2] 27) = X := ⟨_, rfl⟩
              rw [hw5] at hs5 hb5 zn5 xN5 rB5
              try rw [hw5]
              clear hw5
              refine hK.out _ _ (six_bx (x4.but hb5 (by omega))) (fun hHeld => ?_)
              clear hK K
              try simp only [Act.put, List.setIfInBounds_toArray, List.set_cons_zero, List.set_cons_succ]
              refine tkH (i := 7) (oi := ⟨some 39, _, _, _, _, _⟩) (v := ?_) ?_ ?_
              rotate_left
              · intro U hSw
                obtain ⟨z0, z1, z2, z3, z4, z5⟩ := hSw
                go_simp
                try (first | with_reducible rfl | exact rfl)
              try simp only [Act.put, List.setIfInBounds_toArray, List.set_cons_zero, List.set_cons_succ]
              refine wpAnyH_ready (rs := [9]) (by kernel_rfl) (by simp) ?_
              refine AllReadyH.cons (o := ⟨none, _, _, _, _, _⟩) rfl (fun K hK => ?_) AllReadyH.nil
              rw [if_pos (by rfl)]
              refine wp_store_row 27 (.tmp 9) (.tmp 39) rfl (W5.heap.size) _ rfl rfl 27 _ xN5 (by kernel_rfl) rfl (by simp [Value.oneCell']) ?_
              have hbF := but_setRow hb5 lN #[.int .i64 z, .int .i64 0, .bool false, .slice none 0 0, .slice none 0 0, .slice (some ⟨w4.heap.size, 0, none⟩) 2 2]
              refine hK.out _ _ (six_bx (x4.but hbF (by omega))) (fun hHeld => ?_)
              clear hK K
              try simp only [Act.put]
              refine wpAnyH_done (by kernel_rfl) ?_ _
              go_wp2
              go_meet
              exact ⟨.mk z 0 [q, p], p, W5.heap.size, w4.heap.size, rfl, lN, src_setRow hs5 (by omega) _, hbF, Bx.set xN5 _, rfl, hfp, hdp, rB5.keep (by simp [World.setRow]) (fun j hj _ => setRow_other _ _ _ _ (by omega)) fun j hj _ => by omega⟩
      · go_simp
        have hs2 : Src (w1.alloc (.cells #[.int .i64 0, .int .i64 3] 3)) g := hs1.below (allocB _ _)
        have hb2 : But g W4 (w1.alloc (.cells #[.int .i64 0, .int .i64 3] 3)) := hb1.alloc _
        have zn2 : w1.heap.size < (w1.alloc (.cells #[.int .i64 0, .int .i64 3] 3)).heap.size := by simp
        have iA2 : IntsAt (w1.alloc (.cells #[.int .i64 0, .int .i64 3] 3)) ⟨w1.heap.size, 0, none⟩ 2 0 3 := ints2 _ _
        have xN2 := Bx.alloc xN1 (.cells #[.int .i64 0, .int .i64 3] 3)
        obtain ⟨w2, hw2⟩ : ∃ X, w1.alloc (.cells #[.int .i64 0, .int .i64 3] 3) = X := ⟨_, rfl⟩
        rw [hw2] at hs2 hb2 zn2 iA2 xN2
        try rw [hw2]
        clear hw2
        refine hK.out _ _ (six_bx (x4.but hb2 (by omega))) (fun hHeld => ?_)
        clear hK K
        try simp only [Act.put, List.setIfInBounds_toArray, List.set_cons_zero, List.set_cons_succ]
        refine wpAnyH_ready (rs := [1]) (by kernel_rfl) (by simp) ?_
        refine AllReadyH.cons (o := ⟨some 33, _, _, _, _, _⟩) rfl (fun K hK => ?_) AllReadyH.nil
        · go_simp
          go_at_call 10
          (with_reducible refine (range_any g _ 0 14 hs2 (by omega) (by omega) (by omega)).mono ?_)
          rintro er w3 ⟨z, rfl, hz, hs3, hbn⟩
          have hb3 := hb2.trans hbn
          have zn3 := hbn.size
          have iA3 := IntsAt.but iA2 hbn (by (try dsimp only); omega)
          have xN3 := xN2.but hbn (by omega)
          clear hbn
          go_wp2_with fail
          refine hK.out _ _ (six_bx (x4.but hb3 (by omega))) (fun hHeld => ?_)
          clear hK K
          try simp only [Act.put, List.setIfInBounds_toArray, List.set_cons_zero, List.set_cons_succ]
          refine wpAnyH_ready (rs := [5]) (by kernel_rfl) (by simp) ?_
          refine AllReadyH.cons (o := ⟨some 37, _, _, _, _, _⟩) rfl (fun K hK => ?_) AllReadyH.nil
          · go_simp
            go_at_call 9
            (with_reducible refine (hF2 _ _ hs3 iA3 (by (try dsimp only); omega)).mono ?_)
            rintro er w4 ⟨p, E2, c2, rfl, hrp, hfp, hdp, hs4, hbn⟩
            have hb4 := hb3.trans hbn
            have zn4 := hbn.size
            have xN4 := xN3.but hbn (by omega)
            have rF4 : Rd (fun j => W2.heap.size ≤ j ∧ j ≠ W5.heap.size) w4 (.l 6 (fds p.args)) (.slice E2 p.args.length c2) := hrp.keep (Nat.le_refl _) (fun _ _ _ => rfl) fun j hj _ => by (try unfold Fr at hj); have := hb3.size; (try dsimp only); omega
            clear hbn
            go_wp2_with fail
            refine hK.out _ _ (six_bx (x4.but hb4 (by omega))) (fun hHeld => ?_)
            clear hK K
            try simp only [Act.put, List.setIfInBounds_toArray, List.set_cons_zero, List.set_cons_succ]
            refine wpAnyH_ready (rs := [6]) (by kernel_rfl) (by simp) ?_
            refine AllReadyH.cons (o := ⟨some 38, _, _, _, _, _⟩) rfl (fun K hK => ?_) AllReadyH.nil
            · go_simp
              have hs5 : Src (w4.alloc (.cells #[.int .i64 q.op, .int .i64 q.num, .bool false, .slice none 0 0, .slice none 0 0, .slice D q.args.length cc, .int .i64 p.op, .int .i64 p.num, .bool false, .slice none 0 0, .slice none 0 0, .slice E2 p.args.length c2] 27)) g := hs4.below (allocB _ _)
              have hb5 : But g W4 (w4.alloc (.cells #[.int .i64 q.op, .int .i64 q.num, .bool false, .slice none 0 0, .slice none 0 0, .slice D q.args.length cc, .int .i64 p.op, .int .i64 p.num, .bool false, .slice none 0 0, .slice none 0 0, .slice E2 p.args.length c2] 27)) := hb4.alloc _
              have zn5 : w4.heap.size < (w4.alloc (.cells #[.int .i64 q.op, .int .i64 q.num, .bool false, .slice none 0 0, .slice none 0 0, .slice D q.args.length cc, .int .i64 p.op, .int .i64 p.num, .bool false, .slice none 0 0, .slice none 0 0, .slice E2 p.args.length c2] 27)).heap.size := by simp
              have xN5 := Bx.alloc xN4 (.cells #[.int .i64 q.op, .int .i64 q.num, .bool false, .slice none 0 0, .slice none 0 0, .slice D q.args.length cc, .int .i64 p.op, .int .i64 p.num, .bool false, .slice none 0 0, .slice none 0 0, .slice E2 p.args.length c2] 27)
              have rq : Rd (fun j => W2.heap.size ≤ j ∧ j ≠ W5.heap.size) w4 (.l 6 (fds q.args)) (.slice D q.args.length cc) := hr0.keep (by have := hb4.size; omega) (fun j hj hl => (b4.trans hb4).block j hl (by omega)) fun j hj hl => by have := hb4.size; (try dsimp only); omega
              have rB5 : Rd (fun j => W2.heap.size ≤ j ∧ j ≠ W5.heap.size) (w4.alloc (.cells #[.int .i64 q.op, .int .i64 q.num, .bool false, .slice none 0 0, .slice none 0 0, .slice D q.args.length cc, .int .i64 p.op, .int .i64 p.num, .bool false, .slice none 0 0, .slice none 0 0, .slice E2 p.args.length c2] 27)) (.l 6 (fds [q, p])) (.slice (some ⟨w4.heap.size, 0, none⟩) 2 2) := Rds.laidS (S := (fun j => W2.heap.size ≤ j ∧ j ≠ W5.heap.size)) (n := 2) 27 (vs := [.int .i64 q.op, .int .i64 q.num, .bool false, .slice none 0 0, .slice none 0 0, .slice D q.args.length cc, .int .i64 p.op, .int .i64 p.num, .bool false, .slice none 0 0, .slice none 0 0, .slice E2 p.args.length c2]) (by simpa [fds] using (fv_rds rq).app (fv_rds rF4)) (by simp [fds_len]) (fun _ h _ => h) (by have := hb4.size; (try dsimp only); omega) (by decide)
              clear rq
              obtain ⟨w5, hw5⟩ : ∃ X, w4.alloc (.cells #[.int .i64 q.op, .int .i64 q.num, .bool false, .slice none 0 0, .slice none 0 0, .slice D q.args.length cc, .int .i64 p.op, .int .i64 p.num, .bool false, .slice none 0 0, .slice none 0 0, .slice E2 p.args.length c2] 27) = X := ⟨_, rfl⟩
              rw [hw5] at hs5 hb5 zn5 xN5 rB5
              try rw [hw5]
              clear hw5
              refine hK.out _ _ (six_bx (x4.but hb5 (by omega))) (fun hHeld => ?_)
              clear hK K
              try simp only [Act.put, List.setIfInBounds_toArray, List.set_cons_zero, List.set_cons_succ]
              refine tkH (i := 7) (oi := ⟨some 39, _, _, _, _, _⟩) (v := ?_) ?_ ?_
              rotate_left
              · intro U hSw
                obtain ⟨z0, z1, z2, z3, z4, z5⟩ := hSw
                go_simp
                try (first | with_reducible rfl | exact rfl)
              try simp only [Act.put, List.setIfInBounds_toArray, List.set_cons_zero, List.set_cons_succ]
              refine wpAnyH_ready (rs := [9]) (by kernel_rfl) (by simp) ?_
              refine AllReadyH.cons (o := ⟨none, _, _, _, _, _⟩) rfl (fun K hK => ?_) AllReadyH.nil
              rw [if_pos (by rfl)]
              refine wp_store_row 27 (.tmp 9) (.tmp 39) rfl (W5.heap.size) _ rfl rfl 27 _ xN5 (by kernel_rfl) rfl (by simp [Value.oneCell']) ?_
              have hbF := but_setRow hb5 lN #[.int .i64 z, .int .i64 0, .bool false, .slice none 0 0, .slice none 0 0, .slice (some ⟨w4.heap.size, 0, none⟩) 2 2]
              refine hK.out _ _ (six_bx (x4.but hbF (by omega))) (fun hHeld => ?_)
              clear hK K
              try simp only [Act.put]
              refine wpAnyH_done (by kernel_rfl) ?_ _
              go_wp2
              go_meet
              exact ⟨.mk z 0 [q, p], p, W5.heap.size, w4.heap.size, rfl, lN, src_setRow hs5 (by omega) _, hbF, Bx.set xN5 _, rfl, hfp, hdp, rB5.keep (by simp [World.setRow]) (fun j hj _ => setRow_other _ _ _ _ (by omega)) fun j hj _ => by omega⟩
  case rest =>
    obtain ⟨h, p, bN, bB, rfl, lN, s5, b5, x5, hargs, hfp, hdp, rh⟩ := hcut
    have HW := Lib.hid hW4
    have l34 : W3.heap.size < W4.heap.size := by omega
    have l12 : W1.heap.size < W2.heap.size := by omega
    clear hW4 hsW4 hsW2
    have z5 := b5.size
    have g5 := s5.size
    have hR1 := range_any g _ (-2) 3 s5 (by omega) (by omega) (by omega)
    go_wp2_with fail
    refine hR1.mono ?_
    clear hR1
    rintro er W6 ⟨y1, rfl, hy1, s6, b6⟩
    have z6 := b6.size
    have g6 := s6.size
    have hP := pick_any g _ ⟨W6.heap.size, 0, none⟩ 5 5 (-9223372036854775808) 4611686018427387904 (s6.below (allocB W6 (.cells #[.int .i64 1073741824, .int .i64 (-1073741824), .int .i64 1073741833, .int .i64 4611686018427387904, .int .i64 (-9223372036854775808)] 3))) (by omega) (by omega) (ints5 W6 3) (by dsimp only; omega)
    have b6' : But g wc (W6.alloc (.cells #[.int .i64 1073741824, .int .i64 (-1073741824), .int .i64 1073741833, .int .i64 4611686018427387904, .int .i64 (-9223372036854775808)] 3)) := b6.alloc _
    go_wp2_with fail
    refine hP.mono ?_
    clear hP
    rintro er W8 ⟨y2, rfl, hy2, s8, b8⟩
    have b58 := b6'.trans b8
    clear b8 b6'
    have hR2 := range_any g _ 0 1 s8 (by omega) (by omega) (by omega)
    go_wp2_with fail
    refine hR2.mono ?_
    clear hR2
    rintro er W9 ⟨y3, rfl, hy3, s9, b9⟩
    have b49 : But g W4 W9 := b5.trans (b58.trans b9)
    have b59 : But g wc W9 := b58.trans b9
    have z9 := b59.size
    clear b9 b58 s8 s6
    obtain ⟨WA, hWA⟩ : ∃ X, W9.alloc (.cells #[.int .i64 y1, .int .i64 y2, .int .i64 y3] 3) = X := ⟨_, rfl⟩
    go_upto_region 7 with fail
    try rw [hWA]
    have bA : But g W4 WA := by rw [← hWA]; exact b49.alloc _
    have b5A : But g wc WA := by rw [← hWA]; exact b59.alloc _
    have xO : Bx WA W9.heap.size 3 #[.int .i64 y1, .int .i64 y2, .int .i64 y3] := by rw [← hWA]; exact bx_alloc _ _ _
    have zA : W9.heap.size < WA.heap.size := by rw [← hWA]; simp
    have h1A : But g W1 WA := (But.of_below hb2).trans (hb3.trans (b4.trans bA))
    have hVA : Below V.heap.size V WA := HBW.out.trans (h1A.below hgV HBW.out.size)
    have xq := six_bx (x4.but bA (by omega))
    have lbN : bN < wc.heap.size := x5.lt
    have xh := six_bx (x5.but b5A (by omega))
    obtain ⟨f0, f1, f2, f3, f4, f5⟩ := HBX.out WA hVA
    obtain ⟨q0, q1, q2, q3, q4, q5⟩ := xq
    obtain ⟨h0, h1, h2, h3, h4, h5⟩ := xh
    have HVA := Lib.hid hVA
    clear hVA hWA
    go_wp2_with fail
    have hO3 : St WA 3 (fun i => ([y1, y2, y3][i]?).getD 0) (some ⟨W9.heap.size, 0, none⟩) := st3 xO
    have hSA : St WA n s A := HS.out WA HVA.out
    have hq1 : Rd All WA (.l 6 (fds q.args)) (.slice D q.args.length cc) := hr0.keep (by have := hb3.size; have := bA.size; omega) (fun j hj hl => (b4.trans bA).block j hl (by omega)) fun _ _ _ => trivial
    have hh1 : Rd All WA (.l 6 (fds h.args)) (.slice (some ⟨bB, 0, none⟩) 2 2) := rh.keep b5A.size (fun j hj hl => b5A.block j hl hj) fun _ _ _ => trivial
    obtain ⟨_, _, _, _, _, ef, hf1⟩ := HF.out WA HVA.out
    have sq : sz q ≤ 121 := by have := sz_fine 5 q hfine hdeep; omega
    have sp : sz p ≤ 4 := by have := sz_fine 2 p hfp hdp; omega
    have sh : sz h ≤ 200 := by rw [sz_eq, hargs]; simp; omega
    have lh : h.args.length = 2 := by rw [hargs]; rfl
    have hR := rnds WA (a2 := va) (a3 := vb) (a4 := vc) (A := A) (n := n) (c := c) (O := some ⟨W9.heap.size, 0, none⟩) (by cases ef; exact hf1) hq1 (by rw [lh]; exact hh1) hSA hO3 (by omega) hsz (by omega) sh
    simp only [lh] at hR
    obtain ⟨WC, hWC⟩ : ∃ X, ((WA.alloc (.cells #[.int .i64 f.op, .int .i64 f.num, va, vb, vc, .slice C f.args.length e, .int .i64 q.op, .int .i64 q.num, .bool false, .slice none 0 0, .slice none 0 0, .slice D q.args.length cc, .int .i64 h.op, .int .i64 h.num, .bool false, .slice none 0 0, .slice none 0 0, .slice (some ⟨bB, 0, none⟩) 2 2, .int .i64 q.op, .int .i64 q.num, .bool false, .slice none 0 0, .slice none 0 0, .slice D q.args.length cc, .int .i64 f.op, .int .i64 f.num, va, vb, vc, .slice C f.args.length e] 27)).alloc (.cells #[.slice A n c, .slice (some ⟨W9.heap.size, 0, none⟩) 3 3, .slice (some ⟨W9.heap.size, 0, none⟩) 3 3, .slice A n c, .slice (some ⟨W9.heap.size, 0, none⟩) 3 3] 28)) = X := ⟨_, rfl⟩
    rw [hWC] at hR
    try rw [hWC]
    have hAC : Below WA.heap.size WA WC := by rw [← hWC]; exact ((Below.refl _ _).alloc (Nat.le_refl _) _).alloc (by simp) _
    have HFIN := Lib.hid (show Below w.heap.size w WC from nextB HWV.out (HVA.out.trans (hAC.mono HVA.out.size)))
    have HR := Lib.hid hR
    clear hR hWC hAC hO3 hSA hq1 hh1 ef hf1 xO x4 x5 f0 f1 f2 f3 f4 f5 q0 q1 q2 q3 q4 q5 h0 h1 h2 h3 h4 h5 rh hr0
    go_loopw [13] (fun iv wr => ∃ i : Nat, iv = .int .i64 i ∧ i ≤ 5 ∧ Hid (Below WC.heap.size WC wr)) (fun iv _ => 5 - (intOf iv).toNat)
    case atStart => exact ⟨0, rfl, by omega, Below.refl _ _⟩
    case round =>
      obtain ⟨i, rfl, hi, HB⟩ := hrel
      by_cases hlt : i < 5
      · have hlt' : (i : Int) < 5 := by omega
        obtain ⟨ft, x2, x3, x4, Dt, cd, At, nv, ct, st, k0, k1, k2, k3, k4, k5, k6, hfv, hst, hnv, hdp', hsz'⟩ := (HR.out i hlt).below HB.out
        have HSS := Lib.hid (show ∀ U, Below wr.heap.size wr U → (fun U => U.cell? ⟨WA.heap.size, i * 6, none⟩ = some (.int .i64 ft.op) ∧ U.cell? ⟨WA.heap.size, i * 6 + 1, none⟩ = some (.int .i64 ft.num) ∧ U.cell? ⟨WA.heap.size, i * 6 + 2, none⟩ = some x2 ∧ U.cell? ⟨WA.heap.size, i * 6 + 3, none⟩ = some x3 ∧ U.cell? ⟨WA.heap.size, i * 6 + 4, none⟩ = some x4 ∧ U.cell? ⟨WA.heap.size, i * 6 + 5, none⟩ = some (.slice Dt ft.args.length cd) ∧ U.cell? ⟨WA.heap.size + 1, i, none⟩ = some (.slice At nv ct)) U from fun U hU => ⟨(hU.cell (World.block_lt_of_cell? wr _ k0)).trans k0, (hU.cell (World.block_lt_of_cell? wr _ k1)).trans k1, (hU.cell (World.block_lt_of_cell? wr _ k2)).trans k2, (hU.cell (World.block_lt_of_cell? wr _ k3)).trans k3, (hU.cell (World.block_lt_of_cell? wr _ k4)).trans k4, (hU.cell (World.block_lt_of_cell? wr _ k5)).trans k5, (hU.cell (World.block_lt_of_cell? wr _ k6)).trans k6⟩)
        obtain ⟨E1, E2, hE⟩ : ∃ E1 E2, ePair nv st ft = .tuple #[.int .i64 E1, .int .i64 E2] := ⟨_, _, rfl⟩
        have HEA := Lib.hid (show ∀ U, Below wr.heap.size wr U → Calls Try.prog 12 #[.agg #[.int .i64 ft.op, .int .i64 ft.num, x2, x3, x4, .slice Dt ft.args.length cd], .slice At nv ct] U fun e w' => e = .returned (.tuple #[.int .i64 E1, .int .i64 E2]) ∧ Below U.heap.size U w' from fun U hU => by rw [← hE]; exact eval_x (by omega) (fv_lo (fv_nb hfv hU)) (hst.below hU))
        have HEB := Lib.hid (show ∀ U, Below wr.heap.size wr U → Calls Try.prog 13 #[.agg #[.int .i64 ft.op, .int .i64 ft.num, x2, x3, x4, .slice Dt ft.args.length cd], .slice At nv ct] U fun e w' => e = .returned (.tuple #[.int .i64 E1, .int .i64 E2]) ∧ Below U.heap.size U w' from fun U hU => by rw [← hE]; exact eval_ref (by omega) hdp' (fv_nb hfv hU) (hst.below hU))
        have HRA := Lib.hid (show ∀ U, Below wr.heap.size wr U → Calls Try.prog 15 #[.agg #[.int .i64 ft.op, .int .i64 ft.num, x2, x3, x4, .slice Dt ft.args.length cd]] U (GivesVars ft U) from fun U hU => reads_x (fv_lo (fv_nb hfv hU)) (by have := parts_sz 200 1 ft; omega))
        have HRB := Lib.hid (show ∀ U, Below wr.heap.size wr U → Calls Try.prog 16 #[.agg #[.int .i64 ft.op, .int .i64 ft.num, x2, x3, x4, .slice Dt ft.args.length cd]] U fun e w' => ∃ v', e = .returned v' ∧ LR w' v' (asc (vars ft)) ∧ Below U.heap.size U w' from fun U hU => Reads_ref ft _ U (fv_nb hfv hU) (by omega))
        have HLV := Lib.hid (show (asc (vars ft)).length ≤ 1999999 by have h1 := rds_len 200 [] ft; rw [rds_vars] at h1; simp at h1; omega)
        have B0 := Below.refl wr.heap.size wr
        clear k0 k1 k2 k3 k4 k5 k6 hfv hst hE hdp'
        go_wp2_with fail
        refine wp_region_held_drew (S := (fun U => U.cell? ⟨WA.heap.size, i * 6, none⟩ = some (.int .i64 ft.op) ∧ U.cell? ⟨WA.heap.size, i * 6 + 1, none⟩ = some (.int .i64 ft.num) ∧ U.cell? ⟨WA.heap.size, i * 6 + 2, none⟩ = some x2 ∧ U.cell? ⟨WA.heap.size, i * 6 + 3, none⟩ = some x3 ∧ U.cell? ⟨WA.heap.size, i * 6 + 4, none⟩ = some x4 ∧ U.cell? ⟨WA.heap.size, i * 6 + 5, none⟩ = some (.slice Dt ft.args.length cd) ∧ U.cell? ⟨WA.heap.size + 1, i, none⟩ = some (.slice At nv ct))) (by kernel_rfl) (HSS.out _ (drewN_below B0 1)) (fun hHeld => ?_)
        refine tkH (i := 0) (oi := ⟨some 67, _, _, _, _, _⟩) (v := ?_) ?_ ?_
        rotate_left
        · intro U hSw
          obtain ⟨z0, z1, z2, z3, z4, z5, z6⟩ := hSw
          go_simp
          try (first | with_reducible rfl | exact rfl)
        try simp only [Act.put, List.setIfInBounds_toArray, List.set_cons_zero, List.set_cons_succ]
        refine tkH (i := 1) (oi := ⟨some 68, _, _, _, _, _⟩) (v := ?_) ?_ ?_
        rotate_left
        · intro U hSw
          obtain ⟨z0, z1, z2, z3, z4, z5, z6⟩ := hSw
          go_simp
          try (first | with_reducible rfl | exact rfl)
        try simp only [Act.put, List.setIfInBounds_toArray, List.set_cons_zero, List.set_cons_succ]
        refine tkH (i := 2) (oi := ⟨some 69, _, _, _, _, _⟩) (v := ?_) ?_ ?_
        rotate_left
        · intro U hSw
          obtain ⟨z0, z1, z2, z3, z4, z5, z6⟩ := hSw
          go_simp
          try (first | with_reducible rfl | exact rfl)
        try simp only [Act.put, List.setIfInBounds_toArray, List.set_cons_zero, List.set_cons_succ]
        refine tkH (i := 3) (oi := ⟨some 70, _, _, _, _, _⟩) (v := ?_) ?_ ?_
        rotate_left
        · intro U hSw
          obtain ⟨z0, z1, z2, z3, z4, z5, z6⟩ := hSw
          go_simp
          try (first | with_reducible rfl | exact rfl)
        try simp only [Act.put, List.setIfInBounds_toArray, List.set_cons_zero, List.set_cons_succ]
        refine tkH (i := 4) (oi := ⟨some 71, _, _, _, _, _⟩) (v := ?_) ?_ ?_
        rotate_left
        · intro U hSw
          obtain ⟨z0, z1, z2, z3, z4, z5, z6⟩ := hSw
          go_simp
          try (first | with_reducible rfl | exact rfl)
        try simp only [Act.put, List.setIfInBounds_toArray, List.set_cons_zero, List.set_cons_succ]
        refine tkH (i := 5) (oi := ⟨some 72, _, _, _, _, _⟩) (v := ?_) ?_ ?_
        rotate_left
        · intro U hSw
          obtain ⟨z0, z1, z2, z3, z4, z5, z6⟩ := hSw
          go_simp
          try (first | with_reducible rfl | exact rfl)
        try simp only [Act.put, List.setIfInBounds_toArray, List.set_cons_zero, List.set_cons_succ]
        refine tkH (i := 6) (oi := ⟨some 73, _, _, _, _, _⟩) (v := ?_) ?_ ?_
        rotate_left
        · intro U hSw
          obtain ⟨z0, z1, z2, z3, z4, z5, z6⟩ := hSw
          go_simp
          try (first | with_reducible rfl | exact rfl)
        try simp only [Act.put, List.setIfInBounds_toArray, List.set_cons_zero, List.set_cons_succ]
        refine tkH (i := 7) (oi := ⟨some 74, _, _, _, _, _⟩) (v := ?_) ?_ ?_
        rotate_left
        · intro U hSw
          obtain ⟨z0, z1, z2, z3, z4, z5, z6⟩ := hSw
          go_simp
          try (first | with_reducible rfl | exact rfl)
        try simp only [Act.put, List.setIfInBounds_toArray, List.set_cons_zero, List.set_cons_succ]
        refine wpAnyH_ready (rs := [8]) (by kernel_rfl) (by simp) ?_
        refine AllReadyH.cons (o := ⟨some 75, _, _, _, _, _⟩) rfl (fun K hK => ?_) AllReadyH.nil
        go_simp
        go_at_call 12
        refine (HEA.out _ (drewN_below B0 1)).mono ?_
        rintro er V1x ⟨rfl, hbn⟩
        have hbA : Below wr.heap.size wr V1x := (drewN_below B0 1).trans (hbn.mono (by exact (drewN_below B0 1).size))
        clear hbn
        go_wp2_with fail
        refine hK.out _ _ (HSS.out _ hbA) (fun hHeld => ?_)
        clear hK K
        try simp only [Act.put, List.setIfInBounds_toArray, List.set_cons_zero, List.set_cons_succ]
        refine tkH (i := 9) (oi := ⟨some 66, _, _, _, _, _⟩) (v := ?_) ?_ ?_
        rotate_left
        · intro U hSw
          obtain ⟨z0, z1, z2, z3, z4, z5, z6⟩ := hSw
          go_simp
          try (first | with_reducible rfl | exact rfl)
        try simp only [Act.put, List.setIfInBounds_toArray, List.set_cons_zero, List.set_cons_succ]
        refine tkH (i := 10) (oi := ⟨some 76, _, _, _, _, _⟩) (v := ?_) ?_ ?_
        rotate_left
        · intro U hSw
          obtain ⟨z0, z1, z2, z3, z4, z5, z6⟩ := hSw
          go_simp
          try (first | with_reducible rfl | exact rfl)
        try simp only [Act.put, List.setIfInBounds_toArray, List.set_cons_zero, List.set_cons_succ]
        refine tkH (i := 11) (oi := ⟨some 77, _, _, _, _, _⟩) (v := ?_) ?_ ?_
        rotate_left
        · intro U hSw
          obtain ⟨z0, z1, z2, z3, z4, z5, z6⟩ := hSw
          go_simp
          try (first | with_reducible rfl | exact rfl)
        try simp only [Act.put, List.setIfInBounds_toArray, List.set_cons_zero, List.set_cons_succ]
        refine tkH (i := 12) (oi := ⟨some 14, _, _, _, _, _⟩) (v := ?_) ?_ ?_
        rotate_left
        · intro U hSw
          obtain ⟨z0, z1, z2, z3, z4, z5, z6⟩ := hSw
          go_simp
          try (first | with_reducible rfl | exact rfl)
        try simp only [Act.put, List.setIfInBounds_toArray, List.set_cons_zero, List.set_cons_succ]
        refine tkH (i := 13) (oi := ⟨some 15, _, _, _, _, _⟩) (v := ?_) ?_ ?_
        rotate_left
        · intro U hSw
          obtain ⟨z0, z1, z2, z3, z4, z5, z6⟩ := hSw
          go_simp
          try (first | with_reducible rfl | exact rfl)
        try simp only [Act.put, List.setIfInBounds_toArray, List.set_cons_zero, List.set_cons_succ]
        refine wpAnyH_done (by kernel_rfl) ?_ _
        go_wp2_with fail
        refine wp_region_held_drew (S := (fun U => U.cell? ⟨WA.heap.size, i * 6, none⟩ = some (.int .i64 ft.op) ∧ U.cell? ⟨WA.heap.size, i * 6 + 1, none⟩ = some (.int .i64 ft.num) ∧ U.cell? ⟨WA.heap.size, i * 6 + 2, none⟩ = some x2 ∧ U.cell? ⟨WA.heap.size, i * 6 + 3, none⟩ = some x3 ∧ U.cell? ⟨WA.heap.size, i * 6 + 4, none⟩ = some x4 ∧ U.cell? ⟨WA.heap.size, i * 6 + 5, none⟩ = some (.slice Dt ft.args.length cd) ∧ U.cell? ⟨WA.heap.size + 1, i, none⟩ = some (.slice At nv ct))) (by kernel_rfl) (HSS.out _ (drewN_below hbA 1)) (fun hHeld => ?_)
        refine tkH (i := 0) (oi := ⟨some 79, _, _, _, _, _⟩) (v := ?_) ?_ ?_
        rotate_left
        · intro U hSw
          obtain ⟨z0, z1, z2, z3, z4, z5, z6⟩ := hSw
          go_simp
          try (first | with_reducible rfl | exact rfl)
        try simp only [Act.put, List.setIfInBounds_toArray, List.set_cons_zero, List.set_cons_succ]
        refine tkH (i := 1) (oi := ⟨some 80, _, _, _, _, _⟩) (v := ?_) ?_ ?_
        rotate_left
        · intro U hSw
          obtain ⟨z0, z1, z2, z3, z4, z5, z6⟩ := hSw
          go_simp
          try (first | with_reducible rfl | exact rfl)
        try simp only [Act.put, List.setIfInBounds_toArray, List.set_cons_zero, List.set_cons_succ]
        refine tkH (i := 2) (oi := ⟨some 81, _, _, _, _, _⟩) (v := ?_) ?_ ?_
        rotate_left
        · intro U hSw
          obtain ⟨z0, z1, z2, z3, z4, z5, z6⟩ := hSw
          go_simp
          try (first | with_reducible rfl | exact rfl)
        try simp only [Act.put, List.setIfInBounds_toArray, List.set_cons_zero, List.set_cons_succ]
        refine tkH (i := 3) (oi := ⟨some 82, _, _, _, _, _⟩) (v := ?_) ?_ ?_
        rotate_left
        · intro U hSw
          obtain ⟨z0, z1, z2, z3, z4, z5, z6⟩ := hSw
          go_simp
          try (first | with_reducible rfl | exact rfl)
        try simp only [Act.put, List.setIfInBounds_toArray, List.set_cons_zero, List.set_cons_succ]
        refine tkH (i := 4) (oi := ⟨some 83, _, _, _, _, _⟩) (v := ?_) ?_ ?_
        rotate_left
        · intro U hSw
          obtain ⟨z0, z1, z2, z3, z4, z5, z6⟩ := hSw
          go_simp
          try (first | with_reducible rfl | exact rfl)
        try simp only [Act.put, List.setIfInBounds_toArray, List.set_cons_zero, List.set_cons_succ]
        refine tkH (i := 5) (oi := ⟨some 84, _, _, _, _, _⟩) (v := ?_) ?_ ?_
        rotate_left
        · intro U hSw
          obtain ⟨z0, z1, z2, z3, z4, z5, z6⟩ := hSw
          go_simp
          try (first | with_reducible rfl | exact rfl)
        try simp only [Act.put, List.setIfInBounds_toArray, List.set_cons_zero, List.set_cons_succ]
        refine tkH (i := 6) (oi := ⟨some 85, _, _, _, _, _⟩) (v := ?_) ?_ ?_
        rotate_left
        · intro U hSw
          obtain ⟨z0, z1, z2, z3, z4, z5, z6⟩ := hSw
          go_simp
          try (first | with_reducible rfl | exact rfl)
        try simp only [Act.put, List.setIfInBounds_toArray, List.set_cons_zero, List.set_cons_succ]
        refine tkH (i := 7) (oi := ⟨some 86, _, _, _, _, _⟩) (v := ?_) ?_ ?_
        rotate_left
        · intro U hSw
          obtain ⟨z0, z1, z2, z3, z4, z5, z6⟩ := hSw
          go_simp
          try (first | with_reducible rfl | exact rfl)
        try simp only [Act.put, List.setIfInBounds_toArray, List.set_cons_zero, List.set_cons_succ]
        refine wpAnyH_ready (rs := [8]) (by kernel_rfl) (by simp) ?_
        refine AllReadyH.cons (o := ⟨some 87, _, _, _, _, _⟩) rfl (fun K hK => ?_) AllReadyH.nil
        go_simp
        go_at_call 13
        refine (HEB.out _ (drewN_below hbA 1)).mono ?_
        rintro er V2x ⟨rfl, hbn⟩
        have hbB : Below wr.heap.size wr V2x := (drewN_below hbA 1).trans (hbn.mono (by exact (drewN_below hbA 1).size))
        clear hbn
        go_wp2_with fail
        refine hK.out _ _ (HSS.out _ hbB) (fun hHeld => ?_)
        clear hK K
        try simp only [Act.put, List.setIfInBounds_toArray, List.set_cons_zero, List.set_cons_succ]
        refine tkH (i := 9) (oi := ⟨some 78, _, _, _, _, _⟩) (v := ?_) ?_ ?_
        rotate_left
        · intro U hSw
          obtain ⟨z0, z1, z2, z3, z4, z5, z6⟩ := hSw
          go_simp
          try (first | with_reducible rfl | exact rfl)
        try simp only [Act.put, List.setIfInBounds_toArray, List.set_cons_zero, List.set_cons_succ]
        refine tkH (i := 10) (oi := ⟨some 88, _, _, _, _, _⟩) (v := ?_) ?_ ?_
        rotate_left
        · intro U hSw
          obtain ⟨z0, z1, z2, z3, z4, z5, z6⟩ := hSw
          go_simp
          try (first | with_reducible rfl | exact rfl)
        try simp only [Act.put, List.setIfInBounds_toArray, List.set_cons_zero, List.set_cons_succ]
        refine tkH (i := 11) (oi := ⟨some 89, _, _, _, _, _⟩) (v := ?_) ?_ ?_
        rotate_left
        · intro U hSw
          obtain ⟨z0, z1, z2, z3, z4, z5, z6⟩ := hSw
          go_simp
          try (first | with_reducible rfl | exact rfl)
        try simp only [Act.put, List.setIfInBounds_toArray, List.set_cons_zero, List.set_cons_succ]
        refine tkH (i := 12) (oi := ⟨some 16, _, _, _, _, _⟩) (v := ?_) ?_ ?_
        rotate_left
        · intro U hSw
          obtain ⟨z0, z1, z2, z3, z4, z5, z6⟩ := hSw
          go_simp
          try (first | with_reducible rfl | exact rfl)
        try simp only [Act.put, List.setIfInBounds_toArray, List.set_cons_zero, List.set_cons_succ]
        refine tkH (i := 13) (oi := ⟨some 17, _, _, _, _, _⟩) (v := ?_) ?_ ?_
        rotate_left
        · intro U hSw
          obtain ⟨z0, z1, z2, z3, z4, z5, z6⟩ := hSw
          go_simp
          try (first | with_reducible rfl | exact rfl)
        try simp only [Act.put, List.setIfInBounds_toArray, List.set_cons_zero, List.set_cons_succ]
        refine wpAnyH_done (by kernel_rfl) ?_ _
        go_wp2_with fail
        refine wp_region_held_drew (S := (fun U => U.cell? ⟨WA.heap.size, i * 6, none⟩ = some (.int .i64 ft.op) ∧ U.cell? ⟨WA.heap.size, i * 6 + 1, none⟩ = some (.int .i64 ft.num) ∧ U.cell? ⟨WA.heap.size, i * 6 + 2, none⟩ = some x2 ∧ U.cell? ⟨WA.heap.size, i * 6 + 3, none⟩ = some x3 ∧ U.cell? ⟨WA.heap.size, i * 6 + 4, none⟩ = some x4 ∧ U.cell? ⟨WA.heap.size, i * 6 + 5, none⟩ = some (.slice Dt ft.args.length cd) ∧ U.cell? ⟨WA.heap.size + 1, i, none⟩ = some (.slice At nv ct))) (by kernel_rfl) (HSS.out _ (drewN_below hbB 1)) (fun hHeld => ?_)
        refine tkH (i := 0) (oi := ⟨some 90, _, _, _, _, _⟩) (v := ?_) ?_ ?_
        rotate_left
        · intro U hSw
          obtain ⟨z0, z1, z2, z3, z4, z5, z6⟩ := hSw
          go_simp
          try (first | with_reducible rfl | exact rfl)
        try simp only [Act.put, List.setIfInBounds_toArray, List.set_cons_zero, List.set_cons_succ]
        refine tkH (i := 1) (oi := ⟨some 91, _, _, _, _, _⟩) (v := ?_) ?_ ?_
        rotate_left
        · intro U hSw
          obtain ⟨z0, z1, z2, z3, z4, z5, z6⟩ := hSw
          go_simp
          try (first | with_reducible rfl | exact rfl)
        try simp only [Act.put, List.setIfInBounds_toArray, List.set_cons_zero, List.set_cons_succ]
        refine tkH (i := 2) (oi := ⟨some 92, _, _, _, _, _⟩) (v := ?_) ?_ ?_
        rotate_left
        · intro U hSw
          obtain ⟨z0, z1, z2, z3, z4, z5, z6⟩ := hSw
          go_simp
          try (first | with_reducible rfl | exact rfl)
        try simp only [Act.put, List.setIfInBounds_toArray, List.set_cons_zero, List.set_cons_succ]
        refine tkH (i := 3) (oi := ⟨some 93, _, _, _, _, _⟩) (v := ?_) ?_ ?_
        rotate_left
        · intro U hSw
          obtain ⟨z0, z1, z2, z3, z4, z5, z6⟩ := hSw
          go_simp
          try (first | with_reducible rfl | exact rfl)
        try simp only [Act.put, List.setIfInBounds_toArray, List.set_cons_zero, List.set_cons_succ]
        refine tkH (i := 4) (oi := ⟨some 94, _, _, _, _, _⟩) (v := ?_) ?_ ?_
        rotate_left
        · intro U hSw
          obtain ⟨z0, z1, z2, z3, z4, z5, z6⟩ := hSw
          go_simp
          try (first | with_reducible rfl | exact rfl)
        try simp only [Act.put, List.setIfInBounds_toArray, List.set_cons_zero, List.set_cons_succ]
        refine tkH (i := 5) (oi := ⟨some 95, _, _, _, _, _⟩) (v := ?_) ?_ ?_
        rotate_left
        · intro U hSw
          obtain ⟨z0, z1, z2, z3, z4, z5, z6⟩ := hSw
          go_simp
          try (first | with_reducible rfl | exact rfl)
        try simp only [Act.put, List.setIfInBounds_toArray, List.set_cons_zero, List.set_cons_succ]
        refine tkH (i := 6) (oi := ⟨some 96, _, _, _, _, _⟩) (v := ?_) ?_ ?_
        rotate_left
        · intro U hSw
          obtain ⟨z0, z1, z2, z3, z4, z5, z6⟩ := hSw
          go_simp
          try (first | with_reducible rfl | exact rfl)
        try simp only [Act.put, List.setIfInBounds_toArray, List.set_cons_zero, List.set_cons_succ]
        refine tkH (i := 7) (oi := ⟨some 97, _, _, _, _, _⟩) (v := ?_) ?_ ?_
        rotate_left
        · intro U hSw
          obtain ⟨z0, z1, z2, z3, z4, z5, z6⟩ := hSw
          go_simp
          try (first | with_reducible rfl | exact rfl)
        try simp only [Act.put, List.setIfInBounds_toArray, List.set_cons_zero, List.set_cons_succ]
        refine tkH (i := 8) (oi := ⟨some 98, _, _, _, _, _⟩) (v := ?_) ?_ ?_
        rotate_left
        · intro U hSw
          obtain ⟨z0, z1, z2, z3, z4, z5, z6⟩ := hSw
          go_simp
          try (first | with_reducible rfl | exact rfl)
        try simp only [Act.put, List.setIfInBounds_toArray, List.set_cons_zero, List.set_cons_succ]
        refine tkH (i := 9) (oi := ⟨some 99, _, _, _, _, _⟩) (v := ?_) ?_ ?_
        rotate_left
        · intro U hSw
          obtain ⟨z0, z1, z2, z3, z4, z5, z6⟩ := hSw
          go_simp
          try (first | with_reducible rfl | exact rfl)
        try simp only [Act.put, List.setIfInBounds_toArray, List.set_cons_zero, List.set_cons_succ]
        refine tkH (i := 10) (oi := ⟨some 100, _, _, _, _, _⟩) (v := ?_) ?_ ?_
        rotate_left
        · intro U hSw
          obtain ⟨z0, z1, z2, z3, z4, z5, z6⟩ := hSw
          go_simp
          try (first | with_reducible rfl | exact rfl)
        try simp only [Act.put, List.setIfInBounds_toArray, List.set_cons_zero, List.set_cons_succ]
        refine tkH (i := 11) (oi := ⟨some 101, _, _, _, _, _⟩) (v := ?_) ?_ ?_
        rotate_left
        · intro U hSw
          obtain ⟨z0, z1, z2, z3, z4, z5, z6⟩ := hSw
          go_simp
          try (first | with_reducible rfl | exact rfl)
        try simp only [Act.put, List.setIfInBounds_toArray, List.set_cons_zero, List.set_cons_succ]
        refine tkH (i := 12) (oi := ⟨some 102, _, _, _, _, _⟩) (v := ?_) ?_ ?_
        rotate_left
        · intro U hSw
          obtain ⟨z0, z1, z2, z3, z4, z5, z6⟩ := hSw
          go_simp
          try (first | with_reducible rfl | exact rfl)
        try simp only [Act.put, List.setIfInBounds_toArray, List.set_cons_zero, List.set_cons_succ]
        refine tkH (i := 14) (oi := ⟨some 104, _, _, _, _, _⟩) (v := ?_) ?_ ?_
        rotate_left
        · intro U hSw
          obtain ⟨z0, z1, z2, z3, z4, z5, z6⟩ := hSw
          go_simp
          try (first | with_reducible rfl | exact rfl)
        try simp only [Act.put, List.setIfInBounds_toArray, List.set_cons_zero, List.set_cons_succ]
        refine tkH (i := 15) (oi := ⟨some 105, _, _, _, _, _⟩) (v := ?_) ?_ ?_
        rotate_left
        · intro U hSw
          obtain ⟨z0, z1, z2, z3, z4, z5, z6⟩ := hSw
          go_simp
          try (first | with_reducible rfl | exact rfl)
        try simp only [Act.put, List.setIfInBounds_toArray, List.set_cons_zero, List.set_cons_succ]
        refine tkH (i := 16) (oi := ⟨some 106, _, _, _, _, _⟩) (v := ?_) ?_ ?_
        rotate_left
        · intro U hSw
          obtain ⟨z0, z1, z2, z3, z4, z5, z6⟩ := hSw
          go_simp
          try (first | with_reducible rfl | exact rfl)
        try simp only [Act.put, List.setIfInBounds_toArray, List.set_cons_zero, List.set_cons_succ]
        refine tkH (i := 17) (oi := ⟨some 107, _, _, _, _, _⟩) (v := ?_) ?_ ?_
        rotate_left
        · intro U hSw
          obtain ⟨z0, z1, z2, z3, z4, z5, z6⟩ := hSw
          go_simp
          try (first | with_reducible rfl | exact rfl)
        try simp only [Act.put, List.setIfInBounds_toArray, List.set_cons_zero, List.set_cons_succ]
        refine wpAnyH_ready (rs := [13]) (by kernel_rfl) (by simp) ?_
        refine AllReadyH.cons (o := ⟨some 103, _, _, _, _, _⟩) rfl (fun K hK => ?_) AllReadyH.nil
        go_simp
        go_at_call 15
        refine (HRA.out _ (drewN_below hbB 1)).mono ?_
        rintro er V3x ⟨Ar, cr, rfl, hcr, hcm, hir, hbn⟩
        have hbC : Below wr.heap.size wr V3x := (drewN_below hbB 1).trans (hbn.mono (by exact (drewN_below hbB 1).size))
        have HIR := Lib.hid hir
        clear hbn hir
        go_wp2_with fail
        refine hK.out _ _ (HSS.out _ hbC) (fun hHeld => ?_)
        clear hK K
        try simp only [Act.put, List.setIfInBounds_toArray, List.set_cons_zero, List.set_cons_succ]
        refine wpAnyH_ready (rs := [18]) (by kernel_rfl) (by simp) ?_
        refine AllReadyH.cons (o := ⟨some 108, _, _, _, _, _⟩) rfl (fun K hK => ?_) AllReadyH.nil
        go_simp
        go_at_call 16
        refine (HRB.out _ hbC).mono ?_
        rintro er V4x ⟨v4, rfl, hlr, hbn⟩
        have hbD : Below wr.heap.size wr V4x := hbC.trans (hbn.mono hbC.size)
        obtain ⟨A4, c4, rfl, hic⟩ := lr_ic hlr
        have hSI := same_ints (asc (vars ft)) Ar A4 cr c4 V4x HLV.out (ir_ic (HIR.out.below hbn)) hic
        clear hbn hlr hic
        go_wp2_with fail
        refine hK.out _ _ (HSS.out _ hbD) (fun hHeld => ?_)
        clear hK K
        try simp only [Act.put, List.setIfInBounds_toArray, List.set_cons_zero, List.set_cons_succ]
        refine wpAnyH_ready (rs := [19]) (by kernel_rfl) (by simp) ?_
        refine AllReadyH.cons (o := ⟨some 109, _, _, _, _, _⟩) rfl (fun K hK => ?_) AllReadyH.nil
        go_simp
        go_at_call 14
        refine hSI.mono ?_
        clear hSI
        rintro er V5x ⟨rfl, mm, rfl⟩
        go_wp2_with fail
        refine hK.out _ _ (HSS.out _ (drewN_below hbD mm)) (fun hHeld => ?_)
        clear hK K
        try simp only [Act.put, List.setIfInBounds_toArray, List.set_cons_zero, List.set_cons_succ]
        refine tkH (i := 20) (oi := ⟨some 110, _, _, _, _, _⟩) (v := ?_) ?_ ?_
        rotate_left
        · intro U hSw
          obtain ⟨z0, z1, z2, z3, z4, z5, z6⟩ := hSw
          go_simp
          try (first | with_reducible rfl | exact rfl)
        try simp only [Act.put, List.setIfInBounds_toArray, List.set_cons_zero, List.set_cons_succ]
        refine tkH (i := 21) (oi := ⟨some 111, _, _, _, _, _⟩) (v := ?_) ?_ ?_
        rotate_left
        · intro U hSw
          obtain ⟨z0, z1, z2, z3, z4, z5, z6⟩ := hSw
          go_simp
          try (first | with_reducible rfl | exact rfl)
        try simp only [Act.put, List.setIfInBounds_toArray, List.set_cons_zero, List.set_cons_succ]
        refine wpAnyH_done (by kernel_rfl) ?_ _
        have HB9 := Lib.hid (HB.out.trans ((drewN_below hbD mm).mono HB.out.size))
        go_wp2
        go_roundw
        case rel => exact ⟨i + 1, by go_num, by omega, HB9.out⟩
        case measure => simp [intOf] <;> omega
      · obtain rfl : i = 5 := by omega
        go_wp2_with (refine (awake_x _).mono ?_; rintro er V9 ⟨rfl, hb9⟩)
        go_ret
        exact ⟨rfl, HFIN.out.trans ((HB.out.mono HFIN.out.size).trans (hb9.mono (Nat.le_trans HFIN.out.size HB.out.size)))⟩
end Fx
end Go.Proofs.Ytlhncmnhpnhfhaa
