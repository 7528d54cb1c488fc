/-
  slices.insertionSortCmpFunc over a row of terms, with the order of the normal form.
-/
import Derived.Test.YtebbnmjmjoklmaaGreatDoorDelete
import Derived.Sort.WalkA
import Derived.Sort.LotA
import Derived.Shelf.SlSortCmp.QuietGrown
namespace Go.Proofs.YtebbnmjmjoklmaaGreatDoor
open Go Go.RowKit Go.WideMaps Go.Sort
set_option maxRecDepth 20000

set_option maxHeartbeats 4000000 in
theorem compare_g (x0 x1 x2 x3 x4 x5 x6 x7 y0 y1 y2 y3 y4 y5 y6 y7 : Int) (s s' : Bool) (A B A' B' : Option Addr) (n c m d n' c' m' d' : Nat) (w : World) :
    Calls Tryz.prog 65 #[.int .i64 (-1), .agg #[.int .i64 x0, .int .i64 x1, .int .i64 x2, .int .i64 x3, .int .i64 x4, .int .i64 x5, .int .i64 x6, .int .i64 x7, .bool s, .slice A n c, .slice B m d], .agg #[.int .i64 y0, .int .i64 y1, .int .i64 y2, .int .i64 y3, .int .i64 y4, .int .i64 y5, .int .i64 y6, .int .i64 y7, .bool s', .slice A' n' c', .slice B' m' d']] w fun e w' => e = .returned (.int .i64 (-cmpL [x0, x1, x2, x3, x4, x5, x6, x7] [y0, y1, y2, y3, y4, y5, y6, y7])) ∧ ∃ q os', w' = Go.Sort.grow (w.drewN q) os' := by
  obtain ⟨v, hv⟩ : ∃ v, (w.alloc (.cells #[.int .i64 x0, .int .i64 x1, .int .i64 x2, .int .i64 x3, .int .i64 x4, .int .i64 x5, .int .i64 x6, .int .i64 x7, .bool s, .slice A n c, .slice B m d] 47)).alloc (.cells #[.int .i64 y0, .int .i64 y1, .int .i64 y2, .int .i64 y3, .int .i64 y4, .int .i64 y5, .int .i64 y6, .int .i64 y7, .bool s', .slice A' n' c', .slice B' m' d'] 47) = v := ⟨_, rfl⟩
  have h1 : IntRow v w.heap.size 0 [x0, x1, x2, x3, x4, x5, x6, x7] := by
    intro i hi
    rw [← hv, World.cell?_alloc_lt _ _ _ (by simp), World.cell?_alloc_new]
    match i, hi with
    | 0, _ | 1, _ | 2, _ | 3, _ | 4, _ | 5, _ | 6, _ | 7, _ => rfl
  have h2 : IntRow v (w.heap.size + 1) 0 [y0, y1, y2, y3, y4, y5, y6, y7] := by
    intro i hi
    have := World.cell?_alloc_new (w := w.alloc (.cells #[.int .i64 x0, .int .i64 x1, .int .i64 x2, .int .i64 x3, .int .i64 x4, .int .i64 x5, .int .i64 x6, .int .i64 x7, .bool s, .slice A n c, .slice B m d] 47))
    rw [World.size_alloc] at this
    rw [← hv, this]
    match i, hi with
    | 0, _ | 1, _ | 2, _ | 3, _ | 4, _ | 5, _ | 6, _ | 7, _ => rfl
  obtain ⟨R, hR⟩ : ∃ R, cmpL [x0, x1, x2, x3, x4, x5, x6, x7] [y0, y1, y2, y3, y4, y5, y6, y7] = R := ⟨_, rfl⟩
  have hr := cmpL_range [x0, x1, x2, x3, x4, x5, x6, x7] [y0, y1, y2, y3, y4, y5, y6, y7]
  rw [hR] at hr
  have SC : Hid (∀ k, Calls Tryz.prog 86 #[.slice (some ⟨w.heap.size, 0, none⟩) 8 8, .slice (some ⟨w.heap.size + 1, 0, none⟩) 8 8] (v.drewN k) fun e w' => e = .returned (.int .i64 R) ∧ v.drewN k = w') := fun k => by
    rw [← hR]
    exact sCompare w.heap.size 0 (w.heap.size + 1) 0 8 8 8 _ _ (v.drewN k) (fun i hi => by exact h1 i hi) (fun i hi => by exact h2 i hi) rfl rfl (by decide) (by decide) (by decide)
  rw [hR]
  have HV := Lib.hid hv
  clear h1 h2 hR hv
  go_enter Tryz.func65, Tryz.ntmps65
  go_upto_region 1 with fail
  rw [HV.out]
  go_region_with (go_at_call 86; refine (SC.out 1).mono ?_; rintro e w' ⟨rfl, rfl⟩)
  all_goals
    go_wp2
    go_ret
    refine ⟨?_, 1, _, by rw [← HV.out, Go.Sort.alloc_eq_grow, Go.Sort.alloc_eq_grow, Go.Sort.grow_grow]; rfl⟩
    have hw3 : IntKind.i64.wrap (-R) = -R := by rw [IntKind.wrap_i64]; omega
    simp [Act.put, hw3]


/-- A term of eight exponents, with what its coefficient denotes. -/
abbrev Q8 := { x : Tq // x.1.L.length = 8 }
instance : Inhabited Q8 := ⟨⟨(⟨[0, 0, 0, 0, 0, 0, 0, 0], false, none, 0, 0, none, 0, 0⟩, 0), rfl⟩⟩
def cs8 (d : Array Q8) : List Tq := d.toList.map Subtype.val
theorem cs8_length (d : Array Q8) : (cs8 d).length = d.size := by simp [cs8]
theorem cs8_8 (d : Array Q8) : ∀ x ∈ cs8 d, x.1.L.length = 8 := fun x hx => by
  obtain ⟨y, _, rfl⟩ := List.mem_map.1 hx
  exact y.2
theorem tms8 (d : Array Q8) : ∀ u ∈ tms (cs8 d), u.L.length = 8 := fun u hu => by
  obtain ⟨x, hx, rfl⟩ := List.mem_map.1 hu
  exact cs8_8 d x hx
theorem tms8_get {d : Array Q8} {i : Nat} (h : i < d.size) : (tms (cs8 d))[i]? = some d[i]!.1.1 := by
  unfold tms cs8
  rw [List.getElem?_map, List.getElem?_map, getElem!_pos d i h, List.getElem?_eq_getElem (by simpa using h)]
  simp
theorem tms8_length (d : Array Q8) : (tms (cs8 d)).length = d.size := by rw [tms_length, cs8_length]
/-- The greater monomial first. -/
def lt8 (x y : Q8) : Bool := mlt y.1.1.L x.1.1.L
theorem lt8_cmp (x y : Q8) : (-cmpL x.1.1.L y.1.1.L < 0) ↔ lt8 x y = true := by
  unfold lt8
  rw [← cmpL_mlt (by rw [x.2, y.2]), cmpL_swap (by rw [x.2, y.2])]
  omega
theorem swo8 : SWO lt8 where
  irrefl x := mlt_irrefl _
  trans x y z h1 h2 := mlt_trans h2 h1
  ntrans x y z h1 h2 := by
    unfold lt8 at *
    rcases mlt_tri y.1.1.L x.1.1.L with h | h | h
    · rw [h] at h1; cases h1
    · rw [← h]; exact h2
    · rcases mlt_tri z.1.1.L y.1.1.L with h' | h' | h'
      · rw [h'] at h2; cases h2
      · rw [h']; exact h1
      · exact mlt_asymm (mlt_trans h h')
theorem tms_swp (d : Array Q8) (i j : Nat) : tms (cs8 (swp d i j)) = ((tms (cs8 d)).set i d[j]!.1.1).set j d[i]!.1.1 := by
  unfold swp tms cs8
  rw [Array.toList_setIfInBounds, Array.toList_setIfInBounds, List.map_set, List.map_set, List.map_set, List.map_set]
theorem ins_perm (d : Array Q8) : (insertionSort lt8 d 0 d.size).size = d.size ∧ (cs8 (insertionSort lt8 d 0 d.size)).Perm (cs8 d) ∧ (cs8 (insertionSort lt8 d 0 d.size)).Pairwise fun x y => mlt x.1.L y.1.L = false := by
  obtain ⟨⟨h1, _, h2⟩, h3⟩ := insertionSort_holds swo8 d 0 d.size (Nat.zero_le _) (Nat.le_refl _)
  refine ⟨h1, ?_, ?_⟩
  · have : (insertionSort lt8 d 0 d.size).toList.Perm d.toList := by
      have e1 : (insertionSort lt8 d 0 d.size).extract 0 d.size = insertionSort lt8 d 0 d.size := by
        generalize insertionSort lt8 d 0 d.size = r at h1
        rw [← h1]; exact Array.extract_size
      have e2 : d.extract 0 d.size = d := Array.extract_size
      rw [e1, e2] at h2
      exact h2
    exact this.map _
  · unfold cs8
    rw [List.pairwise_map, List.pairwise_iff_getElem]
    intro i j hi hj hij
    have hj' : j < d.size := by rw [← h1]; simpa using hj
    have := h3 i j (Nat.zero_le _) hij hj'
    rw [getElem!_pos _ j (by rw [h1]; exact hj'), getElem!_pos _ i (by rw [h1]; omega)] at this
    simpa [lt8] using this

theorem growBelow {w : World} (q : Nat) (os : Array Obj) : Below w.heap.size w (grow (w.drewN q) os) :=
  ⟨rfl, rfl, rfl, by simp [grow], fun k hk => by
    show (w.heap ++ os)[k]? = w.heap[k]?
    rw [Array.getElem?_append_left hk]⟩
theorem Keeps.drewn {p b g : Nat} {w w' : World} (h : Keeps p b g w w') : Keeps p b g w w'.drew := ⟨h.os, h.tape, h.output, h.size, h.block⟩
set_option maxHeartbeats 8000000 in
theorem insert_x {w : World} {base g cap : Nat} {d : Array Q8} (hrow : w.ownsRow base 47 11 (.slice (some ⟨g, 0, none⟩) d.size cap) d.size (rowOf (tms (cs8 d)))) (hn : d.size < 1000000) :
    Calls Tryz.prog 111 #[.slice (some ⟨g, 0, none⟩) d.size cap, .int .i64 0, .int .i64 d.size, .func (.func 65) #[.int .i64 (-1)] #[]] w fun e w' => e = .returned (.tuple #[]) ∧
      w'.ownsRow base 47 11 (.slice (some ⟨g, 0, none⟩) d.size cap) d.size (rowOf (tms (cs8 (insertionSort lt8 d 0 d.size)))) ∧ Keeps g g g w w' := by
  obtain ⟨n, hlen⟩ : ∃ n, d.size = n := ⟨_, rfl⟩
  obtain ⟨R, hR⟩ : ∃ R, insertionSort lt8 d 0 d.size = R := ⟨_, rfl⟩
  rw [hR]
  rw [hlen] at hrow hn ⊢
  have HR : Hid (insOuter lt8 0 n (0 + 1) d = R) := by show _ = _; rw [← hR, hlen]; rfl
  have HLEN := Lib.hid hlen
  have HROW := Lib.hid hrow
  clear hR hrow hlen
  have hmix : Tryz.prog.follows .mixedOrders = true := by kernel_rfl
  go_enter Tryz.func111, Tryz.ntmps111
  go_wp2
  go_loopw [8] (fun iv wr => ∃ (i : Nat) (di : Array Q8), 1 ≤ i ∧ i ≤ n + 1 ∧ iv = .int .i64 i ∧ di.size = n ∧ Hid (insOuter lt8 0 n i di = R) ∧ Hid (wr.ownsRow base 47 11 (.slice (some ⟨g, 0, none⟩) n cap) n (rowOf (tms (cs8 di)))) ∧ Hid (Keeps g g g w wr)) (fun iv _ => n + 1 - (intOf iv).toNat)
  case atStart => exact ⟨1, d, Nat.le_refl _, by omega, by go_num, HLEN.out, HR.out, HROW.out, Keeps.refl ..⟩
  case round =>
    obtain ⟨i, di, hi1, hi, rfl, hdi, HO, HW, HK⟩ := hrel
    by_cases hlt : i < n
    · have hi2 : (i : Int) < n := by omega
      go_wp2
      go_loopw [9] (fun jv wq => ∃ (j : Nat) (dj : Array Q8), j ≤ i ∧ jv = .int .i64 j ∧ dj.size = n ∧ Hid (insInner lt8 0 j dj = insInner lt8 0 i di) ∧ Hid (wq.ownsRow base 47 11 (.slice (some ⟨g, 0, none⟩) n cap) n (rowOf (tms (cs8 dj)))) ∧ Hid (Keeps g g g w wq)) (fun jv _ => (intOf jv).toNat)
      case atStart => exact ⟨i, di, Nat.le_refl _, rfl, hdi, rfl, HW, HK⟩
      case round =>
        obtain ⟨j, dj, hj, rfl, hdj, HI, HW2, HK2⟩ := hrel
        have OUT : Hid ((j ≤ 0 ∨ lt8 dj[j]! dj[j - 1]! = false) → insOuter lt8 0 n (i + 1) dj = R) := fun hs => by
          rw [← HO.out, insOuter_go _ _ _ _ _ hlt, ← HI.out, insInner_stop _ _ _ _ hs]
        by_cases hj0 : j = 0
        · subst hj0
          have OUT0 := Lib.hid (OUT.out (.inl (Nat.le_refl _)))
          go_wp2_with fail
          go_quiet (fail)
          have HW3 : Hid ((wr.drewN nq).ownsRow base 47 11 (.slice (some ⟨g, 0, none⟩) n cap) n (rowOf (tms (cs8 dj)))) := HW2.out
          have HK3 : Hid (Keeps g g g w (wr.drewN nq)) := HK2.out.trans ⟨rfl, rfl, rfl, Nat.le_refl _, fun _ _ _ _ _ => rfl⟩
          clear OUT HO HI HW HK HW2 HK2
          go_wp2
          go_roundw
          case rel => exact ⟨i + 1, dj, by omega, by omega, by go_num, hdj, OUT0, HW3, HK3⟩
          case measure => simp [intOf] <;> omega
        · obtain ⟨p, rfl⟩ : ∃ p, j = p + 1 := ⟨j - 1, by omega⟩
          have hp1 : (p : Int) + 1 < n := by omega
          have hp2 : (p : Int) < n := by omega
          have hp3 : (0 : Int) ≤ (p : Int) + 1 := by omega
          have hp4 : (0 : Int) < (p : Int) + 1 := by omega
          have hp5 : (0 : Int) ≤ (p : Int) := by omega
          have hp6 : ((p : Int) + 1).toNat = p + 1 := by omega
          have hp7 : IntKind.i64.wrap (p : Int) = (p : Int) := by rw [IntKind.wrap_i64]; omega
          have hsj : (tms (cs8 dj))[p + 1]? = some dj[p + 1]!.1.1 := tms8_get (by omega)
          have hsp : (tms (cs8 dj))[p]? = some dj[p]!.1.1 := tms8_get (by omega)
          have SW := tms_swp dj (p + 1) p
          have hlt8 := lt8_cmp dj[p + 1]! dj[p]!
          have IGO := insInner_go lt8 0 (p + 1) dj (by omega)
          have OUT1 := OUT.out
          simp only [Nat.add_sub_cancel] at IGO OUT1
          obtain ⟨xj, hxj⟩ : ∃ x, dj[p + 1]! = x := ⟨_, rfl⟩
          obtain ⟨xp, hxp⟩ : ∃ x, dj[p]! = x := ⟨_, rfl⟩
          rw [hxj, hxp] at SW hlt8 IGO OUT1
          rw [hxj] at hsj
          rw [hxp] at hsp
          obtain ⟨x0, x1, x2, x3, x4, x5, x6, x7, hX⟩ := eight xj.2
          obtain ⟨y0, y1, y2, y3, y4, y5, y6, y7, hY⟩ := eight xp.2
          obtain ⟨c0, c1, c2, c3, c4, c5, c6, c7, c8, c9, c10⟩ := row_cells HW2.out (tms8 dj) (by rw [tms8_length, hdj]) hsj hX
          obtain ⟨d0, d1, d2, d3, d4, d5, d6, d7, d8, d9, d10⟩ := row_cells HW2.out (tms8 dj) (by rw [tms8_length, hdj]) hsp hY
          have hgl : g < wr.heap.size := (HW2.out.lt g rfl).2
          obtain ⟨r, hr⟩ : ∃ r, -cmpL [x0, x1, x2, x3, x4, x5, x6, x7] [y0, y1, y2, y3, y4, y5, y6, y7] = r := ⟨_, rfl⟩
          have hcg : ∀ n' os', Calls Tryz.prog 65 #[.int .i64 (-1), .agg #[.int .i64 x0, .int .i64 x1, .int .i64 x2, .int .i64 x3, .int .i64 x4, .int .i64 x5, .int .i64 x6, .int .i64 x7, .bool xj.1.1.s, .slice xj.1.1.A xj.1.1.n xj.1.1.c, .slice xj.1.1.B xj.1.1.m xj.1.1.d], .agg #[.int .i64 y0, .int .i64 y1, .int .i64 y2, .int .i64 y3, .int .i64 y4, .int .i64 y5, .int .i64 y6, .int .i64 y7, .bool xp.1.1.s, .slice xp.1.1.A xp.1.1.n xp.1.1.c, .slice xp.1.1.B xp.1.1.m xp.1.1.d]] (grow (wr.drewN n') os') fun e w' => e = .returned (.int .i64 r) ∧ ∃ q os'', w' = grow ((grow (wr.drewN n') os').drewN q) os'' := fun n' os' => by
            rw [← hr]; exact compare_g _ _ _ _ _ _ _ _ _ _ _ _ _ _ _ _ _ _ _ _ _ _ _ _ _ _ _ _ _ _ _
          rw [hX, hY, hr] at hlt8
          have c0' := fun n' os' => cell_grown (os := os') (n := n') hgl c0
          have d0' := fun n' os' => cell_grown (os := os') (n := n') hgl d0
          have c1' := fun n' os' => cell_grown (os := os') (n := n') hgl c1
          have d1' := fun n' os' => cell_grown (os := os') (n := n') hgl d1
          have c2' := fun n' os' => cell_grown (os := os') (n := n') hgl c2
          have d2' := fun n' os' => cell_grown (os := os') (n := n') hgl d2
          have c3' := fun n' os' => cell_grown (os := os') (n := n') hgl c3
          have d3' := fun n' os' => cell_grown (os := os') (n := n') hgl d3
          have c4' := fun n' os' => cell_grown (os := os') (n := n') hgl c4
          have d4' := fun n' os' => cell_grown (os := os') (n := n') hgl d4
          have c5' := fun n' os' => cell_grown (os := os') (n := n') hgl c5
          have d5' := fun n' os' => cell_grown (os := os') (n := n') hgl d5
          have c6' := fun n' os' => cell_grown (os := os') (n := n') hgl c6
          have d6' := fun n' os' => cell_grown (os := os') (n := n') hgl d6
          have c7' := fun n' os' => cell_grown (os := os') (n := n') hgl c7
          have d7' := fun n' os' => cell_grown (os := os') (n := n') hgl d7
          have c8' := fun n' os' => cell_grown (os := os') (n := n') hgl c8
          have d8' := fun n' os' => cell_grown (os := os') (n := n') hgl d8
          have c9' := fun n' os' => cell_grown (os := os') (n := n') hgl c9
          have d9' := fun n' os' => cell_grown (os := os') (n := n') hgl d9
          have c10' := fun n' os' => cell_grown (os := os') (n := n') hgl c10
          have d10' := fun n' os' => cell_grown (os := os') (n := n') hgl d10
          have HX := Lib.hid hX
          have HY := Lib.hid hY
          have HSJ := Lib.hid hsj
          have HSP := Lib.hid hsp
          have HSW := Lib.hid SW
          have HLT := Lib.hid hlt8
          have HIGO := Lib.hid IGO
          have HOUT := Lib.hid OUT1
          have HXJ := Lib.hid hxj
          have HXP := Lib.hid hxp
          clear hX hY hsj hsp SW hlt8 IGO OUT1 hxj hxp hr OUT c0 c1 c2 c3 c4 c5 c6 c7 c8 c9 c10 d0 d1 d2 d3 d4 d5 d6 d7 d8 d9 d10
          by_cases hlv : r < 0
          · go_wp2_with fail
            go_quiet_grown (first | (go_at_call 65; refine Calls.grown_of (hcg _ _)))
            go_wp2_with fail
            have hbz : Below wr.heap.size wr (grow (wr.drewN nq) osq) := growBelow nq osq
            clear hcg c0' c1' c2' c3' c4' c5' c6' c7' c8' c9' c10' d0' d1' d2' d3' d4' d5' d6' d7' d8' d9' d10'
            generalize grow (wr.drewN nq) osq = wz at hbz ⊢
            have ROWZ : wz.ownsRow base 47 11 (.slice (some ⟨g, 0, none⟩) n cap) n (rowOf (tms (cs8 dj))) := ownsRow_below HW2.out hbz
            obtain ⟨c0, c1, c2, c3, c4, c5, c6, c7, c8, c9, c10⟩ := row_cells ROWZ (tms8 dj) (by rw [tms8_length, hdj]) HSJ.out HX.out
            obtain ⟨d0, d1, d2, d3, d4, d5, d6, d7, d8, d9, d10⟩ := row_cells ROWZ (tms8 dj) (by rw [tms8_length, hdj]) HSP.out HY.out
            have z0 := ROWZ.frozenAt ((p + 1) * 11)
            have u0 := ROWZ.frozenAt (p * 11)
            have z1 := ROWZ.frozenAt ((p + 1) * 11 + 1)
            have u1 := ROWZ.frozenAt (p * 11 + 1)
            have z2 := ROWZ.frozenAt ((p + 1) * 11 + 2)
            have u2 := ROWZ.frozenAt (p * 11 + 2)
            have z3 := ROWZ.frozenAt ((p + 1) * 11 + 3)
            have u3 := ROWZ.frozenAt (p * 11 + 3)
            have z4 := ROWZ.frozenAt ((p + 1) * 11 + 4)
            have u4 := ROWZ.frozenAt (p * 11 + 4)
            have z5 := ROWZ.frozenAt ((p + 1) * 11 + 5)
            have u5 := ROWZ.frozenAt (p * 11 + 5)
            have z6 := ROWZ.frozenAt ((p + 1) * 11 + 6)
            have u6 := ROWZ.frozenAt (p * 11 + 6)
            have z7 := ROWZ.frozenAt ((p + 1) * 11 + 7)
            have u7 := ROWZ.frozenAt (p * 11 + 7)
            have z8 := ROWZ.frozenAt ((p + 1) * 11 + 8)
            have u8 := ROWZ.frozenAt (p * 11 + 8)
            have z9 := ROWZ.frozenAt ((p + 1) * 11 + 9)
            have u9 := ROWZ.frozenAt (p * 11 + 9)
            have z10 := ROWZ.frozenAt ((p + 1) * 11 + 10)
            have u10 := ROWZ.frozenAt (p * 11 + 10)
            have HRZ := Lib.hid ROWZ
            have HBZ := Lib.hid hbz
            clear ROWZ hbz
            have hlj : p + 1 < (tms (cs8 dj)).length := by rw [tms8_length, hdj]; omega
            obtain ⟨q1, k1⟩ := ownsRow_sets (vs := xp.1.1.cells) (o := (p + 1) * 11) HRZ.out
            rw [rowOf_put (tms8 dj) xp.2 hlj] at q1
            obtain ⟨q2, k2⟩ := ownsRow_sets (vs := xj.1.1.cells) (o := p * 11) q1
            rw [rowOf_put (fun u hu => by
              rcases List.mem_or_eq_of_mem_set hu with hu | rfl
              · exact tms8 dj u hu
              · exact xp.2) xj.2 (by rw [List.length_set]; omega), ← HSW.out] at q2
            have exj : xj.1.1.cells = [.int .i64 x0, .int .i64 x1, .int .i64 x2, .int .i64 x3, .int .i64 x4, .int .i64 x5, .int .i64 x6, .int .i64 x7, .bool xj.1.1.s, .slice xj.1.1.A xj.1.1.n xj.1.1.c, .slice xj.1.1.B xj.1.1.m xj.1.1.d] := by unfold Tm.cells; rw [HX.out]; rfl
            have exp : xp.1.1.cells = [.int .i64 y0, .int .i64 y1, .int .i64 y2, .int .i64 y3, .int .i64 y4, .int .i64 y5, .int .i64 y6, .int .i64 y7, .bool xp.1.1.s, .slice xp.1.1.A xp.1.1.n xp.1.1.c, .slice xp.1.1.B xp.1.1.m xp.1.1.d] := by unfold Tm.cells; rw [HY.out]; rfl
            rw [exj, exp] at q2 k2
            rw [exp] at k1
            simp only [World.setCells, Nat.add_assoc, Nat.reduceAdd] at q2 k1 k2
            have HQ := Lib.hid q2
            have HKN := Lib.hid (((HK2.out.trans (Keeps.below HBZ.out)).trans k1).trans k2)
            have hin : Hid (insInner lt8 0 p (swp dj (p + 1) p) = insInner lt8 0 i di) := by
              show _ = _
              rw [← HIGO.out (HLT.out.1 hlv)]; exact HI.out
            have hsz : (swp dj (p + 1) p).size = n := by rw [size_swp, hdj]
            clear q1 q2 k1 k2 exj exp hlj
            go_region
            clear c0 d0 z0 u0 c1 d1 z1 u1 c2 d2 z2 u2 c3 d3 z3 u3 c4 d4 z4 u4 c5 d5 z5 u5 c6 d6 z6 u6 c7 d7 z7 u7 c8 d8 z8 u8 c9 d9 z9 u9 c10 d10 z10 u10
            go_wp2
            go_roundw
            case rel => exact ⟨p, swp dj (p + 1) p, by omega, by go_num, hsz, hin, World.ownsRow.drew HQ.out, Keeps.drewn HKN.out⟩
            case measure => simp [intOf] <;> omega
          · have OUT2 : Hid (insOuter lt8 0 n (i + 1) dj = R) := HOUT.out (.inr (by
              cases h : lt8 xj xp with
              | false => rfl
              | true => exact absurd (HLT.out.2 h) hlv))
            go_wp2_with fail
            go_quiet_grown (first | (go_at_call 65; refine Calls.grown_of (hcg _ _)))
            have hbz : Below wr.heap.size wr (grow (wr.drewN nq) osq) := growBelow nq osq
            clear hcg c0' d0' c1' d1' c2' d2' c3' d3' c4' d4' c5' d5' c6' d6' c7' d7' c8' d8' c9' d9' c10' d10'
            generalize grow (wr.drewN nq) osq = wz at hbz ⊢
            have HW3 : Hid (wz.ownsRow base 47 11 (.slice (some ⟨g, 0, none⟩) n cap) n (rowOf (tms (cs8 dj)))) := ownsRow_below HW2.out hbz
            have HK3 : Hid (Keeps g g g w wz) := HK2.out.trans (Keeps.below hbz)
            clear HO HI HW HK HW2 HK2 hbz
            go_wp2
            go_roundw
            case rel => exact ⟨i + 1, dj, by omega, by omega, by go_num, hdj, OUT2, HW3, HK3⟩
            case measure => simp [intOf] <;> omega
    · have hR : di = R := by rw [← HO.out, insOuter_stop _ _ _ _ _ hlt]
      subst hR
      have hi2 : ¬ (i : Int) < n := by omega
      go_wp2
      go_end0
      exact ⟨rfl, HW.out, HK.out⟩
end Go.Proofs.YtebbnmjmjoklmaaGreatDoor
