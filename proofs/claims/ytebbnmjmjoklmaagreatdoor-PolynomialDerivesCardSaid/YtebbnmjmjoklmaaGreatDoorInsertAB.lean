/-
  slices.insertionSortCmpFunc over a part of a row of terms.
-/
import Derived.Test.YtebbnmjmjoklmaaGreatDoorReverse
namespace Go.Proofs.YtebbnmjmjoklmaaGreatDoor
open Go Go.RowKit Go.WideMaps Go.Sort
set_option maxRecDepth 20000

set_option maxHeartbeats 8000000 in
theorem insertAB_x {w : World} {base g cap a b : Nat} {d : Array Q8} (hrow : w.ownsRow base 47 11 (.slice (some ⟨g, 0, none⟩) d.size cap) d.size (rowOf (tms (cs8 d)))) (hn : d.size < 1000000) (hab : a ≤ b) (hb : b ≤ d.size) :
    Calls Tryz.prog 111 #[.slice (some ⟨g, 0, none⟩) d.size cap, .int .i64 a, .int .i64 b, .func (.func 65) #[.int .i64 (-1)] #[]] w fun e w' => e = .returned (.tuple #[]) ∧
      w'.ownsRow base 47 11 (.slice (some ⟨g, 0, none⟩) d.size cap) d.size (rowOf (tms (cs8 (insertionSort lt8 d a b)))) ∧ Keeps g g g w w' := by
  obtain ⟨n, hlen⟩ : ∃ n, d.size = n := ⟨_, rfl⟩
  obtain ⟨R, hR⟩ : ∃ R, insertionSort lt8 d a b = R := ⟨_, rfl⟩
  rw [hR]
  rw [hlen] at hrow hn hb ⊢
  have HR : Hid (insOuter lt8 a b (a + 1) d = R) := by show _ = _; rw [← hR]; rfl
  have HLEN := Lib.hid hlen
  have HROW := Lib.hid hrow
  clear hR hrow hlen
  have hmix : Tryz.prog.follows .mixedOrders = true := by kernel_rfl
  go_enter Tryz.func111, Tryz.ntmps111
  go_wp2
  go_loopw [8] (fun iv wr => ∃ (i : Nat) (di : Array Q8), a + 1 ≤ i ∧ i ≤ b + 1 ∧ iv = .int .i64 i ∧ di.size = n ∧ Hid (insOuter lt8 a b i di = R) ∧ Hid (wr.ownsRow base 47 11 (.slice (some ⟨g, 0, none⟩) n cap) n (rowOf (tms (cs8 di)))) ∧ Hid (Keeps g g g w wr)) (fun iv _ => b + 1 - (intOf iv).toNat)
  case atStart => exact ⟨a + 1, d, Nat.le_refl _, by omega, by go_num, HLEN.out, HR.out, HROW.out, Keeps.refl ..⟩
  case round =>
    obtain ⟨i, di, hi1, hi, rfl, hdi, HO, HW, HK⟩ := hrel
    by_cases hlt : i < b
    · have hi2 : (i : Int) < b := by omega
      go_wp2
      go_loopw [9] (fun jv wq => ∃ (j : Nat) (dj : Array Q8), (a ≤ j ∧ j ≤ i) ∧ jv = .int .i64 j ∧ dj.size = n ∧ Hid (insInner lt8 a j dj = insInner lt8 a i di) ∧ Hid (wq.ownsRow base 47 11 (.slice (some ⟨g, 0, none⟩) n cap) n (rowOf (tms (cs8 dj)))) ∧ Hid (Keeps g g g w wq)) (fun jv _ => (intOf jv).toNat)
      case atStart => exact ⟨i, di, ⟨by omega, Nat.le_refl _⟩, rfl, hdi, rfl, HW, HK⟩
      case round =>
        obtain ⟨j, dj, ⟨haj, hj⟩, rfl, hdj, HI, HW2, HK2⟩ := hrel
        have OUT : Hid ((j ≤ a ∨ lt8 dj[j]! dj[j - 1]! = false) → insOuter lt8 a b (i + 1) dj = R) := fun hs => by
          rw [← HO.out, insOuter_go _ _ _ _ _ hlt, ← HI.out, insInner_stop _ _ _ _ hs]
        by_cases hj0 : j = a
        · subst hj0
          have OUT0 := Lib.hid (OUT.out (.inl (Nat.le_refl _)))
          go_wp2_with fail
          go_quiet (fail)
          have HW3 : Hid ((wr.drewN nq).ownsRow base 47 11 (.slice (some ⟨g, 0, none⟩) n cap) n (rowOf (tms (cs8 dj)))) := HW2.out
          have HK3 : Hid (Keeps g g g w (wr.drewN nq)) := HK2.out.trans ⟨rfl, rfl, rfl, Nat.le_refl _, fun _ _ _ _ _ => rfl⟩
          clear OUT HO HI HW HK HW2 HK2
          go_wp2
          go_roundw
          case rel => exact ⟨i + 1, dj, by omega, by omega, by go_num, hdj, OUT0, HW3, HK3⟩
          case measure => simp [intOf] <;> omega
        · obtain ⟨p, rfl⟩ : ∃ p, j = p + 1 := ⟨j - 1, by omega⟩
          have hp1 : (p : Int) + 1 < n := by omega
          have hp2 : (p : Int) < n := by omega
          have hp3 : (0 : Int) ≤ (p : Int) + 1 := by omega
          have hp4 : (a : Int) < (p : Int) + 1 := by omega
          have hp5 : (0 : Int) ≤ (p : Int) := by omega
          have hp6 : ((p : Int) + 1).toNat = p + 1 := by omega
          have hp7 : IntKind.i64.wrap (p : Int) = (p : Int) := by rw [IntKind.wrap_i64]; omega
          have hsj : (tms (cs8 dj))[p + 1]? = some dj[p + 1]!.1.1 := tms8_get (by omega)
          have hsp : (tms (cs8 dj))[p]? = some dj[p]!.1.1 := tms8_get (by omega)
          have SW := tms_swp dj (p + 1) p
          have hlt8 := lt8_cmp dj[p + 1]! dj[p]!
          have IGO := insInner_go lt8 a (p + 1) dj (by omega)
          have OUT1 := OUT.out
          simp only [Nat.add_sub_cancel] at IGO OUT1
          obtain ⟨xj, hxj⟩ : ∃ x, dj[p + 1]! = x := ⟨_, rfl⟩
          obtain ⟨xp, hxp⟩ : ∃ x, dj[p]! = x := ⟨_, rfl⟩
          rw [hxj, hxp] at SW hlt8 IGO OUT1
          rw [hxj] at hsj
          rw [hxp] at hsp
          obtain ⟨x0, x1, x2, x3, x4, x5, x6, x7, hX⟩ := eight xj.2
          obtain ⟨y0, y1, y2, y3, y4, y5, y6, y7, hY⟩ := eight xp.2
          obtain ⟨c0, c1, c2, c3, c4, c5, c6, c7, c8, c9, c10⟩ := row_cells HW2.out (tms8 dj) (by rw [tms8_length, hdj]) hsj hX
          obtain ⟨d0, d1, d2, d3, d4, d5, d6, d7, d8, d9, d10⟩ := row_cells HW2.out (tms8 dj) (by rw [tms8_length, hdj]) hsp hY
          have hgl : g < wr.heap.size := (HW2.out.lt g rfl).2
          obtain ⟨r, hr⟩ : ∃ r, -cmpL [x0, x1, x2, x3, x4, x5, x6, x7] [y0, y1, y2, y3, y4, y5, y6, y7] = r := ⟨_, rfl⟩
          have hcg : ∀ n' os', Calls Tryz.prog 65 #[.int .i64 (-1), .agg #[.int .i64 x0, .int .i64 x1, .int .i64 x2, .int .i64 x3, .int .i64 x4, .int .i64 x5, .int .i64 x6, .int .i64 x7, .bool xj.1.1.s, .slice xj.1.1.A xj.1.1.n xj.1.1.c, .slice xj.1.1.B xj.1.1.m xj.1.1.d], .agg #[.int .i64 y0, .int .i64 y1, .int .i64 y2, .int .i64 y3, .int .i64 y4, .int .i64 y5, .int .i64 y6, .int .i64 y7, .bool xp.1.1.s, .slice xp.1.1.A xp.1.1.n xp.1.1.c, .slice xp.1.1.B xp.1.1.m xp.1.1.d]] (grow (wr.drewN n') os') fun e w' => e = .returned (.int .i64 r) ∧ ∃ q os'', w' = grow ((grow (wr.drewN n') os').drewN q) os'' := fun n' os' => by
            rw [← hr]; exact compare_g _ _ _ _ _ _ _ _ _ _ _ _ _ _ _ _ _ _ _ _ _ _ _ _ _ _ _ _ _ _ _
          rw [hX, hY, hr] at hlt8
          have c0' := fun n' os' => cell_grown (os := os') (n := n') hgl c0
          have d0' := fun n' os' => cell_grown (os := os') (n := n') hgl d0
          have c1' := fun n' os' => cell_grown (os := os') (n := n') hgl c1
          have d1' := fun n' os' => cell_grown (os := os') (n := n') hgl d1
          have c2' := fun n' os' => cell_grown (os := os') (n := n') hgl c2
          have d2' := fun n' os' => cell_grown (os := os') (n := n') hgl d2
          have c3' := fun n' os' => cell_grown (os := os') (n := n') hgl c3
          have d3' := fun n' os' => cell_grown (os := os') (n := n') hgl d3
          have c4' := fun n' os' => cell_grown (os := os') (n := n') hgl c4
          have d4' := fun n' os' => cell_grown (os := os') (n := n') hgl d4
          have c5' := fun n' os' => cell_grown (os := os') (n := n') hgl c5
          have d5' := fun n' os' => cell_grown (os := os') (n := n') hgl d5
          have c6' := fun n' os' => cell_grown (os := os') (n := n') hgl c6
          have d6' := fun n' os' => cell_grown (os := os') (n := n') hgl d6
          have c7' := fun n' os' => cell_grown (os := os') (n := n') hgl c7
          have d7' := fun n' os' => cell_grown (os := os') (n := n') hgl d7
          have c8' := fun n' os' => cell_grown (os := os') (n := n') hgl c8
          have d8' := fun n' os' => cell_grown (os := os') (n := n') hgl d8
          have c9' := fun n' os' => cell_grown (os := os') (n := n') hgl c9
          have d9' := fun n' os' => cell_grown (os := os') (n := n') hgl d9
          have c10' := fun n' os' => cell_grown (os := os') (n := n') hgl c10
          have d10' := fun n' os' => cell_grown (os := os') (n := n') hgl d10
          have HX := Lib.hid hX
          have HY := Lib.hid hY
          have HSJ := Lib.hid hsj
          have HSP := Lib.hid hsp
          have HSW := Lib.hid SW
          have HLT := Lib.hid hlt8
          have HIGO := Lib.hid IGO
          have HOUT := Lib.hid OUT1
          have HXJ := Lib.hid hxj
          have HXP := Lib.hid hxp
          clear hX hY hsj hsp SW hlt8 IGO OUT1 hxj hxp hr OUT c0 c1 c2 c3 c4 c5 c6 c7 c8 c9 c10 d0 d1 d2 d3 d4 d5 d6 d7 d8 d9 d10
          by_cases hlv : r < 0
          · go_wp2_with fail
            go_quiet_grown (first | (go_at_call 65; refine Calls.grown_of (hcg _ _)))
            go_wp2_with fail
            have hbz : Below wr.heap.size wr (grow (wr.drewN nq) osq) := growBelow nq osq
            clear hcg c0' c1' c2' c3' c4' c5' c6' c7' c8' c9' c10' d0' d1' d2' d3' d4' d5' d6' d7' d8' d9' d10'
            generalize grow (wr.drewN nq) osq = wz at hbz ⊢
            have ROWZ : wz.ownsRow base 47 11 (.slice (some ⟨g, 0, none⟩) n cap) n (rowOf (tms (cs8 dj))) := ownsRow_below HW2.out hbz
            obtain ⟨c0, c1, c2, c3, c4, c5, c6, c7, c8, c9, c10⟩ := row_cells ROWZ (tms8 dj) (by rw [tms8_length, hdj]) HSJ.out HX.out
            obtain ⟨d0, d1, d2, d3, d4, d5, d6, d7, d8, d9, d10⟩ := row_cells ROWZ (tms8 dj) (by rw [tms8_length, hdj]) HSP.out HY.out
            have z0 := ROWZ.frozenAt ((p + 1) * 11)
            have u0 := ROWZ.frozenAt (p * 11)
            have z1 := ROWZ.frozenAt ((p + 1) * 11 + 1)
            have u1 := ROWZ.frozenAt (p * 11 + 1)
            have z2 := ROWZ.frozenAt ((p + 1) * 11 + 2)
            have u2 := ROWZ.frozenAt (p * 11 + 2)
            have z3 := ROWZ.frozenAt ((p + 1) * 11 + 3)
            have u3 := ROWZ.frozenAt (p * 11 + 3)
            have z4 := ROWZ.frozenAt ((p + 1) * 11 + 4)
            have u4 := ROWZ.frozenAt (p * 11 + 4)
            have z5 := ROWZ.frozenAt ((p + 1) * 11 + 5)
            have u5 := ROWZ.frozenAt (p * 11 + 5)
            have z6 := ROWZ.frozenAt ((p + 1) * 11 + 6)
            have u6 := ROWZ.frozenAt (p * 11 + 6)
            have z7 := ROWZ.frozenAt ((p + 1) * 11 + 7)
            have u7 := ROWZ.frozenAt (p * 11 + 7)
            have z8 := ROWZ.frozenAt ((p + 1) * 11 + 8)
            have u8 := ROWZ.frozenAt (p * 11 + 8)
            have z9 := ROWZ.frozenAt ((p + 1) * 11 + 9)
            have u9 := ROWZ.frozenAt (p * 11 + 9)
            have z10 := ROWZ.frozenAt ((p + 1) * 11 + 10)
            have u10 := ROWZ.frozenAt (p * 11 + 10)
            have HRZ := Lib.hid ROWZ
            have HBZ := Lib.hid hbz
            clear ROWZ hbz
            have hlj : p + 1 < (tms (cs8 dj)).length := by rw [tms8_length, hdj]; omega
            obtain ⟨q1, k1⟩ := ownsRow_sets (vs := xp.1.1.cells) (o := (p + 1) * 11) HRZ.out
            rw [rowOf_put (tms8 dj) xp.2 hlj] at q1
            obtain ⟨q2, k2⟩ := ownsRow_sets (vs := xj.1.1.cells) (o := p * 11) q1
            rw [rowOf_put (fun u hu => by
              rcases List.mem_or_eq_of_mem_set hu with hu | rfl
              · exact tms8 dj u hu
              · exact xp.2) xj.2 (by rw [List.length_set]; omega), ← HSW.out] at q2
            have exj : xj.1.1.cells = [.int .i64 x0, .int .i64 x1, .int .i64 x2, .int .i64 x3, .int .i64 x4, .int .i64 x5, .int .i64 x6, .int .i64 x7, .bool xj.1.1.s, .slice xj.1.1.A xj.1.1.n xj.1.1.c, .slice xj.1.1.B xj.1.1.m xj.1.1.d] := by unfold Tm.cells; rw [HX.out]; rfl
            have exp : xp.1.1.cells = [.int .i64 y0, .int .i64 y1, .int .i64 y2, .int .i64 y3, .int .i64 y4, .int .i64 y5, .int .i64 y6, .int .i64 y7, .bool xp.1.1.s, .slice xp.1.1.A xp.1.1.n xp.1.1.c, .slice xp.1.1.B xp.1.1.m xp.1.1.d] := by unfold Tm.cells; rw [HY.out]; rfl
            rw [exj, exp] at q2 k2
            rw [exp] at k1
            simp only [World.setCells, Nat.add_assoc, Nat.reduceAdd] at q2 k1 k2
            have HQ := Lib.hid q2
            have HKN := Lib.hid (((HK2.out.trans (Keeps.below HBZ.out)).trans k1).trans k2)
            have hin : Hid (insInner lt8 a p (swp dj (p + 1) p) = insInner lt8 a i di) := by
              show _ = _
              rw [← HIGO.out (HLT.out.1 hlv)]; exact HI.out
            have hsz : (swp dj (p + 1) p).size = n := by rw [size_swp, hdj]
            clear q1 q2 k1 k2 exj exp hlj
            go_region
            clear c0 d0 z0 u0 c1 d1 z1 u1 c2 d2 z2 u2 c3 d3 z3 u3 c4 d4 z4 u4 c5 d5 z5 u5 c6 d6 z6 u6 c7 d7 z7 u7 c8 d8 z8 u8 c9 d9 z9 u9 c10 d10 z10 u10
            go_wp2
            go_roundw
            case rel => exact ⟨p, swp dj (p + 1) p, ⟨by omega, by omega⟩, by go_num, hsz, hin, World.ownsRow.drew HQ.out, Keeps.drewn HKN.out⟩
            case measure => simp [intOf] <;> omega
          · have OUT2 : Hid (insOuter lt8 a b (i + 1) dj = R) := HOUT.out (.inr (by
              cases h : lt8 xj xp with
              | false => rfl
              | true => exact absurd (HLT.out.2 h) hlv))
            go_wp2_with fail
            go_quiet_grown (first | (go_at_call 65; refine Calls.grown_of (hcg _ _)))
            have hbz : Below wr.heap.size wr (grow (wr.drewN nq) osq) := growBelow nq osq
            clear hcg c0' d0' c1' d1' c2' d2' c3' d3' c4' d4' c5' d5' c6' d6' c7' d7' c8' d8' c9' d9' c10' d10'
            generalize grow (wr.drewN nq) osq = wz at hbz ⊢
            have HW3 : Hid (wz.ownsRow base 47 11 (.slice (some ⟨g, 0, none⟩) n cap) n (rowOf (tms (cs8 dj)))) := ownsRow_below HW2.out hbz
            have HK3 : Hid (Keeps g g g w wz) := HK2.out.trans (Keeps.below hbz)
            clear HO HI HW HK HW2 HK2 hbz
            go_wp2
            go_roundw
            case rel => exact ⟨i + 1, dj, by omega, by omega, by go_num, hdj, OUT2, HW3, HK3⟩
            case measure => simp [intOf] <;> omega
    · have hR : di = R := by rw [← HO.out, insOuter_stop _ _ _ _ _ hlt]
      subst hR
      have hi2 : ¬ (i : Int) < b := by omega
      go_wp2
      go_end0
      exact ⟨rfl, HW.out, HK.out⟩
end Go.Proofs.YtebbnmjmjoklmaaGreatDoor
