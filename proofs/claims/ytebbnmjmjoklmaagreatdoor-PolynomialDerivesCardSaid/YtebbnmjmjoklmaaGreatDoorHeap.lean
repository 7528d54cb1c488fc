/-
  slices.heapSortCmpFunc over a row of terms, with the order of the normal form.
-/
import Derived.Test.YtebbnmjmjoklmaaGreatDoorSift
namespace Go.Proofs.YtebbnmjmjoklmaaGreatDoor
open Go Go.RowKit Go.WideMaps Go.Sort
set_option maxRecDepth 20000

theorem sift_n {w : World} {base g cap first hi lo n : Nat} {d : Array Q8} (hrow : w.ownsRow base 47 11 (.slice (some ⟨g, 0, none⟩) n cap) n (rowOf (tms (cs8 d)))) (hd : d.size = n) (hn : n < 1000000) (hb : first + hi ≤ n) (hlo : lo ≤ 1000000) :
    Calls Tryz.prog 136 #[.slice (some ⟨g, 0, none⟩) n cap, .int .i64 lo, .int .i64 hi, .int .i64 first, .func (.func 65) #[.int .i64 (-1)] #[]] w fun e w' => e = .returned (.tuple #[]) ∧ w'.ownsRow base 47 11 (.slice (some ⟨g, 0, none⟩) n cap) n (rowOf (tms (cs8 (siftDown lt8 hi first lo d)))) ∧ Keeps g g g w w' := by
  subst hd
  exact sift_x hrow hn hb hlo

theorem size_sift (hi first : Nat) : ∀ (k root : Nat) (d : Array Q8), hi - root ≤ k → (siftDown lt8 hi first root d).size = d.size := by
  intro k
  induction k with
  | zero =>
    intro root d h
    unfold siftDown
    rw [dif_pos (by omega)]
  | succ k ih =>
    intro root d h
    unfold siftDown
    split
    · rfl
    · split
      · split
        · rfl
        · split
          · rw [ih _ _ (by omega), size_swp]
          · rfl
      · split
        · rfl
        · rw [ih _ _ (by omega), size_swp]
theorem size_heapB (hi first : Nat) : ∀ (k : Nat) (d : Array Q8), (heapBuild lt8 hi first k d).size = d.size
  | 0, _ => rfl
  | k + 1, d => by
    show (heapBuild lt8 hi first k (siftDown lt8 hi first k d)).size = _
    rw [size_heapB hi first k, size_sift hi first (hi - k) k d (Nat.le_refl _)]

set_option maxHeartbeats 16000000 in
theorem heap_x {w : World} {base g cap a b : Nat} {d : Array Q8} (hrow : w.ownsRow base 47 11 (.slice (some ⟨g, 0, none⟩) d.size cap) d.size (rowOf (tms (cs8 d)))) (hn : d.size < 1000000) (hab : a < b) (hb : b ≤ d.size) :
    Calls Tryz.prog 112 #[.slice (some ⟨g, 0, none⟩) d.size cap, .int .i64 a, .int .i64 b, .func (.func 65) #[.int .i64 (-1)] #[]] w fun e w' => e = .returned (.tuple #[]) ∧ w'.ownsRow base 47 11 (.slice (some ⟨g, 0, none⟩) d.size cap) d.size (rowOf (tms (cs8 (heapSort lt8 d a b)))) ∧ Keeps g g g w w' := by
  obtain ⟨n, hlen⟩ : ∃ n, d.size = n := ⟨_, rfl⟩
  obtain ⟨m, hm⟩ : ∃ m, b - a = m := ⟨_, rfl⟩
  obtain ⟨R, hR⟩ : ∃ R, heapSort lt8 d a b = R := ⟨_, rfl⟩
  obtain ⟨R1, hR1⟩ : ∃ R1, heapBuild lt8 m a ((m - 1) / 2 + 1) d = R1 := ⟨_, rfl⟩
  have HR : Hid (heapPop lt8 a m R1 = R) := by show _ = _; rw [← hR, ← hR1]; unfold heapSort; rw [hm]
  have HR1 := Lib.hid hR1
  have hs1 : R1.size = n := by rw [← hR1, size_heapB, hlen]
  rw [hR]
  rw [hlen] at hrow hn hb ⊢
  have HLEN := Lib.hid hlen
  have HROW := Lib.hid hrow
  have HS1 := Lib.hid hs1
  have hmI : (b : Int) - a = m := by omega
  have hm1 : 1 ≤ m := by omega
  have hmn : a + m ≤ n := by omega
  have hmb : (m : Int) < 1000000 := by omega
  have hm0 : (0 : Int) ≤ m := by omega
  have HMI := Lib.hid hmI
  clear hR hR1 hrow hlen hs1 hm hmI
  have hmix : Tryz.prog.follows .mixedOrders = true := by kernel_rfl
  go_enter Tryz.func112, Tryz.ntmps112
  go_upto_region 3 with fail
  rw [HMI.out]
  obtain ⟨q, hq⟩ : ∃ q : Nat, ((m : Int) - 1) / 2 = q := ⟨(m - 1) / 2, by omega⟩
  have HQM : Hid (q = (m - 1) / 2) := by show _ = _; omega
  have hq9 : q + 1 ≤ 1000000 := by omega
  have HQ0 := Lib.hid hq
  go_wp2
  rw [HQ0.out]
  clear hq
  go_loopw [11] (fun iv wq => ∃ (z : Int) (k : Nat) (di : Array Q8), iv = .int .i64 z ∧ z + 1 = k ∧ k ≤ q + 1 ∧ di.size = n ∧ Hid (heapBuild lt8 m a k di = R1) ∧ Hid (wq.ownsRow base 47 11 (.slice (some ⟨g, 0, none⟩) n cap) n (rowOf (tms (cs8 di)))) ∧ Hid (Keeps g g g w wq)) (fun iv _ => (intOf iv + 1).toNat)
  case atStart => exact ⟨q, q + 1, d, rfl, by omega, by omega, HLEN.out, (by show _ = _; rw [HQM.out]; exact HR1.out), HROW, Keeps.refl ..⟩
  case round =>
    obtain ⟨z, k, di, rfl, hz, hkq, hdi, HL, HW, HK⟩ := hrel
    clear HROW HLEN HR1
    rcases k with _ | k
    · obtain rfl : z = -1 := by omega
      have hRR : di = R1 := HL.out
      subst hRR
      clear HL hz
      go_wp2
      go_loopw [12] (fun iv wq => ∃ (z : Int) (k : Nat) (di : Array Q8), iv = .int .i64 z ∧ z + 1 = k ∧ k ≤ m ∧ di.size = n ∧ Hid (heapPop lt8 a k di = R) ∧ Hid (wq.ownsRow base 47 11 (.slice (some ⟨g, 0, none⟩) n cap) n (rowOf (tms (cs8 di)))) ∧ Hid (Keeps g g g w wq)) (fun iv _ => (intOf iv + 1).toNat)
      case atStart => exact ⟨(m : Int) - 1, m, di, rfl, by omega, Nat.le_refl _, hdi, HR, HW, HK⟩
      case round =>
        obtain ⟨z, k, di', rfl, hz, hkm, hdi', HL, HW', HK'⟩ := hrel
        clear HR HS1 HW HK
        rcases k with _ | k
        · obtain rfl : z = -1 := by omega
          have hRR : di' = R := HL.out
          subst hRR
          go_wp2
          go_end0
          exact ⟨rfl, HW'.out, HK'.out⟩
        · obtain rfl : z = (k : Int) := by omega
          have hk0 : (0 : Int) ≤ k := by omega
          have hk1 : (k : Int) < 1000000 := by omega
          have ha0 : (0 : Int) ≤ a := by omega
          have ha1 : (a : Int) < n := by omega
          have hak : (a : Int) + k < n := by omega
          have hak0 : (0 : Int) ≤ (a : Int) + k := by omega
          have hakt : ((a : Int) + k).toNat = a + k := by omega
          have HLN : Hid (heapPop lt8 a k (siftDown lt8 k a 0 (swp di' a (a + k))) = R) := HL.out
          by_cases hk00 : k = 0
          · subst hk00
            clear hk0 hk1 hak hak0 hakt
            have hsj : (tms (cs8 di'))[a]? = some di'[a]!.1.1 := tms8_get (by omega)
            obtain ⟨q2, k2⟩ := swap_row (i := a) (j := a) HW'.out hdi' (by omega) (by omega)
            obtain ⟨xj, hxj⟩ : ∃ x, di'[a]! = x := ⟨_, rfl⟩
            rw [hxj] at hsj q2 k2
            obtain ⟨x0, x1, x2, x3, x4, x5, x6, x7, hX⟩ := eight xj.2
            obtain ⟨c0, c1, c2, c3, c4, c5, c6, c7, c8, c9, c10⟩ := row_cells HW'.out (tms8 di') (by rw [tms8_length, hdi']) hsj hX
            have exj : xj.1.1.cells = [.int .i64 x0, .int .i64 x1, .int .i64 x2, .int .i64 x3, .int .i64 x4, .int .i64 x5, .int .i64 x6, .int .i64 x7, .bool xj.1.1.s, .slice xj.1.1.A xj.1.1.n xj.1.1.c, .slice xj.1.1.B xj.1.1.m xj.1.1.d] := by unfold Tm.cells; rw [hX]; rfl
            rw [exj] at q2 k2
            simp only [World.setCells, Nat.add_assoc, Nat.reduceAdd] at q2 k2
            have HQ := Lib.hid q2
            have HKN := Lib.hid (HK'.out.trans k2)
            have z0 := HW'.out.frozenAt ((a) * 11)
            have z1 := HW'.out.frozenAt ((a) * 11 + 1)
            have z2 := HW'.out.frozenAt ((a) * 11 + 2)
            have z3 := HW'.out.frozenAt ((a) * 11 + 3)
            have z4 := HW'.out.frozenAt ((a) * 11 + 4)
            have z5 := HW'.out.frozenAt ((a) * 11 + 5)
            have z6 := HW'.out.frozenAt ((a) * 11 + 6)
            have z7 := HW'.out.frozenAt ((a) * 11 + 7)
            have z8 := HW'.out.frozenAt ((a) * 11 + 8)
            have z9 := HW'.out.frozenAt ((a) * 11 + 9)
            have z10 := HW'.out.frozenAt ((a) * 11 + 10)
            have hsz : (swp di' (a) (a)).size = n := by rw [size_swp, hdi']
            clear q2 k2 exj hX hsj hxj
            go_wp2_with fail
            go_region
            clear c0 z0 c1 z1 c2 z2 c3 z3 c4 z4 c5 z5 c6 z6 c7 z7 c8 z8 c9 z9 c10 z10
            have HQ2 := Lib.hid (World.ownsRow.drew HQ.out)
            have HK2 := Lib.hid (Keeps.drewn HKN.out)
            have HSF := Lib.hid (sift_n (lo := 0) (hi := 0) (first := a) HQ2.out hsz (by omega) (by omega) (by omega))
            have hsz2 : (siftDown lt8 0 a 0 (swp di' a a)).size = n := by rw [size_sift 0 a 0 0 _ (Nat.le_refl _)]; exact hsz
            clear HL HW' HK' HQ HKN
            go_wp2_with fail
            refine HSF.out.mono ?_
            rintro e w5 ⟨rfl, h1, h2⟩
            have H1 := Lib.hid h1
            have H2 := Lib.hid (HK2.out.trans h2)
            clear h1 h2 HSF HQ2 HK2
            go_wp2
            go_roundw
            case rel => exact ⟨-1, 0, _, rfl, by omega, by omega, hsz2, HLN, H1, H2⟩
            case measure => simp [intOf] <;> omega
          · have hkne : 0 < k := by omega
            have hsj : (tms (cs8 di'))[a]? = some di'[a]!.1.1 := tms8_get (by omega)
            have hsp : (tms (cs8 di'))[a + k]? = some di'[a + k]!.1.1 := tms8_get (by omega)
            obtain ⟨q2, k2⟩ := swap_row (i := a) (j := a + k) HW'.out hdi' (by omega) (by omega)
            obtain ⟨xj, hxj⟩ : ∃ x, di'[a]! = x := ⟨_, rfl⟩
            obtain ⟨xp, hxp⟩ : ∃ x, di'[a + k]! = x := ⟨_, rfl⟩
            rw [hxj] at hsj q2 k2
            rw [hxp] at hsp q2 k2
            obtain ⟨x0, x1, x2, x3, x4, x5, x6, x7, hX⟩ := eight xj.2
            obtain ⟨y0, y1, y2, y3, y4, y5, y6, y7, hY⟩ := eight xp.2
            obtain ⟨c0, c1, c2, c3, c4, c5, c6, c7, c8, c9, c10⟩ := row_cells HW'.out (tms8 di') (by rw [tms8_length, hdi']) hsj hX
            obtain ⟨d0, d1, d2, d3, d4, d5, d6, d7, d8, d9, d10⟩ := row_cells HW'.out (tms8 di') (by rw [tms8_length, hdi']) hsp hY
            have exj : xj.1.1.cells = [.int .i64 x0, .int .i64 x1, .int .i64 x2, .int .i64 x3, .int .i64 x4, .int .i64 x5, .int .i64 x6, .int .i64 x7, .bool xj.1.1.s, .slice xj.1.1.A xj.1.1.n xj.1.1.c, .slice xj.1.1.B xj.1.1.m xj.1.1.d] := by unfold Tm.cells; rw [hX]; rfl
            have exp : xp.1.1.cells = [.int .i64 y0, .int .i64 y1, .int .i64 y2, .int .i64 y3, .int .i64 y4, .int .i64 y5, .int .i64 y6, .int .i64 y7, .bool xp.1.1.s, .slice xp.1.1.A xp.1.1.n xp.1.1.c, .slice xp.1.1.B xp.1.1.m xp.1.1.d] := by unfold Tm.cells; rw [hY]; rfl
            rw [exj, exp] at q2 k2
            simp only [World.setCells, Nat.add_assoc, Nat.reduceAdd] at q2 k2
            have HQ := Lib.hid q2
            have HKN := Lib.hid (HK'.out.trans k2)
            have z0 := HW'.out.frozenAt ((a) * 11)
            have u0 := HW'.out.frozenAt ((a + k) * 11)
            have z1 := HW'.out.frozenAt ((a) * 11 + 1)
            have u1 := HW'.out.frozenAt ((a + k) * 11 + 1)
            have z2 := HW'.out.frozenAt ((a) * 11 + 2)
            have u2 := HW'.out.frozenAt ((a + k) * 11 + 2)
            have z3 := HW'.out.frozenAt ((a) * 11 + 3)
            have u3 := HW'.out.frozenAt ((a + k) * 11 + 3)
            have z4 := HW'.out.frozenAt ((a) * 11 + 4)
            have u4 := HW'.out.frozenAt ((a + k) * 11 + 4)
            have z5 := HW'.out.frozenAt ((a) * 11 + 5)
            have u5 := HW'.out.frozenAt ((a + k) * 11 + 5)
            have z6 := HW'.out.frozenAt ((a) * 11 + 6)
            have u6 := HW'.out.frozenAt ((a + k) * 11 + 6)
            have z7 := HW'.out.frozenAt ((a) * 11 + 7)
            have u7 := HW'.out.frozenAt ((a + k) * 11 + 7)
            have z8 := HW'.out.frozenAt ((a) * 11 + 8)
            have u8 := HW'.out.frozenAt ((a + k) * 11 + 8)
            have z9 := HW'.out.frozenAt ((a) * 11 + 9)
            have u9 := HW'.out.frozenAt ((a + k) * 11 + 9)
            have z10 := HW'.out.frozenAt ((a) * 11 + 10)
            have u10 := HW'.out.frozenAt ((a + k) * 11 + 10)
            have hsz : (swp di' (a) (a + k)).size = n := by rw [size_swp, hdi']
            clear q2 k2 exj exp hX hY hsj hsp hxj hxp
            go_wp2_with fail
            go_region
            clear c0 d0 z0 u0 c1 d1 z1 u1 c2 d2 z2 u2 c3 d3 z3 u3 c4 d4 z4 u4 c5 d5 z5 u5 c6 d6 z6 u6 c7 d7 z7 u7 c8 d8 z8 u8 c9 d9 z9 u9 c10 d10 z10 u10
            have HQ2 := Lib.hid (World.ownsRow.drew HQ.out)
            have HK2 := Lib.hid (Keeps.drewn HKN.out)
            have HSF := Lib.hid (sift_n (lo := 0) (hi := k) (first := a) HQ2.out hsz (by omega) (by omega) (by omega))
            have hsz2 : (siftDown lt8 k a 0 (swp di' a (a + k))).size = n := by rw [size_sift k a (k - 0) 0 _ (Nat.le_refl _)]; exact hsz
            clear HL HW' HK' HQ HKN
            go_wp2_with fail
            refine HSF.out.mono ?_
            rintro e w5 ⟨rfl, h1, h2⟩
            have H1 := Lib.hid h1
            have H2 := Lib.hid (HK2.out.trans h2)
            clear h1 h2 HSF HQ2 HK2
            go_wp2
            go_roundw
            case rel => exact ⟨(k : Int) - 1, k, _, rfl, by omega, by omega, hsz2, HLN, H1, H2⟩
            case measure => simp [intOf] <;> omega
    · obtain rfl : z = (k : Int) := by omega
      have hk0 : (0 : Int) ≤ k := by omega
      have HLN : Hid (heapBuild lt8 m a k (siftDown lt8 m a k di) = R1) := HL.out
      have HSF := Lib.hid (sift_n (lo := k) (hi := m) (first := a) HW.out hdi (by omega) (by omega) (by omega))
      have hsz2 : (siftDown lt8 m a k di).size = n := by rw [size_sift m a (m - k) k _ (Nat.le_refl _)]; exact hdi
      clear HL HW
      go_wp2_with fail
      refine HSF.out.mono ?_
      rintro e w5 ⟨rfl, h1, h2⟩
      have H1 := Lib.hid h1
      have H2 := Lib.hid (HK.out.trans h2)
      clear h1 h2 HSF HK
      go_wp2
      go_roundw
      case rel => exact ⟨(k : Int) - 1, k, _, rfl, by omega, by omega, hsz2, HLN, H1, H2⟩
      case measure => simp [intOf] <;> omega
end Go.Proofs.YtebbnmjmjoklmaaGreatDoor
