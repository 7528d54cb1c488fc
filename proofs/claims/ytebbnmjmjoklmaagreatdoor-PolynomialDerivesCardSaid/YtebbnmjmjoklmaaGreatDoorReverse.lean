/-
  slices.reverseRangeCmpFunc over a row of terms; two terms of a row changing places.
-/
import Derived.Test.YtebbnmjmjoklmaaGreatDoorOrder2
namespace Go.Proofs.YtebbnmjmjoklmaaGreatDoor
open Go Go.RowKit Go.WideMaps Go.Sort
set_option maxRecDepth 20000

theorem swap_row {W : World} {base g n cap i j : Nat} {d : Array Q8} (h : W.ownsRow base 47 11 (.slice (some ⟨g, 0, none⟩) n cap) n (rowOf (tms (cs8 d)))) (hd : d.size = n) (hi : i < n) (hj : j < n) :
    ((W.setCells g (i * 11) d[j]!.1.1.cells).setCells g (j * 11) d[i]!.1.1.cells).ownsRow base 47 11 (.slice (some ⟨g, 0, none⟩) n cap) n (rowOf (tms (cs8 (swp d i j)))) ∧ Keeps g g g W ((W.setCells g (i * 11) d[j]!.1.1.cells).setCells g (j * 11) d[i]!.1.1.cells) := by
  obtain ⟨q1, k1⟩ := ownsRow_sets (vs := d[j]!.1.1.cells) (o := i * 11) h
  rw [rowOf_put (tms8 d) d[j]!.2 (by rw [tms8_length]; omega)] at q1
  obtain ⟨q2, k2⟩ := ownsRow_sets (vs := d[i]!.1.1.cells) (o := j * 11) q1
  rw [rowOf_put (fun u hu => by
    rcases List.mem_or_eq_of_mem_set hu with hu | rfl
    · exact tms8 d u hu
    · exact d[j]!.2) d[i]!.2 (by rw [List.length_set, tms8_length]; omega), ← tms_swp] at q2
  exact ⟨q2, k1.trans k2⟩

set_option maxHeartbeats 8000000 in
theorem reverse_x {w : World} {base g cap a b : Nat} {d : Array Q8} (hrow : w.ownsRow base 47 11 (.slice (some ⟨g, 0, none⟩) d.size cap) d.size (rowOf (tms (cs8 d)))) (hn : d.size < 1000000) (hab : a < b) (hb : b ≤ d.size) :
    Calls Tryz.prog 115 #[.slice (some ⟨g, 0, none⟩) d.size cap, .int .i64 a, .int .i64 b, .func (.func 65) #[.int .i64 (-1)] #[]] w fun e w' => e = .returned (.tuple #[]) ∧ w'.ownsRow base 47 11 (.slice (some ⟨g, 0, none⟩) d.size cap) d.size (rowOf (tms (cs8 (reverseRange d a b)))) ∧ Keeps g g g w w' := by
  obtain ⟨n, hlen⟩ : ∃ n, d.size = n := ⟨_, rfl⟩
  obtain ⟨R, hR⟩ : ∃ R, reverseRange d a b = R := ⟨_, rfl⟩
  rw [hR]
  rw [hlen] at hrow hn hb ⊢
  obtain ⟨b', rfl⟩ : ∃ b', b = b' + 1 := ⟨b - 1, by omega⟩
  have HR : Hid (reverseLoop a b' d = R) := by show _ = _; rw [← hR]; rfl
  have HLEN := Lib.hid hlen
  have HROW := Lib.hid hrow
  have eb : ((b' + 1 : Nat) : Int) = (b' : Int) + 1 := rfl
  rw [eb]
  have hb1 : (b' : Int) + 1 < 1000000 := by omega
  have hb0 : (0 : Int) ≤ b' := by omega
  clear hR hrow hlen eb
  have hmix : Tryz.prog.follows .mixedOrders = true := by kernel_rfl
  go_enter Tryz.func115, Tryz.ntmps115
  go_wp2
  go_loopw [8, 9] (fun iv jv wq => ∃ (i j : Nat) (di : Array Q8), iv = .int .i64 i ∧ jv = .int .i64 j ∧ i ≤ n ∧ j < n ∧ di.size = n ∧ Hid (reverseLoop i j di = R) ∧ Hid (wq.ownsRow base 47 11 (.slice (some ⟨g, 0, none⟩) n cap) n (rowOf (tms (cs8 di)))) ∧ Hid (Keeps g g g w wq)) (fun _ jv _ => (intOf jv).toNat)
  case atStart => exact ⟨a, b', d, rfl, by go_num, by omega, by omega, HLEN.out, HR, HROW, Keeps.refl ..⟩
  case round =>
    obtain ⟨i, j, di, rfl, rfl, hi, hj, hdi, HL, HW, HK⟩ := hrel
    by_cases hlt : i < j
    · have hi2 : (i : Int) < j := by omega
      have hi3 : (i : Int) < n := by omega
      have hj3 : (j : Int) < n := by omega
      have hi0 : (0 : Int) ≤ i := by omega
      have hj0 : (0 : Int) ≤ j := by omega
      have hsj : (tms (cs8 di))[i]? = some di[i]!.1.1 := tms8_get (by omega)
      have hsp : (tms (cs8 di))[j]? = some di[j]!.1.1 := tms8_get (by omega)
      obtain ⟨q2, k2⟩ := swap_row (i := i) (j := j) HW.out hdi (by omega) (by omega)
      have HLN : Hid (reverseLoop (i + 1) (j - 1) (swp di i j) = R) := by
        show _ = _
        rw [← HL.out]
        conv => rhs; unfold reverseLoop
        rw [if_pos hlt]
      obtain ⟨xj, hxj⟩ : ∃ x, di[i]! = x := ⟨_, rfl⟩
      obtain ⟨xp, hxp⟩ : ∃ x, di[j]! = x := ⟨_, rfl⟩
      rw [hxj] at hsj q2 k2
      rw [hxp] at hsp q2 k2
      obtain ⟨x0, x1, x2, x3, x4, x5, x6, x7, hX⟩ := eight xj.2
      obtain ⟨y0, y1, y2, y3, y4, y5, y6, y7, hY⟩ := eight xp.2
      obtain ⟨c0, c1, c2, c3, c4, c5, c6, c7, c8, c9, c10⟩ := row_cells HW.out (tms8 di) (by rw [tms8_length, hdi]) hsj hX
      obtain ⟨d0, d1, d2, d3, d4, d5, d6, d7, d8, d9, d10⟩ := row_cells HW.out (tms8 di) (by rw [tms8_length, hdi]) hsp hY
      have exj : xj.1.1.cells = [.int .i64 x0, .int .i64 x1, .int .i64 x2, .int .i64 x3, .int .i64 x4, .int .i64 x5, .int .i64 x6, .int .i64 x7, .bool xj.1.1.s, .slice xj.1.1.A xj.1.1.n xj.1.1.c, .slice xj.1.1.B xj.1.1.m xj.1.1.d] := by unfold Tm.cells; rw [hX]; rfl
      have exp : xp.1.1.cells = [.int .i64 y0, .int .i64 y1, .int .i64 y2, .int .i64 y3, .int .i64 y4, .int .i64 y5, .int .i64 y6, .int .i64 y7, .bool xp.1.1.s, .slice xp.1.1.A xp.1.1.n xp.1.1.c, .slice xp.1.1.B xp.1.1.m xp.1.1.d] := by unfold Tm.cells; rw [hY]; rfl
      rw [exj, exp] at q2 k2
      simp only [World.setCells, Nat.add_assoc, Nat.reduceAdd] at q2 k2
      have HQ := Lib.hid q2
      have HKN := Lib.hid (HK.out.trans k2)
      have z0 := HW.out.frozenAt (i * 11)
      have u0 := HW.out.frozenAt (j * 11)
      have z1 := HW.out.frozenAt (i * 11 + 1)
      have u1 := HW.out.frozenAt (j * 11 + 1)
      have z2 := HW.out.frozenAt (i * 11 + 2)
      have u2 := HW.out.frozenAt (j * 11 + 2)
      have z3 := HW.out.frozenAt (i * 11 + 3)
      have u3 := HW.out.frozenAt (j * 11 + 3)
      have z4 := HW.out.frozenAt (i * 11 + 4)
      have u4 := HW.out.frozenAt (j * 11 + 4)
      have z5 := HW.out.frozenAt (i * 11 + 5)
      have u5 := HW.out.frozenAt (j * 11 + 5)
      have z6 := HW.out.frozenAt (i * 11 + 6)
      have u6 := HW.out.frozenAt (j * 11 + 6)
      have z7 := HW.out.frozenAt (i * 11 + 7)
      have u7 := HW.out.frozenAt (j * 11 + 7)
      have z8 := HW.out.frozenAt (i * 11 + 8)
      have u8 := HW.out.frozenAt (j * 11 + 8)
      have z9 := HW.out.frozenAt (i * 11 + 9)
      have u9 := HW.out.frozenAt (j * 11 + 9)
      have z10 := HW.out.frozenAt (i * 11 + 10)
      have u10 := HW.out.frozenAt (j * 11 + 10)
      have hsz : (swp di i j).size = n := by rw [size_swp, hdi]
      clear q2 k2 exj exp hX hY hsj hsp hxj hxp
      go_wp2_with fail
      go_region
      clear c0 d0 z0 u0 c1 d1 z1 u1 c2 d2 z2 u2 c3 d3 z3 u3 c4 d4 z4 u4 c5 d5 z5 u5 c6 d6 z6 u6 c7 d7 z7 u7 c8 d8 z8 u8 c9 d9 z9 u9 c10 d10 z10 u10
      clear HL HW HK HROW HR
      go_wp2
      go_roundw
      case rel => exact ⟨i + 1, j - 1, swp di i j, by go_num, by go_num, by omega, by omega, hsz, HLN, World.ownsRow.drew HQ.out, Keeps.drewn HKN.out⟩
      case measure => simp [intOf] <;> omega
    · have hRR : di = R := by rw [← HL.out]; unfold reverseLoop; rw [if_neg hlt]
      subst hRR
      have hi2 : ¬ (i : Int) < j := by omega
      go_wp2
      go_end0
      exact ⟨rfl, HW.out, HK.out⟩
end Go.Proofs.YtebbnmjmjoklmaaGreatDoor
