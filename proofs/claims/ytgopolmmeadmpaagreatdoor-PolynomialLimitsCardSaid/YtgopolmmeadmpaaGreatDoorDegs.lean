/-
  slices.Min and slices.Max over eight exponents; valid, degrees, highest, limited.
-/
import Derived.Test.YtgopolmmeadmpaaGreatDoorAddTerms
namespace Go.Proofs.YtgopolmmeadmpaaGreatDoor
open Go Go.RowKit Go.WideMaps
set_option maxRecDepth 20000

set_option maxHeartbeats 4000000 in
theorem sMin_x (x0 x1 x2 x3 x4 x5 x6 x7 : Int) (b : Nat) (w : World) (h0 : w.cell? ⟨b, 0, none⟩ = some (.int .i64 x0)) (h1 : w.cell? ⟨b, 1, none⟩ = some (.int .i64 x1)) (h2 : w.cell? ⟨b, 2, none⟩ = some (.int .i64 x2)) (h3 : w.cell? ⟨b, 3, none⟩ = some (.int .i64 x3)) (h4 : w.cell? ⟨b, 4, none⟩ = some (.int .i64 x4)) (h5 : w.cell? ⟨b, 5, none⟩ = some (.int .i64 x5)) (h6 : w.cell? ⟨b, 6, none⟩ = some (.int .i64 x6)) (h7 : w.cell? ⟨b, 7, none⟩ = some (.int .i64 x7)) :
    Calls Tryz.prog 45 #[.slice (some ⟨b, 0, none⟩) 8 8] w fun e w' => e = .returned (.int .i64 (min (min (min (min (min (min (min x0 x1) x2) x3) x4) x5) x6) x7)) ∧ w' = w := by
  go_enter Tryz.func45, Tryz.ntmps45
  go_wp2
  refine wp_loop_rounds 8 ?_
  rw [rounds_succ]
  go_wp2
  rw [rounds_succ]
  go_wp2
  rw [rounds_succ]
  go_wp2
  rw [rounds_succ]
  go_wp2
  rw [rounds_succ]
  go_wp2
  rw [rounds_succ]
  go_wp2
  rw [rounds_succ]
  go_wp2
  rw [rounds_succ]
  go_wp2
  exact bodyPost_ret (v := .int .i64 (min (min (min (min (min (min (min x0 x1) x2) x3) x4) x5) x6) x7)) (by simp [results, Tryz.results45, go_sem]) rfl ⟨rfl, rfl⟩

set_option maxHeartbeats 4000000 in
theorem sMax_x (x0 x1 x2 x3 x4 x5 x6 x7 : Int) (b : Nat) (w : World) (h0 : w.cell? ⟨b, 0, none⟩ = some (.int .i64 x0)) (h1 : w.cell? ⟨b, 1, none⟩ = some (.int .i64 x1)) (h2 : w.cell? ⟨b, 2, none⟩ = some (.int .i64 x2)) (h3 : w.cell? ⟨b, 3, none⟩ = some (.int .i64 x3)) (h4 : w.cell? ⟨b, 4, none⟩ = some (.int .i64 x4)) (h5 : w.cell? ⟨b, 5, none⟩ = some (.int .i64 x5)) (h6 : w.cell? ⟨b, 6, none⟩ = some (.int .i64 x6)) (h7 : w.cell? ⟨b, 7, none⟩ = some (.int .i64 x7)) :
    Calls Tryz.prog 46 #[.slice (some ⟨b, 0, none⟩) 8 8] w fun e w' => e = .returned (.int .i64 (max (max (max (max (max (max (max x0 x1) x2) x3) x4) x5) x6) x7)) ∧ w' = w := by
  go_enter Tryz.func46, Tryz.ntmps46
  go_wp2
  refine wp_loop_rounds 8 ?_
  rw [rounds_succ]
  go_wp2
  rw [rounds_succ]
  go_wp2
  rw [rounds_succ]
  go_wp2
  rw [rounds_succ]
  go_wp2
  rw [rounds_succ]
  go_wp2
  rw [rounds_succ]
  go_wp2
  rw [rounds_succ]
  go_wp2
  rw [rounds_succ]
  go_wp2
  exact bodyPost_ret (v := .int .i64 (max (max (max (max (max (max (max x0 x1) x2) x3) x4) x5) x6) x7)) (by simp [results, Tryz.results46, go_sem]) rfl ⟨rfl, rfl⟩

/-- All exponents are at most 1024. -/
def inLim (ds : List Tq) : Prop := ∀ x ∈ ds, ∀ e ∈ x.1.L, e ≤ 1024
instance (ds : List Tq) : Decidable (inLim ds) := by unfold inLim; infer_instance

set_option maxHeartbeats 8000000 in
theorem valid_x {w : World} {A : Option Addr} {n c k : Nat} {E : Int} {ds : List Tq} (hd : PolyRd w A n c ds k E) :
    Calls Tryz.prog 22 #[.slice A n c] w fun e w' => e = .returned (.bool (decide (inLim ds))) ∧ Below w.heap.size w w' := by
  have HD := Lib.hid hd
  have HLD := Lib.hid hd.len
  have hbn := hd.big
  obtain ⟨R, hR⟩ : ∃ R, decide (inLim ds) = R := ⟨_, rfl⟩
  rw [hR]
  have HR := Lib.hid hR
  clear hd hR
  go_enter Tryz.func22, Tryz.ntmps22
  go_wp2
  go_loopw [7] (fun iv wr => ∃ i : Nat, i ≤ n ∧ iv = .int .i64 i ∧ Below w.heap.size w wr ∧ Hid (inLim (ds.take i))) (fun iv _ => n - (intOf iv).toNat)
  case atStart => exact ⟨0, Nat.zero_le _, rfl, Below.refl _ _, fun x hx => by simp at hx⟩
  case round =>
    obtain ⟨i, hi, rfl, hB, HI⟩ := hrel
    by_cases hlt : i < n
    · have hi2 : (i : Int) < n := by omega
      have hi3 : (0 : Int) ≤ i := by omega
      obtain ⟨g, x, rfl, hgl, hx, hM, hlo, hxt, hrow, h8⟩ := (HD.out.below hB).get hlt
      obtain ⟨x0, x1, x2, x3, x4, x5, x6, x7, hL⟩ := eight hM.1
      obtain ⟨c0, c1, c2, c3, c4, c5, c6, c7, c8, c9, c10⟩ := row_cells hrow h8 (by rw [tms_length, HLD.out]) hxt hL
      obtain ⟨v, hv⟩ : ∃ v, wr.alloc (.cells #[.int .i64 x0, .int .i64 x1, .int .i64 x2, .int .i64 x3, .int .i64 x4, .int .i64 x5, .int .i64 x6, .int .i64 x7, .bool x.1.s, .slice x.1.A x.1.n x.1.c, .slice x.1.B x.1.m x.1.d] 43) = v := ⟨_, rfl⟩
      have hbv : Below wr.heap.size wr v := hv ▸ (Below.refl _ wr).alloc (Nat.le_refl _) _
      obtain ⟨d0, d1, d2, d3, d4, d5, d6, d7, _, _, _⟩ := TermBox.mk hv
      have HMIN := Lib.hid (sMin_x x0 x1 x2 x3 x4 x5 x6 x7 wr.heap.size v d0 d1 d2 d3 d4 d5 d6 d7)
      have HMAX := Lib.hid (sMax_x x0 x1 x2 x3 x4 x5 x6 x7 wr.heap.size v d0 d1 d2 d3 d4 d5 d6 d7)
      have hB5 : Below w.heap.size w v := nextB hB hbv
      have hx0 := hM.2
      rw [hL] at hx0
      simp only [List.mem_cons, List.not_mem_nil, or_false, forall_eq_or_imp, forall_eq] at hx0
      obtain ⟨mn, hmn⟩ : ∃ z, min (min (min (min (min (min (min x0 x1) x2) x3) x4) x5) x6) x7 = z := ⟨_, rfl⟩
      obtain ⟨mx, hmx⟩ : ∃ z, max (max (max (max (max (max (max x0 x1) x2) x3) x4) x5) x6) x7 = z := ⟨_, rfl⟩
      have hmn0 : ¬ mn < 0 := by omega
      rw [hmn] at HMIN
      rw [hmx] at HMAX
      have HX1 : Hid (1024 < mx ↔ ¬ ∀ e ∈ x.1.L, e ≤ 1024) := by
        show _ ↔ _
        rw [hL]
        simp only [List.mem_cons, List.not_mem_nil, or_false, forall_eq_or_imp, forall_eq]
        omega
      have HV := Lib.hid hv
      have HX := Lib.hid hx
      clear hx hv hrow h8 hxt hlo hL hM hx0 hmn hmx d0 d1 d2 d3 d4 d5 d6 d7
      by_cases hbig : 1024 < mx
      · have hf : R = false := by
          rw [← HR.out, decide_eq_false_iff_not]
          intro h
          exact HX1.out.1 hbig (h x (List.mem_of_getElem? HX.out))
        subst hf
        go_wp2_with fail
        rw [HV.out]
        refine HMIN.out.mono ?_
        rintro e w' ⟨rfl, rfl⟩
        clear c0 c1 c2 c3 c4 c5 c6 c7 c8 c9 c10
        go_wp2_with fail
        refine HMAX.out.mono ?_
        rintro e w' ⟨rfl, rfl⟩
        go_wp2
        go_ret
        exact ⟨rfl, hB5⟩
      · have HN : Hid (inLim (ds.take (i + 1))) := fun y hy => by
          rw [List.take_add_one, HX.out] at hy
          rcases List.mem_append.1 hy with hy | hy
          · exact HI.out y hy
          · simp only [Option.toList_some, List.mem_singleton] at hy
            subst hy
            exact Classical.byContradiction fun h => hbig (HX1.out.2 h)
        go_wp2_with fail
        rw [HV.out]
        refine HMIN.out.mono ?_
        rintro e w' ⟨rfl, rfl⟩
        clear c0 c1 c2 c3 c4 c5 c6 c7 c8 c9 c10
        go_wp2_with fail
        refine HMAX.out.mono ?_
        rintro e w' ⟨rfl, rfl⟩
        clear HI
        go_wp2
        go_roundw
        case rel => exact ⟨i + 1, by omega, by go_num, hB5, HN⟩
        case measure => simp [intOf] <;> omega
    · obtain rfl : i = n := by omega
      have hf : R = true := by
        rw [← HR.out, decide_eq_true_eq]
        have := HI.out
        rwa [List.take_of_length_le (by rw [← HLD.out]; exact Nat.le_refl _)] at this
      subst hf
      clear HI
      go_wp2
      go_ret
      exact ⟨rfl, hB⟩
end Go.Proofs.YtgopolmmeadmpaaGreatDoor
