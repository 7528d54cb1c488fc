/-
  The reference's Value and Eval.
-/
import Derived.Test.YtlhncmnhpnhfhaaFxO
import Derived.Maps.AppendAt
import Derived.Test.YtlhncmnhpnhfhaaFxG
namespace Go.Proofs.Ytlhncmnhpnhfhaa
open Go Go.RowKit Go.Shelf
set_option maxRecDepth 20000
namespace Fx

theorem fine_len {n : Nat} {f : Fm} (h : Fine n f) : f.args.length ≤ 3 := by
  have h0 := h.eq.1
  unfold arity at h0
  repeat' split at h0
  all_goals omega
theorem wrap_add {x y : Int} (hx : -1073741824 ≤ x ∧ x ≤ 1073741824) (hy : -1073741824 ≤ y ∧ y ≤ 1073741824) : wrap64 (x * y) = x * y := by
  have h1 := Int.mul_le_mul_of_natAbs_le (x := x) (y := -y) (s := 1073741824) (t := 1073741824) (by omega) (by omega)
  have h2 := Int.mul_le_mul_of_natAbs_le (x := x) (y := y) (s := 1073741824) (t := 1073741824) (by omega) (by omega)
  rw [Int.mul_neg] at h1
  generalize x * y = m at h1 h2
  simp only [wrap64]
  omega

set_option maxHeartbeats 8000000 in
theorem value_ref {nv c : Nat} {s : Nat → Int} {A : Option Addr} {S : Nat → Prop} (_hnv : nv ≤ 9223372036854775807) : ∀ (f : Fm), Fine nv f → ∀ (v : Array Value) (w : World), FV S w f v → St w nv s A →
    Calls Try.prog 26 #[.agg v, .slice A nv c] w fun e w' => e = .returned (.int .i64 (ev s f)) ∧ Below w.heap.size w w' := by
  obtain ⟨i0, hin, hz0, hz1, hz2⟩ := info_parts infoInt'
  refine Fm.ind' fun f ih => ?_
  intro hf v w hw hs
  obtain ⟨h0, h1, h2, h3⟩ := hf.eq
  have hl3 := fine_len hf
  obtain ⟨va, vb, vc, B, d, rfl, hr⟩ := hw
  obtain ⟨v, hv⟩ : ∃ v, w.alloc (.cells #[.int .i64 f.op, .int .i64 f.num, va, vb, vc, .slice B f.args.length d] 27) = v := ⟨_, rfl⟩
  obtain ⟨hvs, hwv, hbx⟩ := box6 w _ _ _ _ _ _ _ v hv
  have HBX := Lib.hid hbx
  have HVV := Lib.hid hv
  have HWV := Lib.hid hwv
  have H := Lib.hid hr
  have HI := Lib.hid ih
  have H3 := Lib.hid h3
  have HS := Lib.hid hs
  have HE := Lib.hid (ev_eq s f)
  have H0 := Lib.hid h0
  have H2 := Lib.hid h2
  clear hr hv hwv hbx ih h3 hs h0 h2 hf
  go_enter Try.func26, Try.ntmps26
  go_wp2
  rw [HVV.out]
  go_loopw [5, 6] (fun p q wr => ∃ i : Nat, q = .int .i64 i ∧ i ≤ f.args.length ∧ Hid (wr.ownsRow v.heap.size 3 1 p i (((f.args.take i).map (ev s)).map (.int .i64)) ∧ Below v.heap.size v wr))
    (fun _ q _ => f.args.length - (intOf q).toNat)
  case atStart => exact ⟨0, rfl, Nat.zero_le _, World.ownsRow_nil _ _ _ _, Below.refl _ _⟩
  case round =>
    obtain ⟨i, rfl, hi, HAB⟩ := hrel
    have hrow := HAB.out.1
    have HB := Lib.hid HAB.out.2
    clear HAB
    obtain ⟨p0, p1, p2, p3, p4, p5⟩ := HBX.out wr HB.out
    by_cases hlt : i < f.args.length
    · have hlt' : (i : Int) < (f.args.length : Int) := by omega
      obtain ⟨b, g, o, x2, x3, x4, A', c', hb, rfl, hg, k0, k1, k2, k3, k4, k5, hr⟩ := kid (rd_nb H.out (nextB HWV.out HB.out)) hlt
      have hmem := List.mem_of_getElem? hb
      have HF := Lib.hid (HI.out b hmem (H3.out b hmem) _ wr ⟨x2, x3, x4, A', c', rfl, hr⟩ (HS.out.below (nextB HWV.out HB.out)))
      have HT := Lib.hid (show (f.args.take (i + 1)).map (ev s) = (f.args.take i).map (ev s) ++ [ev s b] by rw [List.take_add_one, hb]; simp)
      clear hb hr hmem
      go_wp2_with fail
      refine HF.out.mono ?_
      rintro e1 w1 ⟨rfl, hbw⟩
      have HB2 := Lib.hid (HB.out.trans (hbw.mono HB.out.size))
      have hrow2 := own_below hrow hbw
      have hs2 := HB2.out.size
      clear HF hbw HB k0 k1 k2 k3 k4 k5 p0 p1 p2 p3 p4 p5 hrow
      generalize ev s b = z at HT
      go_wp2_with (at_builtin; refine wpList_append_own _ rfl _ _ 28 rfl v.heap.size 3 i0 (.int .i64 0) 1 8 Try.underlying28 hin hz0 hz1 hz2 rfl (by decide) _ _ _ rfl (hrow2.alloc _) ⟨w1.heap.size, 0, none⟩ 1 1 [.int .i64 z] rfl rfl (cell_one_new _ _ _) (by simp [Value.oneCell']) (by unfold maxLen; omega) (by omega) (by simp; omega) ?_; intro v' w2 hown' hgrow _; obtain ⟨g', cap', rfl⟩ := ownsRow_succ hown')
      have hbel : Below v.heap.size w1 w2 := ((Below.refl _ w1).alloc hs2 _).grown hgrow (by simp; omega) fun k e => (hrow2.lt k e).1
      have HB3 := Lib.hid (HB2.out.trans hbel)
      clear hbel hgrow HB2
      go_roundw
      case rel =>
        refine ⟨i + 1, by simp, by omega, ?_, HB3.out⟩
        rw [HT.out]
        simpa using hown'
      case measure => simp [intOf] <;> omega
    · obtain rfl : i = f.args.length := by omega
      rw [List.take_length] at hrow
      have HL := Lib.hid (show (f.args.map (ev s)).length = f.args.length by simp)
      have HG := Lib.hid (fun (z : Int) (h : z ∈ f.args.map (ev s)) => (show -1073741824 ≤ z ∧ z ≤ 1073741824 by obtain ⟨a, _, rfl⟩ := List.mem_map.1 h; exact ev_range s a))
      obtain ⟨zs, hzs⟩ : ∃ zs, f.args.map (ev s) = zs := ⟨_, rfl⟩
      rw [hzs] at hrow HL HG HE
      have HBF := Lib.hid (nextB HWV.out HB.out)
      have hT : ∀ (b : Bool) (m : Nat), Calls Try.prog 39 #[.bool b] (wr.drewN m) fun e w2 => e = .returned (.int .i64 (truth b)) ∧ ∃ j, w2 = wr.drewN j := fun b m => (truth_ref b _).mono fun _ _ ⟨h1, h2⟩ => ⟨h1, m, h2⟩
      have hU : ∀ (n : Int) (m : Nat), Calls Try.prog 38 #[.int .i64 n] (wr.drewN m) fun e w2 => e = .returned (.int .i64 (limited n)) ∧ ∃ j, w2 = wr.drewN j := fun n m => (bounded_ref n _).mono fun _ _ ⟨h1, h2⟩ => ⟨h1, m, h2⟩
      have HT := Lib.hid hT
      have HU := Lib.hid hU
      clear hT hU hlt hi hzs
      have hop := H0.out
      by_cases e : f.op = 1
      · have EO := Lib.hid e
        rw [e] at p0
        clear e hop hrow
        go_wp2_with (first
          | (refine (bounded_ref _ _).mono ?_; rintro e w' ⟨rfl, rfl⟩)
          | (refine (truth_ref _ _).mono ?_; rintro e w' ⟨rfl, rfl⟩))
        go_ret
        refine ⟨ret_int ?_, HBF.out⟩
        rw [HE.out, EO.out]
        rfl
      by_cases e' : f.op = 3
      · have EO := Lib.hid e'
        rw [e'] at p0
        obtain ⟨k0, k1⟩ := H2.out e'
        obtain ⟨j, hj⟩ := Int.eq_ofNat_of_zero_le k0
        rw [hj] at k1 p1
        have hjn : j < nv := by omega
        obtain ⟨ad, rfl, hc⟩ := (HS.out.below HBF.out) j hjn
        have HJ := Lib.hid hj
        clear e e' hop hrow k0 hj
        go_wp2_with (first
          | (refine (bounded_ref _ _).mono ?_; rintro e w' ⟨rfl, rfl⟩)
          | (refine (truth_ref _ _).mono ?_; rintro e w' ⟨rfl, rfl⟩))
        go_ret
        refine ⟨ret_int ?_, HBF.out⟩
        rw [HE.out, EO.out, HJ.out]
        rfl
      by_cases e4 : f.op = 4
      · have hl : f.args.length = 1 := by rw [e4] at hop; simp [arity] at hop; omega
        obtain ⟨x, rfl⟩ : ∃ x, zs = [x] := by
          have h := HL.out
          rw [hl] at h
          match zs, h with
          | [x], _ => exact ⟨x, rfl⟩
        have EO := Lib.hid e4
        rw [e4] at p0
        rw [hl] at hrow
        have hp := ownsRow_succ hrow
        simp only [Nat.reduceAdd] at hp
        obtain ⟨bb, cc, rfl⟩ := hp
        have q0 : wr.cell? ⟨bb, 0, none⟩ = some (.int .i64 x) := (hrow.cellAt 0 (by omega)).trans rfl
        have rx := HG.out x (by simp)
        have HLL := Lib.hid hl
        clear hop hrow hl e4
        go_wp2_with (first
          | (refine (bounded_ref _ _).mono ?_; rintro e w' ⟨rfl, rfl⟩)
          | (refine (truth_ref _ _).mono ?_; rintro e w' ⟨rfl, rfl⟩))
        go_ret
        refine ⟨ret_int ?_, HBF.out⟩
        rw [HE.out, EO.out]
        rfl
      by_cases e5 : f.op = 5
      · have hl : f.args.length = 2 := by rw [e5] at hop; simp [arity] at hop; omega
        obtain ⟨x, y, rfl⟩ : ∃ x y, zs = [x, y] := by
          have h := HL.out
          rw [hl] at h
          match zs, h with
          | [x, y], _ => exact ⟨x, y, rfl⟩
        have EO := Lib.hid e5
        rw [e5] at p0
        rw [hl] at hrow
        have hp := ownsRow_succ hrow
        simp only [Nat.reduceAdd] at hp
        obtain ⟨bb, cc, rfl⟩ := hp
        have q0 : wr.cell? ⟨bb, 0, none⟩ = some (.int .i64 x) := (hrow.cellAt 0 (by omega)).trans rfl
        have rx := HG.out x (by simp)
        have q1 : wr.cell? ⟨bb, 1, none⟩ = some (.int .i64 y) := (hrow.cellAt 1 (by omega)).trans rfl
        have ry := HG.out y (by simp)
        have HLL := Lib.hid hl
        clear hop hrow hl e5
        by_cases hx : x = 0
        · subst hx
          go_wp2_with (first
          | (refine (bounded_ref _ _).mono ?_; rintro e w' ⟨rfl, rfl⟩)
          | (refine (truth_ref _ _).mono ?_; rintro e w' ⟨rfl, rfl⟩))
          go_ret
          refine ⟨ret_int ?_, HBF.out⟩
          rw [HE.out, EO.out]
          rfl
        · have bx : (x != 0) = true := by simpa using hx
          go_wp2_with (first
          | (refine (bounded_ref _ _).mono ?_; rintro e w' ⟨rfl, rfl⟩)
          | (refine (truth_ref _ _).mono ?_; rintro e w' ⟨rfl, rfl⟩))
          go_ret
          refine ⟨ret_int ?_, HBF.out⟩
          rw [HE.out, EO.out]
          show _ = truth ((x != 0) && (y != 0))
          rw [bx]
          rfl
      by_cases e6 : f.op = 6
      · have hl : f.args.length = 2 := by rw [e6] at hop; simp [arity] at hop; omega
        obtain ⟨x, y, rfl⟩ : ∃ x y, zs = [x, y] := by
          have h := HL.out
          rw [hl] at h
          match zs, h with
          | [x, y], _ => exact ⟨x, y, rfl⟩
        have EO := Lib.hid e6
        rw [e6] at p0
        rw [hl] at hrow
        have hp := ownsRow_succ hrow
        simp only [Nat.reduceAdd] at hp
        obtain ⟨bb, cc, rfl⟩ := hp
        have q0 : wr.cell? ⟨bb, 0, none⟩ = some (.int .i64 x) := (hrow.cellAt 0 (by omega)).trans rfl
        have rx := HG.out x (by simp)
        have q1 : wr.cell? ⟨bb, 1, none⟩ = some (.int .i64 y) := (hrow.cellAt 1 (by omega)).trans rfl
        have ry := HG.out y (by simp)
        have HLL := Lib.hid hl
        clear hop hrow hl e6
        by_cases hx : x = 0
        · subst hx
          go_wp2_with (first
          | (refine (bounded_ref _ _).mono ?_; rintro e w' ⟨rfl, rfl⟩)
          | (refine (truth_ref _ _).mono ?_; rintro e w' ⟨rfl, rfl⟩))
          go_ret
          refine ⟨ret_int ?_, HBF.out⟩
          rw [HE.out, EO.out]
          rfl
        · have bx : (x != 0) = true := by simpa using hx
          go_wp2_with (first
          | (refine (bounded_ref _ _).mono ?_; rintro e w' ⟨rfl, rfl⟩)
          | (refine (truth_ref _ _).mono ?_; rintro e w' ⟨rfl, rfl⟩))
          go_ret
          refine ⟨ret_int ?_, HBF.out⟩
          rw [HE.out, EO.out]
          show _ = truth ((x != 0) || (y != 0))
          rw [bx]
          rfl
      by_cases e7 : f.op = 7
      · have hl : f.args.length = 2 := by rw [e7] at hop; simp [arity] at hop; omega
        obtain ⟨x, y, rfl⟩ : ∃ x y, zs = [x, y] := by
          have h := HL.out
          rw [hl] at h
          match zs, h with
          | [x, y], _ => exact ⟨x, y, rfl⟩
        have EO := Lib.hid e7
        rw [e7] at p0
        rw [hl] at hrow
        have hp := ownsRow_succ hrow
        simp only [Nat.reduceAdd] at hp
        obtain ⟨bb, cc, rfl⟩ := hp
        have q0 : wr.cell? ⟨bb, 0, none⟩ = some (.int .i64 x) := (hrow.cellAt 0 (by omega)).trans rfl
        have rx := HG.out x (by simp)
        have q1 : wr.cell? ⟨bb, 1, none⟩ = some (.int .i64 y) := (hrow.cellAt 1 (by omega)).trans rfl
        have ry := HG.out y (by simp)
        have HLL := Lib.hid hl
        clear hop hrow hl e7
        go_wp2_with fail
        go_quiet (first | (with_reducible exact HT.out _ _) | (with_reducible exact HU.out _ _))
        go_wp2
        go_ret
        refine ⟨ret_int ?_, drewN_below HBF.out _⟩
        rw [HE.out, EO.out]
        rfl
      by_cases e8 : f.op = 8
      · have hl : f.args.length = 2 := by rw [e8] at hop; simp [arity] at hop; omega
        obtain ⟨x, y, rfl⟩ : ∃ x y, zs = [x, y] := by
          have h := HL.out
          rw [hl] at h
          match zs, h with
          | [x, y], _ => exact ⟨x, y, rfl⟩
        have EO := Lib.hid e8
        rw [e8] at p0
        rw [hl] at hrow
        have hp := ownsRow_succ hrow
        simp only [Nat.reduceAdd] at hp
        obtain ⟨bb, cc, rfl⟩ := hp
        have q0 : wr.cell? ⟨bb, 0, none⟩ = some (.int .i64 x) := (hrow.cellAt 0 (by omega)).trans rfl
        have rx := HG.out x (by simp)
        have q1 : wr.cell? ⟨bb, 1, none⟩ = some (.int .i64 y) := (hrow.cellAt 1 (by omega)).trans rfl
        have ry := HG.out y (by simp)
        have HLL := Lib.hid hl
        clear hop hrow hl e8
        go_wp2_with fail
        go_quiet (first | (with_reducible exact HT.out _ _) | (with_reducible exact HU.out _ _))
        go_wp2
        go_ret
        refine ⟨ret_int ?_, drewN_below HBF.out _⟩
        rw [HE.out, EO.out]
        rfl
      by_cases e9 : f.op = 9
      · have hl : f.args.length = 2 := by rw [e9] at hop; simp [arity] at hop; omega
        obtain ⟨x, y, rfl⟩ : ∃ x y, zs = [x, y] := by
          have h := HL.out
          rw [hl] at h
          match zs, h with
          | [x, y], _ => exact ⟨x, y, rfl⟩
        have EO := Lib.hid e9
        rw [e9] at p0
        rw [hl] at hrow
        have hp := ownsRow_succ hrow
        simp only [Nat.reduceAdd] at hp
        obtain ⟨bb, cc, rfl⟩ := hp
        have q0 : wr.cell? ⟨bb, 0, none⟩ = some (.int .i64 x) := (hrow.cellAt 0 (by omega)).trans rfl
        have rx := HG.out x (by simp)
        have q1 : wr.cell? ⟨bb, 1, none⟩ = some (.int .i64 y) := (hrow.cellAt 1 (by omega)).trans rfl
        have ry := HG.out y (by simp)
        have HLL := Lib.hid hl
        clear hop hrow hl e9
        go_wp2_with fail
        go_quiet (first | (with_reducible exact HT.out _ _) | (with_reducible exact HU.out _ _))
        go_wp2
        go_ret
        refine ⟨ret_int ?_, drewN_below HBF.out _⟩
        rw [HE.out, EO.out]
        rfl
      by_cases e10 : f.op = 10
      · have hl : f.args.length = 2 := by rw [e10] at hop; simp [arity] at hop; omega
        obtain ⟨x, y, rfl⟩ : ∃ x y, zs = [x, y] := by
          have h := HL.out
          rw [hl] at h
          match zs, h with
          | [x, y], _ => exact ⟨x, y, rfl⟩
        have EO := Lib.hid e10
        rw [e10] at p0
        rw [hl] at hrow
        have hp := ownsRow_succ hrow
        simp only [Nat.reduceAdd] at hp
        obtain ⟨bb, cc, rfl⟩ := hp
        have q0 : wr.cell? ⟨bb, 0, none⟩ = some (.int .i64 x) := (hrow.cellAt 0 (by omega)).trans rfl
        have rx := HG.out x (by simp)
        have q1 : wr.cell? ⟨bb, 1, none⟩ = some (.int .i64 y) := (hrow.cellAt 1 (by omega)).trans rfl
        have ry := HG.out y (by simp)
        have HLL := Lib.hid hl
        clear hop hrow hl e10
        go_wp2_with fail
        go_quiet (first | (with_reducible exact HT.out _ _) | (with_reducible exact HU.out _ _))
        go_wp2
        go_ret
        refine ⟨ret_int ?_, drewN_below HBF.out _⟩
        rw [HE.out, EO.out]
        rfl
      by_cases e11 : f.op = 11
      · have hl : f.args.length = 2 := by rw [e11] at hop; simp [arity] at hop; omega
        obtain ⟨x, y, rfl⟩ : ∃ x y, zs = [x, y] := by
          have h := HL.out
          rw [hl] at h
          match zs, h with
          | [x, y], _ => exact ⟨x, y, rfl⟩
        have EO := Lib.hid e11
        rw [e11] at p0
        rw [hl] at hrow
        have hp := ownsRow_succ hrow
        simp only [Nat.reduceAdd] at hp
        obtain ⟨bb, cc, rfl⟩ := hp
        have q0 : wr.cell? ⟨bb, 0, none⟩ = some (.int .i64 x) := (hrow.cellAt 0 (by omega)).trans rfl
        have rx := HG.out x (by simp)
        have q1 : wr.cell? ⟨bb, 1, none⟩ = some (.int .i64 y) := (hrow.cellAt 1 (by omega)).trans rfl
        have ry := HG.out y (by simp)
        have HLL := Lib.hid hl
        clear hop hrow hl e11
        go_wp2_with fail
        go_quiet (first | (with_reducible exact HT.out _ _) | (with_reducible exact HU.out _ _))
        go_wp2
        go_ret
        refine ⟨ret_int ?_, drewN_below HBF.out _⟩
        rw [HE.out, EO.out]
        rfl
      by_cases e12 : f.op = 12
      · have hl : f.args.length = 2 := by rw [e12] at hop; simp [arity] at hop; omega
        obtain ⟨x, y, rfl⟩ : ∃ x y, zs = [x, y] := by
          have h := HL.out
          rw [hl] at h
          match zs, h with
          | [x, y], _ => exact ⟨x, y, rfl⟩
        have EO := Lib.hid e12
        rw [e12] at p0
        rw [hl] at hrow
        have hp := ownsRow_succ hrow
        simp only [Nat.reduceAdd] at hp
        obtain ⟨bb, cc, rfl⟩ := hp
        have q0 : wr.cell? ⟨bb, 0, none⟩ = some (.int .i64 x) := (hrow.cellAt 0 (by omega)).trans rfl
        have rx := HG.out x (by simp)
        have q1 : wr.cell? ⟨bb, 1, none⟩ = some (.int .i64 y) := (hrow.cellAt 1 (by omega)).trans rfl
        have ry := HG.out y (by simp)
        have HLL := Lib.hid hl
        clear hop hrow hl e12
        go_wp2_with fail
        go_quiet (first | (with_reducible exact HT.out _ _) | (with_reducible exact HU.out _ _))
        go_wp2
        go_ret
        refine ⟨ret_int ?_, drewN_below HBF.out _⟩
        rw [HE.out, EO.out]
        show limited (wrap64 (x * y)) = limited (x * y)
        rw [wrap_add rx ry]
      by_cases e13 : f.op = 13
      · have hl : f.args.length = 3 := by rw [e13] at hop; simp [arity] at hop; omega
        obtain ⟨x, y, z, rfl⟩ : ∃ x y z, zs = [x, y, z] := by
          have h := HL.out
          rw [hl] at h
          match zs, h with
          | [x, y, z], _ => exact ⟨x, y, z, rfl⟩
        have EO := Lib.hid e13
        rw [e13] at p0
        rw [hl] at hrow
        have hp := ownsRow_succ hrow
        simp only [Nat.reduceAdd] at hp
        obtain ⟨bb, cc, rfl⟩ := hp
        have q0 : wr.cell? ⟨bb, 0, none⟩ = some (.int .i64 x) := (hrow.cellAt 0 (by omega)).trans rfl
        have rx := HG.out x (by simp)
        have q1 : wr.cell? ⟨bb, 1, none⟩ = some (.int .i64 y) := (hrow.cellAt 1 (by omega)).trans rfl
        have ry := HG.out y (by simp)
        have q2 : wr.cell? ⟨bb, 2, none⟩ = some (.int .i64 z) := (hrow.cellAt 2 (by omega)).trans rfl
        have rz := HG.out z (by simp)
        have HLL := Lib.hid hl
        clear hop hrow hl e13
        by_cases hx : x = 0
        · subst hx
          go_wp2
          go_ret
          refine ⟨ret_int ?_, HBF.out⟩
          rw [HE.out, EO.out]
          rfl
        · go_wp2
          go_ret
          refine ⟨ret_int ?_, HBF.out⟩
          rw [HE.out, EO.out]
          show _ = if x ≠ 0 then y else z
          rw [if_pos hx]
      exfalso
      unfold arity at hop
      repeat' split at hop
      all_goals omega
end Fx
end Go.Proofs.Ytlhncmnhpnhfhaa
