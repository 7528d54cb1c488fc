/-
  rational.Make, New, Div.
-/
import Derived.Test.YtekalaihfmfkkaaGreatDoorRatC
namespace Go.Proofs.YtekalaihfmfkkaaGreatDoor
open Go.RowKit
set_option maxRecDepth 20000

/-- A normal form and no error. -/
def GivesROk (w : World) (q : Rat) (k : Nat) (e : Ending) (w' : World) : Prop :=
  ∃ s A n c B m d, e = .returned (.tuple #[.agg #[.bool s, .slice A n c, .slice B m d], .int .i64 0]) ∧ RN w' s A n c B m d q k ∧ Off w.heap.size A ∧ Off w.heap.size B ∧ Below w.heap.size w w'
/-- The empty fraction and ErrDivide. -/
def DivErr (w : World) (e : Ending) (w' : World) : Prop := e = .returned (.tuple #[.agg #[.bool false, .slice none 0 0, .slice none 0 0], .int .i64 3]) ∧ Below w.heap.size w w'

set_option maxHeartbeats 1000000 in
theorem make_r {w : World} {s : Bool} {A B : Option Addr} {n c m d k : Nat} {q : Rat} (hl : Laid w) (h : Frac w s A n c B m d q k) (hk8 : k ≤ 800000) :
    Calls Tryz.prog 19 #[.bool s, .slice A n c, .slice B m d] w (GivesROk w q k) := by
  obtain ⟨v1, hv1⟩ : ∃ v1, w.alloc (.cells #[.bool false, .slice none 0 0, .slice none 0 0] 24) = v1 := ⟨_, rfl⟩
  obtain ⟨g, hg, hsz, hb1, hZ, hF⟩ := boxes0 w _ _ _ _ v1 hv1
  have HG := Lib.hid hg
  have HSZ := Lib.hid hsz
  have HZ := Lib.hid hZ
  have HF := Lib.hid hF
  have HV := Lib.hid hv1
  clear hZ hF hv1 hsz hg
  have hl1 := hl.below hb1
  have h1 := h.below hb1
  have hz : ∃ y, Num v1 B m d y ∧ decide (y = 0) = false := by
    obtain ⟨x, y, hx, hy, y0, _⟩ := h1
    exact ⟨y, hy, decide_eq_false (by omega)⟩
  obtain ⟨y, hy, hy0⟩ := hz
  have HI := isZero_b hy
  rw [hy0] at HI
  have HI' := Lib.hid HI
  clear HI hy hy0 h
  go_enter Tryz.func19, Tryz.ntmps19
  go_wp2_with fail
  rw [HV.out, ← HG.out]
  refine HI'.out.mono ?_
  rintro e w5 ⟨rfl, b5⟩
  have HN := Lib.hid (normal_any (hl1.below b5) (h1.below b5) hk8)
  clear HI'
  go_wp2_with fail
  refine HN.out.mono ?_
  rintro e w' ⟨t9, A9, n9, c9, B9, m9, d9, rfl, r9, oA9, oB9, b9⟩
  have hz9 := b5.size
  have hk := nextB b5 b9
  obtain ⟨o0, o1, o2⟩ := HZ.out _ hk
  obtain ⟨f0, f1, f2⟩ := HF.out _ hk
  go_wp2
  exact bodyPost_ret (v := .tuple #[.agg #[.bool t9, .slice A9 n9 c9, .slice B9 m9 d9], .int .i64 0]) (by simp [results, Tryz.results19, go_sem, o0, o1, o2]) rfl ⟨_, _, _, _, _, _, _, rfl,
    store_end r9 oA9 oB9 (by have := HSZ.out; omega) (by rw [HG.out]; omega) (nextB hb1 hk) _ _ _⟩

theorem make_zero {w : World} {s : Bool} {A B : Option Addr} {n c m d : Nat} (h : Num w B m d 0) :
    Calls Tryz.prog 19 #[.bool s, .slice A n c, .slice B m d] w (DivErr w) := by
  have hb1 := (Below.refl w.heap.size w).alloc (Nat.le_refl _) (.cells #[.bool false, .slice none 0 0, .slice none 0 0] 24)
  have HI := Lib.hid (isZero_any (h.below hb1))
  clear h
  go_enter Tryz.func19, Tryz.ntmps19
  go_wp2_with fail
  refine HI.out.mono ?_
  rintro e w5 ⟨rfl, kk, rfl⟩
  have hb2 := drewN_below hb1 kk
  go_wp2
  refine bodyPost_ret (v := .tuple #[.agg #[.bool false, .slice none 0 0, .slice none 0 0], .int .i64 3]) (by simp [results, Tryz.results19, go_sem]) rfl ⟨rfl, ?_⟩
  exact ((hb2.setCell (p := ⟨w.heap.size, 0, none⟩) (by simp) _).setCell (p := ⟨w.heap.size, 1, none⟩) (by simp) _).setCell (p := ⟨w.heap.size, 2, none⟩) (by simp) _

theorem rat_ints (n d : Int) : rat (decide (n < 0) != decide (d < 0)) (n.natAbs : Int) (d.natAbs : Int) = Rat.divInt n d := by
  unfold rat
  by_cases h1 : n < 0 <;> by_cases h2 : d < 0
  · have e1 : (n.natAbs : Int) = -n := by omega
    have e2 : (d.natAbs : Int) = -d := by omega
    simp only [h1, h2, e1, e2, sg, bne_self_eq_false]
    simp [Rat.neg_divInt_neg]
  · have e1 : (n.natAbs : Int) = -n := by omega
    have e2 : (d.natAbs : Int) = d := by omega
    simp [h1, h2, e1, e2, sg]
  · have e1 : (n.natAbs : Int) = n := by omega
    have e2 : (d.natAbs : Int) = -d := by omega
    simp [h1, h2, e1, e2, sg, Rat.neg_divInt_neg]
  · have e1 : (n.natAbs : Int) = n := by omega
    have e2 : (d.natAbs : Int) = d := by omega
    simp [h1, h2, e1, e2, sg]

set_option maxHeartbeats 1000000 in
theorem new_r {w : World} {n d : Int} (hl : Laid w) (n0 : -9223372036854775808 ≤ n) (n1 : n ≤ 9223372036854775807) (d0 : -9223372036854775808 ≤ d) (d1 : d ≤ 9223372036854775807) (hd : d ≠ 0) :
    Calls Tryz.prog 15 #[.int .i64 n, .int .i64 d] w (GivesROk w (Rat.divInt n d) 2) := by
  obtain ⟨v1, hv1⟩ : ∃ v1, w.alloc (.cells #[.bool false, .slice none 0 0, .slice none 0 0] 24) = v1 := ⟨_, rfl⟩
  obtain ⟨g, hg, hsz, hb1, hZ, hF⟩ := boxes0 w _ _ _ _ v1 hv1
  have HG := Lib.hid hg
  have HSZ := Lib.hid hsz
  have HZ := Lib.hid hZ
  have HF := Lib.hid hF
  have HV := Lib.hid hv1
  have HRI := Lib.hid (rat_ints n d)
  have HD0 : Hid (0 < (d.natAbs : Int)) := by show _ < _; omega
  clear hZ hF hv1 hsz hg
  have hl1 := hl.below hb1
  go_enter Tryz.func15, Tryz.ntmps15
  go_wp2_with fail
  rw [HV.out, ← HG.out]
  refine (magnitude_any n v1 n0 n1).mono ?_
  rintro e w5 ⟨A5, rfl, h5, o5, b5⟩
  go_wp2_with fail
  refine (magnitude_any d w5 d0 d1).mono ?_
  rintro e w6 ⟨A6, rfl, h6, o6, b6⟩
  have hk := nextB b5 b6
  have hf : Frac w6 (decide (n < 0) != decide (d < 0)) A5 2 2 A6 2 2 (Rat.divInt n d) 2 := ⟨_, _, h5.below b6, h6, HD0.out, HRI.out, by omega, by omega⟩
  have HN := Lib.hid (make_r (hl1.below hk) hf (by omega))
  clear hf h5 h6
  go_wp2_with fail
  refine HN.out.mono ?_
  rintro e w' ⟨t9, A9, n9, c9, B9, m9, d9, rfl, r9, oA9, oB9, b9⟩
  have hz9 := hk.size
  replace hk := nextB hk b9
  obtain ⟨o0, o1, o2⟩ := HZ.out _ hk
  obtain ⟨f0, f1, f2⟩ := HF.out _ hk
  go_wp2
  exact bodyPost_ret (v := .tuple #[.agg #[.bool t9, .slice A9 n9 c9, .slice B9 m9 d9], .int .i64 0]) (by simp [results, Tryz.results15, go_sem, o0, o1, o2]) rfl ⟨_, _, _, _, _, _, _, rfl,
    store_end r9 oA9 oB9 (by have := HSZ.out; omega) (by rw [HG.out]; omega) (nextB hb1 hk) _ _ _⟩

end Go.Proofs.YtekalaihfmfkkaaGreatDoor
