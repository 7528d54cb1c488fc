/-
  The statements' own check that the program is awake: it returns true, whatever the memory.
-/
import Derived.Test.YtdimajnadmkhiaaDoorFmt
import Derived.Test.YtdimajnadmkhiaaDoorDiv2
namespace Go.Proofs.YtdimajnadmkhiaaDoor
open Go.RowKit

/-- true comes back; what was there before is as it was. -/
def True1 (w : World) (e : Ending) (w' : World) : Prop := e = .returned (.bool true) ∧ Below w.heap.size w w'

theorem dig_big : (revDig 4294967296).reverse.toArray = #[52, 50, 57, 52, 57, 54, 55, 50, 57, 54] := by
  rw [revDig_big (by decide), revDig_big (by decide), revDig_big (by decide), revDig_big (by decide), revDig_big (by decide), revDig_big (by decide), revDig_big (by decide), revDig_big (by decide), revDig_big (by decide), revDig_small (by decide)]
  decide
theorem dig_three : (revDig 3).reverse.toArray = #[51] := by rw [revDig_small (by decide)]; decide
theorem dig_two : (revDig 2).reverse.toArray = #[50] := by rw [revDig_small (by decide)]; decide

theorem lit1 (w : World) (x : Int) (x0 : 0 ≤ x) (x1 : x < 4294967296) : Rd (w.alloc (.cells #[.int .u32 x] 42)) (some ⟨w.heap.size, 0, none⟩) 1 1 [x] :=
  (Mine.lit w (Nat.le_refl _) #[.int .u32 x] [x] (Lims.cons x0 x1 Lims.nil) rfl (by unfold maxLen; simp)).rd
theorem lit2 (w : World) (x y : Int) (x0 : 0 ≤ x) (x1 : x < 4294967296) (y0 : 0 ≤ y) (y1 : y < 4294967296) : Rd (w.alloc (.cells #[.int .u32 x, .int .u32 y] 42)) (some ⟨w.heap.size, 0, none⟩) 2 2 [x, y] :=
  (Mine.lit w (Nat.le_refl _) #[.int .u32 x, .int .u32 y] [x, y] (Lims.cons x0 x1 (Lims.cons y0 y1 Lims.nil)) rfl (by unfold maxLen; simp)).rd

set_option maxHeartbeats 1000000 in
theorem awake_any (w : World) : Calls Tryd.prog 7 #[] w (True1 w) := by
  have r1 := lit1 w 17 (by decide) (by decide)
  have r2 := lit1 (w.alloc (.cells #[.int .u32 17] 42)) 5 (by decide) (by decide)
  have r1' := r1.alloc (.cells #[.int .u32 5] 42)
  have hd := divMod_one _ _ _ _ _ _ _ _ _ r1' r2 (by decide) (by decide) (by decide)
  have e1 : val [17] / val [5] = 3 := by decide
  have e2 : val [17] % val [5] = 2 := by decide
  rw [e1, e2] at hd
  simp only [World.size_alloc] at hd
  have HD := Lib.hid hd
  clear hd e1 e2 r1 r1' r2
  go_enter Tryd.func7, Tryd.ntmps7
  go_wp2_with fail
  refine HD.out.mono ?_
  rintro e w1 ⟨A, n, c, Q, B, m, d, R, rfl, hQ, iQ, hR, iR, hB⟩
  have hB1 : Below w.heap.size w w1 := (((Below.refl _ w).alloc (Nat.le_refl _) _).alloc (by simp) _).trans (hB.mono (by simp; omega))
  have hs1 := hB1.size
  have f1 := lit2 w1 0 1 (by decide) (by decide) (by decide) (by decide)
  have F1 := format_any _ _ _ _ _ 4294967296 f1 (by decide) (by decide)
  rw [dig_big] at F1
  have HF1 := Lib.hid F1
  have IQ := Lib.hid iQ
  have IR := Lib.hid iR
  clear F1 f1 iQ iR HD hB
  go_wp2_with fail
  refine HF1.out.mono ?_
  rintro e w2 ⟨rfl, hB2⟩
  have hB2' : Below w1.heap.size w1 w2 := ((Below.refl _ w1).alloc (Nat.le_refl _) _).trans (hB2.mono (by simp))
  obtain rfl : Q = [3] := IQ.out.unique (is_one (by decide) (by decide))
  obtain rfl : R = [2] := IR.out.unique (is_one (by decide) (by decide))
  have lQ := hQ.len
  have lR := hR.len
  simp only [List.length_cons, List.length_nil, Nat.zero_add] at lQ lR
  subst lQ
  subst lR
  have hQ2 := hQ.below hB2'
  have hR2 := hR.below hB2'
  clear hQ hR IQ IR HF1 hB2
  have F2 := format_any _ _ _ _ _ 3 hQ2.rd (by decide) (by decide)
  rw [dig_three] at F2
  go_wp2_with fail
  refine F2.mono ?_
  rintro e w3 ⟨rfl, hB3⟩
  have F3 := format_any _ _ _ _ _ 2 (hR2.below hB3).rd (by decide) (by decide)
  rw [dig_two] at F3
  clear F2 hQ2 hR2
  go_wp2_with fail
  refine F3.mono ?_
  rintro e w4 ⟨rfl, hB4⟩
  clear F3
  go_wp2
  go_ret
  exact ⟨rfl, ((hB1.trans (hB2'.mono hs1)).trans (hB3.mono (Nat.le_trans hs1 hB2'.size))).trans (hB4.mono (Nat.le_trans (Nat.le_trans hs1 hB2'.size) hB3.size))⟩

end Go.Proofs.YtdimajnadmkhiaaDoor
