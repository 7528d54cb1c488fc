/-
  exactpplref01.Pow, and the reference's Add and Mul by the numbers alone.
-/
import Derived.Test.YthnmjaaelhcbpaaDoorRefInt
import Derived.Test.YthnmjaaelhcbpaaDoorRefDiv1
import Derived.Test.YthnmjaaelhcbpaaDoorPow
namespace Go.Proofs.YthnmjaaelhcbpaaDoor
open Go.RowKit
set_option maxRecDepth 20000

theorem refAdd_n {w : World} {A B : Option Addr} {n c m d : Nat} {x y : Int} (hx : Num w A n c x) (hy : Num w B m d y) (hn : n ≤ 900000) (hm : m ≤ 900000) : Calls Tryd.prog 24 #[.slice A n c, .slice B m d] w (GivesN w (x + y)) := by
  obtain ⟨L, h1, rfl⟩ := hx
  obtain ⟨M, h2, rfl⟩ := hy
  exact (refAdd_any A B n c m d L M w h1 h2 hn hm).mono fun _ _ h => h.n
theorem refMul_n {w : World} {A B : Option Addr} {n c m d : Nat} {x y : Int} (hx : Num w A n c x) (hy : Num w B m d y) (hn : n ≤ 400000) (hm : m ≤ 400000) : Calls Tryd.prog 22 #[.slice A n c, .slice B m d] w (GivesN w (x * y)) := by
  obtain ⟨L, h1, rfl⟩ := hx
  obtain ⟨M, h2, rfl⟩ := hy
  exact (refMul_any A B n c m d L M w h1 h2 hn hm).mono fun _ _ h => h.n
theorem refCmp_n {w : World} {A B : Option Addr} {n c m d : Nat} {x y : Int} (hx : Num w A n c x) (hy : Num w B m d y) (hn : n ≤ 1000000) (hm : m ≤ 1000000) : Calls Tryd.prog 58 #[.slice A n c, .slice B m d] w (CmpPost w x y) := by
  obtain ⟨L, h1, rfl⟩ := hx
  obtain ⟨M, h2, rfl⟩ := hy
  exact refCmp_any A B n c m d L M w h1 h2 hn hm

set_option maxHeartbeats 1000000 in
theorem refPow_n (A : Option Addr) (n c : Nat) (x : Int) (k : Nat) (w : World) (hx : Num w A n c x) (hn : n ≤ 100) (hk : k ≤ 64) :
    Calls Tryd.prog 19 #[.slice A n c, .int .i64 (k : Int)] w (GivesNOk w (x ^ k)) := by
  have x0 := hx.nonneg
  have hxl := hx.lt
  have hone := Nrm.of_mine (Mine.lit w (Nat.le_refl _) #[.int .u32 1] [1] (Lims.cons (by decide) (by decide) Lims.nil) rfl (by unfold maxLen; simp)) (is_one (by decide) (by decide))
  go_enter Tryd.func19, Tryd.ntmps19
  go_wp2
  go_loopw [6, 7] (fun pv bv wr => ∃ (j : Nat) (P : Option Addr) (p pc : Nat), j ≤ k ∧ bv = .int .i64 (j : Int) ∧ pv = .slice P p pc ∧ Nrm wr P p pc (x ^ j) ∧ Below w.heap.size w wr) (fun _ bv _ => k - (intOf bv).toNat)
  case atStart => exact ⟨0, _, _, _, Nat.zero_le _, rfl, rfl, by rw [Int.pow_zero]; exact hone, (Below.refl _ _).alloc (Nat.le_refl _) _⟩
  case round =>
    obtain ⟨j, P, p, pc, hj, rfl, rfl, hP, hb⟩ := hrel
    have hp := pow_len hP x0 hxl hn (Nat.le_trans hj hk)
    clear hone
    by_cases h0 : j < k
    · have HM := Lib.hid (refMul_n hP.num (hx.below hb) (by omega) (by omega))
      go_wp2_with fail
      refine HM.out.mono ?_
      rintro e w1 ⟨P1, p1, pc1, rfl, hP1, hb1⟩
      have hP2 : Nrm w1 P1 p1 pc1 (x ^ (j + 1)) := by rw [Int.pow_succ]; exact hP1
      clear hP1
      go_wp2
      go_roundw
      case rel => exact ⟨j + 1, _, _, _, by omega, by go_num, rfl, hP2, nextB hb hb1⟩
      case measure => simp [intOf] <;> omega
    · obtain rfl : j = k := by omega
      go_wp2
      go_ret2
      exact ⟨_, _, _, rfl, hP, hb⟩

end Go.Proofs.YthnmjaaelhcbpaaDoor
