/-
  exactpplref01.Cmp and short: the order of two numbers, and division by one limb.
-/
import Derived.Test.YtdimajnadmkhiaaDoorRefTrim
namespace Go.Proofs.YtdimajnadmkhiaaDoor
open Go.RowKit

def CmpPost (w : World) (x y : Int) (e : Ending) (w' : World) : Prop := e = .returned (.int .i64 (cmpZ x y)) ∧ Below w.heap.size w w'

set_option maxHeartbeats 1000000 in
theorem refCmp_any (A B : Option Addr) (n c m d : Nat) (L M : List Int) (w : World) (hr : Rd w A n c L) (hs : Rd w B m d M) (hn : n ≤ 1000000) (hm : m ≤ 1000000) :
    Calls Tryd.prog 35 #[.slice A n c, .slice B m d] w (CmpPost w (val L) (val M)) := by
  go_enter Tryd.func35, Tryd.ntmps35
  go_wp2_with fail
  refine (refTrim_any A n c L w hr hn).mono ?_
  rintro e w1 ⟨A', n', c', L', rfl, hA1, hI, hB1⟩
  have HI0 := Lib.hid hI
  clear hI
  go_wp2_with fail
  refine (refTrim_any B m d M w1 (hs.below hB1) hm).mono ?_
  rintro e w2 ⟨B', m', d', M', rfl, hA2, hJ, hB2⟩
  have hr' := (hA1.below hB2).rd
  have hs' := hA2.rd
  have hB := Lib.hid (nextB hB1 hB2)
  have hI := HI0.out
  clear HI0 hA1 hA2 hB1 hB2 hr hs
  generalize val L = x at *
  generalize val M = y at *
  have l1 := hr'.len
  have l2 := hs'.len
  have t1 := hr'.top
  have t2 := hs'.top
  have c1 := hr'.cap
  have c2 := hs'.cap
  unfold maxLen at t1 t2
  by_cases h1 : n' < m'
  · have hlt := hI.lt_of_length hJ (by omega)
    have HE := Lib.hid (cmpZ_lt hlt)
    clear hlt l1 l2 hI hJ
    go_wp2
    go_ret
    exact ⟨by rw [HE.out]; rfl, hB.out⟩
  by_cases h2 : m' < n'
  · have hlt := hJ.lt_of_length hI (by omega)
    have HE := Lib.hid (cmpZ_gt hlt)
    clear hlt l1 l2 hI hJ
    go_wp2
    go_ret
    exact ⟨by rw [HE.out]; rfl, hB.out⟩
  obtain rfl : n' = m' := by omega
  have L1 := Lib.hid l1
  have L2 := Lib.hid l2
  have HI := Lib.hid hI
  have HJ := Lib.hid hJ
  clear l1 l2 hI hJ h1 h2
  go_wp2
  go_loopw [5] (fun i wr => ∃ k q : Nat, k ≤ n' ∧ i = .int .i64 ((k : Int) - 1) ∧ Hid (val (L'.drop k) = val (M'.drop k)) ∧ wr = w2.drewN q) (fun i _ => (intOf i + 1).toNat)
  case atStart => exact ⟨n', 0, Nat.le_refl _, rfl, by show val _ = val _; rw [List.drop_eq_nil_of_le (by have := L1.out; omega), List.drop_eq_nil_of_le (by have := L2.out; omega)], rfl⟩
  case round =>
    obtain ⟨k, q, hk, rfl, hD, rfl⟩ := hrel
    by_cases h0 : k = 0
    · subst h0
      go_wp2
      go_ret
      refine ⟨ret_int ?_, drewN_below hB.out _⟩
      rw [cmpZ_eq]
      have := hD.out
      rw [List.drop_zero, List.drop_zero, HI.out.eq, HJ.out.eq] at this
      exact this
    · obtain ⟨j, rfl⟩ : ∃ j, k = j + 1 := ⟨k - 1, by omega⟩
      obtain ⟨ad, rfl, hb, hc⟩ := hr'.at_ (by omega)
      obtain ⟨ad', rfl, hb', hc'⟩ := hs'.at_ (by omega)
      have h1 := hc j (by omega)
      have h2 := hc' j (by omega)
      have X1 := Lib.hid (drop_val L' j (by have := L1.out; omega))
      clear hc hc'
      obtain ⟨x1, e1⟩ : ∃ x1, L'.getD j 0 = x1 := ⟨_, rfl⟩
      obtain ⟨x2, e2⟩ : ∃ x2, M'.getD j 0 = x2 := ⟨_, rfl⟩
      have E1 := Lib.hid e1
      have E2 := Lib.hid e2
      rw [e1] at h1
      rw [e2] at h2
      clear e1 e2
      rcases Int.lt_trichotomy x1 x2 with hlt | heq | hgt
      · have HE : Hid (cmpZ x y = -1) := by
          refine cmpZ_lt ?_
          rw [← HI.out.eq, ← HJ.out.eq]
          exact val_lt_at HI.out.lims HJ.out.lims j (by have := L1.out; omega) (by have := L2.out; omega) hD.out (by rw [E1.out, E2.out]; exact hlt)
        go_wp2_with fail
        go_quiet (fail)
        go_wp2
        go_ret
        exact ⟨by rw [HE.out]; rfl, drewN_below (drewN_below hB.out _) _⟩
      · subst heq
        have hD' : Hid (val (L'.drop j) = val (M'.drop j)) := by
          show _ = _
          rw [List.drop_eq_getElem_cons (l := L') (i := j) (by have := L1.out; omega), List.drop_eq_getElem_cons (l := M') (i := j) (by have := L2.out; omega), val_cons, val_cons, hD.out, ← getD_of_lt, ← getD_of_lt, E1.out, E2.out]
        go_wp2_with fail
        go_quiet (fail)
        go_wp2_with fail
        go_quiet (fail)
        go_wp2
        go_roundw
        case rel => exact ⟨j, _, by omega, by go_num, hD', rfl⟩
        case measure => simp [intOf] <;> omega
      · have HE : Hid (cmpZ x y = 1) := by
          refine cmpZ_gt ?_
          rw [← HI.out.eq, ← HJ.out.eq]
          exact val_lt_at HJ.out.lims HI.out.lims j (by have := L2.out; omega) (by have := L1.out; omega) hD.out.symm (by rw [E1.out, E2.out]; exact hgt)
        go_wp2_with fail
        go_quiet (fail)
        go_wp2_with fail
        go_quiet (fail)
        go_wp2
        go_ret
        exact ⟨by rw [HE.out]; rfl, drewN_below (drewN_below (drewN_below hB.out _) _) _⟩

end Go.Proofs.YtdimajnadmkhiaaDoor
