/-
  natural.Cmp: for every two lists of limbs it returns -1, 0 or 1, as their numbers compare; no memory is changed.
-/
import Derived.Test.YtdimajnadmkhiaaDoorBase
namespace Go.Proofs.YtdimajnadmkhiaaDoor
open Go.RowKit

def SameNum (w : World) (a b : Int) (e : Ending) (w' : World) : Prop := e = .returned (.int .i64 (cmpZ a b)) ∧ ∃ k, w' = w.drewN k

theorem drewN2 (w : World) (a b : Nat) : ∃ k, (w.drewN a).drewN b = w.drewN k := ⟨a + b, World.drewN_drewN ..⟩
theorem drewN3 (w : World) (a b c : Nat) : ∃ k, ((w.drewN a).drewN b).drewN c = w.drewN k := ⟨a + (b + c), by rw [World.drewN_drewN, World.drewN_drewN]⟩

set_option maxHeartbeats 400000 in
theorem cmp_any (A B : Option Addr) (n c m d : Nat) (L M : List Int) (w : World) (hr : Rd w A n c L) (hs : Rd w B m d M) :
    Calls Tryd.prog 34 #[.slice A n c, .slice B m d] w (SameNum w (val L) (val M)) := by
  go_enter Tryd.func34, Tryd.ntmps34
  go_wp2_with fail
  refine (strip_any A n c L w hr).mono ?_
  rintro e w' ⟨A', n', c', rfl, hS, rfl⟩
  have hr' := hS.rd hr
  clear hS
  go_wp2_with fail
  refine (strip_any B m d M w hs).mono ?_
  rintro e w' ⟨B', m', d', rfl, hS, rfl⟩
  have hs' := hS.rd hs
  clear hS
  have hI := Is.mk_trim hr.lims
  have hJ := Is.mk_trim hs.lims
  clear hr hs
  generalize val L = x at *
  generalize val M = y at *
  generalize trim L = L' at *
  generalize trim M = M' at *
  have l1 := hr'.len
  have l2 := hs'.len
  have t1 := hr'.top
  have t2 := hs'.top
  have c1 := hr'.cap
  have c2 := hs'.cap
  unfold maxLen at t1 t2
  by_cases h1 : n' < m'
  · have hlt := hI.lt_of_length hJ (by omega)
    have HE := Lib.hid (cmpZ_lt hlt)
    clear hlt l1 l2 hI hJ
    go_wp2
    go_ret
    exact ⟨by rw [HE.out]; rfl, 0, rfl⟩
  by_cases h2 : m' < n'
  · have hlt := hJ.lt_of_length hI (by omega)
    have HE := Lib.hid (cmpZ_gt hlt)
    clear hlt l1 l2 hI hJ
    go_wp2
    go_ret
    exact ⟨by rw [HE.out]; rfl, 0, rfl⟩
  obtain rfl : n' = m' := by omega
  have L1 := Lib.hid l1
  have L2 := Lib.hid l2
  have HI := Lib.hid hI
  have HJ := Lib.hid hJ
  clear l1 l2 hI hJ h1 h2
  go_wp2
  go_loopw [5] (fun i wr => ∃ k q : Nat, k ≤ n' ∧ i = .int .i64 ((k : Int) - 1) ∧ Hid (val (L'.drop k) = val (M'.drop k)) ∧ wr = w.drewN q) (fun i _ => (intOf i + 1).toNat)
  case atStart => exact ⟨n', 0, Nat.le_refl _, rfl, by show val _ = val _; rw [List.drop_eq_nil_of_le (by have := L1.out; omega), List.drop_eq_nil_of_le (by have := L2.out; omega)], rfl⟩
  case round =>
    obtain ⟨k, q, hk, rfl, hD, rfl⟩ := hrel
    by_cases h0 : k = 0
    · subst h0
      go_wp2
      go_ret
      refine ⟨ret_int ?_, q, rfl⟩
      rw [cmpZ_eq]
      have := hD.out
      rw [List.drop_zero, List.drop_zero, HI.out.eq, HJ.out.eq] at this
      exact this
    · obtain ⟨j, rfl⟩ : ∃ j, k = j + 1 := ⟨k - 1, by omega⟩
      obtain ⟨ad, rfl, hb, hc⟩ := hr'.at_ (by omega)
      obtain ⟨ad', rfl, hb', hc'⟩ := hs'.at_ (by omega)
      have h1 := hc j (by omega)
      have h2 := hc' j (by omega)
      have X1 := Lib.hid (drop_val L' j (by have := L1.out; omega))
      clear hc hc'
      obtain ⟨x1, e1⟩ : ∃ x1, L'.getD j 0 = x1 := ⟨_, rfl⟩
      obtain ⟨x2, e2⟩ : ∃ x2, M'.getD j 0 = x2 := ⟨_, rfl⟩
      have E1 := Lib.hid e1
      have E2 := Lib.hid e2
      rw [e1] at h1
      rw [e2] at h2
      clear e1 e2
      rcases Int.lt_trichotomy x1 x2 with hlt | heq | hgt
      · have HE : Hid (cmpZ x y = -1) := by
          refine cmpZ_lt ?_
          rw [← HI.out.eq, ← HJ.out.eq]
          exact val_lt_at HI.out.lims HJ.out.lims j (by have := L1.out; omega) (by have := L2.out; omega) hD.out (by rw [E1.out, E2.out]; exact hlt)
        go_wp2_with fail
        go_quiet (fail)
        go_wp2
        go_ret
        exact ⟨by rw [HE.out]; rfl, drewN2 ..⟩
      · subst heq
        have hD' : Hid (val (L'.drop j) = val (M'.drop j)) := by
          show _ = _
          rw [List.drop_eq_getElem_cons (l := L') (i := j) (by have := L1.out; omega), List.drop_eq_getElem_cons (l := M') (i := j) (by have := L2.out; omega), val_cons, val_cons, hD.out, ← getD_of_lt, ← getD_of_lt, E1.out, E2.out]
        go_wp2_with fail
        go_quiet (fail)
        go_wp2_with fail
        go_quiet (fail)
        go_wp2
        go_roundw
        case rel => exact ⟨j, _, by omega, by go_num, hD', rfl⟩
        case measure => simp [intOf] <;> omega
      · have HE : Hid (cmpZ x y = 1) := by
          refine cmpZ_gt ?_
          rw [← HI.out.eq, ← HJ.out.eq]
          exact val_lt_at HJ.out.lims HI.out.lims j (by have := L2.out; omega) (by have := L1.out; omega) hD.out.symm (by rw [E1.out, E2.out]; exact hgt)
        go_wp2_with fail
        go_quiet (fail)
        go_wp2_with fail
        go_quiet (fail)
        go_wp2
        go_ret
        exact ⟨by rw [HE.out]; rfl, drewN3 ..⟩

end Go.Proofs.YtdimajnadmkhiaaDoor
