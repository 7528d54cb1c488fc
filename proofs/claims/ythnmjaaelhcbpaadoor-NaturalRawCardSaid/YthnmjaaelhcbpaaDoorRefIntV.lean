/-
  exactpplref01.Int: a number as an int, or ErrRange.
-/
import Derived.Test.YthnmjaaelhcbpaaDoorRefSub
namespace Go.Proofs.YthnmjaaelhcbpaaDoor
open Go.RowKit
set_option maxRecDepth 20000

theorem or_join_i (x y : Int) (x0 : 0 ≤ x) (x1 : x < 2147483648) (y0 : 0 ≤ y) (y1 : y < 4294967296) : bits .or .i64 (x * 4294967296) y = x * 4294967296 + y := by
  have h1 : ∀ x : Nat, x < 9223372036854775808 → (BitVec.ofInt 64 (x : Int)).toNat = x := by
    intro x hx
    rw [BitVec.ofInt_natCast, BitVec.toNat_ofNat]
    exact Nat.mod_eq_of_lt (by omega)
  obtain ⟨n, hn⟩ := Int.eq_ofNat_of_zero_le (show 0 ≤ x * 4294967296 by omega)
  obtain ⟨m, rfl⟩ := Int.eq_ofNat_of_zero_le y0
  rw [hn]
  have h2 : n ||| m = n + m := nat_join 32 _ _ (by omega) (by omega)
  show IntKind.i64.wrap ((BitVec.ofInt 64 (n : Int) ||| BitVec.ofInt 64 (m : Int)).toNat : Int) = _
  rw [BitVec.toNat_or, h1 n (by omega), h1 m (by omega), h2, IntKind.wrap_i64]
  omega

set_option maxHeartbeats 1000000 in
theorem refInt_any (A : Option Addr) (n c : Nat) (L : List Int) (w : World) (hr : Rd w A n c L) (hn : n ≤ 1000000) (hv : val L ≤ 9223372036854775807) :
    Calls Tryd.prog 55 #[.slice A n c] w fun e w' => e = .returned (.tuple #[.int .i64 (val L), .int .i64 0]) ∧ Below w.heap.size w w' := by
  go_enter Tryd.func55, Tryd.ntmps55
  go_wp2_with fail
  refine (refTrim_any A n c L w hr hn).mono ?_
  rintro e w1 ⟨A1, n1, c1, L1, rfl, hM, hI, hB⟩
  have hrd := hM.rd
  have hl := hM.len
  have hcap := hrd.cap
  have hn2 : n1 ≤ 2 := by
    rcases Nat.lt_or_ge 2 n1 with h | h
    · exfalso
      obtain ⟨j, hj⟩ : ∃ j, L1.length = j + 1 := ⟨L1.length - 1, by omega⟩
      have h2 := hI.ge hj
      have h3 := pw_mono (m := 2) (n := j) (by omega)
      have h4 : pw 2 = 18446744073709551616 := by decide
      omega
    · exact h
  obtain ⟨l, hl1⟩ : ∃ l, L1.getD 1 0 = l := ⟨_, rfl⟩
  have htop : l < 2147483648 := by
    have h1 := val_take_getD L1 0
    have h2 := val_take_getD L1 1
    rw [List.take_of_length_le (by omega), hI.eq, hl1] at h2
    have h3 := val_nonneg (hM.lims.take 1)
    have h4 : pw 1 = 4294967296 := by decide
    have h5 : 0 + 1 = 1 := rfl
    rw [h4] at h2
    omega
  have HI := Lib.hid hI
  have HL := Lib.hid hl
  have HL1 := Lib.hid hl1
  have hlims := hM.lims
  clear hI hl
  by_cases h2 : n1 = 2
  · subst h2
    obtain ⟨g, rfl, hg, hg'⟩ := hM.form (by omega)
    have cT := hM.cellAt (i := 1) (by omega)
    rw [hl1] at cT
    clear hl1
    have HMh := Lib.hid hM
    clear hM
    go_wp2
    go_loopw [4, 5] (fun nv iv wr => ∃ k : Nat, k ≤ 2 ∧ iv = .int .i64 ((k : Int) - 1) ∧ nv = .int .i64 (val (L1.drop k)) ∧ wr = w1) (fun _ iv _ => (intOf iv + 1).toNat)
    case atStart => exact ⟨2, Nat.le_refl _, rfl, by rw [List.drop_eq_nil_of_le (by have := HL.out; omega)]; rfl, rfl⟩
    case round =>
      obtain ⟨k, hk, rfl, rfl, rfl⟩ := hrel
      by_cases h0 : k = 0
      · subst h0
        go_wp2
        go_ret2
        exact ⟨by rw [HI.out.eq.symm]; rfl, hB⟩
      · obtain ⟨j, rfl⟩ : ∃ j, k = j + 1 := ⟨k - 1, by omega⟩
        have cL := HMh.out.cellAt (i := j) (by omega)
        have uL := hlims.getD j
        have hsm : 0 ≤ val (L1.drop (j + 1)) ∧ val (L1.drop (j + 1)) < 2147483648 := by
          have h5 := val_nonneg (hlims.drop (j + 1))
          refine ⟨h5, ?_⟩
          rcases Nat.lt_or_ge (j + 1) L1.length with h6 | h6
          · have h7 : j = 0 := by have := HL.out; omega
            subst h7
            rw [List.drop_eq_getElem_cons h6, val_cons, ← getD_of_lt, HL1.out, List.drop_eq_nil_of_le (by have := HL.out; omega)]
            simp [val]; omega
          · rw [List.drop_eq_nil_of_le h6]; decide
        have hst : Hid (val (L1.drop (j + 1)) * 4294967296 + L1.getD j 0 = val (L1.drop j)) := by
          show _ = _
          rw [List.drop_eq_getElem_cons (l := L1) (i := j) (by have := HL.out; omega), val_cons, ← getD_of_lt]; omega
        generalize L1.getD j 0 = y at *
        have J := or_join_i (val (L1.drop (j + 1))) y hsm.1 hsm.2 uL.1 uL.2
        generalize val (L1.drop (j + 1)) = t at *
        go_wp2
        go_roundw
        case rel => exact ⟨j, by omega, by go_num, congrArg _ hst.out, by first | rfl | trivial⟩
        case measure => simp [intOf] <;> omega
  · have h3 : ¬ (n1 : Int) = 2 := by omega
    clear hM hl1
    go_wp2
    go_loopw [4, 5] (fun nv iv wr => ∃ k : Nat, k ≤ n1 ∧ iv = .int .i64 ((k : Int) - 1) ∧ nv = .int .i64 (val (L1.drop k)) ∧ wr = w1) (fun _ iv _ => (intOf iv + 1).toNat)
    case atStart => exact ⟨n1, Nat.le_refl _, rfl, by rw [List.drop_eq_nil_of_le (by have := HL.out; omega)]; rfl, rfl⟩
    case round =>
      obtain ⟨k, hk, rfl, rfl, rfl⟩ := hrel
      by_cases h0 : k = 0
      · subst h0
        go_wp2
        go_ret2
        exact ⟨by rw [HI.out.eq.symm]; rfl, hB⟩
      · obtain ⟨j, rfl⟩ : ∃ j, k = j + 1 := ⟨k - 1, by omega⟩
        obtain ⟨ad, rfl, _, hc⟩ := hrd.at_ (by omega)
        have cL := hc j (by omega)
        have uL := hlims.getD j
        have hsm : 0 ≤ val (L1.drop (j + 1)) ∧ val (L1.drop (j + 1)) < 2147483648 := by
          have h5 := val_nonneg (hlims.drop (j + 1))
          refine ⟨h5, ?_⟩
          rcases Nat.lt_or_ge (j + 1) L1.length with h6 | h6
          · have h7 : j = 0 := by have := HL.out; omega
            subst h7
            rw [List.drop_eq_getElem_cons h6, val_cons, ← getD_of_lt, HL1.out, List.drop_eq_nil_of_le (by have := HL.out; omega)]
            simp [val]; omega
          · rw [List.drop_eq_nil_of_le h6]; decide
        have hst : Hid (val (L1.drop (j + 1)) * 4294967296 + L1.getD j 0 = val (L1.drop j)) := by
          show _ = _
          rw [List.drop_eq_getElem_cons (l := L1) (i := j) (by have := HL.out; omega), val_cons, ← getD_of_lt]; omega
        generalize L1.getD j 0 = y at *
        have J := or_join_i (val (L1.drop (j + 1))) y hsm.1 hsm.2 uL.1 uL.2
        clear hc
        generalize val (L1.drop (j + 1)) = t at *
        go_wp2
        go_roundw
        case rel => exact ⟨j, by omega, by go_num, congrArg _ hst.out, by first | rfl | trivial⟩
        case measure => simp [intOf] <;> omega

theorem refInt_over (A : Option Addr) (n c : Nat) (L : List Int) (w : World) (hr : Rd w A n c L) (hn : n ≤ 1000000) (hv : 9223372036854775807 < val L) :
    Calls Tryd.prog 55 #[.slice A n c] w fun e w' => e = .returned (.tuple #[.int .i64 0, .int .i64 1]) ∧ Below w.heap.size w w' := by
  go_enter Tryd.func55, Tryd.ntmps55
  go_wp2_with fail
  refine (refTrim_any A n c L w hr hn).mono ?_
  rintro e w1 ⟨A1, n1, c1, L1, rfl, hM, hI, hB⟩
  have hl := hM.len
  have hlt := val_lt hI.lims
  rw [hI.eq, hl] at hlt
  have hn2 : 2 ≤ n1 := by
    rcases Nat.lt_or_ge n1 2 with h | h
    · exfalso
      have h3 := pw_mono (m := n1) (n := 1) (by omega)
      have h4 : pw 1 = 4294967296 := by decide
      omega
    · exact h
  have hcap := hM.rd.cap
  by_cases h2 : n1 = 2
  · subst h2
    obtain ⟨g, rfl, hg, hg'⟩ := hM.form (by omega)
    obtain ⟨l, hl1⟩ : ∃ l, L1.getD 1 0 = l := ⟨_, rfl⟩
    have hbig : 2147483648 ≤ l := by
      have h1 := val_take_getD L1 1
      rw [List.take_of_length_le (by omega), hI.eq, hl1] at h1
      have h3 := val_lt (hM.lims.take 1)
      have h5 := pw_mono (m := (L1.take 1).length) (n := 1) (by rw [List.length_take]; omega)
      have h4 : pw 1 = 4294967296 := by decide
      rw [h4] at h1
      omega
    have cT := hM.cellAt (i := 1) (by omega)
    rw [hl1] at cT
    clear hl1 hM hI hl hlt hr
    go_wp2
    go_ret2
    exact ⟨rfl, hB⟩
  · have h3 : 2 < n1 := by omega
    clear hM hI hl hlt hr
    go_wp2
    go_ret2
    exact ⟨rfl, hB⟩

end Go.Proofs.YthnmjaaelhcbpaaDoor
