/-
  slices.Compare of ints.
-/
import Derived.Test.YtklndjkblfncjaaDoorRdE7
import Derived.Test.YtklndjkblfncjaaDoorOrdP
namespace Go.Proofs.YtklndjkblfncjaaDoor
open Go Go.RowKit
set_option maxRecDepth 20000

theorem isNaN_x (x : Int) (w : World) : Calls Tryd.prog 45 #[.int .i64 x] w fun e w' => e = .returned (.bool false) ∧ w = w' := by
  go_enter Tryd.func45, Tryd.ntmps45
  go_wp2
  go_ret
  exact ⟨by simp, rfl⟩
def icmp (x y : Int) : Int := if x < y then -1 else if y < x then 1 else 0
theorem cmpInt_x (x y : Int) (w : World) : Calls Tryd.prog 31 #[.int .i64 x, .int .i64 y] w fun e w' => e = .returned (.int .i64 (icmp x y)) ∧ w = w' := by
  have HN : Hid (∀ (x : Int) (w : World), Calls Tryd.prog 45 #[.int .i64 x] w fun e w' => e = .returned (.bool false) ∧ w = w') := isNaN_x
  unfold icmp
  by_cases h1 : x < y
  · rw [if_pos h1]
    go_enter Tryd.func31, Tryd.ntmps31
    go_wp2_with fail
    refine (HN.out _ _).mono ?_
    rintro e w' ⟨rfl, rfl⟩
    go_wp2_with fail
    refine (HN.out _ _).mono ?_
    rintro e w' ⟨rfl, rfl⟩
    go_wp2
    go_ret
    exact ⟨rfl, rfl⟩
  · rw [if_neg h1]
    by_cases h2 : y < x
    · rw [if_pos h2]
      go_enter Tryd.func31, Tryd.ntmps31
      go_wp2_with fail
      refine (HN.out _ _).mono ?_
      rintro e w' ⟨rfl, rfl⟩
      go_wp2_with fail
      refine (HN.out _ _).mono ?_
      rintro e w' ⟨rfl, rfl⟩
      go_wp2
      go_ret
      exact ⟨rfl, rfl⟩
    · rw [if_neg h2]
      go_enter Tryd.func31, Tryd.ntmps31
      go_wp2_with fail
      refine (HN.out _ _).mono ?_
      rintro e w' ⟨rfl, rfl⟩
      go_wp2_with fail
      refine (HN.out _ _).mono ?_
      rintro e w' ⟨rfl, rfl⟩
      go_wp2
      go_ret
      exact ⟨rfl, rfl⟩
theorem vcmp_drop {L M : List Int} {i : Nat} {x y : Int} (hx : L[i]? = some x) (hy : M[i]? = some y) : vcmp (L.drop i) (M.drop i) = if icmp x y ≠ 0 then icmp x y else vcmp (L.drop (i + 1)) (M.drop (i + 1)) := by
  obtain ⟨h1, rfl⟩ := List.getElem?_eq_some_iff.1 hx
  obtain ⟨h2, rfl⟩ := List.getElem?_eq_some_iff.1 hy
  rw [List.drop_eq_getElem_cons h1, List.drop_eq_getElem_cons h2]
  simp only [vcmp]
  unfold icmp
  split
  · simp
  · split <;> simp
theorem vcmp_left {L M : List Int} {i : Nat} (h1 : i < L.length) (h2 : M.length ≤ i) : vcmp (L.drop i) (M.drop i) = 1 := by
  rw [List.drop_eq_getElem_cons h1, List.drop_of_length_le h2]; rfl
theorem vcmp_end {L M : List Int} {i : Nat} (h1 : L.length ≤ i) : vcmp (L.drop i) (M.drop i) = if i < M.length then -1 else 0 := by
  rw [List.drop_of_length_le h1]
  split
  · next h => rw [List.drop_eq_getElem_cons h]; rfl
  · next h => rw [List.drop_of_length_le (by omega)]; rfl

set_option maxHeartbeats 4000000 in
theorem cmp_ints (bd : Nat) (A B : Option Addr) (n c m q : Nat) (L M : List Int) (w : World) (h1 : IntRd bd w A n c L) (h2 : IntRd bd w B m q M) :
    Calls Tryd.prog 20 #[.slice A n c, .slice B m q] w fun e w' => e = .returned (.int .i64 (vcmp L M)) ∧ w = w' := by
  have hc1 := h1.cap
  have ht1 := h1.top
  have hc2 := h2.cap
  have ht2 := h2.top
  obtain ⟨R, hR⟩ : ∃ R, vcmp L M = R := ⟨_, rfl⟩
  rw [hR]
  have HR := Lib.hid hR
  have HL := Lib.hid h1.len
  have HM := Lib.hid h2.len
  have H1 := Lib.hid h1
  have H2 := Lib.hid h2
  have HC : Hid (∀ (x y : Int) (w : World), Calls Tryd.prog 31 #[.int .i64 x, .int .i64 y] w fun e w' => e = .returned (.int .i64 (icmp x y)) ∧ w = w') := cmpInt_x
  clear h1 h2 hR
  go_enter Tryd.func20, Tryd.ntmps20
  go_wp2
  go_loop [11] (fun iv => ∃ i : Nat, (i ≤ n ∧ i ≤ m) ∧ iv = .int .i64 i ∧ Hid (vcmp (L.drop i) (M.drop i) = R)) (fun iv => n - (intOf iv).toNat)
  case atStart => exact ⟨0, ⟨Nat.zero_le _, Nat.zero_le _⟩, rfl, by show _ = _; rw [List.drop_zero, List.drop_zero]; exact HR.out⟩
  case round =>
    obtain ⟨i, ⟨hi, him⟩, rfl, hv⟩ := hrel
    have hi0 : (0 : Int) ≤ (i : Int) := by omega
    by_cases hlt : i < n
    · have hin : (i : Int) < (n : Int) := by omega
      obtain ⟨g, o, rfl, _, ha⟩ := H1.out.at_ (by omega)
      obtain ⟨x, hx⟩ : ∃ x, L[i]? = some x := ⟨_, List.getElem?_eq_getElem (by rw [HL.out]; exact hlt)⟩
      have ca := ha i x hx
      clear ha
      by_cases hm : i < m
      · have hmi : (i : Int) < (m : Int) := by omega
        have hmn : ¬ (m : Int) ≤ (i : Int) := by omega
        obtain ⟨g', o', rfl, _, hb⟩ := H2.out.at_ (by omega)
        obtain ⟨y, hy⟩ : ∃ y, M[i]? = some y := ⟨_, List.getElem?_eq_getElem (by rw [HM.out]; exact hm)⟩
        have cb := hb i y hy
        have hd := vcmp_drop hx hy
        obtain ⟨z, hz⟩ : ∃ z, icmp x y = z := ⟨_, rfl⟩
        have HCz : Hid (Calls Tryd.prog 31 #[.int .i64 x, .int .i64 y] w fun e w' => e = .returned (.int .i64 z) ∧ w = w') := by rw [← hz]; exact HC.out x y w
        rw [hz] at hd
        have HD := Lib.hid hd
        clear hb hx hy hz hd
        by_cases h0 : z = 0
        · have hz0 : (z != 0) = false := by simpa using h0
          have HV : Hid (vcmp (L.drop (i + 1)) (M.drop (i + 1)) = R) := by show _ = _; rw [← hv.out, HD.out, if_neg (by simpa using h0)]
          clear hv HD h0
          go_wp2_with fail
          refine HCz.out.mono ?_
          rintro e w' ⟨rfl, rfl⟩
          go_wp2
          go_round
          case rel => exact ⟨i + 1, ⟨by omega, by omega⟩, by go_num, HV⟩
          case measure => simp [intOf] <;> omega
        · have hz0 : (z != 0) = true := by simpa using h0
          have HV : Hid (z = R) := by show _ = _; rw [← hv.out, HD.out, if_pos h0]
          clear hv HD h0
          go_wp2_with fail
          refine HCz.out.mono ?_
          rintro e w' ⟨rfl, rfl⟩
          go_wp2
          go_ret
          exact ⟨by rw [HV.out]; rfl, rfl⟩
      · have hmn : (m : Int) ≤ (i : Int) := by omega
        have HV : Hid ((1 : Int) = R) := by show _ = _; rw [← hv.out, vcmp_left (by rw [HL.out]; exact hlt) (by rw [HM.out]; omega)]
        clear hv hx
        go_wp2
        go_ret
        exact ⟨by rw [← HV.out]; rfl, rfl⟩
    · obtain rfl : i = n := by omega
      have he : vcmp (L.drop i) (M.drop i) = if i < m then -1 else 0 := by rw [vcmp_end (by rw [HL.out]; exact Nat.le_refl _), HM.out]
      by_cases hm : i < m
      · have hmi : (i : Int) < (m : Int) := by omega
        have hmd : decide ((i : Int) < (m : Int)) = true := by simpa using hmi
        have HV : Hid ((-1 : Int) = R) := by show _ = _; rw [← hv.out, he, if_pos hm]
        clear hv he
        go_wp2
        go_ret
        exact ⟨by rw [← HV.out]; rfl, rfl⟩
      · have hmi : ¬ (i : Int) < (m : Int) := by omega
        have hmd : decide ((i : Int) < (m : Int)) = false := by simpa using hmi
        have HV : Hid ((0 : Int) = R) := by show _ = _; rw [← hv.out, he, if_neg hm]
        clear hv he
        go_wp2
        go_ret
        exact ⟨by rw [← HV.out]; rfl, rfl⟩
end Go.Proofs.YtklndjkblfncjaaDoor
