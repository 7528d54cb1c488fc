/-
  The lexer's signs and keywords.
-/
import Derived.Test.YtenobkhiekhohaaLexT
namespace Go.Proofs.Ytenobkhiekhohaa
open Go.RowKit Lx
set_option maxRecDepth 20000

theorem extract_list (s : ByteArray) (a b : Nat) : (s.extract a b).toList = (s.data.toList.drop a).take (b - a) := by
  rw [Lib.toList_data]
  simp

theorem isSign_x (s : ByteArray) (w : World) : Calls Try.prog 38 #[.string s] w fun e w' => e = .returned (.bool (sgB s.toList)) ∧ w = w' := by
  go_enter Try.func38, Try.ntmps38
  go_wp2
  all_goals
    go_ret
    refine ⟨ret_bool ?_, rfl⟩
    first
      | (simp only [sgB, signs2, signs1, List.contains_cons, List.contains_nil, Bool.or_false, Bool.false_or, *]; done)
      | (simp_all; done)
      | (simp_all; decide)
set_option maxHeartbeats 1000000 in
theorem isKeyword_x (s : ByteArray) (w : World) : Calls Try.prog 33 #[.string s] w fun e w' => e = .returned (.bool (kwB s.toList)) ∧ w = w' := by
  go_enter Try.func33, Try.ntmps33
  go_wp2
  all_goals
    go_ret
    refine ⟨ret_bool ?_, rfl⟩
    first
      | (simp only [kwB, kws, List.contains_cons, List.contains_nil, Bool.or_false, Bool.false_or, *]; done)
      | (simp_all; done)
      | (simp_all; decide)

/-- The longest sign of at most n bytes at the front. -/
def sgT : Nat → Bs → Nat
  | 0, _ => 0
  | n + 1, l => if sgB (l.take (n + 1)) then n + 1 else sgT n l
theorem sgT_eq (l : Bs) : sgT (min 2 l.length) l = sgn l := by
  match l with
  | [] => rfl
  | [a] => simp [sgT, sgn, sgB, signs1, signs2]
  | a :: b :: r => 
    have : min 2 (a :: b :: r).length = 2 := by simp
    rw [this]
    simp [sgT, sgn, sgB, signs1, signs2]
theorem signLength_x (s : ByteArray) (w : World) (hs : s.size ≤ 8192) : Calls Try.prog 31 #[.string s] w fun e w' => e = .returned (.int .i64 (sgn s.toList)) ∧ w = w' := by
  have hl : s.toList.length = s.size := by rw [Lib.toList_data]; simp
  have HM := Lib.hid (sgT_eq s.toList)
  rw [hl] at HM
  clear hl
  generalize hR : sgn s.toList = R at *
  clear hR
  rcases (show s.size = 0 ∨ s.size = 1 ∨ 2 ≤ s.size by omega) with h | h | h
  · have HZ : Hid (sgT 0 s.toList = R) := by show _ = _; rw [← HM.out, h]; rfl
    have z : ((s.size : Nat) : Int) = 0 := by omega
    clear HM
    go_enter Try.func31, Try.ntmps31
    go_wp2
    go_loop [3] (fun v => ∃ n : Nat, (n ≤ 2 ∧ n ≤ s.size) ∧ v = .int .i64 n ∧ Hid (sgT n s.toList = R)) (fun v => (intOf v).toNat)
    case atStart => exact ⟨0, by omega, by go_num, HZ.out⟩
    case round =>
      obtain ⟨n, ⟨hn2, hns⟩, rfl, hT⟩ := hrel
      rcases n with _ | j
      · have hR0 : (R : Int) = 0 := by have := hT.out; simp [sgT] at this; omega
        go_wp2
        go_ret
        first | exact ⟨rfl, rfl⟩ | exact ⟨ret_int hR0.symm, rfl⟩
      · have e1 : (s.extract 0 (j + 1)).toList = s.toList.take (j + 1) := by rw [extract_list, Lib.toList_data]; simp
        have HI := Lib.hid (isSign_x (s.extract 0 (j + 1)) w)
        rw [e1] at HI
        have y1 : ((j + 1 : Nat) : Int) ≤ (s.size : Int) := by omega
        have y2 : ((j + 1 : Nat) : Int).toNat = j + 1 := by omega
        have hT' : Hid (sgB (s.toList.take (j + 1)) = true → R = j + 1) := fun hb => by have := hT.out; rw [sgT, if_pos hb] at this; exact this.symm
        have hT2 : Hid (sgB (s.toList.take (j + 1)) = false → sgT j s.toList = R) := fun hb => by have := hT.out; rw [sgT, if_neg (by simp [hb])] at this; exact this
        clear e1 hT
        generalize sgB (s.toList.take (j + 1)) = bb at *
        cases bb
        · have hT3 : Hid (sgT j s.toList = R) := hT2.out rfl
          go_wp2_with fail
          refine HI.out.mono ?_
          rintro e w' ⟨rfl, rfl⟩
          go_wp2
          go_round
          case rel => exact ⟨j, by omega, by go_num, hT3⟩
          case measure => simp [intOf] <;> omega
        · have hR0 : (R : Int) = (j : Int) + 1 := by have := hT'.out rfl; omega
          go_wp2_with fail
          refine HI.out.mono ?_
          rintro e w' ⟨rfl, rfl⟩
          go_wp2
          go_ret
          first | exact ⟨rfl, rfl⟩ | exact ⟨ret_int hR0.symm, rfl⟩
  · have HZ : Hid (sgT 1 s.toList = R) := by show _ = _; rw [← HM.out, h]; rfl
    have z : ((s.size : Nat) : Int) = 1 := by omega
    clear HM
    go_enter Try.func31, Try.ntmps31
    go_wp2
    go_loop [3] (fun v => ∃ n : Nat, (n ≤ 2 ∧ n ≤ s.size) ∧ v = .int .i64 n ∧ Hid (sgT n s.toList = R)) (fun v => (intOf v).toNat)
    case atStart => exact ⟨1, by omega, by go_num, HZ.out⟩
    case round =>
      obtain ⟨n, ⟨hn2, hns⟩, rfl, hT⟩ := hrel
      rcases n with _ | j
      · have hR0 : (R : Int) = 0 := by have := hT.out; simp [sgT] at this; omega
        go_wp2
        go_ret
        first | exact ⟨rfl, rfl⟩ | exact ⟨ret_int hR0.symm, rfl⟩
      · have e1 : (s.extract 0 (j + 1)).toList = s.toList.take (j + 1) := by rw [extract_list, Lib.toList_data]; simp
        have HI := Lib.hid (isSign_x (s.extract 0 (j + 1)) w)
        rw [e1] at HI
        have y1 : ((j + 1 : Nat) : Int) ≤ (s.size : Int) := by omega
        have y2 : ((j + 1 : Nat) : Int).toNat = j + 1 := by omega
        have hT' : Hid (sgB (s.toList.take (j + 1)) = true → R = j + 1) := fun hb => by have := hT.out; rw [sgT, if_pos hb] at this; exact this.symm
        have hT2 : Hid (sgB (s.toList.take (j + 1)) = false → sgT j s.toList = R) := fun hb => by have := hT.out; rw [sgT, if_neg (by simp [hb])] at this; exact this
        clear e1 hT
        generalize sgB (s.toList.take (j + 1)) = bb at *
        cases bb
        · have hT3 : Hid (sgT j s.toList = R) := hT2.out rfl
          go_wp2_with fail
          refine HI.out.mono ?_
          rintro e w' ⟨rfl, rfl⟩
          go_wp2
          go_round
          case rel => exact ⟨j, by omega, by go_num, hT3⟩
          case measure => simp [intOf] <;> omega
        · have hR0 : (R : Int) = (j : Int) + 1 := by have := hT'.out rfl; omega
          go_wp2_with fail
          refine HI.out.mono ?_
          rintro e w' ⟨rfl, rfl⟩
          go_wp2
          go_ret
          first | exact ⟨rfl, rfl⟩ | exact ⟨ret_int hR0.symm, rfl⟩
  · have HZ : Hid (sgT 2 s.toList = R) := by show _ = _; rw [← HM.out, Nat.min_eq_left h]
    have z : ¬ ((s.size : Nat) : Int) < 2 := by omega
    clear HM
    go_enter Try.func31, Try.ntmps31
    go_wp2
    go_loop [3] (fun v => ∃ n : Nat, (n ≤ 2 ∧ n ≤ s.size) ∧ v = .int .i64 n ∧ Hid (sgT n s.toList = R)) (fun v => (intOf v).toNat)
    case atStart => exact ⟨2, by omega, by go_num, HZ.out⟩
    case round =>
      obtain ⟨n, ⟨hn2, hns⟩, rfl, hT⟩ := hrel
      rcases n with _ | j
      · have hR0 : (R : Int) = 0 := by have := hT.out; simp [sgT] at this; omega
        go_wp2
        go_ret
        first | exact ⟨rfl, rfl⟩ | exact ⟨ret_int hR0.symm, rfl⟩
      · have e1 : (s.extract 0 (j + 1)).toList = s.toList.take (j + 1) := by rw [extract_list, Lib.toList_data]; simp
        have HI := Lib.hid (isSign_x (s.extract 0 (j + 1)) w)
        rw [e1] at HI
        have y1 : ((j + 1 : Nat) : Int) ≤ (s.size : Int) := by omega
        have y2 : ((j + 1 : Nat) : Int).toNat = j + 1 := by omega
        have hT' : Hid (sgB (s.toList.take (j + 1)) = true → R = j + 1) := fun hb => by have := hT.out; rw [sgT, if_pos hb] at this; exact this.symm
        have hT2 : Hid (sgB (s.toList.take (j + 1)) = false → sgT j s.toList = R) := fun hb => by have := hT.out; rw [sgT, if_neg (by simp [hb])] at this; exact this
        clear e1 hT
        generalize sgB (s.toList.take (j + 1)) = bb at *
        cases bb
        · have hT3 : Hid (sgT j s.toList = R) := hT2.out rfl
          go_wp2_with fail
          refine HI.out.mono ?_
          rintro e w' ⟨rfl, rfl⟩
          go_wp2
          go_round
          case rel => exact ⟨j, by omega, by go_num, hT3⟩
          case measure => simp [intOf] <;> omega
        · have hR0 : (R : Int) = (j : Int) + 1 := by have := hT'.out rfl; omega
          go_wp2_with fail
          refine HI.out.mono ?_
          rintro e w' ⟨rfl, rfl⟩
          go_wp2
          go_ret
          first | exact ⟨rfl, rfl⟩ | exact ⟨ret_int hR0.symm, rfl⟩
end Go.Proofs.Ytenobkhiekhohaa
