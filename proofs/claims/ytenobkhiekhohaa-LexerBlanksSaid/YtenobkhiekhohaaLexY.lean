/-
  The reference of layer 8: letters, digits, keywords, signs, blanks, positions.
-/
import Derived.Test.YtenobkhiekhohaaLexX
namespace Go.Proofs.Ytenobkhiekhohaa
open Go Go.RowKit Lx
set_option maxRecDepth 20000

theorem letter_x (x : Int) (w : World) : Calls Try.prog 34 #[.int .u8 x] w fun e w' => e = .returned (.bool (isL x)) ∧ w = w' := by
  go_enter Try.func34, Try.ntmps34
  go_wp2
  all_goals
    go_ret
    exact ⟨ret_bool (by unfold isL; first | (symm; rw [decide_eq_true_eq]; omega) | (rw [Bool.eq_iff_iff]; simp; omega)), rfl⟩
theorem digit_x (x : Int) (w : World) : Calls Try.prog 35 #[.int .u8 x] w fun e w' => e = .returned (.bool (isD x)) ∧ w = w' := by
  go_enter Try.func35, Try.ntmps35
  go_wp2
  all_goals
    go_ret
    exact ⟨ret_bool (by unfold isD; first | (symm; rw [decide_eq_true_eq]; omega) | (rw [Bool.eq_iff_iff]; simp; omega)), rfl⟩

def strV (L : List Bs) : List Value := L.map fun t => .string (bs t)
theorem strs_new (w : World) (L : List Bs) (T : TypeId) (i : Nat) (t : Bs) (h : L[i]? = some t) : (w.alloc (.cells (strV L).toArray T)).cell? ⟨w.heap.size, i, none⟩ = some (.string (bs t)) := by
  rw [World.cell?_alloc_new, List.getElem?_toArray, strV, List.getElem?_map, h]; rfl
theorem contains_take {L : List Bs} {t u : Bs} {i : Nat} (h : (L.take i).contains t = false) (hu : L[i]? = some u) (hne : u ≠ t) : (L.take (i + 1)).contains t = false := by
  obtain ⟨hi, rfl⟩ := List.getElem?_eq_some_iff.1 hu
  rw [List.take_succ_eq_append_getElem hi]
  rw [Bool.eq_false_iff] at h ⊢
  intro hc
  rw [List.contains_iff_mem, List.mem_append, List.mem_singleton] at hc
  rcases hc with hc | hc
  · exact h (by rw [List.contains_iff_mem]; exact hc)
  · exact hne hc.symm
theorem contains_hit {L : List Bs} {t : Bs} {i : Nat} (hu : L[i]? = some t) : L.contains t = true := by
  simpa using List.mem_of_getElem? hu

set_option maxHeartbeats 1000000 in
theorem keyword_x (s : ByteArray) (w : World) : Calls Try.prog 36 #[.string s] w fun e w' => e = .returned (.bool (kwB s.toList)) ∧ Below w.heap.size w w' := by
  have HN : Hid (∀ i t, kws[i]? = some t → (w.alloc (.cells (strV kws).toArray 9)).cell? ⟨w.heap.size, i, none⟩ = some (.string (bs t))) := fun i t => strs_new w kws _ i t
  have HB := Lib.hid (allocB w (.cells (strV kws).toArray 9))
  obtain ⟨w1, hw1⟩ : ∃ w1, w.alloc (.cells (strV kws).toArray 9) = w1 := ⟨_, rfl⟩
  rw [hw1] at HN HB
  have HW := Lib.hid hw1
  clear hw1
  obtain ⟨r, hr⟩ : ∃ r, kws.contains s.toList = r := ⟨_, rfl⟩
  rw [kwB, hr]
  have HR := Lib.hid hr
  clear hr
  go_enter Try.func36, Try.ntmps36
  go_wp2
  change Code.wp _ _ _ _ (w.alloc (.cells (strV kws).toArray 9))
  rw [HW.out]
  go_loop [4] (fun v => ∃ i : Nat, i ≤ 28 ∧ v = .int .i64 i ∧ Hid ((kws.take i).contains s.toList = false)) (fun v => 28 - (intOf v).toNat)
  case atStart => exact ⟨0, by omega, rfl, by rw [List.take_zero]; exact (rfl : ([] : List Bs).contains s.toList = false)⟩
  case round =>
    obtain ⟨i, hi, rfl, hno⟩ := hrel
    by_cases hlt : i < 28
    · obtain ⟨t, ht⟩ : ∃ t, kws[i]? = some t := ⟨_, List.getElem?_eq_getElem (show i < kws.length from hlt)⟩
      have c0 := HN.out i t ht
      have hbl := bs_list t
      obtain ⟨TB, hTB⟩ : ∃ TB, bs t = TB := ⟨_, rfl⟩
      rw [hTB] at c0 hbl
      have HT := Lib.hid ht
      have HBL := Lib.hid hbl
      clear hTB ht hbl
      by_cases heq : TB.toList = s.toList
      · have hd : (TB.toList == s.toList) = true := by simpa using heq
        have HK : Hid (kws.contains s.toList = true) := contains_hit (by rw [← heq, HBL.out]; exact HT.out)
        clear heq hno HN
        go_wp2
        go_ret
        exact ⟨ret_bool (HK.out.symm.trans HR.out), HB.out⟩
      · have hd : (TB.toList == s.toList) = false := by simpa using heq
        have HK : Hid ((kws.take (i + 1)).contains s.toList = false) := contains_take hno.out HT.out (by rw [← HBL.out]; exact heq)
        clear heq hno
        go_wp2
        go_round
        case rel => exact ⟨i + 1, by omega, by go_num, HK⟩
        case measure => simp [intOf] <;> omega
    · obtain rfl : i = 28 := by omega
      have HK : Hid (kws.contains s.toList = false) := hno.out
      clear hno HN
      go_wp2
      go_ret
      exact ⟨ret_bool (HK.out.symm.trans HR.out), HB.out⟩

def signs1B : Bs := [126, 60, 62, 43, 45, 42, 47, 40, 41, 91, 93, 123, 125, 44, 59, 58, 63, 46, 33]
theorem one_contains (c : UInt8) : signs1.contains [c] = signs1B.contains c := by
  have h : signs1 = signs1B.map fun x => [x] := rfl
  rw [h, Bool.eq_iff_iff, List.contains_iff_mem, List.contains_iff_mem, List.mem_map]
  constructor
  · rintro ⟨a, ha, e⟩; injection e with e; rwa [← e]
  · intro h; exact ⟨c, h, rfl⟩
theorem take_first {s : ByteArray} (h : 0 < s.size) : s.toList.take 1 = [s[0]] := by
  rw [Lib.toList_data]
  have hl : 0 < s.data.toList.length := by simpa using h
  have := List.take_succ_eq_append_getElem (l := s.data.toList) (i := 0) hl
  rw [this, List.take_zero]; rfl
theorem byte_take {L : Bs} {t u : UInt8} {i : Nat} (h : (L.take i).contains t = false) (hu : L[i]? = some u) (hne : t ≠ u) : (L.take (i + 1)).contains t = false := by
  obtain ⟨hi, rfl⟩ := List.getElem?_eq_some_iff.1 hu
  rw [List.take_succ_eq_append_getElem hi]
  rw [Bool.eq_false_iff] at h ⊢
  intro hc
  rw [List.contains_iff_mem, List.mem_append, List.mem_singleton] at hc
  rcases hc with hc | hc
  · exact h (by rw [List.contains_iff_mem]; exact hc)
  · exact hne hc
set_option maxHeartbeats 2000000 in
theorem sign_x (s : ByteArray) (w : World) (h0 : 0 < s.size) (hs : s.size ≤ 8192) : Calls Try.prog 37 #[.string s] w fun e w' => e = .returned (.int .i64 (sgn s.toList)) ∧ Below w.heap.size w w' := by
  obtain ⟨R, hR⟩ : ∃ R, sgn s.toList = R := ⟨_, rfl⟩
  rw [hR]
  have HR := Lib.hid hR
  clear hR
  by_cases h2 : 2 ≤ s.size
  · have HN : Hid (∀ i t, signs2[i]? = some t → (w.alloc (.cells (strV signs2).toArray 9)).cell? ⟨w.heap.size, i, none⟩ = some (.string (bs t))) := fun i t => strs_new w signs2 _ i t
    have HB := Lib.hid (allocB w (.cells (strV signs2).toArray 9))
    obtain ⟨w1, hw1⟩ : ∃ w1, w.alloc (.cells (strV signs2).toArray 9) = w1 := ⟨_, rfl⟩
    rw [hw1] at HN HB
    have HW := Lib.hid hw1
    clear hw1
    have hd2 : (2 : Int) ≤ (s.size : Int) := by omega
    have HSL : Hid ((s.extract 0 2).toList = s.toList.take 2) := by show _ = _; rw [extract_list, Lib.toList_data]; simp
    go_enter Try.func37, Try.ntmps37
    go_wp2
    change Code.wp _ _ _ _ (w.alloc (.cells (strV signs2).toArray 9))
    rw [HW.out]
    go_loopw [4] (fun v wq => ∃ (i a : Nat), i ≤ 7 ∧ v = .int .i64 i ∧ Hid ((signs2.take i).contains (s.toList.take 2) = false) ∧ Hid (wq = w1.drewN a)) (fun v _ => 7 - (intOf v).toNat)
    case atStart => exact ⟨0, 0, by omega, rfl, by rw [List.take_zero]; exact (rfl : ([] : List Bs).contains (s.toList.take 2) = false), rfl⟩
    case round =>
      obtain ⟨i, a, hi, rfl, hno, hwq⟩ := hrel
      obtain rfl := hwq.out
      clear hwq
      by_cases hlt : i < 7
      · obtain ⟨t, ht⟩ : ∃ t, signs2[i]? = some t := ⟨_, List.getElem?_eq_getElem (show i < signs2.length from hlt)⟩
        have c0 := HN.out i t ht
        have hbl := bs_list t
        obtain ⟨TB, hTB⟩ : ∃ TB, bs t = TB := ⟨_, rfl⟩
        rw [hTB] at c0 hbl
        have HT := Lib.hid ht
        have HBL := Lib.hid hbl
        have hi0 : (0 : Int) ≤ (i : Int) := by omega
        have hi7 : (i : Int) < 7 := by omega
        obtain ⟨S2, hS2⟩ : ∃ S2, s.extract 0 2 = S2 := ⟨_, rfl⟩
        have hsl2 : S2.toList = s.toList.take 2 := by rw [← hS2]; exact HSL.out
        clear hTB ht hbl
        by_cases heq : S2.toList = TB.toList
        · have hd : ((s.extract 0 2).toList == TB.toList) = true := by rw [hS2]; simpa using heq
          have HK : Hid ((R : Int) = 2) := by
            have hm : signs2.contains (s.toList.take 2) = true := contains_hit (by rw [← hsl2, heq, HBL.out]; exact HT.out)
            have := HR.out
            rw [sgn, if_pos hm] at this
            show _ = _; omega
          clear heq hno HN hS2 hsl2
          go_wp2_with fail
          go_quiet (fail)
          go_wp2
          go_ret
          exact ⟨ret_int HK.out.symm, drewN_below (drewN_below HB.out _) _⟩
        · have hd : ((s.extract 0 2).toList == TB.toList) = false := by rw [hS2]; simpa using heq
          have HK : Hid ((signs2.take (i + 1)).contains (s.toList.take 2) = false) := contains_take hno.out HT.out (by rw [← HBL.out, ← hsl2]; exact fun e => heq e.symm)
          clear heq hno hS2 hsl2
          go_wp2_with fail
          go_quiet (fail)
          go_wp2
          go_roundw
          case rel => exact ⟨i + 1, a + nq, by omega, by go_num, HK, by show _ = _; first | rfl | rw [World.drewN_drewN]⟩
          case measure => simp [intOf] <;> omega
      · obtain rfl : i = 7 := by omega
        have HT2 : Hid (signs2.contains (s.toList.take 2) = false) := hno.out
        have HT1 : Hid (s.toList.take 1 = [s[0]]) := by
          show _ = _
          exact take_first h0
        clear hno HN
        go_wp2
        go_loopw [6] (fun v wq => ∃ (i a : Nat), i ≤ 19 ∧ v = .int .i64 i ∧ Hid ((signs1B.take i).contains s[0] = false) ∧ Hid (wq = w1.drewN a)) (fun v _ => 19 - (intOf v).toNat)
        case atStart => exact ⟨0, a, by omega, rfl, by rw [List.take_zero]; exact (rfl : ([] : Bs).contains s[0] = false), rfl⟩
        case round =>
          obtain ⟨i, a2, hi, rfl, hno, hwq⟩ := hrel
          obtain rfl := hwq.out
          clear hwq
          by_cases hlt : i < 19
          · obtain ⟨x, hx⟩ : ∃ x, signs1B[i]? = some x := ⟨_, List.getElem?_eq_getElem (show i < signs1B.length from hlt)⟩
            have hxi : (⟨#[126, 60, 62, 43, 45, 42, 47, 40, 41, 91, 93, 123, 125, 44, 59, 58, 63, 46, 33]⟩ : ByteArray)[i]'(by show i < 19; exact hlt) = x := by
              have h1 := List.getElem?_eq_some_iff.1 hx
              obtain ⟨_, h1⟩ := h1
              rw [← h1]; rfl
            have hi0 : (0 : Int) ≤ (i : Int) := by omega
            have hi19 : (i : Int) < 19 := by omega
            have HX := Lib.hid hx
            by_cases heq : (s[0].toNat : Int) = (x.toNat : Int)
            · have hsx : s[0] = x := by apply UInt8.toNat_inj.1; omega
              have hd : ((s[0].toNat : Int) == (x.toNat : Int)) = true := by simpa using heq
              have HK : Hid ((R : Int) = 1) := by
                have hm : signs1.contains (s.toList.take 1) = true := by rw [HT1.out, one_contains, hsx]; simpa using List.mem_of_getElem? HX.out
                have := HR.out
                rw [sgn, HT2.out, if_neg (by simp), if_pos hm] at this
                show _ = _; omega
              clear heq hno hx hsx
              go_wp2_with fail
              go_quiet (fail)
              go_wp2
              go_ret
              exact ⟨ret_int HK.out.symm, drewN_below (drewN_below HB.out _) _⟩
            · have hd : ((s[0].toNat : Int) == (x.toNat : Int)) = false := by simpa using heq
              have HK : Hid ((signs1B.take (i + 1)).contains s[0] = false) := byte_take hno.out HX.out (fun e => heq (by rw [e]))
              clear heq hno hx
              go_wp2_with fail
              go_quiet (fail)
              go_wp2
              go_roundw
              case rel => exact ⟨i + 1, a2 + nq, by omega, by go_num, HK, by show _ = _; first | rfl | rw [World.drewN_drewN]⟩
              case measure => simp [intOf] <;> omega
          · obtain rfl : i = 19 := by omega
            have HK : Hid ((R : Int) = 0) := by
              have hm : signs1.contains (s.toList.take 1) = false := by rw [HT1.out, one_contains]; exact hno.out
              have := HR.out
              rw [sgn, HT2.out, if_neg (by simp), hm, if_neg (by simp)] at this
              show _ = _; omega
            clear hno
            go_wp2
            go_ret
            exact ⟨ret_int HK.out.symm, drewN_below HB.out _⟩
  · have HB := Lib.hid (Below.refl w.heap.size w)
    have hd2 : ¬ (2 : Int) ≤ (s.size : Int) := by omega
    have HT1 : Hid (s.toList.take 1 = [s[0]]) := take_first h0
    have HT2 : Hid (signs2.contains (s.toList.take 2) = false) := by
      show _ = _
      have hl : s.toList.length = s.size := by rw [Lib.toList_data]; simp
      cases hb : signs2.contains (s.toList.take 2) with
      | false => rfl
      | true => have := two_len hb; omega
    go_enter Try.func37, Try.ntmps37
    go_wp2
    go_loopw [6] (fun v wq => ∃ (i a : Nat), i ≤ 19 ∧ v = .int .i64 i ∧ Hid ((signs1B.take i).contains s[0] = false) ∧ Hid (wq = w.drewN a)) (fun v _ => 19 - (intOf v).toNat)
    case atStart => exact ⟨0, 0, by omega, rfl, by rw [List.take_zero]; exact (rfl : ([] : Bs).contains s[0] = false), rfl⟩
    case round =>
      obtain ⟨i, a2, hi, rfl, hno, hwq⟩ := hrel
      obtain rfl := hwq.out
      clear hwq
      by_cases hlt : i < 19
      · obtain ⟨x, hx⟩ : ∃ x, signs1B[i]? = some x := ⟨_, List.getElem?_eq_getElem (show i < signs1B.length from hlt)⟩
        have hxi : (⟨#[126, 60, 62, 43, 45, 42, 47, 40, 41, 91, 93, 123, 125, 44, 59, 58, 63, 46, 33]⟩ : ByteArray)[i]'(by show i < 19; exact hlt) = x := by
          have h1 := List.getElem?_eq_some_iff.1 hx
          obtain ⟨_, h1⟩ := h1
          rw [← h1]; rfl
        have hi0 : (0 : Int) ≤ (i : Int) := by omega
        have hi19 : (i : Int) < 19 := by omega
        have HX := Lib.hid hx
        by_cases heq : (s[0].toNat : Int) = (x.toNat : Int)
        · have hsx : s[0] = x := by apply UInt8.toNat_inj.1; omega
          have hd : ((s[0].toNat : Int) == (x.toNat : Int)) = true := by simpa using heq
          have HK : Hid ((R : Int) = 1) := by
            have hm : signs1.contains (s.toList.take 1) = true := by rw [HT1.out, one_contains, hsx]; simpa using List.mem_of_getElem? HX.out
            have := HR.out
            rw [sgn, HT2.out, if_neg (by simp), if_pos hm] at this
            show _ = _; omega
          clear heq hno hx hsx
          go_wp2_with fail
          go_quiet (fail)
          go_wp2
          go_ret
          exact ⟨ret_int HK.out.symm, drewN_below (drewN_below HB.out _) _⟩
        · have hd : ((s[0].toNat : Int) == (x.toNat : Int)) = false := by simpa using heq
          have HK : Hid ((signs1B.take (i + 1)).contains s[0] = false) := byte_take hno.out HX.out (fun e => heq (by rw [e]))
          clear heq hno hx
          go_wp2_with fail
          go_quiet (fail)
          go_wp2
          go_roundw
          case rel => exact ⟨i + 1, a2 + nq, by omega, by go_num, HK, by show _ = _; first | rfl | rw [World.drewN_drewN]⟩
          case measure => simp [intOf] <;> omega
      · obtain rfl : i = 19 := by omega
        have HK : Hid ((R : Int) = 0) := by
          have hm : signs1.contains (s.toList.take 1) = false := by rw [HT1.out, one_contains]; exact hno.out
          have := HR.out
          rw [sgn, HT2.out, if_neg (by simp), hm, if_neg (by simp)] at this
          show _ = _; omega
        clear hno
        go_wp2
        go_ret
        exact ⟨ret_int HK.out.symm, drewN_below HB.out _⟩
end Go.Proofs.Ytenobkhiekhohaa
