/-
  The reference's SameInts and CompareInts of two lists.
-/
import Derived.Test.YtklndjkblfncjaaGreatDoorRefF7
import Derived.Test.YtklndjkblfncjaaGreatDoorVcm7
import Derived.Test.YtklndjkblfncjaaGreatDoorEq7
import Derived.Test.YtklndjkblfncjaaGreatDoorSm27
namespace Go.Proofs.YtklndjkblfncjaaGreatDoor
open Go Go.RowKit
set_option maxRecDepth 20000

set_option maxHeartbeats 4000000 in
theorem same_ints2 (bd : Nat) (A B : Option Addr) (n c m q : Nat) (L M : List Int) (w : World) (hbd : bd ≤ w.heap.size) (h1 : IntRd bd w A n c L) (h2 : IntRd bd w B m q M) :
    Calls Tryz.prog 18 #[.slice A n c, .slice B m q] w fun e w' => e = .returned (.bool (decide (L = M))) ∧ Below w.heap.size w w' := by
  have hl1 := h1.len
  have hl2 := h2.len
  have hc1 := h1.cap
  have ht1 := h1.top
  have hc2 := h2.cap
  have ht2 := h2.top
  by_cases hnm : n = m
  · subst hnm
    obtain ⟨R, hR⟩ : ∃ R, decide (L = M) = R := ⟨_, rfl⟩
    rw [hR]
    have HR := Lib.hid hR
    have H1 := Lib.hid h1
    have H2 := Lib.hid h2
    have HL1 := Lib.hid hl1
    have HL2 := Lib.hid hl2
    clear h1 h2 hl1 hl2 hR
    go_enter Tryz.func18, Tryz.ntmps18
    go_wp2
    go_loopw [5] (fun iv wr => ∃ i : Nat, i ≤ n ∧ iv = .int .i64 i ∧ Hid (L.take i = M.take i ∧ Below w.heap.size w wr)) (fun iv _ => n - (intOf iv).toNat)
    case atStart => exact ⟨0, Nat.zero_le _, rfl, by simp, Below.refl _ _⟩
    case round =>
      obtain ⟨i, hi, rfl, HB⟩ := hrel
      by_cases hlt : i < n
      · obtain ⟨g, o, rfl, _, ha⟩ := (H1.out.below HB.out.2 hbd).at_ (by omega)
        obtain ⟨g', o', rfl, _, hb⟩ := (H2.out.below HB.out.2 hbd).at_ (by omega)
        have hx1 : i < L.length := by rw [HL1.out]; exact hlt
        have hx2 : i < M.length := by rw [HL2.out]; exact hlt
        have ca := ha i L[i] (List.getElem?_eq_getElem hx1)
        have cb := hb i M[i] (List.getElem?_eq_getElem hx2)
        have HX : Hid (L[i]? = some L[i] ∧ M[i]? = some M[i]) := ⟨List.getElem?_eq_getElem hx1, List.getElem?_eq_getElem hx2⟩
        obtain ⟨x, hx⟩ : ∃ x, L[i] = x := ⟨_, rfl⟩
        obtain ⟨y, hy⟩ : ∃ y, M[i] = y := ⟨_, rfl⟩
        rw [hx, hy] at HX
        rw [hx] at ca
        rw [hy] at cb
        clear ha hb hx hy hx1 hx2
        by_cases hxy : x = y
        · subst hxy
          have HN : Hid (L.take (i + 1) = M.take (i + 1)) := take_next_eq HB.out.1 HX.out.1 HX.out.2
          go_wp2_with fail
          go_quiet (fail)
          go_wp2
          go_roundw
          case rel => exact ⟨i + 1, by omega, by go_num, HN.out, drewN_below HB.out.2 _⟩
          case measure => simp [intOf] <;> omega
        · have bx : (x != y) = true := by simpa using hxy
          have HF : Hid (R = false) := by
            show _ = _
            rw [← HR.out, decide_eq_false_iff_not]
            intro h
            have h1 := HX.out.1
            rw [h, HX.out.2] at h1
            exact hxy (by simpa using h1.symm)
          clear hxy
          go_wp2_with fail
          go_quiet (fail)
          go_wp2
          go_ret
          exact ⟨by rw [HF.out]; rfl, drewN_below HB.out.2 _⟩
      · obtain rfl : i = n := by omega
        have HF : Hid (R = true) := by
          show _ = _
          rw [← HR.out, decide_eq_true_iff]
          have h := HB.out.1
          rwa [List.take_of_length_le (by rw [HL1.out]; exact Nat.le_refl _), List.take_of_length_le (by rw [HL2.out]; exact Nat.le_refl _)] at h
        go_wp2
        go_ret
        exact ⟨by rw [HF.out]; rfl, HB.out.2⟩
  · have bn : ((n : Int) != (m : Int)) = true := by simp; omega
    have hf : decide (L = M) = false := by
      rw [decide_eq_false_iff_not]
      intro h
      rw [h] at hl1
      omega
    rw [hf]
    clear h1 h2 hl1 hl2 hf
    go_enter Tryz.func18, Tryz.ntmps18
    go_wp2
    go_ret
    exact ⟨rfl, Below.refl _ _⟩

set_option maxHeartbeats 4000000 in
theorem cmpInts_x (bd : Nat) (A B : Option Addr) (n c m q : Nat) (L M : List Int) (w : World) (hbd : bd ≤ w.heap.size) (h1 : IntRd bd w A n c L) (h2 : IntRd bd w B m q M) :
    Calls Tryz.prog 45 #[.slice A n c, .slice B m q] w fun e w' => e = .returned (.int .i64 (vcmp L M)) ∧ Below w.heap.size w w' := by
  have hl1 := h1.len
  have hl2 := h2.len
  have hc1 := h1.cap
  have ht1 := h1.top
  have hc2 := h2.cap
  have ht2 := h2.top
  obtain ⟨R, hR⟩ : ∃ R, vcmp L M = R := ⟨_, rfl⟩
  rw [hR]
  have HR : Hid (vcmp (L.drop 0) (M.drop 0) = R) := by show _ = _; simpa using hR
  have H1 := Lib.hid h1
  have H2 := Lib.hid h2
  have HL1 := Lib.hid hl1
  have HL2 := Lib.hid hl2
  clear h1 h2 hl1 hl2 hR
  go_enter Tryz.func45, Tryz.ntmps45
  go_wp2
  go_loopw [5] (fun iv wr => ∃ i : Nat, i ≤ n ∧ i ≤ m ∧ iv = .int .i64 i ∧ Hid (vcmp (L.drop i) (M.drop i) = R ∧ Below w.heap.size w wr)) (fun iv _ => n - (intOf iv).toNat)
  case atStart => exact ⟨0, Nat.zero_le _, Nat.zero_le _, rfl, HR.out, Below.refl _ _⟩
  case round =>
    obtain ⟨i, hi, hi2, rfl, HB⟩ := hrel
    by_cases hlt : i < n
    · by_cases hlt2 : i < m
      · obtain ⟨g, o, rfl, _, ha⟩ := (H1.out.below HB.out.2 hbd).at_ (by omega)
        obtain ⟨g', o', rfl, _, hb⟩ := (H2.out.below HB.out.2 hbd).at_ (by omega)
        have hx1 : i < L.length := by rw [HL1.out]; exact hlt
        have hx2 : i < M.length := by rw [HL2.out]; exact hlt2
        have ca := ha i L[i] (List.getElem?_eq_getElem hx1)
        have cb := hb i M[i] (List.getElem?_eq_getElem hx2)
        have hst := vcmp_drop (List.getElem?_eq_getElem hx1) (List.getElem?_eq_getElem hx2)
        rw [HB.out.1] at hst
        obtain ⟨x, hx⟩ : ∃ x, L[i] = x := ⟨_, rfl⟩
        obtain ⟨y, hy⟩ : ∃ y, M[i] = y := ⟨_, rfl⟩
        rw [hx, hy] at hst
        rw [hx] at ca
        rw [hy] at cb
        clear ha hb hx hy hx1 hx2
        by_cases hxy : x < y
        · have HF : Hid (R = -1) := by
            show _ = _
            rw [hst]
            unfold icmp
            rw [if_pos hxy]; rfl
          clear hst
          go_wp2_with fail
          go_quiet (fail)
          go_wp2
          go_ret
          exact ⟨by rw [HF.out]; rfl, drewN_below HB.out.2 _⟩
        · by_cases hyx : y < x
          · have HF : Hid (R = 1) := by
              show _ = _
              rw [hst]
              unfold icmp
              rw [if_neg hxy, if_pos hyx]; rfl
            clear hst
            go_wp2_with fail
            go_quiet (fail)
            go_wp2_with fail
            go_quiet (fail)
            go_wp2
            go_ret
            refine ⟨by rw [HF.out]; rfl, ?_⟩
            first
              | exact drewN_below (drewN_below HB.out.2 _) _
              | exact drewN_below HB.out.2 _
          · have HF : Hid (vcmp (L.drop (i + 1)) (M.drop (i + 1)) = R) := by
              show _ = _
              rw [hst]
              unfold icmp
              rw [if_neg hxy, if_neg hyx, if_neg (by decide)]
            clear hst
            go_wp2_with fail
            go_quiet (fail)
            go_wp2_with fail
            go_quiet (fail)
            go_wp2
            go_roundw
            case rel =>
              refine ⟨i + 1, by omega, by omega, by go_num, HF.out, ?_⟩
              first
                | exact drewN_below (drewN_below HB.out.2 _) _
                | exact drewN_below HB.out.2 _
            case measure => simp [intOf] <;> omega
      · obtain rfl : i = m := by omega
        have HF : Hid (R = 1) := by show _ = _; rw [← HB.out.1]; exact vcmp_left (by rw [HL1.out]; exact hlt) (by rw [HL2.out]; exact Nat.le_refl _)
        go_wp2
        go_ret
        exact ⟨by rw [HF.out]; rfl, HB.out.2⟩
    · obtain rfl : i = n := by omega
      have hend := vcmp_end (L := L) (M := M) (i := i) (by rw [HL1.out]; exact Nat.le_refl _)
      rw [HB.out.1, HL2.out] at hend
      by_cases hlt2 : i < m
      · rw [if_pos hlt2] at hend
        have HF := Lib.hid hend
        clear hend
        go_wp2
        go_ret
        exact ⟨by rw [HF.out]; rfl, HB.out.2⟩
      · obtain rfl : i = m := by omega
        rw [if_neg hlt2] at hend
        have HF := Lib.hid hend
        clear hend
        go_wp2
        go_ret
        exact ⟨by rw [HF.out]; rfl, HB.out.2⟩
end Go.Proofs.YtklndjkblfncjaaGreatDoor
