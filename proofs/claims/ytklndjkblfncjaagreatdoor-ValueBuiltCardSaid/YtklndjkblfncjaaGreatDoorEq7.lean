/-
  slices.Equal of ints, the reference's SameInts and Same.
-/
import Derived.Test.YtklndjkblfncjaaGreatDoorRd7
namespace Go.Proofs.YtklndjkblfncjaaGreatDoor
open Go Go.RowKit
set_option maxRecDepth 20000

theorem IntOwn.rd {w : World} {Q : Option Addr} {n q bd : Nat} {L : List Int} (h : IntOwn w Q n q L) (hb : ∀ a, Q = some a → a.block < bd) : IntRd bd w Q n q L := by
  have hq : q ≤ 9223372036854775807 := by have := (row_caps h.row).2; unfold maxLen at this; omega
  refine ⟨h.len, (row_caps h.row).1, hq, fun hn => ?_⟩
  obtain ⟨g, rfl, _, _⟩ := row_form h.row hn
  refine ⟨g, 0, rfl, hb _ rfl, fun i x hx => ?_⟩
  have hlt : i < L.length := by
    rcases Nat.lt_or_ge i L.length with h1 | h1
    · exact h1
    · rw [List.getElem?_eq_none h1] at hx; cases hx
  rw [Nat.zero_add, h.row.cellAt i (by rw [← h.len]; omega)]
  unfold intRow
  rw [List.getElem?_map, hx]; rfl

set_option maxHeartbeats 4000000 in
theorem equal_ints (bd : Nat) (A B : Option Addr) (n c m q : Nat) (L M : List Int) (w : World) (hbd : bd ≤ w.heap.size) (h1 : IntRd bd w A n c L) (h2 : IntRd bd w B m q M) :
    Calls Tryz.prog 37 #[.slice A n c, .slice B m q] w fun e w' => e = .returned (.bool (decide (L = M))) ∧ Below w.heap.size w w' := by
  have hl1 := h1.len
  have hl2 := h2.len
  have hc1 := h1.cap
  have ht1 := h1.top
  have hc2 := h2.cap
  have ht2 := h2.top
  by_cases hnm : n = m
  · subst hnm
    obtain ⟨R, hR⟩ : ∃ R, decide (L = M) = R := ⟨_, rfl⟩
    rw [hR]
    have HR := Lib.hid hR
    have H1 := Lib.hid h1
    have H2 := Lib.hid h2
    have HL1 := Lib.hid hl1
    have HL2 := Lib.hid hl2
    clear h1 h2 hl1 hl2 hR
    go_enter Tryz.func37, Tryz.ntmps37
    go_wp2
    go_loopw [13] (fun iv wr => ∃ i : Nat, i ≤ n ∧ iv = .int .i64 i ∧ Hid (L.take i = M.take i ∧ Below w.heap.size w wr)) (fun iv _ => n - (intOf iv).toNat)
    case atStart => exact ⟨0, Nat.zero_le _, rfl, rfl, Below.refl _ _⟩
    case round =>
      obtain ⟨i, hi, rfl, HTB⟩ := hrel
      have HT := Lib.hid HTB.out.1
      have HB := Lib.hid HTB.out.2
      clear HTB
      by_cases hlt : i < n
      · obtain ⟨g, o, rfl, _, ha⟩ := (H1.out.below HB.out hbd).at_ (by omega)
        obtain ⟨g', o', rfl, _, hb⟩ := (H2.out.below HB.out hbd).at_ (by omega)
        have hx1 : i < L.length := by rw [HL1.out]; exact hlt
        have hx2 : i < M.length := by rw [HL2.out]; exact hlt
        have ca := ha i L[i] (List.getElem?_eq_getElem hx1)
        have cb := hb i M[i] (List.getElem?_eq_getElem hx2)
        have HN : Hid (L[i] = M[i] → L.take (i + 1) = M.take (i + 1)) := fun he => by
          rw [List.take_succ_eq_append_getElem hx1, List.take_succ_eq_append_getElem hx2, HT.out, he]
        have HD : Hid (L[i] ≠ M[i] → R = false) := fun he => by
          rw [← HR.out, decide_eq_false_iff_not]
          intro h
          exact he (by simp only [h])
        obtain ⟨x, hx⟩ : ∃ x, L[i] = x := ⟨_, rfl⟩
        obtain ⟨y, hy⟩ : ∃ y, M[i] = y := ⟨_, rfl⟩
        rw [hx] at ca HN HD
        rw [hy] at cb HN HD
        clear ha hb hx hy hx1 hx2
        by_cases hxy : x = y
        · subst hxy
          have HN2 := Lib.hid (HN.out rfl)
          clear HN HD
          go_wp2_with fail
          go_quiet (fail)
          go_wp2
          go_roundw
          case rel => exact ⟨i + 1, by omega, by go_num, HN2, drewN_below HB.out _⟩
          case measure => simp [intOf] <;> omega
        · have hf := HD.out hxy
          have bx : (x != y) = true := by simpa using hxy
          subst hf
          clear HN HD hxy
          go_wp2_with fail
          go_quiet (fail)
          go_wp2
          go_ret
          exact ⟨rfl, drewN_below HB.out _⟩
      · obtain rfl : i = n := by omega
        have ht : R = true := by
          rw [← HR.out, decide_eq_true_eq]
          have := HT.out
          rwa [List.take_of_length_le (by rw [HL1.out]; exact Nat.le_refl _), List.take_of_length_le (by rw [HL2.out]; exact Nat.le_refl _)] at this
        subst ht
        go_wp2
        go_ret
        exact ⟨rfl, HB.out⟩
  · have hf : decide (L = M) = false := by
      rw [decide_eq_false_iff_not]
      intro h
      exact hnm (by rw [← hl1, ← hl2, h])
    rw [hf]
    clear h1 h2 hl1 hl2 hf
    go_enter Tryz.func37, Tryz.ntmps37
    go_wp2
    go_ret
    exact ⟨rfl, Below.refl _ _⟩

set_option maxHeartbeats 4000000 in
theorem same_ints (bd : Nat) (A B : Option Addr) (n c q : Nat) (L : List Int) (w : World) (hbd : bd ≤ w.heap.size) (h1 : IntRd bd w A n c L) (h2 : IntRd bd w B n q L) :
    Calls Tryz.prog 18 #[.slice A n c, .slice B n q] w fun e w' => e = .returned (.bool true) ∧ Below w.heap.size w w' := by
  have hl1 := h1.len
  have hc1 := h1.cap
  have ht1 := h1.top
  have hc2 := h2.cap
  have ht2 := h2.top
  have H1 := Lib.hid h1
  have H2 := Lib.hid h2
  have HL1 := Lib.hid hl1
  clear h1 h2 hl1
  go_enter Tryz.func18, Tryz.ntmps18
  go_wp2
  go_loopw [5] (fun iv wr => ∃ i : Nat, i ≤ n ∧ iv = .int .i64 i ∧ Hid (Below w.heap.size w wr)) (fun iv _ => n - (intOf iv).toNat)
  case atStart => exact ⟨0, Nat.zero_le _, rfl, Below.refl _ _⟩
  case round =>
    obtain ⟨i, hi, rfl, HB⟩ := hrel
    by_cases hlt : i < n
    · obtain ⟨g, o, rfl, _, ha⟩ := (H1.out.below HB.out hbd).at_ (by omega)
      obtain ⟨g', o', rfl, _, hb⟩ := (H2.out.below HB.out hbd).at_ (by omega)
      have hx1 : i < L.length := by rw [HL1.out]; exact hlt
      have ca := ha i L[i] (List.getElem?_eq_getElem hx1)
      have cb := hb i L[i] (List.getElem?_eq_getElem hx1)
      obtain ⟨x, hx⟩ : ∃ x, L[i] = x := ⟨_, rfl⟩
      rw [hx] at ca cb
      clear ha hb hx hx1
      go_wp2_with fail
      go_quiet (fail)
      go_wp2
      go_roundw
      case rel => exact ⟨i + 1, by omega, by go_num, drewN_below HB.out _⟩
      case measure => simp [intOf] <;> omega
    · obtain rfl : i = n := by omega
      go_wp2
      go_ret
      exact ⟨rfl, HB.out⟩
end Go.Proofs.YtklndjkblfncjaaGreatDoor
