/-
  exactppllaw08.piece; LexerBuilt.
-/
import Derived.Test.YtenobkhiekhohaaLexA
namespace Go.Proofs.Ytenobkhiekhohaa
open Go Go.RowKit Lx
set_option maxRecDepth 20000

theorem Src.drewN {w : World} {g : Nat} (h : Src w g) (k : Nat) : Src (w.drewN k) g := by
  obtain ⟨A, n, c, p, q, h⟩ := h
  exact ⟨A, n, c, p, q, h.drewN k⟩
/-- The pieces that texts are built of. -/
def pcs : List Bs := [[120], [121, 49], [95], [112, 97, 114, 97, 109], [102, 117, 110, 99], [108, 105, 115, 116], [108, 101, 110], [112, 111, 115, 116, 101, 114, 105, 111, 114], [114, 101, 112, 101, 97, 116], [111, 98, 115, 101, 114, 118, 101], [48], [55], [49, 48, 48, 48, 48, 48, 48], [48, 48, 55], [58, 61], [61, 61], [33, 61], [60, 61], [62, 61], [38, 38], [124, 124], [126], [60], [62], [43], [45], [42], [47], [40], [41], [91], [93], [123], [125], [44], [59], [58], [63], [46], [33], [32], [32, 32], [10], [9], [35, 32, 99, 111, 109, 109, 101, 110, 116, 10], [35], [38], [124], [61], [36], [13], [97, 98, 99, 100, 101, 102, 103, 104, 105, 106, 107, 108], [97, 98, 99, 100, 101, 102, 103, 104, 105, 106, 107, 108, 109], [116, 114, 117, 101, 116, 114, 117, 101, 116, 114, 117, 101], [49, 50, 51, 52, 53, 54, 55, 56, 57, 48, 49, 50, 51, 52, 53, 54, 55, 56, 57, 48, 49, 50, 51, 52, 53, 54, 55, 56, 57, 48, 49, 50, 51, 52, 53, 54, 55, 56, 57, 48, 49, 50, 51, 52, 53, 54, 55, 56, 57, 48, 49, 50, 51, 52, 53, 54, 55, 56, 57, 48], [49, 50, 51, 52, 53, 54, 55, 56, 57, 48, 49, 50, 51, 52, 53, 54, 55, 56, 57, 48, 49, 50, 51, 52, 53, 54, 55, 56, 57, 48, 49, 50, 51, 52, 53, 54, 55, 56, 57, 48, 49, 50, 51, 52, 53, 54, 55, 56, 57, 48, 49, 50, 51, 52, 53, 54, 55, 56, 57, 48, 49]]
theorem pcs_short : ∀ t ∈ pcs, t.length ≤ 61 := by decide
def GivesPiece (g : Nat) (w : World) (e : Ending) (w' : World) : Prop := ∃ t, t ∈ pcs ∧ e = .returned (.string (bs t)) ∧ Src w' g ∧ But g w w'

set_option maxHeartbeats 2000000 in
theorem piece_x (g : Nat) (w : World) (h : Src w g) : Calls Try.prog 12 #[.pointer (some ⟨g, 0, none⟩)] w (GivesPiece g w) := by
  have HN : Hid (∀ i t, pcs[i]? = some t → (w.alloc (.cells (strV pcs).toArray 9)).cell? ⟨w.heap.size, i, none⟩ = some (.string (bs t))) := fun i t => strs_new w pcs _ i t
  have HB := Lib.hid (allocB w (.cells (strV pcs).toArray 9))
  obtain ⟨w1, hw1⟩ : ∃ w1, w.alloc (.cells (strV pcs).toArray 9) = w1 := ⟨_, rfl⟩
  have hs1 : w.heap.size < w1.heap.size := by rw [← hw1]; simp
  rw [hw1] at HN HB
  have HW := Lib.hid hw1
  have HS := Lib.hid (h.below HB.out)
  have HZ := Lib.hid hs1
  have HG := Lib.hid h.size
  clear hw1 hs1 h
  go_enter Try.func12, Try.ntmps12
  go_wp2_with fail
  change Calls _ _ _ (w.alloc (.cells (strV pcs).toArray 9)) _
  rw [HW.out]
  refine (N_any g w1 56 HS.out (by omega) (by omega)).mono ?_
  rintro e w2 ⟨z, rfl, ⟨z0, z1⟩, hs, hB⟩
  obtain ⟨i, rfl⟩ := Int.eq_ofNat_of_zero_le z0
  obtain ⟨t, ht⟩ : ∃ t, pcs[i]? = some t := ⟨_, List.getElem?_eq_getElem (show i < pcs.length by show i < 56; omega)⟩
  have c0 := (hB.cell (p := ⟨w.heap.size, i, none⟩) HZ.out (by have := HG.out; show w.heap.size ≠ g; omega)).trans (HN.out i t ht)
  have HP : Hid (GivesPiece g w (.returned (.string (bs t))) w2) := ⟨t, List.mem_of_getElem? ht, rfl, hs, (But.of_below HB.out).trans hB⟩
  have hi56 : (i : Int) < 56 := by omega
  clear HN ht hs hB z1
  go_wp2
  go_ret
  exact HP.out

theorem bs_size (t : Bs) : (bs t).size = t.length := rfl
theorem cat_size (a b : ByteArray) : (a ++ b).size = a.size + b.size := ByteArray.size_append ..

set_option maxHeartbeats 4000000 in
theorem lexerBuilt.walk {A : Option Addr} {n c : Nat} {w : World} (hcap : n ≤ c) (htop : c ≤ maxLen) (hI : 0 < n → ∃ ad, A = some ad ∧ IntsAt w ad n (-9223372036854775808) 9223372036854775807) :
    Calls Try.prog 4 #[.slice A n c] w (SaysTrue w) := by
  have H1 := Lib.hid (new_any A n c w hcap htop hI)
  clear hcap htop hI
  go_enter Try.func4, Try.ntmps4
  go_wp2_with fail
  refine H1.out.mono ?_
  rintro e w1 ⟨g, rfl, hg, hs, hb1⟩
  have HG := Lib.hid hg
  clear H1 hg
  go_wp2_with fail
  go_loopw [4, 5] (fun tv iv wr => ∃ (i : Nat) (TS : ByteArray), i ≤ 30 ∧ iv = .int .i64 i ∧ tv = .string TS ∧ TS.size ≤ 62 * i ∧ Src wr g ∧ Below w.heap.size w wr) (fun _ iv _ => 30 - (intOf iv).toNat)
  case atStart => exact ⟨0, _, by omega, rfl, rfl, Nat.le_refl _, hs, hb1⟩
  case round =>
    obtain ⟨i, TS, hi, rfl, rfl, hTS, hs, hB⟩ := hrel
    have HS := Lib.hid hs
    have HW := Lib.hid hB
    clear hs hB hb1
    by_cases hi30 : i < 30
    · have hi30' : (i : Int) < 30 := by omega
      by_cases hi2 : i < 2
      · have hi2' : (i : Int) < 2 := by omega
        have HS2 := HS
        have HW2 := HW
        clear HS HW
        go_wp2_with fail
        refine (piece_x g _ HS2.out).mono ?_
        rintro e w3 ⟨t, htm, rfl, hs3, hB3⟩
        have htl := pcs_short t htm
        obtain ⟨TB, hTB⟩ : ∃ TB, bs t = TB := ⟨_, rfl⟩
        have hTBs : TB.size ≤ 61 := by rw [← hTB, bs_size]; exact htl
        rw [hTB]
        have HS3 := Lib.hid hs3
        have HW3 : Hid (Below w.heap.size w w3) := HW2.out.trans (hB3.below HG.out HW2.out.size)
        clear hs3 hB3 hTB htm htl HS2 HW2
        go_wp2_with fail
        refine (N_any g _ 3 HS3.out (by omega) (by omega)).mono ?_
        rintro e w4 ⟨z, rfl, ⟨z0, z1⟩, hs4, hB4⟩
        have HS4 := Lib.hid hs4
        have HW4 : Hid (Below w.heap.size w w4) := HW3.out.trans (hB4.below HG.out HW3.out.size)
        have hcs := cat_size TS TB
        have hcs2 := cat_size (TS ++ TB) ⟨#[32]⟩
        have e32 : (⟨#[32]⟩ : ByteArray).size = 1 := rfl
        have HSZ : Hid ((TS ++ TB).size ≤ 62 * (i + 1) ∧ ((TS ++ TB) ++ ⟨#[32]⟩).size ≤ 62 * (i + 1)) := ⟨by omega, by omega⟩
        have hlim : (TS ++ TB).size ≤ 2000 := by omega
        clear hs4 hB4 hcs hcs2 e32 HS3 HW3
        by_cases hz : z = 0
        · have hz' : (z == 0) = true := by simpa using hz
          clear hz
          go_wp2
          go_roundw
          case rel => exact ⟨i + 1, _, by omega, by go_num, rfl, HSZ.out.2, HS4.out, HW4.out⟩
          case measure => simp [intOf] <;> omega
        · have hz' : (z == 0) = false := by simpa using hz
          clear hz
          go_wp2
          go_roundw
          case rel => exact ⟨i + 1, _, by omega, by go_num, rfl, HSZ.out.1, HS4.out, HW4.out⟩
          case measure => simp [intOf] <;> omega
      · have hi2' : ¬ (i : Int) < 2 := by omega
        go_wp2_with fail
        refine (more_any g _ HS.out).mono ?_
        rintro e w2 ⟨b, a, rfl, rfl⟩
        have HS2 := Lib.hid (HS.out.drewN a)
        have HW2 := Lib.hid (drewN_below HW.out a)
        clear HS HW
        generalize wr.drewN a = w2 at *
        cases b with
        | true =>
          go_wp2_with fail
          refine (piece_x g _ HS2.out).mono ?_
          rintro e w3 ⟨t, htm, rfl, hs3, hB3⟩
          have htl := pcs_short t htm
          obtain ⟨TB, hTB⟩ : ∃ TB, bs t = TB := ⟨_, rfl⟩
          have hTBs : TB.size ≤ 61 := by rw [← hTB, bs_size]; exact htl
          rw [hTB]
          have HS3 := Lib.hid hs3
          have HW3 : Hid (Below w.heap.size w w3) := HW2.out.trans (hB3.below HG.out HW2.out.size)
          clear hs3 hB3 hTB htm htl HS2 HW2
          go_wp2_with fail
          refine (N_any g _ 3 HS3.out (by omega) (by omega)).mono ?_
          rintro e w4 ⟨z, rfl, ⟨z0, z1⟩, hs4, hB4⟩
          have HS4 := Lib.hid hs4
          have HW4 : Hid (Below w.heap.size w w4) := HW3.out.trans (hB4.below HG.out HW3.out.size)
          have hcs := cat_size TS TB
          have hcs2 := cat_size (TS ++ TB) ⟨#[32]⟩
          have e32 : (⟨#[32]⟩ : ByteArray).size = 1 := rfl
          have HSZ : Hid ((TS ++ TB).size ≤ 62 * (i + 1) ∧ ((TS ++ TB) ++ ⟨#[32]⟩).size ≤ 62 * (i + 1)) := ⟨by omega, by omega⟩
          have hlim : (TS ++ TB).size ≤ 2000 := by omega
          clear hs4 hB4 hcs hcs2 e32 HS3 HW3
          by_cases hz : z = 0
          · have hz' : (z == 0) = true := by simpa using hz
            clear hz
            go_wp2
            go_roundw
            case rel => exact ⟨i + 1, _, by omega, by go_num, rfl, HSZ.out.2, HS4.out, HW4.out⟩
            case measure => simp [intOf] <;> omega
          · have hz' : (z == 0) = false := by simpa using hz
            clear hz
            go_wp2
            go_roundw
            case rel => exact ⟨i + 1, _, by omega, by go_num, rfl, HSZ.out.1, HS4.out, HW4.out⟩
            case measure => simp [intOf] <;> omega
        | false =>
          go_wp2_with fail
          refine (agrees_x TS _ (by unfold maxLen; omega)).mono ?_
          rintro e w5 ⟨rfl, hB5⟩
          have HW5 : Hid (Below w.heap.size w w5) := HW2.out.trans (hB5.mono HW2.out.size)
          clear hB5
          go_wp2_with fail
          refine (awake_x _).mono ?_
          rintro e w6 ⟨rfl, hB6⟩
          have HW6 : Hid (Below w.heap.size w w6) := HW5.out.trans (hB6.mono HW5.out.size)
          clear hB6
          go_wp2
          go_ret
          exact ⟨rfl, HW6.out⟩
    · obtain rfl : i = 30 := by omega
      have HS2 := HS
      have HW2 := HW
      clear HS HW
      go_wp2_with fail
      refine (agrees_x TS _ (by unfold maxLen; omega)).mono ?_
      rintro e w5 ⟨rfl, hB5⟩
      have HW5 : Hid (Below w.heap.size w w5) := HW2.out.trans (hB5.mono HW2.out.size)
      clear hB5
      go_wp2_with fail
      refine (awake_x _).mono ?_
      rintro e w6 ⟨rfl, hB6⟩
      have HW6 : Hid (Below w.heap.size w w6) := HW5.out.trans (hB6.mono HW5.out.size)
      clear hB6
      go_wp2
      go_ret
      exact ⟨rfl, HW6.out⟩
end Go.Proofs.Ytenobkhiekhohaa
