/-
  slices.choosePivotCmpFunc over a row of terms, with the order of the normal form.
-/
import Derived.Test.YtebbnmjmjoklmaaGreatDoorOrder2
namespace Go.Proofs.YtebbnmjmjoklmaaGreatDoor
open Go Go.RowKit Go.WideMaps Go.Sort
set_option maxRecDepth 20000

/-- A hint as the program's number. -/
def hintI : Hint → Int
  | .unknown => 0
  | .increasing => 1
  | .decreasing => 2
theorem median_lt {d : Array Q8} {a b c s n m s' : Nat} (h : median lt8 d a b c s = (m, s')) (ha : a < n) (hb : b < n) (hc : c < n) : m < n ∧ s' ≤ s + 3 := by
  obtain ⟨a1, b1, s1, h1⟩ : ∃ a1 b1 s1, order2 lt8 d a b s = (a1, b1, s1) := ⟨_, _, _, rfl⟩
  obtain ⟨b2, c2, s2, h2⟩ : ∃ b2 c2 s2, order2 lt8 d b1 c s1 = (b2, c2, s2) := ⟨_, _, _, rfl⟩
  obtain ⟨a3, b3, s3, h3⟩ : ∃ a3 b3 s3, order2 lt8 d a1 b2 s2 = (a3, b3, s3) := ⟨_, _, _, rfl⟩
  have hm : median lt8 d a b c s = (b3, s3) := by unfold median; simp only [h1, h2, h3]
  rw [hm] at h
  injection h with e1 e2
  obtain ⟨l1, l2, l3⟩ := order2_lt h1 ha hb
  obtain ⟨l4, l5, l6⟩ := order2_lt h2 l2 hc
  obtain ⟨l7, l8, l9⟩ := order2_lt h3 l1 l4
  omega

set_option maxHeartbeats 8000000 in
theorem choosePivot_x {w : World} {base g cap a l : Nat} {d : Array Q8} (hrow : w.ownsRow base 47 11 (.slice (some ⟨g, 0, none⟩) d.size cap) d.size (rowOf (tms (cs8 d)))) (hn : d.size < 1000000) (h8 : 8 ≤ l) (hb : a + l ≤ d.size) (_hbw : base ≤ w.heap.size) :
    Calls Tryz.prog 114 #[.slice (some ⟨g, 0, none⟩) d.size cap, .int .i64 a, .int .i64 ((a : Int) + l), .func (.func 65) #[.int .i64 (-1)] #[]] w fun e w' =>
      e = .returned (.tuple #[.int .i64 (choosePivot lt8 d a (a + l)).1, .int .i64 (hintI (choosePivot lt8 d a (a + l)).2)]) ∧ w'.ownsRow base 47 11 (.slice (some ⟨g, 0, none⟩) d.size cap) d.size (rowOf (tms (cs8 d))) ∧ Below w.heap.size w w' := by
  obtain ⟨p, hp⟩ : ∃ p, w.heap.size = p := ⟨_, rfl⟩
  obtain ⟨v, hv⟩ : ∃ v, w.alloc (.cells #[.int .i64 0] 3) = v := ⟨_, rfl⟩
  have hgl : g < w.heap.size := (hrow.lt g rfl).2
  have hpg : p ≠ g := by omega
  have hb0 : Below w.heap.size w v := hv ▸ (Below.refl _ w).alloc (Nat.le_refl _) _
  have L0 : Left2 v v base g cap p d 0 := ⟨by rw [← hv, ← hp, World.cell?_alloc_new]; rfl, by rw [← hv, ← hp]; exact frozen_of_row _ _ 0 _ _ (heap_alloc_new w _), ownsRow_below hrow hb0, Keeps.refl ..⟩
  have hpl : p < v.heap.size := by rw [← hv, World.size_alloc]; omega
  have HV := Lib.hid hv
  have HP := Lib.hid hp
  have HB : Hid (∀ (w' : World) {s : Nat}, Left2 v w' base g cap p d s → Below w.heap.size w w') := fun w' s k =>
    ⟨k.keeps.os.trans hb0.os, k.keeps.tape.trans hb0.tape, k.keeps.output.trans hb0.output, Nat.le_trans hb0.size k.keeps.size, fun q hq => (k.keeps.block q (Nat.lt_of_lt_of_le hq hb0.size) (by omega) (by omega) (by omega)).trans (hb0.block q hq)⟩
  have hl2 : (8 : Int) ≤ l := by omega
  have hl1 : (a : Int) + l < 1000000 := by omega
  obtain ⟨i, hi⟩ : ∃ i : Nat, (a : Int) + (l : Int) / 4 = i := ⟨a + l / 4, by omega⟩
  obtain ⟨j, hj⟩ : ∃ j : Nat, (a : Int) + (l : Int) / 4 * 2 = j := ⟨a + l / 4 * 2, by omega⟩
  obtain ⟨k, hk⟩ : ∃ k : Nat, (a : Int) + (l : Int) / 4 * 3 = k := ⟨a + l / 4 * 3, by omega⟩
  have hi0 : 1 ≤ i := by omega
  have hj0 : 1 ≤ j := by omega
  have hk0 : 1 ≤ k := by omega
  have hi1 : i + 1 < d.size := by omega
  have hj1 : j + 1 < d.size := by omega
  have hk1 : k + 1 < d.size := by omega
  have ei : a + l / 4 * 1 = i := by omega
  have ej : a + l / 4 * 2 = j := by omega
  have ek : a + l / 4 * 3 = k := by omega
  have HCP : Hid (choosePivot lt8 d a (a + l) = ((if l ≥ 50 then median lt8 d (medianAdjacent lt8 d i 0).1 (medianAdjacent lt8 d j (medianAdjacent lt8 d i 0).2).1 (medianAdjacent lt8 d k (medianAdjacent lt8 d j (medianAdjacent lt8 d i 0).2).2).1 (medianAdjacent lt8 d k (medianAdjacent lt8 d j (medianAdjacent lt8 d i 0).2).2).2 else median lt8 d i j k 0).1,
      if (if l ≥ 50 then median lt8 d (medianAdjacent lt8 d i 0).1 (medianAdjacent lt8 d j (medianAdjacent lt8 d i 0).2).1 (medianAdjacent lt8 d k (medianAdjacent lt8 d j (medianAdjacent lt8 d i 0).2).2).1 (medianAdjacent lt8 d k (medianAdjacent lt8 d j (medianAdjacent lt8 d i 0).2).2).2 else median lt8 d i j k 0).2 = 0 then .increasing
      else if (if l ≥ 50 then median lt8 d (medianAdjacent lt8 d i 0).1 (medianAdjacent lt8 d j (medianAdjacent lt8 d i 0).2).1 (medianAdjacent lt8 d k (medianAdjacent lt8 d j (medianAdjacent lt8 d i 0).2).2).1 (medianAdjacent lt8 d k (medianAdjacent lt8 d j (medianAdjacent lt8 d i 0).2).2).2 else median lt8 d i j k 0).2 = 12 then .decreasing else .unknown)) := by
    show _ = _
    unfold choosePivot
    simp only [Nat.add_sub_cancel_left, ei, ej, ek, if_pos h8, ge_iff_le]
  obtain ⟨⟨R1, R2⟩, hR⟩ : ∃ R, choosePivot lt8 d a (a + l) = R := ⟨_, rfl⟩
  rw [hR] at HCP ⊢
  clear hv hp hb0 ei ej ek hrow hR
  go_enter Tryz.func114, Tryz.ntmps114
  go_upto_region 3 with fail
  rw [HV.out, HP.out]
  go_upto_region 6 with fail
  rw [show (a : Int) + l - a = l by omega, hi, hj, hk]
  clear hi hj hk
  by_cases h50 : 50 ≤ l
  · have h50' : (50 : Int) ≤ l := by omega
    obtain ⟨m1, s1, e1⟩ : ∃ m1 s1, medianAdjacent lt8 d i 0 = (m1, s1) := ⟨_, _, rfl⟩
    obtain ⟨m2, s2, e2⟩ : ∃ m2 s2, medianAdjacent lt8 d j s1 = (m2, s2) := ⟨_, _, rfl⟩
    obtain ⟨m3, s3, e3⟩ : ∃ m3 s3, medianAdjacent lt8 d k s2 = (m3, s3) := ⟨_, _, rfl⟩
    obtain ⟨m, s, e4⟩ : ∃ m s, median lt8 d m1 m2 m3 s3 = (m, s) := ⟨_, _, rfl⟩
    have b1 := median_lt (n := d.size) e1 (by omega) (by omega) (by omega)
    have b2 := median_lt (n := d.size) e2 (by omega) (by omega) (by omega)
    have b3 := median_lt (n := d.size) e3 (by omega) (by omega) (by omega)
    have HCP2 := HCP.out
    simp only [if_pos (show l ≥ 50 from h50), e1, e2, e3, e4] at HCP2
    injection HCP2 with r1 r2
    subst r1
    have HR2 := Lib.hid r2
    clear HCP r2
    have H1 := Lib.hid (medianAdjacent_x (a := i) L0 hn hi0 hi1 hpg hpl (by omega))
    rw [e1] at H1
    have H2 : Hid (∀ u, Left2 v u base g cap p d s1 → _) := fun u hu => medianAdjacent_x (a := j) hu.here hn hj0 hj1 hpg (Nat.lt_of_lt_of_le hpl hu.keeps.size) (by omega)
    rw [e2] at H2
    have H3 : Hid (∀ u, Left2 v u base g cap p d s2 → _) := fun u hu => medianAdjacent_x (a := k) hu.here hn hk0 hk1 hpg (Nat.lt_of_lt_of_le hpl hu.keeps.size) (by omega)
    rw [e3] at H3
    have H4 : Hid (∀ u, Left2 v u base g cap p d s3 → _) := fun u hu => median_x (a := m1) (b := m2) (c := m3) hu.here hn b1.1 b2.1 b3.1 hpg (Nat.lt_of_lt_of_le hpl hu.keeps.size) (by omega)
    rw [e4] at H4
    clear e1 e2 e3 e4 b1 b2 b3
    go_wp2_with fail
    refine H1.out.mono ?_
    rintro e w1 ⟨rfl, k1⟩
    go_wp2_with fail
    refine (H2.out w1 k1).mono ?_
    rintro e w2 ⟨rfl, k2'⟩
    have k2 := k1.from k2'
    go_wp2_with fail
    refine (H3.out w2 k2).mono ?_
    rintro e w3 ⟨rfl, k3'⟩
    have k3 := k2.from k3'
    go_wp2_with fail
    refine (H4.out w3 k3).mono ?_
    rintro e w9 ⟨rfl, k4'⟩
    have KK := k3.from k4'
    have kc := KK.cell
    clear H1 H2 H3 H4 k1 k2 k3 k2' k3' k4'
    by_cases hs0 : s = 0
    · subst hs0
      go_wp2
      refine bodyPost_ret (v := .tuple #[.int .i64 R1, .int .i64 1]) (by simp [results, Tryz.results114, go_sem]) rfl ⟨(by rw [HR2.out]; simp [hintI]), KK.row, HB.out w9 KK⟩
    · have hs1 : ((s : Int) == 0) = false := by rw [beq_eq_false_iff_ne]; omega
      have hs1' : ¬ (s : Int) = 0 := by omega
      by_cases hs2 : s = 12
      · subst hs2
        go_wp2
        refine bodyPost_ret (v := .tuple #[.int .i64 R1, .int .i64 2]) (by simp [results, Tryz.results114, go_sem]) rfl ⟨(by rw [HR2.out]; simp [hintI]), KK.row, HB.out w9 KK⟩
      · have hs3 : ((s : Int) == 12) = false := by rw [beq_eq_false_iff_ne]; omega
        have hs3' : ¬ (s : Int) = 12 := by omega
        go_wp2
        refine bodyPost_ret (v := .tuple #[.int .i64 R1, .int .i64 0]) (by simp [results, Tryz.results114, go_sem]) rfl ⟨(by rw [HR2.out]; simp [hintI, hs0, hs2]), KK.row, HB.out w9 KK⟩
  · have h50' : ¬ (50 : Int) ≤ l := by omega
    obtain ⟨m, s, e4⟩ : ∃ m s, median lt8 d i j k 0 = (m, s) := ⟨_, _, rfl⟩
    have HCP2 := HCP.out
    simp only [if_neg (show ¬ l ≥ 50 from h50), e4] at HCP2
    injection HCP2 with r1 r2
    subst r1
    have HR2 := Lib.hid r2
    clear HCP r2
    have H4 := Lib.hid (median_x (a := i) (b := j) (c := k) L0 hn (by omega) (by omega) (by omega) hpg hpl (by omega))
    rw [e4] at H4
    clear e4
    go_wp2_with fail
    refine H4.out.mono ?_
    rintro e w9 ⟨rfl, KK⟩
    have kc := KK.cell
    clear H4
    by_cases hs0 : s = 0
    · subst hs0
      go_wp2
      refine bodyPost_ret (v := .tuple #[.int .i64 R1, .int .i64 1]) (by simp [results, Tryz.results114, go_sem]) rfl ⟨(by rw [HR2.out]; simp [hintI]), KK.row, HB.out w9 KK⟩
    · have hs1 : ((s : Int) == 0) = false := by rw [beq_eq_false_iff_ne]; omega
      have hs1' : ¬ (s : Int) = 0 := by omega
      by_cases hs2 : s = 12
      · subst hs2
        go_wp2
        refine bodyPost_ret (v := .tuple #[.int .i64 R1, .int .i64 2]) (by simp [results, Tryz.results114, go_sem]) rfl ⟨(by rw [HR2.out]; simp [hintI]), KK.row, HB.out w9 KK⟩
      · have hs3 : ((s : Int) == 12) = false := by rw [beq_eq_false_iff_ne]; omega
        have hs3' : ¬ (s : Int) = 12 := by omega
        go_wp2
        refine bodyPost_ret (v := .tuple #[.int .i64 R1, .int .i64 0]) (by simp [results, Tryz.results114, go_sem]) rfl ⟨(by rw [HR2.out]; simp [hintI, hs0, hs2]), KK.row, HB.out w9 KK⟩
end Go.Proofs.YtebbnmjmjoklmaaGreatDoor
