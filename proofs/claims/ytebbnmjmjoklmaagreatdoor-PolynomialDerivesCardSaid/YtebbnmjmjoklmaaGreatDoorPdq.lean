/-
  slices.pdqsortCmpFunc over fewer than fifty terms of a row, with the order of the normal form.
-/
import Derived.Test.YtebbnmjmjoklmaaGreatDoorPartn
import Derived.Test.YtebbnmjmjoklmaaGreatDoorPartEq
import Derived.Test.YtebbnmjmjoklmaaGreatDoorPartIns
import Derived.Test.YtebbnmjmjoklmaaGreatDoorBreak
import Derived.Test.YtebbnmjmjoklmaaGreatDoorHeap
import Derived.Test.YtebbnmjmjoklmaaGreatDoorPivot
import Derived.Test.YtebbnmjmjoklmaaGreatDoorInsertAB
import Derived.Sort.Walk13a
import Derived.Sort.AssemblyPlain
namespace Go.Proofs.YtebbnmjmjoklmaaGreatDoor
open Go Go.RowKit Go.WideMaps Go.Sort
set_option maxRecDepth 20000

theorem median_mem {lt : Q8 → Q8 → Bool} {d : Array Q8} {a b c s : Nat} : (median lt d a b c s).1 = a ∨ (median lt d a b c s).1 = b ∨ (median lt d a b c s).1 = c := by
  unfold median order2
  simp only
  repeat' split
  all_goals simp
theorem cp_mid {d : Array Q8} {a b : Nat} (h13 : 12 < b - a) (h50 : b - a < 50) : a < (choosePivot lt8 d a b).1 ∧ (choosePivot lt8 d a b).1 + 1 < b := by
  unfold choosePivot
  simp only [if_pos (show b - a ≥ 8 by omega), if_neg (show ¬ b - a ≥ 50 by omega)]
  have := median_mem (lt := lt8) (d := d) (a := a + (b - a) / 4 * 1) (b := a + (b - a) / 4 * 2) (c := a + (b - a) / 4 * 3) (s := 0)
  omega
theorem rd50 {d : Array Q8} {a b lim : Nat} {wb wp : Bool} (h13 : 12 < b - a) (h50 : b - a < 50) (hb : b ≤ d.size) :
    (rd lt8 d a b lim wb wp).d1.size = d.size ∧ (a < (rd lt8 d a b lim wb wp).c.1 ∧ (rd lt8 d a b lim wb wp).c.1 + 1 < b) ∧ (rd lt8 d a b lim wb wp).d2.size = d.size ∧ (a < (rd lt8 d a b lim wb wp).pivot ∧ (rd lt8 d a b lim wb wp).pivot < b) ∧ (rd lt8 d a b lim wb wp).pi.1 = (rd lt8 d a b lim wb wp).d2 := by
  have p1 : PermIn a b d (rd lt8 d a b lim wb wp).d1 := step_break d (by omega) hb ((!wb) = true)
  have c1 : a < (rd lt8 d a b lim wb wp).c.1 ∧ (rd lt8 d a b lim wb wp).c.1 + 1 < b := cp_mid h13 h50
  have p2 : PermIn a b (rd lt8 d a b lim wb wp).d1 (rd lt8 d a b lim wb wp).d2 := step_reverse reverseRange_holds (rd lt8 d a b lim wb wp).d1 (by omega) (by rw [p1.1]; exact hb) ((rd lt8 d a b lim wb wp).c.2 = .decreasing)
  refine ⟨p1.1, c1, p2.1.trans p1.1, ?_, ?_⟩
  · by_cases hd : (rd lt8 d a b lim wb wp).c.2 = .decreasing
    · rw [(rd_dec hd).2.1]; omega
    · rw [(rd_not hd).2.1]; omega
  · cases hq : (wb && wp && decide ((rd lt8 d a b lim wb wp).hint = .increasing)) with
    | true => rw [rd_pi_yes hq, pins_same h50]
    | false => rw [rd_pi_no hq]
theorem peq_loop {lt : Q8 → Q8 → Bool} {a : Nat} : ∀ (m i j : Nat) (d : Array Q8), j + 1 - i ≤ m → i ≤ (partEqLoop lt a i j d).1 ∧ (partEqLoop lt a i j d).1 ≤ max i (j + 1) := by
  intro m
  induction m with
  | zero =>
    intro i j d h
    unfold partEqLoop
    have e1 : scanUp (fun x => !lt d[a]! x) d j i = i := up_stop (.inl (by omega))
    have e2 : scanDown (fun x => lt d[a]! x) d i j = j := down_stop (.inl (by omega))
    simp only [e1, e2]
    rw [if_pos (by omega)]
    exact ⟨Nat.le_refl _, by omega⟩
  | succ m ih =>
    intro i j d h
    unfold partEqLoop
    obtain ⟨i2, e1⟩ : ∃ i2, scanUp (fun x => !lt d[a]! x) d j i = i2 := ⟨_, rfl⟩
    obtain ⟨j2, e2⟩ : ∃ j2, scanDown (fun x => lt d[a]! x) d i2 j = j2 := ⟨_, rfl⟩
    obtain ⟨s1, s2, _⟩ := scanUp_spec (fun x => !lt d[a]! x) d j _ i rfl
    have s3 := scanDown_le (fun x => lt d[a]! x) d i2 j
    rw [e1] at s1 s2
    rw [e2] at s3
    simp only [e1, e2]
    by_cases hg : i2 > j2
    · rw [if_pos hg]
      refine ⟨s1, ?_⟩
      show i2 ≤ _
      by_cases hi : i ≤ j + 1
      · have := s2 hi; omega
      · have : i2 = i := by rw [← e1]; exact up_stop (.inl (by omega))
        omega
    · rw [if_neg hg]
      split
      · obtain ⟨h1, h2⟩ := ih (i2 + 1) (j2 - 1) (swp d i2 j2) (by omega)
        exact ⟨by omega, by omega⟩
      · exact ⟨s1, by show i2 ≤ _; omega⟩
theorem peq_range {d : Array Q8} {a b pv : Nat} (hab : a + 1 < b) : a < (partitionEqual lt8 d a b pv).1 ∧ (partitionEqual lt8 d a b pv).1 ≤ b := by
  have := peq_loop (lt := lt8) (a := a) (b - 1 + 1 - (a + 1)) (a + 1) (b - 1) (swp d a pv) (Nat.le_refl _)
  unfold partitionEqual
  omega
theorem rowOf_len : ∀ (l : List Tm), (∀ t ∈ l, t.L.length = 8) → (rowOf l).length = l.length * 11
  | [], _ => rfl
  | t :: l, h => by
    have e := rowOf_len l fun u hu => h u (List.mem_cons_of_mem _ hu)
    have e2 : rowOf (t :: l) = t.cells ++ rowOf l := rfl
    rw [e2, List.length_append, e, Tm.length (h t (List.mem_cons_self ..)), List.length_cons]
    omega
theorem row_size {w : World} {base g cap n : Nat} {d : Array Q8} (h : w.ownsRow base 47 11 (.slice (some ⟨g, 0, none⟩) n cap) n (rowOf (tms (cs8 d)))) : d.size = n := by
  have h1 := h.1
  rw [rowOf_len _ (tms8 d), tms8_length] at h1
  omega
theorem hintI_dec {h : Hint} : (hintI h = 2 ↔ h = .decreasing) ∧ (hintI h = 1 ↔ h = .increasing) := by
  cases h <;> simp [hintI]

set_option maxHeartbeats 40000000 in
theorem pdq_x : ∀ (N : Nat) {w : World} {base g cap a b limit : Nat} {d : Array Q8}, b - a < N → w.ownsRow base 47 11 (.slice (some ⟨g, 0, none⟩) d.size cap) d.size (rowOf (tms (cs8 d))) → d.size < 1000000 → b - a < 50 → a ≤ b → b ≤ d.size → limit < 1000000 →
    Calls Tryz.prog 84 #[.slice (some ⟨g, 0, none⟩) d.size cap, .int .i64 a, .int .i64 b, .int .i64 limit, .func (.func 65) #[.int .i64 (-1)] #[]] w fun e w' => e = .returned (.tuple #[]) ∧ w'.ownsRow base 47 11 (.slice (some ⟨g, 0, none⟩) d.size cap) d.size (rowOf (tms (cs8 (pdq lt8 d a b limit true true)))) ∧ Keeps g g g w w' := by
  intro N
  induction N with
  | zero => intro w base g cap a b limit d h; omega
  | succ N ih =>
  intro w base g cap a b limit d hN hrow hn h50 hab hb hlim
  obtain ⟨n, hlen⟩ : ∃ n, d.size = n := ⟨_, rfl⟩
  obtain ⟨R, hR⟩ : ∃ R, pdq lt8 d a b limit true true = R := ⟨_, rfl⟩
  have HR := Lib.hid hR
  rw [hR]
  rw [hlen] at hrow hn hb ⊢
  have HROW := Lib.hid hrow
  have IH : Hid (∀ {w : World} {a b limit : Nat} {d : Array Q8}, b - a < N → w.ownsRow base 47 11 (.slice (some ⟨g, 0, none⟩) n cap) n (rowOf (tms (cs8 d))) → b - a < 50 → a ≤ b → b ≤ n → limit < 1000000 →
    Calls Tryz.prog 84 #[.slice (some ⟨g, 0, none⟩) n cap, .int .i64 a, .int .i64 b, .int .i64 limit, .func (.func 65) #[.int .i64 (-1)] #[]] w fun e w' => e = .returned (.tuple #[]) ∧ w'.ownsRow base 47 11 (.slice (some ⟨g, 0, none⟩) n cap) n (rowOf (tms (cs8 (pdq lt8 d a b limit true true)))) ∧ Keeps g g g w w') := fun {w a b limit d} h1 h2 h3 h4 h5 h6 => by
    have hs := row_size h2
    subst hs
    exact ih h1 h2 hn h3 h4 h5 h6
  clear ih hR hrow
  have hmix : Tryz.prog.follows .mixedOrders = true := by kernel_rfl
  have hdi := hlen
  clear hlen
  go_enter Tryz.func84, Tryz.ntmps84
  go_wp2
  go_loopw [1, 2, 3, 10, 11] (fun av bv lv xv yv wq => ∃ (a' b' lim : Nat) (wb wp : Bool) (di : Array Q8), av = .int .i64 a' ∧ bv = .int .i64 b' ∧ lv = .int .i64 lim ∧ xv = .bool wb ∧ yv = .bool wp ∧ (a' ≤ b' ∧ b' - a' ≤ b - a ∧ b' ≤ n ∧ lim < 1000000 ∧ di.size = n) ∧ Hid (pdq lt8 di a' b' lim wb wp = R) ∧ Hid (wq.ownsRow base 47 11 (.slice (some ⟨g, 0, none⟩) n cap) n (rowOf (tms (cs8 di)))) ∧ Hid (Keeps g g g w wq)) (fun av bv _ _ _ _ => (intOf bv - intOf av).toNat)
  case atStart => exact ⟨a, b, limit, true, true, d, rfl, rfl, rfl, rfl, rfl, ⟨hab, Nat.le_refl _, hb, hlim, hdi⟩, HR, HROW, Keeps.refl ..⟩
  case round =>
    clear hdi
    obtain ⟨a', b', lim, wb, wp, di, rfl, rfl, rfl, rfl, rfl, ⟨hab', hba', hbn, hlm, hdi⟩, HL, HW, HK⟩ := hrel
    clear HR HROW
    have ai0 : (0 : Int) ≤ a' := by omega
    have ai1 : (a' : Int) ≤ b' := by omega
    have bi1 : (b' : Int) ≤ n := by omega
    have ni1 : (n : Int) < 1000000 := by omega
    have li0 : (0 : Int) ≤ lim := by omega
    have li1 : (lim : Int) < 1000000 := by omega
    by_cases h12 : b' - a' ≤ 12
    · have h12I : (b' : Int) - a' ≤ 12 := by omega
      have hRR : Hid (R = insertionSort lt8 di a' b') := by show _ = _; rw [← HL.out, pdq_small h12]
      have hi0 := insertAB_x (w := wr) (base := base) (g := g) (cap := cap) (a := a') (b := b') (d := di) (by rw [hdi]; exact HW.out) (by omega) hab' (by omega)
      rw [hdi, ← hRR.out] at hi0
      have HI := Lib.hid hi0
      clear hi0
      clear HL HW hRR IH
      go_wp2_with fail
      refine HI.out.mono ?_
      rintro e w2 ⟨rfl, r2, k2⟩
      have HW2 := Lib.hid r2
      have HK2 := Lib.hid (HK.out.trans k2)
      clear HI r2 k2 HK
      go_wp2
      exact bodyPost_ret (results_none rfl _ _ _) rfl ⟨rfl, HW2.out, HK2.out⟩
    · have h12I : ¬ (b' : Int) - a' ≤ 12 := by omega
      by_cases hl0 : lim = 0
      · subst hl0
        have hRR : Hid (R = heapSort lt8 di a' b') := by show _ = _; rw [← HL.out, pdq_heap h12 rfl]
        have hi0 := heap_x (w := wr) (base := base) (g := g) (cap := cap) (a := a') (b := b') (d := di) (by rw [hdi]; exact HW.out) (by omega) (by omega) (by omega)
        rw [hdi, ← hRR.out] at hi0
        have HI := Lib.hid hi0
        clear hi0
        clear HL HW hRR IH
        go_wp2_with fail
        refine HI.out.mono ?_
        rintro e w2 ⟨rfl, r2, k2⟩
        have HW2 := Lib.hid r2
        have HK2 := Lib.hid (HK.out.trans k2)
        clear HI r2 k2 HK
        go_wp2
        exact bodyPost_ret (results_none rfl _ _ _) rfl ⟨rfl, HW2.out, HK2.out⟩
      · have hl0I : ((lim : Int) == 0) = false := by rw [beq_eq_false_iff_ne]; omega
        have hl0J : ¬ (lim : Int) = 0 := by omega
        obtain ⟨X, hX⟩ : ∃ X, rd lt8 di a' b' lim wb wp = X := ⟨_, rfl⟩
        obtain ⟨x1, ⟨x2, x3⟩, x4, ⟨x5, x6⟩, x7⟩ := rd50 (d := di) (a := a') (b := b') (lim := lim) (wb := wb) (wp := wp) (by omega) (by omega) (by omega)
        have xl := rd_lim_le (lt := lt8) (d := di) (a := a') (b := b') (limit := lim) (wb := wb) (wp := wp)
        have HDEC : Hid (X.c.2 = .decreasing → X.d2 = reverseRange X.d1 a' b' ∧ X.pivot = (b' - 1) - (X.c.1 - a') ∧ X.hint = .increasing) := fun h => by rw [← hX] at h ⊢; exact rd_dec h
        have HNOT : Hid (X.c.2 ≠ .decreasing → X.d2 = X.d1 ∧ X.pivot = X.c.1 ∧ X.hint = X.c.2) := fun h => by rw [← hX] at h ⊢; exact rd_not h
        have HC : Hid (choosePivot lt8 X.d1 a' b' = X.c) := by show _ = _; rw [← hX]; rfl
        have HPY : Hid ((wb && wp && decide (X.hint = .increasing)) = true → X.pi.2 = (partialInsertionSort lt8 X.d2 a' b').2) := fun h => by rw [← hX] at h ⊢; rw [rd_pi_yes h]
        have HPN : Hid ((wb && wp && decide (X.hint = .increasing)) = false → X.pi.2 = false) := fun h => by rw [← hX] at h ⊢; rw [rd_pi_no h]
        have HBF : Hid (wb = false → X.d1 = breakPatterns di a' b' ∧ X.lim = lim - 1) := fun h => by subst h; rw [← hX]; exact rd_false
        have HBT : Hid (wb = true → X.d1 = di ∧ X.lim = lim) := fun h => by subst h; rw [← hX]; exact rd_true
        have HDONE : Hid (X.pi.2 = true → R = X.d2) := fun h => by rw [← HL.out, ← hX, ← x7]; exact pdq_done h12 hl0 (by rw [hX]; exact h)
        have HEQ : Hid (X.pi.2 = false → (decide (a' > 0) && !lt8 X.d2[a' - 1]! X.d2[X.pivot]!) = true → pdq lt8 (partitionEqual lt8 X.d2 a' b' X.pivot).2 (partitionEqual lt8 X.d2 a' b' X.pivot).1 b' X.lim wb wp = R) := fun h1 h2 => by
          have h3 := peq_range (d := X.d2) (a := a') (b := b') (pv := X.pivot) (by omega)
          rw [← HL.out]
          rw [hX] at x7
          have := pdq_eq (lt := lt8) (d := di) (a := a') (b := b') (limit := lim) (wb := wb) (wp := wp) h12 hl0 (by rw [hX]; exact h1) (by rw [hX, x7]; exact h2) (by rw [hX, x7]; exact h3)
          rw [this, hX, x7]
        have HPT : Hid (X.pi.2 = false → (decide (a' > 0) && !lt8 X.d2[a' - 1]! X.d2[X.pivot]!) = false → ∀ mid ap d4, partition lt8 X.d2 a' b' X.pivot = (mid, ap, d4) → (a' ≤ mid ∧ mid < b') ∧
            (mid - a' < b' - mid → pdq lt8 (pdq lt8 d4 a' mid X.lim true true) (mid + 1) b' X.lim (decide (mid - a' ≥ (b' - a') / 8)) ap = R) ∧
            (¬ mid - a' < b' - mid → pdq lt8 (pdq lt8 d4 (mid + 1) b' X.lim true true) a' mid X.lim (decide (b' - mid ≥ (b' - a') / 8)) ap = R)) := fun h1 h2 mid ap d4 hp => by
          rw [hX] at x4 x5 x6 x7
          obtain ⟨q1, q2, _⟩ := partition_holds lt8 swo8 X.d2 a' b' X.pivot (by omega) x6 (by omega)
          refine ⟨by rw [hp] at q1 q2; exact ⟨q1, q2⟩, fun h4 => ?_, fun h4 => ?_⟩
          · have := pdq_left (lt := lt8) (d := di) (a := a') (b := b') (limit := lim) (wb := wb) (wp := wp) h12 hl0 (by rw [hX]; exact h1) (by rw [hX, x7]; exact h2) (by rw [hX, x7]; exact ⟨q1, q2⟩) (by rw [hX, x7, hp]; exact h4)
            rw [hX, x7, hp, HL.out] at this
            exact this.symm
          · have := pdq_right (lt := lt8) (d := di) (a := a') (b := b') (limit := lim) (wb := wb) (wp := wp) h12 hl0 (by rw [hX]; exact h1) (by rw [hX, x7]; exact h2) (by rw [hX, x7]; exact ⟨q1, q2⟩) (by rw [hX, x7, hp]; exact h4)
            rw [hX, x7, hp, HL.out] at this
            exact this.symm
        rw [hX] at x1 x2 x3 x4 x5 x6 xl
        clear hX x7 HL
        go_upto_if 39 with fail
        go_cut [3] (fun lv wx => lv = .int .i64 X.lim ∧ Hid (wx.ownsRow base 47 11 (.slice (some ⟨g, 0, none⟩) n cap) n (rowOf (tms (cs8 X.d1)))) ∧ Hid (Keeps g g g w wx))
        case first =>
          cases wb with
          | true =>
            obtain ⟨e1, e2⟩ := HBT.out rfl
            have HW2 : Hid (wr.ownsRow base 47 11 (.slice (some ⟨g, 0, none⟩) n cap) n (rowOf (tms (cs8 X.d1)))) := by show World.ownsRow _ _ _ _ _ _ _; rw [e1]; exact HW.out
            have E2 := Lib.hid e2
            clear e1 e2
            simp only [Bool.not_true]
            go_wp2
            go_meet
            exact ⟨by rw [E2.out], HW2, HK⟩
          | false =>
            obtain ⟨e1, e2⟩ := HBF.out rfl
            have hi0 := break_x (w := wr) (base := base) (g := g) (cap := cap) (a := a') (b := b') (d := di) (by rw [hdi]; exact HW.out) (by omega) (by omega) (by omega) (by omega)
            rw [hdi, ← e1] at hi0
            have HI := Lib.hid hi0
            clear hi0
            have HLI : Hid ((lim : Int) - 1 = X.lim) := by show _ = _; omega
            clear e1 e2 HW
            simp only [Bool.not_false]
            go_wp2_with fail
            refine HI.out.mono ?_
            rintro e w2 ⟨rfl, r2, k2⟩
            have HW2 := Lib.hid r2
            have HK2 := Lib.hid (HK.out.trans k2)
            clear HI r2 k2 HK
            go_wp2
            go_meet
            exact ⟨congrArg (Value.int .i64) HLI.out, HW2, HK2⟩
        case rest =>
        obtain ⟨rfl, HW1, HK1⟩ := hcut
        clear HW HK HBF HBT
        have hi0 := choosePivot_x (w := wc) (base := base) (g := g) (cap := cap) (a := a') (l := b' - a') (d := X.d1) (by rw [x1, hdi]; exact HW1.out) (by omega) (by omega) (by omega) (by have := HW1.out.lt g rfl; omega)
        rw [show (a' : Int) + ((b' - a' : Nat) : Int) = (b' : Int) by omega, show a' + (b' - a') = b' by omega, HC.out, x1, hdi] at hi0
        have HI := Lib.hid hi0
        clear hi0
        clear HC
        obtain ⟨cp, hcp⟩ : ∃ cp, X.c.1 = cp := ⟨_, rfl⟩
        obtain ⟨ch, hch⟩ : ∃ ch, X.c.2 = ch := ⟨_, rfl⟩
        obtain ⟨hI, hhI⟩ : ∃ hI, hintI ch = hI := ⟨_, rfl⟩
        rw [hcp, hch, hhI] at HI
        rw [hch] at HDEC HNOT
        rw [hcp] at HDEC HNOT x2 x3
        have HHI := Lib.hid hhI
        clear hcp hch hhI
        go_wp2_with fail
        refine HI.out.mono ?_
        rintro e w2 ⟨rfl, r2, k2⟩
        have HW2 := Lib.hid r2
        have HK2 := Lib.hid (HK1.out.trans (Keeps.below k2))
        clear HI r2 k2 HW1 HK1
        go_upto_if 56 with fail
        go_cut [13, 14] (fun pv hv wx => pv = .int .i64 X.pivot ∧ hv = .int .i64 (hintI X.hint) ∧ Hid (wx.ownsRow base 47 11 (.slice (some ⟨g, 0, none⟩) n cap) n (rowOf (tms (cs8 X.d2)))) ∧ Hid (Keeps g g g w wx))
        case first =>
          by_cases hd : ch = .decreasing
          · obtain ⟨e1, e2, e3⟩ := HDEC.out hd
            have hh2 : hI = 2 := by rw [← HHI.out, hd]; rfl
            subst hh2
            have hi0 := reverse_x (w := w2) (base := base) (g := g) (cap := cap) (a := a') (b := b') (d := X.d1) (by rw [x1, hdi]; exact HW2.out) (by omega) (by omega) (by omega)
            rw [x1, hdi, ← e1] at hi0
            have HI := Lib.hid hi0
            clear hi0
            have HPI : Hid ((b' : Int) - 1 - ((cp : Int) - a') = X.pivot) := by show _ = _; omega
            have E3 := Lib.hid e3
            clear e1 e2 e3 HHI HW2
            simp only [beq_self_eq_true]
            go_wp2_with fail
            refine HI.out.mono ?_
            rintro e w3 ⟨rfl, r3, k3⟩
            have HW3 := Lib.hid r3
            have HK3 := Lib.hid (HK2.out.trans k3)
            clear HI r3 k3 HK2
            go_wp2
            go_meet
            exact ⟨congrArg (Value.int .i64) HPI.out, by rw [E3.out]; rfl, HW3, HK3⟩
          · obtain ⟨e1, e2, e3⟩ := HNOT.out hd
            have hh2 : (hI == 2) = false := by rw [beq_eq_false_iff_ne]; intro h; rw [← HHI.out] at h; exact hd (hintI_dec.1.1 h)
            have hh3 : ¬ hI = 2 := by simpa using hh2
            have HW3 : Hid (w2.ownsRow base 47 11 (.slice (some ⟨g, 0, none⟩) n cap) n (rowOf (tms (cs8 X.d2)))) := by show World.ownsRow _ _ _ _ _ _ _; rw [e1]; exact HW2.out
            have E2 := Lib.hid e2
            have E3 := Lib.hid e3
            clear e1 e2 e3 HW2
            simp only [hh2]
            go_wp2
            go_meet
            exact ⟨by rw [E2.out], by rw [E3.out, HHI.out], HW3, HK2⟩
        case rest =>
        obtain ⟨rfl, rfl, HW3, HK3⟩ := hcut
        clear HW2 HK2 HHI HDEC HNOT x2 x3
        obtain ⟨pv, hpv⟩ : ∃ pv, X.pivot = pv := ⟨_, rfl⟩
        obtain ⟨D, hD⟩ : ∃ D, X.d2 = D := ⟨_, rfl⟩
        obtain ⟨hi, hhi⟩ : ∃ hi, X.hint = hi := ⟨_, rfl⟩
        obtain ⟨l1, hl1⟩ : ∃ l1, X.lim = l1 := ⟨_, rfl⟩
        obtain ⟨pb, hpb⟩ : ∃ pb, X.pi.2 = pb := ⟨_, rfl⟩
        obtain ⟨hJ, hhJ⟩ : ∃ hJ, hintI hi = hJ := ⟨_, rfl⟩
        rw [hpv, hhi, hl1, hhJ]
        rw [hpv] at x5 x6 HEQ HPT
        rw [hD] at HW3 HPY HDONE HEQ HPT x4
        rw [hhi] at HPY HPN
        rw [hl1] at HEQ HPT xl
        rw [hpb] at HPY HPN HDONE HEQ HPT
        have HJ : Hid (hJ = 1 ↔ hi = .increasing) := by show _ ↔ _; rw [← hhJ]; exact hintI_dec.2
        have hDs : D.size = n := by omega
        clear hpv hD hhi hl1 hpb hhJ x1 x4 X hdi
        go_upto_region 15 with fail
        go_cut [75] (fun qv wx => ∃ q : Bool, qv = .bool q ∧ Hid ((wb && wp && decide (hi = .increasing)) = q) ∧ wx = wc)
        case first =>
          cases wb with
          | false =>
            go_wp2
            go_meet
            exact ⟨false, rfl, rfl, rfl⟩
          | true =>
            cases wp with
            | false =>
              go_wp2
              go_meet
              exact ⟨false, rfl, rfl, rfl⟩
            | true =>
              by_cases hq : hJ = 1
              · have HQ : Hid ((true && true && decide (hi = .increasing)) = true) := by show _ = _; rw [decide_eq_true (HJ.out.1 hq)]; rfl
                subst hq
                go_wp2
                go_meet
                exact ⟨true, rfl, HQ, rfl⟩
              · have HQ : Hid ((true && true && decide (hi = .increasing)) = false) := by show _ = _; rw [decide_eq_false (fun h => hq (HJ.out.2 h))]; rfl
                have hqb : (hJ == 1) = false := by rw [beq_eq_false_iff_ne]; exact hq
                go_wp2
                go_meet
                exact ⟨false, by first | rfl | rw [hqb], HQ, rfl⟩
        case rest =>
        obtain ⟨q, rfl, HQ, rfl⟩ := hcut
        go_upto_if 75 with fail
        go_cut [75] (fun _ wx => Hid (pb = false) ∧ Hid (wx.ownsRow base 47 11 (.slice (some ⟨g, 0, none⟩) n cap) n (rowOf (tms (cs8 D)))) ∧ Hid (Keeps g g g w wx))
        case first =>
          cases q with
          | false =>
            have HPB : Hid (pb = false) := HPN.out HQ.out
            go_wp2
            go_meet
            exact ⟨HPB, HW3, HK3⟩
          | true =>
            have hpb := HPY.out HQ.out
            have hi0 := partins_x (w := wc) (base := base) (g := g) (cap := cap) (a := a') (b := b') (d := D) (by rw [hDs]; exact HW3.out) (by omega) (by omega) (by omega) (by omega)
            rw [hDs, ← hpb] at hi0
            have HI := Lib.hid hi0
            clear hi0
            clear hpb HPY HPN HEQ HPT HW3
            cases pb with
            | true =>
              have hRR := HDONE.out rfl
              rw [← hRR] at HI
              clear hRR
              go_wp2_with fail
              refine HI.out.mono ?_
              rintro e w4 ⟨rfl, r4, k4⟩
              have HW4 := Lib.hid r4
              have HK4 := Lib.hid (HK3.out.trans k4)
              clear HI r4 k4 HK3
              go_wp2
              exact bodyPost_ret (results_none rfl _ _ _) rfl ⟨rfl, HW4.out, HK4.out⟩
            | false =>
              go_wp2_with fail
              refine HI.out.mono ?_
              rintro e w4 ⟨rfl, r4, k4⟩
              have HW4 := Lib.hid r4
              have HK4 := Lib.hid (HK3.out.trans k4)
              clear HI r4 k4 HK3
              go_wp2
              go_meet
              exact ⟨by first | exact rfl | exact trivial, HW4, HK4⟩
        case rest =>
        obtain ⟨HPB, HW4, HK4⟩ := hcut
        have HEQ := Lib.hid (HEQ.out HPB.out)
        have HPT := Lib.hid (HPT.out HPB.out)
        clear HPB HW3 HK3 HPY HPN HDONE HQ HJ
        go_upto_region 17 with fail
        go_cut [97] (fun qv wx => ∃ q : Bool, qv = .bool q ∧ Hid ((decide (a' > 0) && !lt8 D[a' - 1]! D[pv]!) = q) ∧ Hid (Below wc.heap.size wc wx))
        case first =>
          have hk : Below wc.heap.size wc wc.drew := (Below.refl _ wc).drew
          by_cases ha0 : a' = 0
          · subst ha0
            refine wp_region_held_drew (S := (fun _ => True)) (by kernel_rfl) ?_ (fun hHeld => ?_)
            · trivial
            refine wpAnyH_take (i := 0) (oi := ⟨some 81, _, _, _, _, _⟩) (v := ?_) rfl (by kernel_rfl) (by kernel_rfl) (by kernel_rfl) (fun _ _ _ h => h) (Or.inl ⟨by rfl, ?_⟩) (by assumption) ?_
            rotate_left
            · intro w hSw
              (try dsimp only at hSw)
              go_simp
              try with_reducible rfl
            try simp only [Act.put, List.setIfInBounds_toArray, List.set_cons_zero, List.set_cons_succ]
            refine wpAnyH_take (i := 1) (oi := ⟨some 82, _, _, _, _, _⟩) (v := ?_) rfl (by kernel_rfl) (by kernel_rfl) (by kernel_rfl) (fun _ _ _ h => h) (Or.inl ⟨by rfl, ?_⟩) (by assumption) ?_
            rotate_left
            · intro w hSw
              (try dsimp only at hSw)
              go_simp
              try with_reducible rfl
            try simp only [Act.put, List.setIfInBounds_toArray, List.set_cons_zero, List.set_cons_succ]
            refine wpAnyH_take (i := 2) (oi := ⟨some 83, _, _, _, _, _⟩) (v := ?_) rfl (by kernel_rfl) (by kernel_rfl) (by kernel_rfl) (fun _ _ _ h => h) (Or.inl ⟨by rfl, ?_⟩) (by assumption) ?_
            rotate_left
            · intro w hSw
              (try dsimp only at hSw)
              go_simp
              try with_reducible rfl
            try simp only [Act.put, List.setIfInBounds_toArray, List.set_cons_zero, List.set_cons_succ]
            refine wpAnyH_take (i := 3) (oi := ⟨some 84, _, _, _, _, _⟩) (v := undef) rfl (by kernel_rfl) (by kernel_rfl) (by kernel_rfl) (fun _ _ _ h => h) (Or.inr ⟨by rfl, rfl⟩) (by assumption) ?_
            try simp only [Act.put, List.setIfInBounds_toArray, List.set_cons_zero, List.set_cons_succ]
            refine wpAnyH_take (i := 4) (oi := ⟨some 85, _, _, _, _, _⟩) (v := undef) rfl (by kernel_rfl) (by kernel_rfl) (by kernel_rfl) (fun _ _ _ h => h) (Or.inr ⟨by rfl, rfl⟩) (by assumption) ?_
            try simp only [Act.put, List.setIfInBounds_toArray, List.set_cons_zero, List.set_cons_succ]
            refine wpAnyH_take (i := 5) (oi := ⟨some 86, _, _, _, _, _⟩) (v := undef) rfl (by kernel_rfl) (by kernel_rfl) (by kernel_rfl) (fun _ _ _ h => h) (Or.inr ⟨by rfl, rfl⟩) (by assumption) ?_
            try simp only [Act.put, List.setIfInBounds_toArray, List.set_cons_zero, List.set_cons_succ]
            refine wpAnyH_take (i := 6) (oi := ⟨some 87, _, _, _, _, _⟩) (v := undef) rfl (by kernel_rfl) (by kernel_rfl) (by kernel_rfl) (fun _ _ _ h => h) (Or.inr ⟨by rfl, rfl⟩) (by assumption) ?_
            try simp only [Act.put, List.setIfInBounds_toArray, List.set_cons_zero, List.set_cons_succ]
            refine wpAnyH_take (i := 7) (oi := ⟨some 88, _, _, _, _, _⟩) (v := undef) rfl (by kernel_rfl) (by kernel_rfl) (by kernel_rfl) (fun _ _ _ h => h) (Or.inr ⟨by rfl, rfl⟩) (by assumption) ?_
            try simp only [Act.put, List.setIfInBounds_toArray, List.set_cons_zero, List.set_cons_succ]
            refine wpAnyH_take (i := 8) (oi := ⟨some 89, _, _, _, _, _⟩) (v := undef) rfl (by kernel_rfl) (by kernel_rfl) (by kernel_rfl) (fun _ _ _ h => h) (Or.inr ⟨by rfl, rfl⟩) (by assumption) ?_
            try simp only [Act.put, List.setIfInBounds_toArray, List.set_cons_zero, List.set_cons_succ]
            refine wpAnyH_take (i := 9) (oi := ⟨some 90, _, _, _, _, _⟩) (v := undef) rfl (by kernel_rfl) (by kernel_rfl) (by kernel_rfl) (fun _ _ _ h => h) (Or.inr ⟨by rfl, rfl⟩) (by assumption) ?_
            try simp only [Act.put, List.setIfInBounds_toArray, List.set_cons_zero, List.set_cons_succ]
            refine wpAnyH_take (i := 10) (oi := ⟨some 91, _, _, _, _, _⟩) (v := undef) rfl (by kernel_rfl) (by kernel_rfl) (by kernel_rfl) (fun _ _ _ h => h) (Or.inr ⟨by rfl, rfl⟩) (by assumption) ?_
            try simp only [Act.put, List.setIfInBounds_toArray, List.set_cons_zero, List.set_cons_succ]
            refine wpAnyH_take (i := 11) (oi := ⟨some 92, _, _, _, _, _⟩) (v := undef) rfl (by kernel_rfl) (by kernel_rfl) (by kernel_rfl) (fun _ _ _ h => h) (Or.inr ⟨by rfl, rfl⟩) (by assumption) ?_
            try simp only [Act.put, List.setIfInBounds_toArray, List.set_cons_zero, List.set_cons_succ]
            refine wpAnyH_take (i := 12) (oi := ⟨some 93, _, _, _, _, _⟩) (v := undef) rfl (by kernel_rfl) (by kernel_rfl) (by kernel_rfl) (fun _ _ _ h => h) (Or.inr ⟨by rfl, rfl⟩) (by assumption) ?_
            try simp only [Act.put, List.setIfInBounds_toArray, List.set_cons_zero, List.set_cons_succ]
            refine wpAnyH_take (i := 13) (oi := ⟨some 94, _, _, _, _, _⟩) (v := undef) rfl (by kernel_rfl) (by kernel_rfl) (by kernel_rfl) (fun _ _ _ h => h) (Or.inr ⟨by rfl, rfl⟩) (by assumption) ?_
            try simp only [Act.put, List.setIfInBounds_toArray, List.set_cons_zero, List.set_cons_succ]
            refine wpAnyH_take (i := 14) (oi := ⟨some 95, _, _, _, _, _⟩) (v := undef) rfl (by kernel_rfl) (by kernel_rfl) (by kernel_rfl) (fun _ _ _ h => h) (Or.inr ⟨by rfl, rfl⟩) (by assumption) ?_
            try simp only [Act.put, List.setIfInBounds_toArray, List.set_cons_zero, List.set_cons_succ]
            refine wpAnyH_take (i := 15) (oi := ⟨some 96, _, _, _, _, _⟩) (v := undef) rfl (by kernel_rfl) (by kernel_rfl) (by kernel_rfl) (fun _ _ _ h => h) (Or.inr ⟨by rfl, rfl⟩) (by assumption) ?_
            try simp only [Act.put, List.setIfInBounds_toArray, List.set_cons_zero, List.set_cons_succ]
            refine wpAnyH_take (i := 16) (oi := ⟨some 97, _, _, _, _, _⟩) (v := ?_) rfl (by kernel_rfl) (by kernel_rfl) (by kernel_rfl) (fun _ _ _ h => h) (Or.inl ⟨by rfl, ?_⟩) (by assumption) ?_
            rotate_left
            · intro w hSw
              (try dsimp only at hSw)
              go_simp
              try with_reducible rfl
            try simp only [Act.put, List.setIfInBounds_toArray, List.set_cons_zero, List.set_cons_succ]
            refine wpAnyH_done (by kernel_rfl) ?_ _
            go_wp2
            go_meet
            exact ⟨false, rfl, rfl, hk⟩
          · obtain ⟨m, rfl⟩ : ∃ m, a' = m + 1 := ⟨a' - 1, by omega⟩
            have hp1 : (m : Int) + 1 < n := by omega
            have hp2 : (m : Int) < n := by omega
            have hp3 : (0 : Int) ≤ (m : Int) + 1 := by omega
            have hp4 : (0 : Int) < (m : Int) + 1 := by omega
            have hp5 : (0 : Int) ≤ (m : Int) := by omega
            have hp7 : IntKind.i64.wrap (m : Int) = (m : Int) := by rw [IntKind.wrap_i64]; omega
            have pq1 : (pv : Int) < n := by omega
            have pq0 : (0 : Int) ≤ pv := by omega
            have mn : m < n := by omega
            have pn : pv < n := by omega
            obtain ⟨xa, hxa⟩ : ∃ x, D[m]! = x := ⟨_, rfl⟩
            obtain ⟨xb, hxb⟩ : ∃ x, D[pv]! = x := ⟨_, rfl⟩
            have hsj : (tms (cs8 D))[m]? = some D[m]!.1.1 := tms8_get (by omega)
            have hsp : (tms (cs8 D))[pv]? = some D[pv]!.1.1 := tms8_get (by omega)
            rw [hxa] at hsj
            rw [hxb] at hsp
            have hlt8 := lt8_cmp xa xb
            obtain ⟨x0, x1, x2, x3, x4, x5, x6, x7, hX⟩ := eight xa.2
            obtain ⟨y0, y1, y2, y3, y4, y5, y6, y7, hY⟩ := eight xb.2
            have hb1 : RowBox g (m) x0 x1 x2 x3 x4 x5 x6 x7 xa.1.1 wc := row_cells HW4.out (tms8 D) (by rw [tms8_length, hDs]) hsj hX
            have hb2 : RowBox g (pv) y0 y1 y2 y3 y4 y5 y6 y7 xb.1.1 wc := row_cells HW4.out (tms8 D) (by rw [tms8_length, hDs]) hsp hY
            have hgl : g < wc.heap.size := (HW4.out.lt g rfl).2
            obtain ⟨r, hr⟩ : ∃ r, -cmpL [x0, x1, x2, x3, x4, x5, x6, x7] [y0, y1, y2, y3, y4, y5, y6, y7] = r := ⟨_, rfl⟩
            have HC : Hid (∀ W, Calls Tryz.prog 65 #[.int .i64 (-1), .agg #[.int .i64 x0, .int .i64 x1, .int .i64 x2, .int .i64 x3, .int .i64 x4, .int .i64 x5, .int .i64 x6, .int .i64 x7, .bool xa.1.1.s, .slice xa.1.1.A xa.1.1.n xa.1.1.c, .slice xa.1.1.B xa.1.1.m xa.1.1.d], .agg #[.int .i64 y0, .int .i64 y1, .int .i64 y2, .int .i64 y3, .int .i64 y4, .int .i64 y5, .int .i64 y6, .int .i64 y7, .bool xb.1.1.s, .slice xb.1.1.A xb.1.1.n xb.1.1.c, .slice xb.1.1.B xb.1.1.m xb.1.1.d]] W fun e w' => e = .returned (.int .i64 r) ∧ Below W.heap.size W w') := fun W => by
              rw [← hr]; exact compare_x _ _ _ _ _ _ _ _ _ _ _ _ _ _ _ _ _ _ _ _ _ _ _ _ _ _ _ _ _ _ _
            rw [hX, hY, hr] at hlt8
            have HBX : Hid (∀ W, Below wc.heap.size wc W → RowBox g (m) x0 x1 x2 x3 x4 x5 x6 x7 xa.1.1 W ∧ RowBox g (pv) y0 y1 y2 y3 y4 y5 y6 y7 xb.1.1 W) := fun W hW => ⟨hb1.below hW hgl, hb2.below hW hgl⟩
            have HLT := Lib.hid hlt8
            have HXI := Lib.hid hxa
            have HXJ := Lib.hid hxb
            clear hX hY hsj hsp hlt8 hxa hxb hr hb1 hb2 hgl
            by_cases hlv : r < 0
            · have HU : Hid ((decide (m + 1 > 0) && !lt8 D[m + 1 - 1]! D[pv]!) = false) := by
                show _ = _
                rw [Nat.add_sub_cancel, HXI.out, HXJ.out, HLT.out.1 hlv]; simp
              clear HXI HXJ HLT
              refine wp_region_held_drew (S := (fun W => RowBox g (m) x0 x1 x2 x3 x4 x5 x6 x7 xa.1.1 W ∧ RowBox g (pv) y0 y1 y2 y3 y4 y5 y6 y7 xb.1.1 W)) (by kernel_rfl) ?_ (fun hHeld => ?_)
              · exact HBX.out _ hk
              refine wpAnyH_take (i := 0) (oi := ⟨some 81, _, _, _, _, _⟩) (v := ?_) rfl (by kernel_rfl) (by kernel_rfl) (by kernel_rfl) (fun _ _ _ h => h) (Or.inl ⟨by rfl, ?_⟩) (by assumption) ?_
              rotate_left
              · intro w hSw
                (try dsimp only at hSw)
                unfold RowBox at hSw
                obtain ⟨⟨h0, h1, h2, h3, h4, h5, h6, h7, h8, h9, h10⟩, j0, j1, j2, j3, j4, j5, j6, j7, j8, j9, j10⟩ := hSw
                go_simp
                try with_reducible rfl
              try simp only [Act.put, List.setIfInBounds_toArray, List.set_cons_zero, List.set_cons_succ]
              refine wpAnyH_take (i := 1) (oi := ⟨some 82, _, _, _, _, _⟩) (v := ?_) rfl (by kernel_rfl) (by kernel_rfl) (by kernel_rfl) (fun _ _ _ h => h) (Or.inl ⟨by rfl, ?_⟩) (by assumption) ?_
              rotate_left
              · intro w hSw
                (try dsimp only at hSw)
                unfold RowBox at hSw
                obtain ⟨⟨h0, h1, h2, h3, h4, h5, h6, h7, h8, h9, h10⟩, j0, j1, j2, j3, j4, j5, j6, j7, j8, j9, j10⟩ := hSw
                go_simp
                try with_reducible rfl
              try simp only [Act.put, List.setIfInBounds_toArray, List.set_cons_zero, List.set_cons_succ]
              refine wpAnyH_take (i := 2) (oi := ⟨some 83, _, _, _, _, _⟩) (v := ?_) rfl (by kernel_rfl) (by kernel_rfl) (by kernel_rfl) (fun _ _ _ h => h) (Or.inl ⟨by rfl, ?_⟩) (by assumption) ?_
              rotate_left
              · intro w hSw
                (try dsimp only at hSw)
                unfold RowBox at hSw
                obtain ⟨⟨h0, h1, h2, h3, h4, h5, h6, h7, h8, h9, h10⟩, j0, j1, j2, j3, j4, j5, j6, j7, j8, j9, j10⟩ := hSw
                go_simp
                try with_reducible rfl
              try simp only [Act.put, List.setIfInBounds_toArray, List.set_cons_zero, List.set_cons_succ]
              refine wpAnyH_take (i := 3) (oi := ⟨some 84, _, _, _, _, _⟩) (v := ?_) rfl (by kernel_rfl) (by kernel_rfl) (by kernel_rfl) (fun _ _ _ h => h) (Or.inl ⟨by rfl, ?_⟩) (by assumption) ?_
              rotate_left
              · intro w hSw
                (try dsimp only at hSw)
                unfold RowBox at hSw
                obtain ⟨⟨h0, h1, h2, h3, h4, h5, h6, h7, h8, h9, h10⟩, j0, j1, j2, j3, j4, j5, j6, j7, j8, j9, j10⟩ := hSw
                go_simp
                try with_reducible rfl
              try simp only [Act.put, List.setIfInBounds_toArray, List.set_cons_zero, List.set_cons_succ]
              refine wpAnyH_take (i := 4) (oi := ⟨some 85, _, _, _, _, _⟩) (v := ?_) rfl (by kernel_rfl) (by kernel_rfl) (by kernel_rfl) (fun _ _ _ h => h) (Or.inl ⟨by rfl, ?_⟩) (by assumption) ?_
              rotate_left
              · intro w hSw
                (try dsimp only at hSw)
                unfold RowBox at hSw
                obtain ⟨⟨h0, h1, h2, h3, h4, h5, h6, h7, h8, h9, h10⟩, j0, j1, j2, j3, j4, j5, j6, j7, j8, j9, j10⟩ := hSw
                go_simp
                try with_reducible rfl
              try simp only [Act.put, List.setIfInBounds_toArray, List.set_cons_zero, List.set_cons_succ]
              refine wpAnyH_take (i := 5) (oi := ⟨some 86, _, _, _, _, _⟩) (v := ?_) rfl (by kernel_rfl) (by kernel_rfl) (by kernel_rfl) (fun _ _ _ h => h) (Or.inl ⟨by rfl, ?_⟩) (by assumption) ?_
              rotate_left
              · intro w hSw
                (try dsimp only at hSw)
                unfold RowBox at hSw
                obtain ⟨⟨h0, h1, h2, h3, h4, h5, h6, h7, h8, h9, h10⟩, j0, j1, j2, j3, j4, j5, j6, j7, j8, j9, j10⟩ := hSw
                go_simp
                try with_reducible rfl
              try simp only [Act.put, List.setIfInBounds_toArray, List.set_cons_zero, List.set_cons_succ]
              refine wpAnyH_take (i := 6) (oi := ⟨some 87, _, _, _, _, _⟩) (v := ?_) rfl (by kernel_rfl) (by kernel_rfl) (by kernel_rfl) (fun _ _ _ h => h) (Or.inl ⟨by rfl, ?_⟩) (by assumption) ?_
              rotate_left
              · intro w hSw
                (try dsimp only at hSw)
                unfold RowBox at hSw
                obtain ⟨⟨h0, h1, h2, h3, h4, h5, h6, h7, h8, h9, h10⟩, j0, j1, j2, j3, j4, j5, j6, j7, j8, j9, j10⟩ := hSw
                go_simp
                try with_reducible rfl
              try simp only [Act.put, List.setIfInBounds_toArray, List.set_cons_zero, List.set_cons_succ]
              refine wpAnyH_take (i := 7) (oi := ⟨some 88, _, _, _, _, _⟩) (v := ?_) rfl (by kernel_rfl) (by kernel_rfl) (by kernel_rfl) (fun _ _ _ h => h) (Or.inl ⟨by rfl, ?_⟩) (by assumption) ?_
              rotate_left
              · intro w hSw
                (try dsimp only at hSw)
                unfold RowBox at hSw
                obtain ⟨⟨h0, h1, h2, h3, h4, h5, h6, h7, h8, h9, h10⟩, j0, j1, j2, j3, j4, j5, j6, j7, j8, j9, j10⟩ := hSw
                go_simp
                try with_reducible rfl
              try simp only [Act.put, List.setIfInBounds_toArray, List.set_cons_zero, List.set_cons_succ]
              refine wpAnyH_take (i := 8) (oi := ⟨some 89, _, _, _, _, _⟩) (v := ?_) rfl (by kernel_rfl) (by kernel_rfl) (by kernel_rfl) (fun _ _ _ h => h) (Or.inl ⟨by rfl, ?_⟩) (by assumption) ?_
              rotate_left
              · intro w hSw
                (try dsimp only at hSw)
                unfold RowBox at hSw
                obtain ⟨⟨h0, h1, h2, h3, h4, h5, h6, h7, h8, h9, h10⟩, j0, j1, j2, j3, j4, j5, j6, j7, j8, j9, j10⟩ := hSw
                go_simp
                try with_reducible rfl
              try simp only [Act.put, List.setIfInBounds_toArray, List.set_cons_zero, List.set_cons_succ]
              refine wpAnyH_take (i := 9) (oi := ⟨some 90, _, _, _, _, _⟩) (v := ?_) rfl (by kernel_rfl) (by kernel_rfl) (by kernel_rfl) (fun _ _ _ h => h) (Or.inl ⟨by rfl, ?_⟩) (by assumption) ?_
              rotate_left
              · intro w hSw
                (try dsimp only at hSw)
                unfold RowBox at hSw
                obtain ⟨⟨h0, h1, h2, h3, h4, h5, h6, h7, h8, h9, h10⟩, j0, j1, j2, j3, j4, j5, j6, j7, j8, j9, j10⟩ := hSw
                go_simp
                try with_reducible rfl
              try simp only [Act.put, List.setIfInBounds_toArray, List.set_cons_zero, List.set_cons_succ]
              refine wpAnyH_take (i := 10) (oi := ⟨some 91, _, _, _, _, _⟩) (v := ?_) rfl (by kernel_rfl) (by kernel_rfl) (by kernel_rfl) (fun _ _ _ h => h) (Or.inl ⟨by rfl, ?_⟩) (by assumption) ?_
              rotate_left
              · intro w hSw
                (try dsimp only at hSw)
                unfold RowBox at hSw
                obtain ⟨⟨h0, h1, h2, h3, h4, h5, h6, h7, h8, h9, h10⟩, j0, j1, j2, j3, j4, j5, j6, j7, j8, j9, j10⟩ := hSw
                go_simp
                try with_reducible rfl
              try simp only [Act.put, List.setIfInBounds_toArray, List.set_cons_zero, List.set_cons_succ]
              refine wpAnyH_take (i := 11) (oi := ⟨some 92, _, _, _, _, _⟩) (v := ?_) rfl (by kernel_rfl) (by kernel_rfl) (by kernel_rfl) (fun _ _ _ h => h) (Or.inl ⟨by rfl, ?_⟩) (by assumption) ?_
              rotate_left
              · intro w hSw
                (try dsimp only at hSw)
                unfold RowBox at hSw
                obtain ⟨⟨h0, h1, h2, h3, h4, h5, h6, h7, h8, h9, h10⟩, j0, j1, j2, j3, j4, j5, j6, j7, j8, j9, j10⟩ := hSw
                go_simp
                try with_reducible rfl
              try simp only [Act.put, List.setIfInBounds_toArray, List.set_cons_zero, List.set_cons_succ]
              refine wpAnyH_take (i := 12) (oi := ⟨some 93, _, _, _, _, _⟩) (v := ?_) rfl (by kernel_rfl) (by kernel_rfl) (by kernel_rfl) (fun _ _ _ h => h) (Or.inl ⟨by rfl, ?_⟩) (by assumption) ?_
              rotate_left
              · intro w hSw
                (try dsimp only at hSw)
                unfold RowBox at hSw
                obtain ⟨⟨h0, h1, h2, h3, h4, h5, h6, h7, h8, h9, h10⟩, j0, j1, j2, j3, j4, j5, j6, j7, j8, j9, j10⟩ := hSw
                go_simp
                try with_reducible rfl
              try simp only [Act.put, List.setIfInBounds_toArray, List.set_cons_zero, List.set_cons_succ]
              refine wpAnyH_ready (rs := [13]) (by kernel_rfl) (by simp) ?_
              refine AllReadyH.cons (o := ⟨some 94, _, _, _, _, _⟩) rfl (fun K hK => ?_) AllReadyH.nil
              go_simp
              go_at_call 65
              refine (HC.out _).mono ?_
              rintro e w3 ⟨rfl, e3⟩
              replace hk := nextB hk e3
              go_wp2_with fail
              refine hK.out _ _ (HBX.out _ hk) (fun hHeld => ?_)
              clear hK K
              try simp only [Act.put, List.setIfInBounds_toArray, List.set_cons_zero, List.set_cons_succ]
              refine wpAnyH_take (i := 14) (oi := ⟨some 95, _, _, _, _, _⟩) (v := ?_) rfl (by kernel_rfl) (by kernel_rfl) (by kernel_rfl) (fun _ _ _ h => h) (Or.inl ⟨by rfl, ?_⟩) (by assumption) ?_
              rotate_left
              · intro w hSw
                (try dsimp only at hSw)
                unfold RowBox at hSw
                obtain ⟨⟨h0, h1, h2, h3, h4, h5, h6, h7, h8, h9, h10⟩, j0, j1, j2, j3, j4, j5, j6, j7, j8, j9, j10⟩ := hSw
                go_simp
                try with_reducible rfl
              try simp only [Act.put, List.setIfInBounds_toArray, List.set_cons_zero, List.set_cons_succ]
              refine wpAnyH_take (i := 15) (oi := ⟨some 96, _, _, _, _, _⟩) (v := ?_) rfl (by kernel_rfl) (by kernel_rfl) (by kernel_rfl) (fun _ _ _ h => h) (Or.inl ⟨by rfl, ?_⟩) (by assumption) ?_
              rotate_left
              · intro w hSw
                (try dsimp only at hSw)
                unfold RowBox at hSw
                obtain ⟨⟨h0, h1, h2, h3, h4, h5, h6, h7, h8, h9, h10⟩, j0, j1, j2, j3, j4, j5, j6, j7, j8, j9, j10⟩ := hSw
                go_simp
                try with_reducible rfl
              try simp only [Act.put, List.setIfInBounds_toArray, List.set_cons_zero, List.set_cons_succ]
              refine wpAnyH_take (i := 16) (oi := ⟨some 97, _, _, _, _, _⟩) (v := ?_) rfl (by kernel_rfl) (by kernel_rfl) (by kernel_rfl) (fun _ _ _ h => h) (Or.inl ⟨by rfl, ?_⟩) (by assumption) ?_
              rotate_left
              · intro w hSw
                (try dsimp only at hSw)
                unfold RowBox at hSw
                obtain ⟨⟨h0, h1, h2, h3, h4, h5, h6, h7, h8, h9, h10⟩, j0, j1, j2, j3, j4, j5, j6, j7, j8, j9, j10⟩ := hSw
                go_simp
                try with_reducible rfl
              try simp only [Act.put, List.setIfInBounds_toArray, List.set_cons_zero, List.set_cons_succ]
              refine wpAnyH_done (by kernel_rfl) ?_ _
              go_wp2
              go_meet
              exact ⟨false, rfl, HU, hk⟩
            · have HU : Hid ((decide (m + 1 > 0) && !lt8 D[m + 1 - 1]! D[pv]!) = true) := by
                show _ = _
                have hq : lt8 xa xb = false := by
                  cases hq : lt8 xa xb with
                  | false => rfl
                  | true => exact absurd (HLT.out.2 hq) hlv
                rw [Nat.add_sub_cancel, HXI.out, HXJ.out, hq, decide_eq_true (by omega)]; rfl
              clear HXI HXJ HLT
              refine wp_region_held_drew (S := (fun W => RowBox g (m) x0 x1 x2 x3 x4 x5 x6 x7 xa.1.1 W ∧ RowBox g (pv) y0 y1 y2 y3 y4 y5 y6 y7 xb.1.1 W)) (by kernel_rfl) ?_ (fun hHeld => ?_)
              · exact HBX.out _ hk
              refine wpAnyH_take (i := 0) (oi := ⟨some 81, _, _, _, _, _⟩) (v := ?_) rfl (by kernel_rfl) (by kernel_rfl) (by kernel_rfl) (fun _ _ _ h => h) (Or.inl ⟨by rfl, ?_⟩) (by assumption) ?_
              rotate_left
              · intro w hSw
                (try dsimp only at hSw)
                unfold RowBox at hSw
                obtain ⟨⟨h0, h1, h2, h3, h4, h5, h6, h7, h8, h9, h10⟩, j0, j1, j2, j3, j4, j5, j6, j7, j8, j9, j10⟩ := hSw
                go_simp
                try with_reducible rfl
              try simp only [Act.put, List.setIfInBounds_toArray, List.set_cons_zero, List.set_cons_succ]
              refine wpAnyH_take (i := 1) (oi := ⟨some 82, _, _, _, _, _⟩) (v := ?_) rfl (by kernel_rfl) (by kernel_rfl) (by kernel_rfl) (fun _ _ _ h => h) (Or.inl ⟨by rfl, ?_⟩) (by assumption) ?_
              rotate_left
              · intro w hSw
                (try dsimp only at hSw)
                unfold RowBox at hSw
                obtain ⟨⟨h0, h1, h2, h3, h4, h5, h6, h7, h8, h9, h10⟩, j0, j1, j2, j3, j4, j5, j6, j7, j8, j9, j10⟩ := hSw
                go_simp
                try with_reducible rfl
              try simp only [Act.put, List.setIfInBounds_toArray, List.set_cons_zero, List.set_cons_succ]
              refine wpAnyH_take (i := 2) (oi := ⟨some 83, _, _, _, _, _⟩) (v := ?_) rfl (by kernel_rfl) (by kernel_rfl) (by kernel_rfl) (fun _ _ _ h => h) (Or.inl ⟨by rfl, ?_⟩) (by assumption) ?_
              rotate_left
              · intro w hSw
                (try dsimp only at hSw)
                unfold RowBox at hSw
                obtain ⟨⟨h0, h1, h2, h3, h4, h5, h6, h7, h8, h9, h10⟩, j0, j1, j2, j3, j4, j5, j6, j7, j8, j9, j10⟩ := hSw
                go_simp
                try with_reducible rfl
              try simp only [Act.put, List.setIfInBounds_toArray, List.set_cons_zero, List.set_cons_succ]
              refine wpAnyH_take (i := 3) (oi := ⟨some 84, _, _, _, _, _⟩) (v := ?_) rfl (by kernel_rfl) (by kernel_rfl) (by kernel_rfl) (fun _ _ _ h => h) (Or.inl ⟨by rfl, ?_⟩) (by assumption) ?_
              rotate_left
              · intro w hSw
                (try dsimp only at hSw)
                unfold RowBox at hSw
                obtain ⟨⟨h0, h1, h2, h3, h4, h5, h6, h7, h8, h9, h10⟩, j0, j1, j2, j3, j4, j5, j6, j7, j8, j9, j10⟩ := hSw
                go_simp
                try with_reducible rfl
              try simp only [Act.put, List.setIfInBounds_toArray, List.set_cons_zero, List.set_cons_succ]
              refine wpAnyH_take (i := 4) (oi := ⟨some 85, _, _, _, _, _⟩) (v := ?_) rfl (by kernel_rfl) (by kernel_rfl) (by kernel_rfl) (fun _ _ _ h => h) (Or.inl ⟨by rfl, ?_⟩) (by assumption) ?_
              rotate_left
              · intro w hSw
                (try dsimp only at hSw)
                unfold RowBox at hSw
                obtain ⟨⟨h0, h1, h2, h3, h4, h5, h6, h7, h8, h9, h10⟩, j0, j1, j2, j3, j4, j5, j6, j7, j8, j9, j10⟩ := hSw
                go_simp
                try with_reducible rfl
              try simp only [Act.put, List.setIfInBounds_toArray, List.set_cons_zero, List.set_cons_succ]
              refine wpAnyH_take (i := 5) (oi := ⟨some 86, _, _, _, _, _⟩) (v := ?_) rfl (by kernel_rfl) (by kernel_rfl) (by kernel_rfl) (fun _ _ _ h => h) (Or.inl ⟨by rfl, ?_⟩) (by assumption) ?_
              rotate_left
              · intro w hSw
                (try dsimp only at hSw)
                unfold RowBox at hSw
                obtain ⟨⟨h0, h1, h2, h3, h4, h5, h6, h7, h8, h9, h10⟩, j0, j1, j2, j3, j4, j5, j6, j7, j8, j9, j10⟩ := hSw
                go_simp
                try with_reducible rfl
              try simp only [Act.put, List.setIfInBounds_toArray, List.set_cons_zero, List.set_cons_succ]
              refine wpAnyH_take (i := 6) (oi := ⟨some 87, _, _, _, _, _⟩) (v := ?_) rfl (by kernel_rfl) (by kernel_rfl) (by kernel_rfl) (fun _ _ _ h => h) (Or.inl ⟨by rfl, ?_⟩) (by assumption) ?_
              rotate_left
              · intro w hSw
                (try dsimp only at hSw)
                unfold RowBox at hSw
                obtain ⟨⟨h0, h1, h2, h3, h4, h5, h6, h7, h8, h9, h10⟩, j0, j1, j2, j3, j4, j5, j6, j7, j8, j9, j10⟩ := hSw
                go_simp
                try with_reducible rfl
              try simp only [Act.put, List.setIfInBounds_toArray, List.set_cons_zero, List.set_cons_succ]
              refine wpAnyH_take (i := 7) (oi := ⟨some 88, _, _, _, _, _⟩) (v := ?_) rfl (by kernel_rfl) (by kernel_rfl) (by kernel_rfl) (fun _ _ _ h => h) (Or.inl ⟨by rfl, ?_⟩) (by assumption) ?_
              rotate_left
              · intro w hSw
                (try dsimp only at hSw)
                unfold RowBox at hSw
                obtain ⟨⟨h0, h1, h2, h3, h4, h5, h6, h7, h8, h9, h10⟩, j0, j1, j2, j3, j4, j5, j6, j7, j8, j9, j10⟩ := hSw
                go_simp
                try with_reducible rfl
              try simp only [Act.put, List.setIfInBounds_toArray, List.set_cons_zero, List.set_cons_succ]
              refine wpAnyH_take (i := 8) (oi := ⟨some 89, _, _, _, _, _⟩) (v := ?_) rfl (by kernel_rfl) (by kernel_rfl) (by kernel_rfl) (fun _ _ _ h => h) (Or.inl ⟨by rfl, ?_⟩) (by assumption) ?_
              rotate_left
              · intro w hSw
                (try dsimp only at hSw)
                unfold RowBox at hSw
                obtain ⟨⟨h0, h1, h2, h3, h4, h5, h6, h7, h8, h9, h10⟩, j0, j1, j2, j3, j4, j5, j6, j7, j8, j9, j10⟩ := hSw
                go_simp
                try with_reducible rfl
              try simp only [Act.put, List.setIfInBounds_toArray, List.set_cons_zero, List.set_cons_succ]
              refine wpAnyH_take (i := 9) (oi := ⟨some 90, _, _, _, _, _⟩) (v := ?_) rfl (by kernel_rfl) (by kernel_rfl) (by kernel_rfl) (fun _ _ _ h => h) (Or.inl ⟨by rfl, ?_⟩) (by assumption) ?_
              rotate_left
              · intro w hSw
                (try dsimp only at hSw)
                unfold RowBox at hSw
                obtain ⟨⟨h0, h1, h2, h3, h4, h5, h6, h7, h8, h9, h10⟩, j0, j1, j2, j3, j4, j5, j6, j7, j8, j9, j10⟩ := hSw
                go_simp
                try with_reducible rfl
              try simp only [Act.put, List.setIfInBounds_toArray, List.set_cons_zero, List.set_cons_succ]
              refine wpAnyH_take (i := 10) (oi := ⟨some 91, _, _, _, _, _⟩) (v := ?_) rfl (by kernel_rfl) (by kernel_rfl) (by kernel_rfl) (fun _ _ _ h => h) (Or.inl ⟨by rfl, ?_⟩) (by assumption) ?_
              rotate_left
              · intro w hSw
                (try dsimp only at hSw)
                unfold RowBox at hSw
                obtain ⟨⟨h0, h1, h2, h3, h4, h5, h6, h7, h8, h9, h10⟩, j0, j1, j2, j3, j4, j5, j6, j7, j8, j9, j10⟩ := hSw
                go_simp
                try with_reducible rfl
              try simp only [Act.put, List.setIfInBounds_toArray, List.set_cons_zero, List.set_cons_succ]
              refine wpAnyH_take (i := 11) (oi := ⟨some 92, _, _, _, _, _⟩) (v := ?_) rfl (by kernel_rfl) (by kernel_rfl) (by kernel_rfl) (fun _ _ _ h => h) (Or.inl ⟨by rfl, ?_⟩) (by assumption) ?_
              rotate_left
              · intro w hSw
                (try dsimp only at hSw)
                unfold RowBox at hSw
                obtain ⟨⟨h0, h1, h2, h3, h4, h5, h6, h7, h8, h9, h10⟩, j0, j1, j2, j3, j4, j5, j6, j7, j8, j9, j10⟩ := hSw
                go_simp
                try with_reducible rfl
              try simp only [Act.put, List.setIfInBounds_toArray, List.set_cons_zero, List.set_cons_succ]
              refine wpAnyH_take (i := 12) (oi := ⟨some 93, _, _, _, _, _⟩) (v := ?_) rfl (by kernel_rfl) (by kernel_rfl) (by kernel_rfl) (fun _ _ _ h => h) (Or.inl ⟨by rfl, ?_⟩) (by assumption) ?_
              rotate_left
              · intro w hSw
                (try dsimp only at hSw)
                unfold RowBox at hSw
                obtain ⟨⟨h0, h1, h2, h3, h4, h5, h6, h7, h8, h9, h10⟩, j0, j1, j2, j3, j4, j5, j6, j7, j8, j9, j10⟩ := hSw
                go_simp
                try with_reducible rfl
              try simp only [Act.put, List.setIfInBounds_toArray, List.set_cons_zero, List.set_cons_succ]
              refine wpAnyH_ready (rs := [13]) (by kernel_rfl) (by simp) ?_
              refine AllReadyH.cons (o := ⟨some 94, _, _, _, _, _⟩) rfl (fun K hK => ?_) AllReadyH.nil
              go_simp
              go_at_call 65
              refine (HC.out _).mono ?_
              rintro e w3 ⟨rfl, e3⟩
              replace hk := nextB hk e3
              go_wp2_with fail
              refine hK.out _ _ (HBX.out _ hk) (fun hHeld => ?_)
              clear hK K
              try simp only [Act.put, List.setIfInBounds_toArray, List.set_cons_zero, List.set_cons_succ]
              refine wpAnyH_take (i := 14) (oi := ⟨some 95, _, _, _, _, _⟩) (v := ?_) rfl (by kernel_rfl) (by kernel_rfl) (by kernel_rfl) (fun _ _ _ h => h) (Or.inl ⟨by rfl, ?_⟩) (by assumption) ?_
              rotate_left
              · intro w hSw
                (try dsimp only at hSw)
                unfold RowBox at hSw
                obtain ⟨⟨h0, h1, h2, h3, h4, h5, h6, h7, h8, h9, h10⟩, j0, j1, j2, j3, j4, j5, j6, j7, j8, j9, j10⟩ := hSw
                go_simp
                try with_reducible rfl
              try simp only [Act.put, List.setIfInBounds_toArray, List.set_cons_zero, List.set_cons_succ]
              refine wpAnyH_take (i := 15) (oi := ⟨some 96, _, _, _, _, _⟩) (v := ?_) rfl (by kernel_rfl) (by kernel_rfl) (by kernel_rfl) (fun _ _ _ h => h) (Or.inl ⟨by rfl, ?_⟩) (by assumption) ?_
              rotate_left
              · intro w hSw
                (try dsimp only at hSw)
                unfold RowBox at hSw
                obtain ⟨⟨h0, h1, h2, h3, h4, h5, h6, h7, h8, h9, h10⟩, j0, j1, j2, j3, j4, j5, j6, j7, j8, j9, j10⟩ := hSw
                go_simp
                try with_reducible rfl
              try simp only [Act.put, List.setIfInBounds_toArray, List.set_cons_zero, List.set_cons_succ]
              refine wpAnyH_take (i := 16) (oi := ⟨some 97, _, _, _, _, _⟩) (v := ?_) rfl (by kernel_rfl) (by kernel_rfl) (by kernel_rfl) (fun _ _ _ h => h) (Or.inl ⟨by rfl, ?_⟩) (by assumption) ?_
              rotate_left
              · intro w hSw
                (try dsimp only at hSw)
                unfold RowBox at hSw
                obtain ⟨⟨h0, h1, h2, h3, h4, h5, h6, h7, h8, h9, h10⟩, j0, j1, j2, j3, j4, j5, j6, j7, j8, j9, j10⟩ := hSw
                go_simp
                try with_reducible rfl
              try simp only [Act.put, List.setIfInBounds_toArray, List.set_cons_zero, List.set_cons_succ]
              refine wpAnyH_done (by kernel_rfl) ?_ _
              have hdf : decide (r < 0) = false := decide_eq_false (by omega)
              go_wp2
              go_meet
              first
                | exact ⟨true, rfl, HU, hk⟩
                | exact ⟨true, congrArg (fun x => Value.bool (!x)) hdf, HU, hk⟩
        case rest =>
        obtain ⟨q, rfl, HQ, HBW⟩ := hcut
        rename_i wc0
        have HW5 := Lib.hid (ownsRow_below HW4.out HBW.out)
        have HK5 := Lib.hid (HK4.out.trans (Keeps.below HBW.out))
        clear HW4 HK4 HBW
        cases q with
        | true =>
          have HN := Lib.hid (HEQ.out HQ.out)
          obtain ⟨h3, h4⟩ := peq_range (d := D) (a := a') (b := b') (pv := pv) (by omega)
          have hi0 := parteq_x (w := wc) (base := base) (g := g) (cap := cap) (a := a') (b := b') (pv := pv) (d := D) (by rw [hDs]; exact HW5.out) (by omega) x5 x6 (by omega)
          rw [hDs] at hi0
          obtain ⟨⟨mid, d4⟩, hp⟩ : ∃ p, partitionEqual lt8 D a' b' pv = p := ⟨_, rfl⟩
          rw [hp] at hi0 HN h3 h4
          have HI := Lib.hid hi0
          clear hi0
          clear hp HEQ HPT HW5 HQ
          go_wp2_with fail
          refine HI.out.mono ?_
          rintro e w6 ⟨rfl, r6, k6⟩
          have hs6 := row_size r6
          have HW6 := Lib.hid r6
          have HK6 := Lib.hid (HK5.out.trans k6)
          clear HI r6 k6 HK5
          go_wp2
          go_roundw
          case rel => exact ⟨mid, b', l1, wb, wp, d4, rfl, rfl, rfl, rfl, rfl, ⟨h4, by omega, hbn, by omega, hs6⟩, HN, HW6, HK6⟩
          case measure => simp [intOf] <;> omega
        | false =>
          obtain ⟨⟨mid, ap, d4⟩, hp⟩ : ∃ p, partition lt8 D a' b' pv = p := ⟨_, rfl⟩
          obtain ⟨⟨h3, h4⟩, HLF, HRT⟩ := HPT.out HQ.out mid ap d4 hp
          have hi0 := partition_x (w := wc) (base := base) (g := g) (cap := cap) (a := a') (b := b') (pv := pv) (d := D) (by rw [hDs]; exact HW5.out) (by omega) x5 x6 (by omega)
          rw [hDs, hp] at hi0
          have HI := Lib.hid hi0
          clear hi0
          clear hp HEQ HPT HW5 HQ
          go_wp2_with fail
          refine HI.out.mono ?_
          rintro e w6 ⟨rfl, r6, k6⟩
          have HW6 := Lib.hid r6
          have HK6 := Lib.hid (HK5.out.trans k6)
          clear HI r6 k6 HK5
          have m0 : (0 : Int) ≤ mid := by omega
          have m1 : (mid : Int) < b' := by omega
          have m2 : (a' : Int) ≤ mid := by omega
          by_cases hlr : mid - a' < b' - mid
          · have hlrI : (mid : Int) - a' < (b' : Int) - mid := by omega
            have HN := Lib.hid (HLF hlr)
            have HI := Lib.hid (IH.out (w := w6) (a := a') (b := mid) (limit := l1) (d := d4) (by omega) HW6.out (by omega) h3 (by omega) (by omega))
            have HD : Hid ((decide ((b' : Int) - a' ≤ 0) = true) → False) := fun h => by have := of_decide_eq_true h; omega
            have hdec : decide (((b' : Int) - a') / 8 ≤ (mid : Int) - a') = decide (mid - a' ≥ (b' - a') / 8) := decide_eq_decide.2 (by omega)
            clear HLF HRT HW6 HD
            go_wp2_with fail
            refine HI.out.mono ?_
            rintro e w7 ⟨rfl, r7, k7⟩
            have hs7 := row_size r7
            have HW7 := Lib.hid r7
            have HK7 := Lib.hid (HK6.out.trans k7)
            clear HI r7 k7 HK6
            go_wp2
            go_roundw
            case rel => exact ⟨mid + 1, b', l1, decide (mid - a' ≥ (b' - a') / 8), ap, _, by go_num, rfl, rfl, by first | exact congrArg Value.bool hdec | rfl, rfl, ⟨by omega, by omega, hbn, by omega, hs7⟩, HN, HW7, HK7⟩
            case measure => simp [intOf] <;> omega
          · have hlrI : ¬ (mid : Int) - a' < (b' : Int) - mid := by omega
            have HN := Lib.hid (HRT hlr)
            have hi0 := IH.out (w := w6) (a := mid + 1) (b := b') (limit := l1) (d := d4) (by omega) HW6.out (by omega) (by omega) (by omega) (by omega)
            rw [show ((mid + 1 : Nat) : Int) = (mid : Int) + 1 from rfl] at hi0
            have HI := Lib.hid hi0
            clear hi0
            have hdec : decide (((b' : Int) - a') / 8 ≤ (b' : Int) - mid) = decide (b' - mid ≥ (b' - a') / 8) := decide_eq_decide.2 (by omega)
            clear HLF HRT HW6
            have HDC := Lib.hid hdec
            clear hdec
            go_upto_if 125 with fail
            rw [decide_eq_false (show ¬ ((mid : Int) - a' < (b' : Int) - mid) by omega)]
            clear hlrI hlr
            go_wp2_with fail
            refine HI.out.mono ?_
            rintro e w7 ⟨rfl, r7, k7⟩
            have hs7 := row_size r7
            have HW7 := Lib.hid r7
            have HK7 := Lib.hid (HK6.out.trans k7)
            clear HI r7 k7 HK6
            go_wp2
            go_roundw
            case rel => exact ⟨a', mid, l1, decide (b' - mid ≥ (b' - a') / 8), ap, _, rfl, rfl, rfl, by first | exact congrArg Value.bool HDC.out | rfl, rfl, ⟨by omega, by omega, by omega, by omega, hs7⟩, HN, HW7, HK7⟩
            case measure => simp [intOf] <;> omega
end Go.Proofs.YtebbnmjmjoklmaaGreatDoor
