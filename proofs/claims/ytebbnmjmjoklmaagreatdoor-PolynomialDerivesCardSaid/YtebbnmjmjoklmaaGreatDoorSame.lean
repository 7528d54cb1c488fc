/-
  The statements' own check that the program is awake: it returns true, whatever the memory.
  natural.Add: for every two lists of limbs it returns the limbs of the sum, in memory of its own.
  natural.Sub: for every two lists of limbs it returns the limbs of the difference, in memory of its own, or ErrRange if the first number is less.
  natural.Mul: for every two lists of limbs it returns the limbs of the product, in memory of its own.
  exactpplref01.Same and exactppllaw01.short; and the contracts of natural once more, said of the numbers alone: what a slice of limbs stands for, and whether it is in normal form.
-/
import Derived.Test.YtebbnmjmjoklmaaGreatDoorFmt
import Derived.Test.YtebbnmjmjoklmaaGreatDoorLen
namespace Go.Proofs.YtebbnmjmjoklmaaGreatDoor
open Go.RowKit
set_option maxRecDepth 20000

/-- true comes back; what was there before is as it was. -/
def True1 (w : World) (e : Ending) (w' : World) : Prop := e = .returned (.bool true) ∧ Below w.heap.size w w'

theorem dig_big : (revDig 4294967296).reverse.toArray = #[52, 50, 57, 52, 57, 54, 55, 50, 57, 54] := by
  rw [revDig_big (by decide), revDig_big (by decide), revDig_big (by decide), revDig_big (by decide), revDig_big (by decide), revDig_big (by decide), revDig_big (by decide), revDig_big (by decide), revDig_big (by decide), revDig_small (by decide)]
  decide
theorem dig_three : (revDig 3).reverse.toArray = #[51] := by rw [revDig_small (by decide)]; decide
theorem dig_two : (revDig 2).reverse.toArray = #[50] := by rw [revDig_small (by decide)]; decide

theorem lit1 (w : World) (x : Int) (x0 : 0 ≤ x) (x1 : x < 4294967296) : Rd (w.alloc (.cells #[.int .u32 x] 71)) (some ⟨w.heap.size, 0, none⟩) 1 1 [x] :=
  (Mine.lit w (Nat.le_refl _) #[.int .u32 x] [x] (Lims.cons x0 x1 Lims.nil) rfl (by unfold maxLen; simp)).rd
theorem lit2 (w : World) (x y : Int) (x0 : 0 ≤ x) (x1 : x < 4294967296) (y0 : 0 ≤ y) (y1 : y < 4294967296) : Rd (w.alloc (.cells #[.int .u32 x, .int .u32 y] 71)) (some ⟨w.heap.size, 0, none⟩) 2 2 [x, y] :=
  (Mine.lit w (Nat.le_refl _) #[.int .u32 x, .int .u32 y] [x, y] (Lims.cons x0 x1 (Lims.cons y0 y1 Lims.nil)) rfl (by unfold maxLen; simp)).rd

end Go.Proofs.YtebbnmjmjoklmaaGreatDoor

namespace Go.Proofs.YtebbnmjmjoklmaaGreatDoor
open Go.RowKit
set_option maxRecDepth 20000

set_option maxHeartbeats 1000000 in
theorem add_any (A B : Option Addr) (n c m d : Nat) (L M : List Int) (w : World) (hr : Rd w A n c L) (hs : Rd w B m d M) (hn : n ≤ 1000000) (hm : m ≤ 1000000) :
    Calls Tryz.prog 134 #[.slice A n c, .slice B m d] w (Gives w (val L + val M)) := by
  obtain ⟨i0, hi, hz0, hz1, hz2⟩ := info_parts info_limb
  have y1 := trim_length_le L
  have y2 := trim_length_le M
  rw [hr.len] at y1
  rw [hs.len] at y2
  go_enter Tryz.func134, Tryz.ntmps134
  go_wp2_with fail
  refine (strip_any A n c L w hr).mono ?_
  rintro e w' ⟨A', n', c', rfl, hS, rfl⟩
  have hr' := hS.rd hr
  clear hS
  go_wp2_with fail
  refine (strip_any B m d M w hs).mono ?_
  rintro e w' ⟨B', m', d', rfl, hS, rfl⟩
  have hs' := hS.rd hs
  clear hS
  have l1 := hr'.len
  have l2 := hs'.len
  have V : Hid (val (trim L) + val (trim M) = val L + val M) := by show _ = _; rw [val_trim, val_trim]
  clear hr hs
  generalize trim L = L' at *
  generalize trim M = M' at *
  obtain ⟨P, p, pc, LP, Q, q, qc, LQ, hP, hQ, hpq, hp, hsum, hcases⟩ : ∃ P p pc LP Q q qc LQ, Rd w P p pc LP ∧ Rd w Q q qc LQ ∧ q ≤ p ∧ p ≤ 1000000 ∧ Hid (val LP + val LQ = val L' + val M') ∧
      ((¬ n' < m' ∧ P = A' ∧ p = n' ∧ pc = c' ∧ Q = B' ∧ q = m' ∧ qc = d') ∨ (n' < m' ∧ Q = A' ∧ q = n' ∧ qc = c' ∧ P = B' ∧ p = m' ∧ pc = d')) := by
    by_cases h : n' < m'
    · exact ⟨_, _, _, _, _, _, _, _, hs', hr', by omega, by omega, Int.add_comm _ _, .inr ⟨h, rfl, rfl, rfl, rfl, rfl, rfl⟩⟩
    · exact ⟨_, _, _, _, _, _, _, _, hr', hs', by omega, by omega, rfl, .inl ⟨h, rfl, rfl, rfl, rfl, rfl, rfl⟩⟩
  clear l1 l2 y1 y2 hr' hs'
  rcases hcases with ⟨h, rfl, rfl, rfl, rfl, rfl, rfl⟩ | ⟨h, rfl, rfl, rfl, rfl, rfl, rfl⟩
  all_goals
    go_wp2_with (at_make; refine wpList_make_full _ rfl _ _ 40 rfl w.heap.size 71 i0 (.int .u32 0) 1 Tryz.underlying40 hi hz0 hz1 _ _ _ _ (p + 1) rfl rfl ?b0 ?b1 ?b2 ?b3 (Nat.le_refl _) ?_)
    case b0 => go_num
    case b1 => go_num
    case b2 => rw [hz2]; omega
    case b3 => unfold maxLen; omega
    intro w0 hown hgrow
    have hM0 := Mine.zero hown
    have hB0 := below_of_grown hgrow
    have hq0 := hQ.len
    have hp0 := hP.len
    have HQ := Lib.hid hq0
    have HP := Lib.hid hp0
    clear hown hgrow hq0 hp0
    go_wp2
    go_loopw [6, 27] (fun cv iv wr => ∃ (k : Nat) (cr : Int) (S : List Int), k ≤ p ∧ iv = .int .i64 k ∧ cv = .int .u32 cr ∧ (0 ≤ cr ∧ cr ≤ 1) ∧ Mine wr w.heap.size (some ⟨w.heap.size, 0, none⟩) (p + 1) (p + 1) S ∧
        Hid (val (S.take k) + pw k * cr = val (LP.take k) + val (LQ.take k)) ∧ Below w.heap.size w wr) (fun _ iv _ => p - (intOf iv).toNat)
    case atStart => exact ⟨0, 0, _, Nat.zero_le _, rfl, rfl, by omega, hM0, rfl, hB0⟩
    case round =>
      obtain ⟨k, cr, S, hk, rfl, rfl, ⟨hc0, hc1⟩, hM, hV, hB⟩ := hrel
      clear hM0 hB0
      by_cases hkp : k < p
      · have uP := hP.lims.getD k
        have uQ := hQ.lims.getD k
        obtain ⟨u, hu⟩ : ∃ u, LP.getD k 0 = u := ⟨_, rfl⟩
        obtain ⟨v, hv⟩ : ∃ v, LQ.getD k 0 = v := ⟨_, rfl⟩
        rw [hu] at uP
        rw [hv] at uQ
        obtain ⟨ad, rfl, _, hcP⟩ := (hP.below hB).at_ (by omega)
        have cP := hcP k hkp
        rw [hu] at cP
        have cS := hM.cellAt (i := k) (by omega)
        have fS := hM.frozenAt k
        have hSl := hM.len
        have st := add_step (S := S) (k := k) (cr := cr) (by omega) hu hv hV.out
        have ST := Lib.hid st
        clear st hcP hu hSl
        have hA := add32_any u v cr
        have hs0 : 0 ≤ (u + v + cr) % 4294967296 ∧ (u + v + cr) % 4294967296 < 4294967296 := by omega
        have hs1 : 0 ≤ (u + v + cr) / 4294967296 ∧ (u + v + cr) / 4294967296 ≤ 1 := by omega
        by_cases hkq : k < q
        · obtain ⟨ad', rfl, _, hcQ⟩ := (hQ.below hB).at_ (by omega)
          have cQ := hcQ k hkq
          rw [hv] at cQ
          clear hcQ hv
          have HA := Lib.hid hA
          clear hA
          go_wp2_with (go_at_call 128; refine (HA.out _ uP uQ (by omega)).mono ?_; rintro e w' ⟨rfl, rfl⟩)
          go_roundw
          case rel => exact ⟨k + 1, _, _, by omega, by go_num, rfl, hs1, hM.stored k hs0.1 hs0.2, ST.out, hB.setCell (Nat.le_refl _) _⟩
          case measure => simp [intOf] <;> omega
        · obtain rfl : v = 0 := by rw [← hv, getD_ge _ _ (by have := HQ.out; omega)]
          clear hv
          simp only [Int.add_zero] at hs0 hs1 ST
          have HA := Lib.hid hA
          clear hA
          go_wp2_with (go_at_call 128; refine (HA.out _ uP uQ (by omega)).mono ?_; rintro e w' ⟨rfl, rfl⟩)
          go_roundw
          case rel => exact ⟨k + 1, _, _, by omega, by go_num, rfl, hs1, hM.stored k hs0.1 hs0.2, ST.out, hB.setCell (Nat.le_refl _) _⟩
          case measure => simp [intOf] <;> omega
      · obtain rfl : k = p := by omega
        clear hkp
        have cS := hM.cellAt (i := k) (by omega)
        have fS := hM.frozenAt k
        have hF : Hid (val (S.set k cr) = val L' + val M') := by
          refine (add_last (S := S) (p := k) (cr := cr) hM.len hV.out).trans ?_
          rw [List.take_of_length_le (by have := HP.out; omega), List.take_of_length_le (by have := HQ.out; omega)]
          exact hsum.out
        have hM2 := hM.stored k hc0 (by omega)
        go_wp2_with fail
        refine (strip_any _ _ _ _ _ hM2.rd).mono ?_
        rintro e w' ⟨A2, n2, c2, rfl, hS2, rfl⟩
        have hm' := hS2.mine hM2
        have hI := Is.mk_trim hM2.lims
        rw [hF.out, V.out] at hI
        have HI := Lib.hid hI
        clear hS2 hI
        go_wp2
        go_ret
        exact ⟨_, _, _, _, rfl, hm', HI.out, hB.setCell (Nat.le_refl _) _⟩

end Go.Proofs.YtebbnmjmjoklmaaGreatDoor

namespace Go.Proofs.YtebbnmjmjoklmaaGreatDoor
open Go.RowKit
set_option maxRecDepth 20000

theorem sub_less (A B : Option Addr) (n c m d : Nat) (L M : List Int) (w : World) (hr : Rd w A n c L) (hs : Rd w B m d M) (hlt : val L < val M) :
    Calls Tryz.prog 135 #[.slice A n c, .slice B m d] w fun e w' => e = .returned (.tuple #[.slice none 0 0, .int .i64 1]) ∧ ∃ k, w' = w.drewN k := by
  have hC := cmp_any A B n c m d L M w hr hs
  unfold SameNum at hC
  rw [cmpZ_lt hlt] at hC
  have HC := Lib.hid hC
  clear hC
  go_enter Tryz.func135, Tryz.ntmps135
  go_wp2_with fail
  refine HC.out.mono ?_
  rintro e w' ⟨rfl, k0, rfl⟩
  go_wp2
  go_ret2
  exact ⟨rfl, _, rfl⟩

set_option maxHeartbeats 1000000 in
theorem sub_any (A B : Option Addr) (n c m d : Nat) (L M : List Int) (w : World) (hr : Rd w A n c L) (hs : Rd w B m d M) (hn : n ≤ 1000000) (hle : val M ≤ val L) :
    Calls Tryz.prog 135 #[.slice A n c, .slice B m d] w (GivesOk w (val L - val M)) := by
  have hz : 0 ≤ cmpZ (val L) (val M) := by unfold cmpZ; split <;> (try split) <;> omega
  have HC := Lib.hid (cmp_any A B n c m d L M w hr hs)
  obtain ⟨z, hz'⟩ : ∃ z, cmpZ (val L) (val M) = z := ⟨_, rfl⟩
  unfold SameNum at HC
  rw [hz'] at HC hz
  have hI := Is.mk_trim hs.lims
  have y1 := trim_length_le L
  rw [hr.len] at y1
  clear hz'
  go_enter Tryz.func135, Tryz.ntmps135
  go_wp2_with fail
  refine HC.out.mono ?_
  rintro e w' ⟨rfl, k0, rfl⟩
  go_wp2_with fail
  refine (strip_any B m d M _ (hs.drewN k0)).mono ?_
  rintro e w' ⟨B', m', d', rfl, hS, rfl⟩
  have hs' := hS.rd (hs.drewN k0)
  clear hS
  go_wp2_with fail
  refine (trim_any A n c L _ (hr.drewN k0) hn).mono ?_
  rintro e w1 ⟨A1, n1, c1, L1, rfl, hM1, hI1, hb1⟩
  have hB1 : Below w.heap.size w w1 := (drewN_below (Below.refl _ _) k0).trans hb1
  have hM : Mine w1 w.heap.size A1 n1 c1 L1 := hM1
  have hs1 : Rd w B' m' d' (trim M) := ⟨hs'.len, hs'.lims, hs'.cap, hs'.top, hs'.at_⟩
  have hLL : Hid (trim L = L1) := (Is.mk_trim hr.lims).unique hI1
  have hnm : m' ≤ n1 := by
    rcases Nat.lt_or_ge n1 m' with h | h
    · have := hI1.lt_of_length hI (by rw [hM.len, hs1.len]; exact h)
      omega
    · exact h
  have hcap := hM.rd.cap
  have htop := hM.rd.top
  unfold maxLen at htop
  have HI1 := Lib.hid hI1
  have HI := Lib.hid hI
  have hl1 := hM.len
  have hl2 := hs1.len
  have HL1 := Lib.hid hl1
  have HL2 := Lib.hid hl2
  clear hM1 hb1 hs' hI1 hI HC hr hs hl1 hl2 y1
  generalize trim M = M' at *
  go_wp2
  go_loopw [7, 20] (fun bv iv wr => ∃ (k : Nat) (b : Int) (S : List Int), k ≤ n1 ∧ iv = .int .i64 k ∧ bv = .int .u32 b ∧ (0 ≤ b ∧ b < 2) ∧ Mine wr w.heap.size A1 n1 c1 S ∧ Hid (S.drop k = L1.drop k) ∧
      Hid (val (S.take k) + val (M'.take k) = val (L1.take k) + pw k * b) ∧ Below w.heap.size w wr) (fun _ iv _ => n1 - (intOf iv).toNat)
  case atStart => exact ⟨0, 0, _, Nat.zero_le _, rfl, rfl, by omega, hM, rfl, rfl, hB1⟩
  case round =>
    obtain ⟨k, b, S, hk, rfl, rfl, ⟨b0, b1⟩, hMr, hD, hV, hB⟩ := hrel
    clear hM hB1
    by_cases hkn : k < n1
    · obtain ⟨g, rfl, hg, hg'⟩ := hMr.form (by omega)
      have uS := hMr.lims.getD k
      have hR := hs1.below hB
      have uM := hR.lims.getD k
      have hSl := hMr.len
      obtain ⟨u, hu⟩ : ∃ u, L1.getD k 0 = u := ⟨_, rfl⟩
      obtain ⟨v, hv⟩ : ∃ v, M'.getD k 0 = v := ⟨_, rfl⟩
      have cS := hMr.cellAt hkn
      rw [getD_of_drop hD.out, hu] at cS uS
      rw [hv] at uM
      have fS := hMr.frozenAt k
      have st := sub_step (S := S) (k := k) (b := b) (by omega) hu hv uS uM ⟨b0, b1⟩ hV.out
      have ST := Lib.hid st
      have hD2 : Hid ((S.set k ((u - v - b) % 4294967296)).drop (k + 1) = L1.drop (k + 1)) := by
        show _ = _
        rw [drop_set]; exact drop_succ hD.out
      have s0 : 0 ≤ (u - v - b) % 4294967296 ∧ (u - v - b) % 4294967296 < 4294967296 := by omega
      have s1 := borrowOf_range u v b
      have hA := sub32_any u v b
      clear st hu hSl
      by_cases hkm : k < m'
      · obtain ⟨ad, rfl, hb, hc⟩ := hR.at_ (by omega)
        have cM := hc k hkm
        rw [hv] at cM
        clear hc hv
        have HA := Lib.hid hA
        clear hA
        go_wp2_with (go_at_call 157; refine (HA.out _ uS uM ⟨b0, b1⟩).mono ?_; rintro e w' ⟨rfl, rfl⟩)
        go_roundw
        case rel => exact ⟨k + 1, _, _, by omega, by go_num, rfl, s1, hMr.stored k s0.1 s0.2, hD2, ST.out, hB.setCell hg _⟩
        case measure => simp [intOf] <;> omega
      · obtain rfl : v = 0 := by rw [← hv, getD_ge _ _ (by have := HL2.out; omega)]
        clear hv
        simp only [Int.sub_zero] at s0 ST hD2
        have HA := Lib.hid hA
        clear hA
        go_wp2_with (go_at_call 157; refine (HA.out _ uS uM ⟨b0, b1⟩).mono ?_; rintro e w' ⟨rfl, rfl⟩)
        go_roundw
        case rel => exact ⟨k + 1, _, _, by omega, by go_num, rfl, s1, hMr.stored k s0.1 s0.2, hD2, ST.out, hB.setCell hg _⟩
        case measure => simp [intOf] <;> omega
    · obtain rfl : k = n1 := by omega
      clear hkn
      have hF : Hid (val S = val L - val M) := by
        have e1 : val L1 = val L := HI1.out.eq
        have e2 : val M' = val M := HI.out.eq
        have := sub_last hMr.lims hMr.len HL1.out (by rw [HL2.out]; exact hnm) b0 (by rw [e1, e2]; exact hle) hV.out
        rw [e1, e2] at this
        exact this
      have hrd := hMr.rd
      go_wp2_with fail
      refine (strip_any _ _ _ _ _ hrd).mono ?_
      rintro e w' ⟨A2, n2, c2, rfl, hS2, rfl⟩
      have hm' := hS2.mine hMr
      have hI2 := Is.mk_trim hMr.lims
      rw [hF.out] at hI2
      have HI2 := Lib.hid hI2
      clear hS2 hI2
      go_wp2
      go_ret2
      exact ⟨_, _, _, _, rfl, hm', HI2.out, hB⟩

end Go.Proofs.YtebbnmjmjoklmaaGreatDoor

namespace Go.Proofs.YtebbnmjmjoklmaaGreatDoor
open Go.RowKit
set_option maxRecDepth 20000

set_option maxHeartbeats 1000000 in
theorem mul_any (A B : Option Addr) (n c m d : Nat) (L M : List Int) (w : World) (hr : Rd w A n c L) (hs : Rd w B m d M) (hn : n ≤ 1000000) (hm : m ≤ 1000000) :
    Calls Tryz.prog 74 #[.slice A n c, .slice B m d] w (Gives w (val L * val M)) := by
  obtain ⟨i0, hi, hz0, hz1, hz2⟩ := info_parts info_limb
  have y1 := trim_length_le L
  have y2 := trim_length_le M
  rw [hr.len] at y1
  rw [hs.len] at y2
  go_enter Tryz.func74, Tryz.ntmps74
  go_wp2_with fail
  refine (strip_any A n c L w hr).mono ?_
  rintro e w' ⟨A', n', c', rfl, hS, rfl⟩
  have hr' := hS.rd hr
  clear hS
  go_wp2_with fail
  refine (strip_any B m d M w hs).mono ?_
  rintro e w' ⟨B', m', d', rfl, hS, rfl⟩
  have hs' := hS.rd hs
  clear hS
  have l1 := hr'.len
  have l2 := hs'.len
  have V : Hid (val (trim L) * val (trim M) = val L * val M) := by show _ = _; rw [val_trim, val_trim]
  have hn' : n' ≤ 1000000 := by omega
  have hm' : m' ≤ 1000000 := by omega
  clear hr hs y1 y2
  generalize trim L = L' at *
  generalize trim M = M' at *
  have HL := Lib.hid l1
  have HM := Lib.hid l2
  clear l1 l2
  go_wp2_with (at_make; refine wpList_make_full _ rfl _ _ 40 rfl w.heap.size 71 i0 (.int .u32 0) 1 Tryz.underlying40 hi hz0 hz1 _ _ _ _ (n' + m') rfl rfl ?b0 ?b1 ?b2 ?b3 (Nat.le_refl _) ?_)
  case b0 => go_num
  case b1 => go_num
  case b2 => rw [hz2]; omega
  case b3 => unfold maxLen; omega
  intro w0 hown hgrow
  have hM0 := Mine.zero hown
  have hB0 := below_of_grown hgrow
  clear hown hgrow
  go_wp2
  go_loopw [23] (fun iv wr => ∃ (i : Nat) (S : List Int), i ≤ n' ∧ iv = .int .i64 i ∧ Mine wr w.heap.size (some ⟨w.heap.size, 0, none⟩) (n' + m') (n' + m') S ∧
      Hid (val (S.take (i + m')) = val (L'.take i) * val M') ∧ Below w.heap.size w wr) (fun iv _ => n' - (intOf iv).toNat)
  case atStart => exact ⟨0, _, Nat.zero_le _, rfl, hM0, by show _ = _; rw [List.take_replicate, val_replicate]; simp [val], hB0⟩
  case round =>
    obtain ⟨i, S, hin, rfl, hM, hV, hB⟩ := hrel
    clear hM0 hB0
    by_cases hi' : i < n'
    · obtain ⟨ad, rfl, _, hc⟩ := (hr'.below hB).at_ (by omega)
      have cL := hc i hi'
      have uL := hr'.lims.getD i
      obtain ⟨x, hx⟩ : ∃ x, L'.getD i 0 = x := ⟨_, rfl⟩
      have HX := Lib.hid hx
      rw [hx] at cL uL
      clear hc hx
      obtain ⟨pv, hpv⟩ : ∃ pv, pv = pw i * x := ⟨_, rfl⟩
      have HP := Lib.hid hpv
      clear hpv
      go_wp2
      obtain ⟨wo, rfl⟩ : ∃ wo : World, wo = wr := ⟨_, rfl⟩
      go_loopw [8, 30] (fun cv jv wr => ∃ (j : Nat) (cr : Int) (Z : List Int), j ≤ m' ∧ jv = .int .i64 j ∧ cv = .int .u32 cr ∧ (0 ≤ cr ∧ cr < 4294967296) ∧ Mine wr w.heap.size (some ⟨w.heap.size, 0, none⟩) (n' + m') (n' + m') Z ∧
          Hid (Z.drop (i + j) = S.drop (i + j)) ∧ Hid (val (Z.take (i + j)) + pw (i + j) * cr = val (S.take (i + j)) + pv * val (M'.take j)) ∧ Below w.heap.size w wr) (fun _ jv _ => m' - (intOf jv).toNat)
      case atStart => exact ⟨0, 0, S, Nat.zero_le _, rfl, rfl, by omega, hM, rfl, by show _ = _; simp [val], hB⟩
      case round =>
        obtain ⟨j, cr, Z, hj, rfl, rfl, ⟨cr0, cr1⟩, hZ, hD, hE, hB2⟩ := hrel
        by_cases hj' : j < m'
        · obtain ⟨ad', rfl, _, hc⟩ := (hs'.below hB2).at_ (by omega)
          have cM := hc j hj'
          have uM := hs'.lims.getD j
          have uS := hZ.lims.getD (i + j)
          have cZ := hZ.cellAt (i := i + j) (by omega)
          have fZ := hZ.frozenAt (i + j)
          obtain ⟨y, hy⟩ : ∃ y, M'.getD j 0 = y := ⟨_, rfl⟩
          obtain ⟨t, ht⟩ : ∃ t, S.getD (i + j) 0 = t := ⟨_, rfl⟩
          rw [hy] at cM uM
          rw [getD_of_drop hD.out, ht] at cZ uS
          have ST := Lib.hid (mul_step (S := Z) (T := S) (Q := M') (i := i) (j := j) (x := x) (cr := cr) (by rw [hZ.len]; omega) ht hy hE.out HP.out)
          have hD2 : Hid ((Z.set (i + j) ((x * y + t + cr) % 4294967296)).drop (i + (j + 1)) = S.drop (i + (j + 1))) := by
            show _ = _
            rw [← Nat.add_assoc, drop_set]; exact drop_succ hD.out
          have HA := Lib.hid (multiplyAdd_any x y t cr)
          have pr := mul_limbs x y uL uM
          have s0 : 0 ≤ (x * y + t + cr) % 4294967296 ∧ (x * y + t + cr) % 4294967296 < 4294967296 := by omega
          have s1 : 0 ≤ (x * y + t + cr) / 4294967296 ∧ (x * y + t + cr) / 4294967296 < 4294967296 := by omega
          clear hc hy ht
          go_wp2_with (go_at_call 95; refine (HA.out _ uL uM uS ⟨cr0, cr1⟩).mono ?_; rintro e w' ⟨rfl, rfl⟩)
          go_roundw
          case rel => exact ⟨j + 1, _, _, by omega, by go_num, rfl, s1, hZ.stored (i + j) s0.1 s0.2, hD2, ST.out, hB2.setCell (Nat.le_refl _) _⟩
          case measure => simp [intOf] <;> omega
        · obtain rfl : j = m' := by omega
          clear hj'
          have cZ := hZ.cellAt (i := i + j) (by omega)
          have fZ := hZ.frozenAt (i + j)
          have hF : Hid (val ((Z.set (i + j) cr).take (i + 1 + j)) = val (L'.take (i + 1)) * val M') := by
            show _ = _
            have h1 := hE.out
            rw [hV.out, List.take_of_length_le (l := M') (by have := HM.out; omega)] at h1
            have e : i + 1 + j = i + j + 1 := by omega
            rw [e, mul_last (by rw [hZ.len]; omega) h1, val_take_getD, HX.out, HP.out]
            grind
          go_wp2
          go_roundw
          case rel => exact ⟨i + 1, _, by omega, by go_num, hZ.stored (i + j) cr0 cr1, hF, hB2.setCell (Nat.le_refl _) _⟩
          case measure => simp [intOf] <;> omega
    · obtain rfl : i = n' := by omega
      clear hi'
      have hF : Hid (val S = val L * val M) := by
        have h1 := hV.out
        rw [List.take_of_length_le (by rw [hM.len]; exact Nat.le_refl _), List.take_of_length_le (l := L') (by have := HL.out; omega), V.out] at h1
        exact h1
      go_wp2_with fail
      refine (strip_any _ _ _ _ _ hM.rd).mono ?_
      rintro e w' ⟨A2, n2, c2, rfl, hS2, rfl⟩
      have hm2 := hS2.mine hM
      have hI2 := Is.mk_trim hM.lims
      rw [hF.out] at hI2
      have HI2 := Lib.hid hI2
      clear hS2 hI2
      go_wp2
      go_ret
      exact ⟨_, _, _, _, rfl, hm2, HI2.out, hB⟩

end Go.Proofs.YtebbnmjmjoklmaaGreatDoor

namespace Go.Proofs.YtebbnmjmjoklmaaGreatDoor
open Go.RowKit
set_option maxRecDepth 20000

def Yes (w : World) (e : Ending) (w' : World) : Prop := e = .returned (.bool true) ∧ ∃ k, w' = w.drewN k

theorem same_true (A B : Option Addr) (n c d : Nat) (L : List Int) (w : World) (hr : Rd w A n c L) (hs : Rd w B n d L) :
    Calls Tryz.prog 42 #[.slice A n c, .slice B n d] w (Yes w) := by
  have hcap := hr.cap
  have htop := hr.top
  unfold maxLen at htop
  go_enter Tryz.func42, Tryz.ntmps42
  go_wp2
  go_loopw [5] (fun iv wr => ∃ k q : Nat, k ≤ n ∧ iv = .int .i64 k ∧ wr = w.drewN q) (fun iv _ => n - (intOf iv).toNat)
  case atStart => exact ⟨0, 0, Nat.zero_le _, rfl, rfl⟩
  case round =>
    obtain ⟨k, q, hk, rfl, rfl⟩ := hrel
    by_cases hkn : k < n
    · obtain ⟨ad, rfl, _, hc⟩ := hr.at_ (by omega)
      obtain ⟨ad', rfl, _, hc'⟩ := hs.at_ (by omega)
      have h1 := hc k hkn
      have h2 := hc' k hkn
      clear hc hc'
      obtain ⟨x, hx⟩ : ∃ x, L.getD k 0 = x := ⟨_, rfl⟩
      rw [hx] at h1 h2
      clear hx
      go_wp2_with fail
      go_quiet (fail)
      go_wp2
      go_roundw
      case rel => exact ⟨k + 1, _, by omega, by go_num, rfl⟩
      case measure => simp [intOf] <;> omega
    · obtain rfl : k = n := by omega
      go_wp2
      go_ret
      exact ⟨rfl, q, rfl⟩

/-- The slice stands for x. -/
def Num (w : World) (A : Option Addr) (n c : Nat) (x : Int) : Prop := ∃ L, Rd w A n c L ∧ val L = x
/-- The slice stands for x, without zeros at its end. -/
def Nrm (w : World) (A : Option Addr) (n c : Nat) (x : Int) : Prop := ∃ L, Rd w A n c L ∧ Is L x
section
variable {w w' : World} {A B : Option Addr} {n c m d : Nat} {x y : Int}
theorem Nrm.num (h : Nrm w A n c x) : Num w A n c x := by obtain ⟨L, h1, h2⟩ := h; exact ⟨L, h1, h2.eq⟩
theorem Num.below (h : Num w A n c x) (hb : Below w.heap.size w w') : Num w' A n c x := by obtain ⟨L, h1, h2⟩ := h; exact ⟨L, h1.below hb, h2⟩
theorem Nrm.below (h : Nrm w A n c x) (hb : Below w.heap.size w w') : Nrm w' A n c x := by obtain ⟨L, h1, h2⟩ := h; exact ⟨L, h1.below hb, h2⟩
theorem Num.drewN (h : Num w A n c x) (k : Nat) : Num (w.drewN k) A n c x := by obtain ⟨L, h1, h2⟩ := h; exact ⟨L, h1.drewN k, h2⟩
theorem Nrm.drewN (h : Nrm w A n c x) (k : Nat) : Nrm (w.drewN k) A n c x := by obtain ⟨L, h1, h2⟩ := h; exact ⟨L, h1.drewN k, h2⟩
theorem Num.nonneg (h : Num w A n c x) : 0 ≤ x := by obtain ⟨L, h1, rfl⟩ := h; exact val_nonneg h1.lims
theorem Num.lt (h : Num w A n c x) : x < pw n := by obtain ⟨L, h1, rfl⟩ := h; have := val_lt h1.lims; rwa [h1.len] at this
theorem Nrm.short (h : Nrm w A n c x) {k : Nat} (hx : x < pw k) : n ≤ k := by
  obtain ⟨L, h1, h2⟩ := h
  rcases Nat.lt_or_ge k n with h3 | h3
  · exfalso
    have hl := h1.len
    obtain ⟨j, hj⟩ : ∃ j, L.length = j + 1 := ⟨L.length - 1, by omega⟩
    have h4 := h2.ge hj
    have h5 := pw_mono (m := k) (n := j) (by omega)
    omega
  · exact h3
theorem Nrm.of_mine {base : Nat} {L : List Int} (h : Mine w base A n c L) (hI : Is L x) : Nrm w A n c x := ⟨L, h.rd, hI⟩
theorem Nrm.cast (h : Nrm w A n c x) (e : x = y) : Nrm w A n c y := by subst e; exact h
end
theorem pw_up {x : Int} {i j : Nat} (h : x < pw i) (hij : i ≤ j) : x < pw j := Int.lt_of_lt_of_le h (pw_mono hij)
theorem pw_sum {x y : Int} {k : Nat} (hx : x < pw k) (hy : y < pw k) : x + y < pw (k + 1) := by have := pw_pos k; rw [pw_succ]; omega
theorem pw_prod {x y : Int} {i j : Nat} (_x0 : 0 ≤ x) (y0 : 0 ≤ y) (hx : x < pw i) (hy : y < pw j) : x * y < pw (i + j) := by
  rw [pw_add]
  have h1 : x * y ≤ pw i * y := Int.mul_le_mul_of_nonneg_right (by omega) y0
  have h2 : pw i * (y + 1) ≤ pw i * pw j := Int.mul_le_mul_of_nonneg_left (by omega) (Int.le_of_lt (pw_pos i))
  have h3 := pw_pos i
  rw [Int.mul_add] at h2
  omega

/-- A slice that stands for x, in normal form, comes back; what was there before is as it was. -/
def GivesN (w : World) (x : Int) (e : Ending) (w' : World) : Prop := ∃ A n c, e = .returned (.slice A n c) ∧ Nrm w' A n c x ∧ Below w.heap.size w w'
def GivesNOk (w : World) (x : Int) (e : Ending) (w' : World) : Prop := ∃ A n c, e = .returned (.tuple #[.slice A n c, .int .i64 0]) ∧ Nrm w' A n c x ∧ Below w.heap.size w w'
theorem Gives.n {w : World} {x : Int} {e : Ending} {w' : World} (h : Gives w x e w') : GivesN w x e w' := by
  obtain ⟨A, n, c, L, h1, h2, h3, h4⟩ := h
  exact ⟨A, n, c, h1, Nrm.of_mine h2 h3, h4⟩
theorem GivesOk.n {w : World} {x : Int} {e : Ending} {w' : World} (h : GivesOk w x e w') : GivesNOk w x e w' := by
  obtain ⟨A, n, c, L, h1, h2, h3, h4⟩ := h
  exact ⟨A, n, c, h1, Nrm.of_mine h2 h3, h4⟩
section
variable {w : World} {A B : Option Addr} {n c m d : Nat} {x y : Int}
theorem add_n (hx : Num w A n c x) (hy : Num w B m d y) (hn : n ≤ 1000000) (hm : m ≤ 1000000) : Calls Tryz.prog 134 #[.slice A n c, .slice B m d] w (GivesN w (x + y)) := by
  obtain ⟨L, h1, rfl⟩ := hx
  obtain ⟨M, h2, rfl⟩ := hy
  exact (add_any A B n c m d L M w h1 h2 hn hm).mono fun _ _ h => h.n
theorem mul_n (hx : Num w A n c x) (hy : Num w B m d y) (hn : n ≤ 1000000) (hm : m ≤ 1000000) : Calls Tryz.prog 74 #[.slice A n c, .slice B m d] w (GivesN w (x * y)) := by
  obtain ⟨L, h1, rfl⟩ := hx
  obtain ⟨M, h2, rfl⟩ := hy
  exact (mul_any A B n c m d L M w h1 h2 hn hm).mono fun _ _ h => h.n
theorem sub_n (hx : Num w A n c x) (hy : Num w B m d y) (hn : n ≤ 1000000) (hle : y ≤ x) : Calls Tryz.prog 135 #[.slice A n c, .slice B m d] w (GivesNOk w (x - y)) := by
  obtain ⟨L, h1, rfl⟩ := hx
  obtain ⟨M, h2, rfl⟩ := hy
  exact (sub_any A B n c m d L M w h1 h2 hn hle).mono fun _ _ h => h.n
theorem trim_n (hx : Num w A n c x) (hn : n ≤ 1000000) : Calls Tryz.prog 97 #[.slice A n c] w (GivesN w x) := by
  obtain ⟨L, h1, rfl⟩ := hx
  exact (trim_any A n c L w h1 hn).mono fun _ _ h => h.n
theorem same_n (hx : Nrm w A n c x) (hy : Nrm w B m d y) (e : x = y) : Calls Tryz.prog 42 #[.slice A n c, .slice B m d] w (Yes w) := by
  subst e
  obtain ⟨L, h1, h2⟩ := hx
  obtain ⟨M, h3, h4⟩ := hy
  obtain rfl := h2.unique h4
  obtain rfl : n = m := h1.len.symm.trans h3.len
  exact same_true A B n c d L w h1 h3
end

end Go.Proofs.YtebbnmjmjoklmaaGreatDoor
