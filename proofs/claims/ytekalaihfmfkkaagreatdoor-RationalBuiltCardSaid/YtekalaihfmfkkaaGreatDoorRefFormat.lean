/-
  exactpplref01.Format: the number in decimal.
-/
import Derived.Test.YtekalaihfmfkkaaGreatDoorRefDiv1
import Derived.Test.YtekalaihfmfkkaaGreatDoorRatF
import Derived.Deep.LoopGhost
import Derived.Deep.CutBlock
namespace Go.Proofs.YtekalaihfmfkkaaGreatDoor
open Go.RowKit
set_option maxRecDepth 20000

theorem revDig_pos_step {k : Nat} (h0 : 0 < k) (T : List UInt8) (R : List UInt8) (h : R = T ++ revDig k) : (0 < k / 10 → R = (T ++ [UInt8.ofNat (48 + k % 10)]) ++ revDig (k / 10)) ∧ (k / 10 = 0 → R = T ++ [UInt8.ofNat (48 + k % 10)]) := by
  constructor
  · intro h1
    rw [h, revDig_big (by omega), List.append_assoc]; rfl
  · intro h1
    rw [h, revDig_small (by omega)]

set_option maxHeartbeats 2000000 in
theorem refFormat_any (A : Option Addr) (n c : Nat) (L : List Int) (w : World) (N : Nat) (hr : Rd w A n c L) (hn : n ≤ 900000) (hN : val L = (N : Int)) :
    Calls Tryz.prog 99 #[.slice A n c] w (TextB w (dec N)) := by
  obtain ⟨i0, hi, hz0, hz1, hz2⟩ := info_parts info_byte
  have hlen : (revDig N).length ≤ 10 * n + 1 := revDig_limbs (by have := val_lt hr.lims; rw [hr.len] at this; exact this) hN
  go_enter Tryz.func99, Tryz.ntmps99
  go_wp2_with fail
  refine (refTrim_any A n c L w hr (by omega)).mono ?_
  rintro e w1 ⟨A1, n1, c1, L1, rfl, hM1, hI1, hB1⟩
  rw [hN] at hI1
  have hn1 : n1 ≤ 900000 := by
    have := (Nrm.of_mine hM1 hI1).short (k := n) (by rw [← hN]; have := val_lt hr.lims; rwa [hr.len] at this)
    omega
  have hnz := (Nrm.of_mine hM1 hI1).len_iff
  have HI1 := Lib.hid hI1
  have HN := Lib.hid hN
  clear hI1 hN hr
  by_cases hz : n1 = 0
  · have hN0 : N = 0 := by have := hnz.1 hz; omega
    subst hN0
    subst hz
    have HD : Hid (dec 0 = ⟨#[48]⟩) := by show _ = _; unfold dec; rw [revDig_small (by decide)]; rfl
    clear hnz
    go_wp2
    go_ret
    exact ⟨by rw [HD.out]; rfl, hB1⟩
  · have hN0 : 0 < N := by
      rcases Nat.eq_zero_or_pos N with h | h
      · exact absurd (hnz.2 (by omega)) hz
      · exact h
    clear hnz
    have hb0 : ((n1 : Int) == 0) = false := by simp; omega
    go_wp2
    try rw [hb0]
    go_loopg [0, 3] N (fun k av tv wr => ∃ (A2 : Option Addr) (n2 c2 : Nat) (S : List Int) (T : List UInt8), av = .slice A2 n2 c2 ∧ n2 ≤ 900000 ∧ Mine wr w.heap.size A2 n2 c2 S ∧ Hid (Is S (k : Int)) ∧
      wr.ownsRow w.heap.size 5 1 tv T.length (bcells T) ∧ Hid (0 < k → revDig N = T ++ revDig k) ∧ Hid (k = 0 → revDig N = T) ∧ Below w.heap.size w wr)
    case atStart => exact ⟨_, _, _, _, [], rfl, hn1, hM1, HI1.out, World.ownsRow_nil _ _ _ _, fun _ => rfl, fun h => by omega, hB1⟩
    case round =>
      obtain ⟨A2, n2, c2, S, T, rfl, hn2, hS, hIS, hT, hD, hD0, hB⟩ := hrel
      clear hM1 hB1 HI1
      have hnz := (Nrm.of_mine hS hIS.out).len_iff
      by_cases h0 : n2 = 0
      · have hk0 : gk = 0 := by have := hnz.1 h0; omega
        have hE := hD0.out hk0
        subst h0
        clear hnz hD hD0 hS hIS
        have hTl : T.length ≤ 10 * n + 1 := by rw [← hE]; exact hlen
        have hTp : 0 < T.length := by rw [← hE, revDig]; simp
        have HE := Lib.hid hE
        clear hE
        obtain ⟨A5, c5, hv5⟩ := row_form hT
        subst hv5
        have hcap : T.length ≤ 10000000 := by omega
        generalize htn : T.length = tn at hT hTp hcap hTl ⊢
        have HTN := Lib.hid htn
        obtain ⟨g5, cc, e5, _⟩ := hT.form hTp
        injection e5 with e5 e6 e7
        subst e5
        clear e6 e7
        clear htn hTl
        go_wp2
        obtain ⟨wo, rfl⟩ : ∃ wo : World, wo = wr := ⟨_, rfl⟩
        go_loopw [6, 7] (fun iv jv wr => ∃ (i : Nat) (q : Int) (Z : List UInt8), 2 * i ≤ tn ∧ iv = .int .i64 i ∧ jv = .int .i64 q ∧ Hid (q + i + 1 = tn) ∧ wr.ownsRow w.heap.size 5 1 (.slice (some ⟨g5, 0, none⟩) tn c5) tn (bcells Z) ∧ Hid (Half T Z i) ∧ Below w.heap.size w wr)
          (fun iv _ _ => tn - (intOf iv).toNat)
        case atStart => exact ⟨0, _, T, by omega, rfl, rfl, by show _ = _; omega, hT, Half.start T, hB⟩
        case round =>
          obtain ⟨i, q, Z, hi2, rfl, rfl, hq, hZ, hH, hB2⟩ := hrel
          clear hB hT
          by_cases hlt : (i : Int) < q
          · obtain ⟨j, rfl⟩ := Int.eq_ofNat_of_zero_le (show 0 ≤ q by omega)
            have hij : i < j := by omega
            have hjn : j < tn := by have := hq.out; omega
            have hZl : Z.length = tn := by have := hZ.1; rw [bcells_length] at this; omega
            have ci := hZ.cellAt i (by omega)
            have cj := hZ.cellAt j (by omega)
            rw [bcells_get Z i (by omega)] at ci
            rw [bcells_get Z j (by omega)] at cj
            have fi := hZ.frozenAt i
            have fj := hZ.frozenAt j
            obtain ⟨xi, xj, Z2, hci, hcj, hz2, hst⟩ : ∃ (xi xj : Int) (Z2 : List UInt8), wr.cell? ⟨g5, i, none⟩ = some (.int .u8 xi) ∧ wr.cell? ⟨g5, j, none⟩ = some (.int .u8 xj) ∧
                ((bcells Z).set i (.int .u8 xj)).set j (.int .u8 xi) = bcells Z2 ∧ Half T Z2 (i + 1) :=
              ⟨_, _, _, ci, cj, bcells_swap Z i j (by omega) (by omega), hH.out.step hij (by have := hq.out; have := HTN.out; omega) (by omega) (by omega)⟩
            have HZ2 := Lib.hid hz2
            have HST := Lib.hid hst
            clear hz2 hst hZl ci cj
            go_wp2
            go_region
            go_wp2
            have hrow := ((hZ.stored i (.int .u8 xj)).1.stored j (.int .u8 xi)).1
            rw [HZ2.out] at hrow
            have hg5 : w.heap.size ≤ g5 := (hZ.lt g5 rfl).1
            go_roundw
            case rel => exact ⟨i + 1, (j : Int) - 1, Z2, by have := hq.out; omega, by go_num, rfl, by show _ = _; have := hq.out; omega, hrow, HST.out, ((hB2.setCell hg5 _).setCell hg5 _).drew⟩
            case measure => simp [intOf] <;> omega
          · have hz := hH.out.done (by have := hq.out; have := HTN.out; omega)
            rw [hz, ← HE.out] at hZ
            clear hz
            have hcv := string_of_row hZ (by omega)
            go_wp2
            go_ret
            exact ⟨rfl, hB2⟩
      · have hkp : 0 < gk := by
          rcases Nat.eq_zero_or_pos gk with h | h
          · exact absurd (hnz.2 (by omega)) h0
          · exact h
        have hEk := hD.out hkp
        have hTl : T.length < 10000001 := by
          have h1 := congrArg List.length hEk
          rw [List.length_append] at h1
          omega
        have SH := Lib.hid (refShort_any A2 n2 c2 10 S wr hS.rd (by omega) (by omega) (by omega))
        have hE1 : Hid (0 < gk / 10 → revDig N = (T ++ [UInt8.ofNat (48 + gk % 10)]) ++ revDig (gk / 10)) := (revDig_pos_step hkp T _ hEk).1
        have hE2 : Hid (gk / 10 = 0 → revDig N = T ++ [UInt8.ofNat (48 + gk % 10)]) := (revDig_pos_step hkp T _ hEk).2
        have HTl := Lib.hid hTl
        clear hD hD0 hEk hTl
        go_wp2_with fail
        refine SH.out.mono ?_
        rintro e w3 ⟨A3, n3, c3, Q, rfl, hQ, IQ, hB3⟩
        have hn3 : n3 ≤ 900000 := by
          have h1 := (Nrm.of_mine hQ IQ).short (k := n2) (by
            have h2 := val_lt hS.rd.lims
            rw [hS.rd.len] at h2
            have h3 := val_nonneg hS.rd.lims
            exact Int.lt_of_le_of_lt (Int.ediv_le_self _ h3) h2)
          omega
        rw [hIS.out.eq] at IQ ⊢
        have hQ' := hQ.more (base' := w.heap.size) hB.size
        have hT' := row_below hT hB3
        have hB' := hB.trans (hB3.mono hB.size)
        have hbelow := hB'.size
        have hdig : Hid (bcells (T ++ [UInt8.ofNat (48 + gk % 10)]) = bcells T ++ [.int .u8 (48 + (gk : Int) % 10)]) := by
          show _ = _
          rw [bcells_snoc, digit_byte]
        have hIQ : Hid (Is Q ((gk / 10 : Nat) : Int)) := by
          show Is _ _
          rw [show ((gk / 10 : Nat) : Int) = (gk : Int) / 10 by omega]; exact IQ
        clear SH hQ hT hB hB3 hS hIS IQ hnz
        go_wp2_with (at_builtin; refine wpList_append_own _ rfl _ _ 142 rfl w.heap.size 5 i0 (.int .u8 0) 1 1 Tryz.underlying142 hi hz0 hz1 hz2 rfl (by decide) _ _ _ rfl (hT'.alloc _) ⟨w3.heap.size, 0, none⟩ 1 1 [.int .u8 (48 + (gk : Int) % 10)] rfl rfl (one_new _ _ _) (one_cell _ rfl) (room_one HTl.out) (room_one' HTl.out) (le_alloc hbelow _) ?_)
        intro v' w4 hown' hgrow _
        rw [← hdig.out] at hown'
        have hlen' : T.length + 1 = (T ++ [UInt8.ofNat (48 + gk % 10)]).length := by simp
        rw [hlen'] at hown'
        have hM4 := (hQ'.alloc (.cells #[.int .u8 (48 + (gk : Int) % 10)] 5)).grown (hT'.alloc _) (by decide) hgrow
        have hB4 := grown_below (hB'.alloc hbelow (.cells #[.int .u8 (48 + (gk : Int) % 10)] 5)) (hT'.alloc _) hgrow (by simp; omega) (Nat.le_refl _)
        clear hgrow hlen'
        go_wp2
        go_roundg (gk / 10)
        case measure => omega
        case rel => exact ⟨_, _, _, _, _, rfl, hn3, hM4, hIQ.out, hown', hE1.out, hE2.out, hB4⟩
end Go.Proofs.YtekalaihfmfkkaaGreatDoor
