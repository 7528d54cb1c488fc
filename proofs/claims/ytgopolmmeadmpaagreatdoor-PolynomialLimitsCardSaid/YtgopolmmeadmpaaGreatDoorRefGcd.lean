/-
  exactpplref01.DivMod and GCD, by the numbers alone; their results lie in blocks of their own.
-/
import Derived.Test.YtgopolmmeadmpaaGreatDoorRefDivN
import Derived.Test.YtgopolmmeadmpaaGreatDoorGcdN
import Derived.Deep.LoopGhost
namespace Go.Proofs.YtgopolmmeadmpaaGreatDoor
open Go.RowKit
set_option maxRecDepth 20000

theorem refDivMod_any (A B : Option Addr) (n c m d : Nat) (L M : List Int) (w : World) (hr : Rd w A n c L) (hs : Rd w B m d M) (hn : n ≤ 800000) (hm : m ≤ 800000) (m0 : 0 < val M) :
    Calls Tryz.prog 84 #[.slice A n c, .slice B m d] w (Gives2 w (val L / val M) (val L % val M)) := by
  by_cases h : val M < 4294967296
  · exact refDivMod_one A B n c m d L M w hr hs (by omega) (by omega) m0 h
  · exact refDivMod_long A B n c m d L M w hr hs hn hm (by omega)
theorem refDivMod_n {w : World} {A B : Option Addr} {n c m d : Nat} {x y : Int} (hx : Num w A n c x) (hy : Num w B m d y) (hn : n ≤ 800000) (hm : m ≤ 800000) (y0 : 0 < y) :
    Calls Tryz.prog 84 #[.slice A n c, .slice B m d] w (Gives2N w (x / y) (x % y)) := by
  obtain ⟨L, h1, rfl⟩ := hx
  obtain ⟨M, h2, rfl⟩ := hy
  refine (refDivMod_any A B n c m d L M w h1 h2 hn hm y0).mono fun e w' h => ?_
  obtain ⟨A, n, c, Q, B, m, d, R, he, hQ, iQ, hR, iR, hB⟩ := h
  exact ⟨A, n, c, B, m, d, he, Nrm.of_mine hQ iQ, Nrm.of_mine hR iR, hB⟩

theorem refDivMod_zero (A B : Option Addr) (n c m d : Nat) (L M : List Int) (w : World) (hr : Rd w A n c L) (hs : Rd w B m d M) (hn : n ≤ 800000) (hm : m ≤ 800000) (m0 : val M = 0) :
    Calls Tryz.prog 84 #[.slice A n c, .slice B m d] w fun e w' => e = .returned (.tuple #[.slice none 0 0, .slice none 0 0, .int .i64 3]) ∧ Below w.heap.size w w' := by
  go_enter Tryz.func84, Tryz.ntmps84
  go_wp2_with fail
  refine (refTrim_any A n c L w hr (by omega)).mono ?_
  rintro e w1 ⟨A1, n1, c1, L1, rfl, hA1, hI, hB1⟩
  clear hI hA1
  go_wp2_with fail
  refine (refTrim_any B m d M w1 (hs.below hB1) (by omega)).mono ?_
  rintro e w2 ⟨B1, k1, d1, M1, rfl, hA2, hJ, hB2⟩
  obtain rfl : k1 = 0 := by
    rw [m0] at hJ
    exact (Nrm.of_mine hA2 hJ).zero_len
  have hBB := nextB hB1 hB2
  clear hJ hA2 hr hs hB1 hB2
  go_wp2
  go_ret3
  exact ⟨rfl, hBB⟩

theorem gcd_step {x y G : Int} (h : (Int.gcd x y : Int) = G) : (Int.gcd y (x % y) : Int) = G := by
  rw [← h, gcd_rest]

theorem trim_len {L : List Int} {m : Nat} (h : L.length ≤ m) : (trim L).length ≤ m := Nat.le_trans (trim_length_le L) h

set_option maxHeartbeats 1000000 in
theorem refGcd_any (A B : Option Addr) (n c m d : Nat) (L M : List Int) (w : World) (hr : Rd w A n c L) (hs : Rd w B m d M) (hn : n ≤ 800000) (hm : m ≤ 800000) (G : Int) (hG : (Int.gcd (val L) (val M) : Int) = G) :
    Calls Tryz.prog 83 #[.slice A n c, .slice B m d] w (Gives w G) := by
  have HG := Lib.hid hG
  clear hG
  go_enter Tryz.func83, Tryz.ntmps83
  go_wp2_with fail
  refine (refTrim_any A n c L w hr (by omega)).mono ?_
  rintro e w1 ⟨A1, n1, c1, L1, rfl, hA1, hI, hB1⟩
  have HI := Lib.hid hI
  have hn1 : n1 ≤ 800000 := by
    have h2 := hA1.len
    have h3 := hr.len
    have h4 := hI.unique (Is.mk_trim hr.lims)
    have h5 := trim_length_le L
    rw [← h4] at h5
    omega
  clear hI
  go_wp2_with fail
  refine (refTrim_any B m d M w1 (hs.below hB1) (by omega)).mono ?_
  rintro e w2 ⟨B1, m1, d1, M1, rfl, hA2, hJ, hB2⟩
  have hm1 : m1 ≤ 800000 := by
    have h2 := hA2.len
    have h3 := hs.len
    have h4 := hJ.unique (Is.mk_trim hs.lims)
    have h5 := trim_length_le M
    rw [← h4] at h5
    omega
  obtain ⟨y, hy⟩ := Int.eq_ofNat_of_zero_le (val_nonneg hs.lims)
  have hJ' : Is M1 (y : Int) := by rw [← hy]; exact hJ
  have HJ := Lib.hid hJ'
  have hA3 := hA1.below hB2
  have hA4 := hA2.more hB1.size
  have hBB := nextB hB1 hB2
  have HG2 : Hid ((Int.gcd (val L) (y : Int) : Int) = G) := by show _ = _; rw [← hy]; exact HG.out
  clear hJ hJ' hA1 hA2 hB1 hB2 hr hs hy
  go_wp2
  go_loopg [0, 1] y (fun k av bv wr => ∃ (A : Option Addr) (n c : Nat) (L : List Int) (B : Option Addr) (m d : Nat) (M : List Int) (x : Int), av = .slice A n c ∧ bv = .slice B m d ∧ n ≤ 800000 ∧ m ≤ 800000 ∧ Mine wr w.heap.size A n c L ∧ Hid (Is L x) ∧ Mine wr w.heap.size B m d M ∧ Hid (Is M (k : Int)) ∧
    Hid ((Int.gcd x (k : Int) : Int) = G) ∧ Below w.heap.size w wr)
  case atStart => exact ⟨A1, n1, c1, L1, B1, m1, d1, M1, _, rfl, rfl, hn1, hm1, hA3, HI.out, hA4, HJ.out, HG2.out, hBB⟩
  case round =>
    obtain ⟨A2, n2, c2, L2, B2, m2, d2, M2, x, rfl, rfl, hn2, hm2, hL, hIL, hM, hIM, hE, hB⟩ := hrel
    clear hA3 hA4 hBB HI HJ HG2
    have hcap := hM.rd.cap
    by_cases h0 : m2 = 0
    · have hk : (gk : Int) = 0 := by
        subst h0
        have : M2 = [] := List.eq_nil_of_length_eq_zero hM.len
        rw [this] at hIM
        exact hIM.out.eq_of_nil
      have hx0 := hIL.out.nonneg
      have hF : Hid (Is L2 G) := by
        have h1 := hE.out
        rw [hk, Int.gcd_zero_right, Int.ofNat_natAbs_of_nonneg hx0] at h1
        rw [← h1]; exact hIL.out
      subst h0
      clear hk hM
      go_wp2
      go_ret
      exact ⟨A2, n2, c2, L2, rfl, hL, hF.out, hB⟩
    · have hkp : 0 < (gk : Int) := by
        obtain ⟨j, hj⟩ : ∃ j, M2.length = j + 1 := ⟨M2.length - 1, by have := hM.len; omega⟩
        have := hIM.out.ge hj
        have := pw_pos j
        omega
      have DM := refDivMod_any A2 B2 n2 c2 m2 d2 L2 M2 wr hL.rd hM.rd hn2 hm2 (by rw [hIM.out.eq]; exact hkp)
      rw [hIL.out.eq, hIM.out.eq] at DM
      have HDM := Lib.hid DM
      obtain ⟨r, hrr⟩ := Int.eq_ofNat_of_zero_le (Int.emod_nonneg x (show (gk : Int) ≠ 0 by omega))
      have hrlt := Int.emod_lt_of_pos x hkp
      have hlt2 := hIM.out.lt
      rw [hM.len] at hlt2
      have hstep := gcd_step hE.out
      rw [hrr] at hrlt hstep
      have HRR := Lib.hid hrr
      have HST := Lib.hid hstep
      have hrk : r < gk := by omega
      have hrp : (r : Int) < pw m2 := by omega
      have HRP := Lib.hid hrp
      have hbs := hB.size
      clear DM hrr hstep hrlt hlt2 hkp hL hIL hE hrp
      go_wp2_with fail
      refine HDM.out.mono ?_
      rintro e w3 ⟨A4, n4, c4, Q, B4, m4, d4, R, rfl, hQ, iQ, hR, iR, hB3⟩
      rw [HRR.out] at iR
      have hm4 : m4 ≤ m2 := (Nrm.of_mine hR iR).short HRP.out
      have HIR := Lib.hid iR
      have hM3 := hM.below hB3
      have hR3 := hR.more hbs
      have hB4 := nextB hB hB3
      clear iR iQ hQ hM hR HDM hB3 hB
      go_wp2
      go_roundg r
      case measure => omega
      case rel => exact ⟨B2, m2, d2, M2, B4, m4, d4, R, _, rfl, rfl, hm2, by omega, hM3, hIM.out, hR3, HIR.out, HST.out, hB4⟩

theorem refGcd_n {w : World} {A B : Option Addr} {n c m d : Nat} {x y : Int} (hx : Num w A n c x) (hy : Num w B m d y) (hn : n ≤ 800000) (hm : m ≤ 800000) :
    Calls Tryz.prog 83 #[.slice A n c, .slice B m d] w (GivesN w (Int.gcd x y : Int)) := by
  obtain ⟨L, h1, rfl⟩ := hx
  obtain ⟨M, h2, rfl⟩ := hy
  exact (refGcd_any A B n c m d L M w h1 h2 hn hm _ rfl).mono fun _ _ h => h.n

end Go.Proofs.YtgopolmmeadmpaaGreatDoor
