/-
  natural.DivMod, where the divisor is zero, has one limb, or has more limbs than the dividend: the quotient and the remainder, or ErrDivide.
-/
import Derived.Test.YtdimajnadmkhiaaDoorDiv1
namespace Go.Proofs.YtdimajnadmkhiaaDoor
open Go.RowKit

/-- Two slices of the call's own with the limbs of q and r come back, and no error. -/
def Gives2 (w : World) (q r : Int) (e : Ending) (w' : World) : Prop :=
  ∃ A n c Q B m d R, e = .returned (.tuple #[.slice A n c, .slice B m d, .int .i64 0]) ∧ Mine w' w.heap.size A n c Q ∧ Is Q q ∧ Mine w' w.heap.size B m d R ∧ Is R r ∧ Below w.heap.size w w'

theorem divMod_zero (A B : Option Addr) (n c m d : Nat) (L M : List Int) (w : World) (hr : Rd w A n c L) (hs : Rd w B m d M) (hz : val M = 0) :
    Calls Tryd.prog 24 #[.slice A n c, .slice B m d] w fun e w' => e = .returned (.tuple #[.slice none 0 0, .slice none 0 0, .int .i64 3]) ∧ w = w' := by
  have hT := trim_of_zero hs.lims hz
  go_enter Tryd.func24, Tryd.ntmps24
  go_wp2_with fail
  refine (strip_any A n c L w hr).mono ?_
  rintro e w' ⟨A', n', c', rfl, hS, rfl⟩
  clear hS
  go_wp2_with fail
  refine (strip_any B m d M w hs).mono ?_
  rintro e w' ⟨B', m', d', rfl, hS, rfl⟩
  obtain rfl : m' = 0 := by rw [hS.1, hT]; rfl
  clear hS hT hz
  go_wp2
  go_ret3
  exact ⟨rfl, rfl⟩

theorem divMod_less (A B : Option Addr) (n c m d : Nat) (L M : List Int) (w : World) (hr : Rd w A n c L) (hs : Rd w B m d M) (hn : n ≤ 1000000) (hlt : (trim L).length < (trim M).length) :
    Calls Tryd.prog 24 #[.slice A n c, .slice B m d] w (Gives2 w (val L / val M) (val L % val M)) := by
  have hI := Is.mk_trim hr.lims
  have hJ := Is.mk_trim hs.lims
  have hv := hI.lt_of_length hJ hlt
  have v0 := val_nonneg hr.lims
  have hq : Hid (0 = val L / val M) := (Int.ediv_eq_zero_of_lt v0 hv).symm
  have hm : Hid (val L = val L % val M) := (Int.emod_eq_of_lt v0 hv).symm
  have y1 := trim_length_le L
  rw [hr.len] at y1
  clear hI hJ hv v0
  go_enter Tryd.func24, Tryd.ntmps24
  go_wp2_with fail
  refine (strip_any A n c L w hr).mono ?_
  rintro e w' ⟨A', n', c', rfl, hS, rfl⟩
  have hr' := hS.rd hr
  have l1 := hr'.len
  clear hS
  go_wp2_with fail
  refine (strip_any B m d M w hs).mono ?_
  rintro e w' ⟨B', m', d', rfl, hS, rfl⟩
  have hs' := hS.rd hs
  have l2 := hs'.len
  have t2 := hs'.top
  have c2 := hs'.cap
  unfold maxLen at t2
  have h1 : n' < m' := by omega
  have h2 : n' ≤ 1000000 := by omega
  clear hS l1 l2 hlt y1
  have hz : ((m' : Int) == 0) = false := by simp; omega
  go_wp2_with fail
  refine (trim_any A' n' c' (trim L) w hr' h2).mono ?_
  rintro e w1 ⟨A1, n1, c1, L1, rfl, hM1, hI1, hB1⟩
  rw [val_trim, hm.out] at hI1
  have HI := Lib.hid hI1
  clear hI1
  go_wp2
  go_ret3
  exact ⟨none, 0, 0, [], A1, n1, c1, L1, rfl, Mine.nil _ _, hq.out ▸ Is.zero, hM1, HI.out, hB1⟩

set_option maxHeartbeats 400000 in
theorem divMod_one (A B : Option Addr) (n c m d : Nat) (L M : List Int) (w : World) (hr : Rd w A n c L) (hs : Rd w B m d M) (hn : n ≤ 1000000) (h0 : 0 < (trim L).length) (h1 : (trim M).length = 1) :
    Calls Tryd.prog 24 #[.slice A n c, .slice B m d] w (Gives2 w (val L / val M) (val L % val M)) := by
  have hI := Is.mk_trim hr.lims
  have hJ := Is.mk_trim hs.lims
  have y1 := trim_length_le L
  rw [hr.len] at y1
  have hdv : val M = (trim M).getD 0 0 := by
    rw [← val_trim]
    match trim M, h1 with
    | [x], _ => simp [val]
  have hdp : (trim M).getD 0 0 ≠ 0 := last_ne hJ.nrm 0 (by omega)
  have hdr := hJ.lims.getD 0
  obtain ⟨dv, hd⟩ : ∃ dv, (trim M).getD 0 0 = dv := ⟨_, rfl⟩
  rw [hd] at hdv hdp hdr
  go_enter Tryd.func24, Tryd.ntmps24
  go_wp2_with fail
  refine (strip_any A n c L w hr).mono ?_
  rintro e w' ⟨A', n', c', rfl, hS, rfl⟩
  have hr' := hS.rd hr
  have l1 := hr'.len
  clear hS
  go_wp2_with fail
  refine (strip_any B m d M w hs).mono ?_
  rintro e w' ⟨B', m', d', rfl, hS, rfl⟩
  have hs' := hS.rd hs
  have l2 := hs'.len
  obtain rfl : m' = 1 := by omega
  have hn0 : 0 < n' := by omega
  have hn1 : n' ≤ 1000000 := by omega
  have HV := Lib.hid hdv
  obtain ⟨ad, rfl, _, _⟩ := hr'.at_ hn0
  obtain ⟨ad', rfl, hb', hc'⟩ := hs'.at_ (by omega)
  have cM := hc' 0 (by omega)
  have ea : ad'.add 0 = ad' := by simp [Addr.add]
  rw [hd, ea] at cM
  clear ea hS hc' hd hdv h1 l1 l2 h0 y1 hI hJ hs
  go_wp2_with fail
  refine (clone_any ad n' c' (trim L) w hr' hn0 hn1).mono ?_
  rintro e w1 ⟨A1, c1, rfl, hM1, hB1⟩
  have cM1 := (hB1.cell (p := ad') hb').trans cM
  go_wp2_with fail
  refine (divideByLimb_any A1 n' c1 w.heap.size (trim L) w1 dv hM1 (by omega) hdr.2).mono ?_
  rintro e w2 ⟨S, r, rfl, hM2, hV2, hr2, hO2⟩
  have hB2 : Below w.heap.size w w2 := hB1.trans (hO2.below fun a ha => (hM1.lt a ha).1)
  have hq : Hid (val S = val L / val M) := by
    show _ = _
    rw [val_trim] at hV2
    rw [HV.out, hV2, Int.mul_comm, Int.add_comm, Int.add_mul_ediv_right _ _ hdp, Int.ediv_eq_zero_of_lt hr2.1 hr2.2]
    omega
  have hrm : Hid (r = val L % val M) := by
    show _ = _
    rw [val_trim] at hV2
    rw [HV.out, hV2, Int.mul_comm, Int.add_comm, Int.add_mul_emod_self_right, Int.emod_eq_of_lt hr2.1 hr2.2]
  clear hV2
  go_wp2_with fail
  refine (strip_any _ _ _ _ _ hM2.rd).mono ?_
  rintro e w' ⟨A3, n3, c3, rfl, hS3, rfl⟩
  have hM3 := hS3.mine hM2
  clear hS3
  go_wp2_with fail
  refine (fromWord_any _ _ (by omega) (by omega)).mono ?_
  rintro e w4 ⟨A4, n4, c4, L4, rfl, hM4, hI4, hB4⟩
  have hq2 : Hid (Is (trim S) (val L / val M)) := hq.out ▸ Is.mk_trim hM2.lims
  have hr4 : Hid (Is L4 (val L % val M)) := hrm.out ▸ hI4
  clear hI4
  go_wp2
  go_ret3
  exact ⟨A3, n3, c3, _, A4, n4, c4, L4, rfl, hM3.below hB4, hq2.out, hM4.more hB2.size, hr4.out, hB2.trans (hB4.mono hB2.size)⟩

end Go.Proofs.YtdimajnadmkhiaaDoor
