/-
  slices.Clone of a slice of limbs that is not nil, and natural.divideByLimb: the slice holds the quotient by one limb afterwards, and the remainder is returned.
-/
import Derived.Test.YtdimajnadmkhiaaDoorBase
import Derived.WalkSpells
namespace Go.Proofs.YtdimajnadmkhiaaDoor
open Go.RowKit

theorem clone_any (ad : Addr) (n c : Nat) (L : List Int) (w : World) (hr : Rd w (some ad) n c L) (h0 : 0 < n) (hn : n ≤ 1000000) :
    Calls Tryd.prog 48 #[.slice (some ad) n c] w fun e w' => ∃ A' c', e = .returned (.slice A' n c') ∧ Mine w' w.heap.size A' n c' L ∧ Below w.heap.size w w' := by
  obtain ⟨i0, hi, hz0, hz1, hz2⟩ := info_parts info_limb
  obtain ⟨ad', e, hb, hc⟩ := (hr.alloc (.cells #[] 42)).at_ h0
  obtain rfl : ad = ad' := by injection e
  have HL := Lib.hid hr.len
  have hnil := fun (w : World) (n c : Nat) => Lib.run_eql_slice_nil (P := Tryd.prog) w 22 42 (some ad) n c 0 0 Tryd.underlying22
  have HC := Lib.hid hc
  clear e hc
  go_enter Tryd.func48, Tryd.ntmps48
  go_wp2_with (at_builtin; refine wpList_append_own _ rfl _ _ 22 rfl w.heap.size 42 i0 (.int .u32 0) 1 4 Tryd.underlying22 hi hz0 hz1 hz2 rfl (by decide) (.slice (some ⟨w.heap.size, 0, none⟩) 0 0) 0 [] rfl (World.ownsRow_made w #[] 0 (Nat.le_refl _) (Nat.zero_le _) rfl) ad n c (cells L) rfl ?c1 ?c2 ?c3 ?c4 ?c5 ?c6 ?_)
  case c1 => rw [cells_length]; have := HL.out; omega
  case c2 => exact cells_at HL.out HC.out
  case c3 => exact oneCell_cells _
  case c4 => unfold maxLen; omega
  case c5 => omega
  case c6 => simp
  intro v' w1 hown hgrow _
  go_wp2
  go_ret
  obtain ⟨A1, c1, hv, hm⟩ := Mine.of_row (L := L) (by simpa using hown) hr.lims
  exact ⟨A1, c1, congrArg Ending.returned hv, hm, ((Below.refl _ _).alloc (Nat.le_refl _) _).grown hgrow (by simp) (by intro k hk; cases hk; exact Nat.le_refl _)⟩

set_option maxHeartbeats 400000 in
theorem divideByLimb_any (A : Option Addr) (n c base : Nat) (L : List Int) (w : World) (d : Int) (hm : Mine w base A n c L) (d0 : 1 ≤ d) (d1 : d < 4294967296) :
    Calls Tryd.prog 49 #[.slice A n c, .int .u32 d] w fun e w' => ∃ S r, e = .returned (.int .u32 r) ∧ Mine w' base A n c S ∧ val L = d * val S + r ∧ (0 ≤ r ∧ r < d) ∧ Only A w w' := by
  have hl := hm.len
  have hcap := hm.rd.cap
  have htop := hm.rd.top
  unfold maxLen at htop
  have HL := Lib.hid hl
  clear hl
  go_enter Tryd.func49, Tryd.ntmps49
  go_wp2
  go_loopw [5, 6] (fun rv iv wr => ∃ (k : Nat) (r : Int) (S : List Int), k ≤ n ∧ iv = .int .i64 ((k : Int) - 1) ∧ rv = .int .u32 r ∧ (0 ≤ r ∧ r < d) ∧ Mine wr base A n c S ∧ Hid (S.take k = L.take k) ∧
      Hid (val (L.drop k) = d * val (S.drop k) + r) ∧ Only A w wr) (fun _ iv _ => (intOf iv + 1).toNat)
  case atStart => exact ⟨n, 0, L, Nat.le_refl _, rfl, rfl, by omega, hm, rfl, by show _ = _; rw [List.drop_eq_nil_of_le (by have := HL.out; omega)]; simp [val], Only.refl _ _⟩
  case round =>
    obtain ⟨k, r, S, hk, rfl, rfl, ⟨r0, r1⟩, hS, hT, hV, hO⟩ := hrel
    by_cases h0 : k = 0
    · subst h0
      go_wp2
      go_ret
      exact ⟨S, r, rfl, hS, by simpa using hV.out, ⟨r0, r1⟩, hO⟩
    · obtain ⟨j, rfl⟩ : ∃ j, k = j + 1 := ⟨k - 1, by omega⟩
      obtain ⟨g, rfl, hg, hg'⟩ := hS.form (by omega)
      have uL := hm.lims.getD j
      obtain ⟨l, hl⟩ : ∃ l, L.getD j 0 = l := ⟨_, rfl⟩
      have cS := hS.cellAt (i := j) (by omega)
      have fS := hS.frozenAt j
      rw [getD_of_take hT.out (Nat.lt_succ_self j), hl] at cS
      rw [hl] at uL
      have ST := Lib.hid (div_step (S := S) (L := L) (j := j) (d := d) (r := r) (by rw [hS.len]; omega) (by have := HL.out; omega) hl hV.out)
      have hT2 : Hid ((S.set j ((r * 4294967296 + l) / d)).take j = L.take j) := by
        show _ = _
        rw [take_set_of]; exact take_less hT.out (Nat.le_succ j)
      have q0 : 0 ≤ (r * 4294967296 + l) / d ∧ (r * 4294967296 + l) / d < 4294967296 := by
        refine ⟨Int.ediv_nonneg (by omega) (by omega), Int.ediv_lt_of_lt_mul (by omega) ?_⟩
        have : r * 4294967296 + 4294967296 ≤ d * 4294967296 := by omega
        rw [Int.mul_comm 4294967296 d]; omega
      have m0 := Int.emod_nonneg (r * 4294967296 + l) (show d ≠ 0 by omega)
      have m1 := Int.emod_lt_of_pos (r * 4294967296 + l) (show 0 < d by omega)
      have HA := Lib.hid (div32_any r l d)
      clear hl h0
      go_wp2_with (go_at_call 64; refine (HA.out _ ⟨r0, r1⟩ uL d1).mono ?_; rintro e w' ⟨rfl, kk, rfl⟩)
      go_roundw
      case rel => exact ⟨j, _, _, by omega, by go_num, rfl, ⟨m0, m1⟩, (hS.drewN _).stored j q0.1 q0.2, hT2, ST.out, (hO.drewN _).set j _⟩
      case measure => simp [intOf] <;> omega

end Go.Proofs.YtdimajnadmkhiaaDoor
