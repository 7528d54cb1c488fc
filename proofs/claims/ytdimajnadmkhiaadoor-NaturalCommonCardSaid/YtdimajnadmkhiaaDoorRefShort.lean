/-
  exactpplref01.short: division by one limb.
-/
import Derived.Test.YtdimajnadmkhiaaDoorRefCmp
import Derived.Test.YtdimajnadmkhiaaDoorDivN
namespace Go.Proofs.YtdimajnadmkhiaaDoor
open Go.RowKit

def ShortPost (w : World) (q r : Int) (e : Ending) (w' : World) : Prop :=
  ∃ A n c Q, e = .returned (.tuple #[.slice A n c, .int .u32 r]) ∧ Mine w' w.heap.size A n c Q ∧ Is Q q ∧ Below w.heap.size w w'

theorem short_step {S L : List Int} {j : Nat} {r l d : Int} (hS : j < S.length) (hL : j < L.length) (hl : L.getD j 0 = l) (h : val (S.drop (j + 1)) * d + r = val (L.drop (j + 1))) :
    val ((S.set j ((r * 4294967296 + l) / d)).drop j) * d + (r * 4294967296 + l) % d = val (L.drop j) := by
  rw [drop_set_val hS, List.drop_eq_getElem_cons hL, val_cons, ← getD_of_lt, hl, ← h]
  have e := Int.mul_ediv_add_emod (r * 4294967296 + l) d
  generalize (r * 4294967296 + l) / d = q at *
  generalize (r * 4294967296 + l) % d = s at *
  grind

theorem short_fit {r l d : Int} (r0 : 0 ≤ r) (r1 : r < d) (hl : 0 ≤ l ∧ l < 4294967296) : 0 ≤ (r * 4294967296 + l) / d ∧ (r * 4294967296 + l) / d < 4294967296 ∧ 0 ≤ (r * 4294967296 + l) % d ∧ (r * 4294967296 + l) % d < d := by
  have hd : 0 < d := by omega
  refine ⟨Int.ediv_nonneg (by omega) (by omega), Int.ediv_lt_of_lt_mul hd ?_, Int.emod_nonneg _ (by omega), Int.emod_lt_of_pos _ hd⟩
  have h1 : (r + 1) * 4294967296 ≤ d * 4294967296 := le_mul (by omega) (by decide)
  omega

set_option maxHeartbeats 1000000 in
theorem refShort_any (A : Option Addr) (n c : Nat) (d : Int) (L : List Int) (w : World) (hr : Rd w A n c L) (hn : n ≤ 1000000) (d0 : 0 < d) (d1 : d < 4294967296) :
    Calls Tryd.prog 51 #[.slice A n c, .int .u32 d] w (ShortPost w (val L / d) (val L % d)) := by
  obtain ⟨i0, hi, hz0, hz1, hz2⟩ := info_parts info_limb
  have HL := Lib.hid hr.len
  have hcap := hr.cap
  go_enter Tryd.func51, Tryd.ntmps51
  go_wp2_with (at_make; refine wpList_make_full _ rfl _ _ 22 rfl w.heap.size 42 i0 (.int .u32 0) 1 Tryd.underlying22 hi hz0 hz1 _ _ _ _ n rfl rfl ?b0 ?b1 ?b2 ?b3 (Nat.le_refl _) ?_)
  case b0 => rfl
  case b1 => rfl
  case b2 => rw [hz2]; omega
  case b3 => unfold maxLen; omega
  intro w0 hown hgrow
  have hM0 := Mine.zero hown
  have hB0 := below_of_grown hgrow
  clear hown hgrow
  go_wp2
  go_loopw [7, 8] (fun rv iv wr => ∃ (k : Nat) (r : Int) (S : List Int), k ≤ n ∧ iv = .int .i64 ((k : Int) - 1) ∧ rv = .int .u64 r ∧ (0 ≤ r ∧ r < d) ∧ Mine wr w.heap.size (some ⟨w.heap.size, 0, none⟩) n n S ∧
      Hid (val (S.drop k) * d + r = val (L.drop k)) ∧ Below w.heap.size w wr) (fun _ iv _ => (intOf iv + 1).toNat)
  case atStart =>
    refine ⟨n, 0, _, Nat.le_refl _, rfl, rfl, by omega, hM0, ?_, hB0⟩
    show _ = _
    rw [List.drop_eq_nil_of_le (by simp), List.drop_eq_nil_of_le (by have := HL.out; omega)]; simp [val]
  case round =>
    obtain ⟨k, r, S, hk, rfl, rfl, ⟨r0, r1⟩, hM, hV, hB⟩ := hrel
    clear hM0 hB0
    by_cases h0 : k = 0
    · subst h0
      have hF := hV.out
      rw [List.drop_zero, List.drop_zero] at hF
      have hq : val L / d = val S := by rw [← hF, Int.add_comm, Int.add_mul_ediv_right _ _ (by omega), Int.ediv_eq_zero_of_lt r0 r1]; omega
      have hm : val L % d = r := by rw [← hF, Int.add_comm, Int.add_mul_emod_self_right, Int.emod_eq_of_lt r0 r1]
      have HQ := Lib.hid hq
      have HM := Lib.hid hm
      have TR := Lib.hid (refTrim_any _ _ _ _ wr hM.rd hn)
      have hs := hB.size
      have HMs := Lib.hid hM
      clear hF hq hm hM hV
      go_wp2_with fail
      refine TR.out.mono ?_
      rintro e w4 ⟨A4, n4, c4, R, rfl, hR, IR, hB4⟩
      have HI := Lib.hid IR
      clear IR
      go_wp2
      go_ret2
      refine ⟨A4, n4, c4, R, ?_, hR.more hs, ?_, nextB hB hB4⟩
      · rw [HM.out]; rfl
      · rw [HQ.out]; exact HI.out
    · obtain ⟨j, rfl⟩ : ∃ j, k = j + 1 := ⟨k - 1, by omega⟩
      obtain ⟨ad, rfl, hadB, hc0⟩ := hr.at_ (by omega)
      have cL := (hB.cell (p := ad.add j) (by rw [addr_block]; exact hadB)).trans (hc0 j (by omega))
      have uL := hr.lims.getD j
      obtain ⟨l, hl⟩ : ∃ l, L.getD j 0 = l := ⟨_, rfl⟩
      have cS := hM.cellAt (i := j) (by omega)
      have fS := hM.frozenAt j
      rw [hl] at cL uL
      have J := or_join r l r0 (by omega) uL.1 uL.2
      obtain ⟨f0, f1, f2, f3⟩ := short_fit r0 r1 uL
      have ST := Lib.hid (short_step (S := S) (L := L) (j := j) (r := r) (d := d) (by rw [hM.len]; omega) (by have := HL.out; omega) hl hV.out)
      have hM1 := hM.stored j f0 f1
      clear hc0 hl h0
      generalize S.getD j 0 = y at *
      go_wp2
      go_roundw
      case rel => exact ⟨j, _, _, by omega, by go_num, rfl, ⟨f2, f3⟩, hM1, ST, hB.setCell (Nat.le_refl _) _⟩
      case measure => simp [intOf] <;> omega

end Go.Proofs.YtdimajnadmkhiaaDoor
