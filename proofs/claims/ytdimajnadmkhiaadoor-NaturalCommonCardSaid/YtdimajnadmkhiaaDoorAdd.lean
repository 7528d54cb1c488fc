/-
  natural.Add: for every two lists of limbs it returns the limbs of the sum, in memory of its own.
-/
import Derived.Test.YtdimajnadmkhiaaDoorBase
namespace Go.Proofs.YtdimajnadmkhiaaDoor
open Go.RowKit

set_option maxHeartbeats 1000000 in
theorem add_any (A B : Option Addr) (n c m d : Nat) (L M : List Int) (w : World) (hr : Rd w A n c L) (hs : Rd w B m d M) (hn : n ≤ 1000000) (hm : m ≤ 1000000) :
    Calls Tryd.prog 36 #[.slice A n c, .slice B m d] w (Gives w (val L + val M)) := by
  obtain ⟨i0, hi, hz0, hz1, hz2⟩ := info_parts info_limb
  have y1 := trim_length_le L
  have y2 := trim_length_le M
  rw [hr.len] at y1
  rw [hs.len] at y2
  go_enter Tryd.func36, Tryd.ntmps36
  go_wp2_with fail
  refine (strip_any A n c L w hr).mono ?_
  rintro e w' ⟨A', n', c', rfl, hS, rfl⟩
  have hr' := hS.rd hr
  clear hS
  go_wp2_with fail
  refine (strip_any B m d M w hs).mono ?_
  rintro e w' ⟨B', m', d', rfl, hS, rfl⟩
  have hs' := hS.rd hs
  clear hS
  have l1 := hr'.len
  have l2 := hs'.len
  have V : Hid (val (trim L) + val (trim M) = val L + val M) := by show _ = _; rw [val_trim, val_trim]
  clear hr hs
  generalize trim L = L' at *
  generalize trim M = M' at *
  obtain ⟨P, p, pc, LP, Q, q, qc, LQ, hP, hQ, hpq, hp, hsum, hcases⟩ : ∃ P p pc LP Q q qc LQ, Rd w P p pc LP ∧ Rd w Q q qc LQ ∧ q ≤ p ∧ p ≤ 1000000 ∧ Hid (val LP + val LQ = val L' + val M') ∧
      ((¬ n' < m' ∧ P = A' ∧ p = n' ∧ pc = c' ∧ Q = B' ∧ q = m' ∧ qc = d') ∨ (n' < m' ∧ Q = A' ∧ q = n' ∧ qc = c' ∧ P = B' ∧ p = m' ∧ pc = d')) := by
    by_cases h : n' < m'
    · exact ⟨_, _, _, _, _, _, _, _, hs', hr', by omega, by omega, Int.add_comm _ _, .inr ⟨h, rfl, rfl, rfl, rfl, rfl, rfl⟩⟩
    · exact ⟨_, _, _, _, _, _, _, _, hr', hs', by omega, by omega, rfl, .inl ⟨h, rfl, rfl, rfl, rfl, rfl, rfl⟩⟩
  clear l1 l2 y1 y2 hr' hs'
  rcases hcases with ⟨h, rfl, rfl, rfl, rfl, rfl, rfl⟩ | ⟨h, rfl, rfl, rfl, rfl, rfl, rfl⟩
  all_goals
    go_wp2_with (at_make; refine wpList_make_full _ rfl _ _ 22 rfl w.heap.size 42 i0 (.int .u32 0) 1 Tryd.underlying22 hi hz0 hz1 _ _ _ _ (p + 1) rfl rfl ?b0 ?b1 ?b2 ?b3 (Nat.le_refl _) ?_)
    case b0 => go_num
    case b1 => go_num
    case b2 => rw [hz2]; omega
    case b3 => unfold maxLen; omega
    intro w0 hown hgrow
    have hM0 := Mine.zero hown
    have hB0 := below_of_grown hgrow
    have hq0 := hQ.len
    have hp0 := hP.len
    have HQ := Lib.hid hq0
    have HP := Lib.hid hp0
    clear hown hgrow hq0 hp0
    go_wp2
    go_loopw [6, 27] (fun cv iv wr => ∃ (k : Nat) (cr : Int) (S : List Int), k ≤ p ∧ iv = .int .i64 k ∧ cv = .int .u32 cr ∧ (0 ≤ cr ∧ cr ≤ 1) ∧ Mine wr w.heap.size (some ⟨w.heap.size, 0, none⟩) (p + 1) (p + 1) S ∧
        Hid (val (S.take k) + pw k * cr = val (LP.take k) + val (LQ.take k)) ∧ Below w.heap.size w wr) (fun _ iv _ => p - (intOf iv).toNat)
    case atStart => exact ⟨0, 0, _, Nat.zero_le _, rfl, rfl, by omega, hM0, rfl, hB0⟩
    case round =>
      obtain ⟨k, cr, S, hk, rfl, rfl, ⟨hc0, hc1⟩, hM, hV, hB⟩ := hrel
      clear hM0 hB0
      by_cases hkp : k < p
      · have uP := hP.lims.getD k
        have uQ := hQ.lims.getD k
        obtain ⟨u, hu⟩ : ∃ u, LP.getD k 0 = u := ⟨_, rfl⟩
        obtain ⟨v, hv⟩ : ∃ v, LQ.getD k 0 = v := ⟨_, rfl⟩
        rw [hu] at uP
        rw [hv] at uQ
        obtain ⟨ad, rfl, _, hcP⟩ := (hP.below hB).at_ (by omega)
        have cP := hcP k hkp
        rw [hu] at cP
        have cS := hM.cellAt (i := k) (by omega)
        have fS := hM.frozenAt k
        have hSl := hM.len
        have st := add_step (S := S) (k := k) (cr := cr) (by omega) hu hv hV.out
        have ST := Lib.hid st
        clear st hcP hu hSl
        have hA := add32_any u v cr
        have hs0 : 0 ≤ (u + v + cr) % 4294967296 ∧ (u + v + cr) % 4294967296 < 4294967296 := by omega
        have hs1 : 0 ≤ (u + v + cr) / 4294967296 ∧ (u + v + cr) / 4294967296 ≤ 1 := by omega
        by_cases hkq : k < q
        · obtain ⟨ad', rfl, _, hcQ⟩ := (hQ.below hB).at_ (by omega)
          have cQ := hcQ k hkq
          rw [hv] at cQ
          clear hcQ hv
          have HA := Lib.hid hA
          clear hA
          go_wp2_with (go_at_call 57; refine (HA.out _ uP uQ (by omega)).mono ?_; rintro e w' ⟨rfl, rfl⟩)
          go_roundw
          case rel => exact ⟨k + 1, _, _, by omega, by go_num, rfl, hs1, hM.stored k hs0.1 hs0.2, ST.out, hB.setCell (Nat.le_refl _) _⟩
          case measure => simp [intOf] <;> omega
        · obtain rfl : v = 0 := by rw [← hv, getD_ge _ _ (by have := HQ.out; omega)]
          clear hv
          simp only [Int.add_zero] at hs0 hs1 ST
          have HA := Lib.hid hA
          clear hA
          go_wp2_with (go_at_call 57; refine (HA.out _ uP uQ (by omega)).mono ?_; rintro e w' ⟨rfl, rfl⟩)
          go_roundw
          case rel => exact ⟨k + 1, _, _, by omega, by go_num, rfl, hs1, hM.stored k hs0.1 hs0.2, ST.out, hB.setCell (Nat.le_refl _) _⟩
          case measure => simp [intOf] <;> omega
      · obtain rfl : k = p := by omega
        clear hkp
        have cS := hM.cellAt (i := k) (by omega)
        have fS := hM.frozenAt k
        have hF : Hid (val (S.set k cr) = val L' + val M') := by
          refine (add_last (S := S) (p := k) (cr := cr) hM.len hV.out).trans ?_
          rw [List.take_of_length_le (by have := HP.out; omega), List.take_of_length_le (by have := HQ.out; omega)]
          exact hsum.out
        have hM2 := hM.stored k hc0 (by omega)
        go_wp2_with fail
        refine (strip_any _ _ _ _ _ hM2.rd).mono ?_
        rintro e w' ⟨A2, n2, c2, rfl, hS2, rfl⟩
        have hm' := hS2.mine hM2
        have hI := Is.mk_trim hM2.lims
        rw [hF.out, V.out] at hI
        have HI := Lib.hid hI
        clear hS2 hI
        go_wp2
        go_ret
        exact ⟨_, _, _, _, rfl, hm', HI.out, hB.setCell (Nat.le_refl _) _⟩

end Go.Proofs.YtdimajnadmkhiaaDoor
