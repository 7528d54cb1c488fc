/-
  What the rows of numbers and fractions of the reference need, part B.
-/
import Derived.Test.YtklndjkblfncjaaGreatDoorQA
import Derived.Deep.RegionHeld3
import Derived.Deep.RegionWith
import Derived.Deep.DeepCutAuto
import Derived.Laws.ResultCell
namespace Go.Proofs.YtklndjkblfncjaaGreatDoor.Q
open Go.RowKit
set_option maxRecDepth 20000

/-- append of a nil slice to a nil slice. -/
theorem append_nils {P : Program} {w : World} {ops : Array Oper} {rest : List Oper} {o : Oper} {a : Act} {Q : Exit → Act → World → Prop} (guard : o.guard = none) (s x : Operand) (t e : TypeId) (i : TypeInfo) (c : Nat)
    (isAppend : o.op = .call { callee := .builtin .append, args := #[s, x], argTypes := #[t, t] }) (ht : P.underlying t = some (.slice e)) (hi : P.info? e = some i)
    (hs : a.eval s = .slice none 0 0) (hx : a.eval x = .slice none 0 c) (h : wpList P ops Q rest (a.put o.dst (.slice none 0 0)) w) : wpList P ops Q (o :: rest) a w := by
  have run : (Builtin.append_ #[t, t] o.type #[.slice none 0 0, .slice none 0 c]).run P w = .ok (.slice none 0 0) w := by
    simp [Builtin.append_, run_underlying ht, sizeOf, typeInfo, hi, Builtin.lenOf, Builtin.firstCells]
  refine wpList_plain guard fun K hK => ?_
  unfold Oper.wp
  simp [execOp, isAppend, resolve, invoke, builtin, hs, hx, run, Result.andThen]
  exact hK _ _ h

set_option maxHeartbeats 1000000 in
theorem refTrim_any (A : Option Addr) (n c : Nat) (L : List Int) (w : World) (hr : Rd w A n c L) (hn : n ≤ 1000000) :
    Calls Tryz.prog 98 #[.slice A n c] w (Gives w (val L)) := by
  obtain ⟨i0, hi, hz0, hz1, hz2⟩ := info_parts info_limb
  have HL := Lib.hid hr.len
  have hcap := hr.cap
  have htop := hr.top
  unfold maxLen at htop
  go_enter Tryz.func98, Tryz.ntmps98
  go_wp2
  go_loop [3] (fun i => ∃ k : Nat, k ≤ n ∧ i = .int .i64 k ∧ Hid (trim (L.take k) = trim L)) (fun i => (intOf i).toNat)
  case atStart => exact ⟨n, Nat.le_refl _, rfl, by show trim _ = _; rw [List.take_of_length_le (by have := HL.out; omega)]⟩
  case round =>
    obtain ⟨k, hk, rfl, hT⟩ := hrel
    by_cases h0 : 0 < k
    · obtain ⟨j, rfl⟩ : ∃ j, k = j + 1 := ⟨k - 1, by omega⟩
      obtain ⟨ad, rfl, hb, hc⟩ := hr.at_ (by omega)
      have hcj := hc j (by omega)
      by_cases hz : L.getD j 0 = 0
      · rw [hz] at hcj
        clear hc
        go_wp2
        go_round
        case rel => exact ⟨j, by omega, rfl, (congrArg (· = trim L) (trim_take_succ L j (by have := HL.out; omega) hz)).mp hT⟩
        case measure => simp [intOf] <;> omega
      · have hz' : (L.getD j 0 == 0) = false := by simpa using hz
        have hnrm : Hid (L.take (j + 1) = trim L) := by
          show _ = _
          rw [← hT, trim_take_ne L j (by have := HL.out; omega) hz]
        have hrd := hr.take (k := j + 1) hk
        have HC : Hid (∀ t u, (cells (L.take (j + 1)))[t]? = some u → w.cell? (ad.add t) = some u) := by
          obtain ⟨ad', e, _, hc'⟩ := hrd.at_ (by omega)
          injection e with e
          rw [← e] at hc'
          exact cells_at hrd.len hc'
        have HN : Hid ((cells (L.take (j + 1))).length = (j + 1) * 1) := by show _ = _; rw [cells_length, hrd.len]; omega
        obtain ⟨x, hx⟩ : ∃ x, L.getD j 0 = x := ⟨_, rfl⟩
        rw [hx] at hcj hz'
        have HB1 : Hid (0 + (j + 1) ≤ maxLen) := by show _ ≤ _; unfold maxLen; omega
        have HB2 : Hid ((0 + (j + 1)) * 4 ≤ 140737488355328) := by show _ ≤ _; omega
        clear hc hz hx
        go_wp2_with (at_builtin; refine wpList_append_own _ rfl _ _ 90 rfl w.heap.size 96 i0 (.int .u32 0) 1 4 Tryz.underlying90 hi hz0 hz1 hz2 rfl (by decide) (.slice none 0 0) 0 [] rfl (World.ownsRow_nil _ _ _ _) ad (j + 1) c (cells (L.take (j + 1))) rfl HN.out HC.out (oneCell_cells _) HB1.out HB2.out (Nat.le_refl _) ?_)
        intro v' w1 hown hgrow _
        go_wp2
        go_ret
        obtain ⟨A1, c1, hv, hm⟩ := Mine.of_row (L := L.take (j + 1)) (by simpa using hown) hrd.lims
        refine ⟨A1, j + 1, c1, _, congrArg Ending.returned hv, hm, ?_, (Below.refl _ _).grown hgrow (Nat.le_refl _) (by intro k hk; cases hk)⟩
        rw [hnrm.out]; exact Is.mk_trim hr.lims
    · obtain rfl : k = 0 := by omega
      have hI0 : Hid (Is [] (val L)) := by
        have h1 := Is.mk_trim hr.lims
        rw [← hT] at h1
        exact h1
      clear h0
      rcases A with _ | ad
      · go_wp2_with (at_builtin; refine append_nils rfl _ _ 90 96 i0 c rfl Tryz.underlying90 hi rfl rfl ?_)
        go_ret
        exact ⟨none, 0, 0, [], rfl, Mine.nil w _, hI0.out, Below.refl _ _⟩
      · have HN : Hid (∀ t u, ([] : List Value)[t]? = some u → w.cell? (ad.add t) = some u) := by intro t u hu; simp at hu
        have HB1 : Hid (0 + 0 ≤ maxLen) := by show _ ≤ _; unfold maxLen; omega
        go_wp2_with (at_builtin; refine wpList_append_own _ rfl _ _ 90 rfl w.heap.size 96 i0 (.int .u32 0) 1 4 Tryz.underlying90 hi hz0 hz1 hz2 rfl (by decide) (.slice none 0 0) 0 [] rfl (World.ownsRow_nil _ _ _ _) ad 0 c [] rfl rfl HN.out (fun u hu => nomatch hu) HB1.out (by decide) (Nat.le_refl _) ?_)
        intro v' w1 hown hgrow _
        go_wp2
        go_ret
        obtain ⟨A1, c1, hv, hm⟩ := Mine.of_row (L := []) hown Lims.nil
        exact ⟨A1, 0, c1, _, congrArg Ending.returned hv, hm, hI0.out, (Below.refl _ _).grown hgrow (Nat.le_refl _) (by intro k hk; cases hk)⟩

theorem refTrim_n {w : World} {A : Option Addr} {n c : Nat} {x : Int} (hx : Num w A n c x) (hn : n ≤ 1000000) : Calls Tryz.prog 98 #[.slice A n c] w (GivesN w x) := by
  obtain ⟨L, h1, rfl⟩ := hx
  exact (refTrim_any A n c L w h1 hn).mono fun _ _ h => h.n

end Go.Proofs.YtklndjkblfncjaaGreatDoor.Q

namespace Go.Proofs.YtklndjkblfncjaaGreatDoor.Q
open Go.RowKit
set_option maxRecDepth 20000

theorem Nrm.zero_len {w : World} {A : Option Addr} {n c : Nat} (h : Nrm w A n c 0) : n = 0 := by
  have := h.short (k := 0) (by decide)
  omega
end Go.Proofs.YtklndjkblfncjaaGreatDoor.Q
namespace Go.Proofs.YtklndjkblfncjaaGreatDoor.Q
open Go.RowKit
set_option maxRecDepth 20000

theorem refAdd_last {S L M : List Int} {p : Nat} {cr : Int} (hS : Lims S) (hl : S.length = p + 1) (hL : Lims L) (hM : Lims M) (h1 : L.length ≤ p) (h2 : M.length ≤ p) (c0 : 0 ≤ cr)
    (h : val (S.take (p + 1)) + pw (p + 1) * cr = val (L.take (p + 1)) + val (M.take (p + 1))) : val S = val L + val M := by
  rw [List.take_of_length_le (by omega), List.take_of_length_le (by omega), List.take_of_length_le (by omega)] at h
  have a := val_lt hL
  have b := val_lt hM
  have a' := pw_mono h1
  have b' := pw_mono h2
  have s := val_nonneg hS
  have p0 := pw_pos p
  rw [pw_succ] at h
  rcases Int.lt_or_le 0 cr with hc | hc
  · exfalso
    have h3 : 4294967296 * pw p * 1 ≤ 4294967296 * pw p * cr := Int.mul_le_mul_of_nonneg_left (by omega) (by omega)
    omega
  · have : cr = 0 := by omega
    rw [this] at h
    omega

set_option maxHeartbeats 1000000 in
theorem refAdd_any (A B : Option Addr) (n c m d : Nat) (L M : List Int) (w : World) (hr : Rd w A n c L) (hs : Rd w B m d M) (hn : n ≤ 900000) (hm : m ≤ 900000) :
    Calls Tryz.prog 89 #[.slice A n c, .slice B m d] w (Gives w (val L + val M)) := by
  obtain ⟨i0, hi, hz0, hz1, hz2⟩ := info_parts info_limb
  obtain ⟨p, hp1, hp2, hpm⟩ : ∃ p, n ≤ p ∧ m ≤ p ∧ (p = n ∨ p = m) := by
    rcases Nat.le_total n m with h | h
    · exact ⟨m, h, Nat.le_refl _, .inr rfl⟩
    · exact ⟨n, Nat.le_refl _, h, .inl rfl⟩
  have hp3 : p ≤ 900000 := by omega
  have hnl := Lib.hid hr.len
  have hml := Lib.hid hs.len
  go_enter Tryz.func89, Tryz.ntmps89
  go_wp2_with (at_make; refine wpList_make_full _ rfl _ _ 90 rfl w.heap.size 96 i0 (.int .u32 0) 1 Tryz.underlying90 hi hz0 hz1 _ _ _ _ (p + 1) rfl rfl ?b0 ?b1 ?b2 ?b3 (Nat.le_refl _) ?_)
  all_goals first
    | omega
    | (rw [hz2]; omega)
    | (unfold maxLen; omega)
    | skip
  all_goals
    intro w0 hown hgrow
    have hM0 := Mine.zero hown
    have hB0 := below_of_grown hgrow
    clear hown hgrow hpm
    go_wp2
    go_loopw [6, 7] (fun cv iv wr => ∃ (k : Nat) (cr : Int) (S : List Int), k ≤ p + 1 ∧ iv = .int .i64 k ∧ cv = .int .u64 cr ∧ (0 ≤ cr ∧ cr ≤ 1) ∧ Mine wr w.heap.size (some ⟨w.heap.size, 0, none⟩) (p + 1) (p + 1) S ∧
        Hid (val (S.take k) + pw k * cr = val (L.take k) + val (M.take k)) ∧ Below w.heap.size w wr) (fun _ iv _ => p + 1 - (intOf iv).toNat)
    case atStart => exact ⟨0, 0, _, Nat.zero_le _, rfl, rfl, by omega, hM0, rfl, hB0⟩
    case round =>
      obtain ⟨k, cr, S, hk, rfl, rfl, ⟨hc0, hc1⟩, hM, hV, hB⟩ := hrel
      clear hM0 hB0
      by_cases hkp : k < p + 1
      · have uP := hr.lims.getD k
        have uQ := hs.lims.getD k
        obtain ⟨u, hu⟩ : ∃ u, L.getD k 0 = u := ⟨_, rfl⟩
        obtain ⟨v, hv⟩ : ∃ v, M.getD k 0 = v := ⟨_, rfl⟩
        rw [hu] at uP
        rw [hv] at uQ
        have cS := hM.cellAt (i := k) (by omega)
        have fS := hM.frozenAt k
        have st := add_step (S := S) (k := k) (cr := cr) (by rw [hM.len]; omega) hu hv hV.out
        by_cases hkn : k < n
        · by_cases hkm : k < m
          · first
            | (exfalso; omega)
            | (obtain ⟨ad, rfl, _, hcP⟩ := (hr.below hB).at_ (by omega)
               have cP := hcP k hkn
               rw [hu] at cP
               clear hcP
               obtain ⟨ad', rfl, _, hcQ⟩ := (hs.below hB).at_ (by omega)
               have cQ := hcQ k hkm
               rw [hv] at cQ
               clear hcQ
               rw [show u + v + cr = cr + u + v from by omega] at st
               have ST := Lib.hid st
               have hs0 : 0 ≤ (cr + u + v) % 4294967296 ∧ (cr + u + v) % 4294967296 < 4294967296 := by omega
               have hs1 : 0 ≤ (cr + u + v) / 4294967296 ∧ (cr + u + v) / 4294967296 ≤ 1 := by omega
               clear st hu hv
               go_wp2
               go_roundw
               case rel => exact ⟨k + 1, _, _, by omega, by go_num, rfl, hs1, hM.stored k hs0.1 hs0.2, ST.out, hB.setCell (Nat.le_refl _) _⟩
               case measure => simp [intOf] <;> omega)
          · first
            | (exfalso; omega)
            | (obtain ⟨ad, rfl, _, hcP⟩ := (hr.below hB).at_ (by omega)
               have cP := hcP k hkn
               rw [hu] at cP
               clear hcP
               obtain rfl : v = 0 := by rw [← hv, getD_ge _ _ (by have := hml.out; omega)]
               rw [show u + 0 + cr = cr + u from by omega] at st
               have ST := Lib.hid st
               have hs0 : 0 ≤ (cr + u) % 4294967296 ∧ (cr + u) % 4294967296 < 4294967296 := by omega
               have hs1 : 0 ≤ (cr + u) / 4294967296 ∧ (cr + u) / 4294967296 ≤ 1 := by omega
               clear st hu hv
               go_wp2
               go_roundw
               case rel => exact ⟨k + 1, _, _, by omega, by go_num, rfl, hs1, hM.stored k hs0.1 hs0.2, ST.out, hB.setCell (Nat.le_refl _) _⟩
               case measure => simp [intOf] <;> omega)
        · by_cases hkm : k < m
          · first
            | (exfalso; omega)
            | (obtain rfl : u = 0 := by rw [← hu, getD_ge _ _ (by have := hnl.out; omega)]
               obtain ⟨ad', rfl, _, hcQ⟩ := (hs.below hB).at_ (by omega)
               have cQ := hcQ k hkm
               rw [hv] at cQ
               clear hcQ
               rw [show 0 + v + cr = cr + v from by omega] at st
               have ST := Lib.hid st
               have hs0 : 0 ≤ (cr + v) % 4294967296 ∧ (cr + v) % 4294967296 < 4294967296 := by omega
               have hs1 : 0 ≤ (cr + v) / 4294967296 ∧ (cr + v) / 4294967296 ≤ 1 := by omega
               clear st hu hv
               go_wp2
               go_roundw
               case rel => exact ⟨k + 1, _, _, by omega, by go_num, rfl, hs1, hM.stored k hs0.1 hs0.2, ST.out, hB.setCell (Nat.le_refl _) _⟩
               case measure => simp [intOf] <;> omega)
          · first
            | (exfalso; omega)
            | (obtain rfl : u = 0 := by rw [← hu, getD_ge _ _ (by have := hnl.out; omega)]
               obtain rfl : v = 0 := by rw [← hv, getD_ge _ _ (by have := hml.out; omega)]
               have hcm : cr % 4294967296 = cr := by omega
               rw [show 0 + 0 + cr = cr from by omega, hcm] at st
               have ST := Lib.hid st
               have hs0 : 0 ≤ cr ∧ cr < 4294967296 := by omega
               clear hcm
               have hs1 : 0 ≤ (cr) / 4294967296 ∧ (cr) / 4294967296 ≤ 1 := by omega
               clear st hu hv
               go_wp2
               go_roundw
               case rel => exact ⟨k + 1, _, _, by omega, by go_num, rfl, hs1, hM.stored k hs0.1 hs0.2, ST.out, hB.setCell (Nat.le_refl _) _⟩
               case measure => simp [intOf] <;> omega)
      · obtain rfl : k = p + 1 := by omega
        have hF := refAdd_last hM.lims hM.len hr.lims hs.lims (by have := hnl.out; omega) (by have := hml.out; omega) hc0 hV.out
        have HF := Lib.hid hF
        have TR := Lib.hid (refTrim_any _ _ _ _ wr hM.rd (by omega))
        have hsz := hB.size
        clear hF hM hkp
        go_wp2_with fail
        refine TR.out.mono ?_
        rintro e w4 ⟨A4, n4, c4, R, rfl, hR, IR, hB4⟩
        have HI := Lib.hid IR
        clear IR
        go_wp2
        go_ret
        exact ⟨A4, n4, c4, R, rfl, hR.more hsz, by rw [← HF.out]; exact HI.out, nextB hB hB4⟩

end Go.Proofs.YtklndjkblfncjaaGreatDoor.Q
namespace Go.Proofs.YtklndjkblfncjaaGreatDoor.Q
open Go.RowKit
set_option maxRecDepth 20000

end Go.Proofs.YtklndjkblfncjaaGreatDoor.Q
namespace Go.Proofs.YtklndjkblfncjaaGreatDoor.Q
open Go.RowKit
set_option maxRecDepth 20000

theorem refFromInt_any (x : Int) (w : World) (x0 : 0 ≤ x) (x1 : x ≤ 9223372036854775807) :
    Calls Tryz.prog 88 #[.int .i64 x] w (GivesOk w x) := by
  have J := and_mask x 32 4294967295 (by decide) (by decide) x0 x1
  have J2 : bits .and .i64 x 4294967295 = x % 4294967296 := J
  have m0 : 0 ≤ x % 4294967296 ∧ x % 4294967296 < 4294967296 := by omega
  have d0 : 0 ≤ x / 4294967296 ∧ x / 4294967296 < 4294967296 := by omega
  have TR := Lib.hid (refTrim_any _ _ _ _ _ (lit2 w (x % 4294967296) (x / 4294967296) m0.1 m0.2 d0.1 d0.2) (by omega))
  have hv : Hid (val [x % 4294967296, x / 4294967296] = x) := by show _ = _; simp [val]; omega
  have hB := (Below.refl w.heap.size w).alloc (Nat.le_refl _) (.cells #[.int .u32 (x % 4294967296), .int .u32 (x / 4294967296)] 96)
  clear J
  go_enter Tryz.func88, Tryz.ntmps88
  go_wp2_with fail
  refine TR.out.mono ?_
  rintro e w4 ⟨A4, n4, c4, R, rfl, hR, IR, hB4⟩
  have HI := Lib.hid IR
  clear IR TR
  go_wp2
  go_ret2
  exact ⟨A4, n4, c4, R, rfl, hR.more hB.size, by rw [← hv.out]; exact HI.out, nextB hB hB4⟩

end Go.Proofs.YtklndjkblfncjaaGreatDoor.Q
namespace Go.Proofs.YtklndjkblfncjaaGreatDoor.Q
open Go.RowKit
set_option maxRecDepth 20000

def CmpPost (w : World) (x y : Int) (e : Ending) (w' : World) : Prop := e = .returned (.int .i64 (cmpZ x y)) ∧ Below w.heap.size w w'

set_option maxHeartbeats 1000000 in
theorem refCmp_any (A B : Option Addr) (n c m d : Nat) (L M : List Int) (w : World) (hr : Rd w A n c L) (hs : Rd w B m d M) (hn : n ≤ 1000000) (hm : m ≤ 1000000) :
    Calls Tryz.prog 113 #[.slice A n c, .slice B m d] w (CmpPost w (val L) (val M)) := by
  go_enter Tryz.func113, Tryz.ntmps113
  go_wp2_with fail
  refine (refTrim_any A n c L w hr hn).mono ?_
  rintro e w1 ⟨A', n', c', L', rfl, hA1, hI, hB1⟩
  have HI0 := Lib.hid hI
  clear hI
  go_wp2_with fail
  refine (refTrim_any B m d M w1 (hs.below hB1) hm).mono ?_
  rintro e w2 ⟨B', m', d', M', rfl, hA2, hJ, hB2⟩
  have hr' := (hA1.below hB2).rd
  have hs' := hA2.rd
  have hB := Lib.hid (nextB hB1 hB2)
  have hI := HI0.out
  clear HI0 hA1 hA2 hB1 hB2 hr hs
  generalize val L = x at *
  generalize val M = y at *
  have l1 := hr'.len
  have l2 := hs'.len
  have t1 := hr'.top
  have t2 := hs'.top
  have c1 := hr'.cap
  have c2 := hs'.cap
  unfold maxLen at t1 t2
  by_cases h1 : n' < m'
  · have hlt := hI.lt_of_length hJ (by omega)
    have HE := Lib.hid (cmpZ_lt hlt)
    clear hlt l1 l2 hI hJ
    go_wp2
    go_ret
    exact ⟨by rw [HE.out]; rfl, hB.out⟩
  by_cases h2 : m' < n'
  · have hlt := hJ.lt_of_length hI (by omega)
    have HE := Lib.hid (cmpZ_gt hlt)
    clear hlt l1 l2 hI hJ
    go_wp2
    go_ret
    exact ⟨by rw [HE.out]; rfl, hB.out⟩
  obtain rfl : n' = m' := by omega
  have L1 := Lib.hid l1
  have L2 := Lib.hid l2
  have HI := Lib.hid hI
  have HJ := Lib.hid hJ
  clear l1 l2 hI hJ h1 h2
  go_wp2
  go_loopw [5] (fun i wr => ∃ k q : Nat, k ≤ n' ∧ i = .int .i64 ((k : Int) - 1) ∧ Hid (val (L'.drop k) = val (M'.drop k)) ∧ wr = w2.drewN q) (fun i _ => (intOf i + 1).toNat)
  case atStart => exact ⟨n', 0, Nat.le_refl _, rfl, by show val _ = val _; rw [List.drop_eq_nil_of_le (by have := L1.out; omega), List.drop_eq_nil_of_le (by have := L2.out; omega)], rfl⟩
  case round =>
    obtain ⟨k, q, hk, rfl, hD, rfl⟩ := hrel
    by_cases h0 : k = 0
    · subst h0
      go_wp2
      go_ret
      refine ⟨ret_int ?_, drewN_below hB.out _⟩
      rw [cmpZ_eq]
      have := hD.out
      rw [List.drop_zero, List.drop_zero, HI.out.eq, HJ.out.eq] at this
      exact this
    · obtain ⟨j, rfl⟩ : ∃ j, k = j + 1 := ⟨k - 1, by omega⟩
      obtain ⟨ad, rfl, hb, hc⟩ := hr'.at_ (by omega)
      obtain ⟨ad', rfl, hb', hc'⟩ := hs'.at_ (by omega)
      have h1 := hc j (by omega)
      have h2 := hc' j (by omega)
      have X1 := Lib.hid (drop_val L' j (by have := L1.out; omega))
      clear hc hc'
      obtain ⟨x1, e1⟩ : ∃ x1, L'.getD j 0 = x1 := ⟨_, rfl⟩
      obtain ⟨x2, e2⟩ : ∃ x2, M'.getD j 0 = x2 := ⟨_, rfl⟩
      have E1 := Lib.hid e1
      have E2 := Lib.hid e2
      rw [e1] at h1
      rw [e2] at h2
      clear e1 e2
      rcases Int.lt_trichotomy x1 x2 with hlt | heq | hgt
      · have HE : Hid (cmpZ x y = -1) := by
          refine cmpZ_lt ?_
          rw [← HI.out.eq, ← HJ.out.eq]
          exact val_lt_at HI.out.lims HJ.out.lims j (by have := L1.out; omega) (by have := L2.out; omega) hD.out (by rw [E1.out, E2.out]; exact hlt)
        go_wp2_with fail
        go_quiet (fail)
        go_wp2
        go_ret
        exact ⟨by rw [HE.out]; rfl, drewN_below (drewN_below hB.out _) _⟩
      · subst heq
        have hD' : Hid (val (L'.drop j) = val (M'.drop j)) := by
          show _ = _
          rw [List.drop_eq_getElem_cons (l := L') (i := j) (by have := L1.out; omega), List.drop_eq_getElem_cons (l := M') (i := j) (by have := L2.out; omega), val_cons, val_cons, hD.out, ← getD_of_lt, ← getD_of_lt, E1.out, E2.out]
        go_wp2_with fail
        go_quiet (fail)
        go_wp2_with fail
        go_quiet (fail)
        go_wp2
        go_roundw
        case rel => exact ⟨j, _, by omega, by go_num, hD', rfl⟩
        case measure => simp [intOf] <;> omega
      · have HE : Hid (cmpZ x y = 1) := by
          refine cmpZ_gt ?_
          rw [← HI.out.eq, ← HJ.out.eq]
          exact val_lt_at HJ.out.lims HI.out.lims j (by have := L2.out; omega) (by have := L1.out; omega) hD.out.symm (by rw [E1.out, E2.out]; exact hgt)
        go_wp2_with fail
        go_quiet (fail)
        go_wp2_with fail
        go_quiet (fail)
        go_wp2
        go_ret
        exact ⟨by rw [HE.out]; rfl, drewN_below (drewN_below (drewN_below hB.out _) _) _⟩

end Go.Proofs.YtklndjkblfncjaaGreatDoor.Q

namespace Go.Proofs.YtklndjkblfncjaaGreatDoor.Q
open Go.RowKit
set_option maxRecDepth 20000

def ShortPost (w : World) (q r : Int) (e : Ending) (w' : World) : Prop :=
  ∃ A n c Q, e = .returned (.tuple #[.slice A n c, .int .u32 r]) ∧ Mine w' w.heap.size A n c Q ∧ Is Q q ∧ Below w.heap.size w w'

theorem short_step {S L : List Int} {j : Nat} {r l d : Int} (hS : j < S.length) (hL : j < L.length) (hl : L.getD j 0 = l) (h : val (S.drop (j + 1)) * d + r = val (L.drop (j + 1))) :
    val ((S.set j ((r * 4294967296 + l) / d)).drop j) * d + (r * 4294967296 + l) % d = val (L.drop j) := by
  rw [drop_set_val hS, List.drop_eq_getElem_cons hL, val_cons, ← getD_of_lt, hl, ← h]
  have e := Int.mul_ediv_add_emod (r * 4294967296 + l) d
  generalize (r * 4294967296 + l) / d = q at *
  generalize (r * 4294967296 + l) % d = s at *
  grind

theorem short_fit {r l d : Int} (r0 : 0 ≤ r) (r1 : r < d) (hl : 0 ≤ l ∧ l < 4294967296) : 0 ≤ (r * 4294967296 + l) / d ∧ (r * 4294967296 + l) / d < 4294967296 ∧ 0 ≤ (r * 4294967296 + l) % d ∧ (r * 4294967296 + l) % d < d := by
  have hd : 0 < d := by omega
  refine ⟨Int.ediv_nonneg (by omega) (by omega), Int.ediv_lt_of_lt_mul hd ?_, Int.emod_nonneg _ (by omega), Int.emod_lt_of_pos _ hd⟩
  have h1 : (r + 1) * 4294967296 ≤ d * 4294967296 := le_mul (by omega) (by decide)
  omega

set_option maxHeartbeats 1000000 in
theorem refShort_any (A : Option Addr) (n c : Nat) (d : Int) (L : List Int) (w : World) (hr : Rd w A n c L) (hn : n ≤ 1000000) (d0 : 0 < d) (d1 : d < 4294967296) :
    Calls Tryz.prog 100 #[.slice A n c, .int .u32 d] w (ShortPost w (val L / d) (val L % d)) := by
  obtain ⟨i0, hi, hz0, hz1, hz2⟩ := info_parts info_limb
  have HL := Lib.hid hr.len
  have hcap := hr.cap
  go_enter Tryz.func100, Tryz.ntmps100
  go_wp2_with (at_make; refine wpList_make_full _ rfl _ _ 90 rfl w.heap.size 96 i0 (.int .u32 0) 1 Tryz.underlying90 hi hz0 hz1 _ _ _ _ n rfl rfl ?b0 ?b1 ?b2 ?b3 (Nat.le_refl _) ?_)
  case b0 => rfl
  case b1 => rfl
  case b2 => rw [hz2]; omega
  case b3 => unfold maxLen; omega
  intro w0 hown hgrow
  have hM0 := Mine.zero hown
  have hB0 := below_of_grown hgrow
  clear hown hgrow
  go_wp2
  go_loopw [7, 8] (fun rv iv wr => ∃ (k : Nat) (r : Int) (S : List Int), k ≤ n ∧ iv = .int .i64 ((k : Int) - 1) ∧ rv = .int .u64 r ∧ (0 ≤ r ∧ r < d) ∧ Mine wr w.heap.size (some ⟨w.heap.size, 0, none⟩) n n S ∧
      Hid (val (S.drop k) * d + r = val (L.drop k)) ∧ Below w.heap.size w wr) (fun _ iv _ => (intOf iv + 1).toNat)
  case atStart =>
    refine ⟨n, 0, _, Nat.le_refl _, rfl, rfl, by omega, hM0, ?_, hB0⟩
    show _ = _
    rw [List.drop_eq_nil_of_le (by simp), List.drop_eq_nil_of_le (by have := HL.out; omega)]; simp [val]
  case round =>
    obtain ⟨k, r, S, hk, rfl, rfl, ⟨r0, r1⟩, hM, hV, hB⟩ := hrel
    clear hM0 hB0
    by_cases h0 : k = 0
    · subst h0
      have hF := hV.out
      rw [List.drop_zero, List.drop_zero] at hF
      have hq : val L / d = val S := by rw [← hF, Int.add_comm, Int.add_mul_ediv_right _ _ (by omega), Int.ediv_eq_zero_of_lt r0 r1]; omega
      have hm : val L % d = r := by rw [← hF, Int.add_comm, Int.add_mul_emod_self_right, Int.emod_eq_of_lt r0 r1]
      have HQ := Lib.hid hq
      have HM := Lib.hid hm
      have TR := Lib.hid (refTrim_any _ _ _ _ wr hM.rd hn)
      have hs := hB.size
      have HMs := Lib.hid hM
      clear hF hq hm hM hV
      go_wp2_with fail
      refine TR.out.mono ?_
      rintro e w4 ⟨A4, n4, c4, R, rfl, hR, IR, hB4⟩
      have HI := Lib.hid IR
      clear IR
      go_wp2
      go_ret2
      refine ⟨A4, n4, c4, R, ?_, hR.more hs, ?_, nextB hB hB4⟩
      · rw [HM.out]; rfl
      · rw [HQ.out]; exact HI.out
    · obtain ⟨j, rfl⟩ : ∃ j, k = j + 1 := ⟨k - 1, by omega⟩
      obtain ⟨ad, rfl, hadB, hc0⟩ := hr.at_ (by omega)
      have cL := (hB.cell (p := ad.add j) (by rw [addr_block]; exact hadB)).trans (hc0 j (by omega))
      have uL := hr.lims.getD j
      obtain ⟨l, hl⟩ : ∃ l, L.getD j 0 = l := ⟨_, rfl⟩
      have cS := hM.cellAt (i := j) (by omega)
      have fS := hM.frozenAt j
      rw [hl] at cL uL
      have J := or_join r l r0 (by omega) uL.1 uL.2
      obtain ⟨f0, f1, f2, f3⟩ := short_fit r0 r1 uL
      have ST := Lib.hid (short_step (S := S) (L := L) (j := j) (r := r) (d := d) (by rw [hM.len]; omega) (by have := HL.out; omega) hl hV.out)
      have hM1 := hM.stored j f0 f1
      clear hc0 hl h0
      generalize S.getD j 0 = y at *
      go_wp2
      go_roundw
      case rel => exact ⟨j, _, _, by omega, by go_num, rfl, ⟨f2, f3⟩, hM1, ST, hB.setCell (Nat.le_refl _) _⟩
      case measure => simp [intOf] <;> omega

end Go.Proofs.YtklndjkblfncjaaGreatDoor.Q

namespace Go.Proofs.YtklndjkblfncjaaGreatDoor.Q
open Go.RowKit
set_option maxRecDepth 20000

set_option maxHeartbeats 1000000 in
theorem refDivMod_one (A B : Option Addr) (n c m d : Nat) (L M : List Int) (w : World) (hr : Rd w A n c L) (hs : Rd w B m d M) (hn : n ≤ 1000000) (hm : m ≤ 1000000) (m0 : 0 < val M) (m1 : val M < 4294967296) :
    Calls Tryz.prog 110 #[.slice A n c, .slice B m d] w (Gives2 w (val L / val M) (val L % val M)) := by
  have v0 := val_nonneg hr.lims
  go_enter Tryz.func110, Tryz.ntmps110
  go_wp2_with fail
  refine (refTrim_any A n c L w hr hn).mono ?_
  rintro e w1 ⟨A1, n1, c1, L1, rfl, hA1, hI, hB1⟩
  have HI := Lib.hid hI
  clear hI
  go_wp2_with fail
  refine (refTrim_any B m d M w1 (hs.below hB1) hm).mono ?_
  rintro e w2 ⟨B1, k1, d1, M1, rfl, hA2, hJ, hB2⟩
  have hM1 : M1 = [val M] := hJ.unique (is_one m0 m1)
  subst hM1
  obtain rfl : k1 = 1 := by have := hA2.len; simpa using this.symm
  obtain ⟨gb, rfl, hgb, hgb'⟩ := hA2.form (by omega)
  have cB := hA2.cellAt (i := 0) (by omega)
  have hn1 : n1 ≤ 1000000 := by
    have h1 := HI.out
    have h2 := hA1.len
    have h3 := hr.len
    have h4 := HI.out.unique (Is.mk_trim hr.lims)
    have h5 := trim_length_le L
    rw [← h4] at h5
    omega
  have CM := Lib.hid (refCmp_any _ _ _ _ _ _ _ _ w2 (hA1.below hB2).rd hA2.rd hn1 (by omega))
  have HA1 := Lib.hid (hA1.below hB2)
  have HA2 := Lib.hid hA2
  have hBB := nextB hB1 hB2
  have hs1 := hB1.size
  clear hJ hA1 hA2 hr hs
  simp only [List.getD_cons_zero] at cB
  go_wp2_with fail
  refine CM.out.mono ?_
  rintro e w3 ⟨rfl, hB3⟩
  have cB3 := (hB3.cell (p := ⟨gb, 0, none⟩) hgb').trans cB
  have hv : val [val M] = val M := by simp [val]
  rw [hv, HI.out.eq]
  by_cases hlt : val L < val M
  · have hE := cmpZ_lt hlt
    rw [hE]
    have HQ : Hid (0 = val L / val M) := (Int.ediv_eq_zero_of_lt v0 hlt).symm
    have HR : Hid (val L = val L % val M) := (Int.emod_eq_of_lt v0 hlt).symm
    clear hE hv
    go_wp2
    go_ret3
    refine ⟨none, 0, 0, [], A1, n1, c1, L1, rfl, Mine.nil _ _, ?_, HA1.out.below hB3, ?_, nextB hBB hB3⟩
    · rw [← HQ.out]; exact Is.zero
    · rw [← HR.out]; exact HI.out
  · obtain ⟨z, hz, z0⟩ : ∃ z, cmpZ (val L) (val M) = z ∧ 0 ≤ z := by
      unfold cmpZ
      rw [if_neg hlt]
      split
      · exact ⟨1, rfl, by decide⟩
      · exact ⟨0, rfl, by decide⟩
    rw [hz]
    have SH := Lib.hid (refShort_any _ _ _ (val M) _ w3 (HA1.out.below hB3).rd hn1 m0 m1)
    clear hz hv
    go_wp2_with fail
    refine SH.out.mono ?_
    rintro e w4 ⟨A4, n4, c4, Q, rfl, hQ, IQ, hB4⟩
    rw [HI.out.eq] at IQ
    rw [HI.out.eq]
    have HQ := Lib.hid (And.intro hQ IQ)
    have r0 := Int.emod_nonneg (val L) (show val M ≠ 0 by omega)
    have r1 := Int.emod_lt_of_pos (val L) m0
    clear hQ IQ SH
    generalize hrr : val L % val M = r at *
    have TR := Lib.hid (refTrim_any _ _ _ _ _ (lit1 w4 r r0 (by omega)) (by omega))
    have hB34 := nextB hBB (nextB hB3 hB4)
    have hB5 := hB34.alloc hB34.size (.cells #[.int .u32 r] 96)
    have hs3 := hB3.size
    have hs4 := hB4.size
    have hQ5 := Lib.hid ((HQ.out.1.more (base' := w.heap.size) (by have := hBB.size; omega)).alloc (.cells #[.int .u32 r] 96))
    go_wp2_with fail
    refine TR.out.mono ?_
    rintro e w6 ⟨A6, n6, c6, R, rfl, hR, IR, hB6⟩
    have HR := Lib.hid (And.intro hR IR)
    clear hR IR
    go_wp2
    go_ret3
    refine ⟨A4, n4, c4, Q, A6, n6, c6, R, rfl, hQ5.out.below hB6, HQ.out.2, HR.out.1.more hB5.size, ?_, nextB hB5 hB6⟩
    have := HR.out.2
    simpa [val] using this

end Go.Proofs.YtklndjkblfncjaaGreatDoor.Q
namespace Go.Proofs.YtklndjkblfncjaaGreatDoor.Q
open Go.RowKit
set_option maxRecDepth 20000

end Go.Proofs.YtklndjkblfncjaaGreatDoor.Q

namespace Go.Proofs.YtklndjkblfncjaaGreatDoor.Q
open Go.RowKit
set_option maxRecDepth 20000

end Go.Proofs.YtklndjkblfncjaaGreatDoor.Q
namespace Go.Proofs.YtklndjkblfncjaaGreatDoor.Q

/-- What a step (u0 = σ p0, v0 = -σ m0, u1 = -σ p1, v1 = σ m1) that was found for the leading bits A, B does to all numbers with these leading bits. -/
structure Lem (A B σ p0 m0 p1 m1 : Int) : Prop where
  sg : σ = 1 ∨ σ = -1
  p0n : 0 ≤ p0
  m0n : 0 ≤ m0
  p1n : 0 ≤ p1
  m1n : 1 ≤ m1
  p1m : p1 ≤ m1
  m0m : m0 ≤ m1
  p0m : p0 ≤ m1
  top : m1 < 2147483648
  det : p0 * m1 - p1 * m0 = 1 ∨ p0 * m1 - p1 * m0 = -1
  real : ∀ K α β : Int, 0 < K → 0 ≤ α → α < K → 0 ≤ β → β < K → B * K + β ≤ A * K + α →
    0 ≤ σ * (m1 * (B * K + β) - p1 * (A * K + α)) ∧ σ * (m1 * (B * K + β) - p1 * (A * K + α)) ≤ σ * (p0 * (A * K + α) - m0 * (B * K + β))
  first : (σ = 1 ∧ p0 = 1 ∧ m0 = 0 ∧ p1 = 0 ∧ m1 = 1) ∨
    (p0 ≤ m0 ∧ ∀ K α β : Int, 0 < K → 0 ≤ α → α < K → 0 ≤ β → β < K → B * K + β ≤ A * K + α → σ * (p0 * (A * K + α) - m0 * (B * K + β)) ≤ B * K + β ∧ σ * (m1 * (B * K + β) - p1 * (A * K + α)) < σ * (p0 * (A * K + α) - m0 * (B * K + β)))

theorem Lem.none (A B : Int) (hB : 0 ≤ B) : Lem A B 1 1 0 0 1 := by
  refine ⟨.inl rfl, by decide, by decide, by decide, by decide, by decide, by decide, by decide, by decide, .inl (by decide), ?_, .inl ⟨rfl, rfl, rfl, rfl, rfl⟩⟩
  intro K α β hK a0 a1 b0 b1 h
  have e1 : 1 * (1 * (B * K + β) - 0 * (A * K + α)) = B * K + β := by grind
  have e2 : 1 * (1 * (A * K + α) - 0 * (B * K + β)) = A * K + α := by grind
  rw [e1, e2]
  have h2 : 0 ≤ B * K := Int.mul_nonneg hB (by omega)
  exact ⟨by omega, h⟩

/-- The loop's own numbers. -/
structure LemAt (A B σ p0 m0 p1 m1 a b : Int) : Prop where
  lem : Lem A B σ p0 m0 p1 m1
  ha : a = σ * (p0 * A - m0 * B)
  hb : b = σ * (m1 * B - p1 * A)
  b0 : 0 ≤ b
  ba : b ≤ a
  aA : a ≤ A
  room : b ≠ 0 → m1 ≤ b

theorem LemAt.next {A B σ p0 m0 p1 m1 a b q r : Int} (h : LemAt A B σ p0 m0 p1 m1 a b) (hA : A < 4611686018427387904) (e : a = b * q + r) (q1 : 1 ≤ q) (r0 : 0 ≤ r) (rb : r < b)
    (acc1 : m0 + q * m1 ≤ r) (acc2 : m1 + (m0 + q * m1) ≤ b - r) : LemAt A B (-σ) p1 m1 (p0 + q * p1) (m0 + q * m1) b r := by
  obtain ⟨hl, ha, hb, b0, ba, aA, room⟩ := h
  have l1 := hl.p0n
  have l2 := hl.m0n
  have l3 := hl.p1n
  have l4 := hl.m1n
  have l5 := hl.p1m
  have l6 := hl.m0m
  have g1 : 0 ≤ q * p1 := Int.mul_nonneg (by omega) l3
  have g2 : 1 * m1 ≤ q * m1 := le_mul q1 (by omega)
  have g3 : q * p1 ≤ q * m1 := le_mul' l5 (by omega)
  have g4 : p0 + q * p1 ≤ m0 + q * m1 := by
    rcases hl.first with ⟨_, f1, f2, f3, f4⟩ | ⟨f, _⟩
    · rw [f1, f2, f3, f4]; omega
    · omega
  have hr : r = -σ * ((m0 + q * m1) * B - (p0 + q * p1) * A) := by
    have e2 : r = a - b * q := by omega
    rw [e2, ha, hb]; grind
  have hb' : b = -σ * (p1 * A - m1 * B) := by rw [hb]; grind
  have hdet : p1 * (m0 + q * m1) - (p0 + q * p1) * m1 = -(p0 * m1 - p1 * m0) := by grind
  have htop : m0 + q * m1 < 2147483648 := by
    have e3 : (m0 + q * m1) * b + m1 * r = σ * (p0 * m1 - p1 * m0) * A := by rw [hr, hb]; grind
    have h1 : (m0 + q * m1) * b ≤ A := by
      have h2 : 0 ≤ m1 * r := Int.mul_nonneg (by omega) r0
      have h3 : 0 ≤ (m0 + q * m1) * b := Int.mul_nonneg (by omega) b0
      have h4 : σ * (p0 * m1 - p1 * m0) * A = A ∨ σ * (p0 * m1 - p1 * m0) * A = -A := by
        rcases hl.sg with s1 | s1 <;> rcases hl.det with d1 | d1 <;> rw [s1, d1] <;> first | (left; omega) | (right; omega)
      omega
    rcases Int.lt_or_le (m0 + q * m1) 2147483648 with h5 | h5
    · exact h5
    · exfalso
      have h6 : (m0 + q * m1) * 4294967296 ≤ (m0 + q * m1) * b := le_mul' (by omega) (by omega)
      omega
  generalize q * m1 = qm at *
  generalize q * p1 = qp at *
  have x0 : m1 ≤ m0 + qm := by omega
  have x00 : 0 ≤ p0 + qp := by omega
  generalize m0 + qm = m2 at *
  generalize p0 + qp = p2 at *
  have hreal : ∀ K α β : Int, 0 < K → 0 ≤ α → α < K → 0 ≤ β → β < K →
      0 ≤ -σ * (m2 * (B * K + β) - p2 * (A * K + α)) ∧ -σ * (m2 * (B * K + β) - p2 * (A * K + α)) < -σ * (p1 * (A * K + α) - m1 * (B * K + β)) := by
    intro K α β hK a0 a1 b0' b1
    have k1 : m2 * K ≤ r * K := le_mul acc1 (by omega)
    have k2 : (m1 + m2) * K ≤ (b - r) * K := le_mul acc2 (by omega)
    have k3 : m2 * β ≤ m2 * K := le_mul' (by omega) (by omega)
    have k4 : (m1 + m2) * (β + 1) ≤ (m1 + m2) * K := le_mul' (by omega) (by omega)
    have k5 : p2 * α ≤ p2 * K := le_mul' (by omega) (by omega)
    have k6 : p2 * K ≤ m2 * K := le_mul g4 (by omega)
    have k7 : (p1 + p2) * α ≤ (m1 + m2) * α := le_mul (by omega) a0
    have k8 : (m1 + m2) * (α + 1) ≤ (m1 + m2) * K := le_mul' (by omega) (by omega)
    have k9 : 0 ≤ p2 * α := Int.mul_nonneg (by omega) a0
    have k10 : 0 ≤ m2 * β := Int.mul_nonneg (by omega) b0'
    have k11 : 0 ≤ (p1 + p2) * α := Int.mul_nonneg (by omega) a0
    have k12 : 0 ≤ (m1 + m2) * β := Int.mul_nonneg (by omega) b0'
    rw [Int.mul_add] at k4 k8
    have eS : -σ * (m2 * (B * K + β) - p2 * (A * K + α)) = r * K + -σ * (m2 * β - p2 * α) := by
      have : r * K = -σ * (m2 * B - p2 * A) * K := by rw [← hr]
      grind
    have eF : -σ * (p1 * (A * K + α) - m1 * (B * K + β)) = b * K + -σ * (p1 * α - m1 * β) := by
      have : b * K = -σ * (p1 * A - m1 * B) * K := by rw [← hb']
      grind
    rw [eS, eF]
    have x1 : (b - r) * K = b * K - r * K := Int.sub_mul ..
    have x2 : (p1 + p2) * α = p1 * α + p2 * α := Int.add_mul ..
    have x3 : (m1 + m2) * β = m1 * β + m2 * β := Int.add_mul ..
    rcases hl.sg with s1 | s1 <;> rw [s1]
    · have y1 : -(1 : Int) * (m2 * β - p2 * α) = p2 * α - m2 * β := by omega
      have y2 : -(1 : Int) * (p1 * α - m1 * β) = m1 * β - p1 * α := by omega
      rw [y1, y2]
      constructor <;> omega
    · have y1 : -(-1 : Int) * (m2 * β - p2 * α) = m2 * β - p2 * α := by omega
      have y2 : -(-1 : Int) * (p1 * α - m1 * β) = p1 * α - m1 * β := by omega
      rw [y1, y2]
      constructor <;> omega
  refine ⟨⟨?_, l3, by omega, by omega, by omega, g4, by omega, by omega, htop, ?_, ?_, .inr ⟨l5, ?_⟩⟩, hb', hr, r0, by omega, by omega, fun _ => acc1⟩
  · rcases hl.sg with s1 | s1
    · right; omega
    · left; omega
  · rw [hdet]
    rcases hl.det with d1 | d1
    · right; omega
    · left; omega
  · intro K α β hK a0 a1 b0' b1 _
    have := hreal K α β hK a0 a1 b0' b1
    omega
  · intro K α β hK a0 a1 b0' b1 hle
    have hre := hl.real K α β hK a0 a1 b0' b1 hle
    have h2 := hreal K α β hK a0 a1 b0' b1
    refine ⟨?_, h2.2⟩
    have e4 : -σ * (p1 * (A * K + α) - m1 * (B * K + β)) = σ * (m1 * (B * K + β) - p1 * (A * K + α)) := by grind
    rw [e4]
    rcases hl.first with ⟨f0, f1, f2, f3, f4⟩ | ⟨_, f⟩
    · rw [f0, f3, f4]; omega
    · have := f K α β hK a0 a1 b0' b1 hle
      omega

theorem LemAt.start (A B : Int) (hB : 0 ≤ B) (hBA : B ≤ A) : LemAt A B 1 1 0 0 1 A B :=
  ⟨Lem.none A B hB, by omega, by omega, hB, hBA, Int.le_refl _, fun h => by omega⟩

end Go.Proofs.YtklndjkblfncjaaGreatDoor.Q

namespace Go.Proofs.YtklndjkblfncjaaGreatDoor.Q
open Go.RowKit
set_option maxRecDepth 20000

/-- Block g holds a step with these four numbers. -/
structure S4 (w : World) (g : Nat) (a b c d : Int) : Prop where
  lt : g < w.heap.size
  c0 : w.cell? ⟨g, 0, none⟩ = some (.int .i64 a)
  c1 : w.cell? ⟨g, 1, none⟩ = some (.int .i64 b)
  c2 : w.cell? ⟨g, 2, none⟩ = some (.int .i64 c)
  c3 : w.cell? ⟨g, 3, none⟩ = some (.int .i64 d)
  fz : ∀ i, w.frozen? ⟨g, i, none⟩ = false
theorem S4.keep {w w' : World} {g : Nat} {a b c d : Int} (h : S4 w g a b c d) (hs : w.heap.size ≤ w'.heap.size) (hk : w'.heap[g]? = w.heap[g]?) : S4 w' g a b c d :=
  ⟨by have := h.lt; omega, (World.cell?_of_block (a := ⟨g, 0, none⟩) hk).trans h.c0, (World.cell?_of_block (a := ⟨g, 1, none⟩) hk).trans h.c1, (World.cell?_of_block (a := ⟨g, 2, none⟩) hk).trans h.c2, (World.cell?_of_block (a := ⟨g, 3, none⟩) hk).trans h.c3,
    fun i => (World.frozen?_of_block (a := ⟨g, i, none⟩) hk).trans (h.fz i)⟩
theorem S4.alloc {w : World} {g : Nat} {a b c d : Int} (h : S4 w g a b c d) (o : Obj) : S4 (w.alloc o) g a b c d := h.keep (by simp) (Below.heap_alloc w o g h.lt)
theorem S4.drew {w : World} {g : Nat} {a b c d : Int} (h : S4 w g a b c d) : S4 w.drew g a b c d := h.keep (Nat.le_refl _) rfl
theorem S4.drewN {w : World} {g : Nat} {a b c d : Int} (h : S4 w g a b c d) (k : Nat) : S4 (w.drewN k) g a b c d := h.keep (Nat.le_refl _) rfl
theorem S4.far {w : World} {g : Nat} {a b c d : Int} (h : S4 w g a b c d) {p : Addr} (hp : g ≠ p.block) (u : Value) : S4 (w.setCell p u) g a b c d := h.keep (by simp [World.setCell]) (Below.heap_setCell w p u g hp)
theorem S4.new (w : World) (a b c d : Int) (t : TypeId) : S4 (w.alloc (.cells #[.int .i64 a, .int .i64 b, .int .i64 c, .int .i64 d] t)) w.heap.size a b c d :=
  ⟨by simp, by rw [World.cell?_alloc_mark]; rfl, by rw [World.cell?_alloc_mark]; rfl, by rw [World.cell?_alloc_mark]; rfl, by rw [World.cell?_alloc_mark]; rfl,
    fun i => by rw [World.frozen?_alloc_mark]; simp⟩

theorem S4.set0 {w : World} {g : Nat} {a b c d : Int} (h : S4 w g a b c d) (x : Int) : S4 (w.setCell ⟨g, 0, none⟩ (.int .i64 x)) g x b c d :=
  ⟨by simpa [World.setCell] using h.lt, World.cell?_setCell_same w _ _ h.c0, (World.cell?_setCell_other w _ _ _ (by simp)).trans h.c1, (World.cell?_setCell_other w _ _ _ (by simp)).trans h.c2, (World.cell?_setCell_other w _ _ _ (by simp)).trans h.c3, fun i => by rw [World.frozen?_setCell]; exact h.fz i⟩
theorem S4.set1 {w : World} {g : Nat} {a b c d : Int} (h : S4 w g a b c d) (x : Int) : S4 (w.setCell ⟨g, 1, none⟩ (.int .i64 x)) g a x c d :=
  ⟨by simpa [World.setCell] using h.lt, (World.cell?_setCell_other w _ _ _ (by simp)).trans h.c0, World.cell?_setCell_same w _ _ h.c1, (World.cell?_setCell_other w _ _ _ (by simp)).trans h.c2, (World.cell?_setCell_other w _ _ _ (by simp)).trans h.c3, fun i => by rw [World.frozen?_setCell]; exact h.fz i⟩
theorem S4.set2 {w : World} {g : Nat} {a b c d : Int} (h : S4 w g a b c d) (x : Int) : S4 (w.setCell ⟨g, 2, none⟩ (.int .i64 x)) g a b x d :=
  ⟨by simpa [World.setCell] using h.lt, (World.cell?_setCell_other w _ _ _ (by simp)).trans h.c0, (World.cell?_setCell_other w _ _ _ (by simp)).trans h.c1, World.cell?_setCell_same w _ _ h.c2, (World.cell?_setCell_other w _ _ _ (by simp)).trans h.c3, fun i => by rw [World.frozen?_setCell]; exact h.fz i⟩
theorem S4.set3 {w : World} {g : Nat} {a b c d : Int} (h : S4 w g a b c d) (x : Int) : S4 (w.setCell ⟨g, 3, none⟩ (.int .i64 x)) g a b c x :=
  ⟨by simpa [World.setCell] using h.lt, (World.cell?_setCell_other w _ _ _ (by simp)).trans h.c0, (World.cell?_setCell_other w _ _ _ (by simp)).trans h.c1, (World.cell?_setCell_other w _ _ _ (by simp)).trans h.c2, World.cell?_setCell_same w _ _ h.c3, fun i => by rw [World.frozen?_setCell]; exact h.fz i⟩

end Go.Proofs.YtklndjkblfncjaaGreatDoor.Q

namespace Go.Proofs.YtklndjkblfncjaaGreatDoor.Q
open Go.RowKit
set_option maxRecDepth 20000

theorem or_low64 (x y : Int) (s : Nat) (x0 : 0 ≤ x * 2 ^ s) (x1 : x * 2 ^ s < 18446744073709551616) (y0 : 0 ≤ y) (y1 : y < 2 ^ s) (hs : s ≤ 31) : bits .or .u64 (x * 2 ^ s) y = x * 2 ^ s + y := by
  have e32 : (2 : Int) ^ s ≤ 2 ^ 31 := by
    have h2 : (2 : Nat) ^ s ≤ 2 ^ 31 := Nat.pow_le_pow_right (by decide) hs
    exact_mod_cast h2
  have e31 : (2 : Int) ^ 31 = 2147483648 := by decide
  rw [u64_or _ _ x0 x1 y0 (by omega), nat_join s]
  · omega
  · obtain ⟨n, hn⟩ := Int.eq_ofNat_of_zero_le x0
    rw [hn, Int.toNat_natCast]
    have h3 : ((2 ^ s : Nat) : Int) ∣ (n : Int) := ⟨x, by rw [← hn]; push_cast; rw [Int.mul_comm]⟩
    exact Nat.mod_eq_zero_of_dvd (Int.natCast_dvd_natCast.1 h3)
  · obtain ⟨n, rfl⟩ := Int.eq_ofNat_of_zero_le y0
    rw [Int.toNat_natCast]
    exact_mod_cast y1

theorem two_split (s : Nat) (hs : s ≤ 31) : (2 : Int) ^ s * 2 ^ (32 - s) = 4294967296 := by
  rw [← Int.pow_add, show s + (32 - s) = 32 from by omega]; decide

/-- Block g holds three words. -/
structure T3 (w : World) (g : Nat) (a b c : Int) : Prop where
  lt : g < w.heap.size
  c0 : w.cell? ⟨g, 0, none⟩ = some (.int .u64 a)
  c1 : w.cell? ⟨g, 1, none⟩ = some (.int .u64 b)
  c2 : w.cell? ⟨g, 2, none⟩ = some (.int .u64 c)
  fz : ∀ i, w.frozen? ⟨g, i, none⟩ = false
theorem T3.set0 {w : World} {g : Nat} {a b c : Int} (h : T3 w g a b c) (x : Int) : T3 (w.setCell ⟨g, 0, none⟩ (.int .u64 x)) g x b c :=
  ⟨by simpa [World.setCell] using h.lt, World.cell?_setCell_same w _ _ h.c0, (World.cell?_setCell_other w _ _ _ (by simp)).trans h.c1, (World.cell?_setCell_other w _ _ _ (by simp)).trans h.c2, fun i => by rw [World.frozen?_setCell]; exact h.fz i⟩
theorem T3.set1 {w : World} {g : Nat} {a b c : Int} (h : T3 w g a b c) (x : Int) : T3 (w.setCell ⟨g, 1, none⟩ (.int .u64 x)) g a x c :=
  ⟨by simpa [World.setCell] using h.lt, (World.cell?_setCell_other w _ _ _ (by simp)).trans h.c0, World.cell?_setCell_same w _ _ h.c1, (World.cell?_setCell_other w _ _ _ (by simp)).trans h.c2, fun i => by rw [World.frozen?_setCell]; exact h.fz i⟩
theorem T3.set2 {w : World} {g : Nat} {a b c : Int} (h : T3 w g a b c) (x : Int) : T3 (w.setCell ⟨g, 2, none⟩ (.int .u64 x)) g a b x :=
  ⟨by simpa [World.setCell] using h.lt, (World.cell?_setCell_other w _ _ _ (by simp)).trans h.c0, (World.cell?_setCell_other w _ _ _ (by simp)).trans h.c1, World.cell?_setCell_same w _ _ h.c2, fun i => by rw [World.frozen?_setCell]; exact h.fz i⟩
theorem T3.new (w : World) (a b c : Int) (t : TypeId) : T3 (w.alloc (.cells #[.int .u64 a, .int .u64 b, .int .u64 c] t)) w.heap.size a b c :=
  ⟨by simp, by rw [World.cell?_alloc_mark]; rfl, by rw [World.cell?_alloc_mark]; rfl, by rw [World.cell?_alloc_mark]; rfl,
    fun i => by rw [World.frozen?_alloc_mark]; simp⟩

end Go.Proofs.YtklndjkblfncjaaGreatDoor.Q

namespace Go.Proofs.YtklndjkblfncjaaGreatDoor.Q
open Go.RowKit
set_option maxRecDepth 20000

theorem gcd_rest (a b : Int) : Int.gcd b (a % b) = Int.gcd a b := by
  rw [Int.emod_def, Int.gcd_comm a b]; simp

end Go.Proofs.YtklndjkblfncjaaGreatDoor.Q

namespace Go.Proofs.YtklndjkblfncjaaGreatDoor.Q
open Go.RowKit
set_option maxRecDepth 20000

end Go.Proofs.YtklndjkblfncjaaGreatDoor.Q

namespace Go.Proofs.YtklndjkblfncjaaGreatDoor.Q
open Go.RowKit
set_option maxRecDepth 20000

end Go.Proofs.YtklndjkblfncjaaGreatDoor.Q

namespace Go.Proofs.YtklndjkblfncjaaGreatDoor.Q
open Go.RowKit
set_option maxRecDepth 20000

end Go.Proofs.YtklndjkblfncjaaGreatDoor.Q

namespace Go.Proofs.YtklndjkblfncjaaGreatDoor.Q
open Go.RowKit
set_option maxRecDepth 20000

theorem Gives.after {w w3 w' : World} {x : Int} {e : Ending} (h : Gives w3 x e w') (hb : Below w.heap.size w w3) : Gives w x e w' := by
  obtain ⟨A, n, c, L, rfl, hm, hI, hB⟩ := h
  exact ⟨A, n, c, L, rfl, hm.more hb.size, hI, nextB hb hB⟩
theorem Gives.cast {w w' : World} {x y : Int} {e : Ending} (h : Gives w x e w') (hxy : x = y) : Gives w y e w' := by subst hxy; exact h
end Go.Proofs.YtklndjkblfncjaaGreatDoor.Q
namespace Go.Proofs.YtklndjkblfncjaaGreatDoor.Q
open Go.RowKit
set_option maxRecDepth 20000

theorem gcd_lt {x y : Int} {k : Nat} (x0 : 0 ≤ x) (y0 : 0 ≤ y) (hx : x < pw k) (hy : y < pw k) : (Int.gcd x y : Int) < pw k := by
  have p := pw_pos k
  rcases Int.lt_or_eq_of_le x0 with h | h
  · have h1 : ((Int.gcd x y : Nat) : Int) ∣ x := Int.gcd_dvd_left ..
    have h2 := Int.le_of_dvd h h1
    omega
  · rw [← h, Int.gcd_zero_left]
    omega

theorem Nrm.len_iff {w : World} {A : Option Addr} {n c : Nat} {x : Int} (h : Nrm w A n c x) : n = 0 ↔ x = 0 := by
  constructor
  · intro h0
    subst h0
    have h1 := h.num.lt
    have h2 := h.num.nonneg
    have h3 : pw 0 = 1 := rfl
    omega
  · intro h0
    subst h0
    exact h.zero_len

end Go.Proofs.YtklndjkblfncjaaGreatDoor.Q
namespace Go.Proofs.YtklndjkblfncjaaGreatDoor.Q

def sg (s : Bool) (x : Int) : Int := if s then -x else x
/-- What a sign, a numerator and a denominator denote; over a zero denominator: 0. -/
def rat (s : Bool) (x y : Int) : Rat := Rat.divInt (sg s x) y
theorem sg_true (x : Int) : sg true x = -x := rfl
theorem sg_false (x : Int) : sg false x = x := rfl
theorem rat_over_zero (s : Bool) (x : Int) : rat s x 0 = 0 := Rat.divInt_zero _
theorem sg_natAbs (s : Bool) {x : Int} (x0 : 0 ≤ x) : ((sg s x).natAbs : Int) = x := by
  cases s
  · rw [sg_false]; omega
  · rw [sg_true]; omega
theorem rat_num (s : Bool) {x y : Int} (y0 : 0 < y) : (rat s x y).num = sg s (x / (Int.gcd x y : Int)) := by
  unfold rat
  rw [Rat.num_divInt, Int.sign_eq_one_of_pos y0, Int.one_mul, Int.gcd_comm]
  cases s
  · rw [sg_false, sg_false]
  · rw [sg_true, sg_true, Int.neg_gcd, Int.neg_ediv_of_dvd (Int.gcd_dvd_left ..)]
theorem rat_den (s : Bool) {x y : Int} (y0 : 0 < y) : ((rat s x y).den : Int) = y / (Int.gcd x y : Int) := by
  unfold rat
  rw [Rat.den_divInt, if_neg (by omega), Int.gcd_comm]
  have h : Int.gcd (sg s x) y = Int.gcd x y := by
    cases s
    · rfl
    · rw [sg_true, Int.neg_gcd]
  rw [h]
  push_cast
  rw [Int.ofNat_natAbs_of_nonneg (Int.le_of_lt y0)]
theorem rat_abs (s : Bool) {x y : Int} (x0 : 0 ≤ x) (y0 : 0 < y) : ((rat s x y).num.natAbs : Int) = x / (Int.gcd x y : Int) := by
  rw [rat_num s y0, sg_natAbs]
  exact Int.ediv_nonneg x0 (by omega)
theorem gcd_pos_of {x y : Int} (y0 : 0 < y) : 0 < (Int.gcd x y : Int) := by
  have : Int.gcd x y ≠ 0 := by
    intro h
    have := (Int.gcd_eq_zero_iff.1 h).2
    omega
  omega
theorem ediv_zero_of_dvd {g x : Int} (h : g ∣ x) (h2 : x / g = 0) : x = 0 := by
  have := Int.ediv_mul_cancel h
  rw [h2] at this
  omega
theorem rat_neg (s : Bool) {x y : Int} (x0 : 0 ≤ x) (y0 : 0 < y) : decide ((rat s x y).num < 0) = (s && !decide (x = 0)) := by
  rw [rat_num s y0]
  have g0 := gcd_pos_of (x := x) y0
  have h1 : x / (Int.gcd x y : Int) = 0 ↔ x = 0 := by
    constructor
    · exact fun h => ediv_zero_of_dvd (Int.gcd_dvd_left ..) h
    · rintro rfl; exact Int.zero_ediv _
  have h2 : 0 ≤ x / (Int.gcd x y : Int) := Int.ediv_nonneg x0 (by omega)
  cases s
  · rw [sg_false]; simp; omega
  · rw [sg_true]
    by_cases hx : x = 0
    · rw [h1.2 hx]; simp [hx]
    · have : ¬ x / (Int.gcd x y : Int) = 0 := fun h => hx (h1.1 h)
      simp [hx]; omega
/-- The lowest terms denote the number. -/
theorem rat_self (q : Rat) : rat (decide (q.num < 0)) (q.num.natAbs : Int) (q.den : Int) = q := by
  have h : sg (decide (q.num < 0)) (q.num.natAbs : Int) = q.num := by
    by_cases hq : q.num < 0
    · rw [decide_eq_true hq, sg_true]; omega
    · rw [decide_eq_false hq, sg_false]; omega
  unfold rat
  rw [h, Rat.num_divInt_den]
end Go.Proofs.YtklndjkblfncjaaGreatDoor.Q
namespace Go.Proofs.YtklndjkblfncjaaGreatDoor.Q
open Go.RowKit
set_option maxRecDepth 20000

/-- The slice lies in a block from base on. -/
def Off (base : Nat) (A : Option Addr) : Prop := ∀ a, A = some a → base ≤ a.block
theorem Off.mono {base base' : Nat} {A : Option Addr} (h : Off base A) (hb : base' ≤ base) : Off base' A := fun a ha => Nat.le_trans hb (h a ha)
theorem Off.of_mine {w : World} {base n c : Nat} {A : Option Addr} {L : List Int} (h : Mine w base A n c L) : Off base A := fun a ha => (h.lt a ha).1
theorem Off.none (base : Nat) : Off base .none := fun _ h => by cases h
theorem Rd.far {w : World} {A : Option Addr} {n c : Nat} {L : List Int} (h : Rd w A n c L) {p : Addr} (hne : 0 < n → ∀ a, A = some a → a.block ≠ p.block) (v : Value) : Rd (w.setCell p v) A n c L := by
  refine ⟨h.len, h.lims, h.cap, h.top, fun hn => ?_⟩
  obtain ⟨ad, e, hb, hc⟩ := h.at_ hn
  refine ⟨ad, e, by simp [World.setCell]; exact hb, fun i hi => ?_⟩
  rw [World.cell?_setCell_other _ _ _ _ (fun e2 => hne (by omega) ad e (by rw [e2, addr_block]))]
  exact hc i hi
theorem Nrm.far {w : World} {A : Option Addr} {n c : Nat} {x : Int} (h : Nrm w A n c x) {p : Addr} (hne : 0 < n → ∀ a, A = some a → a.block ≠ p.block) (v : Value) : Nrm (w.setCell p v) A n c x := by
  obtain ⟨L, h1, h2⟩ := h
  exact ⟨L, h1.far hne v, h2⟩
theorem Num.far {w : World} {A : Option Addr} {n c : Nat} {x : Int} (h : Num w A n c x) {p : Addr} (hne : 0 < n → ∀ a, A = some a → a.block ≠ p.block) (v : Value) : Num (w.setCell p v) A n c x := by
  obtain ⟨L, h1, h2⟩ := h
  exact ⟨L, h1.far hne v, h2⟩
theorem Nrm.old {w : World} {A : Option Addr} {n c : Nat} {x : Int} (h : Nrm w A n c x) : 0 < n → ∀ a, A = some a → a.block < w.heap.size := by
  intro hn a ha
  obtain ⟨L, h1, _⟩ := h
  obtain ⟨ad, e, hb, _⟩ := h1.at_ hn
  rw [ha] at e
  injection e with e
  rw [e]; exact hb
theorem Num.old {w : World} {A : Option Addr} {n c : Nat} {x : Int} (h : Num w A n c x) : 0 < n → ∀ a, A = some a → a.block < w.heap.size := by
  intro hn a ha
  obtain ⟨L, h1, _⟩ := h
  obtain ⟨ad, e, hb, _⟩ := h1.at_ hn
  rw [ha] at e
  injection e with e
  rw [e]; exact hb
/-- Three stores into a block that the slice does not lie in. -/
theorem Nrm.far3 {w : World} {A : Option Addr} {n c g : Nat} {x : Int} (h : Nrm w A n c x) (hne : 0 < n → ∀ a, A = some a → a.block ≠ g) (i j k : Nat) (u v z : Value) :
    Nrm (((w.setCell ⟨g, i, Option.none⟩ u).setCell ⟨g, j, Option.none⟩ v).setCell ⟨g, k, Option.none⟩ z) A n c x := ((h.far hne u).far hne v).far hne z
theorem Num.far3 {w : World} {A : Option Addr} {n c g : Nat} {x : Int} (h : Num w A n c x) (hne : 0 < n → ∀ a, A = some a → a.block ≠ g) (i j k : Nat) (u v z : Value) :
    Num (((w.setCell ⟨g, i, Option.none⟩ u).setCell ⟨g, j, Option.none⟩ v).setCell ⟨g, k, Option.none⟩ z) A n c x := ((h.far hne u).far hne v).far hne z
/-- A slice in normal form, in a block of its own, comes back. -/
def GivesO (w : World) (x : Int) (e : Ending) (w' : World) : Prop := ∃ A n c, e = .returned (.slice A n c) ∧ Nrm w' A n c x ∧ Off w.heap.size A ∧ Below w.heap.size w w'
theorem Gives.o {w : World} {x : Int} {e : Ending} {w' : World} (h : Gives w x e w') : GivesO w x e w' := by
  obtain ⟨A, n, c, L, h1, h2, h3, h4⟩ := h
  exact ⟨A, n, c, h1, Nrm.of_mine h2 h3, Off.of_mine h2, h4⟩

/-- The three parts of a fraction in memory: it denotes q; its slices have at most k limbs. The denominator may be zero. -/
def Loose (w : World) (s : Bool) (A : Option Addr) (n c : Nat) (B : Option Addr) (m d : Nat) (q : Rat) (k : Nat) : Prop :=
  ∃ x y, Num w A n c x ∧ Num w B m d y ∧ rat s x y = q ∧ n ≤ k ∧ m ≤ k
/-- The same, over a denominator that is not zero. -/
def Frac (w : World) (s : Bool) (A : Option Addr) (n c : Nat) (B : Option Addr) (m d : Nat) (q : Rat) (k : Nat) : Prop :=
  ∃ x y, Num w A n c x ∧ Num w B m d y ∧ 0 < y ∧ rat s x y = q ∧ n ≤ k ∧ m ≤ k
/-- In normal form. -/
def RN (w : World) (s : Bool) (A : Option Addr) (n c : Nat) (B : Option Addr) (m d : Nat) (q : Rat) (k : Nat) : Prop :=
  s = decide (q.num < 0) ∧ Nrm w A n c (q.num.natAbs : Int) ∧ Nrm w B m d (q.den : Int) ∧ n ≤ k ∧ m ≤ k
section
variable {w w' : World} {s : Bool} {A B : Option Addr} {n c m d k j : Nat} {q p : Rat}
theorem Loose.below (h : Loose w s A n c B m d q k) (hb : Below w.heap.size w w') : Loose w' s A n c B m d q k := by
  obtain ⟨x, y, h1, h2, h3⟩ := h
  exact ⟨x, y, h1.below hb, h2.below hb, h3⟩
theorem Frac.below (h : Frac w s A n c B m d q k) (hb : Below w.heap.size w w') : Frac w' s A n c B m d q k := by
  obtain ⟨x, y, h1, h2, h3⟩ := h
  exact ⟨x, y, h1.below hb, h2.below hb, h3⟩
theorem RN.below (h : RN w s A n c B m d q k) (hb : Below w.heap.size w w') : RN w' s A n c B m d q k :=
  ⟨h.1, h.2.1.below hb, h.2.2.1.below hb, h.2.2.2⟩
theorem Loose.mono (h : Loose w s A n c B m d q k) (hk : k ≤ j) : Loose w s A n c B m d q j := by
  obtain ⟨x, y, h1, h2, h3, h4, h5⟩ := h
  exact ⟨x, y, h1, h2, h3, by omega, by omega⟩
theorem Frac.mono (h : Frac w s A n c B m d q k) (hk : k ≤ j) : Frac w s A n c B m d q j := by
  obtain ⟨x, y, h1, h2, h0, h3, h4, h5⟩ := h
  exact ⟨x, y, h1, h2, h0, h3, by omega, by omega⟩
theorem RN.mono (h : RN w s A n c B m d q k) (hk : k ≤ j) : RN w s A n c B m d q j :=
  ⟨h.1, h.2.1, h.2.2.1, by have := h.2.2.2; omega, by have := h.2.2.2; omega⟩
theorem RN.frac (h : RN w s A n c B m d q k) : Frac w s A n c B m d q k := by
  obtain ⟨rfl, h1, h2, h3, h4⟩ := h
  refine ⟨_, _, h1.num, h2.num, ?_, rat_self q, h3, h4⟩
  have := q.den_pos
  omega
theorem Frac.loose (h : Frac w s A n c B m d q k) : Loose w s A n c B m d q k := by
  obtain ⟨x, y, h1, h2, _, h3⟩ := h
  exact ⟨x, y, h1, h2, h3⟩
theorem RN.loose (h : RN w s A n c B m d q k) : Loose w s A n c B m d q k := h.frac.loose
theorem RN.cast (h : RN w s A n c B m d q k) (e : q = p) : RN w s A n c B m d p k := by subst e; exact h
theorem Frac.cast (h : Frac w s A n c B m d q k) (e : q = p) : Frac w s A n c B m d p k := by subst e; exact h
theorem Loose.cast (h : Loose w s A n c B m d q k) (e : q = p) : Loose w s A n c B m d p k := by subst e; exact h
end
def GivesR (w : World) (q : Rat) (k : Nat) (e : Ending) (w' : World) : Prop :=
  ∃ s A n c B m d, e = .returned (.agg #[.bool s, .slice A n c, .slice B m d]) ∧ RN w' s A n c B m d q k ∧ Off w.heap.size A ∧ Off w.heap.size B ∧ Below w.heap.size w w'

/-- Three cells of a block that are there stay in all that is made afterwards. -/
theorem three_cells {v : World} {g : Nat} {a b c : Value} (hg : g < v.heap.size) (h0 : v.cell? ⟨g, 0, none⟩ = some a) (h1 : v.cell? ⟨g, 1, none⟩ = some b) (h2 : v.cell? ⟨g, 2, none⟩ = some c) :
    ∀ W, Below v.heap.size v W → W.cell? ⟨g, 0, none⟩ = some a ∧ W.cell? ⟨g, 1, none⟩ = some b ∧ W.cell? ⟨g, 2, none⟩ = some c :=
  fun _ hb => ⟨(hb.cell (p := ⟨g, 0, none⟩) hg).trans h0, (hb.cell (p := ⟨g, 1, none⟩) hg).trans h1, (hb.cell (p := ⟨g, 2, none⟩) hg).trans h2⟩
theorem three_free {v : World} {g : Nat} (hg : g < v.heap.size) (h0 : ∀ i, v.frozen? ⟨g, i, none⟩ = false) :
    ∀ W, Below v.heap.size v W → W.frozen? ⟨g, 0, none⟩ = false ∧ W.frozen? ⟨g, 1, none⟩ = false ∧ W.frozen? ⟨g, 2, none⟩ = false :=
  fun _ hb => ⟨(hb.frozen (p := ⟨g, 0, none⟩) hg).trans (h0 0), (hb.frozen (p := ⟨g, 1, none⟩) hg).trans (h0 1), (hb.frozen (p := ⟨g, 2, none⟩) hg).trans (h0 2)⟩

theorem ediv_lt_pw {x G : Int} {k : Nat} (x0 : 0 ≤ x) (h : x < pw k) : x / G < pw k := Int.lt_of_le_of_lt (Int.ediv_le_self _ x0) h
end Go.Proofs.YtklndjkblfncjaaGreatDoor.Q
namespace Go.Proofs.YtklndjkblfncjaaGreatDoor.Q
open Go.RowKit
set_option maxRecDepth 20000

/-- One argument in a box, and a box for the result. -/
theorem boxes1 (w : World) (a0 a1 a2 z0 z1 z2 : Value) (T1 T3 : TypeId) (v : World) (hv : (w.alloc (.cells #[a0, a1, a2] T1)).alloc (.cells #[z0, z1, z2] T3) = v) :
    ∃ g, g = w.heap.size ∧ v.heap.size = g + 2 ∧ Below w.heap.size w v ∧
      (∀ W, Below v.heap.size v W → W.cell? ⟨g, 0, none⟩ = some a0 ∧ W.cell? ⟨g, 1, none⟩ = some a1 ∧ W.cell? ⟨g, 2, none⟩ = some a2) ∧
      (∀ W, Below v.heap.size v W → W.cell? ⟨g + 1, 0, none⟩ = some z0 ∧ W.cell? ⟨g + 1, 1, none⟩ = some z1 ∧ W.cell? ⟨g + 1, 2, none⟩ = some z2) ∧
      (∀ W, Below v.heap.size v W → W.frozen? ⟨g + 1, 0, none⟩ = false ∧ W.frozen? ⟨g + 1, 1, none⟩ = false ∧ W.frozen? ⟨g + 1, 2, none⟩ = false) := by
  subst hv
  have hs : ((w.alloc (.cells #[a0, a1, a2] T1)).alloc (.cells #[z0, z1, z2] T3)).heap.size = w.heap.size + 2 := by simp
  refine ⟨w.heap.size, rfl, hs, ((Below.refl _ _).alloc (Nat.le_refl _) _).alloc (by simp) _, ?_, ?_, ?_⟩
  · have e : ∀ i, ((w.alloc (.cells #[a0, a1, a2] T1)).alloc (.cells #[z0, z1, z2] T3)).cell? ⟨w.heap.size, i, none⟩ = #[a0, a1, a2][i]? := fun i => by
      rw [World.cell?_alloc_lt _ _ _ (by simp), World.cell?_alloc_new]
    exact three_cells (by rw [hs]; omega) ((e 0).trans rfl) ((e 1).trans rfl) ((e 2).trans rfl)
  · have e : ∀ i, ((w.alloc (.cells #[a0, a1, a2] T1)).alloc (.cells #[z0, z1, z2] T3)).cell? ⟨w.heap.size + 1, i, none⟩ = #[z0, z1, z2][i]? := fun i => by
      have := World.cell?_alloc_new (w := w.alloc (.cells #[a0, a1, a2] T1)) #[z0, z1, z2] T3 i
      rw [World.size_alloc] at this
      exact this
    exact three_cells (by rw [hs]; omega) ((e 0).trans rfl) ((e 1).trans rfl) ((e 2).trans rfl)
  · have e : ∀ i, ((w.alloc (.cells #[a0, a1, a2] T1)).alloc (.cells #[z0, z1, z2] T3)).frozen? ⟨w.heap.size + 1, i, none⟩ = false := fun i => by
      have := World.frozen?_alloc_new (w := w.alloc (.cells #[a0, a1, a2] T1)) #[z0, z1, z2] T3 i
      rw [World.size_alloc] at this
      exact this
    exact three_free (by rw [hs]; omega) e

end Go.Proofs.YtklndjkblfncjaaGreatDoor.Q
