/-
  exactpplref01.Trim: the limbs without the zeros at the end, in memory of its own.
  natural.DivMod and Cmp, said of the numbers alone.
-/
import Derived.Test.YtebbnmjmjoklmaaGreatDoorSame
import Derived.Test.YtebbnmjmjoklmaaGreatDoorLong3
import Derived.Test.YtebbnmjmjoklmaaGreatDoorLen
namespace Go.Proofs.YtebbnmjmjoklmaaGreatDoor
open Go.RowKit
set_option maxRecDepth 20000

/-- append of a nil slice to a nil slice. -/
theorem append_nils {P : Program} {w : World} {ops : Array Oper} {rest : List Oper} {o : Oper} {a : Act} {Q : Exit → Act → World → Prop} (guard : o.guard = none) (s x : Operand) (t e : TypeId) (i : TypeInfo) (c : Nat)
    (isAppend : o.op = .call { callee := .builtin .append, args := #[s, x], argTypes := #[t, t] }) (ht : P.underlying t = some (.slice e)) (hi : P.info? e = some i)
    (hs : a.eval s = .slice none 0 0) (hx : a.eval x = .slice none 0 c) (h : wpList P ops Q rest (a.put o.dst (.slice none 0 0)) w) : wpList P ops Q (o :: rest) a w := by
  have run : (Builtin.append_ #[t, t] o.type #[.slice none 0 0, .slice none 0 c]).run P w = .ok (.slice none 0 0) w := by
    simp [Builtin.append_, run_underlying ht, sizeOf, typeInfo, hi, Builtin.lenOf, Builtin.firstCells]
  refine wpList_plain guard fun K hK => ?_
  unfold Oper.wp
  simp [execOp, isAppend, resolve, invoke, builtin, hs, hx, run, Result.andThen]
  exact hK _ _ h

set_option maxHeartbeats 1000000 in
theorem refTrim_any (A : Option Addr) (n c : Nat) (L : List Int) (w : World) (hr : Rd w A n c L) (hn : n ≤ 1000000) :
    Calls Tryz.prog 103 #[.slice A n c] w (Gives w (val L)) := by
  obtain ⟨i0, hi, hz0, hz1, hz2⟩ := info_parts info_limb
  have HL := Lib.hid hr.len
  have hcap := hr.cap
  have htop := hr.top
  unfold maxLen at htop
  go_enter Tryz.func103, Tryz.ntmps103
  go_wp2
  go_loop [3] (fun i => ∃ k : Nat, k ≤ n ∧ i = .int .i64 k ∧ Hid (trim (L.take k) = trim L)) (fun i => (intOf i).toNat)
  case atStart => exact ⟨n, Nat.le_refl _, rfl, by show trim _ = _; rw [List.take_of_length_le (by have := HL.out; omega)]⟩
  case round =>
    obtain ⟨k, hk, rfl, hT⟩ := hrel
    by_cases h0 : 0 < k
    · obtain ⟨j, rfl⟩ : ∃ j, k = j + 1 := ⟨k - 1, by omega⟩
      obtain ⟨ad, rfl, hb, hc⟩ := hr.at_ (by omega)
      have hcj := hc j (by omega)
      by_cases hz : L.getD j 0 = 0
      · rw [hz] at hcj
        clear hc
        go_wp2
        go_round
        case rel => exact ⟨j, by omega, rfl, (congrArg (· = trim L) (trim_take_succ L j (by have := HL.out; omega) hz)).mp hT⟩
        case measure => simp [intOf] <;> omega
      · have hz' : (L.getD j 0 == 0) = false := by simpa using hz
        have hnrm : Hid (L.take (j + 1) = trim L) := by
          show _ = _
          rw [← hT, trim_take_ne L j (by have := HL.out; omega) hz]
        have hrd := hr.take (k := j + 1) hk
        have HC : Hid (∀ t u, (cells (L.take (j + 1)))[t]? = some u → w.cell? (ad.add t) = some u) := by
          obtain ⟨ad', e, _, hc'⟩ := hrd.at_ (by omega)
          injection e with e
          rw [← e] at hc'
          exact cells_at hrd.len hc'
        have HN : Hid ((cells (L.take (j + 1))).length = (j + 1) * 1) := by show _ = _; rw [cells_length, hrd.len]; omega
        obtain ⟨x, hx⟩ : ∃ x, L.getD j 0 = x := ⟨_, rfl⟩
        rw [hx] at hcj hz'
        have HB1 : Hid (0 + (j + 1) ≤ maxLen) := by show _ ≤ _; unfold maxLen; omega
        have HB2 : Hid ((0 + (j + 1)) * 4 ≤ 140737488355328) := by show _ ≤ _; omega
        clear hc hz hx
        go_wp2_with (at_builtin; refine wpList_append_own _ rfl _ _ 40 rfl w.heap.size 71 i0 (.int .u32 0) 1 4 Tryz.underlying40 hi hz0 hz1 hz2 rfl (by decide) (.slice none 0 0) 0 [] rfl (World.ownsRow_nil _ _ _ _) ad (j + 1) c (cells (L.take (j + 1))) rfl HN.out HC.out (oneCell_cells _) HB1.out HB2.out (Nat.le_refl _) ?_)
        intro v' w1 hown hgrow _
        go_wp2
        go_ret
        obtain ⟨A1, c1, hv, hm⟩ := Mine.of_row (L := L.take (j + 1)) (by simpa using hown) hrd.lims
        refine ⟨A1, j + 1, c1, _, congrArg Ending.returned hv, hm, ?_, (Below.refl _ _).grown hgrow (Nat.le_refl _) (by intro k hk; cases hk)⟩
        rw [hnrm.out]; exact Is.mk_trim hr.lims
    · obtain rfl : k = 0 := by omega
      have hI0 : Hid (Is [] (val L)) := by
        have h1 := Is.mk_trim hr.lims
        rw [← hT] at h1
        exact h1
      clear h0
      rcases A with _ | ad
      · go_wp2_with (at_builtin; refine append_nils rfl _ _ 40 71 i0 c rfl Tryz.underlying40 hi rfl rfl ?_)
        go_ret
        exact ⟨none, 0, 0, [], rfl, Mine.nil w _, hI0.out, Below.refl _ _⟩
      · have HN : Hid (∀ t u, ([] : List Value)[t]? = some u → w.cell? (ad.add t) = some u) := by intro t u hu; simp at hu
        have HB1 : Hid (0 + 0 ≤ maxLen) := by show _ ≤ _; unfold maxLen; omega
        go_wp2_with (at_builtin; refine wpList_append_own _ rfl _ _ 40 rfl w.heap.size 71 i0 (.int .u32 0) 1 4 Tryz.underlying40 hi hz0 hz1 hz2 rfl (by decide) (.slice none 0 0) 0 [] rfl (World.ownsRow_nil _ _ _ _) ad 0 c [] rfl rfl HN.out (fun u hu => nomatch hu) HB1.out (by decide) (Nat.le_refl _) ?_)
        intro v' w1 hown hgrow _
        go_wp2
        go_ret
        obtain ⟨A1, c1, hv, hm⟩ := Mine.of_row (L := []) hown Lims.nil
        exact ⟨A1, 0, c1, _, congrArg Ending.returned hv, hm, hI0.out, (Below.refl _ _).grown hgrow (Nat.le_refl _) (by intro k hk; cases hk)⟩

theorem refTrim_n {w : World} {A : Option Addr} {n c : Nat} {x : Int} (hx : Num w A n c x) (hn : n ≤ 1000000) : Calls Tryz.prog 103 #[.slice A n c] w (GivesN w x) := by
  obtain ⟨L, h1, rfl⟩ := hx
  exact (refTrim_any A n c L w h1 hn).mono fun _ _ h => h.n

end Go.Proofs.YtebbnmjmjoklmaaGreatDoor

namespace Go.Proofs.YtebbnmjmjoklmaaGreatDoor
open Go.RowKit
set_option maxRecDepth 20000

def Gives2N (w : World) (q r : Int) (e : Ending) (w' : World) : Prop :=
  ∃ A n c B m d, e = .returned (.tuple #[.slice A n c, .slice B m d, .int .i64 0]) ∧ Nrm w' A n c q ∧ Nrm w' B m d r ∧ Below w.heap.size w w'
theorem divMod_n {w : World} {A B : Option Addr} {n c m d : Nat} {x y : Int} (hx : Num w A n c x) (hy : Num w B m d y) (hn : n ≤ 900000) (h0 : y ≠ 0) :
    Calls Tryz.prog 102 #[.slice A n c, .slice B m d] w (Gives2N w (x / y) (x % y)) := by
  obtain ⟨L, h1, rfl⟩ := hx
  obtain ⟨M, h2, rfl⟩ := hy
  refine (divMod_any A B n c m d L M w h1 h2 hn h0).mono fun e w' h => ?_
  obtain ⟨A, n, c, Q, B, m, d, R, he, hQ, iQ, hR, iR, hB⟩ := h
  exact ⟨A, n, c, B, m, d, he, Nrm.of_mine hQ iQ, Nrm.of_mine hR iR, hB⟩
theorem divMod_zero_n {w : World} {A B : Option Addr} {n c m d : Nat} {x y : Int} (hx : Num w A n c x) (hy : Num w B m d y) (h0 : y = 0) :
    Calls Tryz.prog 102 #[.slice A n c, .slice B m d] w fun e w' => e = .returned (.tuple #[.slice none 0 0, .slice none 0 0, .int .i64 3]) ∧ w = w' := by
  obtain ⟨L, h1, rfl⟩ := hx
  obtain ⟨M, h2, rfl⟩ := hy
  exact divMod_zero A B n c m d L M w h1 h2 h0
theorem cmp_n {w : World} {A B : Option Addr} {n c m d : Nat} {x y : Int} (hx : Num w A n c x) (hy : Num w B m d y) :
    Calls Tryz.prog 93 #[.slice A n c, .slice B m d] w (SameNum w x y) := by
  obtain ⟨L, h1, rfl⟩ := hx
  obtain ⟨M, h2, rfl⟩ := hy
  exact cmp_any A B n c m d L M w h1 h2
theorem cmp_less {w : World} {A B : Option Addr} {n c m d : Nat} {x y : Int} (hx : Num w A n c x) (hy : Num w B m d y) (h : x < y) :
    Calls Tryz.prog 93 #[.slice A n c, .slice B m d] w fun e w' => e = .returned (.int .i64 (-1)) ∧ ∃ k, w' = w.drewN k := by
  have hc := cmp_n hx hy
  unfold SameNum at hc
  rwa [cmpZ_lt h] at hc
theorem Nrm.zero_len {w : World} {A : Option Addr} {n c : Nat} (h : Nrm w A n c 0) : n = 0 := by
  have := h.short (k := 0) (by decide)
  omega
theorem Nrm.pos_len {w : World} {A : Option Addr} {n c : Nat} {x : Int} (h : Nrm w A n c x) (h0 : x ≠ 0) : 0 < n := by
  rcases Nat.eq_zero_or_pos n with hn | hn
  · exfalso
    have h1 := h.num.lt
    have h2 := h.num.nonneg
    rw [hn] at h1
    rw [pw_zero] at h1
    omega
  · exact hn

end Go.Proofs.YtebbnmjmjoklmaaGreatDoor
