/-
  rational's negated, inverse, sign, magnitude.
-/
import Derived.Test.YtekalaihfmfkkaaGreatDoorRatOps
namespace Go.Proofs.YtekalaihfmfkkaaGreatDoor
open Go.RowKit
set_option maxRecDepth 20000

theorem negated_any {w : World} {s : Bool} {A B : Option Addr} {n c m d k : Nat} {q : Rat} (h : Frac w s A n c B m d q k) :
    Calls Tryz.prog 150 #[.agg #[.bool s, .slice A n c, .slice B m d]] w (GivesF w (-q) k) := by
  obtain ⟨x, y, hx, hy, y0, hq, hn, hm⟩ := h
  have HQ := Lib.hid hq
  clear hq
  have hb2 := ((Below.refl w.heap.size w).alloc (Nat.le_refl _) (.cells #[.bool (!s), .slice A n c, .slice B m d] 95)).alloc (by simp) (.cells #[.bool (!s), .slice A n c, .slice B m d] 95)
  go_enter Tryz.func150, Tryz.ntmps150
  go_wp2
  exact bodyPost_ret (v := .agg #[.bool (!s), .slice A n c, .slice B m d]) (by simp [results, Tryz.results150, go_sem]) rfl ⟨_, _, _, _, _, _, _, rfl, ⟨x, y, hx.below hb2, hy.below hb2, y0, by rw [rat_opp, HQ.out], hn, hm⟩, hb2⟩

theorem inverse_any {w : World} {s : Bool} {A B : Option Addr} {n c m d k : Nat} {q : Rat} (h : Frac w s A n c B m d q k) (q0 : q ≠ 0) :
    Calls Tryz.prog 149 #[.agg #[.bool s, .slice A n c, .slice B m d]] w (GivesF w (q⁻¹) k) := by
  obtain ⟨x, y, hx, hy, y0, hq, hn, hm⟩ := h
  have x0 : 0 < x := by
    have h1 := hx.nonneg
    rcases Int.lt_or_eq_of_le h1 with h2 | h2
    · exact h2
    · exact absurd (by rw [← hq, ← h2, rat_zero]) q0
  have HQ := Lib.hid hq
  clear hq q0
  go_enter Tryz.func149, Tryz.ntmps149
  have hb2 := ((Below.refl w.heap.size w).alloc (Nat.le_refl _) (.cells #[.bool s, .slice B m d, .slice A n c] 95)).alloc (by simp) (.cells #[.bool s, .slice B m d, .slice A n c] 95)
  go_wp2
  exact bodyPost_ret (v := .agg #[.bool s, .slice B m d, .slice A n c]) (by simp [results, Tryz.results149, go_sem]) rfl ⟨_, _, _, _, _, _, _, rfl, ⟨y, x, hy.below hb2, hx.below hb2, x0, by rw [rat_inv, HQ.out], hm, hn⟩, hb2⟩

/-- The sign of a number: -1, 0 or 1. -/
def sgnR (q : Rat) : Int := cmpR q 0
def IntB (w : World) (z : Int) (e : Ending) (w' : World) : Prop := e = .returned (.int .i64 z) ∧ Below w.heap.size w w'
theorem sign_any {w : World} {s : Bool} {A B : Option Addr} {n c m d k : Nat} {q : Rat} (h : Frac w s A n c B m d q k) :
    Calls Tryz.prog 147 #[.agg #[.bool s, .slice A n c, .slice B m d]] w (IntB w (sgnR q)) := by
  obtain ⟨x, y, hx, hy, y0, hq, hn, hm⟩ := h
  have x0 := hx.nonneg
  have hb1 := (Below.refl w.heap.size w).alloc (Nat.le_refl _) (.cells #[.bool s, .slice A n c, .slice B m d] 95)
  have HZ := isZero_b (hx.below hb1)
  by_cases h0 : x = 0
  · have HS : Hid (sgnR q = 0) := by
      show _ = _
      rw [← hq, h0, rat_zero]; exact cmpR_eq rfl
    rw [show decide (x = 0) = true from decide_eq_true h0] at HZ
    have HZ' := Lib.hid HZ
    clear HZ h0 hq
    go_enter Tryz.func147, Tryz.ntmps147
    go_wp2_with fail
    refine HZ'.out.mono ?_
    rintro e w' ⟨rfl, hB⟩
    go_wp2
    go_ret
    exact ⟨ret_int HS.out.symm, nextB hb1 hB⟩
  · rw [show decide (x = 0) = false from decide_eq_false h0] at HZ
    have HZ' := Lib.hid HZ
    have hneg := rat_neg_iff s x0 y0
    have hpos := rat_pos_iff s x0 y0
    rw [hq] at hneg hpos
    cases s
    · have HS : Hid (sgnR q = 1) := cmpR_gt (hpos.2 ⟨rfl, h0⟩)
      clear HZ h0 hq hneg hpos
      go_enter Tryz.func147, Tryz.ntmps147
      go_wp2_with fail
      refine HZ'.out.mono ?_
      rintro e w' ⟨rfl, hB⟩
      have c0 := hB.cell (p := ⟨w.heap.size, 0, none⟩) (by simp)
      go_wp2
      go_ret
      exact ⟨ret_int HS.out.symm, nextB hb1 hB⟩
    · have HS : Hid (sgnR q = -1) := cmpR_lt (hneg.2 ⟨rfl, h0⟩)
      clear HZ h0 hq hneg hpos
      go_enter Tryz.func147, Tryz.ntmps147
      go_wp2_with fail
      refine HZ'.out.mono ?_
      rintro e w' ⟨rfl, hB⟩
      have c0 := hB.cell (p := ⟨w.heap.size, 0, none⟩) (by simp)
      go_wp2
      go_ret
      exact ⟨ret_int HS.out.symm, nextB hb1 hB⟩

/-- The two limbs of an int's absolute value, in a block of their own. -/
def MagPost (x : Int) (w : World) (e : Ending) (w' : World) : Prop := ∃ A, e = .returned (.slice A 2 2) ∧ Num w' A 2 2 x ∧ Off w.heap.size A ∧ Below w.heap.size w w'
theorem mag_end (w : World) (x : Int) (x0 : 0 ≤ x) (x1 : x < 18446744073709551616) : MagPost x w (.returned (.slice (some ⟨w.heap.size, 0, none⟩) 2 2)) (w.alloc (.cells #[.int .u32 (x % 4294967296), .int .u32 (x / 4294967296)] 92)) :=
  ⟨_, rfl, ⟨[x % 4294967296, x / 4294967296], lit2 w _ _ (by omega) (by omega) (by omega) (by omega), by simp [val]; omega⟩, fun a e => by injection e with e; rw [← e]; exact Nat.le_refl _, (Below.refl _ _).alloc (Nat.le_refl _) _⟩
theorem magnitude_any (n : Int) (w : World) (n0 : -9223372036854775808 ≤ n) (n1 : n ≤ 9223372036854775807) :
    Calls Tryz.prog 69 #[.int .i64 n] w (MagPost (n.natAbs : Int) w) := by
  by_cases h : n < 0
  · have e0 : (n.natAbs : Int) = -n := by omega
    rw [e0]
    have H := Lib.hid (mag_end w (-n) (by omega) (by omega))
    have e1 : IntKind.u64.wrap n = n + 18446744073709551616 := by rw [IntKind.wrap_u64]; omega
    have e2 : IntKind.u64.wrap (-(n + 18446744073709551616)) = -n := by rw [IntKind.wrap_u64]; omega
    clear e0
    go_enter Tryz.func69, Tryz.ntmps69
    go_wp2
    go_ret
    exact H.out
  · have e0 : (n.natAbs : Int) = n := by omega
    rw [e0]
    have H := Lib.hid (mag_end w n (by omega) (by omega))
    clear e0
    go_enter Tryz.func69, Tryz.ntmps69
    go_wp2
    go_ret
    exact H.out

theorem RN.far3 {w : World} {s : Bool} {A B : Option Addr} {n c m d k g : Nat} {q : Rat} (h : RN w s A n c B m d q k) (hA : 0 < n → ∀ a, A = some a → a.block ≠ g) (hB : 0 < m → ∀ a, B = some a → a.block ≠ g) (i j l : Nat) (u v z : Value) :
    RN (((w.setCell ⟨g, i, none⟩ u).setCell ⟨g, j, none⟩ v).setCell ⟨g, l, none⟩ z) s A n c B m d q k :=
  ⟨h.1, h.2.1.far3 hA _ _ _ _ _ _, h.2.2.1.far3 hB _ _ _ _ _ _, h.2.2.2⟩
/-- A normal form has been stored into the result's box, which is older than its slices. -/
theorem store_end {w wp w' : World} {s : Bool} {A B : Option Addr} {n c m d k g : Nat} {q : Rat} (h : RN w' s A n c B m d q k) (oA : Off wp.heap.size A) (oB : Off wp.heap.size B) (hg : g < wp.heap.size) (hw : w.heap.size ≤ g) (hk : Below w.heap.size w w') (u v z : Value) :
    RN (((w'.setCell ⟨g, 0, none⟩ u).setCell ⟨g, 1, none⟩ v).setCell ⟨g, 2, none⟩ z) s A n c B m d q k ∧ Off w.heap.size A ∧ Off w.heap.size B ∧
      Below w.heap.size w (((w'.setCell ⟨g, 0, none⟩ u).setCell ⟨g, 1, none⟩ v).setCell ⟨g, 2, none⟩ z) :=
  ⟨h.far3 (fun _ a e => by have := oA a e; omega) (fun _ a e => by have := oB a e; omega) _ _ _ _ _ _, oA.mono (by omega), oB.mono (by omega), ((hk.setCell hw _).setCell hw _).setCell hw _⟩

end Go.Proofs.YtekalaihfmfkkaaGreatDoor
