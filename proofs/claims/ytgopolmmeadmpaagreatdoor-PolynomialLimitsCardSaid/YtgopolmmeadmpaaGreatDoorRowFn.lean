/-
  slices.IndexFunc and slices.DeleteFunc over a row of terms, with isZero.
-/
import Derived.Test.YtgopolmmeadmpaaGreatDoorAddOld
import Derived.Deep.LoopGhost
namespace Go.Proofs.YtgopolmmeadmpaaGreatDoor
open Go Go.RowKit Go.WideMaps
set_option maxRecDepth 20000

theorem Below.grew {w w' : World} (hb : Below w.heap.size w w') : w.grownBy w' none := ⟨hb.os, hb.tape, hb.output, hb.size, fun k hk _ => hb.block k hk⟩
theorem ownsRow_below {w w' : World} {base : Nat} {e : TypeId} {size : Nat} {v : Value} {n : Nat} {xs : List Value} (h : w.ownsRow base e size v n xs) (hb : Below w.heap.size w w') : w'.ownsRow base e size v n xs := h.kept (Below.grew hb) (by
  cases hv : v.ownBlock with
  | none => exact .inl rfl
  | some k => exact .inr (by simp))
/-- The cells of a term of a row. -/
theorem row_cells {w : World} {base g n cap i : Nat} {ts : List Tm} {t : Tm} {x0 x1 x2 x3 x4 x5 x6 x7 : Int} (h : w.ownsRow base 43 11 (.slice (some ⟨g, 0, none⟩) n cap) n (rowOf ts)) (h8 : ∀ t ∈ ts, t.L.length = 8) (hn : n = ts.length) (hi : ts[i]? = some t) (hL : t.L = [x0, x1, x2, x3, x4, x5, x6, x7]) :
    w.cell? ⟨g, i * 11, none⟩ = some (.int .i64 x0) ∧ w.cell? ⟨g, i * 11 + 1, none⟩ = some (.int .i64 x1) ∧ w.cell? ⟨g, i * 11 + 2, none⟩ = some (.int .i64 x2) ∧ w.cell? ⟨g, i * 11 + 3, none⟩ = some (.int .i64 x3) ∧ w.cell? ⟨g, i * 11 + 4, none⟩ = some (.int .i64 x4) ∧ w.cell? ⟨g, i * 11 + 5, none⟩ = some (.int .i64 x5) ∧ w.cell? ⟨g, i * 11 + 6, none⟩ = some (.int .i64 x6) ∧ w.cell? ⟨g, i * 11 + 7, none⟩ = some (.int .i64 x7) ∧ w.cell? ⟨g, i * 11 + 8, none⟩ = some (.bool t.s) ∧ w.cell? ⟨g, i * 11 + 9, none⟩ = some (.slice t.A t.n t.c) ∧ w.cell? ⟨g, i * 11 + 10, none⟩ = some (.slice t.B t.m t.d) := by
  have hlt : i < n := by
    rw [hn]
    rcases Nat.lt_or_ge i ts.length with h | h
    · exact h
    · rw [List.getElem?_eq_none h] at hi; cases hi
  have key : ∀ j, j < 11 → w.cell? ⟨g, i * 11 + j, none⟩ = t.cells[j]? := fun j hj => by rw [h.cellAt _ (by omega), rowOf_get h8 hi j hj]
  have hc : t.cells = [.int .i64 x0, .int .i64 x1, .int .i64 x2, .int .i64 x3, .int .i64 x4, .int .i64 x5, .int .i64 x6, .int .i64 x7, .bool t.s, .slice t.A t.n t.c, .slice t.B t.m t.d] := by unfold Tm.cells; rw [hL]; rfl
  rw [hc] at key
  exact ⟨key 0 (by decide), key 1 (by decide), key 2 (by decide), key 3 (by decide), key 4 (by decide), key 5 (by decide), key 6 (by decide), key 7 (by decide), key 8 (by decide), key 9 (by decide), key 10 (by decide)⟩
/-- The first place from i on at which the coefficient is zero, or -1. -/
def zeroAt : List Tq → Nat → Int
  | [], _ => -1
  | x :: cs, i => if x.2 = 0 then (i : Int) else zeroAt cs (i + 1)
theorem zeroAt_step {cs : List Tq} {i : Nat} {x : Tq} (h : cs[i]? = some x) : zeroAt (cs.drop i) i = if x.2 = 0 then (i : Int) else zeroAt (cs.drop (i + 1)) (i + 1) := by
  have hlt : i < cs.length := by
    rcases Nat.lt_or_ge i cs.length with h' | h'
    · exact h'
    · rw [List.getElem?_eq_none h'] at h; cases h
  rw [List.drop_eq_getElem_cons hlt]
  rw [List.getElem?_eq_getElem hlt] at h
  injection h with h
  rw [h]; rfl
theorem Tm.val_eq {t : Tm} {x0 x1 x2 x3 x4 x5 x6 x7 : Int} (hL : t.L = [x0, x1, x2, x3, x4, x5, x6, x7]) : t.val = .agg #[.int .i64 x0, .int .i64 x1, .int .i64 x2, .int .i64 x3, .int .i64 x4, .int .i64 x5, .int .i64 x6, .int .i64 x7, .bool t.s, .slice t.A t.n t.c, .slice t.B t.m t.d] := by
  unfold Tm.val; rw [hL]; rfl
theorem isZero_tm {t : Tm} {k : Nat} {q : Rat} {w : World} (h8 : t.L.length = 8) (h : t.loose w q k) (k0 : 1 ≤ k) :
    Calls Tryz.prog 55 #[t.val] w fun e w' => e = .returned (.bool (decide (q = 0))) ∧ Below w.heap.size w w' := isZero_t h8 w h k0

set_option maxHeartbeats 4000000 in
theorem indexZero_x {w : World} {base g cap k : Nat} {cs : List Tq} (hrow : w.ownsRow base 43 11 (.slice (some ⟨g, 0, none⟩) cs.length cap) cs.length (rowOf (tms cs))) (h8 : ∀ x ∈ cs, x.1.L.length = 8) (hc : ∀ x ∈ cs, x.1.loose w x.2 k) (k0 : 1 ≤ k) (hn : cs.length < 1000000) :
    Calls Tryz.prog 72 #[.slice (some ⟨g, 0, none⟩) cs.length cap, .func (.func 55) #[] #[]] w fun e w' => e = .returned (.int .i64 (zeroAt cs 0)) ∧ Below w.heap.size w w' := by
  obtain ⟨R, hR⟩ : ∃ R, zeroAt cs 0 = R := ⟨_, rfl⟩
  obtain ⟨n, hlen⟩ : ∃ n, cs.length = n := ⟨_, rfl⟩
  rw [hlen] at hrow hn ⊢
  rw [hR]
  have HR : Hid (zeroAt (cs.drop 0) 0 = R) := hR
  have h8' : ∀ t ∈ tms cs, t.L.length = 8 := fun t ht => by
    obtain ⟨x, hx, rfl⟩ := List.mem_map.1 ht
    exact h8 x hx
  have H8 := Lib.hid h8'
  have HLEN := Lib.hid hlen
  have HROW := Lib.hid hrow
  have HC := Lib.hid hc
  clear hR hrow hc hlen h8'
  go_enter Tryz.func72, Tryz.ntmps72
  go_wp2
  go_loopw [8] (fun iv wr => ∃ i : Nat, i ≤ n ∧ iv = .int .i64 i ∧ Below w.heap.size w wr ∧ Hid (zeroAt (cs.drop i) i = R)) (fun iv _ => n - (intOf iv).toNat)
  case atStart => exact ⟨0, Nat.zero_le _, rfl, Below.refl _ _, HR⟩
  case round =>
    obtain ⟨i, hi, rfl, hb, hI⟩ := hrel
    by_cases hlt : i < n
    · have hi2 : (i : Int) < n := by omega
      have hi3 : (0 : Int) ≤ i := by omega
      obtain ⟨x, hx⟩ : ∃ x, cs[i]? = some x := ⟨cs[i]'(by rw [HLEN.out]; exact hlt), List.getElem?_eq_getElem _⟩
      have hxm := List.mem_of_getElem? hx
      have hz := zeroAt_step hx
      rw [hI.out] at hz
      have hl := (HC.out x hxm).below hb
      have hx8 := h8 x hxm
      have hxt : (tms cs)[i]? = some x.1 := by unfold tms; rw [List.getElem?_map, hx]; rfl
      have HS := Lib.hid (isZero_tm hx8 hl k0)
      obtain ⟨x0, x1, x2, x3, x4, x5, x6, x7, hL⟩ := eight hx8
      have HV := Tm.val_eq hL
      obtain ⟨c0, c1, c2, c3, c4, c5, c6, c7, c8, c9, c10⟩ := row_cells (ownsRow_below HROW.out hb) H8.out (by rw [tms_length, HLEN.out]) hxt hL
      have HS2 : Hid (Calls Tryz.prog 55 #[.agg #[.int .i64 x0, .int .i64 x1, .int .i64 x2, .int .i64 x3, .int .i64 x4, .int .i64 x5, .int .i64 x6, .int .i64 x7, .bool x.1.s, .slice x.1.A x.1.n x.1.c, .slice x.1.B x.1.m x.1.d]] wr fun e w' => e = .returned (.bool (decide (x.2 = 0))) ∧ Below wr.heap.size wr w') := by
        show Calls _ _ _ _ _
        rw [← HV]; exact HS.out
      have HZ := Lib.hid hz
      clear hz hl hx8 hxt hxm hx HV hL HS hI
      go_wp2_with fail
      refine HS2.out.mono ?_
      rintro e w' ⟨rfl, hb'⟩
      have hb2 := nextB hb hb'
      clear c0 c1 c2 c3 c4 c5 c6 c7 c8 c9 c10 HS2
      by_cases hq : x.2 = 0
      · have hf : R = i := by have := HZ.out; rw [if_pos hq] at this; exact this
        subst hf
        rw [decide_eq_true hq]
        clear HZ hq
        go_wp2
        go_ret
        exact ⟨rfl, hb2⟩
      · have hnext : Hid (zeroAt (cs.drop (i + 1)) (i + 1) = R) := by
          show _ = _
          have := HZ.out
          rw [if_neg hq] at this
          exact this.symm
        rw [decide_eq_false hq]
        clear HZ hq
        go_wp2
        go_roundw
        case rel => exact ⟨i + 1, by omega, by go_num, hb2, hnext⟩
        case measure => simp [intOf] <;> omega
    · obtain rfl : i = n := by omega
      have hf : R = -1 := by
        have := hI.out
        rw [List.drop_of_length_le (by rw [HLEN.out]; exact Nat.le_refl _)] at this
        exact this.symm
      subst hf
      clear hI hlt hi
      go_wp2
      go_ret
      exact ⟨rfl, hb⟩
end Go.Proofs.YtgopolmmeadmpaaGreatDoor
