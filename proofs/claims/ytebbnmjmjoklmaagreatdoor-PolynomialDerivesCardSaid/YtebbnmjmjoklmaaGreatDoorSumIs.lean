/-
  slices.Compare over two rows of ints of one length: the lexicographic order.
  polynomial.monoProduct: the product of two monomials.
  (polynomial.order).compare: terms by their monomials, the greater one first.
  Monomials as keys of a map.
  polynomial.newSum: an empty sum.
  The map of a sum: each monomial's place.
  The row of a sum's terms: eleven cells a term.
  sum.add of a monomial that is new to the sum.
  A sum in memory: its terms, and what they denote.
-/
import Derived.Test.YtebbnmjmjoklmaaGreatDoorPoly
import Derived.Test.YtebbnmjmjoklmaaGreatDoorRatCmp
import Derived.Deep.RegionWith
import Derived.Maps.OwnSet
import Derived.DeepKeys4
import Derived.Carry
import Derived.MakeChecks
import Derived.MapKept
import Derived.Laws.MakeOwn
import Derived.Laws.OwnMore
import Derived.Deep.AppendLies
namespace Go.Proofs.YtebbnmjmjoklmaaGreatDoor
open Go.RowKit
set_option maxRecDepth 20000

/-- The comparison of two lists. -/
def cmpL : List Int → List Int → Int
  | [], [] => 0
  | [], _ :: _ => -1
  | _ :: _, [] => 1
  | x :: a, y :: b => if x < y then -1 else if y < x then 1 else cmpL a b
theorem cmpL_mlt : ∀ {a b : List Int}, a.length = b.length → (cmpL a b < 0 ↔ mlt a b = true)
  | [], [], _ => by simp [cmpL, mlt]
  | [], _ :: _, h => by simp at h
  | _ :: _, [], h => by simp at h
  | x :: a, y :: b, h => by
    unfold cmpL mlt
    by_cases h1 : x < y
    · simp [h1]
    · by_cases h2 : y < x
      · rw [if_neg h1, if_pos h2]
        simp [h1]; intro e; omega
      · rw [if_neg h1, if_neg h2]
        have e : x = y := by omega
        simp [e]
        exact cmpL_mlt (by simpa using h)
theorem cmpL_eq : ∀ {a b : List Int}, a.length = b.length → (cmpL a b = 0 ↔ a = b)
  | [], [], _ => by simp [cmpL]
  | [], _ :: _, h => by simp at h
  | _ :: _, [], h => by simp at h
  | x :: a, y :: b, h => by
    unfold cmpL
    by_cases h1 : x < y
    · rw [if_pos h1]; simp; intro e; omega
    · by_cases h2 : y < x
      · rw [if_neg h1, if_pos h2]; simp; intro e; omega
      · rw [if_neg h1, if_neg h2, cmpL_eq (by simpa using h)]
        have e : x = y := by omega
        simp [e]
theorem cmpL_swap : ∀ {a b : List Int}, a.length = b.length → cmpL b a = -cmpL a b
  | [], [], _ => rfl
  | [], _ :: _, h => by simp at h
  | _ :: _, [], h => by simp at h
  | x :: a, y :: b, h => by
    unfold cmpL
    by_cases h1 : x < y
    · rw [if_pos h1, if_neg (by omega), if_pos h1]; rfl
    · by_cases h2 : y < x
      · rw [if_pos h2, if_neg h1, if_pos h2]
      · rw [if_neg h2, if_neg h1, if_neg h1, if_neg h2]
        exact cmpL_swap (by simpa using h)
theorem cmpL_step {L M : List Int} {i : Nat} (hi : i < L.length) (hj : i < M.length) :
    cmpL (L.drop i) (M.drop i) = if L.getD i 0 < M.getD i 0 then -1 else if M.getD i 0 < L.getD i 0 then 1 else cmpL (L.drop (i + 1)) (M.drop (i + 1)) := by
  rw [List.drop_eq_getElem_cons hi, List.drop_eq_getElem_cons hj]
  simp [cmpL, List.getD_eq_getElem?_getD, List.getElem?_eq_getElem hi, List.getElem?_eq_getElem hj]
/-- A row of ints. -/
def IntRow (w : World) (b o : Nat) (L : List Int) : Prop := ∀ i, i < L.length → w.cell? ⟨b, o + i, none⟩ = some (.int .i64 (L.getD i 0))

set_option maxHeartbeats 1000000 in
theorem sCompare (b o b' o' n c c' : Nat) (L M : List Int) (w : World) (h : IntRow w b o L) (h' : IntRow w b' o' M) (hn : L.length = n) (hm : M.length = n) (hn8 : n ≤ 1000) (hc : n ≤ c) (hc' : n ≤ c') :
    Calls Tryz.prog 86 #[.slice (some ⟨b, o, none⟩) n c, .slice (some ⟨b', o', none⟩) n c'] w fun e w' => e = .returned (.int .i64 (cmpL L M)) ∧ w = w' := by
  obtain ⟨R, hR⟩ : ∃ R, cmpL L M = R := ⟨_, rfl⟩
  rw [hR]
  have HR := Lib.hid hR
  clear hR
  go_enter Tryz.func86, Tryz.ntmps86
  go_wp2
  go_loop [11] (fun iv => ∃ i : Nat, i ≤ n ∧ iv = .int .i64 i ∧ Hid (cmpL (L.drop i) (M.drop i) = R)) (fun iv => n - (intOf iv).toNat)
  case atStart => exact ⟨0, Nat.zero_le _, rfl, HR.out⟩
  case round =>
    obtain ⟨i, hi, rfl, hI⟩ := hrel
    by_cases hlt : i < n
    · have h1 := h i (by omega)
      have h2 := h' i (by omega)
      have hs := cmpL_step (L := L) (M := M) (i := i) (by omega) (by omega)
      rw [hI.out] at hs
      generalize L.getD i 0 = x at h1 hs
      generalize M.getD i 0 = y at h2 hs
      have hi2 : (i : Int) < n := by omega
      have hi3 : ¬ (n : Int) ≤ i := by omega
      have HS := Lib.hid hs
      clear hs hI
      go_wp2_with fail
      refine (compare_any x y w).mono ?_
      rintro e w' ⟨rfl, rfl⟩
      by_cases hx : x < y
      · rw [cmpZ_lt hx]
        have hf : R = -1 := by have := HS.out; rw [if_pos hx] at this; exact this
        subst hf
        clear HS hx
        go_wp2
        go_ret
        exact ⟨rfl, rfl⟩
      · by_cases hy : y < x
        · rw [cmpZ_gt hy]
          have hf : R = 1 := by have := HS.out; rw [if_neg hx, if_pos hy] at this; exact this
          subst hf
          clear HS hx hy
          go_wp2
          go_ret
          exact ⟨rfl, rfl⟩
        · rw [cmpZ_eq (a := x) (b := y) (by omega)]
          have hnext : Hid (cmpL (L.drop (i + 1)) (M.drop (i + 1)) = R) := by
            show _ = _
            have := HS.out
            rw [if_neg hx, if_neg hy] at this
            exact this.symm
          clear HS hx hy
          go_wp2
          go_round
          case rel => exact ⟨i + 1, by omega, by go_num, hnext⟩
          case measure => simp [intOf] <;> omega
    · obtain rfl : i = n := by omega
      have hf : R = 0 := by
        have := hI.out
        rw [List.drop_of_length_le (by omega), List.drop_of_length_le (by omega)] at this
        exact this.symm
      subst hf
      clear hI hlt hi h h'
      go_wp2
      go_ret
      exact ⟨rfl, rfl⟩
end Go.Proofs.YtebbnmjmjoklmaaGreatDoor

namespace Go.Proofs.YtebbnmjmjoklmaaGreatDoor
open Go.RowKit
set_option maxRecDepth 20000

theorem mix0 (v0 v1 v2 v3 v4 v5 v6 v7 : Value) (w : World) : (Instr.index 45 (.agg #[v0, v1, v2, v3, v4, v5, v6, v7]) (.int .i64 0)).run Tryz.prog w = .ok v0 w := by kernel_rfl
theorem mix1 (v0 v1 v2 v3 v4 v5 v6 v7 : Value) (w : World) : (Instr.index 45 (.agg #[v0, v1, v2, v3, v4, v5, v6, v7]) (.int .i64 1)).run Tryz.prog w = .ok v1 w := by kernel_rfl
theorem mix2 (v0 v1 v2 v3 v4 v5 v6 v7 : Value) (w : World) : (Instr.index 45 (.agg #[v0, v1, v2, v3, v4, v5, v6, v7]) (.int .i64 2)).run Tryz.prog w = .ok v2 w := by kernel_rfl
theorem mix3 (v0 v1 v2 v3 v4 v5 v6 v7 : Value) (w : World) : (Instr.index 45 (.agg #[v0, v1, v2, v3, v4, v5, v6, v7]) (.int .i64 3)).run Tryz.prog w = .ok v3 w := by kernel_rfl
theorem mix4 (v0 v1 v2 v3 v4 v5 v6 v7 : Value) (w : World) : (Instr.index 45 (.agg #[v0, v1, v2, v3, v4, v5, v6, v7]) (.int .i64 4)).run Tryz.prog w = .ok v4 w := by kernel_rfl
theorem mix5 (v0 v1 v2 v3 v4 v5 v6 v7 : Value) (w : World) : (Instr.index 45 (.agg #[v0, v1, v2, v3, v4, v5, v6, v7]) (.int .i64 5)).run Tryz.prog w = .ok v5 w := by kernel_rfl
theorem mix6 (v0 v1 v2 v3 v4 v5 v6 v7 : Value) (w : World) : (Instr.index 45 (.agg #[v0, v1, v2, v3, v4, v5, v6, v7]) (.int .i64 6)).run Tryz.prog w = .ok v6 w := by kernel_rfl
theorem mix7 (v0 v1 v2 v3 v4 v5 v6 v7 : Value) (w : World) : (Instr.index 45 (.agg #[v0, v1, v2, v3, v4, v5, v6, v7]) (.int .i64 7)).run Tryz.prog w = .ok v7 w := by kernel_rfl
/-- An exponent, or a sum of few. -/
def Expo (x : Int) : Prop := -1000000000 ≤ x ∧ x ≤ 1000000000

set_option maxHeartbeats 4000000 in
theorem monoProduct_x (x0 x1 x2 x3 x4 x5 x6 x7 y0 y1 y2 y3 y4 y5 y6 y7 : Int) (w : World) (hx : Expo x0 ∧ Expo x1 ∧ Expo x2 ∧ Expo x3 ∧ Expo x4 ∧ Expo x5 ∧ Expo x6 ∧ Expo x7) (hy : Expo y0 ∧ Expo y1 ∧ Expo y2 ∧ Expo y3 ∧ Expo y4 ∧ Expo y5 ∧ Expo y6 ∧ Expo y7) :
    Calls Tryz.prog 36 #[.agg #[.int .i64 x0, .int .i64 x1, .int .i64 x2, .int .i64 x3, .int .i64 x4, .int .i64 x5, .int .i64 x6, .int .i64 x7], .agg #[.int .i64 y0, .int .i64 y1, .int .i64 y2, .int .i64 y3, .int .i64 y4, .int .i64 y5, .int .i64 y6, .int .i64 y7]] w fun e w' => e = .returned (.agg #[.int .i64 (x0 + y0), .int .i64 (x1 + y1), .int .i64 (x2 + y2), .int .i64 (x3 + y3), .int .i64 (x4 + y4), .int .i64 (x5 + y5), .int .i64 (x6 + y6), .int .i64 (x7 + y7)]) ∧ Below w.heap.size w w' := by
  unfold Expo at hx hy
  have s0 : wrap64 (x0 + y0) = x0 + y0 := by unfold wrap64; omega
  have s1 : wrap64 (x1 + y1) = x1 + y1 := by unfold wrap64; omega
  have s2 : wrap64 (x2 + y2) = x2 + y2 := by unfold wrap64; omega
  have s3 : wrap64 (x3 + y3) = x3 + y3 := by unfold wrap64; omega
  have s4 : wrap64 (x4 + y4) = x4 + y4 := by unfold wrap64; omega
  have s5 : wrap64 (x5 + y5) = x5 + y5 := by unfold wrap64; omega
  have s6 : wrap64 (x6 + y6) = x6 + y6 := by unfold wrap64; omega
  have s7 : wrap64 (x7 + y7) = x7 + y7 := by unfold wrap64; omega
  have i0 := mix0 (.int .i64 y0) (.int .i64 y1) (.int .i64 y2) (.int .i64 y3) (.int .i64 y4) (.int .i64 y5) (.int .i64 y6) (.int .i64 y7)
  have i1 := mix1 (.int .i64 y0) (.int .i64 y1) (.int .i64 y2) (.int .i64 y3) (.int .i64 y4) (.int .i64 y5) (.int .i64 y6) (.int .i64 y7)
  have i2 := mix2 (.int .i64 y0) (.int .i64 y1) (.int .i64 y2) (.int .i64 y3) (.int .i64 y4) (.int .i64 y5) (.int .i64 y6) (.int .i64 y7)
  have i3 := mix3 (.int .i64 y0) (.int .i64 y1) (.int .i64 y2) (.int .i64 y3) (.int .i64 y4) (.int .i64 y5) (.int .i64 y6) (.int .i64 y7)
  have i4 := mix4 (.int .i64 y0) (.int .i64 y1) (.int .i64 y2) (.int .i64 y3) (.int .i64 y4) (.int .i64 y5) (.int .i64 y6) (.int .i64 y7)
  have i5 := mix5 (.int .i64 y0) (.int .i64 y1) (.int .i64 y2) (.int .i64 y3) (.int .i64 y4) (.int .i64 y5) (.int .i64 y6) (.int .i64 y7)
  have i6 := mix6 (.int .i64 y0) (.int .i64 y1) (.int .i64 y2) (.int .i64 y3) (.int .i64 y4) (.int .i64 y5) (.int .i64 y6) (.int .i64 y7)
  have i7 := mix7 (.int .i64 y0) (.int .i64 y1) (.int .i64 y2) (.int .i64 y3) (.int .i64 y4) (.int .i64 y5) (.int .i64 y6) (.int .i64 y7)
  clear hx hy
  go_enter Tryz.func36, Tryz.ntmps36
  go_wp2_with fail
  refine wp_loop_rounds 9 ?_
  rw [rounds_succ]
  go_wp2
  rw [rounds_succ]
  go_wp2
  rw [rounds_succ]
  go_wp2
  rw [rounds_succ]
  go_wp2
  rw [rounds_succ]
  go_wp2
  rw [rounds_succ]
  go_wp2
  rw [rounds_succ]
  go_wp2
  rw [rounds_succ]
  go_wp2
  rw [rounds_succ]
  go_wp2
  exact bodyPost_ret (v := .agg #[.int .i64 (x0 + y0), .int .i64 (x1 + y1), .int .i64 (x2 + y2), .int .i64 (x3 + y3), .int .i64 (x4 + y4), .int .i64 (x5 + y5), .int .i64 (x6 + y6), .int .i64 (x7 + y7)]) (by simp [results, Tryz.results36, go_sem]) rfl ⟨rfl, (((Below.refl _ _).alloc (Nat.le_refl _) _).alloc (by simp) _).alloc (by simp; omega) _⟩

/-- A monomial as a value. -/
def monV (L : List Int) : Value := .agg (L.map (Value.int .i64)).toArray
theorem eight {L : List Int} (h : L.length = 8) : ∃ x0 x1 x2 x3 x4 x5 x6 x7, L = [x0, x1, x2, x3, x4, x5, x6, x7] := by
  match L, h with
  | [x0, x1, x2, x3, x4, x5, x6, x7], _ => exact ⟨_, _, _, _, _, _, _, _, rfl⟩
/-- Eight exponents. -/
def Mono8 (L : List Int) : Prop := L.length = 8 ∧ ∀ x ∈ L, Expo x
theorem monoProduct_any {L M : List Int} (w : World) (hL : Mono8 L) (hM : Mono8 M) :
    Calls Tryz.prog 36 #[monV L, monV M] w fun e w' => e = .returned (monV (madd L M)) ∧ Below w.heap.size w w' := by
  obtain ⟨x0, x1, x2, x3, x4, x5, x6, x7, rfl⟩ := eight hL.1
  obtain ⟨y0, y1, y2, y3, y4, y5, y6, y7, rfl⟩ := eight hM.1
  have hx := hL.2
  have hy := hM.2
  simp only [List.mem_cons, List.not_mem_nil, or_false, forall_eq_or_imp, forall_eq] at hx hy
  exact monoProduct_x _ _ _ _ _ _ _ _ _ _ _ _ _ _ _ _ w hx hy

end Go.Proofs.YtebbnmjmjoklmaaGreatDoor

namespace Go.Proofs.YtebbnmjmjoklmaaGreatDoor
open Go.RowKit
set_option maxRecDepth 20000

theorem cmpL_range (a b : List Int) : -1 ≤ cmpL a b ∧ cmpL a b ≤ 1 := by
  induction a generalizing b with
  | nil => cases b <;> simp [cmpL]
  | cons x a ih =>
    cases b with
    | nil => simp [cmpL]
    | cons y b =>
      unfold cmpL
      split
      · omega
      · split
        · omega
        · exact ih b


set_option maxHeartbeats 4000000 in
theorem compare_x (x0 x1 x2 x3 x4 x5 x6 x7 y0 y1 y2 y3 y4 y5 y6 y7 : Int) (s s' : Bool) (A B A' B' : Option Addr) (n c m d n' c' m' d' : Nat) (w : World) :
    Calls Tryz.prog 65 #[.int .i64 (-1), .agg #[.int .i64 x0, .int .i64 x1, .int .i64 x2, .int .i64 x3, .int .i64 x4, .int .i64 x5, .int .i64 x6, .int .i64 x7, .bool s, .slice A n c, .slice B m d], .agg #[.int .i64 y0, .int .i64 y1, .int .i64 y2, .int .i64 y3, .int .i64 y4, .int .i64 y5, .int .i64 y6, .int .i64 y7, .bool s', .slice A' n' c', .slice B' m' d']] w fun e w' => e = .returned (.int .i64 (-cmpL [x0, x1, x2, x3, x4, x5, x6, x7] [y0, y1, y2, y3, y4, y5, y6, y7])) ∧ Below w.heap.size w w' := by
  obtain ⟨v, hv⟩ : ∃ v, (w.alloc (.cells #[.int .i64 x0, .int .i64 x1, .int .i64 x2, .int .i64 x3, .int .i64 x4, .int .i64 x5, .int .i64 x6, .int .i64 x7, .bool s, .slice A n c, .slice B m d] 47)).alloc (.cells #[.int .i64 y0, .int .i64 y1, .int .i64 y2, .int .i64 y3, .int .i64 y4, .int .i64 y5, .int .i64 y6, .int .i64 y7, .bool s', .slice A' n' c', .slice B' m' d'] 47) = v := ⟨_, rfl⟩
  have hb : Below w.heap.size w v := by rw [← hv]; exact ((Below.refl _ _).alloc (Nat.le_refl _) _).alloc (by simp) _
  have h1 : IntRow v w.heap.size 0 [x0, x1, x2, x3, x4, x5, x6, x7] := by
    intro i hi
    rw [← hv, World.cell?_alloc_lt _ _ _ (by simp), World.cell?_alloc_new]
    match i, hi with
    | 0, _ | 1, _ | 2, _ | 3, _ | 4, _ | 5, _ | 6, _ | 7, _ => rfl
  have h2 : IntRow v (w.heap.size + 1) 0 [y0, y1, y2, y3, y4, y5, y6, y7] := by
    intro i hi
    have := World.cell?_alloc_new (w := w.alloc (.cells #[.int .i64 x0, .int .i64 x1, .int .i64 x2, .int .i64 x3, .int .i64 x4, .int .i64 x5, .int .i64 x6, .int .i64 x7, .bool s, .slice A n c, .slice B m d] 47))
    rw [World.size_alloc] at this
    rw [← hv, this]
    match i, hi with
    | 0, _ | 1, _ | 2, _ | 3, _ | 4, _ | 5, _ | 6, _ | 7, _ => rfl
  obtain ⟨R, hR⟩ : ∃ R, cmpL [x0, x1, x2, x3, x4, x5, x6, x7] [y0, y1, y2, y3, y4, y5, y6, y7] = R := ⟨_, rfl⟩
  have hr := cmpL_range [x0, x1, x2, x3, x4, x5, x6, x7] [y0, y1, y2, y3, y4, y5, y6, y7]
  rw [hR] at hr
  have SC : Hid (∀ k, Calls Tryz.prog 86 #[.slice (some ⟨w.heap.size, 0, none⟩) 8 8, .slice (some ⟨w.heap.size + 1, 0, none⟩) 8 8] (v.drewN k) fun e w' => e = .returned (.int .i64 R) ∧ v.drewN k = w') := fun k => by
    rw [← hR]
    exact sCompare w.heap.size 0 (w.heap.size + 1) 0 8 8 8 _ _ (v.drewN k) (fun i hi => by exact h1 i hi) (fun i hi => by exact h2 i hi) rfl rfl (by decide) (by decide) (by decide)
  rw [hR]
  have HV := Lib.hid hv
  clear h1 h2 hR hv
  go_enter Tryz.func65, Tryz.ntmps65
  go_upto_region 1 with fail
  rw [HV.out]
  go_region_with (go_at_call 86; refine (SC.out 1).mono ?_; rintro e w' ⟨rfl, rfl⟩)
  all_goals
    go_wp2
    go_ret
    refine ⟨?_, drewN_below hb 1⟩
    have hw3 : IntKind.i64.wrap (-R) = -R := by rw [IntKind.wrap_i64]; omega
    simp [Act.put, hw3]

/-- A term as a value: a monomial and a fraction. -/
def termV (L : List Int) (s : Bool) (A : Option Addr) (n c : Nat) (B : Option Addr) (m d : Nat) : Value := .agg (L.map (Value.int .i64) ++ [Value.bool s, Value.slice A n c, Value.slice B m d]).toArray
theorem termV_eq (x0 x1 x2 x3 x4 x5 x6 x7 : Int) (s : Bool) (A : Option Addr) (n c : Nat) (B : Option Addr) (m d : Nat) : termV [x0, x1, x2, x3, x4, x5, x6, x7] s A n c B m d = .agg #[.int .i64 x0, .int .i64 x1, .int .i64 x2, .int .i64 x3, .int .i64 x4, .int .i64 x5, .int .i64 x6, .int .i64 x7, .bool s, .slice A n c, .slice B m d] := rfl
theorem compare_any8 {L M : List Int} (hL : L.length = 8) (hM : M.length = 8) (s s' : Bool) (A B A' B' : Option Addr) (n c m d n' c' m' d' : Nat) (w : World) :
    Calls Tryz.prog 65 #[.int .i64 (-1), termV L s A n c B m d, termV M s' A' n' c' B' m' d'] w fun e w' => e = .returned (.int .i64 (-cmpL L M)) ∧ Below w.heap.size w w' := by
  obtain ⟨x0, x1, x2, x3, x4, x5, x6, x7, rfl⟩ := eight hL
  obtain ⟨y0, y1, y2, y3, y4, y5, y6, y7, rfl⟩ := eight hM
  rw [termV_eq, termV_eq]
  exact compare_x x0 x1 x2 x3 x4 x5 x6 x7 y0 y1 y2 y3 y4 y5 y6 y7 s s' A B A' B' n c m d n' c' m' d' w

set_option maxHeartbeats 1000000 in
theorem isZero_x (x0 x1 x2 x3 x4 x5 x6 x7 : Int) {s : Bool} {A B : Option Addr} {n c m d k : Nat} {q : Rat} (w : World) (h : Loose w s A n c B m d q k) (k0 : 1 ≤ k) :
    Calls Tryz.prog 63 #[.agg #[.int .i64 x0, .int .i64 x1, .int .i64 x2, .int .i64 x3, .int .i64 x4, .int .i64 x5, .int .i64 x6, .int .i64 x7, .bool s, .slice A n c, .slice B m d]] w fun e w' => e = .returned (.bool (decide (q = 0))) ∧ Below w.heap.size w w' := by
  have hb := (Below.refl w.heap.size w).alloc (Nat.le_refl _) (.cells #[.int .i64 x0, .int .i64 x1, .int .i64 x2, .int .i64 x3, .int .i64 x4, .int .i64 x5, .int .i64 x6, .int .i64 x7, .bool s, .slice A n c, .slice B m d] 47)
  have HS := Lib.hid (signOf_r (h.below hb) k0)
  have HZ : Hid ((sgnR q == 0) = decide (q = 0)) := by
    show _ = _
    rcases sgnR_cases q with ⟨h1, h2⟩ | ⟨h1, h2⟩ | ⟨h1, h2⟩
    · rw [h2, decide_eq_false (fun e => by rw [e] at h1; exact Rat.lt_irrefl h1)]; rfl
    · rw [h2, decide_eq_true h1]; rfl
    · rw [h2, decide_eq_false (fun e => by rw [e] at h1; exact Rat.lt_irrefl h1)]; rfl
  clear h
  go_enter Tryz.func63, Tryz.ntmps63
  go_wp2_with fail
  refine HS.out.mono ?_
  rintro e w' ⟨rfl, hb2⟩
  go_wp2
  rw [HZ.out]
  go_ret
  exact ⟨rfl, nextB hb hb2⟩
theorem isZero_t {L : List Int} (hL : L.length = 8) {s : Bool} {A B : Option Addr} {n c m d k : Nat} {q : Rat} (w : World) (h : Loose w s A n c B m d q k) (k0 : 1 ≤ k) :
    Calls Tryz.prog 63 #[termV L s A n c B m d] w fun e w' => e = .returned (.bool (decide (q = 0))) ∧ Below w.heap.size w w' := by
  obtain ⟨x0, x1, x2, x3, x4, x5, x6, x7, rfl⟩ := eight hL
  rw [termV_eq]
  exact isZero_x x0 x1 x2 x3 x4 x5 x6 x7 w h k0
end Go.Proofs.YtebbnmjmjoklmaaGreatDoor

namespace Go.Proofs.YtebbnmjmjoklmaaGreatDoor
open Go Go.RowKit Go.WideMaps
set_option maxRecDepth 20000

theorem monoWide : (match Tryz.prog.underlying 45 with | some (.array _ _) | some (.struct _) => true | _ => false) = true := by rw [Tryz.underlying45]
theorem laidOutP : laidOutB Tryz.prog = true := by kernel_rfl
theorem monoLaw : KeyLaw Tryz.prog 45 := deep_law_laid laidOutP (m := 2) (by omega) (of_decide_eq_true (by kernel_rfl)) (by kernel_rfl) monoWide
theorem monoKeyed : Maps.Keyed Tryz.prog 45 := Maps.Keyed.of_law monoLaw
theorem monoCells : Tryz.prog.cellsOf 45 = 8 := by kernel_rfl
theorem intCells : Tryz.prog.cellsOf 3 = 1 := by kernel_rfl
theorem monoKeyType : Tryz.prog.keyType 45 = true := by kernel_rfl
theorem mono_formed (x0 x1 x2 x3 x4 x5 x6 x7 : Int) : (Value.agg #[.int .i64 x0, .int .i64 x1, .int .i64 x2, .int .i64 x3, .int .i64 x4, .int .i64 x5, .int .i64 x6, .int .i64 x7]).formed Tryz.prog 45 = true := by
  simp [Value.formed, Tryz.underlying45, monoCells]
theorem mono_key {x0 x1 x2 x3 x4 x5 x6 x7 : Int} (h : Expo x0 ∧ Expo x1 ∧ Expo x2 ∧ Expo x3 ∧ Expo x4 ∧ Expo x5 ∧ Expo x6 ∧ Expo x7) :
    ∃ l, keyOf Tryz.prog 45 (.agg #[.int .i64 x0, .int .i64 x1, .int .i64 x2, .int .i64 x3, .int .i64 x4, .int .i64 x5, .int .i64 x6, .int .i64 x7]) = some l := by
  unfold Expo at h
  have wf : ∀ x : Int, -1000000000 ≤ x ∧ x ≤ 1000000000 → (Lit.int .i64 x).wf = true := fun x hx => by
    exact WalkArith.wf_i64 (by omega)
  obtain ⟨h0, h1, h2, h3, h4, h5, h6, h7⟩ := h
  have w0 := wf _ h0
  have w1 := wf _ h1
  have w2 := wf _ h2
  have w3 := wf _ h3
  have w4 := wf _ h4
  have w5 := wf _ h5
  have w6 := wf _ h6
  have w7 := wf _ h7
  obtain ⟨N, hN⟩ : ∃ N, Tryz.prog.types.size + 1 = N + 2 := ⟨Tryz.prog.types.size - 1, by have : 2 ≤ Tryz.prog.types.size := of_decide_eq_true (by kernel_rfl); omega⟩
  unfold keyOf
  rw [Tryz.underlying45]
  simp only [monoKeyType, mono_formed, Bool.and_self, if_true, hN]
  unfold Program.keyLits
  simp only [Tryz.underlying45, intCells]
  unfold Program.keyLits
  simp only [Tryz.underlying3]
  rw [if_pos (by rw [monoCells]; rfl)]
  have hr : List.range 8 = [0, 1, 2, 3, 4, 5, 6, 7] := by decide
  rw [hr]
  simp [List.mapM_cons, Value.cells, w0, w1, w2, w3, w4, w5, w6, w7]
/-- The key that a monomial is. -/
noncomputable def keyLit (L : List Int) : Lit := (keyOf Tryz.prog 45 (monV L)).getD (.bool false)
theorem keyLit_eq {L : List Int} (h : Mono8 L) : keyOf Tryz.prog 45 (monV L) = some (keyLit L) := by
  obtain ⟨x0, x1, x2, x3, x4, x5, x6, x7, rfl⟩ := eight h.1
  have hx := h.2
  simp only [List.mem_cons, List.not_mem_nil, or_false, forall_eq_or_imp, forall_eq] at hx
  obtain ⟨l, hl⟩ := mono_key hx
  have e : keyOf Tryz.prog 45 (monV [x0, x1, x2, x3, x4, x5, x6, x7]) = some l := hl
  unfold keyLit
  rw [e]; rfl
theorem monV_inj {L M : List Int} (h : monV L = monV M) : L = M := by
  unfold monV at h
  injection h with h
  have h2 := congrArg Array.toList h
  simp only at h2
  exact List.map_inj_right (fun a b e => by injection e) |>.1 h2
theorem keyLit_inj {L M : List Int} (hL : Mono8 L) (hM : Mono8 M) (h : keyLit L = keyLit M) : L = M := by
  have h1 := keyLit_eq hL
  have h2 := keyLit_eq hM
  rw [← h] at h2
  exact monV_inj (monoKeyed.inj h1 h2)
end Go.Proofs.YtebbnmjmjoklmaaGreatDoor

namespace Go.Proofs.YtebbnmjmjoklmaaGreatDoor
open Go Go.RowKit
set_option maxRecDepth 20000

theorem run_mapRoom {P : Program} {t kt et : TypeId} (hu : P.underlying t = some (.map kt et)) (k : IntKind) (n : Int) (w : World) :
    (Instr.makeMap t (some (.int k n))).run P w = .ok (.map (some w.heap.size)) (w.alloc (.map #[] 0)) := by
  simp [Instr.makeMap, run_underlying hu, asInt, asIntOf, Result.andThen]


theorem termInfoB : ((Tryz.prog.info? 47).any fun i => i.zero.isSome && i.size == 11 && decide (i.bytes ≤ 200)) = true := by kernel_rfl
theorem termInfo : ∃ i z, Tryz.prog.info? 47 = some i ∧ i.zero = some z ∧ i.size = 11 ∧ i.bytes ≤ 200 := by
  have h := termInfoB
  cases hi : Tryz.prog.info? 47 with
  | none => rw [hi] at h; simp at h
  | some i =>
    rw [hi] at h
    simp only [Option.any_some, Bool.and_eq_true, beq_iff_eq, decide_eq_true_eq] at h
    obtain ⟨⟨h1, h2⟩, h3⟩ := h
    obtain ⟨z, hz⟩ := Option.isSome_iff_exists.mp h1
    exact ⟨i, z, rfl, hz, h2, h3⟩

set_option maxHeartbeats 2000000 in
theorem newSum_x (n : Nat) (w : World) (hn : n ≤ 100000) :
    Calls Tryz.prog 39 #[.int .i64 (n : Int)] w fun e w' => ∃ b g, e = .returned (.agg #[.map (some b), .slice (some ⟨g, 0, none⟩) 0 n]) ∧ (∀ H : Type, w'.ownsMap (H := H) Tryz.prog 45 (plainElem Tryz.prog 3) b 0 (.map [])) ∧
      w'.ownsRow w.heap.size 47 11 (.slice (some ⟨g, 0, none⟩) 0 n) 0 [] ∧ w.heap.size ≤ b ∧ w.heap.size ≤ g ∧ b ≠ g ∧ Below w.heap.size w w' := by
  have h0 : (0 : Int) ≤ n := by omega
  have hmm := fun w => run_mapRoom (P := Tryz.prog) (t := 77) Tryz.underlying77 .i64 (n : Int) w
  obtain ⟨C, hC, hms⟩ : ∃ C : Array Value, C.size = n * 11 ∧ ∀ w : World, (Instr.makeSlice 25 (.int .i64 0) (.int .i64 (n : Int))).run Tryz.prog w = .ok (.slice (some ⟨w.heap.size, 0, none⟩) 0 n) (w.alloc (.cells C 47)) := by
    obtain ⟨ti, z, hi, hz, hs, hb⟩ := termInfo
    refine ⟨madeCells z.cells (n * 11), size_madeCells _ _, fun w => ?_⟩
    have h := run_make (P := Tryz.prog) w 25 47 ti z Tryz.underlying25 hi hz .i64 .i64 0 n (by omega) h0 (by
      have h1 : (ti.bytes : Int) * n ≤ 200 * 100000 := Int.mul_le_mul (by omega) (by omega) (by omega) (by omega)
      omega) (by omega)
    rw [hs] at h
    simpa using h
  have hM : n ≤ maxLen := by simp [maxLen]; omega
  go_enter Tryz.func39, Tryz.ntmps39
  go_wp2_with fail
  go_region
  all_goals go_wp2
  · refine bodyPost_ret (v := .agg #[.map (some (w.heap.size + 1)), .slice (some ⟨w.heap.size + 1 + 1, 0, none⟩) 0 n]) (by simp [results, Tryz.results39, go_sem]) rfl ⟨_, _, rfl, ?_, ?_, by omega, by omega, by omega, ?_⟩
    · intro H
      have h := ((World.ownsMap_made (H := H) (w.alloc (.cells #[.map (some (w.heap.size + 1)), .slice (some ⟨w.heap.size + 1 + 1, 0, none⟩) 0 n] 79)) Tryz.prog 45 (plainElem Tryz.prog 3)).alloc (.cells C 47)).drew
      simpa using h
    · have h := (World.ownsRow_made (base := w.heap.size) (e := 47) (size := 11) ((w.alloc (.cells #[.map (some (w.heap.size + 1)), .slice (some ⟨w.heap.size + 1 + 1, 0, none⟩) 0 n] 79)).alloc (.map #[] 0)) C n (by simp; omega) hM hC).drew
      simpa using h
    · exact ((((Below.refl _ w).alloc (Nat.le_refl _) _).alloc (by simp) _).alloc (by simp; omega) _).drew
  · refine bodyPost_ret (v := .agg #[.map (some (w.heap.size + 1 + 1)), .slice (some ⟨w.heap.size + 1, 0, none⟩) 0 n]) (by simp [results, Tryz.results39, go_sem]) rfl ⟨_, _, rfl, ?_, ?_, by omega, by omega, by omega, ?_⟩
    · intro H
      have h := (World.ownsMap_made (H := H) ((w.alloc (.cells #[.map (some (w.heap.size + 1 + 1)), .slice (some ⟨w.heap.size + 1, 0, none⟩) 0 n] 79)).alloc (.cells C 47)) Tryz.prog 45 (plainElem Tryz.prog 3)).drew
      simpa using h
    · have h := ((World.ownsRow_made (base := w.heap.size) (e := 47) (size := 11) (w.alloc (.cells #[.map (some (w.heap.size + 1 + 1)), .slice (some ⟨w.heap.size + 1, 0, none⟩) 0 n] 79)) C n (by simp) hM hC).alloc (.map #[] 0)).drew
      simpa using h
    · exact ((((Below.refl _ w).alloc (Nat.le_refl _) _).alloc (by simp) _).alloc (by simp; omega) _).drew
end Go.Proofs.YtebbnmjmjoklmaaGreatDoor

namespace Go.Proofs.YtebbnmjmjoklmaaGreatDoor
open Go Go.RowKit
set_option maxRecDepth 20000

/-- D gives each of the monomials ms its place, and has no other. -/
structure Places {H : Type} (D : DataW H) (ms : List (List Int)) : Prop where
  isMap : Maps.IsMap D
  has : ∀ L, Mono8 L → Maps.has D (keyLit L) = decide (L ∈ ms)
  atKey : ∀ L, Mono8 L → ∀ i : Nat, ms[i]? = some L → D.atKey (keyLit L) (.lit (.int .i64 0)) = .lit (.int .i64 (i : Int))

theorem keyLit_isKey {L : List Int} (h : Mono8 L) : WideAt.IsKeyLit (keyLit L) := monoKeyed.key (keyLit_eq h)
theorem Places.none {H : Type} : Places (.map [] : DataW H) [] := ⟨Maps.isMap_empty, fun L _ => by simp [Maps.has_eq], fun L _ i h => by simp at h⟩
theorem Places.push {H : Type} {D : DataW H} {ms : List (List Int)} {M : List Int} (h : Places D ms) (hM : Mono8 M) (hn : M ∉ ms) :
    Places (D.put (keyLit M) (.lit (.int .i64 (ms.length : Int)))) (ms ++ [M]) := by
  refine ⟨h.isMap.put _ _, fun L hL => ?_, fun L hL i hi => ?_⟩
  · by_cases e : L = M
    · subst e
      rw [Maps.has_put_same h.isMap (keyLit_isKey hM)]
      simp
    · rw [Maps.has_put_other (fun k => e (keyLit_inj hL hM k)), h.has L hL]
      simp [e]
  · by_cases e : L = M
    · subst e
      rw [Maps.atKey_put_same h.isMap (keyLit_isKey hM)]
      have : i = ms.length := by
        rcases Nat.lt_or_ge i ms.length with hlt | hge
        · rw [List.getElem?_append_left hlt] at hi
          exact absurd (List.mem_of_getElem? hi) hn
        · have h1 : i < (ms ++ [L]).length := by
            rcases Nat.lt_or_ge i (ms ++ [L]).length with h2 | h2
            · exact h2
            · rw [List.getElem?_eq_none h2] at hi; cases hi
          simp at h1
          omega
      rw [this]
    · rw [Maps.atKey_put_other (fun k => e (keyLit_inj hL hM k))]
      refine h.atKey L hL i ?_
      rcases Nat.lt_or_ge i ms.length with hlt | hge
      · rwa [List.getElem?_append_left hlt] at hi
      · rw [List.getElem?_append_right hge] at hi
        cases hk : i - ms.length with
        | zero => rw [hk] at hi; simp at hi; exact absurd hi.symm e
        | succ j => rw [hk] at hi; simp at hi
/-- What the look finds. -/
theorem Places.look {H : Type} {D : DataW H} {ms : List (List Int)} {M : List Int} (h : Places D ms) (hM : Mono8 M) {c : Int} (hc : D.atKey (keyLit M) (.lit (.int .i64 0)) = .lit (.int .i64 c)) (hin : M ∈ ms) :
    ∃ i : Nat, ms[i]? = some M ∧ c = (i : Int) := by
  obtain ⟨i, hi⟩ := List.mem_iff_getElem?.mp hin
  refine ⟨i, hi, ?_⟩
  have := h.atKey M hM i hi
  rw [hc] at this
  injection this with h1
  injection h1
end Go.Proofs.YtebbnmjmjoklmaaGreatDoor

namespace Go.Proofs.YtebbnmjmjoklmaaGreatDoor
open Go Go.RowKit
set_option maxRecDepth 20000

/-- A term as it lies: its exponents, and its coefficient's sign and slices. -/
structure Tm where
  L : List Int
  s : Bool
  A : Option Addr
  n : Nat
  c : Nat
  B : Option Addr
  m : Nat
  d : Nat
def Tm.val (t : Tm) : Value := termV t.L t.s t.A t.n t.c t.B t.m t.d
def Tm.cells (t : Tm) : List Value := t.L.map (Value.int .i64) ++ [.bool t.s, .slice t.A t.n t.c, .slice t.B t.m t.d]
def Tm.with (t : Tm) (s : Bool) (A : Option Addr) (n c : Nat) (B : Option Addr) (m d : Nat) : Tm := ⟨t.L, s, A, n, c, B, m, d⟩
theorem Tm.length {t : Tm} (h : t.L.length = 8) : t.cells.length = 11 := by simp [Tm.cells, h]
/-- The row of terms. -/
def rowOf (ts : List Tm) : List Value := ts.flatMap Tm.cells
theorem rowOf_nil : rowOf [] = [] := rfl
theorem rowOf_push (ts : List Tm) (t : Tm) : rowOf (ts ++ [t]) = rowOf ts ++ t.cells := by simp [rowOf]
theorem rowOf_length : ∀ {ts : List Tm}, (∀ t ∈ ts, t.L.length = 8) → (rowOf ts).length = ts.length * 11
  | [], _ => rfl
  | t :: ts, h => by
    have h1 := rowOf_length (ts := ts) (fun x hx => h x (List.mem_cons_of_mem _ hx))
    have h2 := Tm.length (h t (List.mem_cons_self))
    have : rowOf (t :: ts) = t.cells ++ rowOf ts := rfl
    rw [this, List.length_append, h1, h2]
    simp only [List.length_cons]
    omega
theorem rowOf_get : ∀ {ts : List Tm} {i : Nat} {t : Tm}, (∀ t ∈ ts, t.L.length = 8) → ts[i]? = some t → ∀ j, j < 11 → (rowOf ts)[i * 11 + j]? = t.cells[j]?
  | [], i, t, _, ht, _, _ => by simp at ht
  | x :: ts, 0, t, h, ht, j, hj => by
    simp only [List.getElem?_cons_zero, Option.some.injEq] at ht
    subst ht
    have h2 := Tm.length (h x (List.mem_cons_self))
    show (x.cells ++ rowOf ts)[0 * 11 + j]? = _
    rw [List.getElem?_append_left (by omega)]
    simp
  | x :: ts, i + 1, t, h, ht, j, hj => by
    have h1 := rowOf_get (ts := ts) (i := i) (t := t) (fun x hx => h x (List.mem_cons_of_mem _ hx)) (by simpa using ht) j hj
    have h2 := Tm.length (h x (List.mem_cons_self))
    show (x.cells ++ rowOf ts)[(i + 1) * 11 + j]? = _
    rw [List.getElem?_append_right (by omega), h2, ← h1]
    congr 1
    omega
theorem Tm.coefs {t : Tm} (h : t.L.length = 8) : t.cells[8]? = some (.bool t.s) ∧ t.cells[9]? = some (.slice t.A t.n t.c) ∧ t.cells[10]? = some (.slice t.B t.m t.d) := by
  unfold Tm.cells
  refine ⟨?_, ?_, ?_⟩
  all_goals
    rw [List.getElem?_append_right (by simp [h])]
    simp [h]
theorem Tm.set_coefs {t : Tm} (h : t.L.length = 8) (s : Bool) (A : Option Addr) (n c : Nat) (B : Option Addr) (m d : Nat) :
    ((t.cells.set 8 (.bool s)).set 9 (.slice A n c)).set 10 (.slice B m d) = (t.with s A n c B m d).cells := by
  unfold Tm.cells Tm.with
  obtain ⟨x0, x1, x2, x3, x4, x5, x6, x7, hx⟩ := eight h
  simp only [hx]
  rfl
/-- A coefficient is stored. -/
theorem rowOf_set : ∀ {ts : List Tm} {i : Nat} {t : Tm}, (∀ t ∈ ts, t.L.length = 8) → ts[i]? = some t → ∀ (s : Bool) (A : Option Addr) (n c : Nat) (B : Option Addr) (m d : Nat),
    (((rowOf ts).set (i * 11 + 8) (.bool s)).set (i * 11 + 9) (.slice A n c)).set (i * 11 + 10) (.slice B m d) = rowOf (ts.set i (t.with s A n c B m d))
  | [], i, t, _, ht, _, _, _, _, _, _, _ => by simp at ht
  | x :: ts, 0, t, h, ht, s, A, n, c, B, m, d => by
    simp only [List.getElem?_cons_zero, Option.some.injEq] at ht
    subst ht
    have h8 := h x (List.mem_cons_self)
    have h2 := Tm.length h8
    show (((x.cells ++ rowOf ts).set _ _).set _ _).set _ _ = (x.with s A n c B m d).cells ++ rowOf ts
    rw [← Tm.set_coefs h8]
    rw [List.set_append_left _ _ (by omega), List.set_append_left _ _ (by rw [List.length_set]; omega), List.set_append_left _ _ (by rw [List.length_set, List.length_set]; omega)]
  | x :: ts, i + 1, t, h, ht, s, A, n, c, B, m, d => by
    have h1 := rowOf_set (ts := ts) (i := i) (t := t) (fun x hx => h x (List.mem_cons_of_mem _ hx)) (by simpa using ht) s A n c B m d
    have h2 := Tm.length (h x (List.mem_cons_self))
    show (((x.cells ++ rowOf ts).set _ _).set _ _).set _ _ = x.cells ++ rowOf (ts.set i (t.with s A n c B m d))
    rw [← h1]
    have e8 : (i + 1) * 11 + 8 - 11 = i * 11 + 8 := by omega
    have e9 : (i + 1) * 11 + 9 - 11 = i * 11 + 9 := by omega
    have e10 : (i + 1) * 11 + 10 - 11 = i * 11 + 10 := by omega
    rw [List.set_append_right _ _ (by omega), List.set_append_right _ _ (by omega), List.set_append_right _ _ (by omega), h2, e8, e9, e10]
end Go.Proofs.YtebbnmjmjoklmaaGreatDoor

namespace Go.Proofs.YtebbnmjmjoklmaaGreatDoor
open Go Go.RowKit Go.WideMaps
set_option maxRecDepth 20000
theorem termInfoB2 : ((Tryz.prog.info? 47).any fun i => (i.zero.any fun z => z.cells.size == 11) && i.size == 11 && decide (i.bytes ≤ 200)) = true := by kernel_rfl
theorem termInfo2 : ∃ i z, Tryz.prog.info? 47 = some i ∧ i.zero = some z ∧ z.cells.size = 11 ∧ i.size = 11 ∧ i.bytes ≤ 200 := by
  have h := termInfoB2
  cases hi : Tryz.prog.info? 47 with
  | none => rw [hi] at h; simp at h
  | some i =>
    rw [hi] at h
    simp only [Option.any_some, Bool.and_eq_true, beq_iff_eq, decide_eq_true_eq] at h
    obtain ⟨⟨h1, h2⟩, h3⟩ := h
    cases hz : i.zero with
    | none => rw [hz] at h1; simp at h1
    | some z =>
      rw [hz] at h1
      simp only [Option.any_some, beq_iff_eq] at h1
      exact ⟨i, z, rfl, hz, h1, h2, h3⟩
/-- Only the blocks p, b and g of w have changed in w'. -/
structure Keeps (p b g : Nat) (w w' : World) : Prop where
  os : w'.os = w.os
  tape : w'.tape = w.tape
  output : w'.output = w.output
  size : w.heap.size ≤ w'.heap.size
  block : ∀ k, k < w.heap.size → k ≠ p → k ≠ b → k ≠ g → w'.heap[k]? = w.heap[k]?
theorem Keeps.trans {p b g : Nat} {w w' w'' : World} (h : Keeps p b g w w') (k : Keeps p b g w' w'') : Keeps p b g w w'' :=
  ⟨k.os.trans h.os, k.tape.trans h.tape, k.output.trans h.output, Nat.le_trans h.size k.size, fun i hi h1 h2 h3 => (k.block i (Nat.lt_of_lt_of_le hi h.size) h1 h2 h3).trans (h.block i hi h1 h2 h3)⟩
theorem Keeps.below {p b g : Nat} {w w' : World} (h : Below w.heap.size w w') : Keeps p b g w w' := ⟨h.os, h.tape, h.output, h.size, fun i hi _ _ _ => h.block i hi⟩
theorem Keeps.grown {p b g : Nat} {w w' : World} {r : Option Nat} (h : w.grownBy w' r) (hr : r = some b ∨ r = some g) : Keeps p b g w w' :=
  ⟨h.os, h.tape, h.output, h.size, fun i hi _ h2 h3 => h.block i hi (by rcases hr with rfl | rfl <;> simp <;> assumption)⟩
theorem Keeps.set {p b g : Nat} {w : World} (j : Nat) (u : Value) : Keeps p b g w (w.setCell ⟨p, j, none⟩ u) :=
  ⟨rfl, rfl, rfl, by simp, fun i _ h1 _ _ => Below.heap_setCell w ⟨p, j, none⟩ u i h1⟩
theorem alloc_facts {w w' : World} {cs : Array Value} {e : TypeId} (h : w.alloc (.cells cs e) = w') :
    (∀ a : Addr, a.block < w.heap.size → w'.cell? a = w.cell? a) ∧ (∀ a : Addr, a.block < w.heap.size → w'.frozen? a = w.frozen? a) ∧
    (∀ j u, cs.toList[j]? = some u → w'.cell? ((⟨w.heap.size, 0, none⟩ : Addr).add j) = some u) ∧ w'.heap.size = w.heap.size + 1 := by
  subst h
  have hb : Below w.heap.size w (w.alloc (.cells cs e)) := (Below.refl _ w).alloc (Nat.le_refl _) _
  exact ⟨fun a ha => hb.cell ha, fun a ha => hb.frozen ha, World.news_of_block (heap_alloc_new w _), by simp⟩
/-- The two boxes of sum.add hold the monomial and the coefficient. -/
def Boxes (h : Nat) (x0 x1 x2 x3 x4 x5 x6 x7 : Int) (s : Bool) (A B : Option Addr) (an ac bm bd : Nat) (W : World) : Prop :=
  W.cell? ⟨h, 0, none⟩ = some (.int .i64 x0) ∧ W.cell? ⟨h, 1, none⟩ = some (.int .i64 x1) ∧ W.cell? ⟨h, 2, none⟩ = some (.int .i64 x2) ∧ W.cell? ⟨h, 3, none⟩ = some (.int .i64 x3) ∧ W.cell? ⟨h, 4, none⟩ = some (.int .i64 x4) ∧ W.cell? ⟨h, 5, none⟩ = some (.int .i64 x5) ∧ W.cell? ⟨h, 6, none⟩ = some (.int .i64 x6) ∧ W.cell? ⟨h, 7, none⟩ = some (.int .i64 x7) ∧
  W.cell? ⟨h + 1, 0, none⟩ = some (.bool s) ∧ W.cell? ⟨h + 1, 1, none⟩ = some (.slice A an ac) ∧ W.cell? ⟨h + 1, 2, none⟩ = some (.slice B bm bd)
theorem Boxes.far {h : Nat} {x0 x1 x2 x3 x4 x5 x6 x7 : Int} {s : Bool} {A B : Option Addr} {an ac bm bd : Nat} {W W' : World} (hb : Boxes h x0 x1 x2 x3 x4 x5 x6 x7 s A B an ac bm bd W)
    (hf : ∀ j k, k = h ∨ k = h + 1 → W'.cell? ⟨k, j, none⟩ = W.cell? ⟨k, j, none⟩) : Boxes h x0 x1 x2 x3 x4 x5 x6 x7 s A B an ac bm bd W' := by
  obtain ⟨h0, h1, h2, h3, h4, h5, h6, h7, h8, h9, h10⟩ := hb
  exact ⟨(hf 0 _ (.inl rfl)).trans h0, (hf 1 _ (.inl rfl)).trans h1, (hf 2 _ (.inl rfl)).trans h2, (hf 3 _ (.inl rfl)).trans h3, (hf 4 _ (.inl rfl)).trans h4, (hf 5 _ (.inl rfl)).trans h5, (hf 6 _ (.inl rfl)).trans h6, (hf 7 _ (.inl rfl)).trans h7, (hf 0 _ (.inr rfl)).trans h8, (hf 1 _ (.inr rfl)).trans h9, (hf 2 _ (.inr rfl)).trans h10⟩
set_option maxHeartbeats 2000000 in
theorem sumAdd_new {H : Type} {w : World} {p b g N n cap base : Nat} {D : DataW H} {ts : List Tm} {M : List Int} {s : Bool} {A B : Option Addr} {an ac bm bd : Nat}
    (hp0 : w.cell? ⟨p, 0, none⟩ = some (.map (some b))) (hp1 : w.cell? ⟨p, 1, none⟩ = some (.slice (some ⟨g, 0, none⟩) n cap)) (hpf : ∀ j, w.frozen? ⟨p, j, none⟩ = false)
    (hmap : w.ownsMap Tryz.prog 45 (plainElem Tryz.prog 3) b N D) (hD : Places D (ts.map Tm.L)) (hM : Mono8 M) (hrow : w.ownsRow base 47 11 (.slice (some ⟨g, 0, none⟩) n cap) n (rowOf ts)) (hpl : p < w.heap.size) (hin : M ∉ ts.map Tm.L) (hN : N < 1000000) (hn : n < 1000000) (hpb : p ≠ b) (hgb : g ≠ b) (hpg : p ≠ g) (hbb : base ≤ w.heap.size) :
    Calls Tryz.prog 61 #[.pointer (some ⟨p, 0, none⟩), monV M, .agg #[.bool s, .slice A an ac, .slice B bm bd]] w fun e w' => e = .returned (.bool true) ∧ ∃ g' cap', w'.cell? ⟨p, 0, none⟩ = some (.map (some b)) ∧ w'.cell? ⟨p, 1, none⟩ = some (.slice (some ⟨g', 0, none⟩) (n + 1) cap') ∧ (∀ j, w'.frozen? ⟨p, j, none⟩ = false) ∧
      w'.ownsMap Tryz.prog 45 (plainElem Tryz.prog 3) b (N + 1) (D.put (keyLit M) (.lit (.int .i64 (n : Int)))) ∧ w'.ownsRow base 47 11 (.slice (some ⟨g', 0, none⟩) (n + 1) cap') (n + 1) (rowOf ts ++ (⟨M, s, A, an, ac, B, bm, bd⟩ : Tm).cells) ∧
      (g' = g ∨ w.heap.size ≤ g') ∧ Keeps p b g w w' := by
  obtain ⟨x0, x1, x2, x3, x4, x5, x6, x7, rfl⟩ := eight hM.1
  have hkey := keyLit_eq hM
  have hz : ∀ w : World, (zeroValue 3).run Tryz.prog w = .ok (.int .i64 0) w := fun w => by rfl
  show Calls Tryz.prog 61 #[.pointer (some ⟨p, 0, none⟩), .agg #[.int .i64 x0, .int .i64 x1, .int .i64 x2, .int .i64 x3, .int .i64 x4, .int .i64 x5, .int .i64 x6, .int .i64 x7], .agg #[.bool s, .slice A an ac, .slice B bm bd]] w _
  obtain ⟨v1, hv1⟩ : ∃ v1, ((w.alloc (.cells #[.int .i64 x0, .int .i64 x1, .int .i64 x2, .int .i64 x3, .int .i64 x4, .int .i64 x5, .int .i64 x6, .int .i64 x7] 45)).alloc (.cells #[.bool s, .slice A an ac, .slice B bm bd] 42)) = v1 := ⟨_, rfl⟩
  have hb1 : Below w.heap.size w v1 := hv1 ▸ (((Below.refl _ w).alloc (Nat.le_refl _) _).alloc (by simp) _)
  have hsz : v1.heap.size = w.heap.size + 1 + 1 := by rw [← hv1]; simp
  have hc0 : v1.cell? ⟨p, 0, none⟩ = some (.map (some b)) := by rw [hb1.cell (by exact hpl)]; exact hp0
  have hc1 : v1.cell? ⟨p, 1, none⟩ = some (.slice (some ⟨g, 0, none⟩) n cap) := by rw [hb1.cell (by exact hpl)]; exact hp1
  have hM0 : v1.cell? ⟨w.heap.size, 0, none⟩ = some (.int .i64 x0) ∧ v1.cell? ⟨w.heap.size, 1, none⟩ = some (.int .i64 x1) ∧ v1.cell? ⟨w.heap.size, 2, none⟩ = some (.int .i64 x2) ∧ v1.cell? ⟨w.heap.size, 3, none⟩ = some (.int .i64 x3) ∧ v1.cell? ⟨w.heap.size, 4, none⟩ = some (.int .i64 x4) ∧ v1.cell? ⟨w.heap.size, 5, none⟩ = some (.int .i64 x5) ∧ v1.cell? ⟨w.heap.size, 6, none⟩ = some (.int .i64 x6) ∧ v1.cell? ⟨w.heap.size, 7, none⟩ = some (.int .i64 x7) := by
    rw [← hv1]; clear hb1 hsz hc0 hc1 hv1; refine ⟨?_, ?_, ?_, ?_, ?_, ?_, ?_, ?_⟩ <;> go_simp
  have hC0 : v1.cell? ⟨w.heap.size + 1, 0, none⟩ = some (.bool s) ∧ v1.cell? ⟨w.heap.size + 1, 1, none⟩ = some (.slice A an ac) ∧ v1.cell? ⟨w.heap.size + 1, 2, none⟩ = some (.slice B bm bd) := by
    rw [← hv1]; clear hM0 hb1 hsz hc0 hc1 hv1; refine ⟨?_, ?_, ?_⟩ <;> go_simp
  have hmap1 : v1.ownsMap Tryz.prog 45 (plainElem Tryz.prog 3) b N D := hv1 ▸ ((hmap.alloc _).alloc _)
  have hrow1 : v1.ownsRow base 47 11 (.slice (some ⟨g, 0, none⟩) n cap) n (rowOf ts) := hv1 ▸ ((hrow.alloc _).alloc _)
  obtain ⟨n0, n1, n2⟩ := hC0
  obtain ⟨m0, m1, m2, m3, m4, m5, m6, m7⟩ := hM0
  obtain ⟨vv, ps, hlook, hv⟩ := hmap1.drew.look_ok monoKeyed Tryz.underlying77 (hz v1.drew) (plainElem_int Tryz.underlying3 (by decide)) hkey
  obtain ⟨cc, rfl, hcc, hwc⟩ := plainElem_int_inv Tryz.underlying3 hv
  have hlook' : (Instr.lookup 77 (.map (some b)) (.agg #[.int .i64 x0, .int .i64 x1, .int .i64 x2, .int .i64 x3, .int .i64 x4, .int .i64 x5, .int .i64 x6, .int .i64 x7]) true).run Tryz.prog v1.drew = .ok (.tuple #[.int .i64 cc, .bool (Maps.has D (keyLit [x0, x1, x2, x3, x4, x5, x6, x7]))]) v1.drew := hlook
  rw [hD.has _ hM, decide_eq_false hin] at hlook'
  clear hlook hv hcc
  obtain ⟨w2, hupd, hmap2, hgr2⟩ := hmap1.drew.drew.update monoKeyed Tryz.underlying77 (by simp [maxLen]; omega) (val := .int .i64 (n : Int)) hkey (plainElem_int Tryz.underlying3 (WalkArith.wf_i64 (by omega)))
  have hupd' : (Instr.mapUpdate 77 (.map (some b)) (.agg #[.int .i64 x0, .int .i64 x1, .int .i64 x2, .int .i64 x3, .int .i64 x4, .int .i64 x5, .int .i64 x6, .int .i64 x7]) (.int .i64 (n : Int))).run Tryz.prog v1.drew.drew = .ok () w2 := hupd
  clear hupd
  have hbl := hmap.lt
  have hsz2 : v1.drew.drew.heap.size = w.heap.size + 1 + 1 := hsz
  have hf0 : v1.frozen? ⟨p, 1, none⟩ = false := by rw [hb1.frozen (by exact hpl)]; exact hpf 1
  have c2 : w2.cell? ⟨p, 1, none⟩ = some (.slice (some ⟨g, 0, none⟩) n cap) := (hgr2.cell_far ⟨p, 1, none⟩ (by rw [hsz2]; simp; omega) (by simp; exact hpb)).trans hc1
  have f2 : w2.frozen? ⟨p, 1, none⟩ = false := (hgr2.frozen_far ⟨p, 1, none⟩ (by rw [hsz2]; simp; omega) (by simp; exact hpb)).trans hf0
  have far : ∀ j k, k = w.heap.size ∨ k = w.heap.size + 1 → w2.cell? ⟨k, j, none⟩ = v1.cell? ⟨k, j, none⟩ := fun j k hk => hgr2.cell_far ⟨k, j, none⟩ (by rw [hsz2]; simp; omega) (by simp; omega)
  have p0 := (far 0 _ (.inl rfl)).trans m0
  have p1 := (far 1 _ (.inl rfl)).trans m1
  have p2 := (far 2 _ (.inl rfl)).trans m2
  have p3 := (far 3 _ (.inl rfl)).trans m3
  have p4 := (far 4 _ (.inl rfl)).trans m4
  have p5 := (far 5 _ (.inl rfl)).trans m5
  have p6 := (far 6 _ (.inl rfl)).trans m6
  have p7 := (far 7 _ (.inl rfl)).trans m7
  have q0 := (far 0 _ (.inr rfl)).trans n0
  have q1 := (far 1 _ (.inr rfl)).trans n1
  have q2 := (far 2 _ (.inr rfl)).trans n2
  have hrow2 : w2.ownsRow base 47 11 (.slice (some ⟨g, 0, none⟩) n cap) n (rowOf ts) := hrow1.drew.drew.kept hgr2 (.inr (by simp [Value.ownBlock]; exact hgb))
  have FAR := Lib.hid far
  clear far
  have HV := Lib.hid hv1
  clear hv1
  go_enter Tryz.func61, Tryz.ntmps61
  go_wp2_with fail
  have hv1 := HV.out
  rw [hv1]
  go_region
  go_wp2_with fail
  go_region
  go_wp2_with fail
  clear hlook' hupd' m0 m1 m2 m3 m4 m5 m6 m7 n0 n1 n2 hc0 hc1 hf0
  have HB : Boxes w.heap.size x0 x1 x2 x3 x4 x5 x6 x7 s A B an ac bm bd w2 := ⟨p0, p1, p2, p3, p4, p5, p6, p7, q0, q1, q2⟩
  clear p0 p1 p2 p3 p4 p5 p6 p7 q0 q1 q2
  refine wp_region_held_drew (S := Boxes w.heap.size x0 x1 x2 x3 x4 x5 x6 x7 s A B an ac bm bd) (by kernel_rfl) ?_ (fun hHeld => ?_)
  · exact HB
  have d3 : w2.drew.cell? ⟨p, 0, none⟩ = some (.map (some b)) := (hgr2.cell_far ⟨p, 0, none⟩ (by rw [hsz2]; simp; omega) (by simp; exact hpb)).trans ((hb1.cell (p := ⟨p, 0, none⟩) (by exact hpl)).trans hp0)
  have fz3 : ∀ j, w2.drew.frozen? ⟨p, j, none⟩ = false := fun j => (hgr2.frozen_far ⟨p, j, none⟩ (by rw [hsz2]; simp; omega) (by simp; exact hpb)).trans ((hb1.frozen (p := ⟨p, j, none⟩) (by exact hpl)).trans (hpf j))
  have K2 : Keeps p b g v1.drew.drew w2 := Keeps.grown hgr2 (.inl rfl)
  have K3 : Keeps p b g w w2.drew := (Keeps.below hb1).trans (show Keeps p b g v1 w2.drew from ⟨K2.os, K2.tape, K2.output, K2.size, K2.block⟩)
  clear K2
  have c3 : w2.drew.cell? ⟨p, 1, none⟩ = some (.slice (some ⟨g, 0, none⟩) n cap) := c2
  have f3 : w2.drew.frozen? ⟨p, 1, none⟩ = false := f2
  have row3 := hrow2.drew
  have map3 := hmap2.drew
  have size3 : w.heap.size + 1 + 1 ≤ w2.drew.heap.size := by rw [← hsz2]; exact hgr2.size
  have hgl : g < w.heap.size := hrow.lt g rfl |>.2
  obtain ⟨ti, z, hi, hz1, hz2, hs1, hbt⟩ := termInfo2
  have hby : (n + 1) * ti.bytes ≤ 140737488355328 := Nat.le_trans (Nat.mul_le_mul (show n + 1 ≤ 1000000 by omega) hbt) (by decide)
  clear c2 f2 hrow2 hmap2 HB
  generalize w2.drew = wd at *
  refine wpAnyH_take (i := 0) (oi := ⟨some 45, _, _, _, _, _⟩) (v := ?_) rfl (by kernel_rfl) (by kernel_rfl) (by kernel_rfl) (fun _ _ _ h => h) (Or.inl ⟨by rfl, ?_⟩) (by assumption) ?_
  rotate_left
  · intro w hSw
    (try dsimp only at hSw)
    unfold Boxes at hSw
    obtain ⟨h0, h1, h2, h3, h4, h5, h6, h7, h8, h9, h10⟩ := hSw
    go_simp
    try with_reducible rfl
  try simp only [Act.put, List.setIfInBounds_toArray, List.set_cons_zero, List.set_cons_succ]
  refine wpAnyH_take (i := 1) (oi := ⟨some 46, _, _, _, _, _⟩) (v := ?_) rfl (by kernel_rfl) (by kernel_rfl) (by kernel_rfl) (fun _ _ _ h => h) (Or.inl ⟨by rfl, ?_⟩) (by assumption) ?_
  rotate_left
  · intro w hSw
    (try dsimp only at hSw)
    unfold Boxes at hSw
    obtain ⟨h0, h1, h2, h3, h4, h5, h6, h7, h8, h9, h10⟩ := hSw
    go_simp
    try with_reducible rfl
  try simp only [Act.put, List.setIfInBounds_toArray, List.set_cons_zero, List.set_cons_succ]
  refine wpAnyH_take (i := 2) (oi := ⟨some 47, _, _, _, _, _⟩) (v := ?_) rfl (by kernel_rfl) (by kernel_rfl) (by kernel_rfl) (fun _ _ _ h => h) (Or.inl ⟨by rfl, ?_⟩) (by assumption) ?_
  rotate_left
  · intro w hSw
    (try dsimp only at hSw)
    unfold Boxes at hSw
    obtain ⟨h0, h1, h2, h3, h4, h5, h6, h7, h8, h9, h10⟩ := hSw
    go_simp
    try with_reducible rfl
  try simp only [Act.put, List.setIfInBounds_toArray, List.set_cons_zero, List.set_cons_succ]
  refine wpAnyH_take (i := 3) (oi := ⟨some 48, _, _, _, _, _⟩) (v := ?_) rfl (by kernel_rfl) (by kernel_rfl) (by kernel_rfl) (fun _ _ _ h => h) (Or.inl ⟨by rfl, ?_⟩) (by assumption) ?_
  rotate_left
  · intro w hSw
    (try dsimp only at hSw)
    unfold Boxes at hSw
    obtain ⟨h0, h1, h2, h3, h4, h5, h6, h7, h8, h9, h10⟩ := hSw
    go_simp
    try with_reducible rfl
  try simp only [Act.put, List.setIfInBounds_toArray, List.set_cons_zero, List.set_cons_succ]
  refine wpAnyH_take (i := 5) (oi := ⟨some 50, _, _, _, _, _⟩) (v := ?_) rfl (by kernel_rfl) (by kernel_rfl) (by kernel_rfl) (fun _ _ _ h => h) (Or.inl ⟨by rfl, ?_⟩) (by assumption) ?_
  rotate_left
  · intro w hSw
    (try dsimp only at hSw)
    unfold Boxes at hSw
    obtain ⟨h0, h1, h2, h3, h4, h5, h6, h7, h8, h9, h10⟩ := hSw
    go_simp
    try with_reducible rfl
  try simp only [Act.put, List.setIfInBounds_toArray, List.set_cons_zero, List.set_cons_succ]
  refine wpAnyH_take (i := 6) (oi := ⟨some 51, _, _, _, _, _⟩) (v := ?_) rfl (by kernel_rfl) (by kernel_rfl) (by kernel_rfl) (fun _ _ _ h => h) (Or.inl ⟨by rfl, ?_⟩) (by assumption) ?_
  rotate_left
  · intro w hSw
    (try dsimp only at hSw)
    unfold Boxes at hSw
    obtain ⟨h0, h1, h2, h3, h4, h5, h6, h7, h8, h9, h10⟩ := hSw
    go_simp
    try with_reducible rfl
  try simp only [Act.put, List.setIfInBounds_toArray, List.set_cons_zero, List.set_cons_succ]
  refine wpAnyH_take (i := 7) (oi := ⟨some 52, _, _, _, _, _⟩) (v := ?_) rfl (by kernel_rfl) (by kernel_rfl) (by kernel_rfl) (fun _ _ _ h => h) (Or.inl ⟨by rfl, ?_⟩) (by assumption) ?_
  rotate_left
  · intro w hSw
    (try dsimp only at hSw)
    unfold Boxes at hSw
    obtain ⟨h0, h1, h2, h3, h4, h5, h6, h7, h8, h9, h10⟩ := hSw
    go_simp
    try with_reducible rfl
  try simp only [Act.put, List.setIfInBounds_toArray, List.set_cons_zero, List.set_cons_succ]
  refine wpAnyH_ready (rs := [4, 8]) (by kernel_rfl) (by simp) ?_
  refine AllReadyH.cons (o := ⟨some 49, _, _, _, _, _⟩) rfl (fun K hK => ?_) ?_
  · go_simp; have HL := hHeld; refine hK.out _ _ HL (fun hHeld => ?_); clear hK K; try simp only [Act.put, List.setIfInBounds_toArray, List.set_cons_zero, List.set_cons_succ]
    refine wpAnyH_ready (rs := [8]) (by kernel_rfl) (by simp) ?_
    refine AllReadyH.cons (o := ⟨some 53, _, _, _, _, _⟩) rfl (fun K hK => ?_) AllReadyH.nil
    go_simp
    have HL := hHeld
    obtain ⟨w3, hv⟩ : ∃ v, wd.alloc (.cells #[.int .i64 x0, .int .i64 x1, .int .i64 x2, .int .i64 x3, .int .i64 x4, .int .i64 x5, .int .i64 x6, .int .i64 x7, .bool s, .slice A an ac, .slice B bm bd] 47) = v := ⟨_, rfl⟩
    have A3 := alloc_facts hv
    rw [hv]
    refine hK.out _ _ (HL.far (fun j k hk => A3.1 ⟨k, j, none⟩ (by simp; omega))) (fun hHeld => ?_); clear hK K HL
    try simp only [Act.put, List.setIfInBounds_toArray, List.set_cons_zero, List.set_cons_succ]
    have c4 : w3.cell? ⟨p, 1, none⟩ = some (.slice (some ⟨g, 0, none⟩) n cap) := (A3.1 ⟨p, 1, none⟩ (by simp; omega)).trans c3
    have f4 : w3.frozen? ⟨p, 1, none⟩ = false := (A3.2.1 ⟨p, 1, none⟩ (by simp; omega)).trans f3
    have d4 : w3.cell? ⟨p, 0, none⟩ = some (.map (some b)) := (A3.1 ⟨p, 0, none⟩ (by simp; omega)).trans d3
    have fz4 : ∀ j, w3.frozen? ⟨p, j, none⟩ = false := fun j => (A3.2.1 ⟨p, j, none⟩ (by simp; omega)).trans (fz3 j)
    have K4 : Keeps p b g w w3 := K3.trans (Keeps.below (hv ▸ (Below.refl _ wd).alloc (Nat.le_refl _) _))
    have row4 : w3.ownsRow base 47 11 (.slice (some ⟨g, 0, none⟩) n cap) n (rowOf ts) := hv ▸ row3.alloc _
    have hv3map := hv ▸ map3.alloc (.cells #[.int .i64 x0, .int .i64 x1, .int .i64 x2, .int .i64 x3, .int .i64 x4, .int .i64 x5, .int .i64 x6, .int .i64 x7, .bool s, .slice A an ac, .slice B bm bd] 47)
    have NEWS := A3.2.2.1
    have HS3 := A3.2.2.2
    have HV3 := Lib.hid hv
    clear hv A3
    refine wpAnyH_ready (rs := [9]) (by kernel_rfl) (by simp) ?_
    refine AllReadyH.cons (o := ⟨some 54, _, _, _, _, _⟩) rfl (fun K hK => ?_) AllReadyH.nil
    have HL := hHeld
    refine step_append_lies _ rfl _ _ 25 rfl base 47 ti z 11 ti.bytes Tryz.underlying25 hi hz1 hs1 rfl hz2 (by decide) (.slice (some ⟨g, 0, none⟩) n cap) n (rowOf ts) rfl row4 ⟨wd.heap.size, 0, none⟩ 1 1 [.int .i64 x0, .int .i64 x1, .int .i64 x2, .int .i64 x3, .int .i64 x4, .int .i64 x5, .int .i64 x6, .int .i64 x7, .bool s, .slice A an ac, .slice B bm bd] rfl rfl NEWS (by simp [Value.oneCell']) (by decide) (by simp [maxLen]; omega) hby (by omega) w3.heap.size rfl ?_
    intro g' cap' w4 hown hgrow hat hlt
    have far4 : ∀ a : Addr, a.block < w3.heap.size → a.block ≠ g → w4.cell? a = w3.cell? a := fun a h1 h2 => hgrow.cell_far a h1 (by simp [Value.ownBlock]; exact h2)
    have c5 : w4.cell? ⟨p, 1, none⟩ = some (.slice (some ⟨g, 0, none⟩) n cap) := (far4 ⟨p, 1, none⟩ (by simp; omega) (by simp; exact hpg)).trans c4
    have d5 : w4.cell? ⟨p, 0, none⟩ = some (.map (some b)) := (far4 ⟨p, 0, none⟩ (by simp; omega) (by simp; exact hpg)).trans d4
    have fz5 : ∀ j, w4.frozen? ⟨p, j, none⟩ = false := fun j => (hgrow.frozen_far ⟨p, j, none⟩ (by simp; omega) (by simp [Value.ownBlock]; exact hpg)).trans (fz4 j)
    have K5 : Keeps p b g w w4 := K4.trans (Keeps.grown hgrow (.inr rfl))
    have f5 : w4.frozen? ⟨p, 1, none⟩ = false := (hgrow.frozen_far ⟨p, 1, none⟩ (by simp; omega) (by simp [Value.ownBlock]; exact hpg)).trans f4
    refine hK.out _ _ (HL.far (fun j k hk => far4 ⟨k, j, none⟩ (by simp; omega) (by simp; omega))) (fun hHeld => ?_); clear hK K
    try simp only [Act.put, List.setIfInBounds_toArray, List.set_cons_zero, List.set_cons_succ]
    refine wpAnyH_take (i := 10) (oi := ⟨some 55, _, _, _, _, _⟩) (v := ?_) rfl (by kernel_rfl) (by kernel_rfl) (by kernel_rfl) (fun _ _ _ h => h) (Or.inl ⟨by rfl, ?_⟩) (by assumption) ?_
    rotate_left
    · intro w hSw
      go_simp
      try with_reducible rfl
    try simp only [Act.put, List.setIfInBounds_toArray, List.set_cons_zero, List.set_cons_succ]
    refine wpAnyH_take (i := 11) (oi := ⟨some 56, _, _, _, _, _⟩) (v := ?_) rfl (by kernel_rfl) (by kernel_rfl) (by kernel_rfl) (fun _ _ _ h => h) (Or.inl ⟨by rfl, ?_⟩) (by assumption) ?_
    rotate_left
    · intro w hSw
      go_simp
      try with_reducible rfl
    try simp only [Act.put, List.setIfInBounds_toArray, List.set_cons_zero, List.set_cons_succ]
    have HL5 := hHeld
    refine wpAnyH_ready (rs := [12]) (by kernel_rfl) (by simp) ?_
    refine AllReadyH.cons (o := ⟨none, _, _, _, _, _⟩) rfl (fun K hK => ?_) AllReadyH.nil
    go_simp
    refine hK.out _ _ (HL5.far (fun j k hk => World.cell?_setCell_other _ _ _ _ (by first | (simp; omega) | (simp; done) | omega))) (fun hHeld => ?_); clear hK K
    try simp only [Act.put, List.setIfInBounds_toArray, List.set_cons_zero, List.set_cons_succ]
    refine wpAnyH_done (by kernel_rfl) ?_ _
    have map4 := (hv3map.kept hgrow (by simp [Value.ownBlock]; exact fun h => hgb h.symm))
    have hgp : g' ≠ p := by
      rcases hat with h | h
      · simp [Value.ownBlock] at h; omega
      · omega
    have PM := map4.setCell (a := ⟨p, 1, none⟩) (by simp; omega) (.slice (some ⟨g', 0, none⟩) (n + 1) cap')
    have PR := ownsRow_setCell_other hown (a := ⟨p, 1, none⟩) (by simp [Value.ownBlock]; exact hgp) (.slice (some ⟨g', 0, none⟩) (n + 1) cap')
    clear hHeld HL5 HL
    go_wp2_with fail
    refine bodyPost_ret (v := .bool true) (by simp [results, Tryz.results61, go_sem]) rfl ⟨rfl, ?_, g', cap', ?_, ?_, PM, PR, ?_, K5.trans (Keeps.set _ _)⟩
    · go_simp
    · go_simp
    · intro j; have := fz5 j; go_simp
    · rcases hat with h | h
      · simp [Value.ownBlock] at h; exact .inl h.symm
      · exact .inr (by omega)
  refine AllReadyH.cons (o := ⟨some 53, _, _, _, _, _⟩) rfl (fun K hK => ?_) AllReadyH.nil
  go_simp
  have HL := hHeld
  obtain ⟨w3, hv⟩ : ∃ v, wd.alloc (.cells #[.int .i64 x0, .int .i64 x1, .int .i64 x2, .int .i64 x3, .int .i64 x4, .int .i64 x5, .int .i64 x6, .int .i64 x7, .bool s, .slice A an ac, .slice B bm bd] 47) = v := ⟨_, rfl⟩
  have A3 := alloc_facts hv
  rw [hv]
  refine hK.out _ _ (HL.far (fun j k hk => A3.1 ⟨k, j, none⟩ (by simp; omega))) (fun hHeld => ?_); clear hK K HL
  try simp only [Act.put, List.setIfInBounds_toArray, List.set_cons_zero, List.set_cons_succ]
  have c4 : w3.cell? ⟨p, 1, none⟩ = some (.slice (some ⟨g, 0, none⟩) n cap) := (A3.1 ⟨p, 1, none⟩ (by simp; omega)).trans c3
  have f4 : w3.frozen? ⟨p, 1, none⟩ = false := (A3.2.1 ⟨p, 1, none⟩ (by simp; omega)).trans f3
  have d4 : w3.cell? ⟨p, 0, none⟩ = some (.map (some b)) := (A3.1 ⟨p, 0, none⟩ (by simp; omega)).trans d3
  have fz4 : ∀ j, w3.frozen? ⟨p, j, none⟩ = false := fun j => (A3.2.1 ⟨p, j, none⟩ (by simp; omega)).trans (fz3 j)
  have K4 : Keeps p b g w w3 := K3.trans (Keeps.below (hv ▸ (Below.refl _ wd).alloc (Nat.le_refl _) _))
  have row4 : w3.ownsRow base 47 11 (.slice (some ⟨g, 0, none⟩) n cap) n (rowOf ts) := hv ▸ row3.alloc _
  have hv3map := hv ▸ map3.alloc (.cells #[.int .i64 x0, .int .i64 x1, .int .i64 x2, .int .i64 x3, .int .i64 x4, .int .i64 x5, .int .i64 x6, .int .i64 x7, .bool s, .slice A an ac, .slice B bm bd] 47)
  have NEWS := A3.2.2.1
  have HS3 := A3.2.2.2
  have HV3 := Lib.hid hv
  clear hv A3
  refine wpAnyH_ready (rs := [4]) (by kernel_rfl) (by simp) ?_
  refine AllReadyH.cons (o := ⟨some 49, _, _, _, _, _⟩) rfl (fun K hK => ?_) AllReadyH.nil
  go_simp; have HL := hHeld; refine hK.out _ _ HL (fun hHeld => ?_); clear hK K; try simp only [Act.put, List.setIfInBounds_toArray, List.set_cons_zero, List.set_cons_succ]
  refine wpAnyH_ready (rs := [9]) (by kernel_rfl) (by simp) ?_
  refine AllReadyH.cons (o := ⟨some 54, _, _, _, _, _⟩) rfl (fun K hK => ?_) AllReadyH.nil
  have HL := hHeld
  refine step_append_lies _ rfl _ _ 25 rfl base 47 ti z 11 ti.bytes Tryz.underlying25 hi hz1 hs1 rfl hz2 (by decide) (.slice (some ⟨g, 0, none⟩) n cap) n (rowOf ts) rfl row4 ⟨wd.heap.size, 0, none⟩ 1 1 [.int .i64 x0, .int .i64 x1, .int .i64 x2, .int .i64 x3, .int .i64 x4, .int .i64 x5, .int .i64 x6, .int .i64 x7, .bool s, .slice A an ac, .slice B bm bd] rfl rfl NEWS (by simp [Value.oneCell']) (by decide) (by simp [maxLen]; omega) hby (by omega) w3.heap.size rfl ?_
  intro g' cap' w4 hown hgrow hat hlt
  have far4 : ∀ a : Addr, a.block < w3.heap.size → a.block ≠ g → w4.cell? a = w3.cell? a := fun a h1 h2 => hgrow.cell_far a h1 (by simp [Value.ownBlock]; exact h2)
  have c5 : w4.cell? ⟨p, 1, none⟩ = some (.slice (some ⟨g, 0, none⟩) n cap) := (far4 ⟨p, 1, none⟩ (by simp; omega) (by simp; exact hpg)).trans c4
  have d5 : w4.cell? ⟨p, 0, none⟩ = some (.map (some b)) := (far4 ⟨p, 0, none⟩ (by simp; omega) (by simp; exact hpg)).trans d4
  have fz5 : ∀ j, w4.frozen? ⟨p, j, none⟩ = false := fun j => (hgrow.frozen_far ⟨p, j, none⟩ (by simp; omega) (by simp [Value.ownBlock]; exact hpg)).trans (fz4 j)
  have K5 : Keeps p b g w w4 := K4.trans (Keeps.grown hgrow (.inr rfl))
  have f5 : w4.frozen? ⟨p, 1, none⟩ = false := (hgrow.frozen_far ⟨p, 1, none⟩ (by simp; omega) (by simp [Value.ownBlock]; exact hpg)).trans f4
  refine hK.out _ _ (HL.far (fun j k hk => far4 ⟨k, j, none⟩ (by simp; omega) (by simp; omega))) (fun hHeld => ?_); clear hK K
  try simp only [Act.put, List.setIfInBounds_toArray, List.set_cons_zero, List.set_cons_succ]
  refine wpAnyH_take (i := 10) (oi := ⟨some 55, _, _, _, _, _⟩) (v := ?_) rfl (by kernel_rfl) (by kernel_rfl) (by kernel_rfl) (fun _ _ _ h => h) (Or.inl ⟨by rfl, ?_⟩) (by assumption) ?_
  rotate_left
  · intro w hSw
    go_simp
    try with_reducible rfl
  try simp only [Act.put, List.setIfInBounds_toArray, List.set_cons_zero, List.set_cons_succ]
  refine wpAnyH_take (i := 11) (oi := ⟨some 56, _, _, _, _, _⟩) (v := ?_) rfl (by kernel_rfl) (by kernel_rfl) (by kernel_rfl) (fun _ _ _ h => h) (Or.inl ⟨by rfl, ?_⟩) (by assumption) ?_
  rotate_left
  · intro w hSw
    go_simp
    try with_reducible rfl
  try simp only [Act.put, List.setIfInBounds_toArray, List.set_cons_zero, List.set_cons_succ]
  have HL5 := hHeld
  refine wpAnyH_ready (rs := [12]) (by kernel_rfl) (by simp) ?_
  refine AllReadyH.cons (o := ⟨none, _, _, _, _, _⟩) rfl (fun K hK => ?_) AllReadyH.nil
  go_simp
  refine hK.out _ _ (HL5.far (fun j k hk => World.cell?_setCell_other _ _ _ _ (by first | (simp; omega) | (simp; done) | omega))) (fun hHeld => ?_); clear hK K
  try simp only [Act.put, List.setIfInBounds_toArray, List.set_cons_zero, List.set_cons_succ]
  refine wpAnyH_done (by kernel_rfl) ?_ _
  have map4 := (hv3map.kept hgrow (by simp [Value.ownBlock]; exact fun h => hgb h.symm))
  have hgp : g' ≠ p := by
    rcases hat with h | h
    · simp [Value.ownBlock] at h; omega
    · omega
  have PM := map4.setCell (a := ⟨p, 1, none⟩) (by simp; omega) (.slice (some ⟨g', 0, none⟩) (n + 1) cap')
  have PR := ownsRow_setCell_other hown (a := ⟨p, 1, none⟩) (by simp [Value.ownBlock]; exact hgp) (.slice (some ⟨g', 0, none⟩) (n + 1) cap')
  clear hHeld HL5 HL
  go_wp2_with fail
  refine bodyPost_ret (v := .bool true) (by simp [results, Tryz.results61, go_sem]) rfl ⟨rfl, ?_, g', cap', ?_, ?_, PM, PR, ?_, K5.trans (Keeps.set _ _)⟩
  · go_simp
  · go_simp
  · intro j; have := fz5 j; go_simp
  · rcases hat with h | h
    · simp [Value.ownBlock] at h; exact .inl h.symm
    · exact .inr (by omega)
end Go.Proofs.YtebbnmjmjoklmaaGreatDoor

namespace Go.Proofs.YtebbnmjmjoklmaaGreatDoor
open Go Go.RowKit Go.WideMaps
set_option maxRecDepth 20000

/-- Limbs whose block is as it was. -/
theorem Rd.apart {w w' : World} {A : Option Addr} {n c : Nat} {L : List Int} (h : Rd w A n c L) (hs : w.heap.size ≤ w'.heap.size) (hk : 0 < n → ∀ a, A = some a → w'.heap[a.block]? = w.heap[a.block]?) : Rd w' A n c L :=
  ⟨h.len, h.lims, h.cap, h.top, fun hn => by
    obtain ⟨ad, e, hb, hc⟩ := h.at_ hn
    exact ⟨ad, e, Nat.lt_of_lt_of_le hb hs, fun i hi => (World.cell?_of_block (w := w) (by rw [addr_block]; exact hk hn ad e)).trans (hc i hi)⟩⟩
theorem Nrm.apart {w w' : World} {A : Option Addr} {n c : Nat} {x : Int} (h : Nrm w A n c x) (hs : w.heap.size ≤ w'.heap.size) (hk : 0 < n → ∀ a, A = some a → w'.heap[a.block]? = w.heap[a.block]?) : Nrm w' A n c x := by
  obtain ⟨L, h1, h2⟩ := h
  exact ⟨L, h1.apart hs hk, h2⟩
theorem Num.apart {w w' : World} {A : Option Addr} {n c : Nat} {x : Int} (h : Num w A n c x) (hs : w.heap.size ≤ w'.heap.size) (hk : 0 < n → ∀ a, A = some a → w'.heap[a.block]? = w.heap[a.block]?) : Num w' A n c x := by
  obtain ⟨L, h1, h2⟩ := h
  exact ⟨L, h1.apart hs hk, h2⟩
/-- All limbs of a term's coefficient lie in blocks of P. -/
def Tm.lies (t : Tm) (P : Nat → Prop) : Prop := (0 < t.n → ∀ a, t.A = some a → P a.block) ∧ (0 < t.m → ∀ a, t.B = some a → P a.block)
theorem Tm.lies.mono {t : Tm} {P Q : Nat → Prop} (h : t.lies P) (hP : ∀ b, P b → Q b) : t.lies Q := ⟨fun hn a ha => hP _ (h.1 hn a ha), fun hn a ha => hP _ (h.2 hn a ha)⟩
theorem Tm.lies.and {t : Tm} {P Q : Nat → Prop} (h : t.lies P) (h' : t.lies Q) : t.lies fun b => P b ∧ Q b := ⟨fun hn a ha => ⟨h.1 hn a ha, h'.1 hn a ha⟩, fun hn a ha => ⟨h.2 hn a ha, h'.2 hn a ha⟩⟩
/-- The coefficient in normal form; the coefficient in any form. -/
def Tm.rn (t : Tm) (w : World) (q : Rat) (k : Nat) : Prop := RN w t.s t.A t.n t.c t.B t.m t.d q k
def Tm.loose (t : Tm) (w : World) (q : Rat) (k : Nat) : Prop := Loose w t.s t.A t.n t.c t.B t.m t.d q k
theorem Tm.rn.loose {t : Tm} {w : World} {q : Rat} {k : Nat} (h : t.rn w q k) : t.loose w q k := RN.loose h
theorem Tm.rn.old {t : Tm} {w : World} {q : Rat} {k : Nat} (h : t.rn w q k) : t.lies (· < w.heap.size) := ⟨h.2.1.old, h.2.2.1.old⟩
theorem Tm.loose.old {t : Tm} {w : World} {q : Rat} {k : Nat} (h : t.loose w q k) : t.lies (· < w.heap.size) := by
  obtain ⟨x, y, h1, h2, _⟩ := h
  exact ⟨h1.old, h2.old⟩
theorem Tm.rn.apart {t : Tm} {w w' : World} {q : Rat} {k : Nat} (h : t.rn w q k) (hs : w.heap.size ≤ w'.heap.size) (hk : t.lies fun b => w'.heap[b]? = w.heap[b]?) : t.rn w' q k :=
  ⟨h.1, h.2.1.apart hs hk.1, h.2.2.1.apart hs hk.2, h.2.2.2⟩
theorem Tm.loose.apart {t : Tm} {w w' : World} {q : Rat} {k : Nat} (h : t.loose w q k) (hs : w.heap.size ≤ w'.heap.size) (hk : t.lies fun b => w'.heap[b]? = w.heap[b]?) : t.loose w' q k := by
  obtain ⟨x, y, h1, h2, h3⟩ := h
  exact ⟨x, y, h1.apart hs hk.1, h2.apart hs hk.2, h3⟩
theorem Tm.rn.mono {t : Tm} {w : World} {q : Rat} {k j : Nat} (h : t.rn w q k) (hk : k ≤ j) : t.rn w q j := RN.mono h hk
theorem Tm.loose.mono {t : Tm} {w : World} {q : Rat} {k j : Nat} (h : t.loose w q k) (hk : k ≤ j) : t.loose w q j := Loose.mono h hk
theorem Tm.rn.below {t : Tm} {w w' : World} {q : Rat} {k : Nat} (h : t.rn w q k) (hb : Below w.heap.size w w') : t.rn w' q k := RN.below h hb
theorem Tm.loose.below {t : Tm} {w w' : World} {q : Rat} {k : Nat} (h : t.loose w q k) (hb : Below w.heap.size w w') : t.loose w' q k := Loose.below h hb
theorem Off.lies {base : Nat} {t : Tm} (h : Off base t.A) (h' : Off base t.B) : t.lies (base ≤ ·) := ⟨fun _ a ha => h a ha, fun _ a ha => h' a ha⟩

/-- A term with what its coefficient denotes. -/
abbrev Tq := Tm × Rat
def tms (cs : List Tq) : List Tm := cs.map Prod.fst
def trms (cs : List Tq) : List Trm := cs.map fun x => (x.1.L, x.2)
def mons (cs : List Tq) : List Mon := cs.map fun x => x.1.L
theorem tms_append (cs ds : List Tq) : tms (cs ++ ds) = tms cs ++ tms ds := List.map_append
theorem trms_append (cs ds : List Tq) : trms (cs ++ ds) = trms cs ++ trms ds := List.map_append
theorem mons_append (cs ds : List Tq) : mons (cs ++ ds) = mons cs ++ mons ds := List.map_append
theorem mons_tms (cs : List Tq) : (tms cs).map Tm.L = mons cs := by unfold tms mons; rw [List.map_map]; rfl
theorem tms_length (cs : List Tq) : (tms cs).length = cs.length := List.length_map ..
theorem mons_length (cs : List Tq) : (mons cs).length = cs.length := List.length_map ..
theorem lin_set {cs : List Tq} {i : Nat} {x y : Tq} (h : cs[i]? = some x) (hL : y.1.L = x.1.L) (q : Rat) (hq : y.2 = x.2 + q) (f : Mon → Rat) : lin (trms (cs.set i y)) f = lin (trms cs ++ [(x.1.L, q)]) f := by
  induction cs generalizing i with
  | nil => simp at h
  | cons c cs ih =>
    cases i with
    | zero =>
      simp only [List.getElem?_cons_zero, Option.some.injEq] at h
      subst h
      show lin ((y.1.L, y.2) :: trms cs) f = lin ((c.1.L, c.2) :: (trms cs ++ [(c.1.L, q)])) f
      rw [lin_cons, lin_cons, lin_append, lin_cons, lin_nil, hL, hq, Rat.add_mul, Rat.add_zero, Rat.add_assoc, Rat.add_comm (q * f c.1.L)]
    | succ i =>
      have := ih (i := i) (by simpa using h)
      show lin ((c.1.L, c.2) :: trms (cs.set i y)) f = lin ((c.1.L, c.2) :: (trms cs ++ [(x.1.L, q)])) f
      rw [lin_cons, lin_cons, this]
theorem mons_set {cs : List Tq} {i : Nat} {x y : Tq} (h : cs[i]? = some x) (hL : y.1.L = x.1.L) : mons (cs.set i y) = mons cs := by
  induction cs generalizing i with
  | nil => simp at h
  | cons c cs ih =>
    cases i with
    | zero =>
      simp only [List.getElem?_cons_zero, Option.some.injEq] at h
      subst h
      show y.1.L :: mons cs = c.1.L :: mons cs
      rw [hL]
    | succ i =>
      show c.1.L :: mons (cs.set i y) = c.1.L :: mons cs
      rw [ih (by simpa using h)]
theorem tms_set (cs : List Tq) (i : Nat) (y : Tq) : tms (cs.set i y) = (tms cs).set i y.1 := by unfold tms; rw [List.map_set]
theorem trms_filter (cs : List Tq) : trms (cs.filter fun x => !decide (x.2 = 0)) = (trms cs).filter fun t => !decide (t.2 = 0) := by
  unfold trms; rw [List.filter_map]; rfl
theorem mlt_asymm {a b : Mon} (h : mlt a b = true) : mlt b a = false := by
  cases h' : mlt b a with
  | false => rfl
  | true => have := mlt_trans h h'; rw [mlt_irrefl] at this; cases this
/-- No monomial less than an earlier.. sorted, none twice, none zero: a normal form. -/
theorem norml_of_sorted {cs : List Tq} (hs : cs.Pairwise fun x y => mlt x.1.L y.1.L = false) (hn : (mons cs).Nodup) (hz : ∀ x ∈ cs, x.2 ≠ 0) : Norml (trms cs) := by
  refine ⟨?_, ?_⟩
  · unfold trms
    rw [List.pairwise_map]
    have hn' : cs.Pairwise fun x y => x.1.L ≠ y.1.L := by
      unfold mons List.Nodup at hn
      rwa [List.pairwise_map] at hn
    refine (hs.and hn').imp ?_
    rintro x y ⟨h1, h2⟩
    rcases mlt_tri y.1.L x.1.L with h | h | h
    · exact h
    · exact absurd h.symm h2
    · rw [h] at h1; cases h1
  · intro t ht
    obtain ⟨x, hx, rfl⟩ := List.mem_map.1 ht
    exact hz x hx
/-- Eight exponents from 0 to E. -/
def MonoE (E : Int) (L : List Int) : Prop := L.length = 8 ∧ ∀ x ∈ L, 0 ≤ x ∧ x ≤ E
theorem MonoE.mono8 {E : Int} {L : List Int} (h : MonoE E L) (hE : E ≤ 1000000000) : Mono8 L := ⟨h.1, fun x hx => by have := h.2 x hx; unfold Expo; omega⟩
theorem MonoE.le {E F : Int} {L : List Int} (h : MonoE E L) (hE : E ≤ F) : MonoE F L := ⟨h.1, fun x hx => by have := h.2 x hx; omega⟩
theorem MonoE.add {E F : Int} {L M : List Int} (h : MonoE E L) (h' : MonoE F M) : MonoE (E + F) (madd L M) := by
  obtain ⟨x0, x1, x2, x3, x4, x5, x6, x7, rfl⟩ := eight h.1
  obtain ⟨y0, y1, y2, y3, y4, y5, y6, y7, rfl⟩ := eight h'.1
  have hx := h.2
  have hy := h'.2
  simp only [List.mem_cons, List.not_mem_nil, or_false, forall_eq_or_imp, forall_eq] at hx hy
  refine ⟨rfl, ?_⟩
  show ∀ x ∈ [x0 + y0, x1 + y1, x2 + y2, x3 + y3, x4 + y4, x5 + y5, x6 + y6, x7 + y7], _
  simp only [List.mem_cons, List.not_mem_nil, or_false, forall_eq_or_imp, forall_eq]
  omega

/-- The sum at p holds the terms cs: its map (block b) has their places, its row (block g) their cells; their coefficients are in normal form and lie in other blocks. All its blocks lie at base or above. -/
structure SumAt (w : World) (base p b g cap : Nat) (D : DataW Unit) (cs : List Tq) (k : Nat) (E : Int) : Prop where
  cell0 : w.cell? ⟨p, 0, none⟩ = some (.map (some b))
  cell1 : w.cell? ⟨p, 1, none⟩ = some (.slice (some ⟨g, 0, none⟩) cs.length cap)
  free : ∀ j, w.frozen? ⟨p, j, none⟩ = false
  map : w.ownsMap Tryz.prog 45 (plainElem Tryz.prog 3) b cs.length D
  places : Places D (mons cs)
  row : w.ownsRow base 47 11 (.slice (some ⟨g, 0, none⟩) cs.length cap) cs.length (rowOf (tms cs))
  mono : ∀ x ∈ cs, MonoE E x.1.L
  nodup : (mons cs).Nodup
  coef : ∀ x ∈ cs, x.1.rn w x.2 k ∧ x.1.lies fun i => i ≠ p ∧ i ≠ b ∧ i ≠ g
  lt : p < w.heap.size
  pb : p ≠ b
  gb : g ≠ b
  pg : p ≠ g
  basep : base ≤ p
  baseb : base ≤ b
  baseg : base ≤ g
/-- The same, for some blocks. -/
def SumIs (w : World) (base p : Nat) (cs : List Tq) (k : Nat) (E : Int) : Prop := ∃ b g cap D, SumAt w base p b g cap D cs k E

theorem Keeps.below_base {p b g base : Nat} {w w' : World} (h : Keeps p b g w w') (hp : base ≤ p) (hb : base ≤ b) (hg : base ≤ g) (hw : base ≤ w.heap.size) : Below base w w' :=
  ⟨h.os, h.tape, h.output, h.size, fun k hk => h.block k (by omega) (by omega) (by omega) (by omega)⟩
theorem Tm.rn.keeps {t : Tm} {p b g : Nat} {w w' : World} {q : Rat} {k : Nat} (h : t.rn w q k) (hk : Keeps p b g w w') (hl : t.lies fun i => i ≠ p ∧ i ≠ b ∧ i ≠ g) : t.rn w' q k :=
  h.apart hk.size ((h.old.and hl).mono fun i hi => hk.block i hi.1 hi.2.1 hi.2.2.1 hi.2.2.2)
theorem Tm.lies.reown {t : Tm} {p b g g' h : Nat} (hl : t.lies fun i => i ≠ p ∧ i ≠ b ∧ i ≠ g) (ho : t.lies (· < h)) (hg : g' = g ∨ h ≤ g') : t.lies fun i => i ≠ p ∧ i ≠ b ∧ i ≠ g' :=
  (hl.and ho).mono fun i hi => ⟨hi.1.1, hi.1.2.1, by rcases hg with rfl | hg; exact hi.1.2.2; have := hi.2; omega⟩

/-- A new monomial is added. -/
theorem SumAt.new {w : World} {base p b g cap k : Nat} {E : Int} {D : DataW Unit} {cs : List Tq} {t : Tm} {q : Rat} (h : SumAt w base p b g cap D cs k E) (hE : E ≤ 1000000000) (hM : MonoE E t.L) (hin : t.L ∉ mons cs) (hc : t.rn w q k) (hl : t.lies fun i => i ≠ p ∧ i ≠ b ∧ i ≠ g) (hn : cs.length < 1000000) :
    Calls Tryz.prog 61 #[.pointer (some ⟨p, 0, none⟩), monV t.L, .agg #[.bool t.s, .slice t.A t.n t.c, .slice t.B t.m t.d]] w fun e w' => e = .returned (.bool true) ∧ Keeps p b g w w' ∧
      ∃ g' cap', (g' = g ∨ w.heap.size ≤ g') ∧ SumAt w' base p b g' cap' (D.put (keyLit t.L) (.lit (.int .i64 (cs.length : Int)))) (cs ++ [(t, q)]) k E := by
  have hw : base ≤ w.heap.size := by have := h.basep; have := h.lt; omega
  refine (sumAdd_new h.cell0 h.cell1 h.free h.map (by rw [mons_tms]; exact h.places) (hM.mono8 hE) h.row h.lt (by rw [mons_tms]; exact hin) hn hn h.pb h.gb h.pg hw).mono ?_
  rintro e w' ⟨rfl, g', cap', c0, c1, fr, mp, rw', hg', K⟩
  refine ⟨rfl, K, g', cap', hg', ?_⟩
  have hlen : (cs ++ [(t, q)]).length = cs.length + 1 := by simp
  refine ⟨c0, by rw [hlen]; exact c1, fr, by rw [hlen]; exact mp, ?_, ?_, ?_, ?_, ?_, Nat.lt_of_lt_of_le h.lt K.size, h.pb, ?_, ?_, h.basep, h.baseb, ?_⟩
  · have := h.places.push (hM.mono8 hE) hin
    rw [mons_length] at this
    rw [mons_append]; exact this
  · rw [hlen, tms_append, show tms [(t, q)] = [t] from rfl, rowOf_push]; exact rw'
  · intro x hx
    rcases List.mem_append.1 hx with hx | hx
    · exact h.mono x hx
    · rw [List.mem_singleton.1 hx]; exact hM
  · rw [mons_append]
    refine List.nodup_append.2 ⟨h.nodup, by simp [mons], ?_⟩
    intro a ha b hb e
    rw [e, List.mem_singleton.1 hb] at ha
    exact hin ha
  · intro x hx
    rcases List.mem_append.1 hx with hx | hx
    · have hx' := h.coef x hx
      exact ⟨hx'.1.keeps K hx'.2, hx'.2.reown hx'.1.old hg'⟩
    · rw [List.mem_singleton.1 hx]
      exact ⟨Tm.rn.keeps hc K hl, hl.reown hc.old hg'⟩
  · rcases hg' with rfl | hg'
    · exact h.gb
    · have := h.map.lt; omega
  · rcases hg' with rfl | hg'
    · exact h.pg
    · have := h.lt; omega
  · rcases hg' with rfl | hg'
    · exact h.baseg
    · omega
theorem belowGrew {w w' : World} (hb : Below w.heap.size w w') : w.grownBy w' none := ⟨hb.os, hb.tape, hb.output, hb.size, fun k hk _ => hb.block k hk⟩
theorem SumAt.below {w w' : World} {base p b g cap k : Nat} {E : Int} {D : DataW Unit} {cs : List Tq} (h : SumAt w base p b g cap D cs k E) (hb : Below w.heap.size w w') : SumAt w' base p b g cap D cs k E :=
  { h with
    cell0 := (hb.cell (p := ⟨p, 0, none⟩) h.lt).trans h.cell0
    cell1 := (hb.cell (p := ⟨p, 1, none⟩) h.lt).trans h.cell1
    free := fun j => (hb.frozen (p := ⟨p, j, none⟩) h.lt).trans (h.free j)
    map := h.map.kept (belowGrew hb) (fun e => by cases e)
    row := h.row.kept (belowGrew hb) (.inr (fun e => by cases e))
    coef := fun x hx => ⟨(h.coef x hx).1.below hb, (h.coef x hx).2⟩
    lt := Nat.lt_of_lt_of_le h.lt hb.size }
theorem SumIs.below {w w' : World} {base p k : Nat} {E : Int} {cs : List Tq} (h : SumIs w base p cs k E) (hb : Below w.heap.size w w') : SumIs w' base p cs k E := by
  obtain ⟨b, g, cap, D, h⟩ := h
  exact ⟨b, g, cap, D, h.below hb⟩
theorem SumIs.mono {w : World} {base p k j : Nat} {E F : Int} {cs : List Tq} (h : SumIs w base p cs k E) (hk : k ≤ j) (hE : E ≤ F) : SumIs w base p cs j F := by
  obtain ⟨b, g, cap, D, h⟩ := h
  exact ⟨b, g, cap, D, { h with coef := fun x hx => ⟨(h.coef x hx).1.mono hk, (h.coef x hx).2⟩, mono := fun x hx => (h.mono x hx).le hE }⟩
end Go.Proofs.YtebbnmjmjoklmaaGreatDoor
