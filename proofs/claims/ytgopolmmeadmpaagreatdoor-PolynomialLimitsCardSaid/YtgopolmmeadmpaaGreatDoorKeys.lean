/-
  slices.Compare over two rows of ints of one length: the lexicographic order.
  polynomial.monoProduct: the product of two monomials.
  (polynomial.order).compare: terms by their monomials, the greater one first.
  Monomials as keys of a map.
-/
import Derived.Test.YtgopolmmeadmpaaGreatDoorPoly
import Derived.Test.YtgopolmmeadmpaaGreatDoorRatCmp
import Derived.Deep.RegionWith
import Derived.Maps.OwnSet
import Derived.DeepKeys4
namespace Go.Proofs.YtgopolmmeadmpaaGreatDoor
open Go.RowKit
set_option maxRecDepth 20000

/-- The comparison of two lists. -/
def cmpL : List Int → List Int → Int
  | [], [] => 0
  | [], _ :: _ => -1
  | _ :: _, [] => 1
  | x :: a, y :: b => if x < y then -1 else if y < x then 1 else cmpL a b
theorem cmpL_mlt : ∀ {a b : List Int}, a.length = b.length → (cmpL a b < 0 ↔ mlt a b = true)
  | [], [], _ => by simp [cmpL, mlt]
  | [], _ :: _, h => by simp at h
  | _ :: _, [], h => by simp at h
  | x :: a, y :: b, h => by
    unfold cmpL mlt
    by_cases h1 : x < y
    · simp [h1]
    · by_cases h2 : y < x
      · rw [if_neg h1, if_pos h2]
        simp [h1]; intro e; omega
      · rw [if_neg h1, if_neg h2]
        have e : x = y := by omega
        simp [e]
        exact cmpL_mlt (by simpa using h)
theorem cmpL_eq : ∀ {a b : List Int}, a.length = b.length → (cmpL a b = 0 ↔ a = b)
  | [], [], _ => by simp [cmpL]
  | [], _ :: _, h => by simp at h
  | _ :: _, [], h => by simp at h
  | x :: a, y :: b, h => by
    unfold cmpL
    by_cases h1 : x < y
    · rw [if_pos h1]; simp; intro e; omega
    · by_cases h2 : y < x
      · rw [if_neg h1, if_pos h2]; simp; intro e; omega
      · rw [if_neg h1, if_neg h2, cmpL_eq (by simpa using h)]
        have e : x = y := by omega
        simp [e]
theorem cmpL_swap : ∀ {a b : List Int}, a.length = b.length → cmpL b a = -cmpL a b
  | [], [], _ => rfl
  | [], _ :: _, h => by simp at h
  | _ :: _, [], h => by simp at h
  | x :: a, y :: b, h => by
    unfold cmpL
    by_cases h1 : x < y
    · rw [if_pos h1, if_neg (by omega), if_pos h1]; rfl
    · by_cases h2 : y < x
      · rw [if_pos h2, if_neg h1, if_pos h2]
      · rw [if_neg h2, if_neg h1, if_neg h1, if_neg h2]
        exact cmpL_swap (by simpa using h)
theorem cmpL_step {L M : List Int} {i : Nat} (hi : i < L.length) (hj : i < M.length) :
    cmpL (L.drop i) (M.drop i) = if L.getD i 0 < M.getD i 0 then -1 else if M.getD i 0 < L.getD i 0 then 1 else cmpL (L.drop (i + 1)) (M.drop (i + 1)) := by
  rw [List.drop_eq_getElem_cons hi, List.drop_eq_getElem_cons hj]
  simp [cmpL, List.getD_eq_getElem?_getD, List.getElem?_eq_getElem hi, List.getElem?_eq_getElem hj]
/-- A row of ints. -/
def IntRow (w : World) (b o : Nat) (L : List Int) : Prop := ∀ i, i < L.length → w.cell? ⟨b, o + i, none⟩ = some (.int .i64 (L.getD i 0))

set_option maxHeartbeats 1000000 in
theorem sCompare (b o b' o' n c c' : Nat) (L M : List Int) (w : World) (h : IntRow w b o L) (h' : IntRow w b' o' M) (hn : L.length = n) (hm : M.length = n) (hn8 : n ≤ 1000) (hc : n ≤ c) (hc' : n ≤ c') :
    Calls Tryz.prog 75 #[.slice (some ⟨b, o, none⟩) n c, .slice (some ⟨b', o', none⟩) n c'] w fun e w' => e = .returned (.int .i64 (cmpL L M)) ∧ w = w' := by
  obtain ⟨R, hR⟩ : ∃ R, cmpL L M = R := ⟨_, rfl⟩
  rw [hR]
  have HR := Lib.hid hR
  clear hR
  go_enter Tryz.func75, Tryz.ntmps75
  go_wp2
  go_loop [11] (fun iv => ∃ i : Nat, i ≤ n ∧ iv = .int .i64 i ∧ Hid (cmpL (L.drop i) (M.drop i) = R)) (fun iv => n - (intOf iv).toNat)
  case atStart => exact ⟨0, Nat.zero_le _, rfl, HR.out⟩
  case round =>
    obtain ⟨i, hi, rfl, hI⟩ := hrel
    by_cases hlt : i < n
    · have h1 := h i (by omega)
      have h2 := h' i (by omega)
      have hs := cmpL_step (L := L) (M := M) (i := i) (by omega) (by omega)
      rw [hI.out] at hs
      generalize L.getD i 0 = x at h1 hs
      generalize M.getD i 0 = y at h2 hs
      have hi2 : (i : Int) < n := by omega
      have hi3 : ¬ (n : Int) ≤ i := by omega
      have HS := Lib.hid hs
      clear hs hI
      go_wp2_with fail
      refine (compare_any x y w).mono ?_
      rintro e w' ⟨rfl, rfl⟩
      by_cases hx : x < y
      · rw [cmpZ_lt hx]
        have hf : R = -1 := by have := HS.out; rw [if_pos hx] at this; exact this
        subst hf
        clear HS hx
        go_wp2
        go_ret
        exact ⟨rfl, rfl⟩
      · by_cases hy : y < x
        · rw [cmpZ_gt hy]
          have hf : R = 1 := by have := HS.out; rw [if_neg hx, if_pos hy] at this; exact this
          subst hf
          clear HS hx hy
          go_wp2
          go_ret
          exact ⟨rfl, rfl⟩
        · rw [cmpZ_eq (a := x) (b := y) (by omega)]
          have hnext : Hid (cmpL (L.drop (i + 1)) (M.drop (i + 1)) = R) := by
            show _ = _
            have := HS.out
            rw [if_neg hx, if_neg hy] at this
            exact this.symm
          clear HS hx hy
          go_wp2
          go_round
          case rel => exact ⟨i + 1, by omega, by go_num, hnext⟩
          case measure => simp [intOf] <;> omega
    · obtain rfl : i = n := by omega
      have hf : R = 0 := by
        have := hI.out
        rw [List.drop_of_length_le (by omega), List.drop_of_length_le (by omega)] at this
        exact this.symm
      subst hf
      clear hI hlt hi h h'
      go_wp2
      go_ret
      exact ⟨rfl, rfl⟩
end Go.Proofs.YtgopolmmeadmpaaGreatDoor

namespace Go.Proofs.YtgopolmmeadmpaaGreatDoor
open Go.RowKit
set_option maxRecDepth 20000

theorem mix0 (v0 v1 v2 v3 v4 v5 v6 v7 : Value) (w : World) : (Instr.index 38 (.agg #[v0, v1, v2, v3, v4, v5, v6, v7]) (.int .i64 0)).run Tryz.prog w = .ok v0 w := by kernel_rfl
theorem mix1 (v0 v1 v2 v3 v4 v5 v6 v7 : Value) (w : World) : (Instr.index 38 (.agg #[v0, v1, v2, v3, v4, v5, v6, v7]) (.int .i64 1)).run Tryz.prog w = .ok v1 w := by kernel_rfl
theorem mix2 (v0 v1 v2 v3 v4 v5 v6 v7 : Value) (w : World) : (Instr.index 38 (.agg #[v0, v1, v2, v3, v4, v5, v6, v7]) (.int .i64 2)).run Tryz.prog w = .ok v2 w := by kernel_rfl
theorem mix3 (v0 v1 v2 v3 v4 v5 v6 v7 : Value) (w : World) : (Instr.index 38 (.agg #[v0, v1, v2, v3, v4, v5, v6, v7]) (.int .i64 3)).run Tryz.prog w = .ok v3 w := by kernel_rfl
theorem mix4 (v0 v1 v2 v3 v4 v5 v6 v7 : Value) (w : World) : (Instr.index 38 (.agg #[v0, v1, v2, v3, v4, v5, v6, v7]) (.int .i64 4)).run Tryz.prog w = .ok v4 w := by kernel_rfl
theorem mix5 (v0 v1 v2 v3 v4 v5 v6 v7 : Value) (w : World) : (Instr.index 38 (.agg #[v0, v1, v2, v3, v4, v5, v6, v7]) (.int .i64 5)).run Tryz.prog w = .ok v5 w := by kernel_rfl
theorem mix6 (v0 v1 v2 v3 v4 v5 v6 v7 : Value) (w : World) : (Instr.index 38 (.agg #[v0, v1, v2, v3, v4, v5, v6, v7]) (.int .i64 6)).run Tryz.prog w = .ok v6 w := by kernel_rfl
theorem mix7 (v0 v1 v2 v3 v4 v5 v6 v7 : Value) (w : World) : (Instr.index 38 (.agg #[v0, v1, v2, v3, v4, v5, v6, v7]) (.int .i64 7)).run Tryz.prog w = .ok v7 w := by kernel_rfl
/-- An exponent, or a sum of few. -/
def Expo (x : Int) : Prop := -1000000000 ≤ x ∧ x ≤ 1000000000

set_option maxHeartbeats 4000000 in
theorem monoProduct_x (x0 x1 x2 x3 x4 x5 x6 x7 y0 y1 y2 y3 y4 y5 y6 y7 : Int) (w : World) (hx : Expo x0 ∧ Expo x1 ∧ Expo x2 ∧ Expo x3 ∧ Expo x4 ∧ Expo x5 ∧ Expo x6 ∧ Expo x7) (hy : Expo y0 ∧ Expo y1 ∧ Expo y2 ∧ Expo y3 ∧ Expo y4 ∧ Expo y5 ∧ Expo y6 ∧ Expo y7) :
    Calls Tryz.prog 67 #[.agg #[.int .i64 x0, .int .i64 x1, .int .i64 x2, .int .i64 x3, .int .i64 x4, .int .i64 x5, .int .i64 x6, .int .i64 x7], .agg #[.int .i64 y0, .int .i64 y1, .int .i64 y2, .int .i64 y3, .int .i64 y4, .int .i64 y5, .int .i64 y6, .int .i64 y7]] w fun e w' => e = .returned (.agg #[.int .i64 (x0 + y0), .int .i64 (x1 + y1), .int .i64 (x2 + y2), .int .i64 (x3 + y3), .int .i64 (x4 + y4), .int .i64 (x5 + y5), .int .i64 (x6 + y6), .int .i64 (x7 + y7)]) ∧ Below w.heap.size w w' := by
  unfold Expo at hx hy
  have s0 : wrap64 (x0 + y0) = x0 + y0 := by unfold wrap64; omega
  have s1 : wrap64 (x1 + y1) = x1 + y1 := by unfold wrap64; omega
  have s2 : wrap64 (x2 + y2) = x2 + y2 := by unfold wrap64; omega
  have s3 : wrap64 (x3 + y3) = x3 + y3 := by unfold wrap64; omega
  have s4 : wrap64 (x4 + y4) = x4 + y4 := by unfold wrap64; omega
  have s5 : wrap64 (x5 + y5) = x5 + y5 := by unfold wrap64; omega
  have s6 : wrap64 (x6 + y6) = x6 + y6 := by unfold wrap64; omega
  have s7 : wrap64 (x7 + y7) = x7 + y7 := by unfold wrap64; omega
  have i0 := mix0 (.int .i64 y0) (.int .i64 y1) (.int .i64 y2) (.int .i64 y3) (.int .i64 y4) (.int .i64 y5) (.int .i64 y6) (.int .i64 y7)
  have i1 := mix1 (.int .i64 y0) (.int .i64 y1) (.int .i64 y2) (.int .i64 y3) (.int .i64 y4) (.int .i64 y5) (.int .i64 y6) (.int .i64 y7)
  have i2 := mix2 (.int .i64 y0) (.int .i64 y1) (.int .i64 y2) (.int .i64 y3) (.int .i64 y4) (.int .i64 y5) (.int .i64 y6) (.int .i64 y7)
  have i3 := mix3 (.int .i64 y0) (.int .i64 y1) (.int .i64 y2) (.int .i64 y3) (.int .i64 y4) (.int .i64 y5) (.int .i64 y6) (.int .i64 y7)
  have i4 := mix4 (.int .i64 y0) (.int .i64 y1) (.int .i64 y2) (.int .i64 y3) (.int .i64 y4) (.int .i64 y5) (.int .i64 y6) (.int .i64 y7)
  have i5 := mix5 (.int .i64 y0) (.int .i64 y1) (.int .i64 y2) (.int .i64 y3) (.int .i64 y4) (.int .i64 y5) (.int .i64 y6) (.int .i64 y7)
  have i6 := mix6 (.int .i64 y0) (.int .i64 y1) (.int .i64 y2) (.int .i64 y3) (.int .i64 y4) (.int .i64 y5) (.int .i64 y6) (.int .i64 y7)
  have i7 := mix7 (.int .i64 y0) (.int .i64 y1) (.int .i64 y2) (.int .i64 y3) (.int .i64 y4) (.int .i64 y5) (.int .i64 y6) (.int .i64 y7)
  clear hx hy
  go_enter Tryz.func67, Tryz.ntmps67
  go_wp2_with fail
  refine wp_loop_rounds 9 ?_
  rw [rounds_succ]
  go_wp2
  rw [rounds_succ]
  go_wp2
  rw [rounds_succ]
  go_wp2
  rw [rounds_succ]
  go_wp2
  rw [rounds_succ]
  go_wp2
  rw [rounds_succ]
  go_wp2
  rw [rounds_succ]
  go_wp2
  rw [rounds_succ]
  go_wp2
  rw [rounds_succ]
  go_wp2
  exact bodyPost_ret (v := .agg #[.int .i64 (x0 + y0), .int .i64 (x1 + y1), .int .i64 (x2 + y2), .int .i64 (x3 + y3), .int .i64 (x4 + y4), .int .i64 (x5 + y5), .int .i64 (x6 + y6), .int .i64 (x7 + y7)]) (by simp [results, Tryz.results67, go_sem]) rfl ⟨rfl, (((Below.refl _ _).alloc (Nat.le_refl _) _).alloc (by simp) _).alloc (by simp; omega) _⟩

/-- A monomial as a value. -/
def monV (L : List Int) : Value := .agg (L.map (Value.int .i64)).toArray
theorem eight {L : List Int} (h : L.length = 8) : ∃ x0 x1 x2 x3 x4 x5 x6 x7, L = [x0, x1, x2, x3, x4, x5, x6, x7] := by
  match L, h with
  | [x0, x1, x2, x3, x4, x5, x6, x7], _ => exact ⟨_, _, _, _, _, _, _, _, rfl⟩
/-- Eight exponents. -/
def Mono8 (L : List Int) : Prop := L.length = 8 ∧ ∀ x ∈ L, Expo x
theorem monoProduct_any {L M : List Int} (w : World) (hL : Mono8 L) (hM : Mono8 M) :
    Calls Tryz.prog 67 #[monV L, monV M] w fun e w' => e = .returned (monV (madd L M)) ∧ Below w.heap.size w w' := by
  obtain ⟨x0, x1, x2, x3, x4, x5, x6, x7, rfl⟩ := eight hL.1
  obtain ⟨y0, y1, y2, y3, y4, y5, y6, y7, rfl⟩ := eight hM.1
  have hx := hL.2
  have hy := hM.2
  simp only [List.mem_cons, List.not_mem_nil, or_false, forall_eq_or_imp, forall_eq] at hx hy
  exact monoProduct_x _ _ _ _ _ _ _ _ _ _ _ _ _ _ _ _ w hx hy

end Go.Proofs.YtgopolmmeadmpaaGreatDoor

namespace Go.Proofs.YtgopolmmeadmpaaGreatDoor
open Go.RowKit
set_option maxRecDepth 20000

theorem cmpL_range (a b : List Int) : -1 ≤ cmpL a b ∧ cmpL a b ≤ 1 := by
  induction a generalizing b with
  | nil => cases b <;> simp [cmpL]
  | cons x a ih =>
    cases b with
    | nil => simp [cmpL]
    | cons y b =>
      unfold cmpL
      split
      · omega
      · split
        · omega
        · exact ih b


set_option maxHeartbeats 4000000 in
theorem compare_x (x0 x1 x2 x3 x4 x5 x6 x7 y0 y1 y2 y3 y4 y5 y6 y7 : Int) (s s' : Bool) (A B A' B' : Option Addr) (n c m d n' c' m' d' : Nat) (w : World) :
    Calls Tryz.prog 57 #[.int .i64 (-1), .agg #[.int .i64 x0, .int .i64 x1, .int .i64 x2, .int .i64 x3, .int .i64 x4, .int .i64 x5, .int .i64 x6, .int .i64 x7, .bool s, .slice A n c, .slice B m d], .agg #[.int .i64 y0, .int .i64 y1, .int .i64 y2, .int .i64 y3, .int .i64 y4, .int .i64 y5, .int .i64 y6, .int .i64 y7, .bool s', .slice A' n' c', .slice B' m' d']] w fun e w' => e = .returned (.int .i64 (-cmpL [x0, x1, x2, x3, x4, x5, x6, x7] [y0, y1, y2, y3, y4, y5, y6, y7])) ∧ Below w.heap.size w w' := by
  obtain ⟨v, hv⟩ : ∃ v, (w.alloc (.cells #[.int .i64 x0, .int .i64 x1, .int .i64 x2, .int .i64 x3, .int .i64 x4, .int .i64 x5, .int .i64 x6, .int .i64 x7, .bool s, .slice A n c, .slice B m d] 43)).alloc (.cells #[.int .i64 y0, .int .i64 y1, .int .i64 y2, .int .i64 y3, .int .i64 y4, .int .i64 y5, .int .i64 y6, .int .i64 y7, .bool s', .slice A' n' c', .slice B' m' d'] 43) = v := ⟨_, rfl⟩
  have hb : Below w.heap.size w v := by rw [← hv]; exact ((Below.refl _ _).alloc (Nat.le_refl _) _).alloc (by simp) _
  have h1 : IntRow v w.heap.size 0 [x0, x1, x2, x3, x4, x5, x6, x7] := by
    intro i hi
    rw [← hv, World.cell?_alloc_lt _ _ _ (by simp), World.cell?_alloc_new]
    match i, hi with
    | 0, _ | 1, _ | 2, _ | 3, _ | 4, _ | 5, _ | 6, _ | 7, _ => rfl
  have h2 : IntRow v (w.heap.size + 1) 0 [y0, y1, y2, y3, y4, y5, y6, y7] := by
    intro i hi
    have := World.cell?_alloc_new (w := w.alloc (.cells #[.int .i64 x0, .int .i64 x1, .int .i64 x2, .int .i64 x3, .int .i64 x4, .int .i64 x5, .int .i64 x6, .int .i64 x7, .bool s, .slice A n c, .slice B m d] 43))
    rw [World.size_alloc] at this
    rw [← hv, this]
    match i, hi with
    | 0, _ | 1, _ | 2, _ | 3, _ | 4, _ | 5, _ | 6, _ | 7, _ => rfl
  obtain ⟨R, hR⟩ : ∃ R, cmpL [x0, x1, x2, x3, x4, x5, x6, x7] [y0, y1, y2, y3, y4, y5, y6, y7] = R := ⟨_, rfl⟩
  have hr := cmpL_range [x0, x1, x2, x3, x4, x5, x6, x7] [y0, y1, y2, y3, y4, y5, y6, y7]
  rw [hR] at hr
  have SC : Hid (∀ k, Calls Tryz.prog 75 #[.slice (some ⟨w.heap.size, 0, none⟩) 8 8, .slice (some ⟨w.heap.size + 1, 0, none⟩) 8 8] (v.drewN k) fun e w' => e = .returned (.int .i64 R) ∧ v.drewN k = w') := fun k => by
    rw [← hR]
    exact sCompare w.heap.size 0 (w.heap.size + 1) 0 8 8 8 _ _ (v.drewN k) (fun i hi => by exact h1 i hi) (fun i hi => by exact h2 i hi) rfl rfl (by decide) (by decide) (by decide)
  rw [hR]
  have HV := Lib.hid hv
  clear h1 h2 hR hv
  go_enter Tryz.func57, Tryz.ntmps57
  go_upto_region 1 with fail
  rw [HV.out]
  go_region_with (go_at_call 75; refine (SC.out 1).mono ?_; rintro e w' ⟨rfl, rfl⟩)
  all_goals
    go_wp2
    go_ret
    refine ⟨?_, drewN_below hb 1⟩
    have hw3 : IntKind.i64.wrap (-R) = -R := by rw [IntKind.wrap_i64]; omega
    simp [Act.put, hw3]

/-- A term as a value: a monomial and a fraction. -/
def termV (L : List Int) (s : Bool) (A : Option Addr) (n c : Nat) (B : Option Addr) (m d : Nat) : Value := .agg (L.map (Value.int .i64) ++ [Value.bool s, Value.slice A n c, Value.slice B m d]).toArray
theorem termV_eq (x0 x1 x2 x3 x4 x5 x6 x7 : Int) (s : Bool) (A : Option Addr) (n c : Nat) (B : Option Addr) (m d : Nat) : termV [x0, x1, x2, x3, x4, x5, x6, x7] s A n c B m d = .agg #[.int .i64 x0, .int .i64 x1, .int .i64 x2, .int .i64 x3, .int .i64 x4, .int .i64 x5, .int .i64 x6, .int .i64 x7, .bool s, .slice A n c, .slice B m d] := rfl
theorem compare_any8 {L M : List Int} (hL : L.length = 8) (hM : M.length = 8) (s s' : Bool) (A B A' B' : Option Addr) (n c m d n' c' m' d' : Nat) (w : World) :
    Calls Tryz.prog 57 #[.int .i64 (-1), termV L s A n c B m d, termV M s' A' n' c' B' m' d'] w fun e w' => e = .returned (.int .i64 (-cmpL L M)) ∧ Below w.heap.size w w' := by
  obtain ⟨x0, x1, x2, x3, x4, x5, x6, x7, rfl⟩ := eight hL
  obtain ⟨y0, y1, y2, y3, y4, y5, y6, y7, rfl⟩ := eight hM
  rw [termV_eq, termV_eq]
  exact compare_x x0 x1 x2 x3 x4 x5 x6 x7 y0 y1 y2 y3 y4 y5 y6 y7 s s' A B A' B' n c m d n' c' m' d' w

set_option maxHeartbeats 1000000 in
theorem isZero_x (x0 x1 x2 x3 x4 x5 x6 x7 : Int) {s : Bool} {A B : Option Addr} {n c m d k : Nat} {q : Rat} (w : World) (h : Loose w s A n c B m d q k) (k0 : 1 ≤ k) :
    Calls Tryz.prog 55 #[.agg #[.int .i64 x0, .int .i64 x1, .int .i64 x2, .int .i64 x3, .int .i64 x4, .int .i64 x5, .int .i64 x6, .int .i64 x7, .bool s, .slice A n c, .slice B m d]] w fun e w' => e = .returned (.bool (decide (q = 0))) ∧ Below w.heap.size w w' := by
  have hb := (Below.refl w.heap.size w).alloc (Nat.le_refl _) (.cells #[.int .i64 x0, .int .i64 x1, .int .i64 x2, .int .i64 x3, .int .i64 x4, .int .i64 x5, .int .i64 x6, .int .i64 x7, .bool s, .slice A n c, .slice B m d] 43)
  have HS := Lib.hid (signOf_r (h.below hb) k0)
  have HZ : Hid ((sgnR q == 0) = decide (q = 0)) := by
    show _ = _
    rcases sgnR_cases q with ⟨h1, h2⟩ | ⟨h1, h2⟩ | ⟨h1, h2⟩
    · rw [h2, decide_eq_false (fun e => by rw [e] at h1; exact Rat.lt_irrefl h1)]; rfl
    · rw [h2, decide_eq_true h1]; rfl
    · rw [h2, decide_eq_false (fun e => by rw [e] at h1; exact Rat.lt_irrefl h1)]; rfl
  clear h
  go_enter Tryz.func55, Tryz.ntmps55
  go_wp2_with fail
  refine HS.out.mono ?_
  rintro e w' ⟨rfl, hb2⟩
  go_wp2
  rw [HZ.out]
  go_ret
  exact ⟨rfl, nextB hb hb2⟩
theorem isZero_t {L : List Int} (hL : L.length = 8) {s : Bool} {A B : Option Addr} {n c m d k : Nat} {q : Rat} (w : World) (h : Loose w s A n c B m d q k) (k0 : 1 ≤ k) :
    Calls Tryz.prog 55 #[termV L s A n c B m d] w fun e w' => e = .returned (.bool (decide (q = 0))) ∧ Below w.heap.size w w' := by
  obtain ⟨x0, x1, x2, x3, x4, x5, x6, x7, rfl⟩ := eight hL
  rw [termV_eq]
  exact isZero_x x0 x1 x2 x3 x4 x5 x6 x7 w h k0
end Go.Proofs.YtgopolmmeadmpaaGreatDoor

namespace Go.Proofs.YtgopolmmeadmpaaGreatDoor
open Go Go.RowKit Go.WideMaps
set_option maxRecDepth 20000

theorem monoWide : (match Tryz.prog.underlying 38 with | some (.array _ _) | some (.struct _) => true | _ => false) = true := by rw [Tryz.underlying38]
theorem laidOutP : laidOutB Tryz.prog = true := by kernel_rfl
theorem monoLaw : KeyLaw Tryz.prog 38 := deep_law_laid laidOutP (m := 2) (by omega) (of_decide_eq_true (by kernel_rfl)) (by kernel_rfl) monoWide
theorem monoKeyed : Maps.Keyed Tryz.prog 38 := Maps.Keyed.of_law monoLaw
theorem monoCells : Tryz.prog.cellsOf 38 = 8 := by kernel_rfl
theorem intCells : Tryz.prog.cellsOf 3 = 1 := by kernel_rfl
theorem monoKeyType : Tryz.prog.keyType 38 = true := by kernel_rfl
theorem mono_formed (x0 x1 x2 x3 x4 x5 x6 x7 : Int) : (Value.agg #[.int .i64 x0, .int .i64 x1, .int .i64 x2, .int .i64 x3, .int .i64 x4, .int .i64 x5, .int .i64 x6, .int .i64 x7]).formed Tryz.prog 38 = true := by
  simp [Value.formed, Tryz.underlying38, monoCells]
theorem mono_key {x0 x1 x2 x3 x4 x5 x6 x7 : Int} (h : Expo x0 ∧ Expo x1 ∧ Expo x2 ∧ Expo x3 ∧ Expo x4 ∧ Expo x5 ∧ Expo x6 ∧ Expo x7) :
    ∃ l, keyOf Tryz.prog 38 (.agg #[.int .i64 x0, .int .i64 x1, .int .i64 x2, .int .i64 x3, .int .i64 x4, .int .i64 x5, .int .i64 x6, .int .i64 x7]) = some l := by
  unfold Expo at h
  have wf : ∀ x : Int, -1000000000 ≤ x ∧ x ≤ 1000000000 → (Lit.int .i64 x).wf = true := fun x hx => by
    exact WalkArith.wf_i64 (by omega)
  obtain ⟨h0, h1, h2, h3, h4, h5, h6, h7⟩ := h
  have w0 := wf _ h0
  have w1 := wf _ h1
  have w2 := wf _ h2
  have w3 := wf _ h3
  have w4 := wf _ h4
  have w5 := wf _ h5
  have w6 := wf _ h6
  have w7 := wf _ h7
  obtain ⟨N, hN⟩ : ∃ N, Tryz.prog.types.size + 1 = N + 2 := ⟨Tryz.prog.types.size - 1, by have : 2 ≤ Tryz.prog.types.size := of_decide_eq_true (by kernel_rfl); omega⟩
  unfold keyOf
  rw [Tryz.underlying38]
  simp only [monoKeyType, mono_formed, Bool.and_self, if_true, hN]
  unfold Program.keyLits
  simp only [Tryz.underlying38, intCells]
  unfold Program.keyLits
  simp only [Tryz.underlying3]
  rw [if_pos (by rw [monoCells]; rfl)]
  have hr : List.range 8 = [0, 1, 2, 3, 4, 5, 6, 7] := by decide
  rw [hr]
  simp [List.mapM_cons, Value.cells, w0, w1, w2, w3, w4, w5, w6, w7]
/-- The key that a monomial is. -/
noncomputable def keyLit (L : List Int) : Lit := (keyOf Tryz.prog 38 (monV L)).getD (.bool false)
theorem keyLit_eq {L : List Int} (h : Mono8 L) : keyOf Tryz.prog 38 (monV L) = some (keyLit L) := by
  obtain ⟨x0, x1, x2, x3, x4, x5, x6, x7, rfl⟩ := eight h.1
  have hx := h.2
  simp only [List.mem_cons, List.not_mem_nil, or_false, forall_eq_or_imp, forall_eq] at hx
  obtain ⟨l, hl⟩ := mono_key hx
  have e : keyOf Tryz.prog 38 (monV [x0, x1, x2, x3, x4, x5, x6, x7]) = some l := hl
  unfold keyLit
  rw [e]; rfl
theorem monV_inj {L M : List Int} (h : monV L = monV M) : L = M := by
  unfold monV at h
  injection h with h
  have h2 := congrArg Array.toList h
  simp only at h2
  exact List.map_inj_right (fun a b e => by injection e) |>.1 h2
theorem keyLit_inj {L M : List Int} (hL : Mono8 L) (hM : Mono8 M) (h : keyLit L = keyLit M) : L = M := by
  have h1 := keyLit_eq hL
  have h2 := keyLit_eq hM
  rw [← h] at h2
  exact monV_inj (monoKeyed.inj h1 h2)
end Go.Proofs.YtgopolmmeadmpaaGreatDoor
