/-
  polynomial.newSum: an empty sum.
  The map of a sum: each monomial's place.
  The row of a sum's terms: eleven cells a term.
-/
import Derived.Test.YtgopolmmeadmpaaGreatDoorKeys
import Derived.Carry
import Derived.MakeChecks
import Derived.MapKept
import Derived.Laws.MakeOwn
import Derived.Laws.OwnMore
namespace Go.Proofs.YtgopolmmeadmpaaGreatDoor
open Go Go.RowKit
set_option maxRecDepth 20000

theorem run_mapRoom {P : Program} {t kt et : TypeId} (hu : P.underlying t = some (.map kt et)) (k : IntKind) (n : Int) (w : World) :
    (Instr.makeMap t (some (.int k n))).run P w = .ok (.map (some w.heap.size)) (w.alloc (.map #[] 0)) := by
  simp [Instr.makeMap, run_underlying hu, asInt, asIntOf, Result.andThen]


theorem termInfoB : ((Tryz.prog.info? 43).any fun i => i.zero.isSome && i.size == 11 && decide (i.bytes ≤ 200)) = true := by kernel_rfl
theorem termInfo : ∃ i z, Tryz.prog.info? 43 = some i ∧ i.zero = some z ∧ i.size = 11 ∧ i.bytes ≤ 200 := by
  have h := termInfoB
  cases hi : Tryz.prog.info? 43 with
  | none => rw [hi] at h; simp at h
  | some i =>
    rw [hi] at h
    simp only [Option.any_some, Bool.and_eq_true, beq_iff_eq, decide_eq_true_eq] at h
    obtain ⟨⟨h1, h2⟩, h3⟩ := h
    obtain ⟨z, hz⟩ := Option.isSome_iff_exists.mp h1
    exact ⟨i, z, rfl, hz, h2, h3⟩

set_option maxHeartbeats 2000000 in
theorem newSum_x (n : Nat) (w : World) (hn : n ≤ 100000) :
    Calls Tryz.prog 29 #[.int .i64 (n : Int)] w fun e w' => ∃ b g, e = .returned (.agg #[.map (some b), .slice (some ⟨g, 0, none⟩) 0 n]) ∧ (∀ H : Type, w'.ownsMap (H := H) Tryz.prog 38 (plainElem Tryz.prog 3) b 0 (.map [])) ∧
      w'.ownsRow w.heap.size 43 11 (.slice (some ⟨g, 0, none⟩) 0 n) 0 [] ∧ w.heap.size ≤ b ∧ w.heap.size ≤ g ∧ b ≠ g ∧ Below w.heap.size w w' := by
  have h0 : (0 : Int) ≤ n := by omega
  have hmm := fun w => run_mapRoom (P := Tryz.prog) (t := 59) Tryz.underlying59 .i64 (n : Int) w
  obtain ⟨C, hC, hms⟩ : ∃ C : Array Value, C.size = n * 11 ∧ ∀ w : World, (Instr.makeSlice 25 (.int .i64 0) (.int .i64 (n : Int))).run Tryz.prog w = .ok (.slice (some ⟨w.heap.size, 0, none⟩) 0 n) (w.alloc (.cells C 43)) := by
    obtain ⟨ti, z, hi, hz, hs, hb⟩ := termInfo
    refine ⟨madeCells z.cells (n * 11), size_madeCells _ _, fun w => ?_⟩
    have h := run_make (P := Tryz.prog) w 25 43 ti z Tryz.underlying25 hi hz .i64 .i64 0 n (by omega) h0 (by
      have h1 : (ti.bytes : Int) * n ≤ 200 * 100000 := Int.mul_le_mul (by omega) (by omega) (by omega) (by omega)
      omega) (by omega)
    rw [hs] at h
    simpa using h
  have hM : n ≤ maxLen := by simp [maxLen]; omega
  go_enter Tryz.func29, Tryz.ntmps29
  go_wp2_with fail
  go_region
  all_goals go_wp2
  · refine bodyPost_ret (v := .agg #[.map (some (w.heap.size + 1)), .slice (some ⟨w.heap.size + 1 + 1, 0, none⟩) 0 n]) (by simp [results, Tryz.results29, go_sem]) rfl ⟨_, _, rfl, ?_, ?_, by omega, by omega, by omega, ?_⟩
    · intro H
      have h := ((World.ownsMap_made (H := H) (w.alloc (.cells #[.map (some (w.heap.size + 1)), .slice (some ⟨w.heap.size + 1 + 1, 0, none⟩) 0 n] 61)) Tryz.prog 38 (plainElem Tryz.prog 3)).alloc (.cells C 43)).drew
      simpa using h
    · have h := (World.ownsRow_made (base := w.heap.size) (e := 43) (size := 11) ((w.alloc (.cells #[.map (some (w.heap.size + 1)), .slice (some ⟨w.heap.size + 1 + 1, 0, none⟩) 0 n] 61)).alloc (.map #[] 0)) C n (by simp; omega) hM hC).drew
      simpa using h
    · exact ((((Below.refl _ w).alloc (Nat.le_refl _) _).alloc (by simp) _).alloc (by simp; omega) _).drew
  · refine bodyPost_ret (v := .agg #[.map (some (w.heap.size + 1 + 1)), .slice (some ⟨w.heap.size + 1, 0, none⟩) 0 n]) (by simp [results, Tryz.results29, go_sem]) rfl ⟨_, _, rfl, ?_, ?_, by omega, by omega, by omega, ?_⟩
    · intro H
      have h := (World.ownsMap_made (H := H) ((w.alloc (.cells #[.map (some (w.heap.size + 1 + 1)), .slice (some ⟨w.heap.size + 1, 0, none⟩) 0 n] 61)).alloc (.cells C 43)) Tryz.prog 38 (plainElem Tryz.prog 3)).drew
      simpa using h
    · have h := ((World.ownsRow_made (base := w.heap.size) (e := 43) (size := 11) (w.alloc (.cells #[.map (some (w.heap.size + 1 + 1)), .slice (some ⟨w.heap.size + 1, 0, none⟩) 0 n] 61)) C n (by simp) hM hC).alloc (.map #[] 0)).drew
      simpa using h
    · exact ((((Below.refl _ w).alloc (Nat.le_refl _) _).alloc (by simp) _).alloc (by simp; omega) _).drew
end Go.Proofs.YtgopolmmeadmpaaGreatDoor

namespace Go.Proofs.YtgopolmmeadmpaaGreatDoor
open Go Go.RowKit
set_option maxRecDepth 20000

/-- D gives each of the monomials ms its place, and has no other. -/
structure Places {H : Type} (D : DataW H) (ms : List (List Int)) : Prop where
  isMap : Maps.IsMap D
  has : ∀ L, Mono8 L → Maps.has D (keyLit L) = decide (L ∈ ms)
  atKey : ∀ L, Mono8 L → ∀ i : Nat, ms[i]? = some L → D.atKey (keyLit L) (.lit (.int .i64 0)) = .lit (.int .i64 (i : Int))

theorem keyLit_isKey {L : List Int} (h : Mono8 L) : WideAt.IsKeyLit (keyLit L) := monoKeyed.key (keyLit_eq h)
theorem Places.none {H : Type} : Places (.map [] : DataW H) [] := ⟨Maps.isMap_empty, fun L _ => by simp [Maps.has_eq], fun L _ i h => by simp at h⟩
theorem Places.push {H : Type} {D : DataW H} {ms : List (List Int)} {M : List Int} (h : Places D ms) (hM : Mono8 M) (hn : M ∉ ms) :
    Places (D.put (keyLit M) (.lit (.int .i64 (ms.length : Int)))) (ms ++ [M]) := by
  refine ⟨h.isMap.put _ _, fun L hL => ?_, fun L hL i hi => ?_⟩
  · by_cases e : L = M
    · subst e
      rw [Maps.has_put_same h.isMap (keyLit_isKey hM)]
      simp
    · rw [Maps.has_put_other (fun k => e (keyLit_inj hL hM k)), h.has L hL]
      simp [e]
  · by_cases e : L = M
    · subst e
      rw [Maps.atKey_put_same h.isMap (keyLit_isKey hM)]
      have : i = ms.length := by
        rcases Nat.lt_or_ge i ms.length with hlt | hge
        · rw [List.getElem?_append_left hlt] at hi
          exact absurd (List.mem_of_getElem? hi) hn
        · have h1 : i < (ms ++ [L]).length := by
            rcases Nat.lt_or_ge i (ms ++ [L]).length with h2 | h2
            · exact h2
            · rw [List.getElem?_eq_none h2] at hi; cases hi
          simp at h1
          omega
      rw [this]
    · rw [Maps.atKey_put_other (fun k => e (keyLit_inj hL hM k))]
      refine h.atKey L hL i ?_
      rcases Nat.lt_or_ge i ms.length with hlt | hge
      · rwa [List.getElem?_append_left hlt] at hi
      · rw [List.getElem?_append_right hge] at hi
        cases hk : i - ms.length with
        | zero => rw [hk] at hi; simp at hi; exact absurd hi.symm e
        | succ j => rw [hk] at hi; simp at hi
/-- What the look finds. -/
theorem Places.look {H : Type} {D : DataW H} {ms : List (List Int)} {M : List Int} (h : Places D ms) (hM : Mono8 M) {c : Int} (hc : D.atKey (keyLit M) (.lit (.int .i64 0)) = .lit (.int .i64 c)) (hin : M ∈ ms) :
    ∃ i : Nat, ms[i]? = some M ∧ c = (i : Int) := by
  obtain ⟨i, hi⟩ := List.mem_iff_getElem?.mp hin
  refine ⟨i, hi, ?_⟩
  have := h.atKey M hM i hi
  rw [hc] at this
  injection this with h1
  injection h1
end Go.Proofs.YtgopolmmeadmpaaGreatDoor

namespace Go.Proofs.YtgopolmmeadmpaaGreatDoor
open Go Go.RowKit
set_option maxRecDepth 20000

/-- A term as it lies: its exponents, and its coefficient's sign and slices. -/
structure Tm where
  L : List Int
  s : Bool
  A : Option Addr
  n : Nat
  c : Nat
  B : Option Addr
  m : Nat
  d : Nat
def Tm.val (t : Tm) : Value := termV t.L t.s t.A t.n t.c t.B t.m t.d
def Tm.cells (t : Tm) : List Value := t.L.map (Value.int .i64) ++ [.bool t.s, .slice t.A t.n t.c, .slice t.B t.m t.d]
def Tm.with (t : Tm) (s : Bool) (A : Option Addr) (n c : Nat) (B : Option Addr) (m d : Nat) : Tm := ⟨t.L, s, A, n, c, B, m, d⟩
theorem Tm.length {t : Tm} (h : t.L.length = 8) : t.cells.length = 11 := by simp [Tm.cells, h]
/-- The row of terms. -/
def rowOf (ts : List Tm) : List Value := ts.flatMap Tm.cells
theorem rowOf_nil : rowOf [] = [] := rfl
theorem rowOf_push (ts : List Tm) (t : Tm) : rowOf (ts ++ [t]) = rowOf ts ++ t.cells := by simp [rowOf]
theorem rowOf_length : ∀ {ts : List Tm}, (∀ t ∈ ts, t.L.length = 8) → (rowOf ts).length = ts.length * 11
  | [], _ => rfl
  | t :: ts, h => by
    have h1 := rowOf_length (ts := ts) (fun x hx => h x (List.mem_cons_of_mem _ hx))
    have h2 := Tm.length (h t (List.mem_cons_self))
    have : rowOf (t :: ts) = t.cells ++ rowOf ts := rfl
    rw [this, List.length_append, h1, h2]
    simp only [List.length_cons]
    omega
theorem rowOf_get : ∀ {ts : List Tm} {i : Nat} {t : Tm}, (∀ t ∈ ts, t.L.length = 8) → ts[i]? = some t → ∀ j, j < 11 → (rowOf ts)[i * 11 + j]? = t.cells[j]?
  | [], i, t, _, ht, _, _ => by simp at ht
  | x :: ts, 0, t, h, ht, j, hj => by
    simp only [List.getElem?_cons_zero, Option.some.injEq] at ht
    subst ht
    have h2 := Tm.length (h x (List.mem_cons_self))
    show (x.cells ++ rowOf ts)[0 * 11 + j]? = _
    rw [List.getElem?_append_left (by omega)]
    simp
  | x :: ts, i + 1, t, h, ht, j, hj => by
    have h1 := rowOf_get (ts := ts) (i := i) (t := t) (fun x hx => h x (List.mem_cons_of_mem _ hx)) (by simpa using ht) j hj
    have h2 := Tm.length (h x (List.mem_cons_self))
    show (x.cells ++ rowOf ts)[(i + 1) * 11 + j]? = _
    rw [List.getElem?_append_right (by omega), h2, ← h1]
    congr 1
    omega
theorem Tm.coefs {t : Tm} (h : t.L.length = 8) : t.cells[8]? = some (.bool t.s) ∧ t.cells[9]? = some (.slice t.A t.n t.c) ∧ t.cells[10]? = some (.slice t.B t.m t.d) := by
  unfold Tm.cells
  refine ⟨?_, ?_, ?_⟩
  all_goals
    rw [List.getElem?_append_right (by simp [h])]
    simp [h]
theorem Tm.set_coefs {t : Tm} (h : t.L.length = 8) (s : Bool) (A : Option Addr) (n c : Nat) (B : Option Addr) (m d : Nat) :
    ((t.cells.set 8 (.bool s)).set 9 (.slice A n c)).set 10 (.slice B m d) = (t.with s A n c B m d).cells := by
  unfold Tm.cells Tm.with
  obtain ⟨x0, x1, x2, x3, x4, x5, x6, x7, hx⟩ := eight h
  simp only [hx]
  rfl
/-- A coefficient is stored. -/
theorem rowOf_set : ∀ {ts : List Tm} {i : Nat} {t : Tm}, (∀ t ∈ ts, t.L.length = 8) → ts[i]? = some t → ∀ (s : Bool) (A : Option Addr) (n c : Nat) (B : Option Addr) (m d : Nat),
    (((rowOf ts).set (i * 11 + 8) (.bool s)).set (i * 11 + 9) (.slice A n c)).set (i * 11 + 10) (.slice B m d) = rowOf (ts.set i (t.with s A n c B m d))
  | [], i, t, _, ht, _, _, _, _, _, _, _ => by simp at ht
  | x :: ts, 0, t, h, ht, s, A, n, c, B, m, d => by
    simp only [List.getElem?_cons_zero, Option.some.injEq] at ht
    subst ht
    have h8 := h x (List.mem_cons_self)
    have h2 := Tm.length h8
    show (((x.cells ++ rowOf ts).set _ _).set _ _).set _ _ = (x.with s A n c B m d).cells ++ rowOf ts
    rw [← Tm.set_coefs h8]
    rw [List.set_append_left _ _ (by omega), List.set_append_left _ _ (by rw [List.length_set]; omega), List.set_append_left _ _ (by rw [List.length_set, List.length_set]; omega)]
  | x :: ts, i + 1, t, h, ht, s, A, n, c, B, m, d => by
    have h1 := rowOf_set (ts := ts) (i := i) (t := t) (fun x hx => h x (List.mem_cons_of_mem _ hx)) (by simpa using ht) s A n c B m d
    have h2 := Tm.length (h x (List.mem_cons_self))
    show (((x.cells ++ rowOf ts).set _ _).set _ _).set _ _ = x.cells ++ rowOf (ts.set i (t.with s A n c B m d))
    rw [← h1]
    have e8 : (i + 1) * 11 + 8 - 11 = i * 11 + 8 := by omega
    have e9 : (i + 1) * 11 + 9 - 11 = i * 11 + 9 := by omega
    have e10 : (i + 1) * 11 + 10 - 11 = i * 11 + 10 := by omega
    rw [List.set_append_right _ _ (by omega), List.set_append_right _ _ (by omega), List.set_append_right _ _ (by omega), h2, e8, e9, e10]
end Go.Proofs.YtgopolmmeadmpaaGreatDoor
