/-
  A sorted list without its repetitions. No function of the program is named here.
-/
import Derived.Lib.SlicesCompact
import Derived.Test.YtlhncmnhpnhfhaaFxP
namespace Go.Proofs.Ytlhncmnhpnhfhaa
open Go Go.RowKit
namespace Fx

theorem compact_upto (d : Array Int) (h : ∀ i j, i ≤ j → j < d.size → d[i]! ≤ d[j]!) : ∀ m, m ≤ d.size →
    (Lib.compactUpTo d m).Pairwise (· < ·) ∧ (∀ z ∈ Lib.compactUpTo d m, ∃ j, j < m ∧ d[j]! = z) ∧ (∀ j, j < m → d[j]! ∈ Lib.compactUpTo d m) := by
  intro m
  induction m with
  | zero => intro _; exact ⟨by simp [Lib.compactUpTo], by simp [Lib.compactUpTo], fun j hj => absurd hj (by omega)⟩
  | succ m ih =>
    intro hm
    obtain ⟨h1, h2, h3⟩ := ih (by omega)
    rw [Lib.compactUpTo_succ]
    by_cases hk : Lib.keeps d m = true
    · rw [if_pos hk]
      refine ⟨List.pairwise_append.2 ⟨h1, by simp, fun a ha b hb => ?_⟩, fun z hz => ?_, fun j hj => ?_⟩
      · simp only [List.mem_singleton] at hb
        subst hb
        obtain ⟨j, hj, rfl⟩ := h2 a ha
        have h4 := h j (m - 1) (by omega) (by omega)
        have h5 := h (m - 1) m (by omega) (by omega)
        simp only [Lib.keeps, decide_eq_true_eq] at hk
        omega
      · rcases List.mem_append.1 hz with hz | hz
        · obtain ⟨j, hj, e⟩ := h2 z hz; exact ⟨j, by omega, e⟩
        · simp only [List.mem_singleton] at hz; exact ⟨m, by omega, hz.symm⟩
      · by_cases e : j = m
        · subst e; simp
        · exact List.mem_append_left _ (h3 j (by omega))
    · rw [if_neg hk, List.append_nil]
      simp only [Lib.keeps, decide_eq_true_eq, not_or] at hk
      refine ⟨h1, fun z hz => ?_, fun j hj => ?_⟩
      · obtain ⟨j, hj, e⟩ := h2 z hz; exact ⟨j, by omega, e⟩
      · by_cases e : j = m
        · subst e
          have h4 := h3 (j - 1) (by omega)
          have h5 : d[j]! = d[j - 1]! := Classical.not_not.1 hk.2
          rw [h5]; exact h4
        · exact h3 j (by omega)

/-- The numbers of a list in ascending order, each one once. -/
def asc (zs : List Int) : List Int := Lib.compact (zs.mergeSort fun x y => decide (x ≤ y))
theorem sorted_le (zs : List Int) : (zs.mergeSort fun x y => decide (x ≤ y)).Pairwise (· ≤ ·) := by
  have := List.pairwise_mergeSort (le := fun x y : Int => decide (x ≤ y)) (fun a b c h k => by simp only [decide_eq_true_eq] at *; omega) (fun a b => by simp only [Bool.or_eq_true, decide_eq_true_eq]; omega) zs
  exact this.imp fun h => by simpa using h
theorem asc_spec (zs : List Int) : (asc zs).Pairwise (· < ·) ∧ ∀ z, z ∈ asc zs ↔ z ∈ zs := by
  have hs := sorted_le zs
  have hp := List.mergeSort_perm zs fun x y => decide (x ≤ y)
  unfold asc
  generalize zs.mergeSort (fun x y => decide (x ≤ y)) = ys at hs hp
  have hm : ∀ i j, i ≤ j → j < ys.toArray.size → ys.toArray[i]! ≤ ys.toArray[j]! := by
    intro i j hij hj
    have hj' : j < ys.length := by simpa using hj
    have hi' : i < ys.length := by omega
    rw [getElem!_pos ys.toArray i (by simpa using hi'), getElem!_pos ys.toArray j hj]
    simp only [List.getElem_toArray]
    by_cases e : i = j
    · subst e; exact Int.le_refl _
    · exact List.pairwise_iff_getElem.1 hs i j hi' hj' (by omega)
  obtain ⟨h1, h2, h3⟩ := compact_upto ys.toArray hm ys.length (by simp)
  refine ⟨h1, fun z => ?_⟩
  rw [← hp.mem_iff]
  constructor
  · intro hz
    obtain ⟨j, hj, rfl⟩ := h2 z hz
    rw [getElem!_pos ys.toArray j (by simpa using hj)]
    simp
  · intro hz
    obtain ⟨j, hj, rfl⟩ := List.getElem_of_mem hz
    have := h3 j hj
    rw [getElem!_pos ys.toArray j (by simpa using hj)] at this
    simpa [Lib.compact] using this
end Fx
end Go.Proofs.Ytlhncmnhpnhfhaa
