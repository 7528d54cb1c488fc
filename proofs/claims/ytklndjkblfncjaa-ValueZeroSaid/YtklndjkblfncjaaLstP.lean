/-
  Pure: the cells of a list of leaves.
-/
import Derived.Test.YtklndjkblfncjaaZerP
namespace Go.Proofs.Ytklndjkblfncjaa

theorem list_cells {T1 : Ty} {mx : Int} {V : Vl} (hel : T1.k = 1 ∨ T1.k = 2) (mx0 : 1 ≤ mx) (hv : verr 2 (.mk 6 0 0 mx [T1]) V = 0) :
    V.es.length ≤ mx.toNat ∧ (vflat 2 (.mk 6 0 0 mx [T1]) V)[0]? = some (V.es.length : Int) ∧ (vflat 2 (.mk 6 0 0 mx [T1]) V).length = mx.toNat + 1 ∧
    ∀ i, V.es.length < i → i ≤ mx.toNat → (vflat 2 (.mk 6 0 0 mx [T1]) V)[i]? = some (vzero 1 T1).i := by
  have hm : ¬ mx < V.es.length := by
    intro h
    have : verr 2 (.mk 6 0 0 mx [T1]) V = 2 := by
      show (if (6 : Int) = 5 then _ else if (6 : Int) = 6 then (if mx < V.es.length then 2 else _) else _) = _
      rw [if_neg (by decide), if_pos rfl, if_pos h]
    rw [this] at hv; cases hv
  have hle : V.es.length ≤ mx.toNat := by omega
  have leaf : ∀ U : Vl, vflat 1 T1 U = [U.i] := fun U => by simp only [vflat]; rw [if_neg (by omega), if_neg (by omega)]
  have hf : vflat 2 (.mk 6 0 0 mx [T1]) V = (V.es.length : Int) :: (V.es.map Vl.i ++ List.replicate (mx.toNat - V.es.length) (vzero 1 T1).i) := by
    show (if (6 : Int) = 5 then _ else if (6 : Int) = 6 then (V.es.length : Int) :: ((V.es.map (vflat 1 T1)).flatten ++ (List.replicate (mx.toNat - V.es.length) (vflat 1 T1 (vzero 1 T1))).flatten) else _) = _
    rw [if_neg (by decide), if_pos rfl, leaf]
    congr 2
    · generalize V.es = l
      induction l with
      | nil => rfl
      | cons U l ih => rw [List.map_cons, List.flatten_cons, ih, leaf]; rfl
    · generalize mx.toNat - V.es.length = k
      induction k with
      | zero => rfl
      | succ k ih => rw [List.replicate_succ, List.flatten_cons, ih, List.replicate_succ]; rfl
  rw [hf]
  refine ⟨hle, rfl, by simp; omega, fun i h1 h2 => ?_⟩
  obtain ⟨j, rfl⟩ : ∃ j, i = j + 1 := ⟨i - 1, by omega⟩
  rw [List.getElem?_cons_succ, List.getElem?_append_right (by simp; omega), List.length_map, List.getElem?_replicate, if_pos (by omega)]
end Go.Proofs.Ytklndjkblfncjaa
