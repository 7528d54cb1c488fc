/-
  The cells of a type as a plain list, as many as its width says; the cells of a value lie in their ranges. No program is named here.
-/
import Derived.Test.YtklndjkblfncjaaGreatDoorTree
namespace Go.Proofs.YtklndjkblfncjaaGreatDoor

/-- The cells of a type: kind, least and greatest number. -/
def tparts : Nat → Ty → List (Int × Int × Int)
  | 0, _ => []
  | d + 1, T =>
    if T.k = 1 then [(1, 0, 1)]
    else if T.k = 2 then [(2, T.lo, T.hi)]
    else if T.k = 3 ∨ T.k = 4 then [(T.k, 0, 0)]
    else if T.k = 6 then (2, 0, T.mx) :: (List.replicate T.mx.toNat (tparts d (T.es.headD (.mk 0 0 0 0 [])))).flatten
    else (T.es.map (tparts d)).flatten

theorem flatten_next {α : Type} {P : List (List α)} {i : Nat} {x : List α} (h : P[i]? = some x) : (P.take (i + 1)).flatten = (P.take i).flatten ++ x := by
  rw [List.take_add_one, h]; simp
theorem flatten_take_le {α : Type} (P : List (List α)) (i : Nat) : (P.take i).flatten.length ≤ P.flatten.length := by
  induction P generalizing i with
  | nil => simp
  | cons y P ih =>
    cases i with
    | zero => simp
    | succ i => rw [List.take_succ_cons, List.flatten_cons, List.flatten_cons, List.length_append, List.length_append]; have := ih i; omega
theorem flat_rep {α : Type} (n : Nat) (x : List α) : (List.replicate n x).flatten.length = n * x.length := by
  induction n with
  | zero => simp
  | succ n ih => rw [List.replicate_succ, List.flatten_cons, List.length_append, ih, Nat.add_mul]; omega

/-- At depth d at least one level is looked at. -/
theorem tparts_leaf {d : Nat} {T : Ty} (hk : T.k = 1 ∨ T.k = 2) : (tparts (d + 1) T).length = 1 ∧ twidth (d + 1) T = 1 := by
  constructor
  · unfold tparts
    rcases hk with h | h
    · rw [if_pos h]; rfl
    · rw [if_neg (by omega), if_pos h]; rfl
  · unfold twidth
    rw [if_neg (by omega), if_neg (by omega)]

/-- The depth that a type needs. -/
def deepOk : Nat → Ty → Prop
  | 0, _ => False
  | d + 1, T => ∀ e ∈ T.es, deepOk d e
theorem parts_width : ∀ (d : Nat) (T : Ty), deepOk d T → TyOk d T → (tparts d T).length = twidth d T
  | 0, _, h, _ => h.elim
  | d + 1, T, hd, hok => by
    have IH := parts_width d
    rcases hok.kinds with h | h | h | h | h | h
    · simp [tparts, twidth, h]
    · simp [tparts, twidth, h]
    · simp [tparts, twidth, h]
    · simp [tparts, twidth, h]
    · obtain ⟨_, _, _, hels⟩ := hok.tuple h
      simp only [tparts, twidth, h]
      simp only [show (5 : Int) ≠ 1 by decide, show (5 : Int) ≠ 2 by decide, show ¬ ((5 : Int) = 3 ∨ (5 : Int) = 4) by decide, show (5 : Int) ≠ 6 by decide, if_false, if_true]
      rw [List.length_flatten, List.map_map]
      congr 1
      apply List.map_congr_left
      intro e he
      exact IH e (hd e he) (hels e he).1
    · obtain ⟨_, h1, h4, e, he, hoe, hke⟩ := hok.list h
      have hde : deepOk d e := hd e (by rw [he]; exact List.mem_singleton.2 rfl)
      have hw := IH e hde hoe
      simp only [tparts, twidth, h, he, List.headD_cons, List.map_cons]
      simp only [show (6 : Int) ≠ 1 by decide, show (6 : Int) ≠ 2 by decide, show ¬ ((6 : Int) = 3 ∨ (6 : Int) = 4) by decide, show (6 : Int) ≠ 5 by decide, if_false, if_true]
      rw [List.length_cons, flat_rep, hw]; omega
theorem width_pos : ∀ (d : Nat) (T : Ty), deepOk d T → TyOk d T → 0 < twidth d T
  | 0, _, h, _ => h.elim
  | d + 1, T, hd, hok => by
    have IH := width_pos d
    unfold twidth
    split
    · next h =>
      obtain ⟨_, h2, _, hels⟩ := hok.tuple h
      cases hes : T.es with
      | nil => rw [hes] at h2; simp at h2
      | cons e l =>
        have := IH e (hd e (by rw [hes]; exact List.mem_cons_self)) (hels e (by rw [hes]; exact List.mem_cons_self)).1
        rw [List.map_cons, List.sum_cons]; omega
    · split <;> omega
end Go.Proofs.YtklndjkblfncjaaGreatDoor
