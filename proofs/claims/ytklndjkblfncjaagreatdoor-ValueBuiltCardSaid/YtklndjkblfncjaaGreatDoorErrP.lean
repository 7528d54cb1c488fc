/-
  The errors of types as the walks meet them: of Validate, and of a type of values; how wide a type without a fault may be. No program is named here.
-/
import Derived.Test.YtklndjkblfncjaaGreatDoorReadP
namespace Go.Proofs.YtklndjkblfncjaaGreatDoor

/-- The error of Validate for a type that is not too deep. -/
def tvErr (d : Nat) (T : Ty) : Int := if terr d T ≠ 0 then terr d T else if 24 < twidth d T then 9 else 0
/-- The error of a type of values. -/
def tyErr (d : Nat) (T : Ty) : Int := if tvErr d T ≠ 0 then tvErr d T else if T.k = 4 then 8 else 0
theorem tvErr_zero {d : Nat} {T : Ty} : tvErr d T = 0 ↔ TyOk d T ∧ twidth d T ≤ 24 := by
  unfold tvErr TyOk
  by_cases h : terr d T = 0
  · rw [if_neg (by simpa using h)]
    by_cases h2 : 24 < twidth d T
    · rw [if_pos h2]; simp; intro _; omega
    · rw [if_neg h2]; simp [h]; omega
  · rw [if_pos h]; simp [h]
theorem tyErr_zero {d : Nat} {T : Ty} : tyErr d T = 0 ↔ tvErr d T = 0 ∧ T.k ≠ 4 := by
  unfold tyErr
  by_cases h : tvErr d T = 0
  · rw [if_neg (by simpa using h)]
    by_cases h2 : T.k = 4
    · rw [if_pos h2]; simp [h2]
    · rw [if_neg h2]; simp [h, h2]
  · rw [if_pos h]; simp [h]
/-- The error of a value of a type. -/
def ckErr (d : Nat) (T : Ty) (V : Vl) : Int := if tyErr d T ≠ 0 then tyErr d T else verr d T V
theorem sum_all_le {l : List Nat} {k : Nat} (h : ∀ x ∈ l, x ≤ k) : l.sum ≤ l.length * k := by
  induction l with
  | nil => simp
  | cons x l ih =>
    rw [List.sum_cons, List.length_cons, Nat.succ_mul]
    have := h x (by simp)
    have := ih fun y hy => h y (List.mem_cons_of_mem _ hy)
    omega
theorem width_le : ∀ (d : Nat) (T : Ty), deepOk d T → TyOk d T → twidth d T ≤ 5 * 4 ^ d
  | 0, _, h, _ => h.elim
  | d + 1, T, hd, hok => by
    have IH := width_le d
    have hp : 1 ≤ 4 ^ d := Nat.pos_of_ne_zero (by simp)
    rw [Nat.pow_succ]
    by_cases k5 : T.k = 5
    · obtain ⟨_, _, h4, hels⟩ := hok.tuple k5
      simp only [twidth, if_pos k5]
      have h1 := sum_all_le (l := T.es.map (twidth d)) (k := 5 * 4 ^ d) fun x hx => by
        obtain ⟨e, he, rfl⟩ := List.mem_map.1 hx
        exact IH e (hd e he) (hels e he).1
      rw [List.length_map] at h1
      have := Nat.mul_le_mul_right (5 * 4 ^ d) h4
      omega
    · by_cases k6 : T.k = 6
      · obtain ⟨_, h1, h4, e, he, hoe, hke⟩ := hok.list k6
        have hde : deepOk d e := hd e (by rw [he]; exact List.mem_singleton.2 rfl)
        have hw1 : twidth d e = 1 := by
          cases d with
          | zero => exact hde.elim
          | succ d => exact (tparts_leaf hke).2
        simp only [twidth, if_neg k5, if_pos k6, he, List.map_cons, List.headD_cons, hw1]
        omega
      · simp only [twidth, if_neg k5, if_neg k6]; omega
theorem width_top {d : Nat} {T : Ty} (hdeep : deepOk d T) (hok : TyOk d T) (hd : d ≤ 10) : twidth d T ≤ 5242880 := by
  have h1 := width_le d T hdeep hok
  have h2 : 4 ^ d ≤ 4 ^ 10 := Nat.pow_le_pow_right (by omega) hd
  have h3 : (4 : Nat) ^ 10 = 1048576 := by decide
  omega
end Go.Proofs.YtklndjkblfncjaaGreatDoor
