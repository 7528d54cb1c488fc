/-
  What CoreReads says of forms as trees. No function of the program is named here.
-/
import Derived.Test.YtlhncmnhpnhfhaaFxQ
namespace Go.Proofs.Ytlhncmnhpnhfhaa
open Go Go.RowKit
namespace Fx

theorem parts_fine {n : Nat} : ∀ (k lv : Nat) (f : Fm), Fine n f → ∀ p ∈ parts k lv f, Fine n p.2 := by
  intro k
  induction k with
  | zero => intro lv f _ p hp; simp [parts] at hp
  | succ k ih =>
    intro lv f hf p hp
    simp only [parts, List.mem_cons, List.mem_flatMap] at hp
    rcases hp with rfl | ⟨a, ha, hp⟩
    · exact hf
    · exact ih (lv + 1) a (hf.eq.2.2.2 a ha) p hp
theorem arity_le (o : Int) : arity o ≤ 3 := by
  unfold arity
  repeat' split
  all_goals omega
theorem flat_len {α β : Type} (F : α → List β) (m : Nat) : ∀ l : List α, (∀ a ∈ l, (F a).length ≤ m) → (l.flatMap F).length ≤ l.length * m
  | [], _ => by simp
  | a :: l, h => by
    have h1 := h a (by simp)
    have h2 := flat_len F m l fun x hx => h x (by simp [hx])
    simp only [List.flatMap_cons, List.length_append, List.length_cons]
    rw [Nat.add_mul]
    omega
theorem parts_len {n : Nat} : ∀ (d k lv : Nat) (f : Fm), Fine n f → Deep d f → (parts k lv f).length ≤ 4 ^ d := by
  intro d
  induction d with
  | zero => intro k lv f _ h; obtain ⟨_, e, _⟩ := h.args; omega
  | succ d ih =>
    intro k lv f hf hd
    obtain ⟨d', e, hd'⟩ := hd.args
    obtain rfl : d' = d := by omega
    cases k with
    | zero => simp [parts]
    | succ k =>
      obtain ⟨h0, _, _, h3⟩ := hf.eq
      have h4 := flat_len (parts k (lv + 1)) (4 ^ d') f.args fun a ha => ih k (lv + 1) a (h3 a ha) (hd' a ha)
      have h5 := arity_le f.op
      have h6 : f.args.length * 4 ^ d' ≤ 3 * 4 ^ d' := Nat.mul_le_mul_right _ (by omega)
      have h7 : 0 < 4 ^ d' := Nat.pow_pos (by omega)
      simp only [parts, List.length_cons]
      rw [Nat.pow_succ]
      omega
theorem ev_congr {n : Nat} {s t : Nat → Int} : ∀ (d k lv : Nat) (f : Fm), Fine n f → Deep d f → d ≤ k → (∀ p ∈ parts k lv f, p.2.op = 3 → s p.2.num.toNat = t p.2.num.toNat) → ev s f = ev t f := by
  intro d
  induction d with
  | zero => intro k lv f _ h; obtain ⟨_, e, _⟩ := h.args; omega
  | succ d ih =>
    intro k lv f hf hd hk hp
    obtain ⟨d', e, hd'⟩ := hd.args
    obtain rfl : d' = d := by omega
    obtain ⟨k, rfl⟩ : ∃ j, k = j + 1 := ⟨k - 1, by omega⟩
    obtain ⟨_, _, _, h3⟩ := hf.eq
    have hm : f.args.map (ev s) = f.args.map (ev t) := List.map_congr_left fun a ha => ih k (lv + 1) a (h3 a ha) (hd' a ha) (by omega) fun p hpa => hp p (by simp only [parts, List.mem_cons, List.mem_flatMap]; exact .inr ⟨a, ha, hpa⟩)
    rw [ev_eq s, ev_eq t, hm]
    unfold ev1
    by_cases h : f.op = 3
    · rw [hp (lv, f) (by simp [parts]) h]
    · rw [if_neg h, if_neg h]
end Fx
end Go.Proofs.Ytlhncmnhpnhfhaa
