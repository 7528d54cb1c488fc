/-
  The reference's small functions of forms, and the number of a form's parts.
-/
import Derived.Test.YtlhncmnhpnhfhaaFxL
namespace Go.Proofs.Ytlhncmnhpnhfhaa
open Go Go.RowKit Go.Shelf
set_option maxRecDepth 20000
namespace Fx

mutual
/-- The number of parts. -/
def sz : Fm → Nat
  | .mk _ _ xs => 1 + szs xs
def szs : List Fm → Nat
  | [] => 0
  | a :: xs => sz a + szs xs
end
theorem szs_sum (xs : List Fm) : szs xs = (xs.map sz).sum := by
  induction xs with
  | nil => simp [szs]
  | cons a xs ih => simp [szs, ih]
theorem sz_eq (f : Fm) : sz f = 1 + (f.args.map sz).sum := by
  cases f; simp [sz, szs_sum, Fm.args]
theorem sz_kid {f a : Fm} (h : a ∈ f.args) : sz a + 1 ≤ sz f := by
  rw [sz_eq f]
  have : ∀ l : List Fm, a ∈ l → sz a ≤ (l.map sz).sum := by
    intro l
    induction l with
    | nil => simp
    | cons b l ih =>
      intro hm
      simp only [List.map_cons, List.sum_cons]
      rcases List.mem_cons.1 hm with rfl | hm
      · omega
      · have := ih hm; omega
  have := this _ h
  omega
theorem deep_sz : ∀ f : Fm, Deep (sz f) f := by
  refine Fm.ind' fun f ih => ?_
  have h1 : sz f = (f.args.map sz).sum + 1 := by rw [sz_eq]; omega
  rw [h1]
  exact Deep.of fun a ha => (ih a ha).up _ (by have := sz_kid ha; omega)
theorem sum_take (xs : List Fm) {i : Nat} {a : Fm} (h : xs[i]? = some a) : ((xs.take (i + 1)).map sz).sum = ((xs.take i).map sz).sum + sz a := by
  rw [List.take_add_one, h]; simp
theorem sum_take_le (xs : List Fm) (i : Nat) : ((xs.take i).map sz).sum ≤ (xs.map sz).sum := by
  conv => rhs; rw [← List.take_append_drop i xs]
  rw [List.map_append, List.sum_append]; omega
theorem parts_sz : ∀ (k lv : Nat) (f : Fm), (parts k lv f).length ≤ sz f
  | 0, _, _ => Nat.zero_le _
  | k + 1, lv, f => by
    rw [sz_eq, parts, List.length_cons, List.length_flatMap]
    have h : ∀ l : List Fm, (l.map fun a => (parts k (lv + 1) a).length).sum ≤ (l.map sz).sum := by
      intro l
      induction l with
      | nil => simp
      | cons a l ih => have := parts_sz k (lv + 1) a; simp only [List.map_cons, List.sum_cons]; omega
    have := h f.args
    omega

mutual
/-- Every part is so. -/
def al (p : Fm → Bool) : Fm → Bool
  | .mk o k xs => p (.mk o k xs) && als p xs
def als (p : Fm → Bool) : List Fm → Bool
  | [] => true
  | a :: xs => al p a && als p xs
end
theorem als_all (p : Fm → Bool) (xs : List Fm) : als p xs = xs.all (al p) := by
  induction xs with
  | nil => simp [als]
  | cons a xs ih => simp [als, ih]
theorem al_eq (p : Fm → Bool) (f : Fm) : al p f = (p f && f.args.all (al p)) := by
  cases f; simp [al, als_all, Fm.args]
theorem any_parts (q : Fm → Bool) : ∀ (d k lv : Nat) (f : Fm), Deep d f → d ≤ k → (parts k lv f).any (fun p => q p.2) = !al (fun x => !q x) f := by
  intro d
  induction d with
  | zero => intro k lv f h; obtain ⟨_, e, _⟩ := h.args; omega
  | succ d ih =>
    intro k lv f h hk
    obtain ⟨d', e, hd⟩ := h.args
    obtain rfl : d' = d := by omega
    obtain ⟨j, rfl⟩ : ∃ j, k = j + 1 := ⟨k - 1, by omega⟩
    rw [al_eq, parts, List.any_cons, List.any_flatMap]
    have h2 : ∀ l : List Fm, (∀ a ∈ l, Deep d' a) → (l.any fun a => (parts j (lv + 1) a).any fun p => q p.2) = !l.all (al fun x => !q x) := by
      intro l hl
      induction l with
      | nil => rfl
      | cons a l ihl =>
        rw [List.any_cons, List.all_cons, ih j (lv + 1) a (hl a (by simp)) (by omega), ihl fun b hb => hl b (by simp [hb])]
        simp
    rw [h2 _ hd]
    simp
/-- The error of a form that is not too deep. -/
theorem ferr_al {n : Nat} {f : Fm} (h : Deep 200 f) : ferr n f = if al (fun x => !broken x) f = false then 2 else if al (fun x => !decide (x.op = 2)) f = false then 8 else if al (fun x => !unknown n x) f = false then 1 else 0 := by
  have h9 : (parts 201 1 f).any (fun p => decide (200 < p.1)) = false := by
    rw [List.any_eq_false]
    have hlev : ∀ (d k lv : Nat) (f : Fm), Deep d f → d ≤ k → ∀ p ∈ parts k lv f, p.1 < lv + d := by
      intro d
      induction d with
      | zero => intro k lv f h; obtain ⟨_, e, _⟩ := h.args; omega
      | succ d ih =>
        intro k lv f h hk p hp
        obtain ⟨d', e, hd⟩ := h.args
        obtain rfl : d' = d := by omega
        obtain ⟨j, rfl⟩ : ∃ j, k = j + 1 := ⟨k - 1, by omega⟩
        simp only [parts, List.mem_cons, List.mem_flatMap] at hp
        rcases hp with rfl | ⟨a, ha, hp⟩
        · simp
        · have := ih j (lv + 1) a (hd a ha) (by omega) p hp; omega
    intro p hp
    have := hlev 200 201 1 f h (by omega) p hp
    simp; omega
  have g := fun q => any_parts q 200 201 1 f h (by omega)
  have g1 := g broken
  have g2 := g fun x => decide (x.op = 2)
  have g3 := g (unknown n)
  unfold ferr
  simp only [h9, g1, g2, g3]
  simp

theorem arity_ref (o : Int) (w : World) : Calls Try.prog 37 #[.int .i64 o] w fun e w' => e = .returned (.int .i64 (arity o)) ∧ w' = w := by
  by_cases h1 : o < 1
  · go_enter Try.func37, Try.ntmps37
    go_wp2
    go_ret
    refine ⟨ret_int ?_, rfl⟩
    unfold arity
    repeat' split
    all_goals omega
  by_cases h2 : 13 < o
  · go_enter Try.func37, Try.ntmps37
    go_wp2
    go_ret
    refine ⟨ret_int ?_, rfl⟩
    unfold arity
    repeat' split
    all_goals omega
  by_cases h3 : o ≤ 3
  · go_enter Try.func37, Try.ntmps37
    go_wp2
    go_ret
    refine ⟨ret_int ?_, rfl⟩
    unfold arity
    repeat' split
    all_goals omega
  by_cases h4 : o = 4
  · subst h4
    go_enter Try.func37, Try.ntmps37
    go_wp2
    go_ret
    exact ⟨rfl, rfl⟩
  by_cases h5 : o = 13
  · subst h5
    go_enter Try.func37, Try.ntmps37
    go_wp2
    go_ret
    exact ⟨rfl, rfl⟩
  · go_enter Try.func37, Try.ntmps37
    go_wp2
    go_ret
    refine ⟨ret_int ?_, rfl⟩
    unfold arity
    repeat' split
    all_goals omega

theorem truth_ref (b : Bool) (w : World) : Calls Try.prog 39 #[.bool b] w fun e w' => e = .returned (.int .i64 (truth b)) ∧ w' = w := by
  cases b
  all_goals
    go_enter Try.func39, Try.ntmps39
    go_wp2
    go_ret
    exact ⟨rfl, rfl⟩

theorem bounded_ref (n : Int) (w : World) : Calls Try.prog 38 #[.int .i64 n] w fun e w' => e = .returned (.int .i64 (limited n)) ∧ w' = w := by
  go_enter Try.func38, Try.ntmps38
  go_wp2
  all_goals
    go_ret
    refine ⟨ret_int ?_, rfl⟩
    unfold limited
    omega
end Fx
end Go.Proofs.Ytlhncmnhpnhfhaa
