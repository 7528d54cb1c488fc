/-
  The lexer's tokens are good: the end stands last, names and numbers are no keywords and no signs. No program is named here.
-/
import Derived.Test.YtggdhgppclnckaaGreatDoorPsP
namespace Go.Proofs.YtggdhgppclnckaaGreatDoor
open Go.RowKit Lx

namespace Ps
/-- One token, as the lexer makes it. -/
structure TokOk (t : Tok) : Prop where
  kinds : t.k = 1 ∨ t.k = 2 ∨ t.k = 3 ∨ t.k = 4
  words : t.k ≠ 3 → t.k ≠ 4 → kwB t.t = false ∧ sgB t.t = false
  nums : t.k = 2 → 0 < t.t.length ∧ t.t.length ≤ 60 ∧ ∀ c ∈ t.t, isD c.toNat = true
  pos : 0 < t.t.length
theorem run_all (q : Nat → UInt8 → Bool) (p : UInt8 → Prop) (hq : ∀ i c, q i c = true → p c) : ∀ (l : Bs) (i : Nat), ∀ c ∈ l.take (gRun q i l), p c
  | [], _, c, h => by simp at h
  | x :: l, i, c, h => by
    rw [gRun] at h
    split at h
    · next hx =>
      rw [List.take_succ_cons] at h
      rcases List.mem_cons.1 h with rfl | h
      · exact hq i _ hx
      · exact run_all q p hq l (i + 1) c h
    · simp at h
theorem first_run {q : Nat → UInt8 → Bool} {c : UInt8} {r : Bs} (h : 0 < gRun q 0 (c :: r)) : q 0 c = true := by
  rw [gRun] at h
  split at h
  · next hx => exact hx
  · omega
theorem sign_head {t : Bs} (h : sgB t = true) : ∃ c r, t = c :: r ∧ isL c.toNat = false ∧ isD c.toNat = false := by
  unfold sgB at h
  simp only [Bool.or_eq_true, List.contains_iff_mem] at h
  have : t ∈ signs2 ++ signs1 := by simpa using h
  revert this
  generalize hs : signs2 ++ signs1 = S
  intro ht
  have key : ∀ x ∈ signs2 ++ signs1, ∃ c r, x = c :: r ∧ isL c.toNat = false ∧ isD c.toNat = false := by
    intro x hx
    simp only [signs2, signs1, List.cons_append, List.nil_append, List.mem_cons, List.not_mem_nil, or_false] at hx
    rcases hx with rfl | rfl | rfl | rfl | rfl | rfl | rfl | rfl | rfl | rfl | rfl | rfl | rfl | rfl | rfl | rfl | rfl | rfl | rfl | rfl | rfl | rfl | rfl | rfl | rfl | rfl <;> exact ⟨_, _, rfl, by decide, by decide⟩
  exact key t (hs ▸ ht)
theorem kw_head {t : Bs} (h : kwB t = true) : ∃ c r, t = c :: r ∧ isD c.toNat = false := by
  unfold kwB at h
  have ht : t ∈ kws := by simpa using h
  have key : ∀ x ∈ kws, x ≠ [] ∧ isD (x.headD 0).toNat = false := by decide
  obtain ⟨h1, h2⟩ := key t ht
  match t, h1 with
  | c :: r, _ => exact ⟨c, r, rfl, by simpa using h2⟩
theorem tokAt_ok {c : UInt8} {r : Bs} {k : Int} {n : Nat} (ln co : Int) (h : tokAt (c :: r) = .yes k n) : TokOk ⟨k, (c :: r).take n, ln, co⟩ := by
  obtain ⟨hp, hl⟩ := tokAt_pos h
  have hlen : 0 < ((c :: r).take n).length := by rw [List.length_take]; omega
  unfold tokAt at h
  split at h
  · next hN =>
    have hL : isL c.toNat = true := by have := first_run hN; simpa [qN] using this
    split at h
    · next hk =>
      injection h with h1 h2
      subst h1 h2
      exact ⟨by simp, fun h => absurd rfl h, fun h => by simp at h, hlen⟩
    · next hk =>
      split at h
      · cases h
      · injection h with h1 h2
        subst h1 h2
        refine ⟨by simp, fun _ _ => ⟨by simpa using hk, ?_⟩, fun h => by simp at h, hlen⟩
        cases hs : sgB ((c :: r).take (gRun qN 0 (c :: r))) with
        | false => rfl
        | true =>
          obtain ⟨c', r', he, h1, _⟩ := sign_head hs
          obtain ⟨m, hm⟩ := Nat.exists_eq_succ_of_ne_zero (Nat.pos_iff_ne_zero.1 hN)
          rw [hm, List.take_succ_cons] at he
          injection he with he _
          rw [← he, hL] at h1
          cases h1
  · split at h
    · next hD =>
      split at h
      · cases h
      · next h60 =>
        injection h with h1 h2
        subst h1 h2
        have hcD : isD c.toNat = true := by have := first_run hD; simpa [qD] using this
        obtain ⟨m, hm⟩ := Nat.exists_eq_succ_of_ne_zero (Nat.pos_iff_ne_zero.1 hD)
        refine ⟨by simp, fun _ _ => ⟨?_, ?_⟩, fun _ => ⟨hlen, by rw [List.length_take]; omega, run_all qD (fun c => isD c.toNat = true) (fun i c h => by simpa [qD] using h) _ 0⟩, hlen⟩
        · cases hs : kwB ((c :: r).take (gRun qD 0 (c :: r))) with
          | false => rfl
          | true =>
            obtain ⟨c', r', he, h1⟩ := kw_head hs
            rw [hm, List.take_succ_cons] at he
            injection he with he _
            rw [← he, hcD] at h1
            cases h1
        · cases hs : sgB ((c :: r).take (gRun qD 0 (c :: r))) with
          | false => rfl
          | true =>
            obtain ⟨c', r', he, _, h1⟩ := sign_head hs
            rw [hm, List.take_succ_cons] at he
            injection he with he _
            rw [← he, hcD] at h1
            cases h1
    · split at h
      · injection h with h1 h2
        subst h1 h2
        exact ⟨by simp, fun _ h => absurd rfl h, fun h => by simp at h, hlen⟩
      · cases h
/-- All tokens but the end are ok, and there are at most as many as bytes. -/
theorem lex_good : ∀ (f : Nat) (l : Bs) (p : Int × Int) (T : List Tok), l.length < f → lexF f l p = .ok T → ∃ (I : List Tok) (a b : Int), T = I ++ [⟨5, [], a, b⟩] ∧ (∀ t ∈ I, TokOk t) ∧ I.length ≤ l.length
  | 0, l, p, T, hf, h => by omega
  | f + 1, [], p, T, hf, h => by
    rw [lexF] at h
    injection h with h
    exact ⟨[], _, _, h.symm, fun t ht => by simp at ht, by simp⟩
  | f + 1, c :: r, p, T, hf, h => by
    have hr : r.length < f := by simpa using hf
    rw [lexF] at h
    split at h
    · obtain ⟨I, a, b, h1, h2, h3⟩ := lex_good f r _ T hr h
      exact ⟨I, a, b, h1, h2, by simp; omega⟩
    · split at h
      · next hc =>
        have h0 := com_pos (r := r) hc
        have hd : ((c :: r).drop (gRun qC 0 (c :: r))).length ≤ r.length := by rw [List.length_drop]; simp; omega
        obtain ⟨I, a, b, h1, h2, h3⟩ := lex_good f _ _ T (by omega) h
        exact ⟨I, a, b, h1, h2, by simp at h3 ⊢; omega⟩
      · split at h
        · cases h
        · next k n hk =>
          obtain ⟨hp, hl⟩ := tokAt_pos hk
          have hd : ((c :: r).drop n).length ≤ r.length := by rw [List.length_drop]; simp; omega
          cases ho : lexF f ((c :: r).drop n) (mvs p ((c :: r).take n)) with
          | bad a b e => rw [ho] at h; cases h
          | ok T' =>
            rw [ho] at h
            injection h with h
            obtain ⟨I, a, b, h1, h2, h3⟩ := lex_good f _ _ T' (by omega) ho
            refine ⟨⟨k, (c :: r).take n, p.1, p.2⟩ :: I, a, b, by rw [← h, h1]; rfl, fun t ht => ?_, by simp at hd h3 ⊢; omega⟩
            rcases List.mem_cons.1 ht with rfl | ht
            · exact tokAt_ok _ _ hk
            · exact h2 t ht
theorem good_lex {l : Bs} {p : Int × Int} {T : List Tok} (hl : l.length ≤ 8192) (h : lex l p = .ok T) : Good T := by
  obtain ⟨I, a, b, rfl, hI, hn⟩ := lex_good (l.length + 1) l p T (by omega) h
  have hm : ∀ t ∈ I ++ [(⟨5, [], a, b⟩ : Tok)], t ∈ I ∨ t = ⟨5, [], a, b⟩ := fun t ht => by simpa using ht
  refine ⟨by simp, by simp; omega, fun i hi => ?_, fun t ht hk => ?_, fun t ht => ?_, fun t ht h3 h4 => ?_, fun t ht hk => ?_⟩
  · simp only [List.length_append, List.length_cons, List.length_nil] at hi ⊢
    by_cases h1 : i < I.length
    · rw [List.getElem_append_left h1]
      have := (hI _ (List.getElem_mem h1)).kinds
      constructor
      · intro h; omega
      · intro h; omega
    · have : i = I.length := by omega
      subst this
      simp
  · rcases hm t ht with h | rfl
    · have := (hI t h).kinds; omega
    · rfl
  · rcases hm t ht with h | rfl
    · have := (hI t h).kinds; omega
    · simp
  · rcases hm t ht with h | rfl
    · exact (hI t h).words h3 h4
    · exact ⟨by show kwB [] = false; decide, by show sgB [] = false; decide⟩
  · rcases hm t ht with h | rfl
    · exact (hI t h).nums hk
    · simp at hk
end Ps
end Go.Proofs.YtggdhgppclnckaaGreatDoor
