/-
  Tokens that are read again (plain lists).
-/
import Derived.Test.YtenobkhiekhohaaLexPP
namespace Go.Proofs.Ytenobkhiekhohaa
open Go Go.RowKit Lx

def seps : Bs := [32, 10, 9, 35]
/-- A token that is read again wherever it stands ahead of a separator. -/
def Rl (t : Tok) : Prop := t.t.length ≤ 60 ∧ ∃ c r, t.t = c :: r ∧ isB c.toNat = false ∧ (c.toNat : Int) ≠ 35 ∧ ∀ d Y, d ∈ seps → tokAt (t.t ++ d :: Y) = .yes t.k t.t.length
theorem gRun_cut {q : Nat → UInt8 → Bool} {l : Bs} {m : Nat} (hm : gRun q 0 l = m) {d : UInt8} (hd : q m d = false) (Y : Bs) : gRun q 0 (l.take m ++ d :: Y) = m := by
  have hml : m ≤ l.length := by rw [← hm]; exact gRun_le ..
  have hlt : (l.take m).length = m := by rw [List.length_take]; omega
  refine gRun_eq _ _ _ _ (by rw [List.length_append]; omega) (fun j hj hjm => ?_) (fun h => ?_)
  · have h1 := gRun_at q l 0 j (by omega) (by omega)
    rw [List.getElem_append_left (by omega), List.getElem_take]; exact h1
  · rw [List.getElem_append_right (by omega)]
    simp only [hlt, Nat.sub_self, List.getElem_cons_zero, Nat.zero_add]; exact hd
theorem sep_class : ∀ d ∈ seps, isL (d : UInt8).toNat = false ∧ isD (d : UInt8).toNat = false := by decide
theorem sep_sign : ∀ d ∈ seps, ∀ t ∈ signs2, t[1]? ≠ some d := by decide
theorem tok_again {l : Bs} {k : Int} {m : Nat} (h : tokAt l = .yes k m) (hb : ∀ c r, l = c :: r → isB c.toNat = false ∧ (c.toNat : Int) ≠ 35) (ln co : Int) : Rl ⟨k, l.take m, ln, co⟩ := by
  obtain ⟨hm0, hml⟩ := tokAt_pos h
  have hlt : (l.take m).length = m := by rw [List.length_take]; omega
  have h60 : m ≤ 60 := by
    unfold tokAt at h
    split at h
    · split at h
      · next hk =>
        injection h with _ h2
        have := kwB_short hk
        rw [h2] at this; omega
      · split at h
        · cases h
        · injection h; omega
    · split at h
      · split at h
        · cases h
        · injection h; omega
      · split at h
        · injection h with _ h2; have := sgn_two l; omega
        · cases h
  cases l with
  | nil => simp at hml; omega
  | cons c r =>
    obtain ⟨b1, b2⟩ := hb c r rfl
    obtain ⟨j, rfl⟩ : ∃ j, m = j + 1 := ⟨m - 1, by omega⟩
    refine ⟨by show ((c :: r).take (j + 1)).length ≤ 60; omega, c, r.take j, rfl, b1, b2, fun d Y hd => ?_⟩
    show tokAt ((c :: r).take (j + 1) ++ d :: Y) = .yes k ((c :: r).take (j + 1)).length
    rw [hlt]
    obtain ⟨d1, d2⟩ := sep_class d hd
    have htk : ((c :: r).take (j + 1) ++ d :: Y).take (j + 1) = (c :: r).take (j + 1) := by rw [List.take_append_of_le_length (by omega), List.take_of_length_le (by omega)]
    by_cases hn : 0 < gRun qN 0 (c :: r)
    · have hm : gRun qN 0 (c :: r) = j + 1 := by
        unfold tokAt at h
        rw [if_pos hn] at h
        split at h
        · injection h
        · split at h
          · cases h
          · injection h
      have h2 := gRun_cut hm (d := d) (by unfold qN; rw [d1, d2]; simp) Y
      unfold tokAt at h ⊢
      rw [hm] at h
      rw [h2, htk]; exact h
    · have hn0 : gRun qN 0 (c :: r) = 0 := by omega
      have hcL := not_name hn0
      have hn2 : gRun qN 0 ((c :: r).take (j + 1) ++ d :: Y) = 0 := by
        rw [List.take_succ_cons, List.cons_append, gRun, if_neg (by unfold qN; rw [hcL]; simp)]
      by_cases hg : 0 < gRun qD 0 (c :: r)
      · have hm : gRun qD 0 (c :: r) = j + 1 := by
          unfold tokAt at h
          rw [if_neg hn, if_pos hg] at h
          split at h
          · cases h
          · injection h
        have h2 := gRun_cut hm (d := d) (by unfold qD; exact d2) Y
        unfold tokAt at h ⊢
        rw [hn0, hm] at h
        rw [hn2, h2]; exact h
      · have hg0 : gRun qD 0 (c :: r) = 0 := by omega
        have hcD : isD c.toNat = false := by
          rw [gRun] at hg0
          split at hg0
          · omega
          · next hc => simpa [qD] using hc
        have hg2 : gRun qD 0 ((c :: r).take (j + 1) ++ d :: Y) = 0 := by
          rw [List.take_succ_cons, List.cons_append, gRun, if_neg (by unfold qD; rw [hcD]; simp)]
        have hm : sgn (c :: r) = j + 1 := by
          unfold tokAt at h
          rw [if_neg hn, if_neg hg] at h
          split at h
          · injection h
          · cases h
        have hs2 : sgn ((c :: r).take (j + 1) ++ d :: Y) = j + 1 := by
          unfold sgn at hm ⊢
          split at hm
          · next h2 =>
            obtain rfl : j = 1 := by omega
            have e : ((c :: r).take 2 ++ d :: Y).take 2 = (c :: r).take 2 := htk
            rw [e, if_pos h2]
          · next h2 =>
            split at hm
            · next h1 =>
              obtain rfl : j = 0 := by omega
              have e : ((c :: r).take 1 ++ d :: Y).take 2 = [c, d] := by simp
              have e1 : ((c :: r).take 1 ++ d :: Y).take 1 = (c :: r).take 1 := htk
              have hno : signs2.contains [c, d] = false := by
                rw [Bool.eq_false_iff]
                intro hc
                exact sep_sign d hd [c, d] (by simpa using hc) rfl
              rw [e, e1, hno, if_neg (by simp), if_pos h1]
            · omega
        unfold tokAt at h ⊢
        rw [hn0, hg0, hm] at h
        rw [hn2, hg2, hs2]; exact h

/-- Tokens that are read again, and the end. -/
inductive Toks : List Tok → Prop where
  | last (e : Tok) : e.k = 5 → e.t = [] → Toks [e]
  | more (t : Tok) (ts : List Tok) : Rl t → Toks ts → Toks (t :: ts)
def cls (c : UInt8) : Nat := if isL c.toNat then 1 else if isD c.toNat then 2 else 0
/-- At how many places a token may begin, behind a byte of class a. -/
def brk : Nat → Bs → Nat
  | _, [] => 0
  | a, c :: r => (if cls c ≠ 0 ∧ cls c = a then 0 else 1) + brk (cls c) r
def lastCls : Nat → Bs → Nat
  | a, [] => a
  | _, c :: r => lastCls (cls c) r
theorem brk_append (a : Nat) (x y : Bs) : brk a (x ++ y) = brk a x + brk (lastCls a x) y := by
  induction x generalizing a with
  | nil => simp [brk, lastCls]
  | cons c r ih => simp only [List.cons_append, brk, lastCls]; rw [ih]; omega
theorem brk_zero (a : Nat) (x : Bs) : brk a x ≤ brk 0 x := by
  cases x with
  | nil => exact Nat.le_refl _
  | cons c r =>
    simp only [brk]
    have : ¬ (cls c ≠ 0 ∧ cls c = 0) := fun h => h.1 h.2
    rw [if_neg this]
    split <;> omega
theorem brk_cat (x y : Bs) : brk 0 (x ++ y) ≤ brk 0 x + brk 0 y := by
  rw [brk_append]; have := brk_zero (lastCls 0 x) y; omega
theorem brk_drop (a : Nat) (l : Bs) (m : Nat) : brk (lastCls a (l.take m)) (l.drop m) ≤ brk a l := by
  have h := brk_append a (l.take m) (l.drop m)
  rw [List.take_append_drop] at h; omega
/-- A token may begin here. -/
def Bd (a : Nat) (l : Bs) : Prop := ∀ c r, l = c :: r → ¬ (cls c ≠ 0 ∧ cls c = a)
theorem brk_first {a : Nat} {c : UInt8} {r : Bs} (hb : Bd a (c :: r)) (m : Nat) : brk (lastCls a ((c :: r).take (m + 1))) ((c :: r).drop (m + 1)) + 1 ≤ brk a (c :: r) := by
  have h := brk_append a ((c :: r).take (m + 1)) ((c :: r).drop (m + 1))
  rw [List.take_append_drop] at h
  have h1 : 1 ≤ brk a ((c :: r).take (m + 1)) := by
    rw [List.take_succ_cons]
    simp only [brk]
    rw [if_neg (hb c r rfl)]; omega
  omega
theorem bd_zero (l : Bs) : Bd 0 l := fun _ _ _ h => h.1 h.2
end Go.Proofs.Ytenobkhiekhohaa
