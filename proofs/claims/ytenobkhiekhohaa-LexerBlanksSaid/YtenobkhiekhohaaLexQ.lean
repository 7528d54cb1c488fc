/-
  The lexer's rules in their order (plain lists), and rows of tokens.
-/
import Derived.Test.YtenobkhiekhohaaLexS
namespace Go.Proofs.Ytenobkhiekhohaa
open Go Go.RowKit Lx
set_option maxRecDepth 20000

/-- The five rules: kind, limit, and what continues. -/
def rKind : Nat → Int | 2 => 1 | 3 => 2 | 4 => 4 | _ => 0
def rLim : Nat → Nat | 2 => 12 | 3 => 60 | 4 => 2 | _ => 8192
def rQ (l : Bs) : Nat → Nat → UInt8 → Bool | 0 => qB | 1 => qC | 2 => qN | 3 => qD | _ => qS (sgn l)
def rRun (l : Bs) (i : Nat) : Nat := gRun (rQ l i) 0 l

theorem first_letter {c : UInt8} {r : Bs} {m : Nat} (h : isL c.toNat = false) : kwB ((c :: r).take (m + 1)) = false := by
  rw [List.take_succ_cons]
  cases hk : kwB (c :: r.take m) with
  | false => rfl
  | true => rw [kwB_first hk] at h; cases h
theorem sgn_two (l : Bs) : sgn l ≤ 2 := by unfold sgn; split; omega; split <;> omega
theorem sgn_first {c : UInt8} {r : Bs} (h : 0 < sgn (c :: r)) : isL c.toNat = false := by
  have k2 : ∀ t ∈ signs2, (match t with | [] => false | c :: _ => !isL c.toNat) = true := by decide
  have k1 : ∀ t ∈ signs1, (match t with | [] => false | c :: _ => !isL c.toNat) = true := by decide
  unfold sgn at h
  split at h
  · next hm =>
    have hm : List.take 2 (c :: r) ∈ signs2 := by simpa using hm
    have := k2 _ hm
    simpa using this
  · split at h
    · next hm =>
      have hm : List.take 1 (c :: r) ∈ signs1 := by simpa using hm
      have := k1 _ hm
      simpa using this
    · omega

/-- What a rule does at the front of a text, if the rules before it take nothing. -/
def RuleDoes (l : Bs) (p : Int × Int) (i n : Nat) : Prop :=
  (rLim i < n → lex l p = .bad p.1 p.2 9) ∧
  (n ≤ rLim i → (i ≤ 1 → lex l p = lex (l.drop n) (mvs p (l.take n))) ∧ (2 ≤ i → lex l p = (lex (l.drop n) (mvs p (l.take n))).cons ⟨kd (rKind i) (l.take n), l.take n, p.1, p.2⟩))
theorem rule_does (l : Bs) (p : Int × Int) (hl : l.length ≤ 8192) (i : Nat) (hi : i < 5) (h0 : ∀ j, j < i → rRun l j = 0) (hn : 0 < rRun l i) : RuleDoes l p i (rRun l i) := by
  cases l with
  | nil => simp [rRun, gRun] at hn
  | cons c r =>
    have hle : rRun (c :: r) i ≤ (c :: r).length := gRun_le ..
    match i, hi with
    | 0, _ => exact ⟨fun h => absurd h (by simp only [rLim]; omega), fun _ => ⟨fun _ => lex_blanks _ 0 p, fun h => absurd h (by omega)⟩⟩
    | 1, _ => exact ⟨fun h => absurd h (by simp only [rLim]; omega), fun _ => ⟨fun _ => lex_com (com_some hn) p, fun h => absurd h (by omega)⟩⟩
    | 2, _ =>
      have b1 := blank_zero (h0 0 (by omega))
      have b2 := com_zero (h0 1 (by omega))
      obtain ⟨m, hm⟩ : ∃ m, rRun (c :: r) 2 = m := ⟨_, rfl⟩
      rw [hm] at hn ⊢
      have hm' : gRun qN 0 (c :: r) = m := hm
      refine ⟨fun h => ?_, fun h => ⟨fun h1 => absurd h1 (by omega), fun _ => ?_⟩⟩
      · simp only [rLim] at h
        refine lex_no b1 b2 ?_ p
        unfold tokAt
        rw [hm', if_pos hn, if_pos h]
        cases hk : kwB ((c :: r).take m) with
        | true =>
          have := kwB_short hk
          rw [List.length_take, Nat.min_eq_left (by rw [← hm]; exact hle)] at this
          omega
        | false => rfl
      · simp only [rLim] at h
        unfold kd
        refine lex_yes b1 b2 ?_ p
        unfold tokAt
        rw [hm', if_pos hn, if_neg (by omega : ¬ 12 < m)]
        cases hk : kwB ((c :: r).take m) <;> rfl
    | 3, _ =>
      have b1 := blank_zero (h0 0 (by omega))
      have b2 := com_zero (h0 1 (by omega))
      have b3 : gRun qN 0 (c :: r) = 0 := h0 2 (by omega)
      have b4 := not_name b3
      obtain ⟨m, hm⟩ : ∃ m, rRun (c :: r) 3 = m := ⟨_, rfl⟩
      rw [hm] at hn ⊢
      have hm' : gRun qD 0 (c :: r) = m := hm
      refine ⟨fun h => ?_, fun h => ⟨fun h1 => absurd h1 (by omega), fun _ => ?_⟩⟩
      · simp only [rLim] at h
        refine lex_no b1 b2 ?_ p
        unfold tokAt
        rw [b3, hm', if_neg (by omega), if_pos hn, if_pos h]
      · simp only [rLim] at h
        obtain ⟨j, rfl⟩ : ∃ j, m = j + 1 := ⟨m - 1, by omega⟩
        unfold kd
        rw [first_letter b4]
        refine lex_yes b1 b2 ?_ p
        unfold tokAt
        rw [b3, hm', if_neg (by omega), if_pos hn, if_neg (by omega)]
        rfl
    | 4, _ =>
      have b1 := blank_zero (h0 0 (by omega))
      have b2 := com_zero (h0 1 (by omega))
      have b3 : gRun qN 0 (c :: r) = 0 := h0 2 (by omega)
      have b5 : gRun qD 0 (c :: r) = 0 := h0 3 (by omega)
      obtain ⟨m, hm⟩ : ∃ m, rRun (c :: r) 4 = m := ⟨_, rfl⟩
      have hm' : sgn (c :: r) = m := by rw [← hm]; exact (sgn_run _).symm
      rw [hm] at hn ⊢
      have hm2 : m ≤ 2 := by rw [← hm']; exact sgn_two _
      have b4 := sgn_first (c := c) (r := r) (by rw [hm']; exact hn)
      refine ⟨fun h => absurd h (by simp only [rLim]; omega), fun h => ⟨fun h1 => absurd h1 (by omega), fun _ => ?_⟩⟩
      obtain ⟨j, rfl⟩ : ∃ j, m = j + 1 := ⟨m - 1, by omega⟩
      unfold kd
      rw [first_letter b4]
      refine lex_yes b1 b2 ?_ p
      unfold tokAt
      rw [b3, b5, hm', if_neg (by omega), if_neg (by omega), if_pos hn]
      rfl
theorem rule_none (l : Bs) (p : Int × Int) (hl : 0 < l.length) (h0 : ∀ j, j < 5 → rRun l j = 0) : lex l p = .bad p.1 p.2 4 := by
  cases l with
  | nil => simp at hl
  | cons c r =>
    have b1 := blank_zero (h0 0 (by omega))
    have b2 := com_zero (h0 1 (by omega))
    have b3 : gRun qN 0 (c :: r) = 0 := h0 2 (by omega)
    have b5 : gRun qD 0 (c :: r) = 0 := h0 3 (by omega)
    have b6 : sgn (c :: r) = 0 := by rw [← sgn_run]; exact h0 4 (by omega)
    refine lex_no b1 b2 ?_ p
    unfold tokAt
    rw [b3, b5, b6]; rfl

/-- A text out of its bytes. -/
def bs (l : Bs) : ByteArray := ⟨l.toArray⟩
theorem bs_list (l : Bs) : (bs l).toList = l := by rw [Lib.toList_data]; rfl
theorem bs_extract (s : ByteArray) (k m : Nat) : s.extract k (k + m) = bs ((s.data.toList.drop k).take m) := by
  have h := extract_list s k (k + m)
  rw [Nat.add_sub_cancel_left, Lib.toList_data] at h
  rw [← h]; rfl
/-- The four cells of a token. -/
def Lx.Tok.cells (t : Tok) : List Value := [.int .i64 t.k, .string (bs t.t), .int .i64 t.ln, .int .i64 t.co]
def rowT (T : List Tok) : List Value := T.flatMap Tok.cells
theorem rowT_append (A B : List Tok) : rowT (A ++ B) = rowT A ++ rowT B := List.flatMap_append ..
theorem rowT_one (t : Tok) : rowT [t] = t.cells := by simp [rowT]
theorem rowT_length (T : List Tok) : (rowT T).length = T.length * 4 := by
  induction T with
  | nil => rfl
  | cons t T ih => rw [show t :: T = [t] ++ T from rfl, rowT_append, List.length_append, ih, rowT_one]; simp [Tok.cells]; omega
theorem rowT_get (T : List Tok) (i j : Nat) (t : Tok) (hj : j < 4) (h : T[i]? = some t) : (rowT T)[i * 4 + j]? = t.cells[j]? := by
  induction T generalizing i with
  | nil => simp at h
  | cons u T ih =>
    rw [show u :: T = [u] ++ T from rfl, rowT_append, rowT_one]
    cases i with
    | zero =>
      simp at h; subst h
      rw [Nat.zero_mul, Nat.zero_add, List.getElem?_append_left (by simpa [Tok.cells] using hj)]
    | succ i =>
      simp at h
      rw [List.getElem?_append_right (by simp [Tok.cells]; omega)]
      rw [show (i + 1) * 4 + j - u.cells.length = i * 4 + j by simp [Tok.cells]; omega]
      exact ih i h
end Go.Proofs.Ytenobkhiekhohaa
