/-
  Where the tokens stand (plain lists).
-/
import Derived.Test.YtenobkhiekhohaaLexB
namespace Go.Proofs.Ytenobkhiekhohaa
open Go Go.RowKit Lx

/-- Whether a comment goes on behind a byte. -/
def cstep (b : Bool) (c : UInt8) : Bool := (b || decide ((c.toNat : Int) = 35)) && decide ((c.toNat : Int) ≠ 10)
def cst (b : Bool) (l : Bs) : Bool := l.foldl cstep b
theorem cst_cons (b : Bool) (c : UInt8) (r : Bs) : cst b (c :: r) = cst (cstep b c) r := rfl
theorem cst_append (b : Bool) (x y : Bs) : cst b (x ++ y) = cst (cst b x) y := List.foldl_append ..
/-- The first n bytes are blanks or in a comment. -/
def Fine : Bool → Bs → Nat → Prop
  | _, _, 0 => True
  | _, [], _ + 1 => False
  | b, c :: r, n + 1 => (cstep b c = true ∨ isB c.toNat = true) ∧ Fine (cstep b c) r n
theorem Fine.add {l : Bs} {b : Bool} {m n : Nat} (hm : m ≤ l.length) (h : Fine b l m) (k : Fine (cst b (l.take m)) (l.drop m) n) : Fine b l (m + n) := by
  induction l generalizing b m with
  | nil => simp at hm; subst hm; simpa [cst] using k
  | cons c r ih =>
    cases m with
    | zero => simpa [cst] using k
    | succ m =>
      rw [Nat.add_right_comm]
      exact ⟨h.1, ih (by simpa using hm) h.2 k⟩
theorem Fine.all (l : Bs) (m : Nat) (hm : m ≤ l.length) (h : ∀ c ∈ l.take m, (c.toNat : Int) ≠ 10) : Fine true l m ∧ cst true (l.take m) = true := by
  induction l generalizing m with
  | nil => simp at hm; subst hm; exact ⟨trivial, rfl⟩
  | cons c r ih =>
    cases m with
    | zero => exact ⟨trivial, rfl⟩
    | succ m =>
      have h0 : (c.toNat : Int) ≠ 10 := h c (by simp)
      have hc : cstep true c = true := by unfold cstep; simpa using h0
      have := ih m (by simpa using hm) (fun x hx => h x (by rw [List.take_succ_cons]; exact List.mem_cons_of_mem _ hx))
      rw [List.take_succ_cons, cst_cons, hc]
      exact ⟨⟨Or.inl hc, by rw [hc]; exact this.1⟩, this.2⟩

theorem take_all {q : Nat → UInt8 → Bool} {l : Bs} {i m : Nat} {P : UInt8 → Prop} (hq : ∀ j c, q j c = true → P c) (hm : gRun q i l = m) : ∀ c ∈ l.take m, P c := by
  intro c hc
  obtain ⟨j, hj, rfl⟩ := List.mem_iff_getElem.1 hc
  rw [List.length_take] at hj
  rw [List.getElem_take]
  exact hq _ _ (gRun_at q l i j (by omega) (by omega))
theorem qN_nl (j : Nat) (c : UInt8) (h : qN j c = true) : (c.toNat : Int) ≠ 10 := by
  unfold qN isL isD at h; simp at h; omega
theorem qD_nl (j : Nat) (c : UInt8) (h : qD j c = true) : (c.toNat : Int) ≠ 10 := by
  unfold qD isD at h; simp at h; omega
theorem sgn_nl (l : Bs) : ∀ c ∈ l.take (sgn l), (c.toNat : Int) ≠ 10 := by
  have k2 : ∀ t ∈ signs2, ∀ c ∈ t, ((c : UInt8).toNat : Int) ≠ 10 := by decide
  have k1 : ∀ t ∈ signs1, ∀ c ∈ t, ((c : UInt8).toNat : Int) ≠ 10 := by decide
  unfold sgn
  split
  · next h => exact k2 _ (by simpa using h)
  · split
    · next h => exact k1 _ (by simpa using h)
    · simp
theorem tok_nl {l : Bs} {k : Int} {m : Nat} (h : tokAt l = .yes k m) : ∀ c ∈ l.take m, (c.toNat : Int) ≠ 10 := by
  unfold tokAt at h
  split at h
  · have hm : gRun qN 0 l = m := by
      split at h
      · injection h
      · split at h
        · cases h
        · injection h
    exact take_all qN_nl hm
  · split at h
    · have hm : gRun qD 0 l = m := by
        split at h
        · cases h
        · injection h
      exact take_all qD_nl hm
    · have hm : sgn l = m := by
        split at h
        · injection h
        · cases h
      rw [← hm]; exact sgn_nl l
theorem tok_kind {l : Bs} {k : Int} {m : Nat} (h : tokAt l = .yes k m) : k ≠ 5 := by
  unfold tokAt at h
  split at h
  · split at h
    · injection h; omega
    · split at h
      · cases h
      · injection h; omega
  · split at h
    · split at h
      · cases h
      · injection h; omega
    · split at h
      · injection h; omega
      · cases h
theorem mvs_flat (l : Bs) (p : Int × Int) (h : ∀ c ∈ l, (c.toNat : Int) ≠ 10) : mvs p l = (p.1, p.2 + l.length) := by
  induction l generalizing p with
  | nil => simp [mvs]
  | cons c r ih =>
    rw [mvs_cons, ih _ (fun x hx => h x (List.mem_cons_of_mem _ hx))]
    unfold mv
    rw [if_neg (h c (by simp))]
    simp; omega
/-- The position goes on with each byte. -/
theorem mvs_lt (l : Bs) (p : Int × Int) (h : l ≠ []) : p.1 < (mvs p l).1 ∨ (p.1 = (mvs p l).1 ∧ p.2 < (mvs p l).2) := by
  induction l generalizing p with
  | nil => exact absurd rfl h
  | cons c r ih =>
    rw [mvs_cons]
    have h0 : p.1 < (mv p c).1 ∨ (p.1 = (mv p c).1 ∧ p.2 < (mv p c).2) := by
      unfold mv; split
      · left; simp; omega
      · right; simp; omega
    cases r with
    | nil => exact h0
    | cons d r =>
      have := ih (mv p c) (by simp)
      omega

/-- A text that is cut into tokens: blanks, the first token, and the rest. -/
structure Cut (b : Bool) (l : Bs) (p : Int × Int) (t : Tok) (ts : List Tok) (n : Nat) : Prop where
  le : n ≤ l.length
  fine : Fine b l n
  ln : t.ln = (mvs p (l.take n)).1
  co : t.co = (mvs p (l.take n)).2
  last : l.drop n = [] → t.k = 5 ∧ t.t = [] ∧ ts = []
  more : l.drop n ≠ [] → t.k ≠ 5 ∧ 0 < t.t.length ∧ t.t.length ≤ (l.drop n).length ∧ t.t = (l.drop n).take t.t.length ∧ cst b (l.take n) = false ∧ (∀ c ∈ t.t, (c.toNat : Int) ≠ 10) ∧ ts ≠ [] ∧
    lex (l.drop (n + t.t.length)) (mvs (mvs p (l.take n)) t.t) = .ok ts
theorem lex_one (l : Bs) (p : Int × Int) : lex l p ≠ .ok [] := by
  obtain ⟨N, hN⟩ : ∃ N, l.length ≤ N := ⟨_, Nat.le_refl _⟩
  induction N generalizing l p with
  | zero =>
    have : l = [] := List.eq_nil_of_length_eq_zero (by omega)
    subst this; rw [lex_nil]; intro h; cases h
  | succ N ih =>
    cases l with
    | nil => rw [lex_nil]; intro h; cases h
    | cons c r =>
      by_cases hb : isB c.toNat = true
      · rw [lex_blank hb]; exact ih _ _ (by simpa using hN)
      · have hb : isB c.toNat = false := by simpa using hb
        by_cases h35 : (c.toNat : Int) = 35
        · have := com_pos (r := r) h35
          rw [lex_com h35]; exact ih _ _ (by rw [List.length_drop]; simp at hN ⊢; omega)
        · cases htk : tokAt (c :: r) with
          | no e => rw [lex_no hb h35 htk]; intro h; cases h
          | yes k n =>
            rw [lex_yes hb h35 htk]
            intro h
            cases ho : lex ((c :: r).drop n) (mvs p ((c :: r).take n)) with
            | ok ts => rw [ho] at h; cases h
            | bad x y z => rw [ho] at h; cases h
theorem lex_cut (N : Nat) : ∀ (l : Bs) (p : Int × Int) (b : Bool) (ts0 : List Tok), l.length ≤ N → (b = true → l = [] ∨ ∃ r, l = 10 :: r) → lex l p = .ok ts0 → ∃ n t ts, ts0 = t :: ts ∧ Cut b l p t ts n := by
  induction N with
  | zero =>
    intro l p b ts0 hN hb h
    have : l = [] := List.eq_nil_of_length_eq_zero (by omega)
    subst this
    rw [lex_nil] at h
    injection h with h
    exact ⟨0, _, _, h.symm, ⟨Nat.le_refl _, trivial, rfl, rfl, fun _ => ⟨rfl, rfl, rfl⟩, fun h => absurd rfl h⟩⟩
  | succ N ih =>
    intro l p b ts0 hN hb h
    cases l with
    | nil =>
      rw [lex_nil] at h
      injection h with h
      exact ⟨0, _, _, h.symm, ⟨Nat.le_refl _, trivial, rfl, rfl, fun _ => ⟨rfl, rfl, rfl⟩, fun h => absurd rfl h⟩⟩
    | cons c r =>
      by_cases hbl : isB c.toNat = true
      · rw [lex_blank hbl] at h
        have hcs : cstep b c = false := by
          have hc : (c.toNat : Int) = 32 ∨ (c.toNat : Int) = 9 ∨ (c.toNat : Int) = 10 := by unfold isB at hbl; simpa using hbl
          cases b with
          | false => unfold cstep; rcases hc with h | h | h <;> (rw [h]; rfl)
          | true =>
            rcases hb rfl with h | ⟨r', h⟩
            · cases h
            · injection h with h _; subst h; decide
        obtain ⟨n, t, ts, e, hcut⟩ := ih r (mv p c) false ts0 (by simpa using hN) (fun h => by cases h) h
        refine ⟨n + 1, t, ts, e, ⟨by simpa using hcut.le, ⟨Or.inr hbl, by rw [hcs]; exact hcut.fine⟩, hcut.ln, hcut.co, hcut.last, fun hne => ?_⟩⟩
        obtain ⟨a1, a2, a3, a4, a5, a6, a7, a8⟩ := hcut.more hne
        refine ⟨a1, a2, a3, a4, ?_, a6, a7, ?_⟩
        · rw [List.take_succ_cons, cst_cons, hcs]; exact a5
        · rw [show n + 1 + t.t.length = (n + t.t.length) + 1 by omega]; exact a8
      · have hbl : isB c.toNat = false := by simpa using hbl
        have hb0 : b = false := by
          cases b with
          | false => rfl
          | true =>
            rcases hb rfl with h | ⟨r', h⟩
            · cases h
            · injection h with h _; subst h; exact absurd hbl (by decide)
        subst hb0
        by_cases h35 : (c.toNat : Int) = 35
        · rw [lex_com h35] at h
          obtain ⟨m, hm⟩ : ∃ m, gRun qC 0 (c :: r) = m := ⟨_, rfl⟩
          have hm0 : 0 < m := by rw [← hm]; exact com_pos h35
          have hml : m ≤ (c :: r).length := by rw [← hm]; exact gRun_le ..
          rw [hm] at h
          have hnl : ∀ x ∈ (c :: r).take m, (x.toNat : Int) ≠ 10 := by
            refine take_all (q := qC) (i := 0) (fun j x hx => ?_) hm
            unfold qC at hx
            split at hx
            · simp at hx; omega
            · simpa using hx
          have hst : cstep false c = true := by unfold cstep; rw [h35]; rfl
          have hF : Fine false (c :: r) m ∧ cst false ((c :: r).take m) = true := by
            obtain ⟨j, rfl⟩ : ∃ j, m = j + 1 := ⟨m - 1, by omega⟩
            have := Fine.all r j (by simpa using hml) (fun x hx => hnl x (by rw [List.take_succ_cons]; exact List.mem_cons_of_mem _ hx))
            rw [List.take_succ_cons, cst_cons, hst]
            exact ⟨⟨Or.inl hst, by rw [hst]; exact this.1⟩, this.2⟩
          have hnext : (c :: r).drop m = [] ∨ ∃ r', (c :: r).drop m = 10 :: r' := by
            cases hd : (c :: r).drop m with
            | nil => exact Or.inl rfl
            | cons x y =>
              right
              have hlt : m < (c :: r).length := by
                rcases Nat.lt_or_ge m (c :: r).length with h | h
                · exact h
                · rw [List.drop_of_length_le h] at hd; cases hd
              have hs := gRun_stop qC (c :: r) 0 (by rw [hm]; exact hlt)
              simp only [hm, Nat.zero_add] at hs
              have hx : (c :: r)[m] = x := by
                have := List.drop_eq_getElem_cons hlt
                rw [hd] at this; injection this with h1 _; exact h1.symm
              rw [hx] at hs
              unfold qC at hs
              rw [if_neg (by omega)] at hs
              have hx10 : (x.toNat : Int) = 10 := by simpa using hs
              have : x = 10 := by apply UInt8.toNat_inj.1; show x.toNat = 10; omega
              subst this; exact ⟨y, rfl⟩
          obtain ⟨n, t, ts, e, hcut⟩ := ih ((c :: r).drop m) (mvs p ((c :: r).take m)) true ts0 (by rw [List.length_drop]; simp at hN ⊢; omega) (fun _ => hnext) h
          have htk : (c :: r).take (m + n) = (c :: r).take m ++ ((c :: r).drop m).take n := List.take_add
          refine ⟨m + n, t, ts, e, ⟨?_, Fine.add hml hF.1 (by rw [hF.2]; exact hcut.fine), ?_, ?_, ?_, fun hne => ?_⟩⟩
          · have := hcut.le; rw [List.length_drop] at this; omega
          · rw [htk, mvs_append]; exact hcut.ln
          · rw [htk, mvs_append]; exact hcut.co
          · rw [← List.drop_drop]; exact hcut.last
          · rw [← List.drop_drop] at hne
            obtain ⟨a1, a2, a3, a4, a5, a6, a7, a8⟩ := hcut.more hne
            refine ⟨a1, a2, by rw [← List.drop_drop]; exact a3, by rw [← List.drop_drop]; exact a4, by rw [htk, cst_append, hF.2]; exact a5, a6, a7, ?_⟩
            rw [htk, mvs_append, Nat.add_assoc, ← List.drop_drop]; exact a8
        · cases htk : tokAt (c :: r) with
          | no e => rw [lex_no hbl h35 htk] at h; cases h
          | yes k m =>
            rw [lex_yes hbl h35 htk] at h
            obtain ⟨hm0, hml⟩ := tokAt_pos htk
            cases ho : lex ((c :: r).drop m) (mvs p ((c :: r).take m)) with
            | bad x y z => rw [ho] at h; cases h
            | ok ts =>
              rw [ho] at h
              injection h with h
              have hlen : ((c :: r).take m).length = m := by rw [List.length_take]; omega
              refine ⟨0, _, _, h.symm, ⟨Nat.zero_le _, trivial, rfl, rfl, fun hd => by simp at hd, fun _ => ?_⟩⟩
              refine ⟨tok_kind htk, by show 0 < ((c :: r).take m).length; omega, by show ((c :: r).take m).length ≤ _; rw [hlen]; exact hml, by show (c :: r).take m = ((c :: r).drop 0).take ((c :: r).take m).length; rw [hlen]; rfl, rfl, tok_nl htk, fun e => lex_one _ _ (by rw [ho, e]), ?_⟩
              show lex ((c :: r).drop (0 + ((c :: r).take m).length)) (mvs (mvs p []) ((c :: r).take m)) = .ok ts
              rw [hlen, Nat.zero_add]; exact ho
end Go.Proofs.Ytenobkhiekhohaa
