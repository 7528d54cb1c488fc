/-
  How many tokens a text has; the joined text has the same tokens (plain lists).
-/
import Derived.Test.YtenobkhiekhohaaLexPJ
namespace Go.Proofs.Ytenobkhiekhohaa
open Go Go.RowKit Lx

theorem lastCls_take (a : Nat) (l : Bs) (m : Nat) (h : m < l.length) : lastCls a (l.take (m + 1)) = cls l[m] := by
  induction l generalizing a m with
  | nil => simp at h
  | cons c r ih =>
    rw [List.take_succ_cons]
    cases m with
    | zero => simp [lastCls]
    | succ m =>
      simp only [lastCls, List.getElem_cons_succ]
      exact ih (cls c) m (by simpa using h)
theorem cls_zero {c : UInt8} (h1 : isL c.toNat = false) (h2 : isD c.toNat = false) : cls c = 0 := by unfold cls; rw [h1, h2]; simp
theorem sign_cls : ∀ t ∈ signs2 ++ signs1, ∀ c ∈ t, cls (c : UInt8) = 0 := by decide
theorem sgn_cls {l : Bs} {m : Nat} (h : sgn l = m) : ∀ c ∈ l.take m, cls c = 0 := by
  unfold sgn at h
  split at h
  · next h2 =>
    subst h
    exact sign_cls _ (List.mem_append_left _ (by simpa using h2))
  · split at h
    · next h1 =>
      subst h
      exact sign_cls _ (List.mem_append_right _ (by simpa using h1))
    · subst h; simp
theorem tok_bd {l : Bs} {k : Int} {m : Nat} (h : tokAt l = .yes k m) (a : Nat) : Bd (lastCls a (l.take m)) (l.drop m) := by
  obtain ⟨hm0, hml⟩ := tokAt_pos h
  intro c r hcr hbad
  have hlt : m < l.length := by
    rcases Nat.lt_or_ge m l.length with h | h
    · exact h
    · rw [List.drop_of_length_le h] at hcr; cases hcr
  have hc : l[m] = c := by
    have := List.drop_eq_getElem_cons hlt
    rw [hcr] at this; injection this with h1 _; exact h1.symm
  obtain ⟨j, rfl⟩ : ∃ j, m = j + 1 := ⟨m - 1, by omega⟩
  rw [lastCls_take a l j (by omega)] at hbad
  unfold tokAt at h
  split at h
  · have hm : gRun qN 0 l = j + 1 := by
      split at h
      · injection h
      · split at h
        · cases h
        · injection h
    have hs := gRun_stop qN l 0 (by rw [hm]; exact hlt)
    simp only [hm, Nat.zero_add, hc] at hs
    unfold qN at hs
    have h1 : isL c.toNat = false := by
      cases hx : isL c.toNat with
      | false => rfl
      | true => rw [hx] at hs; simp at hs
    rw [h1] at hs
    have h2 : isD c.toNat = false := by simpa using hs
    exact hbad.1 (cls_zero h1 h2)
  · split at h
    · have hm : gRun qD 0 l = j + 1 := by
        split at h
        · cases h
        · injection h
      have hs := gRun_stop qD l 0 (by rw [hm]; exact hlt)
      simp only [hm, Nat.zero_add, hc] at hs
      have hs : isD c.toNat = false := hs
      have hp := gRun_at qD l 0 j (by omega) (by omega)
      rw [Nat.zero_add] at hp
      have hp : isD l[j].toNat = true := hp
      have h2 : cls l[j] = 2 := by unfold cls; rw [isD_isL hp, hp]; simp
      rw [h2] at hbad
      unfold cls at hbad
      rw [hs] at hbad
      have := hbad.2
      split at this <;> simp at this
    · have hm : sgn l = j + 1 := by
        split at h
        · injection h
        · cases h
      have := sgn_cls hm l[j] (by
        rw [List.take_succ_eq_append_getElem (by omega)]
        exact List.mem_append_right _ (by simp))
      rw [this] at hbad
      exact hbad.1 hbad.2
theorem isB_cls {c : UInt8} (h : isB c.toNat = true) : cls c = 0 := by
  have hc : (c.toNat : Int) = 32 ∨ (c.toNat : Int) = 9 ∨ (c.toNat : Int) = 10 := by unfold isB at h; simpa using h
  apply cls_zero
  · unfold isL; simp; omega
  · unfold isD; simp; omega
theorem lex_count (N : Nat) : ∀ (l : Bs) (p : Int × Int) (a : Nat) (ts : List Tok), l.length ≤ N → Bd a l → lex l p = .ok ts → Toks ts ∧ ts.length ≤ brk a l + 1 := by
  induction N with
  | zero =>
    intro l p a ts hN hb h
    have : l = [] := List.eq_nil_of_length_eq_zero (by omega)
    subst this
    rw [lex_nil] at h
    injection h with h
    subst h
    exact ⟨.last _ rfl rfl, by simp [brk]⟩
  | succ N ih =>
    intro l p a ts hN hb h
    cases l with
    | nil =>
      rw [lex_nil] at h
      injection h with h
      subst h
      exact ⟨.last _ rfl rfl, by simp [brk]⟩
    | cons c r =>
      by_cases hbl : isB c.toNat = true
      · rw [lex_blank hbl] at h
        have h0 := isB_cls hbl
        obtain ⟨h1, h2⟩ := ih r (mv p c) 0 ts (by simpa using hN) (bd_zero r) h
        refine ⟨h1, ?_⟩
        simp only [brk, h0]
        rw [if_neg (fun h => h.1 rfl)]; omega
      · have hbl : isB c.toNat = false := by simpa using hbl
        by_cases h35 : (c.toNat : Int) = 35
        · rw [lex_com h35] at h
          obtain ⟨m, hm⟩ : ∃ m, gRun qC 0 (c :: r) = m := ⟨_, rfl⟩
          have hm0 : 0 < m := by rw [← hm]; exact com_pos h35
          rw [hm] at h
          have hbd : Bd (lastCls a ((c :: r).take m)) ((c :: r).drop m) := by
            intro x y hxy hbad
            have hlt : m < (c :: r).length := by
              rcases Nat.lt_or_ge m (c :: r).length with h | h
              · exact h
              · rw [List.drop_of_length_le h] at hxy; cases hxy
            have hs := gRun_stop qC (c :: r) 0 (by rw [hm]; exact hlt)
            simp only [hm, Nat.zero_add] at hs
            have hx : (c :: r)[m] = x := by
              have := List.drop_eq_getElem_cons hlt
              rw [hxy] at this; injection this with h1 _; exact h1.symm
            rw [hx] at hs
            unfold qC at hs
            rw [if_neg (by omega)] at hs
            have hx10 : (x.toNat : Int) = 10 := by simpa using hs
            exact hbad.1 (isB_cls (by unfold isB; simp; omega))
          obtain ⟨h1, h2⟩ := ih _ _ _ ts (by rw [List.length_drop]; simp at hN ⊢; omega) hbd h
          exact ⟨h1, Nat.le_trans h2 (Nat.succ_le_succ (brk_drop a (c :: r) m))⟩
        · cases htk : tokAt (c :: r) with
          | no e => rw [lex_no hbl h35 htk] at h; cases h
          | yes k m =>
            rw [lex_yes hbl h35 htk] at h
            obtain ⟨hm0, hml⟩ := tokAt_pos htk
            cases ho : lex ((c :: r).drop m) (mvs p ((c :: r).take m)) with
            | bad x y z => rw [ho] at h; cases h
            | ok ts' =>
              rw [ho] at h
              injection h with h
              subst h
              obtain ⟨h1, h2⟩ := ih _ _ _ ts' (by rw [List.length_drop]; simp at hN ⊢; omega) (tok_bd htk a) ho
              obtain ⟨j, rfl⟩ : ∃ j, m = j + 1 := ⟨m - 1, by omega⟩
              have h3 := brk_first hb j
              exact ⟨.more _ _ (tok_again htk (fun x y e => by injection e with e1 _; subst e1; exact ⟨hbl, h35⟩) p.1 p.2) h1, by rw [List.length_cons]; omega⟩

def btws : List Bs := [[32], [10], [9, 32], [35, 120, 10], [32, 35, 32, 121, 32, 35, 32, 122, 10, 10]]
/-- The tokens' texts, each followed by a separator. -/
def joinT (s : Bs) (T : List Tok) : Bs := T.flatMap fun t => t.t ++ s
theorem sep_lex (s : Bs) (hs : s ∈ btws) (X : Bs) (p : Int × Int) : lex (s ++ X) p = lex X (mvs p s) := by
  simp only [btws, List.mem_cons, List.not_mem_nil, or_false] at hs
  rcases hs with rfl | rfl | rfl | rfl | rfl
  · exact lex_blank (by decide) p
  · exact lex_blank (by decide) p
  · rw [List.cons_append, lex_blank (by decide), List.cons_append, lex_blank (by decide)]; rfl
  · have h := lex_com (c := 35) (r := 120 :: 10 :: X) (by decide) p
    have hr : gRun qC 0 (35 :: 120 :: 10 :: X) = 2 := by
      rw [gRun, if_pos (by decide), gRun, if_pos (by decide), gRun, if_neg (by decide)]
    rw [hr] at h
    show lex (35 :: 120 :: 10 :: X) p = _
    rw [h]
    show lex (10 :: X) _ = _
    rw [lex_blank (by decide)]; rfl
  · show lex (32 :: 35 :: 32 :: 121 :: 32 :: 35 :: 32 :: 122 :: 10 :: 10 :: X) p = _
    rw [lex_blank (by decide)]
    have h := lex_com (c := 35) (r := 32 :: 121 :: 32 :: 35 :: 32 :: 122 :: 10 :: 10 :: X) (by decide) (mv p 32)
    have hr : gRun qC 0 (35 :: 32 :: 121 :: 32 :: 35 :: 32 :: 122 :: 10 :: 10 :: X) = 7 := by
      rw [gRun, if_pos (by decide), gRun, if_pos (by decide), gRun, if_pos (by decide), gRun, if_pos (by decide), gRun, if_pos (by decide), gRun, if_pos (by decide), gRun, if_pos (by decide), gRun, if_neg (by decide)]
    rw [hr] at h
    rw [h]
    show lex (10 :: 10 :: X) _ = _
    rw [lex_blank (by decide), lex_blank (by decide)]; rfl
theorem sep_head : ∀ s ∈ btws, ∃ d Y, s = d :: Y ∧ d ∈ seps := by
  intro s hs
  simp only [btws, List.mem_cons, List.not_mem_nil, or_false] at hs
  rcases hs with rfl | rfl | rfl | rfl | rfl <;> exact ⟨_, _, rfl, by decide⟩
theorem relex {s : Bs} (hs : s ∈ btws) {T : List Tok} (h : Toks T) : ∀ p, ∃ T' : List Tok, lex (s ++ joinT s T) p = .ok T' ∧ T'.length = T.length ∧ ∀ (i : Nat) (t t' : Tok), T[i]? = some t → T'[i]? = some t' → t'.k = t.k ∧ t'.t = t.t := by
  induction h with
  | last e he ht =>
    intro p
    refine ⟨[⟨5, [], (mvs (mvs p s) s).1, (mvs (mvs p s) s).2⟩], ?_, rfl, fun i t t' h1 h2 => ?_⟩
    · have : joinT s [e] = s ++ [] := by simp [joinT, ht]
      rw [this, sep_lex s hs, sep_lex s hs, lex_nil]
    · cases i with
      | zero => simp at h1 h2; subst h1 h2; exact ⟨he.symm, ht.symm⟩
      | succ i => simp at h1
  | more t ts hr _ ih =>
    intro p
    obtain ⟨_, c, r, ht, b1, b2, hag⟩ := hr
    obtain ⟨d, Y, hd, hds⟩ := sep_head s hs
    have hj : joinT s (t :: ts) = t.t ++ (s ++ joinT s ts) := by simp [joinT]
    rw [hj, sep_lex s hs]
    have htok : tokAt (t.t ++ (s ++ joinT s ts)) = .yes t.k t.t.length := by
      have h1 := hag d (Y ++ joinT s ts) hds
      have h2 : s ++ joinT s ts = d :: (Y ++ joinT s ts) := congrArg (· ++ joinT s ts) hd
      rw [h2]; exact h1
    obtain ⟨T', h1, h2, h3⟩ := ih (mvs (mvs p s) t.t)
    have hl : lex (t.t ++ (s ++ joinT s ts)) (mvs p s) = (lex (s ++ joinT s ts) (mvs (mvs p s) t.t)).cons ⟨t.k, t.t, (mvs p s).1, (mvs p s).2⟩ := by
      rw [ht, List.cons_append] at htok ⊢
      rw [lex_yes b1 b2 htok, ← List.cons_append, List.drop_left, List.take_left]
    rw [hl, h1]
    refine ⟨_, rfl, by rw [List.length_cons, List.length_cons, h2], fun i u u' e1 e2 => ?_⟩
    cases i with
    | zero => simp at e1 e2; subst e1 e2; exact ⟨rfl, rfl⟩
    | succ i => simp at e1 e2; exact h3 i u u' e1 e2
theorem toks_short {T : List Tok} (h : Toks T) : ∀ t ∈ T, t.t.length ≤ 60 := by
  induction h with
  | last e he ht => intro t hm; simp at hm; subst hm; rw [ht]; simp
  | more t ts hr _ ih =>
    intro u hu
    rcases List.mem_cons.1 hu with rfl | hu
    · exact hr.1
    · exact ih u hu
theorem btws_short : ∀ s ∈ btws, s.length ≤ 10 := by decide
theorem pcs_brk : ∀ t ∈ pcs, brk 0 t ≤ 4 := by decide
end Go.Proofs.Ytenobkhiekhohaa
