/-
  The tokens of a text, over plain lists of bytes. Nothing of the program is named here.
-/
import Derived.Lib.Hide
namespace Go.Proofs.Ytenobkhiekhohaa
open Go.RowKit

namespace Lx
abbrev Bs := List UInt8
def isL (x : Int) : Bool := decide ((97 ≤ x ∧ x ≤ 122) ∨ (65 ≤ x ∧ x ≤ 90) ∨ x = 95)
def isD (x : Int) : Bool := decide (48 ≤ x ∧ x ≤ 57)
def isB (x : Int) : Bool := decide (x = 32 ∨ x = 9 ∨ x = 10)
/-- What continues a token behind i bytes. -/
def qB (_ : Nat) (c : UInt8) : Bool := isB c.toNat
def qC (i : Nat) (c : UInt8) : Bool := if i = 0 then decide ((c.toNat : Int) = 35) else decide ((c.toNat : Int) ≠ 10)
def qN (i : Nat) (c : UInt8) : Bool := isL c.toNat || (decide (0 < i) && isD c.toNat)
def qD (_ : Nat) (c : UInt8) : Bool := isD c.toNat
def qS (m : Nat) (i : Nat) (_ : UInt8) : Bool := decide (i < m)
/-- The number of bytes that continue, the first of them behind i. -/
def gRun (q : Nat → UInt8 → Bool) : Nat → Bs → Nat
  | _, [] => 0
  | i, c :: r => if q i c then gRun q (i + 1) r + 1 else 0

theorem gRun_le (q : Nat → UInt8 → Bool) (l : Bs) (i : Nat) : gRun q i l ≤ l.length := by
  induction l generalizing i with
  | nil => simp [gRun]
  | cons c r ih =>
    rw [gRun]
    split
    · have := ih (i + 1); simp; omega
    · simp
theorem gRun_eq (q : Nat → UInt8 → Bool) (l : Bs) (i m : Nat) (hm : m ≤ l.length) (h1 : ∀ j (h : j < l.length), j < m → q (i + j) l[j] = true) (h2 : ∀ (h : m < l.length), q (i + m) l[m] = false) : gRun q i l = m := by
  induction l generalizing i m with
  | nil => simp at hm; subst hm; rfl
  | cons c r ih =>
    rw [gRun]
    cases m with
    | zero =>
      have := h2 (by simp)
      simp at this
      rw [if_neg (by simp [this])]
    | succ m =>
      have h0 := h1 0 (by simp) (by omega)
      simp at h0
      rw [if_pos h0, ih (i + 1) m (by simpa using hm)]
      · intro j hj hjm
        have := h1 (j + 1) (by simpa using hj) (by omega)
        rw [show i + 1 + j = i + (j + 1) by omega]
        simpa using this
      · intro h
        have := h2 (by simpa using h)
        rw [show i + 1 + m = i + (m + 1) by omega]
        simpa using this
theorem gRun_at (q : Nat → UInt8 → Bool) (l : Bs) (i j : Nat) (h : j < l.length) (hj : j < gRun q i l) : q (i + j) l[j] = true := by
  induction l generalizing i j with
  | nil => simp at h
  | cons c r ih =>
    rw [gRun] at hj
    split at hj
    · next hq =>
      cases j with
      | zero => simpa using hq
      | succ j =>
        have := ih (i + 1) j (by simpa using h) (by omega)
        rw [show i + (j + 1) = i + 1 + j by omega]
        simpa using this
    · omega
theorem gRun_stop (q : Nat → UInt8 → Bool) (l : Bs) (i : Nat) (h : gRun q i l < l.length) : q (i + gRun q i l) l[gRun q i l] = false := by
  induction l generalizing i with
  | nil => simp at h
  | cons c r ih =>
    by_cases hq : q i c
    · have e : gRun q i (c :: r) = gRun q (i + 1) r + 1 := by rw [gRun, if_pos hq]
      have := ih (i + 1) (by rw [e] at h; simpa using h)
      simp only [e, List.getElem_cons_succ]
      rw [← this]; congr 1; omega
    · have e : gRun q i (c :: r) = 0 := by rw [gRun, if_neg hq]
      simp only [e, List.getElem_cons_zero]
      simpa using hq

def signs2 : List Bs := [[58, 61], [61, 61], [33, 61], [60, 61], [62, 61], [38, 38], [124, 124]]
def signs1 : List Bs := [[126], [60], [62], [43], [45], [42], [47], [40], [41], [91], [93], [123], [125], [44], [59], [58], [63], [46], [33]]
def sgB (t : Bs) : Bool := signs2.contains t || signs1.contains t
/-- The length of the sign at the front. -/
def sgn (l : Bs) : Nat := if signs2.contains (l.take 2) then 2 else if signs1.contains (l.take 1) then 1 else 0
def kws : List Bs := [[112,97,114,97,109],[102,117,110,99],[113,117,101,114,121],[118,97,114],[114,101,116,117,114,110],[98,111,111,108],[105,110,116],[110,97,116],[114,101,97,108],[108,105,115,116],[105,102],[101,108,115,101],[114,101,112,101,97,116],[119,104,105,108,101],[111,98,115,101,114,118,101],[119,101,105,103,104,116],[116,114,117,101],[102,97,108,115,101],[108,101,110],[112,117,115,104],[102,108,105,112],[117,110,105,102,111,114,109],[116,97,98,108,101],[98,105,110,111,109,105,97,108],[103,101,111,109,101,116,114,105,99],[105,110,116,101,114,118,97,108],[98,101,116,97],[112,111,115,116,101,114,105,111,114]]
def kwB (t : Bs) : Bool := kws.contains t

theorem two_len {l : Bs} (h : signs2.contains (l.take 2) = true) : 2 ≤ l.length := by
  match l with
  | [] => revert h; decide
  | [c] => simp [signs2] at h
  | a :: b :: r => simp
theorem one_len {l : Bs} (h : signs1.contains (l.take 1) = true) : 1 ≤ l.length := by
  match l with
  | [] => revert h; decide
  | a :: r => simp
theorem sgn_le (l : Bs) : sgn l ≤ l.length := by
  unfold sgn
  split
  · next h => exact two_len h
  · split
    · next h => exact one_len h
    · omega
theorem sgn_run (l : Bs) : gRun (qS (sgn l)) 0 l = sgn l :=
  gRun_eq _ _ _ _ (sgn_le l) (fun j _ hj => by simp [qS, hj]) (fun _ => by simp [qS])

structure Tok where
  k : Int
  t : Bs
  ln : Int
  co : Int
inductive Out where
  | ok (ts : List Tok)
  | bad (ln co e : Int)
def Out.cons (t : Tok) : Out → Out
  | .ok ts => .ok (t :: ts)
  | .bad a b e => .bad a b e
def Out.app (T : List Tok) : Out → Out
  | .ok ts => .ok (T ++ ts)
  | .bad a b e => .bad a b e
theorem Out.app_cons (T : List Tok) (t : Tok) (o : Out) : (o.cons t).app T = o.app (T ++ [t]) := by
  cases o <;> simp [Out.cons, Out.app]
theorem Out.app_nil (o : Out) : o.app [] = o := by cases o <;> rfl

def mv (p : Int × Int) (c : UInt8) : Int × Int := if (c.toNat : Int) = 10 then (p.1 + 1, 1) else (p.1, p.2 + 1)
def mvs (p : Int × Int) (l : Bs) : Int × Int := l.foldl mv p
theorem mvs_append (p : Int × Int) (a b : Bs) : mvs p (a ++ b) = mvs (mvs p a) b := List.foldl_append ..
theorem mvs_cons (p : Int × Int) (c : UInt8) (r : Bs) : mvs p (c :: r) = mvs (mv p c) r := rfl

inductive TokR where
  | no (e : Int)
  | yes (k : Int) (n : Nat)
def tokAt (l : Bs) : TokR :=
  if 0 < gRun qN 0 l then (if kwB (l.take (gRun qN 0 l)) then .yes 3 (gRun qN 0 l) else if 12 < gRun qN 0 l then .no 9 else .yes 1 (gRun qN 0 l))
  else if 0 < gRun qD 0 l then (if 60 < gRun qD 0 l then .no 9 else .yes 2 (gRun qD 0 l))
  else if 0 < sgn l then .yes 4 (sgn l) else .no 4
theorem tokAt_pos {l : Bs} {k : Int} {n : Nat} (h : tokAt l = .yes k n) : 0 < n ∧ n ≤ l.length := by
  unfold tokAt at h
  have h1 := gRun_le qN l 0
  have h2 := gRun_le qD l 0
  have h3 := sgn_le l
  split at h
  · split at h
    · injection h; omega
    · split at h
      · cases h
      · injection h; omega
  · split at h
    · split at h
      · cases h
      · injection h; omega
    · split at h
      · injection h; omega
      · cases h

def lexF : Nat → Bs → Int × Int → Out
  | 0, _, _ => .bad 0 0 0
  | _ + 1, [], p => .ok [⟨5, [], p.1, p.2⟩]
  | f + 1, c :: r, p =>
    if isB c.toNat then lexF f r (mv p c)
    else if (c.toNat : Int) = 35 then lexF f ((c :: r).drop (gRun qC 0 (c :: r))) (mvs p ((c :: r).take (gRun qC 0 (c :: r))))
    else match tokAt (c :: r) with
      | .no e => .bad p.1 p.2 e
      | .yes k n => (lexF f ((c :: r).drop n) (mvs p ((c :: r).take n))).cons ⟨k, (c :: r).take n, p.1, p.2⟩

theorem com_pos {c : UInt8} {r : Bs} (h : (c.toNat : Int) = 35) : 0 < gRun qC 0 (c :: r) := by
  rw [gRun, if_pos (by simp [qC, h])]; omega
theorem lexF_fuel (f : Nat) : ∀ (g : Nat) (l : Bs) (p : Int × Int), l.length < f → l.length < g → lexF f l p = lexF g l p := by
  induction f with
  | zero => intro g l p h; omega
  | succ f ih =>
    intro g l p hf hg
    cases g with
    | zero => omega
    | succ g =>
      cases l with
      | nil => rfl
      | cons c r =>
        have hr : r.length < f := by simpa using hf
        have hr2 : r.length < g := by simpa using hg
        rw [lexF, lexF]
        split
        · exact ih g r _ hr hr2
        · split
          · next hc =>
            have h0 := com_pos (r := r) hc
            have hd : ((c :: r).drop (gRun qC 0 (c :: r))).length ≤ r.length := by rw [List.length_drop]; simp; omega
            exact ih g _ _ (by omega) (by omega)
          · split
            · rfl
            · next k n hk =>
              have h0 := tokAt_pos hk
              have hd : ((c :: r).drop n).length ≤ r.length := by rw [List.length_drop]; simp; omega
              rw [ih g _ _ (by omega) (by omega)]

/-- The tokens of a text that begins at a position, or the first error. -/
def lex (l : Bs) (p : Int × Int) : Out := lexF (l.length + 1) l p
theorem lex_nil (p : Int × Int) : lex [] p = .ok [⟨5, [], p.1, p.2⟩] := rfl
theorem lex_blank {c : UInt8} {r : Bs} (h : isB c.toNat = true) (p : Int × Int) : lex (c :: r) p = lex r (mv p c) := by
  rw [lex, List.length_cons, lexF, if_pos h, lex]
theorem lex_com {c : UInt8} {r : Bs} (h : (c.toNat : Int) = 35) (p : Int × Int) : lex (c :: r) p = lex ((c :: r).drop (gRun qC 0 (c :: r))) (mvs p ((c :: r).take (gRun qC 0 (c :: r)))) := by
  have h0 := com_pos (r := r) h
  rw [lex, List.length_cons, lexF, if_neg (by rw [h]; decide), if_pos h, lex]
  exact lexF_fuel _ _ _ _ (by rw [List.length_drop]; simp; omega) (by omega)
theorem lex_no {c : UInt8} {r : Bs} {e : Int} (h1 : isB c.toNat = false) (h2 : (c.toNat : Int) ≠ 35) (h : tokAt (c :: r) = .no e) (p : Int × Int) : lex (c :: r) p = .bad p.1 p.2 e := by
  rw [lex, List.length_cons, lexF, if_neg (by simp [h1]), if_neg h2, h]
theorem lex_yes {c : UInt8} {r : Bs} {k : Int} {n : Nat} (h1 : isB c.toNat = false) (h2 : (c.toNat : Int) ≠ 35) (h : tokAt (c :: r) = .yes k n) (p : Int × Int) :
    lex (c :: r) p = (lex ((c :: r).drop n) (mvs p ((c :: r).take n))).cons ⟨k, (c :: r).take n, p.1, p.2⟩ := by
  have h0 := tokAt_pos h
  rw [lex, List.length_cons, lexF, if_neg (by simp [h1]), if_neg h2, h, lex]
  show Out.cons _ _ = _
  rw [lexF_fuel (r.length + 1) (((c :: r).drop n).length + 1) _ _ (by rw [List.length_drop]; simp; omega) (by omega)]
theorem lex_blanks (l : Bs) (i : Nat) (p : Int × Int) : lex l p = lex (l.drop (gRun qB i l)) (mvs p (l.take (gRun qB i l))) := by
  induction l generalizing i p with
  | nil => simp [gRun, mvs]
  | cons c r ih =>
    rw [gRun]
    split
    · next h => rw [lex_blank h, ih (i + 1) (mv p c)]; rfl
    · simp [mvs]
theorem blank_zero {c : UInt8} {r : Bs} (h : gRun qB 0 (c :: r) = 0) : isB c.toNat = false := by
  rw [gRun] at h
  split at h
  · omega
  · next hc => simpa [qB] using hc
theorem com_zero {c : UInt8} {r : Bs} (h : gRun qC 0 (c :: r) = 0) : (c.toNat : Int) ≠ 35 := by
  rw [gRun] at h
  split at h
  · omega
  · next hc => simpa [qC] using hc
theorem com_some {c : UInt8} {r : Bs} (h : 0 < gRun qC 0 (c :: r)) : (c.toNat : Int) = 35 := by
  rw [gRun] at h
  split at h
  · next hc => simpa [qC] using hc
  · omega
theorem kw_short : ∀ t ∈ kws, t.length ≤ 9 := by decide
theorem kw_first : ∀ t ∈ kws, (match t with | [] => false | c :: _ => isL c.toNat) = true := by decide
theorem kwB_mem {t : Bs} (h : kwB t = true) : t ∈ kws := by unfold kwB at h; simpa using h
theorem kwB_short {t : Bs} (h : kwB t = true) : t.length ≤ 9 := kw_short t (kwB_mem h)
theorem kwB_first {c : UInt8} {r : Bs} (h : kwB (c :: r) = true) : isL c.toNat = true := kw_first _ (kwB_mem h)
theorem isD_isL {x : Int} (h : isD x = true) : isL x = false := by unfold isD at h; unfold isL; simp at h ⊢; omega
theorem not_name {c : UInt8} {r : Bs} (h : gRun qN 0 (c :: r) = 0) : isL c.toNat = false := by
  rw [gRun] at h
  split at h
  · omega
  · next hc => simpa [qN] using hc
end Lx
end Go.Proofs.Ytenobkhiekhohaa
