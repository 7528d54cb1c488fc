/-
  The tokens of a text, over plain lists of bytes. Nothing of the program is named here.
  The parser over plain lists of tokens. Nothing of the program is named here.
-/
import Derived.Lib.Hide
namespace Go.Proofs.YtggdhgppclnckaaGreatDoor
open Go.RowKit

namespace Lx
abbrev Bs := List UInt8
def isL (x : Int) : Bool := decide ((97 ≤ x ∧ x ≤ 122) ∨ (65 ≤ x ∧ x ≤ 90) ∨ x = 95)
def isD (x : Int) : Bool := decide (48 ≤ x ∧ x ≤ 57)
def isB (x : Int) : Bool := decide (x = 32 ∨ x = 9 ∨ x = 10)
/-- What continues a token behind i bytes. -/
def qB (_ : Nat) (c : UInt8) : Bool := isB c.toNat
def qC (i : Nat) (c : UInt8) : Bool := if i = 0 then decide ((c.toNat : Int) = 35) else decide ((c.toNat : Int) ≠ 10)
def qN (i : Nat) (c : UInt8) : Bool := isL c.toNat || (decide (0 < i) && isD c.toNat)
def qD (_ : Nat) (c : UInt8) : Bool := isD c.toNat
def qS (m : Nat) (i : Nat) (_ : UInt8) : Bool := decide (i < m)
/-- The number of bytes that continue, the first of them behind i. -/
def gRun (q : Nat → UInt8 → Bool) : Nat → Bs → Nat
  | _, [] => 0
  | i, c :: r => if q i c then gRun q (i + 1) r + 1 else 0

theorem gRun_le (q : Nat → UInt8 → Bool) (l : Bs) (i : Nat) : gRun q i l ≤ l.length := by
  induction l generalizing i with
  | nil => simp [gRun]
  | cons c r ih =>
    rw [gRun]
    split
    · have := ih (i + 1); simp; omega
    · simp
theorem gRun_eq (q : Nat → UInt8 → Bool) (l : Bs) (i m : Nat) (hm : m ≤ l.length) (h1 : ∀ j (h : j < l.length), j < m → q (i + j) l[j] = true) (h2 : ∀ (h : m < l.length), q (i + m) l[m] = false) : gRun q i l = m := by
  induction l generalizing i m with
  | nil => simp at hm; subst hm; rfl
  | cons c r ih =>
    rw [gRun]
    cases m with
    | zero =>
      have := h2 (by simp)
      simp at this
      rw [if_neg (by simp [this])]
    | succ m =>
      have h0 := h1 0 (by simp) (by omega)
      simp at h0
      rw [if_pos h0, ih (i + 1) m (by simpa using hm)]
      · intro j hj hjm
        have := h1 (j + 1) (by simpa using hj) (by omega)
        rw [show i + 1 + j = i + (j + 1) by omega]
        simpa using this
      · intro h
        have := h2 (by simpa using h)
        rw [show i + 1 + m = i + (m + 1) by omega]
        simpa using this
theorem gRun_at (q : Nat → UInt8 → Bool) (l : Bs) (i j : Nat) (h : j < l.length) (hj : j < gRun q i l) : q (i + j) l[j] = true := by
  induction l generalizing i j with
  | nil => simp at h
  | cons c r ih =>
    rw [gRun] at hj
    split at hj
    · next hq =>
      cases j with
      | zero => simpa using hq
      | succ j =>
        have := ih (i + 1) j (by simpa using h) (by omega)
        rw [show i + (j + 1) = i + 1 + j by omega]
        simpa using this
    · omega
theorem gRun_stop (q : Nat → UInt8 → Bool) (l : Bs) (i : Nat) (h : gRun q i l < l.length) : q (i + gRun q i l) l[gRun q i l] = false := by
  induction l generalizing i with
  | nil => simp at h
  | cons c r ih =>
    by_cases hq : q i c
    · have e : gRun q i (c :: r) = gRun q (i + 1) r + 1 := by rw [gRun, if_pos hq]
      have := ih (i + 1) (by rw [e] at h; simpa using h)
      simp only [e, List.getElem_cons_succ]
      rw [← this]; congr 1; omega
    · have e : gRun q i (c :: r) = 0 := by rw [gRun, if_neg hq]
      simp only [e, List.getElem_cons_zero]
      simpa using hq

def signs2 : List Bs := [[58, 61], [61, 61], [33, 61], [60, 61], [62, 61], [38, 38], [124, 124]]
def signs1 : List Bs := [[126], [60], [62], [43], [45], [42], [47], [40], [41], [91], [93], [123], [125], [44], [59], [58], [63], [46], [33]]
def sgB (t : Bs) : Bool := signs2.contains t || signs1.contains t
/-- The length of the sign at the front. -/
def sgn (l : Bs) : Nat := if signs2.contains (l.take 2) then 2 else if signs1.contains (l.take 1) then 1 else 0
def kws : List Bs := [[112,97,114,97,109],[102,117,110,99],[113,117,101,114,121],[118,97,114],[114,101,116,117,114,110],[98,111,111,108],[105,110,116],[110,97,116],[114,101,97,108],[108,105,115,116],[105,102],[101,108,115,101],[114,101,112,101,97,116],[119,104,105,108,101],[111,98,115,101,114,118,101],[119,101,105,103,104,116],[116,114,117,101],[102,97,108,115,101],[108,101,110],[112,117,115,104],[102,108,105,112],[117,110,105,102,111,114,109],[116,97,98,108,101],[98,105,110,111,109,105,97,108],[103,101,111,109,101,116,114,105,99],[105,110,116,101,114,118,97,108],[98,101,116,97],[112,111,115,116,101,114,105,111,114]]
def kwB (t : Bs) : Bool := kws.contains t

theorem two_len {l : Bs} (h : signs2.contains (l.take 2) = true) : 2 ≤ l.length := by
  match l with
  | [] => revert h; decide
  | [c] => simp [signs2] at h
  | a :: b :: r => simp
theorem one_len {l : Bs} (h : signs1.contains (l.take 1) = true) : 1 ≤ l.length := by
  match l with
  | [] => revert h; decide
  | a :: r => simp
theorem sgn_le (l : Bs) : sgn l ≤ l.length := by
  unfold sgn
  split
  · next h => exact two_len h
  · split
    · next h => exact one_len h
    · omega
theorem sgn_run (l : Bs) : gRun (qS (sgn l)) 0 l = sgn l :=
  gRun_eq _ _ _ _ (sgn_le l) (fun j _ hj => by simp [qS, hj]) (fun _ => by simp [qS])

structure Tok where
  k : Int
  t : Bs
  ln : Int
  co : Int
inductive Out where
  | ok (ts : List Tok)
  | bad (ln co e : Int)
def Out.cons (t : Tok) : Out → Out
  | .ok ts => .ok (t :: ts)
  | .bad a b e => .bad a b e
def Out.app (T : List Tok) : Out → Out
  | .ok ts => .ok (T ++ ts)
  | .bad a b e => .bad a b e
theorem Out.app_cons (T : List Tok) (t : Tok) (o : Out) : (o.cons t).app T = o.app (T ++ [t]) := by
  cases o <;> simp [Out.cons, Out.app]
theorem Out.app_nil (o : Out) : o.app [] = o := by cases o <;> rfl

def mv (p : Int × Int) (c : UInt8) : Int × Int := if (c.toNat : Int) = 10 then (p.1 + 1, 1) else (p.1, p.2 + 1)
def mvs (p : Int × Int) (l : Bs) : Int × Int := l.foldl mv p
theorem mvs_append (p : Int × Int) (a b : Bs) : mvs p (a ++ b) = mvs (mvs p a) b := List.foldl_append ..
inductive TokR where
  | no (e : Int)
  | yes (k : Int) (n : Nat)
def tokAt (l : Bs) : TokR :=
  if 0 < gRun qN 0 l then (if kwB (l.take (gRun qN 0 l)) then .yes 3 (gRun qN 0 l) else if 12 < gRun qN 0 l then .no 9 else .yes 1 (gRun qN 0 l))
  else if 0 < gRun qD 0 l then (if 60 < gRun qD 0 l then .no 9 else .yes 2 (gRun qD 0 l))
  else if 0 < sgn l then .yes 4 (sgn l) else .no 4
theorem tokAt_pos {l : Bs} {k : Int} {n : Nat} (h : tokAt l = .yes k n) : 0 < n ∧ n ≤ l.length := by
  unfold tokAt at h
  have h1 := gRun_le qN l 0
  have h2 := gRun_le qD l 0
  have h3 := sgn_le l
  split at h
  · split at h
    · injection h; omega
    · split at h
      · cases h
      · injection h; omega
  · split at h
    · split at h
      · cases h
      · injection h; omega
    · split at h
      · injection h; omega
      · cases h

def lexF : Nat → Bs → Int × Int → Out
  | 0, _, _ => .bad 0 0 0
  | _ + 1, [], p => .ok [⟨5, [], p.1, p.2⟩]
  | f + 1, c :: r, p =>
    if isB c.toNat then lexF f r (mv p c)
    else if (c.toNat : Int) = 35 then lexF f ((c :: r).drop (gRun qC 0 (c :: r))) (mvs p ((c :: r).take (gRun qC 0 (c :: r))))
    else match tokAt (c :: r) with
      | .no e => .bad p.1 p.2 e
      | .yes k n => (lexF f ((c :: r).drop n) (mvs p ((c :: r).take n))).cons ⟨k, (c :: r).take n, p.1, p.2⟩

theorem com_pos {c : UInt8} {r : Bs} (h : (c.toNat : Int) = 35) : 0 < gRun qC 0 (c :: r) := by
  rw [gRun, if_pos (by simp [qC, h])]; omega
theorem lexF_fuel (f : Nat) : ∀ (g : Nat) (l : Bs) (p : Int × Int), l.length < f → l.length < g → lexF f l p = lexF g l p := by
  induction f with
  | zero => intro g l p h; omega
  | succ f ih =>
    intro g l p hf hg
    cases g with
    | zero => omega
    | succ g =>
      cases l with
      | nil => rfl
      | cons c r =>
        have hr : r.length < f := by simpa using hf
        have hr2 : r.length < g := by simpa using hg
        rw [lexF, lexF]
        split
        · exact ih g r _ hr hr2
        · split
          · next hc =>
            have h0 := com_pos (r := r) hc
            have hd : ((c :: r).drop (gRun qC 0 (c :: r))).length ≤ r.length := by rw [List.length_drop]; simp; omega
            exact ih g _ _ (by omega) (by omega)
          · split
            · rfl
            · next k n hk =>
              have h0 := tokAt_pos hk
              have hd : ((c :: r).drop n).length ≤ r.length := by rw [List.length_drop]; simp; omega
              rw [ih g _ _ (by omega) (by omega)]

/-- The tokens of a text that begins at a position, or the first error. -/
def lex (l : Bs) (p : Int × Int) : Out := lexF (l.length + 1) l p
theorem lex_nil (p : Int × Int) : lex [] p = .ok [⟨5, [], p.1, p.2⟩] := rfl
theorem lex_blank {c : UInt8} {r : Bs} (h : isB c.toNat = true) (p : Int × Int) : lex (c :: r) p = lex r (mv p c) := by
  rw [lex, List.length_cons, lexF, if_pos h, lex]
theorem lex_com {c : UInt8} {r : Bs} (h : (c.toNat : Int) = 35) (p : Int × Int) : lex (c :: r) p = lex ((c :: r).drop (gRun qC 0 (c :: r))) (mvs p ((c :: r).take (gRun qC 0 (c :: r)))) := by
  have h0 := com_pos (r := r) h
  rw [lex, List.length_cons, lexF, if_neg (by rw [h]; decide), if_pos h, lex]
  exact lexF_fuel _ _ _ _ (by rw [List.length_drop]; simp; omega) (by omega)
theorem lex_no {c : UInt8} {r : Bs} {e : Int} (h1 : isB c.toNat = false) (h2 : (c.toNat : Int) ≠ 35) (h : tokAt (c :: r) = .no e) (p : Int × Int) : lex (c :: r) p = .bad p.1 p.2 e := by
  rw [lex, List.length_cons, lexF, if_neg (by simp [h1]), if_neg h2, h]
theorem lex_yes {c : UInt8} {r : Bs} {k : Int} {n : Nat} (h1 : isB c.toNat = false) (h2 : (c.toNat : Int) ≠ 35) (h : tokAt (c :: r) = .yes k n) (p : Int × Int) :
    lex (c :: r) p = (lex ((c :: r).drop n) (mvs p ((c :: r).take n))).cons ⟨k, (c :: r).take n, p.1, p.2⟩ := by
  have h0 := tokAt_pos h
  rw [lex, List.length_cons, lexF, if_neg (by simp [h1]), if_neg h2, h, lex]
  show Out.cons _ _ = _
  rw [lexF_fuel (r.length + 1) (((c :: r).drop n).length + 1) _ _ (by rw [List.length_drop]; simp; omega) (by omega)]
theorem lex_blanks (l : Bs) (i : Nat) (p : Int × Int) : lex l p = lex (l.drop (gRun qB i l)) (mvs p (l.take (gRun qB i l))) := by
  induction l generalizing i p with
  | nil => simp [gRun, mvs]
  | cons c r ih =>
    rw [gRun]
    split
    · next h => rw [lex_blank h, ih (i + 1) (mv p c)]; rfl
    · simp [mvs]
theorem blank_zero {c : UInt8} {r : Bs} (h : gRun qB 0 (c :: r) = 0) : isB c.toNat = false := by
  rw [gRun] at h
  split at h
  · omega
  · next hc => simpa [qB] using hc
theorem com_zero {c : UInt8} {r : Bs} (h : gRun qC 0 (c :: r) = 0) : (c.toNat : Int) ≠ 35 := by
  rw [gRun] at h
  split at h
  · omega
  · next hc => simpa [qC] using hc
theorem com_some {c : UInt8} {r : Bs} (h : 0 < gRun qC 0 (c :: r)) : (c.toNat : Int) = 35 := by
  rw [gRun] at h
  split at h
  · next hc => simpa [qC] using hc
  · omega
theorem kw_short : ∀ t ∈ kws, t.length ≤ 9 := by decide
theorem kw_first : ∀ t ∈ kws, (match t with | [] => false | c :: _ => isL c.toNat) = true := by decide
theorem kwB_mem {t : Bs} (h : kwB t = true) : t ∈ kws := by unfold kwB at h; simpa using h
theorem kwB_short {t : Bs} (h : kwB t = true) : t.length ≤ 9 := kw_short t (kwB_mem h)
theorem kwB_first {c : UInt8} {r : Bs} (h : kwB (c :: r) = true) : isL c.toNat = true := kw_first _ (kwB_mem h)
theorem not_name {c : UInt8} {r : Bs} (h : gRun qN 0 (c :: r) = 0) : isL c.toNat = false := by
  rw [gRun] at h
  split at h
  · omega
  · next hc => simpa [qN] using hc
end Lx
end Go.Proofs.YtggdhgppclnckaaGreatDoor

namespace Go.Proofs.YtggdhgppclnckaaGreatDoor
open Go.RowKit Lx

namespace Ps
/-- A fraction: its sign and its limbs. -/
structure Rv where
  neg : Bool
  num : List Int
  den : List Int
def Rv.zero : Rv := ⟨false, [], []⟩
inductive Ex where
  | mk (op i : Int) (r : Rv) (nm : Bs) (as : List Ex)
namespace Ex
def op : Ex → Int | mk op _ _ _ _ => op
def i : Ex → Int | mk _ i _ _ _ => i
def r : Ex → Rv | mk _ _ r _ _ => r
def nm : Ex → Bs | mk _ _ _ nm _ => nm
def as : Ex → List Ex | mk _ _ _ _ as => as
end Ex
inductive Ty where
  | mk (k lo hi mx : Int) (es : List Ty)
namespace Ty
def k : Ty → Int | mk k _ _ _ _ => k
def lo : Ty → Int | mk _ lo _ _ _ => lo
def hi : Ty → Int | mk _ _ hi _ _ => hi
def mx : Ty → Int | mk _ _ _ mx _ => mx
def es : Ty → List Ty | mk _ _ _ _ es => es
end Ty
structure Dr where
  k : Int
  lo : Int
  hi : Int
  fr : Rv
  to : Rv
  ps : List Ex
  nm : Bs
def Ex.zero : Ex := .mk 0 0 .zero [] []
def Dr.zero : Dr := ⟨0, 0, 0, .zero, .zero, [], []⟩
inductive St where
  | mk (k : Int) (nm fn : Bs) (i : Int) (ex : Ex) (as : List Ex) (dr : Dr) (th el : List St)
structure De where
  nm : Bs
  ty : Ty
structure Fu where
  nm : Bs
  args : List De
  vars : List De
  body : List St
  res : Bs
structure Pr where
  params : List Bs
  funcs : List Fu
  queries : List Fu
  vars : List De
  body : List St
  res : Bs

/-- What a rule of the grammar gives: a value, the tokens taken and the brackets open behind it, or the token at which it gives up, and why. -/
inductive R (α : Type) where
  | ok (a : α) (i : Nat) (o : Int)
  | no (i : Nat) (e : Int)
abbrev P (α : Type) := Nat → Int → R α
section
variable {α β : Type}
def ret (a : α) : P α := fun i o => .ok a i o
def bd (m : P α) (f : α → P β) : P β := fun i o => match m i o with | .ok a i o => f a i o | .no i e => .no i e
def fails (e : Int) : P α := fun i _ => .no i e
theorem bd_ok {m : P α} {f : α → P β} {i i' : Nat} {o o' : Int} {a : α} (h : m i o = .ok a i' o') : bd m f i o = f a i' o' := by unfold bd; rw [h]
theorem bd_no {m : P α} {f : α → P β} {i i' : Nat} {o e : Int} (h : m i o = .no i' e) : bd m f i o = .no i' e := by unfold bd; rw [h]
end

/-- Token i. -/
def tkn (L : List Tok) (i : Nat) : Tok := L.getD i ⟨5, [], 0, 0⟩
/-- Takes the next token, which has this text. -/
def take (s : Bs) : P Unit := fun i o =>
  if s = [40] ∨ s = [91] ∨ s = [123] then (if o = 10 then .no i 9 else .ok () (i + 1) (o + 1))
  else if s = [41] ∨ s = [93] ∨ s = [125] then .ok () (i + 1) (o - 1) else .ok () (i + 1) o
def acc (L : List Tok) (s : Bs) : P Bool := fun i o => if (tkn L i).t = s then bd (take s) (fun _ => ret true) i o else .ok false i o
def want (L : List Tok) (s : Bs) : P Unit := bd (acc L s) fun b => if b then ret () else fails 4
def opn (L : List Tok) (s : Bs) : P Bool := bd (acc L s) fun b => if b then bd (want L [40]) fun _ => ret true else ret false
def name (L : List Tok) : P Bs := fun i o => if (tkn L i).k = 1 then .ok (tkn L i).t (i + 1) o else .no i 4
def numv (t : Bs) : Nat := t.foldl (fun n c => n * 10 + (c.toNat - 48)) 0
def number (L : List Tok) : P Int := fun i o => if (tkn L i).k = 2 then (if 1000000 < numv (tkn L i).t then .no i 9 else .ok (numv (tkn L i).t) (i + 1) o) else .no i 4
def integer (L : List Tok) : P Int := bd (acc L [45]) fun b => if b then bd (number L) fun n => ret (-n) else number L
def digs (L : List Tok) : P Bs := fun i o => if (tkn L i).k = 2 then .ok (tkn L i).t (i + 1) o else .no i 4
def dens (L : List Tok) : P Bs := fun i o => if (tkn L i).k = 2 then (if numv (tkn L i).t = 0 then .no i 3 else .ok (tkn L i).t (i + 1) o) else .no i 4
/-- The limbs of a number, from the least. -/
def limbs : Nat → Nat → List Int
  | 0, _ => []
  | f + 1, n => if n = 0 then [] else ((n % 4294967296 : Nat) : Int) :: limbs f (n / 4294967296)
/-- The fraction in lowest terms. -/
def ratv (neg : Bool) (a b : Nat) : Rv := ⟨neg && decide (a ≠ 0), limbs (a / Nat.gcd a b) (a / Nat.gcd a b), limbs (b / Nat.gcd a b) (b / Nat.gcd a b)⟩
def fraction (L : List Tok) : P Rv := bd (acc L [45]) fun s => bd (digs L) fun a => bd (acc L [47]) fun b => if b then bd (dens L) fun c => ret (ratv s (numv a) (numv c)) else ret (ratv s (numv a) 1)

section
variable {α : Type}
def listF (L : List Tok) (m : P α) : Nat → List α → P (List α)
  | 0, _ => fails 0
  | f + 1, l => bd (acc L [44]) fun b => if b then bd m fun a => listF L m f (l ++ [a]) else ret l
def list (L : List Tok) (m : P α) : P (List α) := bd m fun a => listF L m L.length [a]
def listU (L : List Tok) (s : Bs) (m : P α) : P (List α) := bd (acc L s) fun b => if b then ret [] else bd (list L m) fun l => bd (want L s) fun _ => ret l
def pair (L : List Tok) (m : P α) : P (α × α) := bd m fun a => bd (want L [44]) fun _ => bd m fun b => ret (a, b)
end

def node (op : Int) (as : List Ex) : Ex := .mk op 0 .zero [] as
def firstOp (L : List Tok) : List (Bs × Int) → P (Option Int)
  | [] => ret none
  | (s, op) :: ops => bd (acc L s) fun b => if b then ret (some op) else firstOp L ops
def chainF (L : List Tok) (m : P Ex) (ops : List (Bs × Int)) : Nat → Ex → P Ex
  | 0, _ => fails 0
  | f + 1, e => bd (firstOp L ops) fun r => match r with | none => ret e | some op => bd m fun x => chainF L m ops f (node op [e, x])
def chain (L : List Tok) (m : P Ex) (ops : List (Bs × Int)) : P Ex := bd m fun e => chainF L m ops L.length e
def one : List Ex → Ex
  | [x] => x
  | l => node 16 l
def paren (L : List Tok) (X : P Ex) : P Ex :=
  bd (acc L [40]) fun b => if b then bd (list L X) fun l => bd (want L [41]) fun _ => ret (one l) else
  bd (opn L [108, 101, 110]) fun b => if b then bd X fun x => bd (want L [41]) fun _ => ret (node 20 [x]) else
  bd (opn L [112, 117, 115, 104]) fun b => if b then bd (pair L X) fun p => bd (want L [41]) fun _ => ret (node 19 [p.1, p.2]) else fails 4
def primW (L : List Tok) (X : P Ex) : P Ex :=
  bd (acc L [116, 114, 117, 101]) fun b => if b then ret (.mk 1 1 .zero [] []) else
  bd (acc L [102, 97, 108, 115, 101]) fun b => if b then ret (.mk 1 0 .zero [] []) else
  bd (acc L [91]) fun b => if b then bd (listU L [93] X) fun l => ret (node 18 l) else paren L X
def prim (L : List Tok) (X : P Ex) : P Ex := fun i o =>
  if (tkn L i).k = 1 then bd (name L) (fun s => ret (.mk 4 0 .zero s [])) i o
  else if (tkn L i).k = 2 then (if (tkn L (i + 1)).t = [47] then bd (fraction L) (fun r => ret (.mk 3 0 r [] [])) i o else bd (number L) (fun n => ret (.mk 2 n .zero [] [])) i o)
  else primW L X i o
def postF (L : List Tok) (X : P Ex) : Nat → Ex → P Ex
  | 0, _ => fails 0
  | f + 1, e => bd (acc L [46]) fun b => if b then bd (number L) fun n => postF L X f (.mk 17 n .zero [] [e]) else
    bd (acc L [91]) fun b => if b then bd X fun x => bd (want L [93]) fun _ => postF L X f (node 21 [e, x]) else ret e
def post (L : List Tok) (X : P Ex) : P Ex := bd (prim L X) fun e => postF L X L.length e
def unF (L : List Tok) (X : P Ex) : Nat → P Ex
  | 0 => fails 0
  | f + 1 => bd (acc L [33]) fun b => if b then bd (unF L X f) fun x => ret (node 5 [x]) else
    bd (acc L [45]) fun b => if b then bd (unF L X f) fun x => ret (node 11 [x]) else post L X
def cmpE (L : List Tok) (S : P Ex) : P Ex := bd S fun e =>
  bd (acc L [61, 61]) fun b => if b then bd S fun x => ret (node 8 [e, x]) else
  bd (acc L [33, 61]) fun b => if b then bd S fun x => ret (node 5 [node 8 [e, x]]) else
  bd (acc L [60]) fun b => if b then bd S fun x => ret (node 9 [e, x]) else
  bd (acc L [60, 61]) fun b => if b then bd S fun x => ret (node 10 [e, x]) else
  bd (acc L [62]) fun b => if b then bd S fun x => ret (node 9 [x, e]) else
  bd (acc L [62, 61]) fun b => if b then bd S fun x => ret (node 10 [x, e]) else ret e
def prodE (L : List Tok) (X : P Ex) : P Ex := chain L (unF L X L.length) [([42], 14)]
def sumE (L : List Tok) (X : P Ex) : P Ex := chain L (prodE L X) [([43], 12), ([45], 13)]
def andE (L : List Tok) (X : P Ex) : P Ex := chain L (cmpE L (sumE L X)) [([38, 38], 6)]
def orE (L : List Tok) (X : P Ex) : P Ex := chain L (andE L X) [([124, 124], 7)]
def condE (L : List Tok) (X : P Ex) : P Ex := bd (orE L X) fun e =>
  bd (acc L [63]) fun b => if b then bd X fun x => bd (want L [58]) fun _ => bd X fun y => ret (node 15 [e, x, y]) else ret e
def expr (L : List Tok) : Nat → P Ex
  | 0 => fails 0
  | n + 1 => condE L (expr L n)

def leaf (k : Int) : Ty := .mk k 0 0 0 []
def tyE (L : List Tok) (T : P Ty) : P Ty :=
  bd (acc L [98, 111, 111, 108]) fun b => if b then ret (leaf 1) else
  bd (acc L [110, 97, 116]) fun b => if b then ret (leaf 3) else
  bd (acc L [114, 101, 97, 108]) fun b => if b then ret (leaf 4) else
  bd (acc L [105, 110, 116]) fun b => if b then bd (want L [91]) fun _ => bd (pair L (integer L)) fun p => bd (want L [93]) fun _ => ret (.mk 2 p.1 p.2 0 []) else
  bd (acc L [108, 105, 115, 116]) fun b => if b then bd (want L [91]) fun _ => bd (number L) fun n => bd (want L [93]) fun _ => bd T fun t => ret (.mk 6 0 0 n [t]) else
  bd (acc L [40]) fun b => if b then bd T fun t => bd (want L [44]) fun _ => bd (list L T) fun l => bd (want L [41]) fun _ => ret (.mk 5 0 0 0 (t :: l)) else fails 4
def tyF (L : List Tok) : Nat → P Ty
  | 0 => fails 0
  | n + 1 => tyE L (tyF L n)

def drawE (L : List Tok) (X : P Ex) : P Dr :=
  bd (acc L [112, 111, 115, 116, 101, 114, 105, 111, 114]) fun b => if b then bd (name L) fun s => ret ⟨8, 0, 0, .zero, .zero, [], s⟩ else
  bd (opn L [102, 108, 105, 112]) fun b => if b then bd X fun x => bd (want L [41]) fun _ => ret ⟨1, 0, 0, .zero, .zero, [x], []⟩ else
  bd (opn L [117, 110, 105, 102, 111, 114, 109]) fun b => if b then bd (pair L (integer L)) fun p => bd (want L [41]) fun _ => ret ⟨2, p.1, p.2, .zero, .zero, [], []⟩ else
  bd (opn L [116, 97, 98, 108, 101]) fun b => if b then bd (integer L) fun n => bd (want L [59]) fun _ => bd (list L X) fun l => bd (want L [41]) fun _ => ret ⟨3, n, 0, .zero, .zero, l, []⟩ else
  bd (opn L [98, 105, 110, 111, 109, 105, 97, 108]) fun b => if b then bd (number L) fun n => bd (want L [44]) fun _ => bd X fun x => bd (want L [41]) fun _ => ret ⟨4, 0, n, .zero, .zero, [x], []⟩ else
  bd (opn L [103, 101, 111, 109, 101, 116, 114, 105, 99]) fun b => if b then bd (fraction L) fun r => bd (want L [41]) fun _ => ret ⟨5, 0, 0, r, .zero, [], []⟩ else
  bd (opn L [105, 110, 116, 101, 114, 118, 97, 108]) fun b => if b then bd (pair L (fraction L)) fun p => bd (want L [41]) fun _ => ret ⟨6, 0, 0, p.1, p.2, [], []⟩ else
  bd (opn L [98, 101, 116, 97]) fun b => if b then bd (pair L (number L)) fun p => bd (want L [41]) fun _ => ret ⟨7, p.1, p.2, .zero, .zero, [], []⟩ else fails 4
def change (L : List Tok) (X : P Ex) : P St := bd (name L) fun s =>
  bd (acc L [126]) fun b => if b then bd (drawE L X) fun d => ret (.mk 2 s [] 0 .zero [] d [] []) else
  bd (want L [58, 61]) fun _ => fun i o =>
    if (tkn L i).k = 1 ∧ (tkn L (i + 1)).t = [40] then bd (name L) (fun f => bd (want L [40]) fun _ => bd (listU L [41] X) fun l => ret (.mk 3 s f 0 .zero l .zero [] [])) i o
    else bd X (fun x => ret (.mk 1 s [] 0 x [] .zero [] [])) i o
def stmtsF (L : List Tok) (S : P St) (s : Bs) : Nat → List St → P (List St)
  | 0, _ => fails 0
  | f + 1, l => bd (acc L s) fun b => if b then ret l else bd S fun x => stmtsF L S s f (l ++ [x])
def body (L : List Tok) (S : P St) : P (List St) := bd (want L [123]) fun _ => stmtsF L S [125] L.length []
def stmtE (L : List Tok) (X : P Ex) (B : P (List St)) : P St :=
  bd (acc L [105, 102]) fun b => if b then bd X fun x => bd B fun t => bd (acc L [101, 108, 115, 101]) fun b => (if b then bd B fun e => ret (.mk 4 [] [] 0 x [] .zero t e) else ret (.mk 4 [] [] 0 x [] .zero t [])) else
  bd (acc L [114, 101, 112, 101, 97, 116]) fun b => if b then bd (number L) fun n => bd B fun t => ret (.mk 5 [] [] n .zero [] .zero t []) else
  bd (acc L [119, 104, 105, 108, 101]) fun b => if b then bd X fun x => bd B fun t => ret (.mk 6 [] [] 0 x [] .zero t []) else
  bd (acc L [111, 98, 115, 101, 114, 118, 101]) fun b => if b then bd X fun x => bd (want L [59]) fun _ => ret (.mk 7 [] [] 0 x [] .zero [] []) else
  bd (acc L [119, 101, 105, 103, 104, 116]) fun b => if b then bd X fun x => bd (want L [59]) fun _ => ret (.mk 8 [] [] 0 x [] .zero [] []) else
  bd (change L X) fun s => bd (want L [59]) fun _ => ret s
def stmt (L : List Tok) : Nat → P St
  | 0 => fails 0
  | n + 1 => stmtE L (expr L L.length) (body L (stmt L n))
def decl (L : List Tok) : P De := bd (name L) fun s => bd (want L [58]) fun _ => bd (tyF L L.length) fun t => ret ⟨s, t⟩
def varsF (L : List Tok) : Nat → List De → P (List De)
  | 0, _ => fails 0
  | f + 1, l => bd (acc L [118, 97, 114]) fun b => if b then bd (decl L) fun d => bd (want L [59]) fun _ => varsF L f (l ++ [d]) else ret l
def block (L : List Tok) : P (List De × List St × Bs) := bd (varsF L L.length []) fun v => bd (stmtsF L (stmt L L.length) [114, 101, 116, 117, 114, 110] L.length []) fun b => bd (name L) fun s => bd (want L [59]) fun _ => ret (v, b, s)
def inner (L : List Tok) (s : Bs) (args : List De) : P Fu := bd (want L [123]) fun _ => bd (block L) fun x => bd (want L [125]) fun _ => ret ⟨s, args, x.1, x.2.1, x.2.2⟩
def func (L : List Tok) : P Fu := bd (name L) fun s => bd (want L [40]) fun _ => bd (listU L [41] (decl L)) fun l => inner L s l
def query (L : List Tok) : P Fu := bd (name L) fun s => inner L s []
def paramsF (L : List Tok) : Nat → List Bs → P (List Bs)
  | 0, _ => fails 0
  | f + 1, l => bd (acc L [112, 97, 114, 97, 109]) fun b => if b then bd (name L) fun s => bd (want L [59]) fun _ => paramsF L f (l ++ [s]) else ret l
def partsF (L : List Tok) : Nat → List Fu → List Fu → P (List Fu × List Fu)
  | 0, _, _ => fails 0
  | f + 1, l, m => bd (acc L [102, 117, 110, 99]) fun b => if b then bd (func L) fun x => partsF L f (l ++ [x]) m else
    bd (acc L [113, 117, 101, 114, 121]) fun b => if b then bd (query L) fun x => partsF L f l (m ++ [x]) else ret (l, m)
def ends (L : List Tok) : P Unit := fun i o => if (tkn L i).k = 5 then .ok () i o else .no i 4
def program (L : List Tok) : P Pr := bd (paramsF L L.length []) fun ps => bd (partsF L L.length [] []) fun fq => bd (block L) fun x => bd (ends L) fun _ => ret ⟨ps, fq.1, fq.2, x.1, x.2.1, x.2.2⟩

/-- Tokens as the lexer gives them: the end stands last and only there, names and numbers are no keywords and no signs, numbers are digits. -/
structure Good (L : List Tok) : Prop where
  pos : 0 < L.length
  len : L.length ≤ 8193
  last : ∀ i (h : i < L.length), (L[i].k = 5 ↔ i + 1 = L.length)
  fin : ∀ t ∈ L, t.k = 5 → t.t = []
  kinds : ∀ t ∈ L, t.k = 1 ∨ t.k = 2 ∨ t.k = 3 ∨ t.k = 4 ∨ t.k = 5
  words : ∀ t ∈ L, t.k ≠ 3 → t.k ≠ 4 → kwB t.t = false ∧ sgB t.t = false
  nums : ∀ t ∈ L, t.k = 2 → 0 < t.t.length ∧ t.t.length ≤ 60 ∧ ∀ c ∈ t.t, isD c.toNat = true
end Ps
end Go.Proofs.YtggdhgppclnckaaGreatDoor
