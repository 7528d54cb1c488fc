/-
  The order of lists of ints, and the texts of values, which are read back (pure). No program is named here.
  Pure: the cells of a value lie in the ranges of its type's cells; the zero value fits.
-/
import Derived.Test.YtklndjkblfncjaaGreatDoorReadP
import Derived.Lib.ItoaNum
import Derived.Lib.Join
namespace Go.Proofs.YtklndjkblfncjaaGreatDoor

/-- The lexicographic order. -/
def vcmp : List Int → List Int → Int
  | [], [] => 0
  | [], _ :: _ => -1
  | _ :: _, [] => 1
  | a :: x, b :: y => if a < b then -1 else if b < a then 1 else vcmp x y
abbrev By := List UInt8
def isDg (c : UInt8) : Bool := decide (48 ≤ c.toNat ∧ c.toNat ≤ 57)
/-- The number that decimal digits stand for. -/
def dgN (l : By) : Nat := l.foldl (fun v c => 10 * v + (c.toNat - 48)) 0
theorem dgN_snoc (l : By) (c : UInt8) : dgN (l ++ [c]) = 10 * dgN l + (c.toNat - 48) := by unfold dgN; rw [List.foldl_append]; rfl
theorem dg_byte (u : Nat) (h : u < 10) : (UInt8.ofNat (48 + u)).toNat = 48 + u := by
  rw [UInt8.toNat_ofNat']; omega
theorem dec_digits (u : Nat) : (∀ c ∈ Lib.decDigits u, isDg c = true) ∧ Lib.decDigits u ≠ [] ∧ dgN (Lib.decDigits u) = u := by
  induction u using Nat.strongRecOn with
  | ind u ih =>
    rw [Lib.decDigits]
    split
    · next h =>
      refine ⟨fun c hc => ?_, by simp, ?_⟩
      · rw [List.mem_singleton] at hc; subst hc
        unfold isDg; rw [dg_byte u h]; simp; omega
      · show 10 * 0 + ((UInt8.ofNat (48 + u)).toNat - 48) = u
        rw [dg_byte u h]; omega
    · next h =>
      obtain ⟨h1, h2, h3⟩ := ih (u / 10) (by omega)
      refine ⟨fun c hc => ?_, by simp, ?_⟩
      · rcases List.mem_append.1 hc with hc | hc
        · exact h1 c hc
        · rw [List.mem_singleton] at hc; subst hc
          unfold isDg; rw [dg_byte (u % 10) (by omega)]; simp; omega
      · rw [dgN_snoc, h3, dg_byte (u % 10) (by omega)]; omega
/-- What may stand behind a value's text: no digit. -/
def Term (r : By) : Prop := ∀ c s, r = c :: s → isDg c = false
theorem digits_split {x y r r' : By} (hx : ∀ c ∈ x, isDg c = true) (hy : ∀ c ∈ y, isDg c = true) (hr : Term r) (hr' : Term r') (e : x ++ r = y ++ r') : x = y ∧ r = r' := by
  induction x generalizing y with
  | nil =>
    cases y with
    | nil => exact ⟨rfl, e⟩
    | cons c y => have := hr c (y ++ r') e; rw [hy c (by simp)] at this; cases this
  | cons c x ih =>
    cases y with
    | nil => have := hr' c (x ++ r) e.symm; rw [hx c (by simp)] at this; cases this
    | cons d y =>
      injection e with e1 e2
      obtain ⟨h1, h2⟩ := ih (fun c hc => hx c (List.mem_cons_of_mem _ hc)) (fun c hc => hy c (List.mem_cons_of_mem _ hc)) e2
      exact ⟨by rw [e1, h1], h2⟩
theorem dec_inj {u v : Nat} {r r' : By} (hr : Term r) (hr' : Term r') (e : Lib.decDigits u ++ r = Lib.decDigits v ++ r') : u = v ∧ r = r' := by
  obtain ⟨h1, h2⟩ := digits_split (dec_digits u).1 (dec_digits v).1 hr hr' e
  refine ⟨?_, h2⟩
  rw [← (dec_digits u).2.2, ← (dec_digits v).2.2, h1]
/-- The text of a value. -/
def vfmt : Nat → Ty → Vl → By
  | 0, _, _ => []
  | d + 1, T, V =>
    if T.k = 1 then (if V.i = 1 then [116, 114, 117, 101] else [102, 97, 108, 115, 101])
    else if T.k = 5 then 40 :: (Lib.join (List.zipWith (vfmt d) T.es V.es) [44, 32] ++ [41])
    else if T.k = 6 then 91 :: (Lib.join (List.zipWith (vfmt d) (List.replicate V.es.length (T.es.headD (.mk 0 0 0 0 []))) V.es) [44, 32] ++ [93])
    else Lib.itoa V.i

theorem zip_rep {α : Type} (f : Ty → Vl → α) (e : Ty) (rs : List Vl) : List.zipWith f (List.replicate rs.length e) rs = rs.map (f e) := by
  induction rs with
  | nil => simp
  | cons V rs ih => simp only [List.length_cons, List.replicate_succ, List.zipWith_cons_cons, List.map_cons, ih]
theorem zip_zero {d : Nat} {l : List Ty} {rs : List Vl} (h : firstE (List.zipWith (verr d) l rs) = 0) (i : Nat) (e : Ty) (V : Vl) (he : l[i]? = some e) (hV : rs[i]? = some V) : verr d e V = 0 :=
  firstE_zero.1 h _ (List.mem_of_getElem? (i := i) (by rw [List.getElem?_zipWith, he, hV]))
theorem verr_tuple {d : Nat} {T : Ty} {V : Vl} (k5 : T.k = 5) (h : verr (d + 1) T V = 0) : V.es.length = T.es.length ∧ V.i = 0 ∧ firstE (List.zipWith (verr d) T.es V.es) = 0 := by
  simp only [verr, if_pos k5] at h
  by_cases hc : V.es.length = T.es.length
  · rw [if_neg (by simpa using hc)] at h
    by_cases hi : V.i = 0
    · rw [if_neg (by simpa using hi)] at h; exact ⟨hc, hi, h⟩
    · rw [if_pos hi] at h; cases h
  · rw [if_pos hc] at h; cases h
theorem verr_list {d : Nat} {T : Ty} {V : Vl} (k5 : T.k ≠ 5) (k6 : T.k = 6) (h : verr (d + 1) T V = 0) : V.es.length ≤ T.mx ∧ V.i = 0 ∧ firstE (V.es.map (verr d (T.es.headD (.mk 0 0 0 0 [])))) = 0 := by
  simp only [verr, if_neg k5, if_pos k6, zip_rep] at h
  by_cases hc : T.mx < V.es.length
  · rw [if_pos hc] at h; cases h
  · rw [if_neg hc] at h
    by_cases hi : V.i = 0
    · rw [if_neg (by simpa using hi)] at h; exact ⟨by omega, hi, h⟩
    · rw [if_pos hi] at h; cases h
theorem verr_leaf {d : Nat} {T : Ty} {V : Vl} (k5 : T.k ≠ 5) (k6 : T.k ≠ 6) (h : verr (d + 1) T V = 0) : V.es = [] ∧ tlow T ≤ V.i ∧ V.i ≤ thigh T := by
  simp only [verr, if_neg k5, if_neg k6] at h
  by_cases hc : 0 < V.es.length
  · rw [if_pos hc] at h; cases h
  · rw [if_neg hc] at h
    split at h
    · cases h
    · exact ⟨List.eq_nil_of_length_eq_zero (by omega), by omega, by omega⟩
end Go.Proofs.YtklndjkblfncjaaGreatDoor

namespace Go.Proofs.YtklndjkblfncjaaGreatDoor

def In2 : List Int → List (Int × Int × Int) → Prop
  | [], [] => True
  | x :: l, p :: ps => (p.2.1 ≤ x ∧ x ≤ p.2.2) ∧ In2 l ps
  | _, _ => False
theorem In2.append : ∀ {l m : List Int} {p q : List (Int × Int × Int)}, In2 l p → In2 m q → In2 (l ++ m) (p ++ q)
  | [], _, [], _, _, h => h
  | _ :: l, _, _ :: ps, _, h, h' => ⟨h.1, In2.append (l := l) (p := ps) h.2 h'⟩
  | [], _, _ :: _, _, h, _ => h.elim
  | _ :: _, _, [], _, h, _ => h.elim
theorem In2.length : ∀ {l : List Int} {p : List (Int × Int × Int)}, In2 l p → l.length = p.length
  | [], [], _ => rfl
  | _ :: l, _ :: ps, h => by rw [List.length_cons, List.length_cons, In2.length h.2]
  | [], _ :: _, h => h.elim
  | _ :: _, [], h => h.elim
theorem In2.get : ∀ {l : List Int} {p : List (Int × Int × Int)} {i : Nat} {x : Int} {y : Int × Int × Int}, In2 l p → l[i]? = some x → p[i]? = some y → y.2.1 ≤ x ∧ x ≤ y.2.2
  | x :: l, p :: ps, 0, _, _, h, hx, hy => by
    simp at hx hy; subst hx; subst hy; exact h.1
  | x :: l, p :: ps, i + 1, _, _, h, hx, hy => In2.get (l := l) (p := ps) (i := i) h.2 (by simpa using hx) (by simpa using hy)
  | [], _, _, _, _, _, hx, _ => by simp at hx
  | _ :: _, [], _, _, _, h, _, _ => h.elim

theorem in2_zip (f : Ty → Vl → List Int) (g : Ty → List (Int × Int × Int)) (v : Ty → Vl → Int) : ∀ (l : List Ty) (r : List Vl), r.length = l.length → (∀ e ∈ l, ∀ V, v e V = 0 → In2 (f e V) (g e)) → (∀ x ∈ List.zipWith v l r, x = 0) → In2 (List.zipWith f l r).flatten (l.map g).flatten
  | [], [], _, _, _ => trivial
  | e :: l, V :: r, hl, h, hz => by
    simp only [List.zipWith_cons_cons, List.mem_cons, forall_eq_or_imp] at hz
    simp only [List.zipWith_cons_cons, List.flatten_cons, List.map_cons]
    exact (h e List.mem_cons_self V hz.1).append (in2_zip f g v l r (by simpa using hl) (fun e' he => h e' (List.mem_cons_of_mem _ he)) hz.2)
  | [], _ :: _, hl, _, _ => by simp at hl
  | _ :: _, [], hl, _, _ => by simp at hl

theorem zero_fits : ∀ (d : Nat) (T : Ty), deepOk d T → TyOk d T → T.k ≠ 3 → T.k ≠ 4 → verr d T (vzero d T) = 0
  | 0, _, h, _, _, _ => h.elim
  | d + 1, T, hd, hok, h3, h4 => by
    have IH := zero_fits d
    by_cases k5 : T.k = 5
    · obtain ⟨_, _, _, hels⟩ := hok.tuple k5
      simp only [verr, vzero, if_pos k5, Vl.es, Vl.i, List.length_map]
      rw [if_neg (by simp), if_neg (by simp)]
      refine firstE_zero.2 fun x hx => ?_
      have key : ∀ l : List Ty, (∀ e ∈ l, verr d e (vzero d e) = 0) → ∀ x ∈ List.zipWith (verr d) l (l.map (vzero d)), x = 0 := by
        intro l
        induction l with
        | nil => intro _ x hx; simp at hx
        | cons e l ih =>
          intro h x hx
          simp only [List.map_cons, List.zipWith_cons_cons, List.mem_cons] at hx
          rcases hx with rfl | hx
          · exact h e List.mem_cons_self
          · exact ih (fun e' he => h e' (List.mem_cons_of_mem _ he)) x hx
      exact key T.es (fun e he => IH e (hd e he) (hels e he).1 (hels e he).2.1 (hels e he).2.2) x hx
    · by_cases k6 : T.k = 6
      · obtain ⟨_, h1, h4', e, he, hoe, hke⟩ := hok.list k6
        simp only [verr, vzero, if_neg k5, if_pos k6, Vl.es, Vl.i, List.length_nil]
        rw [if_neg (by omega), if_neg (by simp)]
        rfl
      · simp only [verr, vzero, if_neg k5, if_neg k6, Vl.es, Vl.i, List.length_nil]
        rw [if_neg (by omega)]
        rcases hok.kinds with k | k | k | k | k | k
        · have e1 : tlow T = 0 := by simp [tlow, k]
          have e2 : thigh T = 1 := by simp [thigh, k]
          rw [e1, e2]; rfl
        · have e1 : tlow T = T.lo := by simp [tlow, k]
          have e2 : thigh T = T.hi := by simp [thigh, k]
          rw [e1, e2]
          have := hok.int k
          rw [if_neg (by omega)]
        all_goals omega

theorem flat_in : ∀ (d : Nat) (T : Ty) (V : Vl), deepOk d T → TyOk d T → T.k ≠ 3 → T.k ≠ 4 → verr d T V = 0 → In2 (vflat d T V) (tparts d T)
  | 0, _, _, h, _, _, _, _ => h.elim
  | d + 1, T, V, hd, hok, h3, h4, hv => by
    have IH := flat_in d
    by_cases k5 : T.k = 5
    · simp only [verr, if_pos k5] at hv
      by_cases hc : V.es.length = T.es.length
      · rw [if_neg (by simpa using hc)] at hv
        by_cases hi : V.i = 0
        · rw [if_neg (by simpa using hi)] at hv
          obtain ⟨_, _, _, hels⟩ := hok.tuple k5
          simp only [vflat, tparts, if_pos k5]
          rw [if_neg (by omega), if_neg (by omega), if_neg (by omega), if_neg (by omega)]
          exact in2_zip _ _ _ T.es V.es hc (fun e he V' h' => IH e V' (hd e he) (hels e he).1 (hels e he).2.1 (hels e he).2.2 h') (firstE_zero.1 hv)
        · rw [if_pos hi] at hv; cases hv
      · rw [if_pos hc] at hv; cases hv
    · by_cases k6 : T.k = 6
      · obtain ⟨_, h1, h4', e, he, hoe, hke⟩ := hok.list k6
        have hde : deepOk d e := hd e (by rw [he]; exact List.mem_singleton.2 rfl)
        simp only [verr, if_neg k5, if_pos k6, he, List.headD_cons] at hv
        by_cases hm : T.mx < V.es.length
        · rw [if_pos hm] at hv; cases hv
        · rw [if_neg hm] at hv
          by_cases hi : V.i = 0
          · rw [if_neg (by simpa using hi)] at hv
            simp only [vflat, tparts, if_neg k5, if_pos k6, he, List.headD_cons]
            rw [if_neg (by omega), if_neg (by omega), if_neg (by omega)]
            refine ⟨⟨by simp, by show (V.es.length : Int) ≤ T.mx; omega⟩, ?_⟩
            have e1 : (V.es.map (vflat d e)) = List.zipWith (vflat d) (List.replicate V.es.length e) V.es := by
              generalize V.es = l
              induction l with
              | nil => rfl
              | cons f l ih => rw [List.map_cons, List.length_cons, List.replicate_succ, List.zipWith_cons_cons, ih]
            have e2 : List.replicate T.mx.toNat (tparts d e) = (List.replicate V.es.length e).map (tparts d) ++ List.replicate (T.mx.toNat - V.es.length) (tparts d e) := by
              rw [List.map_replicate, List.replicate_append_replicate]; congr 1; omega
            rw [e1, e2, List.flatten_append]
            refine (in2_zip _ _ _ _ V.es (by simp) (fun e' he' V' h' => by rw [List.eq_of_mem_replicate he'] at h' ⊢; exact IH e V' hde hoe (by omega) (by omega) h') (firstE_zero.1 hv)).append ?_
            have hz := IH e (vzero d e) hde hoe (by omega) (by omega) (zero_fits d e hde hoe (by omega) (by omega))
            generalize T.mx.toNat - V.es.length = k
            induction k with
            | zero => trivial
            | succ k ih => rw [List.replicate_succ, List.replicate_succ, List.flatten_cons, List.flatten_cons]; exact hz.append ih
          · rw [if_pos hi] at hv; cases hv
      · simp only [verr, if_neg k5, if_neg k6] at hv
        by_cases h0 : 0 < V.es.length
        · rw [if_pos h0] at hv; cases hv
        · rw [if_neg h0] at hv
          by_cases hr : V.i < tlow T ∨ thigh T < V.i
          · rw [if_pos hr] at hv; cases hv
          · simp only [vflat, if_neg k5, if_neg k6]
            rcases hok.kinds with k | k | k | k | k | k
            · have e1 : tlow T = 0 := by simp [tlow, k]
              have e2 : thigh T = 1 := by simp [thigh, k]
              rw [e1, e2] at hr
              simp only [tparts, if_pos k]
              exact ⟨⟨by show (0 : Int) ≤ V.i; omega, by show V.i ≤ 1; omega⟩, trivial⟩
            · have e1 : tlow T = T.lo := by simp [tlow, k]
              have e2 : thigh T = T.hi := by simp [thigh, k]
              rw [e1, e2] at hr
              simp only [tparts]
              rw [if_neg (by omega), if_pos k]
              exact ⟨⟨by show T.lo ≤ V.i; omega, by show V.i ≤ T.hi; omega⟩, trivial⟩
            all_goals omega
end Go.Proofs.YtklndjkblfncjaaGreatDoor
