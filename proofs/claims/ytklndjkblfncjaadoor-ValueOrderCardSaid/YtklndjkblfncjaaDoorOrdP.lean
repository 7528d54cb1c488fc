/-
  The order of lists of ints, and the texts of values, which are read back (pure). No program is named here.
-/
import Derived.Test.YtklndjkblfncjaaDoorReadP
import Derived.Lib.ItoaNum
import Derived.Lib.Join
namespace Go.Proofs.YtklndjkblfncjaaDoor

/-- The lexicographic order. -/
def vcmp : List Int → List Int → Int
  | [], [] => 0
  | [], _ :: _ => -1
  | _ :: _, [] => 1
  | a :: x, b :: y => if a < b then -1 else if b < a then 1 else vcmp x y
theorem vcmp_range (x y : List Int) : vcmp x y = -1 ∨ vcmp x y = 0 ∨ vcmp x y = 1 := by
  induction x generalizing y with
  | nil => cases y <;> simp [vcmp]
  | cons a x ih =>
    cases y with
    | nil => simp [vcmp]
    | cons b y =>
      simp only [vcmp]
      split
      · simp
      · split
        · simp
        · exact ih y
theorem vcmp_neg (x y : List Int) : vcmp x y = -vcmp y x := by
  induction x generalizing y with
  | nil => cases y <;> simp [vcmp]
  | cons a x ih =>
    cases y with
    | nil => simp [vcmp]
    | cons b y =>
      simp only [vcmp]
      by_cases h1 : a < b
      · rw [if_pos h1, if_neg (by omega), if_pos h1]
      · by_cases h2 : b < a
        · rw [if_neg h1, if_pos h2, if_pos h2]; rfl
        · rw [if_neg h1, if_neg h2, if_neg h2, if_neg h1]; exact ih y
theorem vcmp_eq (x y : List Int) : vcmp x y = 0 ↔ x = y := by
  induction x generalizing y with
  | nil => cases y <;> simp [vcmp]
  | cons a x ih =>
    cases y with
    | nil => simp [vcmp]
    | cons b y =>
      simp only [vcmp]
      by_cases h1 : a < b
      · rw [if_pos h1]; simp; omega
      · by_cases h2 : b < a
        · rw [if_neg h1, if_pos h2]; simp; omega
        · rw [if_neg h1, if_neg h2, ih y]
          have : a = b := by omega
          simp [this]
theorem vcmp_trans (x y z : List Int) (h : vcmp x y ≤ 0) (k : vcmp y z ≤ 0) : vcmp x z ≤ 0 := by
  induction x generalizing y z with
  | nil => cases z <;> simp [vcmp]
  | cons a x ih =>
    cases y with
    | nil => simp [vcmp] at h
    | cons b y =>
      cases z with
      | nil => simp [vcmp] at k
      | cons c z =>
        simp only [vcmp] at h k ⊢
        split at h
        · split at k
          · rw [if_pos (by omega)]; omega
          · split at k
            · omega
            · rw [if_pos (by omega)]; omega
        · split at h
          · omega
          · split at k
            · rw [if_pos (by omega)]; omega
            · split at k
              · omega
              · rw [if_neg (by omega), if_neg (by omega)]; exact ih y z h k
theorem flat_inj {d : Nat} {T : Ty} {V V' : Vl} (hd : deepOk d T) (hk : TyOk d T) (h : verr d T V = 0) (h' : verr d T V' = 0) (e : vflat d T V = vflat d T V') : V = V' := by
  have h1 := read_flat d T V [] hd hk h
  have h2 := read_flat d T V' [] hd hk h'
  rw [← h1, ← h2, e]

abbrev By := List UInt8
def isDg (c : UInt8) : Bool := decide (48 ≤ c.toNat ∧ c.toNat ≤ 57)
/-- The number that decimal digits stand for. -/
def dgN (l : By) : Nat := l.foldl (fun v c => 10 * v + (c.toNat - 48)) 0
theorem dgN_snoc (l : By) (c : UInt8) : dgN (l ++ [c]) = 10 * dgN l + (c.toNat - 48) := by unfold dgN; rw [List.foldl_append]; rfl
theorem dg_byte (u : Nat) (h : u < 10) : (UInt8.ofNat (48 + u)).toNat = 48 + u := by
  rw [UInt8.toNat_ofNat']; omega
theorem dec_digits (u : Nat) : (∀ c ∈ Lib.decDigits u, isDg c = true) ∧ Lib.decDigits u ≠ [] ∧ dgN (Lib.decDigits u) = u := by
  induction u using Nat.strongRecOn with
  | ind u ih =>
    rw [Lib.decDigits]
    split
    · next h =>
      refine ⟨fun c hc => ?_, by simp, ?_⟩
      · rw [List.mem_singleton] at hc; subst hc
        unfold isDg; rw [dg_byte u h]; simp; omega
      · show 10 * 0 + ((UInt8.ofNat (48 + u)).toNat - 48) = u
        rw [dg_byte u h]; omega
    · next h =>
      obtain ⟨h1, h2, h3⟩ := ih (u / 10) (by omega)
      refine ⟨fun c hc => ?_, by simp, ?_⟩
      · rcases List.mem_append.1 hc with hc | hc
        · exact h1 c hc
        · rw [List.mem_singleton] at hc; subst hc
          unfold isDg; rw [dg_byte (u % 10) (by omega)]; simp; omega
      · rw [dgN_snoc, h3, dg_byte (u % 10) (by omega)]; omega
/-- What may stand behind a value's text: no digit. -/
def Term (r : By) : Prop := ∀ c s, r = c :: s → isDg c = false
theorem digits_split {x y r r' : By} (hx : ∀ c ∈ x, isDg c = true) (hy : ∀ c ∈ y, isDg c = true) (hr : Term r) (hr' : Term r') (e : x ++ r = y ++ r') : x = y ∧ r = r' := by
  induction x generalizing y with
  | nil =>
    cases y with
    | nil => exact ⟨rfl, e⟩
    | cons c y => have := hr c (y ++ r') e; rw [hy c (by simp)] at this; cases this
  | cons c x ih =>
    cases y with
    | nil => have := hr' c (x ++ r) e.symm; rw [hx c (by simp)] at this; cases this
    | cons d y =>
      injection e with e1 e2
      obtain ⟨h1, h2⟩ := ih (fun c hc => hx c (List.mem_cons_of_mem _ hc)) (fun c hc => hy c (List.mem_cons_of_mem _ hc)) e2
      exact ⟨by rw [e1, h1], h2⟩
theorem dec_inj {u v : Nat} {r r' : By} (hr : Term r) (hr' : Term r') (e : Lib.decDigits u ++ r = Lib.decDigits v ++ r') : u = v ∧ r = r' := by
  obtain ⟨h1, h2⟩ := digits_split (dec_digits u).1 (dec_digits v).1 hr hr' e
  refine ⟨?_, h2⟩
  rw [← (dec_digits u).2.2, ← (dec_digits v).2.2, h1]
theorem dec_head (u : Nat) : ∃ c s, Lib.decDigits u = c :: s ∧ isDg c = true := by
  obtain ⟨h1, h2, _⟩ := dec_digits u
  cases hl : Lib.decDigits u with
  | nil => exact absurd hl h2
  | cons c s => exact ⟨c, s, rfl, h1 c (by rw [hl]; simp)⟩
theorem itoa_inj {i j : Int} {r r' : By} (hr : Term r) (hr' : Term r') (e : Lib.itoa i ++ r = Lib.itoa j ++ r') : i = j ∧ r = r' := by
  unfold Lib.itoa at e
  have neg : ∀ (u v : Nat) (r r' : By), 45 :: Lib.decDigits u ++ r = Lib.decDigits v ++ r' → False := fun u v r r' h => by
    obtain ⟨c, s, hc, hd⟩ := dec_head v
    rw [hc] at h
    injection h with h _
    subst h; revert hd; decide
  split at e
  · split at e
    · rw [List.cons_append, List.cons_append] at e
      injection e with _ e
      obtain ⟨h1, h2⟩ := dec_inj hr hr' e
      exact ⟨by omega, h2⟩
    · exact (neg _ _ _ _ e).elim
  · split at e
    · exact (neg _ _ _ _ e.symm).elim
    · obtain ⟨h1, h2⟩ := dec_inj hr hr' e
      exact ⟨by omega, h2⟩

/-- The text of a value. -/
def vfmt : Nat → Ty → Vl → By
  | 0, _, _ => []
  | d + 1, T, V =>
    if T.k = 1 then (if V.i = 1 then [116, 114, 117, 101] else [102, 97, 108, 115, 101])
    else if T.k = 5 then 40 :: (Lib.join (List.zipWith (vfmt d) T.es V.es) [44, 32] ++ [41])
    else if T.k = 6 then 91 :: (Lib.join (List.zipWith (vfmt d) (List.replicate V.es.length (T.es.headD (.mk 0 0 0 0 []))) V.es) [44, 32] ++ [93])
    else Lib.itoa V.i

/-- A text that is read back: what stands behind it begins with no digit. -/
def Dec (f : Vl → By) (ok : Vl → Prop) : Prop := ∀ V V' r r', ok V → ok V' → Term r → Term r' → f V ++ r = f V' ++ r' → V = V' ∧ r = r'
theorem term_sep (r : By) : Term (44 :: r) ∧ Term (41 :: r) ∧ Term (93 :: r) := by
  refine ⟨fun c s h => ?_, fun c s h => ?_, fun c s h => ?_⟩ <;> (injection h with h _; subst h; decide)
theorem tail_term {sep : By} {xs : List By} {c : UInt8} {r : By} (hs : sep = [44, 32]) (hc : c = 41 ∨ c = 93) : Term (Lib.joinTail sep xs ++ c :: r) := by
  subst hs
  cases xs with
  | nil => rcases hc with rfl | rfl; exact (term_sep r).2.1; exact (term_sep r).2.2
  | cons x xs => exact (term_sep _).1
theorem tuple_dec (fs : List (Vl → By)) (oks : List (Vl → Prop)) (hl : fs.length = oks.length) (hdec : ∀ (i : Nat) (f : Vl → By) (ok : Vl → Prop), fs[i]? = some f → oks[i]? = some ok → Dec f ok) :
    ∀ (rs rs' : List Vl) (r r' : By), rs.length = fs.length → rs'.length = fs.length → (∀ (i : Nat) (ok : Vl → Prop) (V : Vl), oks[i]? = some ok → rs[i]? = some V → ok V) → (∀ (i : Nat) (ok : Vl → Prop) (V : Vl), oks[i]? = some ok → rs'[i]? = some V → ok V) →
      Lib.joinTail [44, 32] (List.zipWith (fun f V => f V) fs rs) ++ 41 :: r = Lib.joinTail [44, 32] (List.zipWith (fun f V => f V) fs rs') ++ 41 :: r' → rs = rs' ∧ r = r' := by
  induction fs generalizing oks with
  | nil =>
    intro rs rs' r r' h1 h2 _ _ e
    have e1 : rs = [] := List.eq_nil_of_length_eq_zero (by simpa using h1)
    have e2 : rs' = [] := List.eq_nil_of_length_eq_zero (by simpa using h2)
    subst e1 e2
    simp [Lib.joinTail] at e
    exact ⟨rfl, e⟩
  | cons f fs ih =>
    intro rs rs' r r' h1 h2 g1 g2 e
    cases oks with
    | nil => simp at hl
    | cons ok oks =>
      cases rs with
      | nil => simp at h1
      | cons V rs =>
        cases rs' with
        | nil => simp at h2
        | cons V' rs' =>
          have hj : ∀ (x : By) (xs : List By) (y : By), Lib.joinTail [44, 32] (x :: xs) ++ y = 44 :: 32 :: (x ++ (Lib.joinTail [44, 32] xs ++ y)) := fun x xs y => by simp [Lib.joinTail]
          rw [List.zipWith_cons_cons, List.zipWith_cons_cons, hj, hj] at e
          injection e with _ e
          injection e with _ e
          obtain ⟨e1, e2⟩ := hdec 0 f ok rfl rfl V V' _ _ (g1 0 ok V rfl rfl) (g2 0 ok V' rfl rfl) (tail_term rfl (.inl rfl)) (tail_term rfl (.inl rfl)) e
          obtain ⟨e3, e4⟩ := ih oks (by simpa using hl) (fun i f' ok' a b => hdec (i + 1) f' ok' a b) rs rs' r r' (by simpa using h1) (by simpa using h2) (fun i ok' W a b => g1 (i + 1) ok' W a b) (fun i ok' W a b => g2 (i + 1) ok' W a b) e2
          exact ⟨by rw [e1, e3], e4⟩
theorem list_dec {f : Vl → By} {ok : Vl → Prop} (hdec : Dec f ok) : ∀ (rs rs' : List Vl) (r r' : By), (∀ V ∈ rs, ok V) → (∀ V ∈ rs', ok V) →
    Lib.joinTail [44, 32] (rs.map f) ++ 93 :: r = Lib.joinTail [44, 32] (rs'.map f) ++ 93 :: r' → rs = rs' ∧ r = r' := by
  have hj : ∀ (x : By) (xs : List By) (y : By), Lib.joinTail [44, 32] (x :: xs) ++ y = 44 :: 32 :: (x ++ (Lib.joinTail [44, 32] xs ++ y)) := fun x xs y => by simp [Lib.joinTail]
  intro rs
  induction rs with
  | nil =>
    intro rs' r r' _ _ e
    cases rs' with
    | nil => simp [Lib.joinTail] at e; exact ⟨rfl, e⟩
    | cons V' rs' =>
      rw [List.map_cons, hj] at e
      simp [Lib.joinTail] at e
  | cons V rs ih =>
    intro rs' r r' g1 g2 e
    cases rs' with
    | nil =>
      rw [List.map_cons, hj] at e
      simp [Lib.joinTail] at e
    | cons V' rs' =>
      rw [List.map_cons, List.map_cons, hj, hj] at e
      injection e with _ e
      injection e with _ e
      obtain ⟨e1, e2⟩ := hdec V V' _ _ (g1 V (by simp)) (g2 V' (by simp)) (tail_term rfl (.inr rfl)) (tail_term rfl (.inr rfl)) e
      obtain ⟨e3, e4⟩ := ih rs' r r' (fun W hW => g1 W (List.mem_cons_of_mem _ hW)) (fun W hW => g2 W (List.mem_cons_of_mem _ hW)) e2
      exact ⟨by rw [e1, e3], e4⟩

theorem join_tail (x : By) (xs : List By) : Lib.joinTail [44, 32] (x :: xs) = 44 :: 32 :: Lib.join (x :: xs) [44, 32] := by
  rw [Lib.join_cons]; simp [Lib.joinTail]
theorem zip_map (f : Ty → Vl → By) (l : List Ty) (rs : List Vl) : List.zipWith (fun g V => g V) (l.map f) rs = List.zipWith f l rs := by
  induction l generalizing rs with
  | nil => simp
  | cons e l ih => cases rs with
    | nil => simp
    | cons V rs => simp only [List.map_cons, List.zipWith_cons_cons, ih]
theorem zip_rep {α : Type} (f : Ty → Vl → α) (e : Ty) (rs : List Vl) : List.zipWith f (List.replicate rs.length e) rs = rs.map (f e) := by
  induction rs with
  | nil => simp
  | cons V rs ih => simp only [List.length_cons, List.replicate_succ, List.zipWith_cons_cons, List.map_cons, ih]
theorem zip_zero {d : Nat} {l : List Ty} {rs : List Vl} (h : firstE (List.zipWith (verr d) l rs) = 0) (i : Nat) (e : Ty) (V : Vl) (he : l[i]? = some e) (hV : rs[i]? = some V) : verr d e V = 0 :=
  firstE_zero.1 h _ (List.mem_of_getElem? (i := i) (by rw [List.getElem?_zipWith, he, hV]))
theorem verr_tuple {d : Nat} {T : Ty} {V : Vl} (k5 : T.k = 5) (h : verr (d + 1) T V = 0) : V.es.length = T.es.length ∧ V.i = 0 ∧ firstE (List.zipWith (verr d) T.es V.es) = 0 := by
  simp only [verr, if_pos k5] at h
  by_cases hc : V.es.length = T.es.length
  · rw [if_neg (by simpa using hc)] at h
    by_cases hi : V.i = 0
    · rw [if_neg (by simpa using hi)] at h; exact ⟨hc, hi, h⟩
    · rw [if_pos hi] at h; cases h
  · rw [if_pos hc] at h; cases h
theorem verr_list {d : Nat} {T : Ty} {V : Vl} (k5 : T.k ≠ 5) (k6 : T.k = 6) (h : verr (d + 1) T V = 0) : V.es.length ≤ T.mx ∧ V.i = 0 ∧ firstE (V.es.map (verr d (T.es.headD (.mk 0 0 0 0 [])))) = 0 := by
  simp only [verr, if_neg k5, if_pos k6, zip_rep] at h
  by_cases hc : T.mx < V.es.length
  · rw [if_pos hc] at h; cases h
  · rw [if_neg hc] at h
    by_cases hi : V.i = 0
    · rw [if_neg (by simpa using hi)] at h; exact ⟨by omega, hi, h⟩
    · rw [if_pos hi] at h; cases h
theorem verr_leaf {d : Nat} {T : Ty} {V : Vl} (k5 : T.k ≠ 5) (k6 : T.k ≠ 6) (h : verr (d + 1) T V = 0) : V.es = [] ∧ tlow T ≤ V.i ∧ V.i ≤ thigh T := by
  simp only [verr, if_neg k5, if_neg k6] at h
  by_cases hc : 0 < V.es.length
  · rw [if_pos hc] at h; cases h
  · rw [if_neg hc] at h
    split at h
    · cases h
    · exact ⟨List.eq_nil_of_length_eq_zero (by omega), by omega, by omega⟩
theorem fmt_head {d : Nat} {T : Ty} (hk : T.k = 1 ∨ T.k = 2) (V : Vl) : ∃ c s, vfmt (d + 1) T V = c :: s ∧ c ≠ 93 := by
  simp only [vfmt]
  by_cases k1 : T.k = 1
  · rw [if_pos k1]
    split
    · exact ⟨_, _, rfl, by decide⟩
    · exact ⟨_, _, rfl, by decide⟩
  · rw [if_neg k1, if_neg (by omega), if_neg (by omega)]
    unfold Lib.itoa
    split
    · exact ⟨_, _, rfl, by decide⟩
    · obtain ⟨c, s, hc, hd⟩ := dec_head V.i.toNat
      exact ⟨c, s, hc, fun h => by subst h; revert hd; decide⟩
theorem fmt_dec : ∀ (d : Nat) (T : Ty), deepOk d T → TyOk d T → T.k ≠ 4 → Dec (vfmt d T) (fun V => verr d T V = 0)
  | 0, _, h, _, _ => h.elim
  | d + 1, T, hd, hok, h4 => by
    have IH := fmt_dec d
    intro V V' r r' g g' hr hr' e
    by_cases k5 : T.k = 5
    · obtain ⟨l1, i1, f1⟩ := verr_tuple k5 g
      obtain ⟨l2, i2, f2⟩ := verr_tuple k5 g'
      obtain ⟨_, hlen, _, hels⟩ := hok.tuple k5
      simp only [vfmt, if_pos k5, if_neg (by omega : ¬ T.k = 1)] at e
      rw [List.cons_append, List.cons_append, List.append_assoc, List.append_assoc] at e
      injection e with _ e
      have key : Lib.joinTail [44, 32] (List.zipWith (vfmt d) T.es V.es) ++ 41 :: r = Lib.joinTail [44, 32] (List.zipWith (vfmt d) T.es V'.es) ++ 41 :: r' := by
        cases ht : T.es with
        | nil => rw [ht] at hlen; simp at hlen
        | cons t ts =>
          rw [ht] at l1 l2 e
          cases hv : V.es with
          | nil => rw [hv] at l1; simp at l1
          | cons x xs =>
            cases hv' : V'.es with
            | nil => rw [hv'] at l2; simp at l2
            | cons y ys =>
              rw [hv, hv'] at e
              rw [List.zipWith_cons_cons, List.zipWith_cons_cons] at e ⊢
              rw [join_tail, join_tail]
              exact congrArg (fun z => 44 :: 32 :: z) e
      rw [← zip_map, ← zip_map] at key
      obtain ⟨e1, e2⟩ := tuple_dec (T.es.map (vfmt d)) (T.es.map fun t V => verr d t V = 0) (by simp) (fun i f ok hf ho => by
        rw [List.getElem?_map] at hf ho
        cases ht : T.es[i]? with
        | none => rw [ht] at hf; cases hf
        | some t =>
          rw [ht] at hf ho
          injection hf with hf
          injection ho with ho
          subst hf ho
          have hm := List.mem_of_getElem? ht
          exact IH t (hd t hm) (hels t hm).1 (hels t hm).2.2) V.es V'.es r r' (by simpa using l1) (by simpa using l2)
        (fun i ok W ho hW => by
          rw [List.getElem?_map] at ho
          cases ht : T.es[i]? with
          | none => rw [ht] at ho; cases ho
          | some t =>
            rw [ht] at ho; injection ho with ho; subst ho
            exact zip_zero f1 i t W ht hW)
        (fun i ok W ho hW => by
          rw [List.getElem?_map] at ho
          cases ht : T.es[i]? with
          | none => rw [ht] at ho; cases ho
          | some t =>
            rw [ht] at ho; injection ho with ho; subst ho
            exact zip_zero f2 i t W ht hW) key
      exact ⟨by rw [V.eta, V'.eta, i1, i2, e1], e2⟩
    · by_cases k6 : T.k = 6
      · obtain ⟨l1, i1, f1⟩ := verr_list k5 k6 g
        obtain ⟨l2, i2, f2⟩ := verr_list k5 k6 g'
        obtain ⟨_, _, _, t, hes, ht1, ht2⟩ := hok.list k6
        rw [hes] at f1 f2
        simp only [List.headD_cons] at f1 f2
        have htd : deepOk d t := hd t (by rw [hes]; simp)
        simp only [vfmt, if_neg k5, if_pos k6, if_neg (by omega : ¬ T.k = 1), zip_rep, hes, List.headD_cons] at e
        rw [List.cons_append, List.cons_append, List.append_assoc, List.append_assoc] at e
        injection e with _ e
        have hD : Dec (vfmt d t) (fun V => verr d t V = 0) := IH t htd ht1 (by omega)
        have g1 : ∀ W ∈ V.es, verr d t W = 0 := fun W hW => firstE_zero.1 f1 _ (List.mem_map_of_mem hW)
        have g2 : ∀ W ∈ V'.es, verr d t W = 0 := fun W hW => firstE_zero.1 f2 _ (List.mem_map_of_mem hW)
        obtain ⟨d', rfl⟩ : ∃ d', d = d' + 1 := by
          cases d with
          | zero => exact htd.elim
          | succ d' => exact ⟨d', rfl⟩
        have hkey : V.es = V'.es ∧ r = r' := by
          cases hv : V.es with
          | nil =>
            cases hv' : V'.es with
            | nil => rw [hv, hv'] at e; simp [Lib.join_nil] at e; exact ⟨rfl, e⟩
            | cons y ys =>
              rw [hv, hv', List.map_cons, Lib.join_cons] at e
              obtain ⟨c, q, hc, hn⟩ := fmt_head (d := d') ht2 y
              rw [hc] at e
              simp [Lib.join_nil] at e
              exact absurd e.1.symm hn
          | cons x xs =>
            cases hv' : V'.es with
            | nil =>
              rw [hv, hv', List.map_cons, Lib.join_cons] at e
              obtain ⟨c, q, hc, hn⟩ := fmt_head (d := d') ht2 x
              rw [hc] at e
              simp [Lib.join_nil] at e
              exact absurd e.1 hn
            | cons y ys =>
              have h1 := list_dec hD V.es V'.es r r' g1 g2 (by
                rw [hv, hv'] at e ⊢
                rw [List.map_cons, List.map_cons] at e ⊢
                rw [join_tail, join_tail]
                exact congrArg (fun z => 44 :: 32 :: z) e)
              rw [hv, hv'] at h1; exact h1
        exact ⟨by rw [V.eta, V'.eta, i1, i2, hkey.1], hkey.2⟩
      · obtain ⟨l1, a1, b1⟩ := verr_leaf k5 k6 g
        obtain ⟨l2, a2, b2⟩ := verr_leaf k5 k6 g'
        by_cases k1 : T.k = 1
        · simp only [vfmt, if_pos k1] at e
          unfold tlow at a1 a2
          unfold thigh at b1 b2
          rw [if_pos k1] at a1 a2 b1 b2
          have hi : V.i = V'.i ∧ r = r' := by
            by_cases c1 : V.i = 1
            · by_cases c2 : V'.i = 1
              · rw [if_pos c1, if_pos c2] at e; exact ⟨by omega, List.append_cancel_left e⟩
              · rw [if_pos c1, if_neg c2] at e; simp at e
            · by_cases c2 : V'.i = 1
              · rw [if_neg c1, if_pos c2] at e; simp at e
              · rw [if_neg c1, if_neg c2] at e; exact ⟨by omega, List.append_cancel_left e⟩
          exact ⟨by rw [V.eta, V'.eta, l1, l2, hi.1], hi.2⟩
        · simp only [vfmt, if_neg k1, if_neg k5, if_neg k6] at e
          obtain ⟨e1, e2⟩ := itoa_inj hr hr' e
          exact ⟨by rw [V.eta, V'.eta, l1, l2, e1], e2⟩
theorem fmt_inj {d : Nat} {T : Ty} {V V' : Vl} (hd : deepOk d T) (hk : TyOk d T) (h4 : T.k ≠ 4) (h : verr d T V = 0) (h' : verr d T V' = 0) (e : vfmt d T V = vfmt d T V') : V = V' :=
  (fmt_dec d T hd hk h4 V V' [] [] h h' (fun _ _ h => by cases h) (fun _ _ h => by cases h) (by rw [e])).1
end Go.Proofs.YtklndjkblfncjaaDoor
