/-
  Pure: the cells of a value lie in the ranges of its type's cells; the zero value fits.
-/
import Derived.Test.YtklndjkblfncjaaReadP
namespace Go.Proofs.Ytklndjkblfncjaa

def In2 : List Int → List (Int × Int × Int) → Prop
  | [], [] => True
  | x :: l, p :: ps => (p.2.1 ≤ x ∧ x ≤ p.2.2) ∧ In2 l ps
  | _, _ => False
theorem In2.append : ∀ {l m : List Int} {p q : List (Int × Int × Int)}, In2 l p → In2 m q → In2 (l ++ m) (p ++ q)
  | [], _, [], _, _, h => h
  | _ :: l, _, _ :: ps, _, h, h' => ⟨h.1, In2.append (l := l) (p := ps) h.2 h'⟩
  | [], _, _ :: _, _, h, _ => h.elim
  | _ :: _, _, [], _, h, _ => h.elim
theorem In2.length : ∀ {l : List Int} {p : List (Int × Int × Int)}, In2 l p → l.length = p.length
  | [], [], _ => rfl
  | _ :: l, _ :: ps, h => by rw [List.length_cons, List.length_cons, In2.length h.2]
  | [], _ :: _, h => h.elim
  | _ :: _, [], h => h.elim
theorem In2.get : ∀ {l : List Int} {p : List (Int × Int × Int)} {i : Nat} {x : Int} {y : Int × Int × Int}, In2 l p → l[i]? = some x → p[i]? = some y → y.2.1 ≤ x ∧ x ≤ y.2.2
  | x :: l, p :: ps, 0, _, _, h, hx, hy => by
    simp at hx hy; subst hx; subst hy; exact h.1
  | x :: l, p :: ps, i + 1, _, _, h, hx, hy => In2.get (l := l) (p := ps) (i := i) h.2 (by simpa using hx) (by simpa using hy)
  | [], _, _, _, _, _, hx, _ => by simp at hx
  | _ :: _, [], _, _, _, h, _, _ => h.elim

theorem in2_zip (f : Ty → Vl → List Int) (g : Ty → List (Int × Int × Int)) (v : Ty → Vl → Int) : ∀ (l : List Ty) (r : List Vl), r.length = l.length → (∀ e ∈ l, ∀ V, v e V = 0 → In2 (f e V) (g e)) → (∀ x ∈ List.zipWith v l r, x = 0) → In2 (List.zipWith f l r).flatten (l.map g).flatten
  | [], [], _, _, _ => trivial
  | e :: l, V :: r, hl, h, hz => by
    simp only [List.zipWith_cons_cons, List.mem_cons, forall_eq_or_imp] at hz
    simp only [List.zipWith_cons_cons, List.flatten_cons, List.map_cons]
    exact (h e List.mem_cons_self V hz.1).append (in2_zip f g v l r (by simpa using hl) (fun e' he => h e' (List.mem_cons_of_mem _ he)) hz.2)
  | [], _ :: _, hl, _, _ => by simp at hl
  | _ :: _, [], hl, _, _ => by simp at hl

theorem zero_fits : ∀ (d : Nat) (T : Ty), deepOk d T → TyOk d T → T.k ≠ 3 → T.k ≠ 4 → verr d T (vzero d T) = 0
  | 0, _, h, _, _, _ => h.elim
  | d + 1, T, hd, hok, h3, h4 => by
    have IH := zero_fits d
    by_cases k5 : T.k = 5
    · obtain ⟨_, _, _, hels⟩ := hok.tuple k5
      simp only [verr, vzero, if_pos k5, Vl.es, Vl.i, List.length_map]
      rw [if_neg (by simp), if_neg (by simp)]
      refine firstE_zero.2 fun x hx => ?_
      have key : ∀ l : List Ty, (∀ e ∈ l, verr d e (vzero d e) = 0) → ∀ x ∈ List.zipWith (verr d) l (l.map (vzero d)), x = 0 := by
        intro l
        induction l with
        | nil => intro _ x hx; simp at hx
        | cons e l ih =>
          intro h x hx
          simp only [List.map_cons, List.zipWith_cons_cons, List.mem_cons] at hx
          rcases hx with rfl | hx
          · exact h e List.mem_cons_self
          · exact ih (fun e' he => h e' (List.mem_cons_of_mem _ he)) x hx
      exact key T.es (fun e he => IH e (hd e he) (hels e he).1 (hels e he).2.1 (hels e he).2.2) x hx
    · by_cases k6 : T.k = 6
      · obtain ⟨_, h1, h4', e, he, hoe, hke⟩ := hok.list k6
        simp only [verr, vzero, if_neg k5, if_pos k6, Vl.es, Vl.i, List.length_nil]
        rw [if_neg (by omega), if_neg (by simp)]
        rfl
      · simp only [verr, vzero, if_neg k5, if_neg k6, Vl.es, Vl.i, List.length_nil]
        rw [if_neg (by omega)]
        rcases hok.kinds with k | k | k | k | k | k
        · have e1 : tlow T = 0 := by simp [tlow, k]
          have e2 : thigh T = 1 := by simp [thigh, k]
          rw [e1, e2]; rfl
        · have e1 : tlow T = T.lo := by simp [tlow, k]
          have e2 : thigh T = T.hi := by simp [thigh, k]
          rw [e1, e2]
          have := hok.int k
          rw [if_neg (by omega)]
        all_goals omega

theorem flat_in : ∀ (d : Nat) (T : Ty) (V : Vl), deepOk d T → TyOk d T → T.k ≠ 3 → T.k ≠ 4 → verr d T V = 0 → In2 (vflat d T V) (tparts d T)
  | 0, _, _, h, _, _, _, _ => h.elim
  | d + 1, T, V, hd, hok, h3, h4, hv => by
    have IH := flat_in d
    by_cases k5 : T.k = 5
    · simp only [verr, if_pos k5] at hv
      by_cases hc : V.es.length = T.es.length
      · rw [if_neg (by simpa using hc)] at hv
        by_cases hi : V.i = 0
        · rw [if_neg (by simpa using hi)] at hv
          obtain ⟨_, _, _, hels⟩ := hok.tuple k5
          simp only [vflat, tparts, if_pos k5]
          rw [if_neg (by omega), if_neg (by omega), if_neg (by omega), if_neg (by omega)]
          exact in2_zip _ _ _ T.es V.es hc (fun e he V' h' => IH e V' (hd e he) (hels e he).1 (hels e he).2.1 (hels e he).2.2 h') (firstE_zero.1 hv)
        · rw [if_pos hi] at hv; cases hv
      · rw [if_pos hc] at hv; cases hv
    · by_cases k6 : T.k = 6
      · obtain ⟨_, h1, h4', e, he, hoe, hke⟩ := hok.list k6
        have hde : deepOk d e := hd e (by rw [he]; exact List.mem_singleton.2 rfl)
        simp only [verr, if_neg k5, if_pos k6, he, List.headD_cons] at hv
        by_cases hm : T.mx < V.es.length
        · rw [if_pos hm] at hv; cases hv
        · rw [if_neg hm] at hv
          by_cases hi : V.i = 0
          · rw [if_neg (by simpa using hi)] at hv
            simp only [vflat, tparts, if_neg k5, if_pos k6, he, List.headD_cons]
            rw [if_neg (by omega), if_neg (by omega), if_neg (by omega)]
            refine ⟨⟨by simp, by show (V.es.length : Int) ≤ T.mx; omega⟩, ?_⟩
            have e1 : (V.es.map (vflat d e)) = List.zipWith (vflat d) (List.replicate V.es.length e) V.es := by
              generalize V.es = l
              induction l with
              | nil => rfl
              | cons f l ih => rw [List.map_cons, List.length_cons, List.replicate_succ, List.zipWith_cons_cons, ih]
            have e2 : List.replicate T.mx.toNat (tparts d e) = (List.replicate V.es.length e).map (tparts d) ++ List.replicate (T.mx.toNat - V.es.length) (tparts d e) := by
              rw [List.map_replicate, List.replicate_append_replicate]; congr 1; omega
            rw [e1, e2, List.flatten_append]
            refine (in2_zip _ _ _ _ V.es (by simp) (fun e' he' V' h' => by rw [List.eq_of_mem_replicate he'] at h' ⊢; exact IH e V' hde hoe (by omega) (by omega) h') (firstE_zero.1 hv)).append ?_
            have hz := IH e (vzero d e) hde hoe (by omega) (by omega) (zero_fits d e hde hoe (by omega) (by omega))
            generalize T.mx.toNat - V.es.length = k
            induction k with
            | zero => trivial
            | succ k ih => rw [List.replicate_succ, List.replicate_succ, List.flatten_cons, List.flatten_cons]; exact hz.append ih
          · rw [if_pos hi] at hv; cases hv
      · simp only [verr, if_neg k5, if_neg k6] at hv
        by_cases h0 : 0 < V.es.length
        · rw [if_pos h0] at hv; cases hv
        · rw [if_neg h0] at hv
          by_cases hr : V.i < tlow T ∨ thigh T < V.i
          · rw [if_pos hr] at hv; cases hv
          · simp only [vflat, if_neg k5, if_neg k6]
            rcases hok.kinds with k | k | k | k | k | k
            · have e1 : tlow T = 0 := by simp [tlow, k]
              have e2 : thigh T = 1 := by simp [thigh, k]
              rw [e1, e2] at hr
              simp only [tparts, if_pos k]
              exact ⟨⟨by show (0 : Int) ≤ V.i; omega, by show V.i ≤ 1; omega⟩, trivial⟩
            · have e1 : tlow T = T.lo := by simp [tlow, k]
              have e2 : thigh T = T.hi := by simp [thigh, k]
              rw [e1, e2] at hr
              simp only [tparts]
              rw [if_neg (by omega), if_pos k]
              exact ⟨⟨by show T.lo ≤ V.i; omega, by show V.i ≤ T.hi; omega⟩, trivial⟩
            all_goals omega
end Go.Proofs.Ytklndjkblfncjaa
