/-
  The value that cells stand for; a value of a type is read back from its cells. No program is named here.
-/
import Derived.Test.YtklndjkblfncjaaDoorPartP
namespace Go.Proofs.YtklndjkblfncjaaDoor

def vvals (f : Ty → List Int → Vl) (g : Ty → Nat) : List Ty → List Int → List Vl
  | [], _ => []
  | e :: l, cs => f e cs :: vvals f g l (cs.drop (g e))
/-- The value whose cells come first. -/
def vval : Nat → Ty → List Int → Vl
  | 0, _, _ => .mk 0 []
  | d + 1, T, cs =>
    if T.k = 5 then .mk 0 (vvals (vval d) (twidth d) T.es cs)
    else if T.k = 6 then .mk 0 (vvals (vval d) (twidth d) (List.replicate (min (max 0 (cs.headD 0)) T.mx).toNat (T.es.headD (.mk 0 0 0 0 []))) (cs.drop 1))
    else .mk (cs.headD 0) []
theorem vvals_length (f : Ty → List Int → Vl) (g : Ty → Nat) (l : List Ty) (cs : List Int) : (vvals f g l cs).length = l.length := by
  induction l generalizing cs with
  | nil => rfl
  | cons e l ih => simp only [vvals, List.length_cons, ih]
theorem vvals_get (f : Ty → List Int → Vl) (g : Ty → Nat) : ∀ (l : List Ty) (cs : List Int) (i : Nat) (e : Ty), l[i]? = some e → (vvals f g l cs)[i]? = some (f e (cs.drop ((l.map g).take i).sum))
  | [], _, _, _, h => by simp at h
  | x :: l, cs, 0, e, h => by
    simp at h
    subst h
    simp [vvals]
  | x :: l, cs, i + 1, e, h => by
    rw [List.getElem?_cons_succ] at h
    have := vvals_get f g l (cs.drop (g x)) i e h
    simp only [vvals, List.getElem?_cons_succ, this, List.map_cons, List.take_succ_cons, List.sum_cons, List.drop_drop]
theorem vvals_take (f : Ty → List Int → Vl) (g : Ty → Nat) {l : List Ty} {cs : List Int} {i : Nat} {e : Ty} (h : l[i]? = some e) : (vvals f g l cs).take (i + 1) = (vvals f g l cs).take i ++ [f e (cs.drop ((l.map g).take i).sum)] := by
  rw [List.take_add_one, vvals_get f g l cs i e h]; rfl

/-- As many cells as the width says. -/
theorem flat_width : ∀ (d : Nat) (T : Ty) (V : Vl), deepOk d T → TyOk d T → verr d T V = 0 → (vflat d T V).length = twidth d T
  | 0, _, _, h, _, _ => h.elim
  | d + 1, T, V, hd, hok, hv => by
    have IH := flat_width d
    by_cases k5 : T.k = 5
    · simp only [verr, if_pos k5] at hv
      by_cases hc : V.es.length = T.es.length
      · rw [if_neg (by simpa using hc)] at hv
        by_cases hi : V.i = 0
        · rw [if_neg (by simpa using hi)] at hv
          have hz := firstE_zero.1 hv
          simp only [vflat, twidth, if_pos k5]
          obtain ⟨_, _, _, hels⟩ := hok.tuple k5
          have key : ∀ (l : List Ty) (r : List Vl), r.length = l.length → (∀ e ∈ l, deepOk d e ∧ TyOk d e) → (∀ x ∈ List.zipWith (verr d) l r, x = 0) → (List.zipWith (vflat d) l r).flatten.length = (l.map (twidth d)).sum := by
            intro l
            induction l with
            | nil => intro r _ _ _; simp
            | cons e l ih =>
              intro r hr he hx
              cases r with
              | nil => simp at hr
              | cons f r =>
                simp only [List.zipWith_cons_cons, List.flatten_cons, List.length_append, List.map_cons, List.sum_cons]
                simp only [List.zipWith_cons_cons, List.mem_cons, forall_eq_or_imp] at hx
                rw [IH e f (he e List.mem_cons_self).1 (he e List.mem_cons_self).2 hx.1, ih r (by simpa using hr) (fun y hy => he y (List.mem_cons_of_mem _ hy)) hx.2]
          exact key T.es V.es hc (fun e he => ⟨hd e he, (hels e he).1⟩) hz
        · rw [if_pos hi] at hv; cases hv
      · rw [if_pos hc] at hv; cases hv
    · by_cases k6 : T.k = 6
      · obtain ⟨_, h1, h4, e, he, hoe, hke⟩ := hok.list k6
        have hde : deepOk d e := hd e (by rw [he]; exact List.mem_singleton.2 rfl)
        simp only [verr, if_neg k5, if_pos k6, he, List.headD_cons] at hv
        by_cases hm : T.mx < V.es.length
        · rw [if_pos hm] at hv; cases hv
        · rw [if_neg hm] at hv
          have hw1 : twidth d e = 1 := by
            cases d with
            | zero => exact hde.elim
            | succ d => exact (tparts_leaf hke).2
          have hall : ∀ f, (vflat d e f).length = 1 := by
            intro f
            cases d with
            | zero => exact hde.elim
            | succ d =>
              simp only [vflat]
              rw [if_neg (by omega), if_neg (by omega)]; rfl
          simp only [vflat, twidth, if_neg k5, if_pos k6, he, List.headD_cons, List.map_cons, List.length_cons, List.length_append, hw1]
          have e1 : (V.es.map (vflat d e)).flatten.length = V.es.length := by
            generalize V.es = l
            induction l with
            | nil => rfl
            | cons f l ih => rw [List.map_cons, List.flatten_cons, List.length_append, ih, hall, List.length_cons]; omega
          rw [e1, flat_rep, hall]
          omega
      · simp only [vflat, twidth, if_neg k5, if_neg k6]; rfl
/-- A value is read back from its cells. -/
theorem read_flat : ∀ (d : Nat) (T : Ty) (V : Vl) (r : List Int), deepOk d T → TyOk d T → verr d T V = 0 → vval d T (vflat d T V ++ r) = V
  | 0, _, _, _, h, _, _ => h.elim
  | d + 1, T, V, r, hd, hok, hv => by
    have IH := read_flat d
    have hlist : ∀ (l : List Ty) (rs : List Vl) (r : List Int), rs.length = l.length → (∀ e ∈ l, deepOk d e ∧ TyOk d e) → (∀ x ∈ List.zipWith (verr d) l rs, x = 0) → vvals (vval d) (twidth d) l ((List.zipWith (vflat d) l rs).flatten ++ r) = rs := by
      intro l
      induction l with
      | nil => intro rs r hr _ _; simp at hr; subst hr; rfl
      | cons e l ih =>
        intro rs r hr he hx
        cases rs with
        | nil => simp at hr
        | cons f rs =>
          simp only [List.zipWith_cons_cons, List.mem_cons, forall_eq_or_imp] at hx
          obtain ⟨h1, h2⟩ := he e List.mem_cons_self
          simp only [List.zipWith_cons_cons, List.flatten_cons, vvals, List.append_assoc]
          rw [IH e f _ h1 h2 hx.1, List.drop_append_of_le_length (by rw [flat_width d e f h1 h2 hx.1]; exact Nat.le_refl _), List.drop_of_length_le (by rw [flat_width d e f h1 h2 hx.1]; exact Nat.le_refl _), List.nil_append]
          rw [ih rs r (by simpa using hr) (fun y hy => he y (List.mem_cons_of_mem _ hy)) hx.2]
    by_cases k5 : T.k = 5
    · simp only [verr, if_pos k5] at hv
      by_cases hc : V.es.length = T.es.length
      · rw [if_neg (by simpa using hc)] at hv
        by_cases hi : V.i = 0
        · rw [if_neg (by simpa using hi)] at hv
          obtain ⟨_, _, _, hels⟩ := hok.tuple k5
          simp only [vval, vflat, if_pos k5]
          rw [hlist T.es V.es r hc (fun e he => ⟨hd e he, (hels e he).1⟩) (firstE_zero.1 hv)]
          rw [Vl.eta V, hi]; rfl
        · rw [if_pos hi] at hv; cases hv
      · rw [if_pos hc] at hv; cases hv
    · by_cases k6 : T.k = 6
      · obtain ⟨_, h1, h4, e, he, hoe, hke⟩ := hok.list k6
        have hde : deepOk d e := hd e (by rw [he]; exact List.mem_singleton.2 rfl)
        simp only [verr, if_neg k5, if_pos k6, he, List.headD_cons] at hv
        by_cases hm : T.mx < V.es.length
        · rw [if_pos hm] at hv; cases hv
        · rw [if_neg hm] at hv
          by_cases hi : V.i = 0
          · rw [if_neg (by simpa using hi)] at hv
            simp only [vval, vflat, if_neg k5, if_pos k6, he, List.headD_cons, List.cons_append, List.drop_succ_cons, List.drop_zero]
            have e0 : (min (max 0 (V.es.length : Int)) T.mx).toNat = V.es.length := by omega
            rw [e0]
            have e1 : (V.es.map (vflat d e)) = List.zipWith (vflat d) (List.replicate V.es.length e) V.es := by
              generalize V.es = l
              induction l with
              | nil => rfl
              | cons f l ih => rw [List.map_cons, List.length_cons, List.replicate_succ, List.zipWith_cons_cons, ih]
            rw [e1, List.append_assoc, hlist (List.replicate V.es.length e) V.es _ (by simp) (fun y hy => by rw [List.eq_of_mem_replicate hy]; exact ⟨hde, hoe⟩) (firstE_zero.1 hv)]
            rw [Vl.eta V, hi]; rfl
          · rw [if_pos hi] at hv; cases hv
      · simp only [verr, if_neg k5, if_neg k6] at hv
        by_cases h0 : 0 < V.es.length
        · rw [if_pos h0] at hv; cases hv
        · simp only [vval, vflat, if_neg k5, if_neg k6, List.cons_append, List.headD_cons]
          rw [Vl.eta V]
          have : V.es = [] := List.eq_nil_of_length_eq_zero (by omega)
          rw [this]; rfl
end Go.Proofs.YtklndjkblfncjaaDoor
