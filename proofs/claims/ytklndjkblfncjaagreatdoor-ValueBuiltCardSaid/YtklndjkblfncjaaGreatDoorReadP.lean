/-
  The value that cells stand for; a value of a type is read back from its cells. No program is named here.
-/
import Derived.Test.YtklndjkblfncjaaGreatDoorPartP
namespace Go.Proofs.YtklndjkblfncjaaGreatDoor

def vvals (f : Ty → List Int → Vl) (g : Ty → Nat) : List Ty → List Int → List Vl
  | [], _ => []
  | e :: l, cs => f e cs :: vvals f g l (cs.drop (g e))
/-- The value whose cells come first. -/
def vval : Nat → Ty → List Int → Vl
  | 0, _, _ => .mk 0 []
  | d + 1, T, cs =>
    if T.k = 5 then .mk 0 (vvals (vval d) (twidth d) T.es cs)
    else if T.k = 6 then .mk 0 (vvals (vval d) (twidth d) (List.replicate (min (max 0 (cs.headD 0)) T.mx).toNat (T.es.headD (.mk 0 0 0 0 []))) (cs.drop 1))
    else .mk (cs.headD 0) []
theorem vvals_length (f : Ty → List Int → Vl) (g : Ty → Nat) (l : List Ty) (cs : List Int) : (vvals f g l cs).length = l.length := by
  induction l generalizing cs with
  | nil => rfl
  | cons e l ih => simp only [vvals, List.length_cons, ih]
theorem vvals_get (f : Ty → List Int → Vl) (g : Ty → Nat) : ∀ (l : List Ty) (cs : List Int) (i : Nat) (e : Ty), l[i]? = some e → (vvals f g l cs)[i]? = some (f e (cs.drop ((l.map g).take i).sum))
  | [], _, _, _, h => by simp at h
  | x :: l, cs, 0, e, h => by
    simp at h
    subst h
    simp [vvals]
  | x :: l, cs, i + 1, e, h => by
    rw [List.getElem?_cons_succ] at h
    have := vvals_get f g l (cs.drop (g x)) i e h
    simp only [vvals, List.getElem?_cons_succ, this, List.map_cons, List.take_succ_cons, List.sum_cons, List.drop_drop]
theorem vvals_take (f : Ty → List Int → Vl) (g : Ty → Nat) {l : List Ty} {cs : List Int} {i : Nat} {e : Ty} (h : l[i]? = some e) : (vvals f g l cs).take (i + 1) = (vvals f g l cs).take i ++ [f e (cs.drop ((l.map g).take i).sum)] := by
  rw [List.take_add_one, vvals_get f g l cs i e h]; rfl

/-- As many cells as the width says. -/
theorem flat_width : ∀ (d : Nat) (T : Ty) (V : Vl), deepOk d T → TyOk d T → verr d T V = 0 → (vflat d T V).length = twidth d T
  | 0, _, _, h, _, _ => h.elim
  | d + 1, T, V, hd, hok, hv => by
    have IH := flat_width d
    by_cases k5 : T.k = 5
    · simp only [verr, if_pos k5] at hv
      by_cases hc : V.es.length = T.es.length
      · rw [if_neg (by simpa using hc)] at hv
        by_cases hi : V.i = 0
        · rw [if_neg (by simpa using hi)] at hv
          have hz := firstE_zero.1 hv
          simp only [vflat, twidth, if_pos k5]
          obtain ⟨_, _, _, hels⟩ := hok.tuple k5
          have key : ∀ (l : List Ty) (r : List Vl), r.length = l.length → (∀ e ∈ l, deepOk d e ∧ TyOk d e) → (∀ x ∈ List.zipWith (verr d) l r, x = 0) → (List.zipWith (vflat d) l r).flatten.length = (l.map (twidth d)).sum := by
            intro l
            induction l with
            | nil => intro r _ _ _; simp
            | cons e l ih =>
              intro r hr he hx
              cases r with
              | nil => simp at hr
              | cons f r =>
                simp only [List.zipWith_cons_cons, List.flatten_cons, List.length_append, List.map_cons, List.sum_cons]
                simp only [List.zipWith_cons_cons, List.mem_cons, forall_eq_or_imp] at hx
                rw [IH e f (he e List.mem_cons_self).1 (he e List.mem_cons_self).2 hx.1, ih r (by simpa using hr) (fun y hy => he y (List.mem_cons_of_mem _ hy)) hx.2]
          exact key T.es V.es hc (fun e he => ⟨hd e he, (hels e he).1⟩) hz
        · rw [if_pos hi] at hv; cases hv
      · rw [if_pos hc] at hv; cases hv
    · by_cases k6 : T.k = 6
      · obtain ⟨_, h1, h4, e, he, hoe, hke⟩ := hok.list k6
        have hde : deepOk d e := hd e (by rw [he]; exact List.mem_singleton.2 rfl)
        simp only [verr, if_neg k5, if_pos k6, he, List.headD_cons] at hv
        by_cases hm : T.mx < V.es.length
        · rw [if_pos hm] at hv; cases hv
        · rw [if_neg hm] at hv
          have hw1 : twidth d e = 1 := by
            cases d with
            | zero => exact hde.elim
            | succ d => exact (tparts_leaf hke).2
          have hall : ∀ f, (vflat d e f).length = 1 := by
            intro f
            cases d with
            | zero => exact hde.elim
            | succ d =>
              simp only [vflat]
              rw [if_neg (by omega), if_neg (by omega)]; rfl
          simp only [vflat, twidth, if_neg k5, if_pos k6, he, List.headD_cons, List.map_cons, List.length_cons, List.length_append, hw1]
          have e1 : (V.es.map (vflat d e)).flatten.length = V.es.length := by
            generalize V.es = l
            induction l with
            | nil => rfl
            | cons f l ih => rw [List.map_cons, List.flatten_cons, List.length_append, ih, hall, List.length_cons]; omega
          rw [e1, flat_rep, hall]
          omega
      · simp only [vflat, twidth, if_neg k5, if_neg k6]; rfl
end Go.Proofs.YtklndjkblfncjaaGreatDoor
