/-
  value: the value of a form; Eval.
-/
import Derived.Test.YtlhncmnhpnhfhaaFxE
namespace Go.Proofs.Ytlhncmnhpnhfhaa
open Go Go.RowKit Go.Shelf
set_option maxRecDepth 20000
namespace Fx

theorem Below.drewN' {B : Nat} {a w : World} (h : Below B a w) (n : Nat) : Below B a (w.drewN n) := ⟨h.os, h.tape, h.output, h.size, h.block⟩
/-- The state: nv numbers. -/
def St (w : World) (nv : Nat) (s : Nat → Int) (A : Option Addr) : Prop := ∀ i, i < nv → ∃ ad, A = some ad ∧ w.cell? (ad.add i) = some (.int .i64 (s i))
def Drawn0 (w : World) (v : Value) (e : Ending) (w' : World) : Prop := e = .returned v ∧ ∃ m, w' = w.drewN m

set_option maxHeartbeats 2000000 in
theorem value_x {nv c : Nat} {s : Nat → Int} {A : Option Addr} {S : Nat → Prop} (_hnv : nv ≤ 9223372036854775807) : ∀ (f : Fm), Fine nv f → ∀ (g o : Nat) (w : World), FAt S w f g o → St w nv s A →
    Calls Try.prog 22 #[.pointer (some ⟨g, o, none⟩), .slice A nv c] w (Drawn0 w (.int .i64 (ev s f))) := by
  refine Fm.ind' fun f ih => ?_
  intro hf g o w hw hs
  obtain ⟨h0, h1, h2, h3⟩ := hf.eq
  have c0 := hw.c0
  have c1 := hw.c1
  obtain ⟨B, d, c5, hr⟩ := hw.c5
  have arg : ∀ i a, f.args[i]? = some a → ∃ g' o', B = some ⟨g', o', none⟩ ∧ ∀ m, Calls Try.prog 22 #[.pointer (some ⟨g', o' + i * 6, none⟩), .slice A nv c] (w.drewN m) (Drawn0 (w.drewN m) (.int .i64 (ev s a))) := by
    intro i a ha
    obtain ⟨g', o', rfl, hfa⟩ := rd_at hr ha
    exact ⟨g', o', rfl, fun m => ih a (List.mem_of_getElem? ha) (h3 a (List.mem_of_getElem? ha)) g' (o' + i * 6) (w.drewN m) (hfa.keep (Nat.le_refl _) (fun _ _ _ => rfl) (fun _ h _ => h)) hs⟩
  have he := ev_eq s f
  have hev : ∀ i a, f.args[i]? = some a → (f.args.map (ev s))[i]? = some (ev s a) := fun i a ha => by rw [List.getElem?_map, ha]; rfl
  obtain ⟨op, k, xs⟩ := f
  simp only [Fm.op, Fm.num, Fm.args] at *
  clear hw ih hf h3 hr
  have HE := Lib.hid he
  have HV := Lib.hid hev
  clear he hev
  by_cases e1 : op = 1
  · subst e1
    clear h0 h1 h2
    go_enter Try.func22, Try.ntmps22
    go_wp2_with (refine (limited_x _ _).mono ?_; rintro e w' ⟨rfl, rfl⟩)
    go_ret
    exact ⟨by rw [HE.out]; rfl, 0, rfl⟩
  by_cases e3 : op = 3
  · subst e3
    obtain ⟨k0, k1⟩ := h2 rfl
    obtain ⟨j, rfl⟩ := Int.eq_ofNat_of_zero_le k0
    obtain ⟨ad, rfl, hc⟩ := hs j (by omega)
    clear h0 h1 h2
    go_enter Try.func22, Try.ntmps22
    go_wp2_with (refine (limited_x _ _).mono ?_; rintro e w' ⟨rfl, rfl⟩)
    go_ret
    exact ⟨by rw [HE.out]; rfl, 0, rfl⟩
  have hd : ∀ (m : Nat) {v : Value} {f : FuncId} {args : Array Value}, Calls Try.prog f args (w.drewN m) (Drawn0 (w.drewN m) v) → Calls Try.prog f args (w.drewN m) fun e w2 => e = .returned v ∧ ∃ j, w2 = w.drewN j :=
    fun m _ _ _ h => h.mono fun _ _ ⟨h1, j, h2⟩ => ⟨h1, m + j, by rw [h2, World.drewN_drewN]⟩
  have get : ∀ i, i < xs.length → ∃ a, xs[i]? = some a := fun i hi => ⟨_, List.getElem?_eq_getElem hi⟩
  by_cases e4 : op = 4
  · subst e4
    have hl : xs.length = 1 := by simp [arity] at h0; omega
    obtain ⟨a, ha⟩ := get 0 (by omega)
    obtain ⟨g', o', rfl, hC⟩ := arg 0 a ha
    have hv := HV.out 0 a ha
    have hC0 := hC 0
    have HX := Lib.hid hv
    simp only [Nat.zero_mul, Nat.add_zero] at hC0
    clear hC get hd arg ha hv h0 h1 h2 HV hs
    have hl' : (xs.length : Int) = 1 := by omega
    go_enter Try.func22, Try.ntmps22
    go_wp2_with (first
      | (refine (truth_x _ _).mono ?_; rintro e w' ⟨rfl, rfl⟩)
      | (refine hC0.mono ?_; clear hC0; rintro e w' ⟨rfl, m, rfl⟩))
    go_ret
    refine ⟨?_, m, rfl⟩
    rw [HE.out]
    unfold ev1
    rw [HX.out]
    rfl
  by_cases e13 : op = 13
  · subst e13
    have hl : xs.length = 3 := by simp [arity] at h0; omega
    obtain ⟨a, ha⟩ := get 0 (by omega)
    obtain ⟨b, hb⟩ := get 1 (by omega)
    obtain ⟨d', hd'⟩ := get 2 (by omega)
    obtain ⟨g', o', rfl, hC⟩ := arg 0 a ha
    obtain ⟨_, _, e, hC1⟩ := arg 1 b hb
    cases e
    obtain ⟨_, _, e, hC2⟩ := arg 2 d' hd'
    cases e
    have HX := Lib.hid (HV.out 0 a ha)
    have HX1 := Lib.hid (HV.out 1 b hb)
    have HX2 := Lib.hid (HV.out 2 d' hd')
    have hC0 := hC 0
    simp only [Nat.zero_mul, Nat.add_zero] at hC0
    simp only [Nat.one_mul, Nat.reduceMul] at hC1 hC2
    clear hC get hd arg ha hb hd' h0 h1 h2 HV hs
    have hl' : (xs.length : Int) = 3 := by omega
    by_cases hz : ev s a = 0
    · have HZ := Lib.hid hz
      rw [hz] at hC0
      clear hz
      go_enter Try.func22, Try.ntmps22
      go_wp2_with (first
        | (refine hC0.mono ?_; clear hC0 hC1; rintro e w' ⟨rfl, m, rfl⟩)
        | (refine (hC2 _).mono ?_; clear hC2; rintro e w' ⟨rfl, m2, rfl⟩))
      go_ret
      refine ⟨?_, m + m2, rfl⟩
      rw [HE.out]
      unfold ev1
      rw [HX.out, HX1.out, HX2.out]
      simp [HZ.out]
    · have HZ := Lib.hid hz
      go_enter Try.func22, Try.ntmps22
      go_wp2_with (first
        | (refine hC0.mono ?_; clear hC0 hC2; rintro e w' ⟨rfl, m, rfl⟩)
        | (refine (hC1 _).mono ?_; clear hC1; rintro e w' ⟨rfl, m2, rfl⟩))
      go_ret
      refine ⟨?_, m + m2, rfl⟩
      rw [HE.out]
      unfold ev1
      rw [HX.out, HX1.out, HX2.out]
      simp [HZ.out]
  · have hl : xs.length = 2 := by
      unfold arity at h0
      repeat' split at h0
      all_goals omega
    obtain ⟨a, ha⟩ := get 0 (by omega)
    obtain ⟨b, hb⟩ := get 1 (by omega)
    obtain ⟨g', o', rfl, hC⟩ := arg 0 a ha
    obtain ⟨_, _, e, hC1⟩ := arg 1 b hb
    cases e
    have HX := Lib.hid (HV.out 0 a ha)
    have HX1 := Lib.hid (HV.out 1 b hb)
    simp only [Nat.zero_mul, Nat.add_zero] at hC
    simp only [Nat.one_mul] at hC1
    have HQ0 := Lib.hid fun m => hd m (hC m)
    have HQ1 := Lib.hid fun m => hd m (hC1 m)
    have HO := Lib.hid fun m => hd m ((operate_x op (ev s a) (ev s b) (w.drewN m) (ev_range s a) (ev_range s b)).mono fun _ w' ⟨h1, h2⟩ => ⟨h1, 0, h2⟩)
    clear hC hC1 get hd arg ha hb h0 h1 h2 HV hs
    have hl' : (xs.length : Int) = 2 := by omega
    go_enter Try.func22, Try.ntmps22
    go_wp2_with fail
    go_quiet (first | (with_reducible exact HQ0.out _) | (with_reducible exact HQ1.out _) | (with_reducible exact HO.out _))
    go_wp2
    go_ret
    refine ⟨?_, _, rfl⟩
    rw [HE.out]
    unfold ev1
    rw [HX.out, HX1.out, if_neg e1, if_neg e3, if_neg e4, if_neg e13]
    rfl

theorem St.below {w w' : World} {nv : Nat} {s : Nat → Int} {A : Option Addr} (h : St w nv s A) (hb : Below w.heap.size w w') : St w' nv s A := fun i hi => by
  obtain ⟨ad, e, hc⟩ := h i hi
  exact ⟨ad, e, (hb.cell (World.block_lt_of_cell? w _ hc)).trans hc⟩
/-- A form as a value: its six cells. -/
def FV (S : Nat → Prop) (w : World) (f : Fm) (v : Array Value) : Prop := ∃ a b c B d, v = #[.int .i64 f.op, .int .i64 f.num, a, b, c, .slice B f.args.length d] ∧ Rd S w (.l 6 (fds f.args)) (.slice B f.args.length d)
theorem FV.keep {S S' : Nat → Prop} {w w' : World} {f : Fm} {v : Array Value} (h : FV S w f v) (hs : w.heap.size ≤ w'.heap.size) (hb : ∀ b, S b → b < w.heap.size → w'.heap[b]? = w.heap[b]?) (hS : ∀ b, S b → b < w.heap.size → S' b) : FV S' w' f v := by
  obtain ⟨a, b, c, B, d, rfl, hr⟩ := h
  exact ⟨a, b, c, B, d, rfl, hr.keep hs hb hS⟩
theorem FV.box {w : World} {f : Fm} {v : Array Value} (t : TypeId) (h : FV (Lo w.heap.size) w f v) : FAt (Lo (w.heap.size + 1)) (w.alloc (.cells v t)) f w.heap.size 0 := by
  obtain ⟨a, b, c, B, d, rfl, hr⟩ := h
  refine ⟨Nat.lt_succ_self _, by simp, by simp, by simp, ⟨_, by simp; rfl⟩, ⟨_, by simp; rfl⟩, ⟨_, by simp; rfl⟩, B, d, by simp, hr.keep (by simp) (fun b hb _ => Below.heap_alloc _ _ _ hb) fun b hb _ => Nat.lt_succ_of_lt hb⟩

def ePair (nv : Nat) (s : Nat → Int) (f : Fm) : Value := .tuple #[.int .i64 (if ferr nv f = 0 then ev s f else 0), .int .i64 (ferr nv f)]
theorem eval_x {nv c : Nat} {s : Nat → Int} {A : Option Addr} {w : World} {f : Fm} {v : Array Value} (hnv : nv ≤ 9223372036854775807) (hf : FV (Lo w.heap.size) w f v) (hs : St w nv s A) :
    Calls Try.prog 12 #[.agg v, .slice A nv c] w fun e w' => e = .returned (ePair nv s f) ∧ Below w.heap.size w w' := by
  have hb := hf.box 27
  have hs1 := hs.below (allocB w (.cells v 27))
  have hE := callsIn_wide.1 (evalError_in 3 w.heap.size 0 nv (Nat.le_refl _) f (w.alloc (.cells v 27)) (by rw [World.size_alloc]; exact hb))
  have hb0 := allocB w (.cells v 27)
  rw [World.size_alloc] at hE
  obtain ⟨va, vb, vc, B, d, rfl, hr⟩ := hf
  clear hr
  by_cases h0 : ferr nv f = 0
  · have hfine := (ferr_zero.1 h0).1
    have H0 := Lib.hid h0
    rw [h0] at hE
    clear h0
    go_enter Try.func12, Try.ntmps12
    go_wp2_with (first
      | (refine hE.mono ?_; clear hE; rintro e w' ⟨rfl, hb2⟩; (have hV := value_x (c := c) hnv f hfine _ _ w' (hb.below hb2) (hs1.below (by rw [World.size_alloc]; exact hb2))))
      | (refine hV.mono ?_; clear hV; rintro e w2 ⟨rfl, m, rfl⟩))
    go_ret2
    refine ⟨?_, nextB hb0 (Below.drewN' (by rw [World.size_alloc]; exact hb2) m)⟩
    simp only [ePair, H0.out, if_true]
    rfl
  · have H0 := Lib.hid h0
    go_enter Try.func12, Try.ntmps12
    go_wp2_with (refine hE.mono ?_; clear hE; rintro e w' ⟨rfl, hb2⟩)
    go_ret2
    refine ⟨?_, nextB hb0 (by rw [World.size_alloc]; exact hb2)⟩
    simp only [ePair, if_neg H0.out]
    rfl
end Fx
end Go.Proofs.Ytlhncmnhpnhfhaa
