/-
  The iterator over the variables of a form.
-/
import Derived.Test.YtlhncmnhpnhfhaaFxS
namespace Go.Proofs.Ytlhncmnhpnhfhaa
open Go Go.RowKit Go.Shelf
set_option maxRecDepth 20000
attribute [local go_sem] Oper.semAt_some
namespace Fx

section
variable {P : Program} {ops : Array Oper} {Q : Exit → Act → World → Prop} {n : Nat} {ro : Option Nat}
theorem operIn_round {o : Oper} (ho : ∀ c, o.op ≠ .defer c) {a : Act} {w : World} {K K' : Act → World → Prop} (hK : ∀ a w, K a w → K' a w) (h : o.wpIn Fence.wide n P a w K Q) : o.wpIn (rw_ ro) n P a w K' Q := by
  refine ⟨fun _ _ => trivial, ?_⟩
  have h2 : o.uponIn Fence.wide n P a K Q ((Oper.semAt none a.eval o).run P w) := h.2
  show o.uponIn (rw_ ro) n P a K' Q ((Oper.semAt ro a.eval o).run P w)
  rw [Oper.semAt_eq ro a.eval o ho]
  rw [Oper.semAt_none] at h2
  clear h
  generalize (execOp a.eval o).run P w = r at *
  cases r with
  | ok x w' =>
    cases x with
    | value v => exact hK _ _ h2
    | skip => exact hK _ _ h2
    | defer d => exact hK _ _ h2
    | enter f args => exact ⟨h2.1, CallsIn.mono h2.2 fun e w'' he => by cases e <;> first | exact hK _ _ he | exact he⟩
    | row row args => exact ⟨h2.1, RowsIn.mono h2.2 fun _ _ he => hK _ _ he⟩
    | round l f tmps assign body => exact ⟨h2.1, RoundIn.mono h2.2 fun e w'' he => by cases e <;> first | exact hK _ _ he | exact he⟩
    | _ => exact h2.elim
  | halt x w' =>
    cases x with
    | panic v => exact h2
    | _ => exact h2.elim
theorem wpAnyIn_round {md : Region.Mode} (hn : noDefer ops = true) : ∀ (fuel : Nat) (listed : Array Bool) (a : Act) (w : World), wpAnyIn Fence.wide n P md ops Q fuel listed a w → wpAnyIn (rw_ ro) n P md ops Q fuel listed a w
  | 0, _, _, _, h => h
  | fuel + 1, listed, a, w, h => ⟨h.1, fun i hi => by
      have h2 := h.2 i hi
      unfold wpOpIn at h2 ⊢
      cases ho : ops[i]? with
      | none => simp only [ho] at h2; exact wpAnyIn_round hn fuel _ _ _ h2
      | some o =>
        simp only [ho] at h2
        simp only
        split
        · rename_i hw
          rw [if_pos hw] at h2
          exact operIn_round (noDefer_at hn ho) (fun a w => wpAnyIn_round hn fuel _ a w) h2
        · rename_i hw
          rw [if_neg hw] at h2
          exact ⟨h2.1, wpAnyIn_round hn fuel _ _ _ h2.2⟩⟩
theorem region_roundIn {id l : Nat} {a : Act} {w : World} (hm : P.follows .mixedOrders = true) (hn : noDefer ops = true) (h : wpAnyIn Fence.wide n P .any ops Q ops.size (Array.replicate ops.size false) a w.drew) :
    (Code.region id ops true).wpIn (Fence.wide.inRound l) n P Q a w :=
  wpIn_region_any (F := rw_ (some l)) hm (wpAnyIn_round hn _ _ _ _ h)
variable {md : Region.Mode}
theorem tkI {i : Nat} {oi : Oper} {v : Value} {fuel : Nat} {listed : Array Bool} {a : Act} {w : World}
    (hy : ∀ w, (execOp a.eval oi).run P w = .ok (.value v) w) (h : wpAnyIn Fence.wide n P md ops Q fuel (listed.setIfInBounds i true) (a.put oi.dst v) w) (hi : ops[i]? = some oi := by rfl) (hg : Region.wanted oi (yielded ops a.tmps) = true := by rfl)
    (hs : Region.noSelect ops = true := by kernel_rfl) (hf : Region.free md ops listed i = true := by kernel_rfl) (hr : (Region.ready md ops listed).contains i = true := by kernel_rfl) (hQ : ∀ c a w, Q (.panic c) (a.put oi.dst v) w → Q (.panic c) a w := by exact fun _ _ _ h => h)
    (hab : ∀ w, oi.about P w a.eval = none := by intro; rfl) : wpAnyIn Fence.wide n P md ops Q (fuel + 1) listed a w :=
  wpAnyIn_take rfl hi hs hf hr hQ ⟨.inl ⟨hg, hy⟩, hab⟩ h
theorem tkJ {i : Nat} {oi : Oper} {fuel : Nat} {listed : Array Bool} {a : Act} {w : World}
    (h : wpAnyIn Fence.wide n P md ops Q fuel (listed.setIfInBounds i true) (a.put oi.dst undef) w) (hi : ops[i]? = some oi := by rfl) (hg : Region.wanted oi (yielded ops a.tmps) = false := by rfl)
    (hs : Region.noSelect ops = true := by kernel_rfl) (hf : Region.free md ops listed i = true := by kernel_rfl) (hr : (Region.ready md ops listed).contains i = true := by kernel_rfl) (hQ : ∀ c a w, Q (.panic c) (a.put oi.dst undef) w → Q (.panic c) a w := by exact fun _ _ _ h => h)
    (hab : ∀ w, oi.about P w a.eval = none := by intro; rfl) : wpAnyIn Fence.wide n P md ops Q (fuel + 1) listed a w :=
  wpAnyIn_take rfl hi hs hf hr hQ ⟨.inr ⟨hg, rfl⟩, hab⟩ h
end

def isVar (p : Nat × Fm) : Bool := decide (p.2.op = 3)
/-- The variables of a form, each as often as it occurs. -/
def vars (f : Fm) : List Int := ((parts 200 1 f).filter isVar).map fun p => p.2.num
def pvars {n₀ : Nat} {W0 : World} (ps : List (Pt n₀ W0)) : List Int := ((ps.map Pt.key).filter isVar).map fun p => p.2.num
theorem pvars_app {n₀ : Nat} {W0 : World} (a b : List (Pt n₀ W0)) : pvars (a ++ b) = pvars a ++ pvars b := by simp [pvars]

set_option maxHeartbeats 2000000 in
theorem vars_seq {n₀ Bf g o : Nat} {W0 w : World} {f : Fm} (hf : FAt (Lo n₀) W0 f g o) (hb : Below n₀ W0 w) (hn : n₀ ≤ w.heap.size) (hBf : Bf < w.heap.size) (cf : w.cell? ⟨Bf, 0, none⟩ = some (.pointer (some ⟨g, o, none⟩))) :
    SeqS 73 Try.prog 42 #[.pointer (some ⟨Bf, 0, none⟩)] (fun z : Int => #[.int .i64 z]) n₀ (fun zs => zs = vars f) (fun zs => zs <+: vars f) (parts 200 1 f).length w := by
  intro l J Jx W hW hnW oJ oJx hY h0 n
  have hbW : Below n₀ W0 W := hb.trans (hW.mono hn)
  have cfW := (hW.cell (p := ⟨Bf, 0, none⟩) hBf).trans cf
  have hfp : Fence.wide.fn 32 := trivial
  have hmx : Try.prog.follows .mixedOrders = true := by kernel_rfl
  have hltW : Bf < W.heap.size := Nat.lt_of_lt_of_le hBf hW.size
  have cfA : (W.alloc (.cells #[.func (.yield l) #[] #[]] 73)).cell? ⟨Bf, 0, none⟩ = some (.pointer (some ⟨g, o, none⟩)) := (World.cell?_alloc_lt W _ _ hltW).trans cfW
  clear hW cf hb
  refine callsIn_of_wp_marks Try.func42 rfl trivial ?_ rfl
  simp only [Try.ntmps42, List.size_toArray, List.length_cons, List.length_nil, Nat.reduceAdd, Nat.reduceSub, Array.replicate_succ, Array.replicate_zero, List.push_toArray, List.append_toArray, List.nil_append, List.cons_append]
  gi_wp2_with (refine ⟨fun h => (by cases h), ?_⟩; gi_at_call 32; refine (callsIn_wide.2 (parts_x _ _ _)).mono ?_; rintro e w' ⟨rfl, rfl⟩)
  obtain ⟨V, hV⟩ : ∃ V, (((W.alloc (.cells #[.func (.yield l) #[] #[]] 73)).alloc (.cells #[.pointer (some ⟨g, o, none⟩)] 53)).alloc (.cells #[.int .i64 200] 3)) = V := ⟨_, rfl⟩
  have hsV : V.heap.size = W.heap.size + 3 := by rw [← hV]; simp
  have hBV : Below W.heap.size W V := by
    rw [← hV]
    exact (((Below.refl _ W).alloc (Nat.le_refl _) _).alloc (by simp) _).alloc (by simp; omega) _
  have x0 : Boxed V W.heap.size 73 (.func (.yield l) #[] #[]) := by rw [← hV]; exact ((Boxed.new' rfl).alloc _).alloc _
  have x1 : Boxed V (W.heap.size + 1) 53 (.pointer (some ⟨g, o, none⟩)) := by rw [← hV]; exact (Boxed.new' (by simp)).alloc _
  have x2 : Boxed V (W.heap.size + 1 + 1) 3 (.int .i64 200) := by rw [← hV]; exact Boxed.new' (by simp)
  have j0 : J [] V := by rw [← hV]; exact oJ.alloc _ (oJ.alloc _ (oJ.alloc _ h0))
  rw [hV]
  clear hV cfA h0
  refine range_s (T := 73) (gf := 44) (lb := #[.pointer (some ⟨W.heap.size + 1, 0, none⟩), .pointer (some ⟨W.heap.size + 1 + 1, 0, none⟩)]) (n₀ := n₀) rfl (enters_of Try.func44 (by kernel_rfl) rfl)
    (parts_seq (deepest := 200) (by omega) hf (hbW.trans (hBV.mono hnW)) (by omega) (by omega) (by omega) x1.cell x2.cell) (Below.refl _ _) (by omega) (fun _ => rfl)
    (fun ps X => (J (pvars ps) X ∧ Boxed X W.heap.size 73 (.func (.yield l) #[] #[])) ∧ Below n₀ W X)
    (fun c ps X => (c = .ret ∧ Jx (pvars ps) X) ∧ Below n₀ W X)
    (OwnFrom.and (OwnFrom.and (fun s A B row hs hg hr => oJ _ A B row hs hg fun r e => ⟨by have := (hr r e).1; omega, (hr r e).2⟩) (Own.from (boxed_own _ _ fun _ => _) _)) (ownFrom_below hnW (by omega)))
    (fun c => OwnFrom.and (fun s A B row hs hg hr => ⟨hs.1, oJx _ A B row hs.2 hg fun r e => ⟨by have := (hr r e).1; omega, (hr r e).2⟩⟩) (ownFrom_below hnW (by omega)))
    ⟨⟨j0, x0⟩, hBV.mono hnW⟩
    (fun x => { tmps := #[.func (.yield l) #[] #[], .pointer (some ⟨Bf, 0, none⟩), .pointer (some ⟨W.heap.size, 0, none⟩), undef, .pointer (some ⟨x.g, x.o, none⟩), .pointer (some ⟨g, o, none⟩), .func (.func 44) #[] #[.pointer (some ⟨W.heap.size + 1, 0, none⟩), .pointer (some ⟨W.heap.size + 1 + 1, 0, none⟩)], .int .i64 x.lv, .pointer (some ⟨x.g, x.o, none⟩), undef, undef, undef, undef, undef, undef, undef, undef, undef, undef, undef, undef, undef, undef], defers := [] }) ?assign ?body ?done ?stop
  case assign =>
    intro m l x W K hK
    gi_wp2
    exact hK
  case body =>
    clear x0 x1 x2 j0 hBV
    rintro m l' pre ⟨lv, g', o', f', hx⟩ X ⟨⟨hj, hbx⟩, hBX⟩ hlen
    have hj' : J (pvars pre) X.drew := oJ _ X X.drew none hj ⟨rfl, rfl, rfl, Nat.le_refl _, fun _ _ _ => rfl⟩ (fun r e => by cases e)
    have y := hx.below (hbW.trans hBX)
    have y0 := y.c0
    have y1 := y.c1
    clear y
    have kb := hbx.cell
    have hpl : (pvars pre).length ≤ pre.length := by
      simp only [pvars, List.length_map]
      exact Nat.le_trans (List.length_filter_le _ _) (by simp)
    obtain ⟨fn, tmps, assign, body, hy, hR⟩ := hY (m - 1) (pvars pre) f'.num X.drew hj' (by omega)
    have HPV := Lib.hid (pvars_app pre [⟨lv, g', o', f', hx⟩])
    clear hpl hlen hY hf
    gi_upto_region 3 with fail
    by_cases h3 : f'.op = 3
    · have hv : pvars [⟨lv, g', o', f', hx⟩] = [f'.num] := by simp [pvars, isVar, Pt.key, h3]
      have fT : ∀ W2, Rw 73 n₀ W.heap.size X.drew W2 → J (pvars pre ++ [f'.num]) W2 → Rw 73 n₀ V.heap.size X W2 ∧ (J (pvars (pre ++ [⟨lv, g', o', f', hx⟩])) W2 ∧ Boxed W2 W.heap.size 73 (.func (.yield l) #[] #[])) ∧ Below n₀ W W2 :=
        fun W2 hrw hj2 => ⟨((Rw.drew _ _ _ X).trans hrw).up (Nat.le_refl _) (by omega), ⟨by rw [HPV.out, hv]; exact hj2, hrw.box _ _ hbx⟩, hBX.trans ((Rw.drew _ _ _ X).trans hrw).below⟩
      have fF : ∀ W2, Rw 73 n₀ W.heap.size X.drew W2 → Jx (pvars pre ++ [f'.num]) W2 → Rw 73 n₀ V.heap.size X W2 ∧ Jx (pvars (pre ++ [⟨lv, g', o', f', hx⟩])) W2 ∧ Below n₀ W W2 :=
        fun W2 hrw hx2 => ⟨((Rw.drew _ _ _ X).trans hrw).up (Nat.le_refl _) (by omega), by rw [HPV.out, hv]; exact hx2, hBX.trans ((Rw.drew _ _ _ X).trans hrw).below⟩
      have FT := Lib.hid fT
      have FF := Lib.hid fF
      clear hv hj hj' fT fF hsV
      rw [h3] at y0
      clear h3
      refine region_roundIn hmx (by kernel_rfl) ?_
      refine tkI (i := 0) (oi := ⟨some 9, _, _, _, _, _⟩) (v := ?_) ?_ ?_
      rotate_left
      · intro W2
        go_simp
        try (first | with_reducible rfl | exact rfl)
      try simp only [Act.put, List.setIfInBounds_toArray, List.set_cons_zero, List.set_cons_succ]
      refine tkI (i := 1) (oi := ⟨some 10, _, _, _, _, _⟩) (v := ?_) ?_ ?_
      rotate_left
      · intro W2
        go_simp
        try (first | with_reducible rfl | exact rfl)
      try simp only [Act.put, List.setIfInBounds_toArray, List.set_cons_zero, List.set_cons_succ]
      refine tkI (i := 2) (oi := ⟨some 11, _, _, _, _, _⟩) (v := ?_) ?_ ?_
      rotate_left
      · intro W2
        go_simp
        try (first | with_reducible rfl | exact rfl)
      try simp only [Act.put, List.setIfInBounds_toArray, List.set_cons_zero, List.set_cons_succ]
      refine wpAnyIn_ready (rs := [3]) (by kernel_rfl) (by simp) ?_
      refine AllReadyIn.cons (o := ⟨some 12, _, _, _, _, _⟩) rfl (fun K hK => ?_) AllReadyIn.nil
      have HK := Lib.hid hK
      clear hK
      rw [if_pos (by rfl)]
      refine ⟨fun _ _ => trivial, ?_⟩
      go_simp
      refine HK.out _ _ ?_
      clear HK K
      try simp only [Act.put, List.setIfInBounds_toArray, List.set_cons_zero, List.set_cons_succ]
      refine tkI (i := 4) (oi := ⟨some 13, _, _, _, _, _⟩) (v := ?_) ?_ ?_
      rotate_left
      · intro W2
        go_simp
        try (first | with_reducible rfl | exact rfl)
      try simp only [Act.put, List.setIfInBounds_toArray, List.set_cons_zero, List.set_cons_succ]
      refine tkI (i := 5) (oi := ⟨some 14, _, _, _, _, _⟩) (v := ?_) ?_ ?_
      rotate_left
      · intro W2
        go_simp
        try (first | with_reducible rfl | exact rfl)
      try simp only [Act.put, List.setIfInBounds_toArray, List.set_cons_zero, List.set_cons_succ]
      refine tkI (i := 7) (oi := ⟨some 16, _, _, _, _, _⟩) (v := ?_) ?_ ?_
      rotate_left
      · intro W2
        go_simp
        try (first | with_reducible rfl | exact rfl)
      try simp only [Act.put, List.setIfInBounds_toArray, List.set_cons_zero, List.set_cons_succ]
      refine tkI (i := 8) (oi := ⟨some 17, _, _, _, _, _⟩) (v := ?_) ?_ ?_
      rotate_left
      · intro W2
        go_simp
        try (first | with_reducible rfl | exact rfl)
      try simp only [Act.put, List.setIfInBounds_toArray, List.set_cons_zero, List.set_cons_succ]
      refine tkI (i := 9) (oi := ⟨some 18, _, _, _, _, _⟩) (v := ?_) ?_ ?_
      rotate_left
      · intro W2
        go_simp
        try (first | with_reducible rfl | exact rfl)
      try simp only [Act.put, List.setIfInBounds_toArray, List.set_cons_zero, List.set_cons_succ]
      refine wpAnyIn_ready (rs := [6, 10]) (by kernel_rfl) (by simp) ?_
      refine AllReadyIn.cons (o := ⟨some 15, _, _, _, _, _⟩) rfl (fun K hK => ?_) (AllReadyIn.cons (o := ⟨some 19, _, _, _, _, _⟩) rfl (fun K hK => ?_) AllReadyIn.nil)
      · have HK := Lib.hid hK
        clear hK
        rw [if_pos (by rfl)]
        refine ⟨fun _ _ => trivial, ?_⟩
        go_simp
        refine HK.out _ _ ?_
        clear HK K
        try simp only [Act.put, List.setIfInBounds_toArray, List.set_cons_zero, List.set_cons_succ]
        refine wpAnyIn_ready (rs := [10]) (by kernel_rfl) (by simp) ?_
        refine AllReadyIn.cons (o := ⟨some 19, _, _, _, _, _⟩) rfl (fun K hK => ?_) AllReadyIn.nil
        have HK := Lib.hid hK
        clear hK
        rw [if_pos (by rfl)]
        refine ⟨fun _ _ => trivial, ?_⟩
        go_simp
        refine HK.out _ _ ?_
        clear HK K
        try simp only [Act.put, List.setIfInBounds_toArray, List.set_cons_zero, List.set_cons_succ]
        refine wpAnyIn_ready (rs := [11]) (by kernel_rfl) (by simp) ?_
        refine AllReadyIn.cons (o := ⟨some 20, _, _, _, _, _⟩) rfl (fun K hK => ?_) AllReadyIn.nil
        have HK := Lib.hid hK
        clear hK
        rw [if_pos (by rfl)]
        refine ⟨fun _ _ => trivial, ?_⟩
        go_simp
        refine ⟨fun h => (by cases h), ?_⟩
        refine hR.mono ?_
        rintro e W2 ⟨hrw, (⟨rfl, hj2⟩ | ⟨rfl, hx2⟩)⟩
        · refine HK.out _ _ ?_
          clear HK K
          try simp only [Act.put, List.setIfInBounds_toArray, List.set_cons_zero, List.set_cons_succ]
          refine tkI (i := 12) (oi := ⟨some 21, _, _, _, _, _⟩) (v := ?_) ?_ ?_
          rotate_left
          · intro W2
            go_simp
            try (first | with_reducible rfl | exact rfl)
          try simp only [Act.put, List.setIfInBounds_toArray, List.set_cons_zero, List.set_cons_succ]
          refine tkI (i := 13) (oi := ⟨some 22, _, _, _, _, _⟩) (v := ?_) ?_ ?_
          rotate_left
          · intro W2
            go_simp
            try (first | with_reducible rfl | exact rfl)
          try simp only [Act.put, List.setIfInBounds_toArray, List.set_cons_zero, List.set_cons_succ]
          refine wpAnyIn_done (by kernel_rfl) ?_ _
          gi_wp2_with fail
          exact FT.out W2 hrw hj2
        · refine HK.out _ _ ?_
          clear HK K
          try simp only [Act.put, List.setIfInBounds_toArray, List.set_cons_zero, List.set_cons_succ]
          refine tkI (i := 12) (oi := ⟨some 21, _, _, _, _, _⟩) (v := ?_) ?_ ?_
          rotate_left
          · intro W2
            go_simp
            try (first | with_reducible rfl | exact rfl)
          try simp only [Act.put, List.setIfInBounds_toArray, List.set_cons_zero, List.set_cons_succ]
          refine tkI (i := 13) (oi := ⟨some 22, _, _, _, _, _⟩) (v := ?_) ?_ ?_
          rotate_left
          · intro W2
            go_simp
            try (first | with_reducible rfl | exact rfl)
          try simp only [Act.put, List.setIfInBounds_toArray, List.set_cons_zero, List.set_cons_succ]
          refine wpAnyIn_done (by kernel_rfl) ?_ _
          gi_wp2_with fail
          exact ⟨(FF.out W2 hrw hx2).1, ⟨rfl, (FF.out W2 hrw hx2).2.1⟩, (FF.out W2 hrw hx2).2.2⟩
      · have HK := Lib.hid hK
        clear hK
        rw [if_pos (by rfl)]
        refine ⟨fun _ _ => trivial, ?_⟩
        go_simp
        refine HK.out _ _ ?_
        clear HK K
        try simp only [Act.put, List.setIfInBounds_toArray, List.set_cons_zero, List.set_cons_succ]
        refine wpAnyIn_ready (rs := [6]) (by kernel_rfl) (by simp) ?_
        refine AllReadyIn.cons (o := ⟨some 15, _, _, _, _, _⟩) rfl (fun K hK => ?_) AllReadyIn.nil
        have HK := Lib.hid hK
        clear hK
        rw [if_pos (by rfl)]
        refine ⟨fun _ _ => trivial, ?_⟩
        go_simp
        refine HK.out _ _ ?_
        clear HK K
        try simp only [Act.put, List.setIfInBounds_toArray, List.set_cons_zero, List.set_cons_succ]
        refine wpAnyIn_ready (rs := [11]) (by kernel_rfl) (by simp) ?_
        refine AllReadyIn.cons (o := ⟨some 20, _, _, _, _, _⟩) rfl (fun K hK => ?_) AllReadyIn.nil
        have HK := Lib.hid hK
        clear hK
        rw [if_pos (by rfl)]
        refine ⟨fun _ _ => trivial, ?_⟩
        go_simp
        refine ⟨fun h => (by cases h), ?_⟩
        refine hR.mono ?_
        rintro e W2 ⟨hrw, (⟨rfl, hj2⟩ | ⟨rfl, hx2⟩)⟩
        · refine HK.out _ _ ?_
          clear HK K
          try simp only [Act.put, List.setIfInBounds_toArray, List.set_cons_zero, List.set_cons_succ]
          refine tkI (i := 12) (oi := ⟨some 21, _, _, _, _, _⟩) (v := ?_) ?_ ?_
          rotate_left
          · intro W2
            go_simp
            try (first | with_reducible rfl | exact rfl)
          try simp only [Act.put, List.setIfInBounds_toArray, List.set_cons_zero, List.set_cons_succ]
          refine tkI (i := 13) (oi := ⟨some 22, _, _, _, _, _⟩) (v := ?_) ?_ ?_
          rotate_left
          · intro W2
            go_simp
            try (first | with_reducible rfl | exact rfl)
          try simp only [Act.put, List.setIfInBounds_toArray, List.set_cons_zero, List.set_cons_succ]
          refine wpAnyIn_done (by kernel_rfl) ?_ _
          gi_wp2_with fail
          exact FT.out W2 hrw hj2
        · refine HK.out _ _ ?_
          clear HK K
          try simp only [Act.put, List.setIfInBounds_toArray, List.set_cons_zero, List.set_cons_succ]
          refine tkI (i := 12) (oi := ⟨some 21, _, _, _, _, _⟩) (v := ?_) ?_ ?_
          rotate_left
          · intro W2
            go_simp
            try (first | with_reducible rfl | exact rfl)
          try simp only [Act.put, List.setIfInBounds_toArray, List.set_cons_zero, List.set_cons_succ]
          refine tkI (i := 13) (oi := ⟨some 22, _, _, _, _, _⟩) (v := ?_) ?_ ?_
          rotate_left
          · intro W2
            go_simp
            try (first | with_reducible rfl | exact rfl)
          try simp only [Act.put, List.setIfInBounds_toArray, List.set_cons_zero, List.set_cons_succ]
          refine wpAnyIn_done (by kernel_rfl) ?_ _
          gi_wp2_with fail
          exact ⟨(FF.out W2 hrw hx2).1, ⟨rfl, (FF.out W2 hrw hx2).2.1⟩, (FF.out W2 hrw hx2).2.2⟩
    · have hv : pvars [⟨lv, g', o', f', hx⟩] = [] := by simp [pvars, isVar, Pt.key, h3]
      have fN : Rw 73 n₀ V.heap.size X X.drew ∧ (J (pvars (pre ++ [⟨lv, g', o', f', hx⟩])) X.drew ∧ Boxed X.drew W.heap.size 73 (.func (.yield l) #[] #[])) ∧ Below n₀ W X.drew :=
        ⟨Rw.drew _ _ _ X, ⟨by rw [HPV.out, hv, List.append_nil]; exact hj', hbx⟩, hBX.trans (Rw.drew 73 n₀ 0 X).below⟩
      have e3 : (f'.op == 3) = false := by simpa using h3
      have FN := Lib.hid fN
      clear hv hj hj' h3 hy hR fN hsV
      refine region_roundIn hmx (by kernel_rfl) ?_
      refine tkI (i := 0) (oi := ⟨some 9, _, _, _, _, _⟩) (v := ?_) ?_ ?_
      rotate_left
      · intro W2
        go_simp
        try (first | with_reducible rfl | exact rfl)
      try simp only [Act.put, List.setIfInBounds_toArray, List.set_cons_zero, List.set_cons_succ]
      refine tkI (i := 1) (oi := ⟨some 10, _, _, _, _, _⟩) (v := ?_) ?_ ?_
      rotate_left
      · intro W2
        go_simp
        try (first | with_reducible rfl | exact rfl)
      try simp only [Act.put, List.setIfInBounds_toArray, List.set_cons_zero, List.set_cons_succ]
      refine tkI (i := 2) (oi := ⟨some 11, _, _, _, _, _⟩) (v := ?_) ?_ ?_
      rotate_left
      · intro W2
        go_simp
        try (first | with_reducible rfl | exact rfl)
      try simp only [Act.put, List.setIfInBounds_toArray, List.set_cons_zero, List.set_cons_succ]
      refine wpAnyIn_ready (rs := [3]) (by kernel_rfl) (by simp) ?_
      refine AllReadyIn.cons (o := ⟨some 12, _, _, _, _, _⟩) rfl (fun K hK => ?_) AllReadyIn.nil
      have HK := Lib.hid hK
      clear hK
      rw [if_pos (by rfl)]
      refine ⟨fun _ _ => trivial, ?_⟩
      go_simp
      refine HK.out _ _ ?_
      clear HK K
      try simp only [Act.put, List.setIfInBounds_toArray, List.set_cons_zero, List.set_cons_succ]
      refine tkI (i := 4) (oi := ⟨some 13, _, _, _, _, _⟩) (v := ?_) ?_ ?_
      rotate_left
      · intro W2
        go_simp
        try (first | with_reducible rfl | exact rfl)
      try simp only [Act.put, List.setIfInBounds_toArray, List.set_cons_zero, List.set_cons_succ]
      refine tkI (i := 5) (oi := ⟨some 14, _, _, _, _, _⟩) (v := ?_) ?_ ?_
      rotate_left
      · intro W2
        go_simp
        try (first | with_reducible rfl | exact rfl)
      try simp only [Act.put, List.setIfInBounds_toArray, List.set_cons_zero, List.set_cons_succ]
      refine tkJ (i := 6) (oi := ⟨some 15, _, _, _, _, _⟩) ?_
      try simp only [Act.put, List.setIfInBounds_toArray, List.set_cons_zero, List.set_cons_succ]
      refine tkJ (i := 7) (oi := ⟨some 16, _, _, _, _, _⟩) ?_
      try simp only [Act.put, List.setIfInBounds_toArray, List.set_cons_zero, List.set_cons_succ]
      refine tkJ (i := 8) (oi := ⟨some 17, _, _, _, _, _⟩) ?_
      try simp only [Act.put, List.setIfInBounds_toArray, List.set_cons_zero, List.set_cons_succ]
      refine tkJ (i := 9) (oi := ⟨some 18, _, _, _, _, _⟩) ?_
      try simp only [Act.put, List.setIfInBounds_toArray, List.set_cons_zero, List.set_cons_succ]
      refine tkJ (i := 10) (oi := ⟨some 19, _, _, _, _, _⟩) ?_
      try simp only [Act.put, List.setIfInBounds_toArray, List.set_cons_zero, List.set_cons_succ]
      refine tkJ (i := 11) (oi := ⟨some 20, _, _, _, _, _⟩) ?_
      try simp only [Act.put, List.setIfInBounds_toArray, List.set_cons_zero, List.set_cons_succ]
      refine tkJ (i := 12) (oi := ⟨some 21, _, _, _, _, _⟩) ?_
      try simp only [Act.put, List.setIfInBounds_toArray, List.set_cons_zero, List.set_cons_succ]
      refine tkI (i := 13) (oi := ⟨some 22, _, _, _, _, _⟩) (v := ?_) ?_ ?_
      rotate_left
      · intro W2
        go_simp
        try (first | with_reducible rfl | exact rfl)
      try simp only [Act.put, List.setIfInBounds_toArray, List.set_cons_zero, List.set_cons_succ]
      refine wpAnyIn_done (by kernel_rfl) ?_ _
      gi_wp2_with fail
      exact FN.out
  case done =>
    clear x0 x1 x2 j0 hBV hY
    rintro D ps X hD hS ⟨⟨hj, _⟩, _⟩ hK
    have hv : pvars ps = vars f := by rw [pvars, hS]; rfl
    rw [hv] at hj
    have hj2 : J (vars f) (X.putObj D (.deferred none)) := oJ.putObj _ hj (by omega) hK rfl
    clear hj hv hS
    gi_wp2_with fail
    refine ⟨by simp, .inl ⟨_, _, rfl, run_takeDeferred hK, ?_⟩⟩
    exact ⟨_, results_none rfl _ _ _, ⟨_, rfl⟩, .inl ⟨_, rfl, hj2⟩⟩
  case stop =>
    clear x0 x1 x2 j0 hBV hY
    rintro D c ps X hD hS ⟨⟨rfl, hj⟩, _⟩ hK
    have hv : pvars ps <+: vars f := by
      obtain ⟨r, hr⟩ := hS
      exact ⟨(r.filter isVar).map fun p => p.2.num, by rw [pvars, vars, ← hr]; simp⟩
    have hj2 : Jx (pvars ps) (X.putObj D (.deferred none)) := oJx.putObj _ hj (by omega) hK rfl
    clear hj hS
    gi_wp2_with fail
    refine ⟨by simp, .inl ⟨_, _, rfl, run_takeDeferred hK, ?_⟩⟩
    exact ⟨_, results_none rfl _ _ _, ⟨_, rfl⟩, .inr ⟨_, hv, hj2⟩⟩
end Fx
end Go.Proofs.Ytlhncmnhpnhfhaa
