/-
  The parser's lists up to a sign, and its pairs.
-/
import Derived.Test.YtggdhgppclnckaaGreatDoorPasE
namespace Go.Proofs.YtggdhgppclnckaaGreatDoor
open Go Go.RowKit Lx
set_option maxRecDepth 20000

namespace Ps
variable {w : World} {g b n c : Nat} {L : List Tok} {i : Nat} {o : Int}
/-- Two values. -/
def rdP {α : Type} (rd : Nat → World → α → Value → Prop) (b : Nat) (w : World) (p : α × α) (v : Value) : Prop := ∃ x y, v = .tuple #[x, y] ∧ rd b w p.1 x ∧ rd b w p.2 y
/-- A number as a part. -/
def rdN (_ : Nat) (_ : World) (x : Int) (v : Value) : Prop := v = .int .i64 x
def rdR (b : Nat) (w : World) (r : Rv) (v : Value) : Prop := ∃ a0 a1 a2, v = .agg #[a0, a1, a2] ∧ Rds (Fr b) w r.d [a0, a1, a2]
theorem rdR.but {w w' : World} {b b' : Nat} {e : Rv} {v : Value} (h : rdR b w e v) (hb : But g w w') (hg : g < b) (hle : b' ≤ b) : rdR b' w' e v := by
  obtain ⟨a0, a1, a2, rfl, h⟩ := h
  exact ⟨_, _, _, rfl, h.lift hb hg hle⟩

theorem untilExpr_x {f : FuncId} {M : P Ex} {q : Nat} (hf : Does g b n c L f rdE M q) (he : Enters f) (h : At w g b n c L i o) (hq : n ≤ q + i) (s : Bs) (hs : s ≠ []) :
    Calls Tryz.prog 183 #[.pointer (some ⟨g, 0, none⟩), .string (bt s), .func (.func f) #[.pointer (some ⟨g, 0, none⟩)] #[]] w (Giv g b n c L (rdL 7 Ex.d w.heap.size) w i 0 (listU L s M i o)) := by
  have HA := Lib.hid (accept_x h s hs)
  have HL : Hid (∀ W j p, At W g b n c L j p → n ≤ q + j → Calls Tryz.prog 194 #[.pointer (some ⟨g, 0, none⟩), .func (.func f) #[.pointer (some ⟨g, 0, none⟩)] #[]] W (Giv g b n c L (rdL 7 Ex.d W.heap.size) W j 0 (list L M j p))) := fun W j p hW hj => listExpr_x hf he hW hj
  have HX : Hid (∀ W j p, At W g b n c L j p → Calls Tryz.prog 99 #[.pointer (some ⟨g, 0, none⟩), .string (bt s)] W (Giv g b n c L rdU W j 1 (want L s j p))) := fun W j p hW => expect_x hW s hs
  have hsz := h.cs.size
  generalize hr : listU L s M i o = r
  unfold listU at hr
  clear hf h he
  generalize bt s = y at *
  go_enter Tryz.func183, Tryz.ntmps183
  go_wp2_with fail
  refine HA.out.mono ?_
  rintro en w1 (⟨t, j, q1, v, hm, rfl, rfl, hat, hle, hb⟩ | ⟨j, er, hm, rfl, hj, hb⟩)
  · rw [bd_ok hm] at hr
    cases t
    · simp only [Bool.false_eq_true, if_false] at hr
      obtain ⟨rfl, rfl, _⟩ := acc_not hm
      clear hm HA
      go_wp2_with fail
      refine (HL.out _ _ _ hat hq).mono ?_
      rintro en w2 (⟨l, j2, q2, v, hm, rfl, ⟨A, m, c', rfl, hv⟩, hat2, hle2, hb2⟩ | ⟨j2, er, hm, rfl, hj2, hb2⟩)
      · rw [bd_ok hm] at hr
        clear hm
        go_wp2_with fail
        refine (HX.out _ _ _ hat2).mono ?_
        rintro en w3 (⟨⟨⟩, j3, q3, v, hm, rfl, rfl, hat3, hle3, hb3⟩ | ⟨j3, er, hm, rfl, hj3, hb3⟩)
        · rw [bd_ok hm] at hr
          go_wp2
          go_ret
          exact Or.inl ⟨l, j3, q3, _, hr.symm, rfl, ⟨A, m, c', rfl, hv.lift hb3 (by have := hb.size; omega) hb.size⟩, hat3, by omega, (hb.trans hb2).trans hb3⟩
        · rw [bd_no hm] at hr
          go_wp2
          exact post_panic rfl (Or.inr ⟨j3, er, hr.symm, rfl, hj3, (hb.trans hb2).trans hb3⟩)
      · rw [bd_no hm] at hr
        go_wp2
        exact post_panic rfl (Or.inr ⟨j2, er, hr.symm, rfl, hj2, hb.trans hb2⟩)
    · simp only [if_true] at hr
      go_wp2
      go_ret
      exact Or.inl ⟨[], j, q1, _, hr.symm, rfl, ⟨none, 0, 0, rfl, .nil 7⟩, hat, by omega, hb⟩
  · rw [bd_no hm] at hr
    go_wp2
    exact post_panic rfl (Or.inr ⟨j, er, hr.symm, rfl, hj, hb⟩)

theorem pairInt_x {f : FuncId} {M : P Int} {q : Nat} (hf : Does g b n c L f rdN M q) (he : Enters f) (h : At w g b n c L i o) (hq : n ≤ q + i) :
    Calls Tryz.prog 162 #[.pointer (some ⟨g, 0, none⟩), .func (.func f) #[.pointer (some ⟨g, 0, none⟩)] #[]] w (Giv g b n c L (rdP rdN w.heap.size) w i 0 (pair L M i o)) := by
  have HF := Lib.hid hf
  have HX : Hid (∀ W j p, At W g b n c L j p → Calls Tryz.prog 99 #[.pointer (some ⟨g, 0, none⟩), .string ⟨#[44]⟩] W (Giv g b n c L rdU W j 1 (want L [44] j p))) := fun W j p hW => expect_x hW [44] (by decide)
  have HE : Hid (Enters f) := he
  generalize hr : pair L M i o = r
  unfold pair at hr
  have H1 := Lib.hid (hf w i o h hq)
  clear hf h he
  go_enter Tryz.func162, Tryz.ntmps162
  have hen : ∀ (args : Array Value) (W : World), (callFunc f args).run Tryz.prog W = .ok (.enter f args) W := HE.out
  go_wp2_with fail
  clear hen
  refine H1.out.mono ?_
  rintro en w1 (⟨a, j, q1, v, hm, rfl, rfl, hat, hle, hb⟩ | ⟨j, er, hm, rfl, hj, hb⟩)
  · rw [bd_ok hm] at hr
    clear hm H1
    go_wp2_with fail
    refine (HX.out _ _ _ hat).mono ?_
    rintro en w2 (⟨⟨⟩, j2, q2, v, hm, rfl, rfl, hat2, hle2, hb2⟩ | ⟨j2, er, hm, rfl, hj2, hb2⟩)
    · rw [bd_ok hm] at hr
      clear hm
      have H3 := Lib.hid (HF.out w2 j2 q2 hat2 (by omega))
      have hen : ∀ (args : Array Value) (W : World), (callFunc f args).run Tryz.prog W = .ok (.enter f args) W := HE.out
      go_wp2_with fail
      clear hen
      refine H3.out.mono ?_
      rintro en w3 (⟨x, j3, q3, v, hm, rfl, rfl, hat3, hle3, hb3⟩ | ⟨j3, er, hm, rfl, hj3, hb3⟩)
      · rw [bd_ok hm] at hr
        go_wp2
        go_ret2
        exact Or.inl ⟨(a, x), j3, q3, _, hr.symm, rfl, ⟨_, _, rfl, rfl, rfl⟩, hat3, by omega, (hb.trans hb2).trans hb3⟩
      · rw [bd_no hm] at hr
        go_wp2
        exact post_panic rfl (Or.inr ⟨j3, er, hr.symm, rfl, hj3, (hb.trans hb2).trans hb3⟩)
    · rw [bd_no hm] at hr
      go_wp2
      exact post_panic rfl (Or.inr ⟨j2, er, hr.symm, rfl, hj2, hb.trans hb2⟩)
  · rw [bd_no hm] at hr
    go_wp2
    exact post_panic rfl (Or.inr ⟨j, er, hr.symm, rfl, hj, hb⟩)

set_option maxHeartbeats 2000000 in
theorem pairExpr_x {f : FuncId} {M : P Ex} {q : Nat} (hf : Does g b n c L f rdE M q) (he : Enters f) (h : At w g b n c L i o) (hq : n ≤ q + i) :
    Calls Tryz.prog 277 #[.pointer (some ⟨g, 0, none⟩), .func (.func f) #[.pointer (some ⟨g, 0, none⟩)] #[]] w (Giv g b n c L (rdP rdE w.heap.size) w i 0 (pair L M i o)) := by
  have HF := Lib.hid hf
  have HX : Hid (∀ W j p, At W g b n c L j p → Calls Tryz.prog 99 #[.pointer (some ⟨g, 0, none⟩), .string ⟨#[44]⟩] W (Giv g b n c L rdU W j 1 (want L [44] j p))) := fun W j p hW => expect_x hW [44] (by decide)
  have HE : Hid (Enters f) := he
  have hsz := h.cs.size
  have hbz := h.hb
  generalize hr : pair L M i o = r
  unfold pair at hr
  have H1 := Lib.hid (fun W => fun hW : Below w.heap.size w W => hf W i o (h.new hW) hq)
  clear hf h he
  have b0 : Below w.heap.size w ((w.alloc (.cells #[.int .i64 0, .int .i64 0, .bool false, .slice none 0 0, .slice none 0 0, .string ⟨#[]⟩, .slice none 0 0] 53)).alloc (.cells #[.int .i64 0, .int .i64 0, .bool false, .slice none 0 0, .slice none 0 0, .string ⟨#[]⟩, .slice none 0 0] 53)) := (allocB w _).trans ((allocB _ _).mono (by simp))
  have x4 := (box_alloc w 53 #[.int .i64 0, .int .i64 0, .bool false, .slice none 0 0, .slice none 0 0, .string ⟨#[]⟩, .slice none 0 0]).new (allocB (w.alloc (.cells #[.int .i64 0, .int .i64 0, .bool false, .slice none 0 0, .slice none 0 0, .string ⟨#[]⟩, .slice none 0 0] 53)) (.cells #[.int .i64 0, .int .i64 0, .bool false, .slice none 0 0, .slice none 0 0, .string ⟨#[]⟩, .slice none 0 0] 53))
  have x5 := box_alloc (w.alloc (.cells #[.int .i64 0, .int .i64 0, .bool false, .slice none 0 0, .slice none 0 0, .string ⟨#[]⟩, .slice none 0 0] 53)) 53 #[.int .i64 0, .int .i64 0, .bool false, .slice none 0 0, .slice none 0 0, .string ⟨#[]⟩, .slice none 0 0]
  have z5 : (w.alloc (.cells #[.int .i64 0, .int .i64 0, .bool false, .slice none 0 0, .slice none 0 0, .string ⟨#[]⟩, .slice none 0 0] 53)).heap.size = w.heap.size + 1 := by simp
  rw [z5] at x5
  go_enter Tryz.func277, Tryz.ntmps277
  have hen : ∀ (args : Array Value) (W : World), (callFunc f args).run Tryz.prog W = .ok (.enter f args) W := HE.out
  go_wp2_with fail
  clear hen
  have H2 := Lib.hid (H1.out _ b0)
  have sz0 := b0.size
  have sz1 := x5.lt
  generalize (w.alloc (.cells #[.int .i64 0, .int .i64 0, .bool false, .slice none 0 0, .slice none 0 0, .string ⟨#[]⟩, .slice none 0 0] 53)).alloc (.cells #[.int .i64 0, .int .i64 0, .bool false, .slice none 0 0, .slice none 0 0, .string ⟨#[]⟩, .slice none 0 0] 53) = w0 at *
  refine H2.out.mono ?_
  rintro en w1 (⟨a, j, q1, v, hm, rfl, ⟨a0, a1, a2, a3, a4, a5, a6, rfl, hv⟩, hat, hle, hb⟩ | ⟨j, er, hm, rfl, hj, hb⟩)
  · rw [bd_ok hm] at hr
    have y4 := (x4.but hb (by omega)).new (allocB w1 (.cells #[a0, a1, a2, a3, a4, a5, a6] 53))
    have y5 := (x5.but hb (by omega)).new (allocB w1 (.cells #[a0, a1, a2, a3, a4, a5, a6] 53))
    have y6 := box_alloc w1 53 #[a0, a1, a2, a3, a4, a5, a6]
    have hat1 := hat.new (allocB w1 (.cells #[a0, a1, a2, a3, a4, a5, a6] 53))
    have HB1 : Hid (But g w (w1.alloc (.cells #[a0, a1, a2, a3, a4, a5, a6] 53))) := ((But.of_below b0).trans hb).trans (But.of_below (allocB w1 _))
    have HV1 : Hid (Rds (Fr w0.heap.size) (w1.alloc (.cells #[a0, a1, a2, a3, a4, a5, a6] 53)) a.d [a0, a1, a2, a3, a4, a5, a6]) := hv.keep (allocB w1 _).size (fun k _ hk => (allocB w1 _).block k hk) fun _ h _ => h
    have s1 := hb.size
    have ones : (#[a0, a1, a2, a3, a4, a5, a6] : Array Value).all (·.oneCell') = true := hv.all
    clear hm H1 H2 hat hv hb x4 x5
    go_wp2_with (refine wpList_store_row rfl 53 (.tmp 6) (.tmp 8) rfl w1.heap.size _ rfl rfl 53 _ (box_alloc w1 53 #[.int .i64 0, .int .i64 0, .bool false, .slice none 0 0, .slice none 0 0, .string ⟨#[]⟩, .slice none 0 0]) (by kernel_rfl) rfl ones ?_)
    rw [World.setRow_alloc_new]
    have s6 := y6.lt
    generalize w1.alloc (.cells #[a0, a1, a2, a3, a4, a5, a6] 53) = w1' at *
    refine (HX.out _ _ _ hat1).mono ?_
    rintro en w2 (⟨⟨⟩, j2, q2, v, hm, rfl, rfl, hat2, hle2, hb2⟩ | ⟨j2, er, hm, rfl, hj2, hb2⟩)
    · rw [bd_ok hm] at hr
      have s2 := hb2.size
      have H3 := Lib.hid (HF.out w2.drew j2 q2 (hat2.drewN 1) (by omega))
      have HB2 : Hid (But g w w2.drew) := (HB1.out.trans hb2).drewN 1
      have HV2 : Hid (Rds (Fr w0.heap.size) w2.drew a.d [a0, a1, a2, a3, a4, a5, a6]) := (HV1.out.lift hb2 (by omega) (Nat.le_refl _)).keep (Nat.le_refl _) (fun _ _ _ => rfl) fun _ h _ => h
      have z4 : Box w2.drew w.heap.size 53 #[.int .i64 0, .int .i64 0, .bool false, .slice none 0 0, .slice none 0 0, .string ⟨#[]⟩, .slice none 0 0] := (y4.but hb2 (by omega)).drewN 1
      have z5 : Box w2.drew (w.heap.size + 1) 53 #[.int .i64 0, .int .i64 0, .bool false, .slice none 0 0, .slice none 0 0, .string ⟨#[]⟩, .slice none 0 0] := (y5.but hb2 (by omega)).drewN 1
      have z6 : Box w2.drew w1.heap.size 53 #[a0, a1, a2, a3, a4, a5, a6] := (y6.but hb2 (by omega)).drewN 1
      have hen : ∀ (args : Array Value) (W : World), (callFunc f args).run Tryz.prog W = .ok (.enter f args) W := HE.out
      clear hm hat1 hb2 y4 y5 y6 HB1 HV1 hat2
      go_wp2
      refine wp_region_held_drew (S := fun W => Box W w1.heap.size 53 #[a0, a1, a2, a3, a4, a5, a6]) (by kernel_rfl) ?_ (fun hHeld => ?_)
      · exact z6
      refine tkH (i := 0) (oi := ⟨some 11, _, _, _, _, _⟩) (v := .agg #[a0, a1, a2, a3, a4, a5, a6]) (fun W hSw => Box.yield rfl rfl (hSw) rfl (by kernel_rfl)) ?_
      try simp only [Act.put, List.setIfInBounds_toArray, List.set_cons_zero, List.set_cons_succ]
      refine tkH (i := 1) (oi := ⟨some 12, _, _, _, _, _⟩) (v := ?_) ?_ ?_
      rotate_left
      · intro W hSw
        go_simp
        try with_reducible rfl
      try simp only [Act.put, List.setIfInBounds_toArray, List.set_cons_zero, List.set_cons_succ]
      refine wpAnyH_ready (rs := [2]) (by kernel_rfl) (by simp) ?_
      refine AllReadyH.cons (o := ⟨some 13, _, _, _, _, _⟩) rfl (fun K hK => ?_) AllReadyH.nil
      go_simp
      clear hHeld
      refine H3.out.mono ?_
      rintro en w3 (⟨x, j3, q3, v, hm, rfl, ⟨x0, x1, x2, x3, x4, x5, x6, rfl, hv⟩, hat3, hle3, hb3⟩ | ⟨j3, er, hm, rfl, hj3, hb3⟩)
      rotate_left
      · rw [bd_no hm] at hr
        exact post_panic rfl (Or.inr ⟨j3, er, hr.symm, rfl, hj3, HB2.out.trans hb3⟩)
      rw [bd_ok hm] at hr
      have s3 := hb3.size
      have y4 := z4.but hb3 (by omega)
      have y5 := z5.but hb3 (by omega)
      have y6 := z6.but hb3 (by omega)
      have ones3 : (#[x0, x1, x2, x3, x4, x5, x6] : Array Value).all (·.oneCell') = true := hv.all
      refine hK.out _ _ y6 (fun hHeld => ?_)
      clear hK K
      try simp only [Act.put, List.setIfInBounds_toArray, List.set_cons_zero, List.set_cons_succ]
      refine wpAnyH_ready (rs := [3]) (by kernel_rfl) (by simp) ?_
      refine AllReadyH.cons (o := ⟨none, _, _, _, _, _⟩) rfl (fun K hK => ?_) AllReadyH.nil
      rw [if_pos (by rfl)]
      refine wp_store_row 53 (.tmp 4) (.tmp 11) rfl (w.heap.size) _ rfl rfl 53 _ (y4) (by kernel_rfl) rfl (ones) ?_
      refine hK.out _ _ (y6.other _ (by omega)) (fun hHeld => ?_)
      clear hK K
      try simp only [Act.put]
      refine wpAnyH_ready (rs := [4]) (by kernel_rfl) (by simp) ?_
      refine AllReadyH.cons (o := ⟨none, _, _, _, _, _⟩) rfl (fun K hK => ?_) AllReadyH.nil
      rw [if_pos (by rfl)]
      refine wp_store_row 53 (.tmp 5) (.tmp 13) rfl (w.heap.size + 1) _ rfl rfl 53 _ (y5.other _ (by omega)) (by kernel_rfl) rfl (ones3) ?_
      refine hK.out _ _ ((y6.other _ (by omega)).other _ (by omega)) (fun hHeld => ?_)
      clear hK K
      try simp only [Act.put]
      refine wpAnyH_done (by kernel_rfl) ?_ _
      go_wp2
      refine bodyPost_ret (results_two rfl _ _ rfl rfl ((y4.set _).other _ (by omega)) ((y5.other _ (by omega)).set _) rfl rfl (by kernel_rfl) (by kernel_rfl)) rfl ?_
      have HBF : But g w ((w3.setRow w.heap.size #[a0, a1, a2, a3, a4, a5, a6]).setRow (w.heap.size + 1) #[x0, x1, x2, x3, x4, x5, x6]) := But.row (But.row (HB2.out.trans hb3) (by omega) _) (by omega) _
      have bz : Below w0.heap.size w0 w0 := Below.refl _ _
      have HVF : Rds (Fr w.heap.size) ((w3.setRow w.heap.size #[a0, a1, a2, a3, a4, a5, a6]).setRow (w.heap.size + 1) #[x0, x1, x2, x3, x4, x5, x6]) a.d [a0, a1, a2, a3, a4, a5, a6] := by
        refine (HV2.out.keep (S' := Fr w0.heap.size) ?_ ?_ (fun _ h _ => h)).in (fun k hk => by simp [Fr] at hk ⊢; omega)
        · rw [size_row, size_row]; exact s3
        · intro k hk hlt
          simp [Fr] at hk
          rw [setRow_other _ _ _ _ (by omega), setRow_other _ _ _ _ (by omega)]
          exact hb3.block k hlt (by omega)
      have HVX : Rds (Fr w.heap.size) ((w3.setRow w.heap.size #[a0, a1, a2, a3, a4, a5, a6]).setRow (w.heap.size + 1) #[x0, x1, x2, x3, x4, x5, x6]) x.d [x0, x1, x2, x3, x4, x5, x6] := by
        refine (hv.keep (S' := Fr w2.drew.heap.size) ?_ ?_ (fun _ h _ => h)).in (fun k hk => by simp [Fr] at hk ⊢; omega)
        · rw [size_row, size_row]; exact Nat.le_refl _
        · intro k hk hlt
          simp [Fr] at hk
          rw [setRow_other _ _ _ _ (by omega), setRow_other _ _ _ _ (by omega)]
      have HATF : At ((w3.setRow w.heap.size #[a0, a1, a2, a3, a4, a5, a6]).setRow (w.heap.size + 1) #[x0, x1, x2, x3, x4, x5, x6]) g b n c L j3 q3 :=
        hat3.below (B := w.heap.size) (below_row (below_row (Below.refl _ _) (by omega) _) (by omega) _) hsz hbz
      exact Or.inl ⟨(a, x), j3, q3, _, hr.symm, rfl, ⟨_, _, rfl, ⟨_, _, _, _, _, _, _, rfl, HVF⟩, ⟨_, _, _, _, _, _, _, rfl, HVX⟩⟩, HATF, by omega, HBF⟩
    · rw [bd_no hm] at hr
      go_wp2
      exact post_panic rfl (Or.inr ⟨j2, er, hr.symm, rfl, hj2, HB1.out.trans hb2⟩)
  · rw [bd_no hm] at hr
    go_wp2
    exact post_panic rfl (Or.inr ⟨j, er, hr.symm, rfl, hj, (But.of_below b0).trans hb⟩)
end Ps
end Go.Proofs.YtggdhgppclnckaaGreatDoor
