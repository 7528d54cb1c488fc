/-
  Draws.
-/
import Derived.Test.YtggdhgppclnckaaGreatDoorPasR
namespace Go.Proofs.YtggdhgppclnckaaGreatDoor
open Go Go.RowKit Lx
set_option maxRecDepth 20000

namespace Ps
variable {w : World} {g b n c : Nat} {L : List Tok} {i : Nat} {o : Int}

set_option maxHeartbeats 2000000 in
theorem pairRat_x {f : FuncId} {M : P Rv} {q : Nat} (hf : Does g b n c L f rdR M q) (he : Enters f) (h : At w g b n c L i o) (hq : n ≤ q + i) :
    Calls Tryz.prog 196 #[.pointer (some ⟨g, 0, none⟩), .func (.func f) #[.pointer (some ⟨g, 0, none⟩)] #[]] w (Giv g b n c L (rdP rdR w.heap.size) w i 0 (pair L M i o)) := by
  have HF := Lib.hid hf
  have HX : Hid (∀ W j p, At W g b n c L j p → Calls Tryz.prog 99 #[.pointer (some ⟨g, 0, none⟩), .string ⟨#[44]⟩] W (Giv g b n c L rdU W j 1 (want L [44] j p))) := fun W j p hW => expect_x hW [44] (by decide)
  have HE : Hid (Enters f) := he
  have hsz := h.cs.size
  have hbz := h.hb
  generalize hr : pair L M i o = r
  unfold pair at hr
  have H1 := Lib.hid (fun W => fun hW : Below w.heap.size w W => hf W i o (h.new hW) hq)
  clear hf h he
  have b0 : Below w.heap.size w ((w.alloc (.cells #[.bool false, .slice none 0 0, .slice none 0 0] 50)).alloc (.cells #[.bool false, .slice none 0 0, .slice none 0 0] 50)) := (allocB w _).trans ((allocB _ _).mono (by simp))
  have x4 := (box_alloc w 50 #[.bool false, .slice none 0 0, .slice none 0 0]).new (allocB (w.alloc (.cells #[.bool false, .slice none 0 0, .slice none 0 0] 50)) (.cells #[.bool false, .slice none 0 0, .slice none 0 0] 50))
  have x5 := box_alloc (w.alloc (.cells #[.bool false, .slice none 0 0, .slice none 0 0] 50)) 50 #[.bool false, .slice none 0 0, .slice none 0 0]
  have z5 : (w.alloc (.cells #[.bool false, .slice none 0 0, .slice none 0 0] 50)).heap.size = w.heap.size + 1 := by simp
  rw [z5] at x5
  go_enter Tryz.func196, Tryz.ntmps196
  have hen : ∀ (args : Array Value) (W : World), (callFunc f args).run Tryz.prog W = .ok (.enter f args) W := HE.out
  go_wp2_with fail
  clear hen
  have H2 := Lib.hid (H1.out _ b0)
  have sz0 := b0.size
  have sz1 := x5.lt
  generalize (w.alloc (.cells #[.bool false, .slice none 0 0, .slice none 0 0] 50)).alloc (.cells #[.bool false, .slice none 0 0, .slice none 0 0] 50) = w0 at *
  refine H2.out.mono ?_
  rintro en w1 (⟨a, j, q1, v, hm, rfl, ⟨a0, a1, a2, rfl, hv⟩, hat, hle, hb⟩ | ⟨j, er, hm, rfl, hj, hb⟩)
  · rw [bd_ok hm] at hr
    have y4 := (x4.but hb (by omega)).new (allocB w1 (.cells #[a0, a1, a2] 50))
    have y5 := (x5.but hb (by omega)).new (allocB w1 (.cells #[a0, a1, a2] 50))
    have y6 := box_alloc w1 50 #[a0, a1, a2]
    have hat1 := hat.new (allocB w1 (.cells #[a0, a1, a2] 50))
    have HB1 : Hid (But g w (w1.alloc (.cells #[a0, a1, a2] 50))) := ((But.of_below b0).trans hb).trans (But.of_below (allocB w1 _))
    have HV1 : Hid (Rds (Fr w0.heap.size) (w1.alloc (.cells #[a0, a1, a2] 50)) a.d [a0, a1, a2]) := hv.keep (allocB w1 _).size (fun k _ hk => (allocB w1 _).block k hk) fun _ h _ => h
    have s1 := hb.size
    have ones : (#[a0, a1, a2] : Array Value).all (·.oneCell') = true := hv.all
    clear hm H1 H2 hat hv hb x4 x5
    go_wp2_with (refine wpList_store_row rfl 50 (.tmp 6) (.tmp 8) rfl w1.heap.size _ rfl rfl 50 _ (box_alloc w1 50 #[.bool false, .slice none 0 0, .slice none 0 0]) (by kernel_rfl) rfl ones ?_)
    rw [World.setRow_alloc_new]
    have s6 := y6.lt
    generalize w1.alloc (.cells #[a0, a1, a2] 50) = w1' at *
    refine (HX.out _ _ _ hat1).mono ?_
    rintro en w2 (⟨⟨⟩, j2, q2, v, hm, rfl, rfl, hat2, hle2, hb2⟩ | ⟨j2, er, hm, rfl, hj2, hb2⟩)
    · rw [bd_ok hm] at hr
      have s2 := hb2.size
      have H3 := Lib.hid (HF.out w2.drew j2 q2 (hat2.drewN 1) (by omega))
      have HB2 : Hid (But g w w2.drew) := (HB1.out.trans hb2).drewN 1
      have HV2 : Hid (Rds (Fr w0.heap.size) w2.drew a.d [a0, a1, a2]) := (HV1.out.lift hb2 (by omega) (Nat.le_refl _)).keep (Nat.le_refl _) (fun _ _ _ => rfl) fun _ h _ => h
      have z4 : Box w2.drew w.heap.size 50 #[.bool false, .slice none 0 0, .slice none 0 0] := (y4.but hb2 (by omega)).drewN 1
      have z5 : Box w2.drew (w.heap.size + 1) 50 #[.bool false, .slice none 0 0, .slice none 0 0] := (y5.but hb2 (by omega)).drewN 1
      have z6 : Box w2.drew w1.heap.size 50 #[a0, a1, a2] := (y6.but hb2 (by omega)).drewN 1
      have hen : ∀ (args : Array Value) (W : World), (callFunc f args).run Tryz.prog W = .ok (.enter f args) W := HE.out
      clear hm hat1 hb2 y4 y5 y6 HB1 HV1 hat2
      go_wp2
      refine wp_region_held_drew (S := fun W => Box W w1.heap.size 50 #[a0, a1, a2]) (by kernel_rfl) ?_ (fun hHeld => ?_)
      · exact z6
      refine tkH (i := 0) (oi := ⟨some 11, _, _, _, _, _⟩) (v := .agg #[a0, a1, a2]) (fun W hSw => Box.yield rfl rfl (hSw) rfl (by kernel_rfl)) ?_
      try simp only [Act.put, List.setIfInBounds_toArray, List.set_cons_zero, List.set_cons_succ]
      refine tkH (i := 1) (oi := ⟨some 12, _, _, _, _, _⟩) (v := ?_) ?_ ?_
      rotate_left
      · intro W hSw
        go_simp
        try with_reducible rfl
      try simp only [Act.put, List.setIfInBounds_toArray, List.set_cons_zero, List.set_cons_succ]
      refine wpAnyH_ready (rs := [2]) (by kernel_rfl) (by simp) ?_
      refine AllReadyH.cons (o := ⟨some 13, _, _, _, _, _⟩) rfl (fun K hK => ?_) AllReadyH.nil
      go_simp
      clear hHeld
      refine H3.out.mono ?_
      rintro en w3 (⟨x, j3, q3, v, hm, rfl, ⟨x0, x1, x2, rfl, hv⟩, hat3, hle3, hb3⟩ | ⟨j3, er, hm, rfl, hj3, hb3⟩)
      rotate_left
      · rw [bd_no hm] at hr
        exact post_panic rfl (Or.inr ⟨j3, er, hr.symm, rfl, hj3, HB2.out.trans hb3⟩)
      rw [bd_ok hm] at hr
      have s3 := hb3.size
      have y4 := z4.but hb3 (by omega)
      have y5 := z5.but hb3 (by omega)
      have y6 := z6.but hb3 (by omega)
      have ones3 : (#[x0, x1, x2] : Array Value).all (·.oneCell') = true := hv.all
      refine hK.out _ _ (y6) (fun hHeld => ?_)
      clear hK K
      try simp only [Act.put, List.setIfInBounds_toArray, List.set_cons_zero, List.set_cons_succ]
      refine wpAnyH_ready (rs := [3]) (by kernel_rfl) (by simp) ?_
      refine AllReadyH.cons (o := ⟨none, _, _, _, _, _⟩) rfl (fun K hK => ?_) AllReadyH.nil
      rw [if_pos (by rfl)]
      refine wp_store_row 50 (.tmp 4) (.tmp 11) rfl (w.heap.size) _ rfl rfl 50 _ (y4) (by kernel_rfl) rfl (ones) ?_
      refine hK.out _ _ (y6.other _ (by omega)) (fun hHeld => ?_)
      clear hK K
      try simp only [Act.put]
      refine wpAnyH_ready (rs := [4]) (by kernel_rfl) (by simp) ?_
      refine AllReadyH.cons (o := ⟨none, _, _, _, _, _⟩) rfl (fun K hK => ?_) AllReadyH.nil
      rw [if_pos (by rfl)]
      refine wp_store_row 50 (.tmp 5) (.tmp 13) rfl (w.heap.size + 1) _ rfl rfl 50 _ (y5.other _ (by omega)) (by kernel_rfl) rfl (ones3) ?_
      refine hK.out _ _ ((y6.other _ (by omega)).other _ (by omega)) (fun hHeld => ?_)
      clear hK K
      try simp only [Act.put]
      refine wpAnyH_done (by kernel_rfl) ?_ _
      go_wp2
      refine bodyPost_ret (results_two rfl _ _ rfl rfl ((y4.set _).other _ (by omega)) ((y5.other _ (by omega)).set _) rfl rfl (by kernel_rfl) (by kernel_rfl)) rfl ?_
      have HBF : But g w ((w3.setRow w.heap.size #[a0, a1, a2]).setRow (w.heap.size + 1) #[x0, x1, x2]) := But.row (But.row (HB2.out.trans hb3) (by omega) _) (by omega) _
      have bz : Below w0.heap.size w0 w0 := Below.refl _ _
      have HVF : Rds (Fr w.heap.size) ((w3.setRow w.heap.size #[a0, a1, a2]).setRow (w.heap.size + 1) #[x0, x1, x2]) a.d [a0, a1, a2] := by
        refine (HV2.out.keep (S' := Fr w0.heap.size) ?_ ?_ (fun _ h _ => h)).in (fun k hk => by simp [Fr] at hk ⊢; omega)
        · rw [size_row, size_row]; exact s3
        · intro k hk hlt
          simp [Fr] at hk
          rw [setRow_other _ _ _ _ (by omega), setRow_other _ _ _ _ (by omega)]
          exact hb3.block k hlt (by omega)
      have HVX : Rds (Fr w.heap.size) ((w3.setRow w.heap.size #[a0, a1, a2]).setRow (w.heap.size + 1) #[x0, x1, x2]) x.d [x0, x1, x2] := by
        refine (hv.keep (S' := Fr w2.drew.heap.size) ?_ ?_ (fun _ h _ => h)).in (fun k hk => by simp [Fr] at hk ⊢; omega)
        · rw [size_row, size_row]; exact Nat.le_refl _
        · intro k hk hlt
          simp [Fr] at hk
          rw [setRow_other _ _ _ _ (by omega), setRow_other _ _ _ _ (by omega)]
      have HATF : At ((w3.setRow w.heap.size #[a0, a1, a2]).setRow (w.heap.size + 1) #[x0, x1, x2]) g b n c L j3 q3 :=
        hat3.below (B := w.heap.size) (below_row (below_row (Below.refl _ _) (by omega) _) (by omega) _) hsz hbz
      exact Or.inl ⟨(a, x), j3, q3, _, hr.symm, rfl, ⟨_, _, rfl, ⟨_, _, _, rfl, HVF⟩, ⟨_, _, _, rfl, HVX⟩⟩, HATF, by omega, HBF⟩
    · rw [bd_no hm] at hr
      go_wp2
      exact post_panic rfl (Or.inr ⟨j2, er, hr.symm, rfl, hj2, HB1.out.trans hb2⟩)
  · rw [bd_no hm] at hr
    go_wp2
    exact post_panic rfl (Or.inr ⟨j, er, hr.symm, rfl, hj, (But.of_below b0).trans hb⟩)

set_option maxHeartbeats 16000000 in
theorem draw_x (hfr : FrOk g b n c L) {X : P Ex} {q : Nat} (hx : Does g b n c L 166 rdE X q) : Does g b n c L 181 rdDr (drawE L X) q := by
  intro w i o h hq
  generalize hr : drawE L X i o = r
  unfold drawE at hr
  have hsz := h.cs.size
  have hbz := h.hb
  have b0 : Below w.heap.size w ((w.alloc (.cells #[.int .i64 0, .int .i64 0, .int .i64 0, .bool false, .slice none 0 0, .slice none 0 0, .bool false, .slice none 0 0, .slice none 0 0, .slice none 0 0, .string ⟨#[]⟩] 59)).alloc (.cells #[.int .i64 0, .int .i64 0, .int .i64 0, .bool false, .slice none 0 0, .slice none 0 0, .bool false, .slice none 0 0, .slice none 0 0, .slice none 0 0, .string ⟨#[]⟩] 59)) := (allocB w _).trans ((allocB _ _).mono (by simp))
  have x0 := (box_alloc w 59 #[.int .i64 0, .int .i64 0, .int .i64 0, .bool false, .slice none 0 0, .slice none 0 0, .bool false, .slice none 0 0, .slice none 0 0, .slice none 0 0, .string ⟨#[]⟩]).new (allocB (w.alloc (.cells #[.int .i64 0, .int .i64 0, .int .i64 0, .bool false, .slice none 0 0, .slice none 0 0, .bool false, .slice none 0 0, .slice none 0 0, .slice none 0 0, .string ⟨#[]⟩] 59)) (.cells #[.int .i64 0, .int .i64 0, .int .i64 0, .bool false, .slice none 0 0, .slice none 0 0, .bool false, .slice none 0 0, .slice none 0 0, .slice none 0 0, .string ⟨#[]⟩] 59))
  have xe0 := box_alloc (w.alloc (.cells #[.int .i64 0, .int .i64 0, .int .i64 0, .bool false, .slice none 0 0, .slice none 0 0, .bool false, .slice none 0 0, .slice none 0 0, .slice none 0 0, .string ⟨#[]⟩] 59)) 59 #[.int .i64 0, .int .i64 0, .int .i64 0, .bool false, .slice none 0 0, .slice none 0 0, .bool false, .slice none 0 0, .slice none 0 0, .slice none 0 0, .string ⟨#[]⟩]
  rw [show (w.alloc (.cells #[.int .i64 0, .int .i64 0, .int .i64 0, .bool false, .slice none 0 0, .slice none 0 0, .bool false, .slice none 0 0, .slice none 0 0, .slice none 0 0, .string ⟨#[]⟩] 59)).heap.size = w.heap.size + 1 by simp] at xe0
  have at0 := h.new b0
  have hs0 : w.heap.size + 2 ≤ ((w.alloc (.cells #[.int .i64 0, .int .i64 0, .int .i64 0, .bool false, .slice none 0 0, .slice none 0 0, .bool false, .slice none 0 0, .slice none 0 0, .slice none 0 0, .string ⟨#[]⟩] 59)).alloc (.cells #[.int .i64 0, .int .i64 0, .int .i64 0, .bool false, .slice none 0 0, .slice none 0 0, .bool false, .slice none 0 0, .slice none 0 0, .slice none 0 0, .string ⟨#[]⟩] 59)).heap.size := by simp
  have hB0 : But g w ((w.alloc (.cells #[.int .i64 0, .int .i64 0, .int .i64 0, .bool false, .slice none 0 0, .slice none 0 0, .bool false, .slice none 0 0, .slice none 0 0, .slice none 0 0, .string ⟨#[]⟩] 59)).alloc (.cells #[.int .i64 0, .int .i64 0, .int .i64 0, .bool false, .slice none 0 0, .slice none 0 0, .bool false, .slice none 0 0, .slice none 0 0, .slice none 0 0, .string ⟨#[]⟩] 59)) := But.of_below b0
  clear h b0
  have HA := HA_ (g := g) (b := b) (n := n) (c := c) (L := L)
  have HO := HO_ (g := g) (b := b) (n := n) (c := c) (L := L)
  have HW := HW_ (g := g) (b := b) (n := n) (c := c) (L := L)
  have HX := Lib.hid hx
  have HFR := Lib.hid hfr
  have HNM : Hid (∀ W j q, At W g b n c L j q → Calls Tryz.prog 98 #[.pointer (some ⟨g, 0, none⟩)] W (Giv g b n c L rdS W j 1 (name L j q))) := fun W j q hW => name_x hW
  have HNU : Hid (∀ W j q, At W g b n c L j q → Calls Tryz.prog 164 #[.pointer (some ⟨g, 0, none⟩)] W (Giv g b n c L (rdN W.heap.size) W j 1 (number L j q))) := fun W j q hW => number_x hW
  have HIN : Hid (∀ W j q, At W g b n c L j q → Calls Tryz.prog 163 #[.pointer (some ⟨g, 0, none⟩)] W (Giv g b n c L (rdN W.heap.size) W j 1 (integer L j q))) := fun W j q hW => integer_x hW
  have HPI : Hid (∀ W j p, At W g b n c L j p → Calls Tryz.prog 162 #[.pointer (some ⟨g, 0, none⟩), .func (.func 163) #[.pointer (some ⟨g, 0, none⟩)] #[]] W (Giv g b n c L (rdP rdN W.heap.size) W j 0 (pair L (integer L) j p))) := fun W j p hW => pairInt_x (q := n) (fun w i o h _ => (integer_x h).mono fun _ _ hh => hh.weak (Nat.zero_le _)) en_integer hW (by omega)
  have HPN : Hid (∀ W j p, At W g b n c L j p → Calls Tryz.prog 162 #[.pointer (some ⟨g, 0, none⟩), .func (.func 164) #[.pointer (some ⟨g, 0, none⟩)] #[]] W (Giv g b n c L (rdP rdN W.heap.size) W j 0 (pair L (number L) j p))) := fun W j p hW => pairInt_x (q := n) (fun w i o h _ => (number_x h).mono fun _ _ hh => hh.weak (Nat.zero_le _)) en_number hW (by omega)
  have HPR : Hid ((∃ t ∈ L, t.t = [103, 101, 111, 109, 101, 116, 114, 105, 99] ∨ t.t = [105, 110, 116, 101, 114, 118, 97, 108]) → ∀ W j p, At W g b n c L j p → Calls Tryz.prog 196 #[.pointer (some ⟨g, 0, none⟩), .func (.func 195) #[.pointer (some ⟨g, 0, none⟩)] #[]] W (Giv g b n c L (rdP rdR W.heap.size) W j 0 (pair L (fraction L) j p))) := fun hd W j p hW => pairRat_x (q := n) (fun w i o h _ => (hfr w i o h (.inr hd)).mono fun _ _ hh => hh.weak (Nat.zero_le _)) en_fraction hW (by omega)
  have HL : Hid (∀ W j p, At W g b n c L j p → n ≤ q + j → Calls Tryz.prog 194 #[.pointer (some ⟨g, 0, none⟩), .func (.func 166) #[.pointer (some ⟨g, 0, none⟩)] #[]] W (Giv g b n c L (rdL 7 Ex.d W.heap.size) W j 0 (list L X j p))) := fun W j p hW hj => listExpr_x hx en_expr hW hj
  have HF : Hid (∀ W j p, At W g b n c L j p → Calls Tryz.prog 125 #[.pointer (some ⟨g, 0, none⟩), .int .i64 4] W fun en w' => en = .returned (.agg #[.int .i64 (tkn L j).ln, .int .i64 (tkn L j).co, .int .i64 4]) ∧ Below W.heap.size W w') := fun W j p hW => failure_x hW 4
  clear hx hfr
  go_enter Tryz.func181, Tryz.ntmps181
  go_wp2_with fail
  generalize ((w.alloc (.cells #[.int .i64 0, .int .i64 0, .int .i64 0, .bool false, .slice none 0 0, .slice none 0 0, .bool false, .slice none 0 0, .slice none 0 0, .slice none 0 0, .string ⟨#[]⟩] 59)).alloc (.cells #[.int .i64 0, .int .i64 0, .int .i64 0, .bool false, .slice none 0 0, .slice none 0 0, .bool false, .slice none 0 0, .slice none 0 0, .slice none 0 0, .string ⟨#[]⟩] 59)) = W0 at *
  refine (HA.out _ _ _ [112, 111, 115, 116, 101, 114, 105, 111, 114] (by decide) at0).mono ?_
  rintro en W2 (⟨t1, j3, q4, v11, hm5, rfl, rfl, hat6, hle7, hb8⟩ | ⟨j3, er9, hm5, rfl, hj10, hb8⟩)
  rotate_left
  · rw [bd_no hm5] at hr
    go_wp2
    exact post_panic (fn := Tryz.f181) rfl (Or.inr ⟨j3, er9, hr.symm, rfl, hj10, But.trans hB0 hb8⟩)
  rw [bd_ok hm5] at hr
  have at12 := hat6
  have hB13 : But g w W2 := But.trans hB0 hb8
  have x14 := x0.but hb8 (by omega)
  have x15 := xe0.but hb8 (by omega)
  have hs16 : w.heap.size + 2 ≤ W2.heap.size := Nat.le_trans hs0 hb8.size
  clear hat6 hB0 x0 xe0
  cases t1
  · simp only [Bool.false_eq_true, if_false] at hr
    obtain ⟨rfl, rfl, _⟩ := acc_not hm5
    clear hm5
    go_wp2_with fail
    refine (HO.out _ _ _ [102, 108, 105, 112] (by decide) at12).mono ?_
    rintro en W18 (⟨t17, j19, q20, v27, hm21, rfl, rfl, hat22, hle23, hb24⟩ | ⟨j19, er25, hm21, rfl, hj26, hb24⟩)
    rotate_left
    · rw [bd_no hm21] at hr
      go_wp2
      exact post_panic (fn := Tryz.f181) rfl (Or.inr ⟨j19, er25, hr.symm, rfl, hj26, But.trans hB13 hb24⟩)
    rw [bd_ok hm21] at hr
    have at28 := hat22
    have hB29 : But g w W18 := But.trans hB13 hb24
    have x30 := x14.but hb24 (by omega)
    have x31 := x15.but hb24 (by omega)
    have hs32 : w.heap.size + 2 ≤ W18.heap.size := Nat.le_trans hs16 hb24.size
    clear hat22 hB13 x14 x15
    cases t17
    · simp only [Bool.false_eq_true, if_false] at hr
      obtain ⟨rfl, rfl⟩ := opn_not hm21
      clear hm21
      go_wp2_with fail
      refine (HO.out _ _ _ [117, 110, 105, 102, 111, 114, 109] (by decide) at28).mono ?_
      rintro en W34 (⟨t33, j35, q36, v43, hm37, rfl, rfl, hat38, hle39, hb40⟩ | ⟨j35, er41, hm37, rfl, hj42, hb40⟩)
      rotate_left
      · rw [bd_no hm37] at hr
        go_wp2
        exact post_panic (fn := Tryz.f181) rfl (Or.inr ⟨j35, er41, hr.symm, rfl, hj42, But.trans hB29 hb40⟩)
      rw [bd_ok hm37] at hr
      have at44 := hat38
      have hB45 : But g w W34 := But.trans hB29 hb40
      have x46 := x30.but hb40 (by omega)
      have x47 := x31.but hb40 (by omega)
      have hs48 : w.heap.size + 2 ≤ W34.heap.size := Nat.le_trans hs32 hb40.size
      clear hat38 hB29 x30 x31
      cases t33
      · simp only [Bool.false_eq_true, if_false] at hr
        obtain ⟨rfl, rfl⟩ := opn_not hm37
        clear hm37
        go_wp2_with fail
        refine (HO.out _ _ _ [116, 97, 98, 108, 101] (by decide) at44).mono ?_
        rintro en W50 (⟨t49, j51, q52, v59, hm53, rfl, rfl, hat54, hle55, hb56⟩ | ⟨j51, er57, hm53, rfl, hj58, hb56⟩)
        rotate_left
        · rw [bd_no hm53] at hr
          go_wp2
          exact post_panic (fn := Tryz.f181) rfl (Or.inr ⟨j51, er57, hr.symm, rfl, hj58, But.trans hB45 hb56⟩)
        rw [bd_ok hm53] at hr
        have at60 := hat54
        have hB61 : But g w W50 := But.trans hB45 hb56
        have x62 := x46.but hb56 (by omega)
        have x63 := x47.but hb56 (by omega)
        have hs64 : w.heap.size + 2 ≤ W50.heap.size := Nat.le_trans hs48 hb56.size
        clear hat54 hB45 x46 x47
        cases t49
        · simp only [Bool.false_eq_true, if_false] at hr
          obtain ⟨rfl, rfl⟩ := opn_not hm53
          clear hm53
          go_wp2_with fail
          refine (HO.out _ _ _ [98, 105, 110, 111, 109, 105, 97, 108] (by decide) at60).mono ?_
          rintro en W66 (⟨t65, j67, q68, v75, hm69, rfl, rfl, hat70, hle71, hb72⟩ | ⟨j67, er73, hm69, rfl, hj74, hb72⟩)
          rotate_left
          · rw [bd_no hm69] at hr
            go_wp2
            exact post_panic (fn := Tryz.f181) rfl (Or.inr ⟨j67, er73, hr.symm, rfl, hj74, But.trans hB61 hb72⟩)
          rw [bd_ok hm69] at hr
          have at76 := hat70
          have hB77 : But g w W66 := But.trans hB61 hb72
          have x78 := x62.but hb72 (by omega)
          have x79 := x63.but hb72 (by omega)
          have hs80 : w.heap.size + 2 ≤ W66.heap.size := Nat.le_trans hs64 hb72.size
          clear hat70 hB61 x62 x63
          cases t65
          · simp only [Bool.false_eq_true, if_false] at hr
            obtain ⟨rfl, rfl⟩ := opn_not hm69
            clear hm69
            have HMEM := Lib.hid at76.mem
            go_wp2_with fail
            refine (HO.out _ _ _ [103, 101, 111, 109, 101, 116, 114, 105, 99] (by decide) at76).mono ?_
            rintro en W82 (⟨t81, j83, q84, v91, hm85, rfl, rfl, hat86, hle87, hb88⟩ | ⟨j83, er89, hm85, rfl, hj90, hb88⟩)
            rotate_left
            · rw [bd_no hm85] at hr
              go_wp2
              exact post_panic (fn := Tryz.f181) rfl (Or.inr ⟨j83, er89, hr.symm, rfl, hj90, But.trans hB77 hb88⟩)
            rw [bd_ok hm85] at hr
            have at92 := hat86
            have hB93 : But g w W82 := But.trans hB77 hb88
            have x94 := x78.but hb88 (by omega)
            have x95 := x79.but hb88 (by omega)
            have hs96 : w.heap.size + 2 ≤ W82.heap.size := Nat.le_trans hs80 hb88.size
            clear hat86 hB77 x78 x79
            cases t81
            · simp only [Bool.false_eq_true, if_false] at hr
              obtain ⟨rfl, rfl⟩ := opn_not hm85
              clear hm85
              have HMEM := Lib.hid at92.mem
              go_wp2_with fail
              refine (HO.out _ _ _ [105, 110, 116, 101, 114, 118, 97, 108] (by decide) at92).mono ?_
              rintro en W98 (⟨t97, j99, q100, v107, hm101, rfl, rfl, hat102, hle103, hb104⟩ | ⟨j99, er105, hm101, rfl, hj106, hb104⟩)
              rotate_left
              · rw [bd_no hm101] at hr
                go_wp2
                exact post_panic (fn := Tryz.f181) rfl (Or.inr ⟨j99, er105, hr.symm, rfl, hj106, But.trans hB93 hb104⟩)
              rw [bd_ok hm101] at hr
              have at108 := hat102
              have hB109 : But g w W98 := But.trans hB93 hb104
              have x110 := x94.but hb104 (by omega)
              have x111 := x95.but hb104 (by omega)
              have hs112 : w.heap.size + 2 ≤ W98.heap.size := Nat.le_trans hs96 hb104.size
              clear hat102 hB93 x94 x95
              cases t97
              · simp only [Bool.false_eq_true, if_false] at hr
                obtain ⟨rfl, rfl⟩ := opn_not hm101
                clear hm101
                go_wp2_with fail
                refine (HO.out _ _ _ [98, 101, 116, 97] (by decide) at108).mono ?_
                rintro en W114 (⟨t113, j115, q116, v123, hm117, rfl, rfl, hat118, hle119, hb120⟩ | ⟨j115, er121, hm117, rfl, hj122, hb120⟩)
                rotate_left
                · rw [bd_no hm117] at hr
                  go_wp2
                  exact post_panic (fn := Tryz.f181) rfl (Or.inr ⟨j115, er121, hr.symm, rfl, hj122, But.trans hB109 hb120⟩)
                rw [bd_ok hm117] at hr
                have at124 := hat118
                have hB125 : But g w W114 := But.trans hB109 hb120
                have x126 := x110.but hb120 (by omega)
                have x127 := x111.but hb120 (by omega)
                have hs128 : w.heap.size + 2 ≤ W114.heap.size := Nat.le_trans hs112 hb120.size
                clear hat118 hB109 x110 x111
                cases t113
                · simp only [Bool.false_eq_true, if_false] at hr
                  obtain ⟨rfl, rfl⟩ := opn_not hm117
                  clear hm117
                  go_wp2_with fail
                  refine (HF.out _ _ _ at124).mono ?_
                  rintro en W9 ⟨rfl, hb9⟩
                  go_wp2
                  exact post_panic (fn := Tryz.f181) rfl (Or.inr ⟨_, 4, hr.symm, rfl, at124.hi, But.trans hB125 (But.of_below hb9)⟩)
                · simp only [if_true] at hr
                  have hop129 := opn_yes hm117
                  clear hm117
                  have pc0 := box_cell x127 0 (.int .i64 0) rfl
                  have pf0 := Box.fr x127 0
                  go_wp2_with fail
                  clear pc0 pf0
                  have ec131 : W114.setCell ⟨w.heap.size + 1, 0, none⟩ (.int .i64 7) = W114.setRow (w.heap.size + 1) #[.int .i64 7, .int .i64 0, .int .i64 0, .bool false, .slice none 0 0, .slice none 0 0, .bool false, .slice none 0 0, .slice none 0 0, .slice none 0 0, .string ⟨#[]⟩] := Box.cell_row x127 0 (.int .i64 7)
                  rw [ec131]
                  clear ec131
                  have hzW130 : W114.heap.size ≤ (W114.setRow (w.heap.size + 1) #[.int .i64 7, .int .i64 0, .int .i64 0, .bool false, .slice none 0 0, .slice none 0 0, .bool false, .slice none 0 0, .slice none 0 0, .slice none 0 0, .string ⟨#[]⟩]).heap.size := by rw [size_row]; exact Nat.le_refl _
                  have at132 := at124.row #[.int .i64 7, .int .i64 0, .int .i64 0, .bool false, .slice none 0 0, .slice none 0 0, .bool false, .slice none 0 0, .slice none 0 0, .slice none 0 0, .string ⟨#[]⟩] (k := w.heap.size + 1) (by omega) (by omega)
                  have hB133 : But g w (W114.setRow (w.heap.size + 1) #[.int .i64 7, .int .i64 0, .int .i64 0, .bool false, .slice none 0 0, .slice none 0 0, .bool false, .slice none 0 0, .slice none 0 0, .slice none 0 0, .string ⟨#[]⟩]) := But.row hB125 (by omega) _
                  have x134 := x126.other (j := w.heap.size + 1) #[.int .i64 7, .int .i64 0, .int .i64 0, .bool false, .slice none 0 0, .slice none 0 0, .bool false, .slice none 0 0, .slice none 0 0, .slice none 0 0, .string ⟨#[]⟩] (by omega)
                  have x135 := x127.set #[.int .i64 7, .int .i64 0, .int .i64 0, .bool false, .slice none 0 0, .slice none 0 0, .bool false, .slice none 0 0, .slice none 0 0, .slice none 0 0, .string ⟨#[]⟩]
                  have hs136 : w.heap.size + 2 ≤ (W114.setRow (w.heap.size + 1) #[.int .i64 7, .int .i64 0, .int .i64 0, .bool false, .slice none 0 0, .slice none 0 0, .bool false, .slice none 0 0, .slice none 0 0, .slice none 0 0, .string ⟨#[]⟩]).heap.size := Nat.le_trans hs128 hzW130
                  clear hzW130 at124 hB125 x126 x127
                  generalize W114.setRow (w.heap.size + 1) #[.int .i64 7, .int .i64 0, .int .i64 0, .bool false, .slice none 0 0, .slice none 0 0, .bool false, .slice none 0 0, .slice none 0 0, .slice none 0 0, .string ⟨#[]⟩] = W130 at *
                  refine (HPN.out _ _ _ at132).mono ?_
                  rintro en W137 (⟨p, j138, q139, v146, hm140, rfl, ⟨_, _, rfl, rfl, rfl⟩, hat141, hle142, hb143⟩ | ⟨j138, er144, hm140, rfl, hj145, hb143⟩)
                  rotate_left
                  · rw [bd_no hm140] at hr
                    go_wp2
                    exact post_panic (fn := Tryz.f181) rfl (Or.inr ⟨j138, er144, hr.symm, rfl, hj145, But.trans hB133 hb143⟩)
                  rw [bd_ok hm140] at hr
                  have at147 := hat141
                  have hB148 : But g w W137 := But.trans hB133 hb143
                  have x149 := x134.but hb143 (by omega)
                  have x150 := x135.but hb143 (by omega)
                  have hs151 : w.heap.size + 2 ≤ W137.heap.size := Nat.le_trans hs136 hb143.size
                  clear hat141 hB133 x134 x135
                  have pc1 := box_cell x150 1 (.int .i64 0) rfl
                  have pf1 := Box.fr x150 1
                  have pc2 := box_cell x150 2 (.int .i64 0) rfl
                  have pf2 := Box.fr x150 2
                  go_wp2_with fail
                  clear pc1 pf1 pc2 pf2
                  have ec153 : W137.setCell ⟨w.heap.size + 1, 1, none⟩ (.int .i64 p.1) = W137.setRow (w.heap.size + 1) #[.int .i64 7, .int .i64 p.1, .int .i64 0, .bool false, .slice none 0 0, .slice none 0 0, .bool false, .slice none 0 0, .slice none 0 0, .slice none 0 0, .string ⟨#[]⟩] := Box.cell_row x150 1 (.int .i64 p.1)
                  rw [ec153]
                  clear ec153
                  have hzW152 : W137.heap.size ≤ (W137.setRow (w.heap.size + 1) #[.int .i64 7, .int .i64 p.1, .int .i64 0, .bool false, .slice none 0 0, .slice none 0 0, .bool false, .slice none 0 0, .slice none 0 0, .slice none 0 0, .string ⟨#[]⟩]).heap.size := by rw [size_row]; exact Nat.le_refl _
                  have at154 := at147.row #[.int .i64 7, .int .i64 p.1, .int .i64 0, .bool false, .slice none 0 0, .slice none 0 0, .bool false, .slice none 0 0, .slice none 0 0, .slice none 0 0, .string ⟨#[]⟩] (k := w.heap.size + 1) (by omega) (by omega)
                  have hB155 : But g w (W137.setRow (w.heap.size + 1) #[.int .i64 7, .int .i64 p.1, .int .i64 0, .bool false, .slice none 0 0, .slice none 0 0, .bool false, .slice none 0 0, .slice none 0 0, .slice none 0 0, .string ⟨#[]⟩]) := But.row hB148 (by omega) _
                  have x156 := x149.other (j := w.heap.size + 1) #[.int .i64 7, .int .i64 p.1, .int .i64 0, .bool false, .slice none 0 0, .slice none 0 0, .bool false, .slice none 0 0, .slice none 0 0, .slice none 0 0, .string ⟨#[]⟩] (by omega)
                  have x157 := x150.set #[.int .i64 7, .int .i64 p.1, .int .i64 0, .bool false, .slice none 0 0, .slice none 0 0, .bool false, .slice none 0 0, .slice none 0 0, .slice none 0 0, .string ⟨#[]⟩]
                  have hs158 : w.heap.size + 2 ≤ (W137.setRow (w.heap.size + 1) #[.int .i64 7, .int .i64 p.1, .int .i64 0, .bool false, .slice none 0 0, .slice none 0 0, .bool false, .slice none 0 0, .slice none 0 0, .slice none 0 0, .string ⟨#[]⟩]).heap.size := Nat.le_trans hs151 hzW152
                  clear hzW152 at147 hB148 x149 x150
                  generalize W137.setRow (w.heap.size + 1) #[.int .i64 7, .int .i64 p.1, .int .i64 0, .bool false, .slice none 0 0, .slice none 0 0, .bool false, .slice none 0 0, .slice none 0 0, .slice none 0 0, .string ⟨#[]⟩] = W152 at *
                  have ec160 : W152.setCell ⟨w.heap.size + 1, 2, none⟩ (.int .i64 p.2) = W152.setRow (w.heap.size + 1) #[.int .i64 7, .int .i64 p.1, .int .i64 p.2, .bool false, .slice none 0 0, .slice none 0 0, .bool false, .slice none 0 0, .slice none 0 0, .slice none 0 0, .string ⟨#[]⟩] := Box.cell_row x157 2 (.int .i64 p.2)
                  rw [ec160]
                  clear ec160
                  have hzW159 : W152.heap.size ≤ (W152.setRow (w.heap.size + 1) #[.int .i64 7, .int .i64 p.1, .int .i64 p.2, .bool false, .slice none 0 0, .slice none 0 0, .bool false, .slice none 0 0, .slice none 0 0, .slice none 0 0, .string ⟨#[]⟩]).heap.size := by rw [size_row]; exact Nat.le_refl _
                  have at161 := at154.row #[.int .i64 7, .int .i64 p.1, .int .i64 p.2, .bool false, .slice none 0 0, .slice none 0 0, .bool false, .slice none 0 0, .slice none 0 0, .slice none 0 0, .string ⟨#[]⟩] (k := w.heap.size + 1) (by omega) (by omega)
                  have hB162 : But g w (W152.setRow (w.heap.size + 1) #[.int .i64 7, .int .i64 p.1, .int .i64 p.2, .bool false, .slice none 0 0, .slice none 0 0, .bool false, .slice none 0 0, .slice none 0 0, .slice none 0 0, .string ⟨#[]⟩]) := But.row hB155 (by omega) _
                  have x163 := x156.other (j := w.heap.size + 1) #[.int .i64 7, .int .i64 p.1, .int .i64 p.2, .bool false, .slice none 0 0, .slice none 0 0, .bool false, .slice none 0 0, .slice none 0 0, .slice none 0 0, .string ⟨#[]⟩] (by omega)
                  have x164 := x157.set #[.int .i64 7, .int .i64 p.1, .int .i64 p.2, .bool false, .slice none 0 0, .slice none 0 0, .bool false, .slice none 0 0, .slice none 0 0, .slice none 0 0, .string ⟨#[]⟩]
                  have hs165 : w.heap.size + 2 ≤ (W152.setRow (w.heap.size + 1) #[.int .i64 7, .int .i64 p.1, .int .i64 p.2, .bool false, .slice none 0 0, .slice none 0 0, .bool false, .slice none 0 0, .slice none 0 0, .slice none 0 0, .string ⟨#[]⟩]).heap.size := Nat.le_trans hs158 hzW159
                  clear hzW159 at154 hB155 x156 x157
                  generalize W152.setRow (w.heap.size + 1) #[.int .i64 7, .int .i64 p.1, .int .i64 p.2, .bool false, .slice none 0 0, .slice none 0 0, .bool false, .slice none 0 0, .slice none 0 0, .slice none 0 0, .string ⟨#[]⟩] = W159 at *
                  have hd := dr_rds (Q := Fr (w.heap.size + 2)) (w := W159) 7 p.1 p.2 [] [] zero_rds zero_rds nil_rd
                  refine (HW.out _ _ _ [41] (by decide) at161).mono ?_
                  rintro en W166 (⟨⟨⟩, j167, q168, v175, hm169, rfl, rfl, hat170, hle171, hb172⟩ | ⟨j167, er173, hm169, rfl, hj174, hb172⟩)
                  rotate_left
                  · rw [bd_no hm169] at hr
                    go_wp2
                    exact post_panic (fn := Tryz.f181) rfl (Or.inr ⟨j167, er173, hr.symm, rfl, hj174, But.trans hB162 hb172⟩)
                  rw [bd_ok hm169] at hr
                  have at176 := hat170
                  have hB177 : But g w W166 := But.trans hB162 hb172
                  have x178 := x163.but hb172 (by omega)
                  have x179 := x164.but hb172 (by omega)
                  have d180 := hd.but hb172 (by simp [Fr]; omega)
                  have hs181 : w.heap.size + 2 ≤ W166.heap.size := Nat.le_trans hs165 hb172.size
                  clear hat170 hB162 x163 x164 hd
                  clear hm169
                  have onesF := Rds.all d180
                  go_wp2_with (first | (refine wpList_load_row rfl 59 (.tmp 3) rfl (w.heap.size + 1) rfl 59 _ (0, 0) (.struct _) x179 rfl rfl (by kernel_rfl) ?_) | (refine wpList_store_row rfl 59 (.tmp 2) (.tmp 92) rfl w.heap.size _ rfl rfl 59 _ x178 (by kernel_rfl) rfl onesF ?_))
                  refine bodyPost_ret (results_cell_row rfl _ _ w.heap.size _ _ _ (.struct _) rfl (x178.set _) rfl rfl (by kernel_rfl)) rfl ?_
                  exact Or.inl ⟨⟨7, p.1, p.2, .zero, .zero, [], []⟩, j167, q168, _, hr.symm, rfl, ⟨_, _, _, _, _, _, _, _, _, _, _, rfl, (d180.row (by simp [Fr]) _).in fun k hk => by simp [Fr] at hk ⊢; omega⟩, at176.row _ hsz hbz, by omega, But.row hB177 (Nat.le_refl _) _⟩
              · simp only [if_true] at hr
                have hop182 := opn_yes hm101
                have htok := opn_tok hm101
                clear hm101
                have pc0 := box_cell x111 0 (.int .i64 0) rfl
                have pf0 := Box.fr x111 0
                go_wp2_with fail
                clear pc0 pf0
                have ec184 : W98.setCell ⟨w.heap.size + 1, 0, none⟩ (.int .i64 6) = W98.setRow (w.heap.size + 1) #[.int .i64 6, .int .i64 0, .int .i64 0, .bool false, .slice none 0 0, .slice none 0 0, .bool false, .slice none 0 0, .slice none 0 0, .slice none 0 0, .string ⟨#[]⟩] := Box.cell_row x111 0 (.int .i64 6)
                rw [ec184]
                clear ec184
                have hzW183 : W98.heap.size ≤ (W98.setRow (w.heap.size + 1) #[.int .i64 6, .int .i64 0, .int .i64 0, .bool false, .slice none 0 0, .slice none 0 0, .bool false, .slice none 0 0, .slice none 0 0, .slice none 0 0, .string ⟨#[]⟩]).heap.size := by rw [size_row]; exact Nat.le_refl _
                have at185 := at108.row #[.int .i64 6, .int .i64 0, .int .i64 0, .bool false, .slice none 0 0, .slice none 0 0, .bool false, .slice none 0 0, .slice none 0 0, .slice none 0 0, .string ⟨#[]⟩] (k := w.heap.size + 1) (by omega) (by omega)
                have hB186 : But g w (W98.setRow (w.heap.size + 1) #[.int .i64 6, .int .i64 0, .int .i64 0, .bool false, .slice none 0 0, .slice none 0 0, .bool false, .slice none 0 0, .slice none 0 0, .slice none 0 0, .string ⟨#[]⟩]) := But.row hB109 (by omega) _
                have x187 := x110.other (j := w.heap.size + 1) #[.int .i64 6, .int .i64 0, .int .i64 0, .bool false, .slice none 0 0, .slice none 0 0, .bool false, .slice none 0 0, .slice none 0 0, .slice none 0 0, .string ⟨#[]⟩] (by omega)
                have x188 := x111.set #[.int .i64 6, .int .i64 0, .int .i64 0, .bool false, .slice none 0 0, .slice none 0 0, .bool false, .slice none 0 0, .slice none 0 0, .slice none 0 0, .string ⟨#[]⟩]
                have hs189 : w.heap.size + 2 ≤ (W98.setRow (w.heap.size + 1) #[.int .i64 6, .int .i64 0, .int .i64 0, .bool false, .slice none 0 0, .slice none 0 0, .bool false, .slice none 0 0, .slice none 0 0, .slice none 0 0, .string ⟨#[]⟩]).heap.size := Nat.le_trans hs112 hzW183
                clear hzW183 at108 hB109 x110 x111
                generalize W98.setRow (w.heap.size + 1) #[.int .i64 6, .int .i64 0, .int .i64 0, .bool false, .slice none 0 0, .slice none 0 0, .bool false, .slice none 0 0, .slice none 0 0, .slice none 0 0, .string ⟨#[]⟩] = W183 at *
                refine (HPR.out ⟨_, HMEM.out, .inr htok⟩ _ _ _ at185).mono ?_
                rintro en W190 (⟨p, j191, q192, v199, hm193, rfl, ⟨_, _, rfl, ⟨r0, r1, r2, rfl, hv⟩, ⟨s0, s1, s2, rfl, hu⟩⟩, hat194, hle195, hb196⟩ | ⟨j191, er197, hm193, rfl, hj198, hb196⟩)
                rotate_left
                · rw [bd_no hm193] at hr
                  go_wp2
                  exact post_panic (fn := Tryz.f181) rfl (Or.inr ⟨j191, er197, hr.symm, rfl, hj198, But.trans hB186 hb196⟩)
                rw [bd_ok hm193] at hr
                have at200 := hat194
                have hB201 : But g w W190 := But.trans hB186 hb196
                have x202 := x187.but hb196 (by omega)
                have x203 := x188.but hb196 (by omega)
                have hs204 : w.heap.size + 2 ≤ W190.heap.size := Nat.le_trans hs189 hb196.size
                clear hat194 hB186 x187 x188
                obtain ⟨A1, n1, c1, A2, n2, c2, rfl, rfl, rfl⟩ := rv_cases hv
                obtain ⟨A3, n3, c3, A4, n4, c4, rfl, rfl, rfl⟩ := rv_cases hu
                have hv2 : Rds (Fr (w.heap.size + 2)) W190 p.1.d [.bool p.1.neg, .slice A1 n1 c1, .slice A2 n2 c2] := hv.in fun k hk => Nat.le_trans (by assumption) hk
                have hu2 : Rds (Fr (w.heap.size + 2)) W190 p.2.d [.bool p.2.neg, .slice A3 n3 c3, .slice A4 n4 c4] := hu.in fun k hk => Nat.le_trans (by assumption) hk
                clear hv hu
                have hd := dr_rds (Q := Fr (w.heap.size + 2)) (w := W190) 6 0 0 [] [] hv2 hu2 nil_rd
                have pc3 := box_cell x203 3 (.bool false) rfl
                have pf3 := Box.fr x203 3
                have pc4 := box_cell x203 4 (.slice none 0 0) rfl
                have pf4 := Box.fr x203 4
                have pc5 := box_cell x203 5 (.slice none 0 0) rfl
                have pf5 := Box.fr x203 5
                have pc6 := box_cell x203 6 (.bool false) rfl
                have pf6 := Box.fr x203 6
                have pc7 := box_cell x203 7 (.slice none 0 0) rfl
                have pf7 := Box.fr x203 7
                have pc8 := box_cell x203 8 (.slice none 0 0) rfl
                have pf8 := Box.fr x203 8
                go_wp2_with fail
                clear pc3 pf3 pc4 pf4 pc5 pf5 pc6 pf6 pc7 pf7 pc8 pf8
                have ec206 : W190.setCell ⟨w.heap.size + 1, 3, none⟩ (.bool p.1.neg) = W190.setRow (w.heap.size + 1) #[.int .i64 6, .int .i64 0, .int .i64 0, .bool p.1.neg, .slice none 0 0, .slice none 0 0, .bool false, .slice none 0 0, .slice none 0 0, .slice none 0 0, .string ⟨#[]⟩] := Box.cell_row x203 3 (.bool p.1.neg)
                rw [ec206]
                clear ec206
                have hzW205 : W190.heap.size ≤ (W190.setRow (w.heap.size + 1) #[.int .i64 6, .int .i64 0, .int .i64 0, .bool p.1.neg, .slice none 0 0, .slice none 0 0, .bool false, .slice none 0 0, .slice none 0 0, .slice none 0 0, .string ⟨#[]⟩]).heap.size := by rw [size_row]; exact Nat.le_refl _
                have at207 := at200.row #[.int .i64 6, .int .i64 0, .int .i64 0, .bool p.1.neg, .slice none 0 0, .slice none 0 0, .bool false, .slice none 0 0, .slice none 0 0, .slice none 0 0, .string ⟨#[]⟩] (k := w.heap.size + 1) (by omega) (by omega)
                have hB208 : But g w (W190.setRow (w.heap.size + 1) #[.int .i64 6, .int .i64 0, .int .i64 0, .bool p.1.neg, .slice none 0 0, .slice none 0 0, .bool false, .slice none 0 0, .slice none 0 0, .slice none 0 0, .string ⟨#[]⟩]) := But.row hB201 (by omega) _
                have x209 := x202.other (j := w.heap.size + 1) #[.int .i64 6, .int .i64 0, .int .i64 0, .bool p.1.neg, .slice none 0 0, .slice none 0 0, .bool false, .slice none 0 0, .slice none 0 0, .slice none 0 0, .string ⟨#[]⟩] (by omega)
                have x210 := x203.set #[.int .i64 6, .int .i64 0, .int .i64 0, .bool p.1.neg, .slice none 0 0, .slice none 0 0, .bool false, .slice none 0 0, .slice none 0 0, .slice none 0 0, .string ⟨#[]⟩]
                have d211 := hd.row (k := w.heap.size + 1) (by simp [Fr]) #[.int .i64 6, .int .i64 0, .int .i64 0, .bool p.1.neg, .slice none 0 0, .slice none 0 0, .bool false, .slice none 0 0, .slice none 0 0, .slice none 0 0, .string ⟨#[]⟩]
                have hs212 : w.heap.size + 2 ≤ (W190.setRow (w.heap.size + 1) #[.int .i64 6, .int .i64 0, .int .i64 0, .bool p.1.neg, .slice none 0 0, .slice none 0 0, .bool false, .slice none 0 0, .slice none 0 0, .slice none 0 0, .string ⟨#[]⟩]).heap.size := Nat.le_trans hs204 hzW205
                clear hzW205 at200 hB201 x202 x203 hd
                generalize W190.setRow (w.heap.size + 1) #[.int .i64 6, .int .i64 0, .int .i64 0, .bool p.1.neg, .slice none 0 0, .slice none 0 0, .bool false, .slice none 0 0, .slice none 0 0, .slice none 0 0, .string ⟨#[]⟩] = W205 at *
                have ec214 : W205.setCell ⟨w.heap.size + 1, 4, none⟩ (.slice A1 n1 c1) = W205.setRow (w.heap.size + 1) #[.int .i64 6, .int .i64 0, .int .i64 0, .bool p.1.neg, .slice A1 n1 c1, .slice none 0 0, .bool false, .slice none 0 0, .slice none 0 0, .slice none 0 0, .string ⟨#[]⟩] := Box.cell_row x210 4 (.slice A1 n1 c1)
                rw [ec214]
                clear ec214
                have hzW213 : W205.heap.size ≤ (W205.setRow (w.heap.size + 1) #[.int .i64 6, .int .i64 0, .int .i64 0, .bool p.1.neg, .slice A1 n1 c1, .slice none 0 0, .bool false, .slice none 0 0, .slice none 0 0, .slice none 0 0, .string ⟨#[]⟩]).heap.size := by rw [size_row]; exact Nat.le_refl _
                have at215 := at207.row #[.int .i64 6, .int .i64 0, .int .i64 0, .bool p.1.neg, .slice A1 n1 c1, .slice none 0 0, .bool false, .slice none 0 0, .slice none 0 0, .slice none 0 0, .string ⟨#[]⟩] (k := w.heap.size + 1) (by omega) (by omega)
                have hB216 : But g w (W205.setRow (w.heap.size + 1) #[.int .i64 6, .int .i64 0, .int .i64 0, .bool p.1.neg, .slice A1 n1 c1, .slice none 0 0, .bool false, .slice none 0 0, .slice none 0 0, .slice none 0 0, .string ⟨#[]⟩]) := But.row hB208 (by omega) _
                have x217 := x209.other (j := w.heap.size + 1) #[.int .i64 6, .int .i64 0, .int .i64 0, .bool p.1.neg, .slice A1 n1 c1, .slice none 0 0, .bool false, .slice none 0 0, .slice none 0 0, .slice none 0 0, .string ⟨#[]⟩] (by omega)
                have x218 := x210.set #[.int .i64 6, .int .i64 0, .int .i64 0, .bool p.1.neg, .slice A1 n1 c1, .slice none 0 0, .bool false, .slice none 0 0, .slice none 0 0, .slice none 0 0, .string ⟨#[]⟩]
                have d219 := d211.row (k := w.heap.size + 1) (by simp [Fr]) #[.int .i64 6, .int .i64 0, .int .i64 0, .bool p.1.neg, .slice A1 n1 c1, .slice none 0 0, .bool false, .slice none 0 0, .slice none 0 0, .slice none 0 0, .string ⟨#[]⟩]
                have hs220 : w.heap.size + 2 ≤ (W205.setRow (w.heap.size + 1) #[.int .i64 6, .int .i64 0, .int .i64 0, .bool p.1.neg, .slice A1 n1 c1, .slice none 0 0, .bool false, .slice none 0 0, .slice none 0 0, .slice none 0 0, .string ⟨#[]⟩]).heap.size := Nat.le_trans hs212 hzW213
                clear hzW213 at207 hB208 x209 x210 d211
                generalize W205.setRow (w.heap.size + 1) #[.int .i64 6, .int .i64 0, .int .i64 0, .bool p.1.neg, .slice A1 n1 c1, .slice none 0 0, .bool false, .slice none 0 0, .slice none 0 0, .slice none 0 0, .string ⟨#[]⟩] = W213 at *
                have ec222 : W213.setCell ⟨w.heap.size + 1, 5, none⟩ (.slice A2 n2 c2) = W213.setRow (w.heap.size + 1) #[.int .i64 6, .int .i64 0, .int .i64 0, .bool p.1.neg, .slice A1 n1 c1, .slice A2 n2 c2, .bool false, .slice none 0 0, .slice none 0 0, .slice none 0 0, .string ⟨#[]⟩] := Box.cell_row x218 5 (.slice A2 n2 c2)
                rw [ec222]
                clear ec222
                have hzW221 : W213.heap.size ≤ (W213.setRow (w.heap.size + 1) #[.int .i64 6, .int .i64 0, .int .i64 0, .bool p.1.neg, .slice A1 n1 c1, .slice A2 n2 c2, .bool false, .slice none 0 0, .slice none 0 0, .slice none 0 0, .string ⟨#[]⟩]).heap.size := by rw [size_row]; exact Nat.le_refl _
                have at223 := at215.row #[.int .i64 6, .int .i64 0, .int .i64 0, .bool p.1.neg, .slice A1 n1 c1, .slice A2 n2 c2, .bool false, .slice none 0 0, .slice none 0 0, .slice none 0 0, .string ⟨#[]⟩] (k := w.heap.size + 1) (by omega) (by omega)
                have hB224 : But g w (W213.setRow (w.heap.size + 1) #[.int .i64 6, .int .i64 0, .int .i64 0, .bool p.1.neg, .slice A1 n1 c1, .slice A2 n2 c2, .bool false, .slice none 0 0, .slice none 0 0, .slice none 0 0, .string ⟨#[]⟩]) := But.row hB216 (by omega) _
                have x225 := x217.other (j := w.heap.size + 1) #[.int .i64 6, .int .i64 0, .int .i64 0, .bool p.1.neg, .slice A1 n1 c1, .slice A2 n2 c2, .bool false, .slice none 0 0, .slice none 0 0, .slice none 0 0, .string ⟨#[]⟩] (by omega)
                have x226 := x218.set #[.int .i64 6, .int .i64 0, .int .i64 0, .bool p.1.neg, .slice A1 n1 c1, .slice A2 n2 c2, .bool false, .slice none 0 0, .slice none 0 0, .slice none 0 0, .string ⟨#[]⟩]
                have d227 := d219.row (k := w.heap.size + 1) (by simp [Fr]) #[.int .i64 6, .int .i64 0, .int .i64 0, .bool p.1.neg, .slice A1 n1 c1, .slice A2 n2 c2, .bool false, .slice none 0 0, .slice none 0 0, .slice none 0 0, .string ⟨#[]⟩]
                have hs228 : w.heap.size + 2 ≤ (W213.setRow (w.heap.size + 1) #[.int .i64 6, .int .i64 0, .int .i64 0, .bool p.1.neg, .slice A1 n1 c1, .slice A2 n2 c2, .bool false, .slice none 0 0, .slice none 0 0, .slice none 0 0, .string ⟨#[]⟩]).heap.size := Nat.le_trans hs220 hzW221
                clear hzW221 at215 hB216 x217 x218 d219
                generalize W213.setRow (w.heap.size + 1) #[.int .i64 6, .int .i64 0, .int .i64 0, .bool p.1.neg, .slice A1 n1 c1, .slice A2 n2 c2, .bool false, .slice none 0 0, .slice none 0 0, .slice none 0 0, .string ⟨#[]⟩] = W221 at *
                have ec230 : W221.setCell ⟨w.heap.size + 1, 6, none⟩ (.bool p.2.neg) = W221.setRow (w.heap.size + 1) #[.int .i64 6, .int .i64 0, .int .i64 0, .bool p.1.neg, .slice A1 n1 c1, .slice A2 n2 c2, .bool p.2.neg, .slice none 0 0, .slice none 0 0, .slice none 0 0, .string ⟨#[]⟩] := Box.cell_row x226 6 (.bool p.2.neg)
                rw [ec230]
                clear ec230
                have hzW229 : W221.heap.size ≤ (W221.setRow (w.heap.size + 1) #[.int .i64 6, .int .i64 0, .int .i64 0, .bool p.1.neg, .slice A1 n1 c1, .slice A2 n2 c2, .bool p.2.neg, .slice none 0 0, .slice none 0 0, .slice none 0 0, .string ⟨#[]⟩]).heap.size := by rw [size_row]; exact Nat.le_refl _
                have at231 := at223.row #[.int .i64 6, .int .i64 0, .int .i64 0, .bool p.1.neg, .slice A1 n1 c1, .slice A2 n2 c2, .bool p.2.neg, .slice none 0 0, .slice none 0 0, .slice none 0 0, .string ⟨#[]⟩] (k := w.heap.size + 1) (by omega) (by omega)
                have hB232 : But g w (W221.setRow (w.heap.size + 1) #[.int .i64 6, .int .i64 0, .int .i64 0, .bool p.1.neg, .slice A1 n1 c1, .slice A2 n2 c2, .bool p.2.neg, .slice none 0 0, .slice none 0 0, .slice none 0 0, .string ⟨#[]⟩]) := But.row hB224 (by omega) _
                have x233 := x225.other (j := w.heap.size + 1) #[.int .i64 6, .int .i64 0, .int .i64 0, .bool p.1.neg, .slice A1 n1 c1, .slice A2 n2 c2, .bool p.2.neg, .slice none 0 0, .slice none 0 0, .slice none 0 0, .string ⟨#[]⟩] (by omega)
                have x234 := x226.set #[.int .i64 6, .int .i64 0, .int .i64 0, .bool p.1.neg, .slice A1 n1 c1, .slice A2 n2 c2, .bool p.2.neg, .slice none 0 0, .slice none 0 0, .slice none 0 0, .string ⟨#[]⟩]
                have d235 := d227.row (k := w.heap.size + 1) (by simp [Fr]) #[.int .i64 6, .int .i64 0, .int .i64 0, .bool p.1.neg, .slice A1 n1 c1, .slice A2 n2 c2, .bool p.2.neg, .slice none 0 0, .slice none 0 0, .slice none 0 0, .string ⟨#[]⟩]
                have hs236 : w.heap.size + 2 ≤ (W221.setRow (w.heap.size + 1) #[.int .i64 6, .int .i64 0, .int .i64 0, .bool p.1.neg, .slice A1 n1 c1, .slice A2 n2 c2, .bool p.2.neg, .slice none 0 0, .slice none 0 0, .slice none 0 0, .string ⟨#[]⟩]).heap.size := Nat.le_trans hs228 hzW229
                clear hzW229 at223 hB224 x225 x226 d227
                generalize W221.setRow (w.heap.size + 1) #[.int .i64 6, .int .i64 0, .int .i64 0, .bool p.1.neg, .slice A1 n1 c1, .slice A2 n2 c2, .bool p.2.neg, .slice none 0 0, .slice none 0 0, .slice none 0 0, .string ⟨#[]⟩] = W229 at *
                have ec238 : W229.setCell ⟨w.heap.size + 1, 7, none⟩ (.slice A3 n3 c3) = W229.setRow (w.heap.size + 1) #[.int .i64 6, .int .i64 0, .int .i64 0, .bool p.1.neg, .slice A1 n1 c1, .slice A2 n2 c2, .bool p.2.neg, .slice A3 n3 c3, .slice none 0 0, .slice none 0 0, .string ⟨#[]⟩] := Box.cell_row x234 7 (.slice A3 n3 c3)
                rw [ec238]
                clear ec238
                have hzW237 : W229.heap.size ≤ (W229.setRow (w.heap.size + 1) #[.int .i64 6, .int .i64 0, .int .i64 0, .bool p.1.neg, .slice A1 n1 c1, .slice A2 n2 c2, .bool p.2.neg, .slice A3 n3 c3, .slice none 0 0, .slice none 0 0, .string ⟨#[]⟩]).heap.size := by rw [size_row]; exact Nat.le_refl _
                have at239 := at231.row #[.int .i64 6, .int .i64 0, .int .i64 0, .bool p.1.neg, .slice A1 n1 c1, .slice A2 n2 c2, .bool p.2.neg, .slice A3 n3 c3, .slice none 0 0, .slice none 0 0, .string ⟨#[]⟩] (k := w.heap.size + 1) (by omega) (by omega)
                have hB240 : But g w (W229.setRow (w.heap.size + 1) #[.int .i64 6, .int .i64 0, .int .i64 0, .bool p.1.neg, .slice A1 n1 c1, .slice A2 n2 c2, .bool p.2.neg, .slice A3 n3 c3, .slice none 0 0, .slice none 0 0, .string ⟨#[]⟩]) := But.row hB232 (by omega) _
                have x241 := x233.other (j := w.heap.size + 1) #[.int .i64 6, .int .i64 0, .int .i64 0, .bool p.1.neg, .slice A1 n1 c1, .slice A2 n2 c2, .bool p.2.neg, .slice A3 n3 c3, .slice none 0 0, .slice none 0 0, .string ⟨#[]⟩] (by omega)
                have x242 := x234.set #[.int .i64 6, .int .i64 0, .int .i64 0, .bool p.1.neg, .slice A1 n1 c1, .slice A2 n2 c2, .bool p.2.neg, .slice A3 n3 c3, .slice none 0 0, .slice none 0 0, .string ⟨#[]⟩]
                have d243 := d235.row (k := w.heap.size + 1) (by simp [Fr]) #[.int .i64 6, .int .i64 0, .int .i64 0, .bool p.1.neg, .slice A1 n1 c1, .slice A2 n2 c2, .bool p.2.neg, .slice A3 n3 c3, .slice none 0 0, .slice none 0 0, .string ⟨#[]⟩]
                have hs244 : w.heap.size + 2 ≤ (W229.setRow (w.heap.size + 1) #[.int .i64 6, .int .i64 0, .int .i64 0, .bool p.1.neg, .slice A1 n1 c1, .slice A2 n2 c2, .bool p.2.neg, .slice A3 n3 c3, .slice none 0 0, .slice none 0 0, .string ⟨#[]⟩]).heap.size := Nat.le_trans hs236 hzW237
                clear hzW237 at231 hB232 x233 x234 d235
                generalize W229.setRow (w.heap.size + 1) #[.int .i64 6, .int .i64 0, .int .i64 0, .bool p.1.neg, .slice A1 n1 c1, .slice A2 n2 c2, .bool p.2.neg, .slice A3 n3 c3, .slice none 0 0, .slice none 0 0, .string ⟨#[]⟩] = W237 at *
                have ec246 : W237.setCell ⟨w.heap.size + 1, 8, none⟩ (.slice A4 n4 c4) = W237.setRow (w.heap.size + 1) #[.int .i64 6, .int .i64 0, .int .i64 0, .bool p.1.neg, .slice A1 n1 c1, .slice A2 n2 c2, .bool p.2.neg, .slice A3 n3 c3, .slice A4 n4 c4, .slice none 0 0, .string ⟨#[]⟩] := Box.cell_row x242 8 (.slice A4 n4 c4)
                rw [ec246]
                clear ec246
                have hzW245 : W237.heap.size ≤ (W237.setRow (w.heap.size + 1) #[.int .i64 6, .int .i64 0, .int .i64 0, .bool p.1.neg, .slice A1 n1 c1, .slice A2 n2 c2, .bool p.2.neg, .slice A3 n3 c3, .slice A4 n4 c4, .slice none 0 0, .string ⟨#[]⟩]).heap.size := by rw [size_row]; exact Nat.le_refl _
                have at247 := at239.row #[.int .i64 6, .int .i64 0, .int .i64 0, .bool p.1.neg, .slice A1 n1 c1, .slice A2 n2 c2, .bool p.2.neg, .slice A3 n3 c3, .slice A4 n4 c4, .slice none 0 0, .string ⟨#[]⟩] (k := w.heap.size + 1) (by omega) (by omega)
                have hB248 : But g w (W237.setRow (w.heap.size + 1) #[.int .i64 6, .int .i64 0, .int .i64 0, .bool p.1.neg, .slice A1 n1 c1, .slice A2 n2 c2, .bool p.2.neg, .slice A3 n3 c3, .slice A4 n4 c4, .slice none 0 0, .string ⟨#[]⟩]) := But.row hB240 (by omega) _
                have x249 := x241.other (j := w.heap.size + 1) #[.int .i64 6, .int .i64 0, .int .i64 0, .bool p.1.neg, .slice A1 n1 c1, .slice A2 n2 c2, .bool p.2.neg, .slice A3 n3 c3, .slice A4 n4 c4, .slice none 0 0, .string ⟨#[]⟩] (by omega)
                have x250 := x242.set #[.int .i64 6, .int .i64 0, .int .i64 0, .bool p.1.neg, .slice A1 n1 c1, .slice A2 n2 c2, .bool p.2.neg, .slice A3 n3 c3, .slice A4 n4 c4, .slice none 0 0, .string ⟨#[]⟩]
                have d251 := d243.row (k := w.heap.size + 1) (by simp [Fr]) #[.int .i64 6, .int .i64 0, .int .i64 0, .bool p.1.neg, .slice A1 n1 c1, .slice A2 n2 c2, .bool p.2.neg, .slice A3 n3 c3, .slice A4 n4 c4, .slice none 0 0, .string ⟨#[]⟩]
                have hs252 : w.heap.size + 2 ≤ (W237.setRow (w.heap.size + 1) #[.int .i64 6, .int .i64 0, .int .i64 0, .bool p.1.neg, .slice A1 n1 c1, .slice A2 n2 c2, .bool p.2.neg, .slice A3 n3 c3, .slice A4 n4 c4, .slice none 0 0, .string ⟨#[]⟩]).heap.size := Nat.le_trans hs244 hzW245
                clear hzW245 at239 hB240 x241 x242 d243
                generalize W237.setRow (w.heap.size + 1) #[.int .i64 6, .int .i64 0, .int .i64 0, .bool p.1.neg, .slice A1 n1 c1, .slice A2 n2 c2, .bool p.2.neg, .slice A3 n3 c3, .slice A4 n4 c4, .slice none 0 0, .string ⟨#[]⟩] = W245 at *
                refine (HW.out _ _ _ [41] (by decide) at247).mono ?_
                rintro en W253 (⟨⟨⟩, j254, q255, v262, hm256, rfl, rfl, hat257, hle258, hb259⟩ | ⟨j254, er260, hm256, rfl, hj261, hb259⟩)
                rotate_left
                · rw [bd_no hm256] at hr
                  go_wp2
                  exact post_panic (fn := Tryz.f181) rfl (Or.inr ⟨j254, er260, hr.symm, rfl, hj261, But.trans hB248 hb259⟩)
                rw [bd_ok hm256] at hr
                have at263 := hat257
                have hB264 : But g w W253 := But.trans hB248 hb259
                have x265 := x249.but hb259 (by omega)
                have x266 := x250.but hb259 (by omega)
                have d267 := d251.but hb259 (by simp [Fr]; omega)
                have hs268 : w.heap.size + 2 ≤ W253.heap.size := Nat.le_trans hs252 hb259.size
                clear hat257 hB248 x249 x250 d251
                clear hm256
                have onesF := Rds.all d267
                go_wp2_with (first | (refine wpList_load_row rfl 59 (.tmp 3) rfl (w.heap.size + 1) rfl 59 _ (0, 0) (.struct _) x266 rfl rfl (by kernel_rfl) ?_) | (refine wpList_store_row rfl 59 (.tmp 2) (.tmp 92) rfl w.heap.size _ rfl rfl 59 _ x265 (by kernel_rfl) rfl onesF ?_))
                refine bodyPost_ret (results_cell_row rfl _ _ w.heap.size _ _ _ (.struct _) rfl (x265.set _) rfl rfl (by kernel_rfl)) rfl ?_
                exact Or.inl ⟨⟨6, 0, 0, p.1, p.2, [], []⟩, j254, q255, _, hr.symm, rfl, ⟨_, _, _, _, _, _, _, _, _, _, _, rfl, (d267.row (by simp [Fr]) _).in fun k hk => by simp [Fr] at hk ⊢; omega⟩, at263.row _ hsz hbz, by omega, But.row hB264 (Nat.le_refl _) _⟩
            · simp only [if_true] at hr
              have hop269 := opn_yes hm85
              have htok := opn_tok hm85
              clear hm85
              go_wp2_with fail
              refine (HFR.out _ _ _ at92 (.inr ⟨_, HMEM.out, .inl htok⟩)).mono ?_
              rintro en W270 (⟨r, j271, q272, v279, hm273, rfl, ⟨r0, r1, r2, rfl, hv⟩, hat274, hle275, hb276⟩ | ⟨j271, er277, hm273, rfl, hj278, hb276⟩)
              rotate_left
              · rw [bd_no hm273] at hr
                go_wp2
                exact post_panic (fn := Tryz.f181) rfl (Or.inr ⟨j271, er277, hr.symm, rfl, hj278, But.trans hB93 hb276⟩)
              rw [bd_ok hm273] at hr
              have at280 := hat274
              have hB281 : But g w W270 := But.trans hB93 hb276
              have x282 := x94.but hb276 (by omega)
              have x283 := x95.but hb276 (by omega)
              have hs284 : w.heap.size + 2 ≤ W270.heap.size := Nat.le_trans hs96 hb276.size
              clear hat274 hB93 x94 x95
              have hv2 : Rds (Fr (w.heap.size + 2)) W270 r.d [r0, r1, r2] := hv.in fun k hk => Nat.le_trans (by assumption) hk
              have hd := dr_rds (Q := Fr (w.heap.size + 2)) (w := W270) 5 0 0 [] [] hv2 zero_rds nil_rd
              have onesR := Rds.all hd
              go_wp2_with (refine wpList_store_row rfl 59 (.tmp 3) (.tmp 63) rfl (w.heap.size + 1) _ rfl rfl 59 _ x283 (by kernel_rfl) rfl (onesR) ?_)
              have hzW285 : W270.heap.size ≤ (W270.setRow (w.heap.size + 1) #[.int .i64 5, .int .i64 0, .int .i64 0, r0, r1, r2, .bool false, .slice none 0 0, .slice none 0 0, .slice none 0 0, .string ⟨#[]⟩]).heap.size := by rw [size_row]; exact Nat.le_refl _
              have at286 := at280.row #[.int .i64 5, .int .i64 0, .int .i64 0, r0, r1, r2, .bool false, .slice none 0 0, .slice none 0 0, .slice none 0 0, .string ⟨#[]⟩] (k := w.heap.size + 1) (by omega) (by omega)
              have hB287 : But g w (W270.setRow (w.heap.size + 1) #[.int .i64 5, .int .i64 0, .int .i64 0, r0, r1, r2, .bool false, .slice none 0 0, .slice none 0 0, .slice none 0 0, .string ⟨#[]⟩]) := But.row hB281 (by omega) _
              have x288 := x282.other (j := w.heap.size + 1) #[.int .i64 5, .int .i64 0, .int .i64 0, r0, r1, r2, .bool false, .slice none 0 0, .slice none 0 0, .slice none 0 0, .string ⟨#[]⟩] (by omega)
              have x289 := x283.set #[.int .i64 5, .int .i64 0, .int .i64 0, r0, r1, r2, .bool false, .slice none 0 0, .slice none 0 0, .slice none 0 0, .string ⟨#[]⟩]
              have d290 := hd.row (k := w.heap.size + 1) (by simp [Fr]) #[.int .i64 5, .int .i64 0, .int .i64 0, r0, r1, r2, .bool false, .slice none 0 0, .slice none 0 0, .slice none 0 0, .string ⟨#[]⟩]
              have hs291 : w.heap.size + 2 ≤ (W270.setRow (w.heap.size + 1) #[.int .i64 5, .int .i64 0, .int .i64 0, r0, r1, r2, .bool false, .slice none 0 0, .slice none 0 0, .slice none 0 0, .string ⟨#[]⟩]).heap.size := Nat.le_trans hs284 hzW285
              clear hzW285 at280 hB281 x282 x283 hd
              generalize W270.setRow (w.heap.size + 1) #[.int .i64 5, .int .i64 0, .int .i64 0, r0, r1, r2, .bool false, .slice none 0 0, .slice none 0 0, .slice none 0 0, .string ⟨#[]⟩] = W285 at *
              refine (HW.out _ _ _ [41] (by decide) at286).mono ?_
              rintro en W292 (⟨⟨⟩, j293, q294, v301, hm295, rfl, rfl, hat296, hle297, hb298⟩ | ⟨j293, er299, hm295, rfl, hj300, hb298⟩)
              rotate_left
              · rw [bd_no hm295] at hr
                go_wp2
                exact post_panic (fn := Tryz.f181) rfl (Or.inr ⟨j293, er299, hr.symm, rfl, hj300, But.trans hB287 hb298⟩)
              rw [bd_ok hm295] at hr
              have at302 := hat296
              have hB303 : But g w W292 := But.trans hB287 hb298
              have x304 := x288.but hb298 (by omega)
              have x305 := x289.but hb298 (by omega)
              have d306 := d290.but hb298 (by simp [Fr]; omega)
              have hs307 : w.heap.size + 2 ≤ W292.heap.size := Nat.le_trans hs291 hb298.size
              clear hat296 hB287 x288 x289 d290
              clear hm295
              have onesF := Rds.all d306
              go_wp2_with (first | (refine wpList_load_row rfl 59 (.tmp 3) rfl (w.heap.size + 1) rfl 59 _ (0, 0) (.struct _) x305 rfl rfl (by kernel_rfl) ?_) | (refine wpList_store_row rfl 59 (.tmp 2) (.tmp 92) rfl w.heap.size _ rfl rfl 59 _ x304 (by kernel_rfl) rfl onesF ?_))
              refine bodyPost_ret (results_cell_row rfl _ _ w.heap.size _ _ _ (.struct _) rfl (x304.set _) rfl rfl (by kernel_rfl)) rfl ?_
              exact Or.inl ⟨⟨5, 0, 0, r, .zero, [], []⟩, j293, q294, _, hr.symm, rfl, ⟨_, _, _, _, _, _, _, _, _, _, _, rfl, (d306.row (by simp [Fr]) _).in fun k hk => by simp [Fr] at hk ⊢; omega⟩, at302.row _ hsz hbz, by omega, But.row hB303 (Nat.le_refl _) _⟩
          · simp only [if_true] at hr
            have hop308 := opn_yes hm69
            clear hm69
            go_wp2_with fail
            refine (HNU.out _ _ _ at76).mono ?_
            rintro en W309 (⟨k, j310, q311, v318, hm312, rfl, rfl, hat313, hle314, hb315⟩ | ⟨j310, er316, hm312, rfl, hj317, hb315⟩)
            rotate_left
            · rw [bd_no hm312] at hr
              go_wp2
              exact post_panic (fn := Tryz.f181) rfl (Or.inr ⟨j310, er316, hr.symm, rfl, hj317, But.trans hB77 hb315⟩)
            rw [bd_ok hm312] at hr
            have at319 := hat313
            have hB320 : But g w W309 := But.trans hB77 hb315
            have x321 := x78.but hb315 (by omega)
            have x322 := x79.but hb315 (by omega)
            have hs323 : w.heap.size + 2 ≤ W309.heap.size := Nat.le_trans hs80 hb315.size
            clear hat313 hB77 x78 x79
            go_wp2_with (refine wpList_store_row rfl 59 (.tmp 3) (.tmp 51) rfl (w.heap.size + 1) _ rfl rfl 59 _ x322 (by kernel_rfl) rfl (by simp [Value.oneCell']) ?_)
            have hzW324 : W309.heap.size ≤ (W309.setRow (w.heap.size + 1) #[.int .i64 4, .int .i64 0, .int .i64 k, .bool false, .slice none 0 0, .slice none 0 0, .bool false, .slice none 0 0, .slice none 0 0, .slice none 0 0, .string ⟨#[]⟩]).heap.size := by rw [size_row]; exact Nat.le_refl _
            have at325 := at319.row #[.int .i64 4, .int .i64 0, .int .i64 k, .bool false, .slice none 0 0, .slice none 0 0, .bool false, .slice none 0 0, .slice none 0 0, .slice none 0 0, .string ⟨#[]⟩] (k := w.heap.size + 1) (by omega) (by omega)
            have hB326 : But g w (W309.setRow (w.heap.size + 1) #[.int .i64 4, .int .i64 0, .int .i64 k, .bool false, .slice none 0 0, .slice none 0 0, .bool false, .slice none 0 0, .slice none 0 0, .slice none 0 0, .string ⟨#[]⟩]) := But.row hB320 (by omega) _
            have x327 := x321.other (j := w.heap.size + 1) #[.int .i64 4, .int .i64 0, .int .i64 k, .bool false, .slice none 0 0, .slice none 0 0, .bool false, .slice none 0 0, .slice none 0 0, .slice none 0 0, .string ⟨#[]⟩] (by omega)
            have x328 := x322.set #[.int .i64 4, .int .i64 0, .int .i64 k, .bool false, .slice none 0 0, .slice none 0 0, .bool false, .slice none 0 0, .slice none 0 0, .slice none 0 0, .string ⟨#[]⟩]
            have hs329 : w.heap.size + 2 ≤ (W309.setRow (w.heap.size + 1) #[.int .i64 4, .int .i64 0, .int .i64 k, .bool false, .slice none 0 0, .slice none 0 0, .bool false, .slice none 0 0, .slice none 0 0, .slice none 0 0, .string ⟨#[]⟩]).heap.size := Nat.le_trans hs323 hzW324
            clear hzW324 at319 hB320 x321 x322
            generalize W309.setRow (w.heap.size + 1) #[.int .i64 4, .int .i64 0, .int .i64 k, .bool false, .slice none 0 0, .slice none 0 0, .bool false, .slice none 0 0, .slice none 0 0, .slice none 0 0, .string ⟨#[]⟩] = W324 at *
            refine (HW.out _ _ _ [44] (by decide) at325).mono ?_
            rintro en W330 (⟨⟨⟩, j331, q332, v339, hm333, rfl, rfl, hat334, hle335, hb336⟩ | ⟨j331, er337, hm333, rfl, hj338, hb336⟩)
            rotate_left
            · rw [bd_no hm333] at hr
              go_wp2
              exact post_panic (fn := Tryz.f181) rfl (Or.inr ⟨j331, er337, hr.symm, rfl, hj338, But.trans hB326 hb336⟩)
            rw [bd_ok hm333] at hr
            have at340 := hat334
            have hB341 : But g w W330 := But.trans hB326 hb336
            have x342 := x327.but hb336 (by omega)
            have x343 := x328.but hb336 (by omega)
            have hs344 : w.heap.size + 2 ≤ W330.heap.size := Nat.le_trans hs329 hb336.size
            clear hat334 hB326 x327 x328
            clear hm333
            go_wp2_with fail
            refine (HX.out _ _ _ at340 (by omega)).mono ?_
            rintro en W346 (⟨x, j347, q348, v355, hm349, rfl, ⟨x0, x1, x2, x3, x4, x5, x6, rfl, hv345⟩, hat350, hle351, hb352⟩ | ⟨j347, er353, hm349, rfl, hj354, hb352⟩)
            rotate_left
            · rw [bd_no hm349] at hr
              go_wp2
              exact post_panic (fn := Tryz.f181) rfl (Or.inr ⟨j347, er353, hr.symm, rfl, hj354, But.trans hB341 hb352⟩)
            rw [bd_ok hm349] at hr
            have at356 := hat350
            have hB357 : But g w W346 := But.trans hB341 hb352
            have x358 := x342.but hb352 (by omega)
            have x359 := x343.but hb352 (by omega)
            have hs360 : w.heap.size + 2 ≤ W346.heap.size := Nat.le_trans hs344 hb352.size
            clear hat350 hB341 x342 x343
            have d361 : Rds (Fr (w.heap.size + 2)) W346 x.d [x0, x1, x2, x3, x4, x5, x6] := hv345.in fun k hk => Nat.le_trans (by assumption) hk
            clear hv345
            have pc9 := box_cell x359 9 (.slice none 0 0) rfl
            have pf9 := Box.fr x359 9
            have bl := allocB W346 (.cells #[x0, x1, x2, x3, x4, x5, x6] 53)
            have dl : Rd (Fr (w.heap.size + 2)) (W346.alloc (.cells #[x0, x1, x2, x3, x4, x5, x6] 53)) (.l 7 (dsE [x])) (.slice (some ⟨W346.heap.size, 0, none⟩) 1 1) := by
              have := Rds.laidQ (sz := 7) (n := 1) 53 d361 (by simp [Ex.d_len]) (show w.heap.size + 2 ≤ W346.heap.size by assumption) (by decide)
              simpa [dsE] using this
            have pcA : (W346.alloc (.cells #[x0, x1, x2, x3, x4, x5, x6] 53)).cell? ⟨w.heap.size + 1, 9, none⟩ = some (.slice none 0 0) := (World.cell?_of_block (a := ⟨w.heap.size + 1, 9, none⟩) (bl.block (w.heap.size + 1) (by omega))).trans pc9
            have pfA : (W346.alloc (.cells #[x0, x1, x2, x3, x4, x5, x6] 53)).frozen? ⟨w.heap.size + 1, 9, none⟩ = false := (World.frozen?_of_block (a := ⟨w.heap.size + 1, 9, none⟩) (bl.block (w.heap.size + 1) (by omega))).trans pf9
            go_wp2_with fail
            clear pc9 pf9 pcA pfA
            have at362 := at356.new bl
            have hB363 : But g w (W346.alloc (.cells #[x0, x1, x2, x3, x4, x5, x6] 53)) := But.trans hB357 (But.of_below bl)
            have x364 := x358.new bl
            have x365 := x359.new bl
            have hs366 : w.heap.size + 2 ≤ (W346.alloc (.cells #[x0, x1, x2, x3, x4, x5, x6] 53)).heap.size := Nat.le_trans hs360 bl.size
            clear at356 hB357 x358 x359
            generalize W346.alloc (.cells #[x0, x1, x2, x3, x4, x5, x6] 53) = WA at *
            generalize hgA : W346.heap.size = PA at *
            clear hgA bl
            have hd := dr_rds (Q := Fr (w.heap.size + 2)) (w := WA) 4 0 k [x] [] zero_rds zero_rds dl
            have ec368 : WA.setCell ⟨w.heap.size + 1, 9, none⟩ (.slice (some ⟨PA, 0, none⟩) 1 1) = WA.setRow (w.heap.size + 1) #[.int .i64 4, .int .i64 0, .int .i64 k, .bool false, .slice none 0 0, .slice none 0 0, .bool false, .slice none 0 0, .slice none 0 0, .slice (some ⟨PA, 0, none⟩) 1 1, .string ⟨#[]⟩] := Box.cell_row x365 9 (.slice (some ⟨PA, 0, none⟩) 1 1)
            rw [ec368]
            clear ec368
            have hzW367 : WA.heap.size ≤ (WA.setRow (w.heap.size + 1) #[.int .i64 4, .int .i64 0, .int .i64 k, .bool false, .slice none 0 0, .slice none 0 0, .bool false, .slice none 0 0, .slice none 0 0, .slice (some ⟨PA, 0, none⟩) 1 1, .string ⟨#[]⟩]).heap.size := by rw [size_row]; exact Nat.le_refl _
            have at369 := at362.row #[.int .i64 4, .int .i64 0, .int .i64 k, .bool false, .slice none 0 0, .slice none 0 0, .bool false, .slice none 0 0, .slice none 0 0, .slice (some ⟨PA, 0, none⟩) 1 1, .string ⟨#[]⟩] (k := w.heap.size + 1) (by omega) (by omega)
            have hB370 : But g w (WA.setRow (w.heap.size + 1) #[.int .i64 4, .int .i64 0, .int .i64 k, .bool false, .slice none 0 0, .slice none 0 0, .bool false, .slice none 0 0, .slice none 0 0, .slice (some ⟨PA, 0, none⟩) 1 1, .string ⟨#[]⟩]) := But.row hB363 (by omega) _
            have x371 := x364.other (j := w.heap.size + 1) #[.int .i64 4, .int .i64 0, .int .i64 k, .bool false, .slice none 0 0, .slice none 0 0, .bool false, .slice none 0 0, .slice none 0 0, .slice (some ⟨PA, 0, none⟩) 1 1, .string ⟨#[]⟩] (by omega)
            have x372 := x365.set #[.int .i64 4, .int .i64 0, .int .i64 k, .bool false, .slice none 0 0, .slice none 0 0, .bool false, .slice none 0 0, .slice none 0 0, .slice (some ⟨PA, 0, none⟩) 1 1, .string ⟨#[]⟩]
            have d373 := hd.row (k := w.heap.size + 1) (by simp [Fr]) #[.int .i64 4, .int .i64 0, .int .i64 k, .bool false, .slice none 0 0, .slice none 0 0, .bool false, .slice none 0 0, .slice none 0 0, .slice (some ⟨PA, 0, none⟩) 1 1, .string ⟨#[]⟩]
            have hs374 : w.heap.size + 2 ≤ (WA.setRow (w.heap.size + 1) #[.int .i64 4, .int .i64 0, .int .i64 k, .bool false, .slice none 0 0, .slice none 0 0, .bool false, .slice none 0 0, .slice none 0 0, .slice (some ⟨PA, 0, none⟩) 1 1, .string ⟨#[]⟩]).heap.size := Nat.le_trans hs366 hzW367
            clear hzW367 at362 hB363 x364 x365 hd
            generalize WA.setRow (w.heap.size + 1) #[.int .i64 4, .int .i64 0, .int .i64 k, .bool false, .slice none 0 0, .slice none 0 0, .bool false, .slice none 0 0, .slice none 0 0, .slice (some ⟨PA, 0, none⟩) 1 1, .string ⟨#[]⟩] = W367 at *
            refine (HW.out _ _ _ [41] (by decide) at369).mono ?_
            rintro en W375 (⟨⟨⟩, j376, q377, v384, hm378, rfl, rfl, hat379, hle380, hb381⟩ | ⟨j376, er382, hm378, rfl, hj383, hb381⟩)
            rotate_left
            · rw [bd_no hm378] at hr
              go_wp2
              exact post_panic (fn := Tryz.f181) rfl (Or.inr ⟨j376, er382, hr.symm, rfl, hj383, But.trans hB370 hb381⟩)
            rw [bd_ok hm378] at hr
            have at385 := hat379
            have hB386 : But g w W375 := But.trans hB370 hb381
            have x387 := x371.but hb381 (by omega)
            have x388 := x372.but hb381 (by omega)
            have d389 := d373.but hb381 (by simp [Fr]; omega)
            have hs390 : w.heap.size + 2 ≤ W375.heap.size := Nat.le_trans hs374 hb381.size
            clear hat379 hB370 x371 x372 d373
            clear hm378
            have onesF := Rds.all d389
            go_wp2_with (first | (refine wpList_load_row rfl 59 (.tmp 3) rfl (w.heap.size + 1) rfl 59 _ (0, 0) (.struct _) x388 rfl rfl (by kernel_rfl) ?_) | (refine wpList_store_row rfl 59 (.tmp 2) (.tmp 92) rfl w.heap.size _ rfl rfl 59 _ x387 (by kernel_rfl) rfl onesF ?_))
            refine bodyPost_ret (results_cell_row rfl _ _ w.heap.size _ _ _ (.struct _) rfl (x387.set _) rfl rfl (by kernel_rfl)) rfl ?_
            exact Or.inl ⟨⟨4, 0, k, .zero, .zero, [x], []⟩, j376, q377, _, hr.symm, rfl, ⟨_, _, _, _, _, _, _, _, _, _, _, rfl, (d389.row (by simp [Fr]) _).in fun k hk => by simp [Fr] at hk ⊢; omega⟩, at385.row _ hsz hbz, by omega, But.row hB386 (Nat.le_refl _) _⟩
        · simp only [if_true] at hr
          have hop391 := opn_yes hm53
          clear hm53
          go_wp2_with fail
          refine (HIN.out _ _ _ at60).mono ?_
          rintro en W392 (⟨k, j393, q394, v401, hm395, rfl, rfl, hat396, hle397, hb398⟩ | ⟨j393, er399, hm395, rfl, hj400, hb398⟩)
          rotate_left
          · rw [bd_no hm395] at hr
            go_wp2
            exact post_panic (fn := Tryz.f181) rfl (Or.inr ⟨j393, er399, hr.symm, rfl, hj400, But.trans hB61 hb398⟩)
          rw [bd_ok hm395] at hr
          have at402 := hat396
          have hB403 : But g w W392 := But.trans hB61 hb398
          have x404 := x62.but hb398 (by omega)
          have x405 := x63.but hb398 (by omega)
          have hs406 : w.heap.size + 2 ≤ W392.heap.size := Nat.le_trans hs64 hb398.size
          clear hat396 hB61 x62 x63
          go_wp2_with (refine wpList_store_row rfl 59 (.tmp 3) (.tmp 38) rfl (w.heap.size + 1) _ rfl rfl 59 _ x405 (by kernel_rfl) rfl (by simp [Value.oneCell']) ?_)
          have hzW407 : W392.heap.size ≤ (W392.setRow (w.heap.size + 1) #[.int .i64 3, .int .i64 k, .int .i64 0, .bool false, .slice none 0 0, .slice none 0 0, .bool false, .slice none 0 0, .slice none 0 0, .slice none 0 0, .string ⟨#[]⟩]).heap.size := by rw [size_row]; exact Nat.le_refl _
          have at408 := at402.row #[.int .i64 3, .int .i64 k, .int .i64 0, .bool false, .slice none 0 0, .slice none 0 0, .bool false, .slice none 0 0, .slice none 0 0, .slice none 0 0, .string ⟨#[]⟩] (k := w.heap.size + 1) (by omega) (by omega)
          have hB409 : But g w (W392.setRow (w.heap.size + 1) #[.int .i64 3, .int .i64 k, .int .i64 0, .bool false, .slice none 0 0, .slice none 0 0, .bool false, .slice none 0 0, .slice none 0 0, .slice none 0 0, .string ⟨#[]⟩]) := But.row hB403 (by omega) _
          have x410 := x404.other (j := w.heap.size + 1) #[.int .i64 3, .int .i64 k, .int .i64 0, .bool false, .slice none 0 0, .slice none 0 0, .bool false, .slice none 0 0, .slice none 0 0, .slice none 0 0, .string ⟨#[]⟩] (by omega)
          have x411 := x405.set #[.int .i64 3, .int .i64 k, .int .i64 0, .bool false, .slice none 0 0, .slice none 0 0, .bool false, .slice none 0 0, .slice none 0 0, .slice none 0 0, .string ⟨#[]⟩]
          have hs412 : w.heap.size + 2 ≤ (W392.setRow (w.heap.size + 1) #[.int .i64 3, .int .i64 k, .int .i64 0, .bool false, .slice none 0 0, .slice none 0 0, .bool false, .slice none 0 0, .slice none 0 0, .slice none 0 0, .string ⟨#[]⟩]).heap.size := Nat.le_trans hs406 hzW407
          clear hzW407 at402 hB403 x404 x405
          generalize W392.setRow (w.heap.size + 1) #[.int .i64 3, .int .i64 k, .int .i64 0, .bool false, .slice none 0 0, .slice none 0 0, .bool false, .slice none 0 0, .slice none 0 0, .slice none 0 0, .string ⟨#[]⟩] = W407 at *
          refine (HW.out _ _ _ [59] (by decide) at408).mono ?_
          rintro en W413 (⟨⟨⟩, j414, q415, v422, hm416, rfl, rfl, hat417, hle418, hb419⟩ | ⟨j414, er420, hm416, rfl, hj421, hb419⟩)
          rotate_left
          · rw [bd_no hm416] at hr
            go_wp2
            exact post_panic (fn := Tryz.f181) rfl (Or.inr ⟨j414, er420, hr.symm, rfl, hj421, But.trans hB409 hb419⟩)
          rw [bd_ok hm416] at hr
          have at423 := hat417
          have hB424 : But g w W413 := But.trans hB409 hb419
          have x425 := x410.but hb419 (by omega)
          have x426 := x411.but hb419 (by omega)
          have hs427 : w.heap.size + 2 ≤ W413.heap.size := Nat.le_trans hs412 hb419.size
          clear hat417 hB409 x410 x411
          clear hm416
          go_wp2_with fail
          refine (HL.out _ _ _ at423 (by omega)).mono ?_
          rintro en W428 (⟨l, j429, q430, v437, hm431, rfl, ⟨B, m, cc, rfl, hv⟩, hat432, hle433, hb434⟩ | ⟨j429, er435, hm431, rfl, hj436, hb434⟩)
          rotate_left
          · rw [bd_no hm431] at hr
            go_wp2
            exact post_panic (fn := Tryz.f181) rfl (Or.inr ⟨j429, er435, hr.symm, rfl, hj436, But.trans hB424 hb434⟩)
          rw [bd_ok hm431] at hr
          have at438 := hat432
          have hB439 : But g w W428 := But.trans hB424 hb434
          have x440 := x425.but hb434 (by omega)
          have x441 := x426.but hb434 (by omega)
          have hs442 : w.heap.size + 2 ≤ W428.heap.size := Nat.le_trans hs427 hb434.size
          clear hat432 hB424 x425 x426
          have hv2 : Rd (Fr (w.heap.size + 2)) W428 (.l 7 (dsE l)) (.slice B m cc) := dsE_flat l ▸ hv.in fun k hk => Nat.le_trans (by assumption) hk
          have hd := dr_rds (Q := Fr (w.heap.size + 2)) (w := W428) 3 k 0 l [] zero_rds zero_rds hv2
          have pc9 := box_cell x441 9 (.slice none 0 0) rfl
          have pf9 := Box.fr x441 9
          go_wp2_with fail
          clear pc9 pf9
          have ec444 : W428.setCell ⟨w.heap.size + 1, 9, none⟩ (.slice B m cc) = W428.setRow (w.heap.size + 1) #[.int .i64 3, .int .i64 k, .int .i64 0, .bool false, .slice none 0 0, .slice none 0 0, .bool false, .slice none 0 0, .slice none 0 0, .slice B m cc, .string ⟨#[]⟩] := Box.cell_row x441 9 (.slice B m cc)
          rw [ec444]
          clear ec444
          have hzW443 : W428.heap.size ≤ (W428.setRow (w.heap.size + 1) #[.int .i64 3, .int .i64 k, .int .i64 0, .bool false, .slice none 0 0, .slice none 0 0, .bool false, .slice none 0 0, .slice none 0 0, .slice B m cc, .string ⟨#[]⟩]).heap.size := by rw [size_row]; exact Nat.le_refl _
          have at445 := at438.row #[.int .i64 3, .int .i64 k, .int .i64 0, .bool false, .slice none 0 0, .slice none 0 0, .bool false, .slice none 0 0, .slice none 0 0, .slice B m cc, .string ⟨#[]⟩] (k := w.heap.size + 1) (by omega) (by omega)
          have hB446 : But g w (W428.setRow (w.heap.size + 1) #[.int .i64 3, .int .i64 k, .int .i64 0, .bool false, .slice none 0 0, .slice none 0 0, .bool false, .slice none 0 0, .slice none 0 0, .slice B m cc, .string ⟨#[]⟩]) := But.row hB439 (by omega) _
          have x447 := x440.other (j := w.heap.size + 1) #[.int .i64 3, .int .i64 k, .int .i64 0, .bool false, .slice none 0 0, .slice none 0 0, .bool false, .slice none 0 0, .slice none 0 0, .slice B m cc, .string ⟨#[]⟩] (by omega)
          have x448 := x441.set #[.int .i64 3, .int .i64 k, .int .i64 0, .bool false, .slice none 0 0, .slice none 0 0, .bool false, .slice none 0 0, .slice none 0 0, .slice B m cc, .string ⟨#[]⟩]
          have d449 := hd.row (k := w.heap.size + 1) (by simp [Fr]) #[.int .i64 3, .int .i64 k, .int .i64 0, .bool false, .slice none 0 0, .slice none 0 0, .bool false, .slice none 0 0, .slice none 0 0, .slice B m cc, .string ⟨#[]⟩]
          have hs450 : w.heap.size + 2 ≤ (W428.setRow (w.heap.size + 1) #[.int .i64 3, .int .i64 k, .int .i64 0, .bool false, .slice none 0 0, .slice none 0 0, .bool false, .slice none 0 0, .slice none 0 0, .slice B m cc, .string ⟨#[]⟩]).heap.size := Nat.le_trans hs442 hzW443
          clear hzW443 at438 hB439 x440 x441 hd
          generalize W428.setRow (w.heap.size + 1) #[.int .i64 3, .int .i64 k, .int .i64 0, .bool false, .slice none 0 0, .slice none 0 0, .bool false, .slice none 0 0, .slice none 0 0, .slice B m cc, .string ⟨#[]⟩] = W443 at *
          refine (HW.out _ _ _ [41] (by decide) at445).mono ?_
          rintro en W451 (⟨⟨⟩, j452, q453, v460, hm454, rfl, rfl, hat455, hle456, hb457⟩ | ⟨j452, er458, hm454, rfl, hj459, hb457⟩)
          rotate_left
          · rw [bd_no hm454] at hr
            go_wp2
            exact post_panic (fn := Tryz.f181) rfl (Or.inr ⟨j452, er458, hr.symm, rfl, hj459, But.trans hB446 hb457⟩)
          rw [bd_ok hm454] at hr
          have at461 := hat455
          have hB462 : But g w W451 := But.trans hB446 hb457
          have x463 := x447.but hb457 (by omega)
          have x464 := x448.but hb457 (by omega)
          have d465 := d449.but hb457 (by simp [Fr]; omega)
          have hs466 : w.heap.size + 2 ≤ W451.heap.size := Nat.le_trans hs450 hb457.size
          clear hat455 hB446 x447 x448 d449
          clear hm454
          have onesF := Rds.all d465
          go_wp2_with (first | (refine wpList_load_row rfl 59 (.tmp 3) rfl (w.heap.size + 1) rfl 59 _ (0, 0) (.struct _) x464 rfl rfl (by kernel_rfl) ?_) | (refine wpList_store_row rfl 59 (.tmp 2) (.tmp 92) rfl w.heap.size _ rfl rfl 59 _ x463 (by kernel_rfl) rfl onesF ?_))
          refine bodyPost_ret (results_cell_row rfl _ _ w.heap.size _ _ _ (.struct _) rfl (x463.set _) rfl rfl (by kernel_rfl)) rfl ?_
          exact Or.inl ⟨⟨3, k, 0, .zero, .zero, l, []⟩, j452, q453, _, hr.symm, rfl, ⟨_, _, _, _, _, _, _, _, _, _, _, rfl, (d465.row (by simp [Fr]) _).in fun k hk => by simp [Fr] at hk ⊢; omega⟩, at461.row _ hsz hbz, by omega, But.row hB462 (Nat.le_refl _) _⟩
      · simp only [if_true] at hr
        have hop467 := opn_yes hm37
        clear hm37
        have pc0 := box_cell x47 0 (.int .i64 0) rfl
        have pf0 := Box.fr x47 0
        go_wp2_with fail
        clear pc0 pf0
        have ec469 : W34.setCell ⟨w.heap.size + 1, 0, none⟩ (.int .i64 2) = W34.setRow (w.heap.size + 1) #[.int .i64 2, .int .i64 0, .int .i64 0, .bool false, .slice none 0 0, .slice none 0 0, .bool false, .slice none 0 0, .slice none 0 0, .slice none 0 0, .string ⟨#[]⟩] := Box.cell_row x47 0 (.int .i64 2)
        rw [ec469]
        clear ec469
        have hzW468 : W34.heap.size ≤ (W34.setRow (w.heap.size + 1) #[.int .i64 2, .int .i64 0, .int .i64 0, .bool false, .slice none 0 0, .slice none 0 0, .bool false, .slice none 0 0, .slice none 0 0, .slice none 0 0, .string ⟨#[]⟩]).heap.size := by rw [size_row]; exact Nat.le_refl _
        have at470 := at44.row #[.int .i64 2, .int .i64 0, .int .i64 0, .bool false, .slice none 0 0, .slice none 0 0, .bool false, .slice none 0 0, .slice none 0 0, .slice none 0 0, .string ⟨#[]⟩] (k := w.heap.size + 1) (by omega) (by omega)
        have hB471 : But g w (W34.setRow (w.heap.size + 1) #[.int .i64 2, .int .i64 0, .int .i64 0, .bool false, .slice none 0 0, .slice none 0 0, .bool false, .slice none 0 0, .slice none 0 0, .slice none 0 0, .string ⟨#[]⟩]) := But.row hB45 (by omega) _
        have x472 := x46.other (j := w.heap.size + 1) #[.int .i64 2, .int .i64 0, .int .i64 0, .bool false, .slice none 0 0, .slice none 0 0, .bool false, .slice none 0 0, .slice none 0 0, .slice none 0 0, .string ⟨#[]⟩] (by omega)
        have x473 := x47.set #[.int .i64 2, .int .i64 0, .int .i64 0, .bool false, .slice none 0 0, .slice none 0 0, .bool false, .slice none 0 0, .slice none 0 0, .slice none 0 0, .string ⟨#[]⟩]
        have hs474 : w.heap.size + 2 ≤ (W34.setRow (w.heap.size + 1) #[.int .i64 2, .int .i64 0, .int .i64 0, .bool false, .slice none 0 0, .slice none 0 0, .bool false, .slice none 0 0, .slice none 0 0, .slice none 0 0, .string ⟨#[]⟩]).heap.size := Nat.le_trans hs48 hzW468
        clear hzW468 at44 hB45 x46 x47
        generalize W34.setRow (w.heap.size + 1) #[.int .i64 2, .int .i64 0, .int .i64 0, .bool false, .slice none 0 0, .slice none 0 0, .bool false, .slice none 0 0, .slice none 0 0, .slice none 0 0, .string ⟨#[]⟩] = W468 at *
        refine (HPI.out _ _ _ at470).mono ?_
        rintro en W475 (⟨p, j476, q477, v484, hm478, rfl, ⟨_, _, rfl, rfl, rfl⟩, hat479, hle480, hb481⟩ | ⟨j476, er482, hm478, rfl, hj483, hb481⟩)
        rotate_left
        · rw [bd_no hm478] at hr
          go_wp2
          exact post_panic (fn := Tryz.f181) rfl (Or.inr ⟨j476, er482, hr.symm, rfl, hj483, But.trans hB471 hb481⟩)
        rw [bd_ok hm478] at hr
        have at485 := hat479
        have hB486 : But g w W475 := But.trans hB471 hb481
        have x487 := x472.but hb481 (by omega)
        have x488 := x473.but hb481 (by omega)
        have hs489 : w.heap.size + 2 ≤ W475.heap.size := Nat.le_trans hs474 hb481.size
        clear hat479 hB471 x472 x473
        have pc1 := box_cell x488 1 (.int .i64 0) rfl
        have pf1 := Box.fr x488 1
        have pc2 := box_cell x488 2 (.int .i64 0) rfl
        have pf2 := Box.fr x488 2
        go_wp2_with fail
        clear pc1 pf1 pc2 pf2
        have ec491 : W475.setCell ⟨w.heap.size + 1, 1, none⟩ (.int .i64 p.1) = W475.setRow (w.heap.size + 1) #[.int .i64 2, .int .i64 p.1, .int .i64 0, .bool false, .slice none 0 0, .slice none 0 0, .bool false, .slice none 0 0, .slice none 0 0, .slice none 0 0, .string ⟨#[]⟩] := Box.cell_row x488 1 (.int .i64 p.1)
        rw [ec491]
        clear ec491
        have hzW490 : W475.heap.size ≤ (W475.setRow (w.heap.size + 1) #[.int .i64 2, .int .i64 p.1, .int .i64 0, .bool false, .slice none 0 0, .slice none 0 0, .bool false, .slice none 0 0, .slice none 0 0, .slice none 0 0, .string ⟨#[]⟩]).heap.size := by rw [size_row]; exact Nat.le_refl _
        have at492 := at485.row #[.int .i64 2, .int .i64 p.1, .int .i64 0, .bool false, .slice none 0 0, .slice none 0 0, .bool false, .slice none 0 0, .slice none 0 0, .slice none 0 0, .string ⟨#[]⟩] (k := w.heap.size + 1) (by omega) (by omega)
        have hB493 : But g w (W475.setRow (w.heap.size + 1) #[.int .i64 2, .int .i64 p.1, .int .i64 0, .bool false, .slice none 0 0, .slice none 0 0, .bool false, .slice none 0 0, .slice none 0 0, .slice none 0 0, .string ⟨#[]⟩]) := But.row hB486 (by omega) _
        have x494 := x487.other (j := w.heap.size + 1) #[.int .i64 2, .int .i64 p.1, .int .i64 0, .bool false, .slice none 0 0, .slice none 0 0, .bool false, .slice none 0 0, .slice none 0 0, .slice none 0 0, .string ⟨#[]⟩] (by omega)
        have x495 := x488.set #[.int .i64 2, .int .i64 p.1, .int .i64 0, .bool false, .slice none 0 0, .slice none 0 0, .bool false, .slice none 0 0, .slice none 0 0, .slice none 0 0, .string ⟨#[]⟩]
        have hs496 : w.heap.size + 2 ≤ (W475.setRow (w.heap.size + 1) #[.int .i64 2, .int .i64 p.1, .int .i64 0, .bool false, .slice none 0 0, .slice none 0 0, .bool false, .slice none 0 0, .slice none 0 0, .slice none 0 0, .string ⟨#[]⟩]).heap.size := Nat.le_trans hs489 hzW490
        clear hzW490 at485 hB486 x487 x488
        generalize W475.setRow (w.heap.size + 1) #[.int .i64 2, .int .i64 p.1, .int .i64 0, .bool false, .slice none 0 0, .slice none 0 0, .bool false, .slice none 0 0, .slice none 0 0, .slice none 0 0, .string ⟨#[]⟩] = W490 at *
        have ec498 : W490.setCell ⟨w.heap.size + 1, 2, none⟩ (.int .i64 p.2) = W490.setRow (w.heap.size + 1) #[.int .i64 2, .int .i64 p.1, .int .i64 p.2, .bool false, .slice none 0 0, .slice none 0 0, .bool false, .slice none 0 0, .slice none 0 0, .slice none 0 0, .string ⟨#[]⟩] := Box.cell_row x495 2 (.int .i64 p.2)
        rw [ec498]
        clear ec498
        have hzW497 : W490.heap.size ≤ (W490.setRow (w.heap.size + 1) #[.int .i64 2, .int .i64 p.1, .int .i64 p.2, .bool false, .slice none 0 0, .slice none 0 0, .bool false, .slice none 0 0, .slice none 0 0, .slice none 0 0, .string ⟨#[]⟩]).heap.size := by rw [size_row]; exact Nat.le_refl _
        have at499 := at492.row #[.int .i64 2, .int .i64 p.1, .int .i64 p.2, .bool false, .slice none 0 0, .slice none 0 0, .bool false, .slice none 0 0, .slice none 0 0, .slice none 0 0, .string ⟨#[]⟩] (k := w.heap.size + 1) (by omega) (by omega)
        have hB500 : But g w (W490.setRow (w.heap.size + 1) #[.int .i64 2, .int .i64 p.1, .int .i64 p.2, .bool false, .slice none 0 0, .slice none 0 0, .bool false, .slice none 0 0, .slice none 0 0, .slice none 0 0, .string ⟨#[]⟩]) := But.row hB493 (by omega) _
        have x501 := x494.other (j := w.heap.size + 1) #[.int .i64 2, .int .i64 p.1, .int .i64 p.2, .bool false, .slice none 0 0, .slice none 0 0, .bool false, .slice none 0 0, .slice none 0 0, .slice none 0 0, .string ⟨#[]⟩] (by omega)
        have x502 := x495.set #[.int .i64 2, .int .i64 p.1, .int .i64 p.2, .bool false, .slice none 0 0, .slice none 0 0, .bool false, .slice none 0 0, .slice none 0 0, .slice none 0 0, .string ⟨#[]⟩]
        have hs503 : w.heap.size + 2 ≤ (W490.setRow (w.heap.size + 1) #[.int .i64 2, .int .i64 p.1, .int .i64 p.2, .bool false, .slice none 0 0, .slice none 0 0, .bool false, .slice none 0 0, .slice none 0 0, .slice none 0 0, .string ⟨#[]⟩]).heap.size := Nat.le_trans hs496 hzW497
        clear hzW497 at492 hB493 x494 x495
        generalize W490.setRow (w.heap.size + 1) #[.int .i64 2, .int .i64 p.1, .int .i64 p.2, .bool false, .slice none 0 0, .slice none 0 0, .bool false, .slice none 0 0, .slice none 0 0, .slice none 0 0, .string ⟨#[]⟩] = W497 at *
        have hd := dr_rds (Q := Fr (w.heap.size + 2)) (w := W497) 2 p.1 p.2 [] [] zero_rds zero_rds nil_rd
        refine (HW.out _ _ _ [41] (by decide) at499).mono ?_
        rintro en W504 (⟨⟨⟩, j505, q506, v513, hm507, rfl, rfl, hat508, hle509, hb510⟩ | ⟨j505, er511, hm507, rfl, hj512, hb510⟩)
        rotate_left
        · rw [bd_no hm507] at hr
          go_wp2
          exact post_panic (fn := Tryz.f181) rfl (Or.inr ⟨j505, er511, hr.symm, rfl, hj512, But.trans hB500 hb510⟩)
        rw [bd_ok hm507] at hr
        have at514 := hat508
        have hB515 : But g w W504 := But.trans hB500 hb510
        have x516 := x501.but hb510 (by omega)
        have x517 := x502.but hb510 (by omega)
        have d518 := hd.but hb510 (by simp [Fr]; omega)
        have hs519 : w.heap.size + 2 ≤ W504.heap.size := Nat.le_trans hs503 hb510.size
        clear hat508 hB500 x501 x502 hd
        clear hm507
        have onesF := Rds.all d518
        go_wp2_with (first | (refine wpList_load_row rfl 59 (.tmp 3) rfl (w.heap.size + 1) rfl 59 _ (0, 0) (.struct _) x517 rfl rfl (by kernel_rfl) ?_) | (refine wpList_store_row rfl 59 (.tmp 2) (.tmp 92) rfl w.heap.size _ rfl rfl 59 _ x516 (by kernel_rfl) rfl onesF ?_))
        refine bodyPost_ret (results_cell_row rfl _ _ w.heap.size _ _ _ (.struct _) rfl (x516.set _) rfl rfl (by kernel_rfl)) rfl ?_
        exact Or.inl ⟨⟨2, p.1, p.2, .zero, .zero, [], []⟩, j505, q506, _, hr.symm, rfl, ⟨_, _, _, _, _, _, _, _, _, _, _, rfl, (d518.row (by simp [Fr]) _).in fun k hk => by simp [Fr] at hk ⊢; omega⟩, at514.row _ hsz hbz, by omega, But.row hB515 (Nat.le_refl _) _⟩
    · simp only [if_true] at hr
      have hop520 := opn_yes hm21
      clear hm21
      go_wp2_with fail
      refine (HX.out _ _ _ at28 (by omega)).mono ?_
      rintro en W522 (⟨x, j523, q524, v531, hm525, rfl, ⟨x0, x1, x2, x3, x4, x5, x6, rfl, hv521⟩, hat526, hle527, hb528⟩ | ⟨j523, er529, hm525, rfl, hj530, hb528⟩)
      rotate_left
      · rw [bd_no hm525] at hr
        go_wp2
        exact post_panic (fn := Tryz.f181) rfl (Or.inr ⟨j523, er529, hr.symm, rfl, hj530, But.trans hB29 hb528⟩)
      rw [bd_ok hm525] at hr
      have at532 := hat526
      have hB533 : But g w W522 := But.trans hB29 hb528
      have x534 := x30.but hb528 (by omega)
      have x535 := x31.but hb528 (by omega)
      have hs536 : w.heap.size + 2 ≤ W522.heap.size := Nat.le_trans hs32 hb528.size
      clear hat526 hB29 x30 x31
      have d537 : Rds (Fr (w.heap.size + 2)) W522 x.d [x0, x1, x2, x3, x4, x5, x6] := hv521.in fun k hk => Nat.le_trans (by assumption) hk
      clear hv521
      have bl := allocB W522 (.cells #[x0, x1, x2, x3, x4, x5, x6] 53)
      have dl : Rd (Fr (w.heap.size + 2)) (W522.alloc (.cells #[x0, x1, x2, x3, x4, x5, x6] 53)) (.l 7 (dsE [x])) (.slice (some ⟨W522.heap.size, 0, none⟩) 1 1) := by
        have := Rds.laidQ (sz := 7) (n := 1) 53 d537 (by simp [Ex.d_len]) (show w.heap.size + 2 ≤ W522.heap.size by assumption) (by decide)
        simpa [dsE] using this
      have xa := x535.new bl
      go_wp2_with (refine wpList_store_row rfl 59 (.tmp 3) (.tmp 19) rfl (w.heap.size + 1) _ rfl rfl 59 _ xa (by kernel_rfl) rfl (by simp [Value.oneCell']) ?_)
      clear xa
      have at538 := at532.new bl
      have hB539 : But g w (W522.alloc (.cells #[x0, x1, x2, x3, x4, x5, x6] 53)) := But.trans hB533 (But.of_below bl)
      have x540 := x534.new bl
      have x541 := x535.new bl
      have hs542 : w.heap.size + 2 ≤ (W522.alloc (.cells #[x0, x1, x2, x3, x4, x5, x6] 53)).heap.size := Nat.le_trans hs536 bl.size
      clear at532 hB533 x534 x535
      generalize W522.alloc (.cells #[x0, x1, x2, x3, x4, x5, x6] 53) = WA at *
      generalize hgA : W522.heap.size = PA at *
      clear hgA bl
      have hd := dr_rds (Q := Fr (w.heap.size + 2)) (w := WA) 1 0 0 [x] [] zero_rds zero_rds dl
      have hzW543 : WA.heap.size ≤ (WA.setRow (w.heap.size + 1) #[.int .i64 1, .int .i64 0, .int .i64 0, .bool false, .slice none 0 0, .slice none 0 0, .bool false, .slice none 0 0, .slice none 0 0, .slice (some ⟨PA, 0, none⟩) 1 1, .string ⟨#[]⟩]).heap.size := by rw [size_row]; exact Nat.le_refl _
      have at544 := at538.row #[.int .i64 1, .int .i64 0, .int .i64 0, .bool false, .slice none 0 0, .slice none 0 0, .bool false, .slice none 0 0, .slice none 0 0, .slice (some ⟨PA, 0, none⟩) 1 1, .string ⟨#[]⟩] (k := w.heap.size + 1) (by omega) (by omega)
      have hB545 : But g w (WA.setRow (w.heap.size + 1) #[.int .i64 1, .int .i64 0, .int .i64 0, .bool false, .slice none 0 0, .slice none 0 0, .bool false, .slice none 0 0, .slice none 0 0, .slice (some ⟨PA, 0, none⟩) 1 1, .string ⟨#[]⟩]) := But.row hB539 (by omega) _
      have x546 := x540.other (j := w.heap.size + 1) #[.int .i64 1, .int .i64 0, .int .i64 0, .bool false, .slice none 0 0, .slice none 0 0, .bool false, .slice none 0 0, .slice none 0 0, .slice (some ⟨PA, 0, none⟩) 1 1, .string ⟨#[]⟩] (by omega)
      have x547 := x541.set #[.int .i64 1, .int .i64 0, .int .i64 0, .bool false, .slice none 0 0, .slice none 0 0, .bool false, .slice none 0 0, .slice none 0 0, .slice (some ⟨PA, 0, none⟩) 1 1, .string ⟨#[]⟩]
      have d548 := hd.row (k := w.heap.size + 1) (by simp [Fr]) #[.int .i64 1, .int .i64 0, .int .i64 0, .bool false, .slice none 0 0, .slice none 0 0, .bool false, .slice none 0 0, .slice none 0 0, .slice (some ⟨PA, 0, none⟩) 1 1, .string ⟨#[]⟩]
      have hs549 : w.heap.size + 2 ≤ (WA.setRow (w.heap.size + 1) #[.int .i64 1, .int .i64 0, .int .i64 0, .bool false, .slice none 0 0, .slice none 0 0, .bool false, .slice none 0 0, .slice none 0 0, .slice (some ⟨PA, 0, none⟩) 1 1, .string ⟨#[]⟩]).heap.size := Nat.le_trans hs542 hzW543
      clear hzW543 at538 hB539 x540 x541 hd
      generalize WA.setRow (w.heap.size + 1) #[.int .i64 1, .int .i64 0, .int .i64 0, .bool false, .slice none 0 0, .slice none 0 0, .bool false, .slice none 0 0, .slice none 0 0, .slice (some ⟨PA, 0, none⟩) 1 1, .string ⟨#[]⟩] = W543 at *
      refine (HW.out _ _ _ [41] (by decide) at544).mono ?_
      rintro en W550 (⟨⟨⟩, j551, q552, v559, hm553, rfl, rfl, hat554, hle555, hb556⟩ | ⟨j551, er557, hm553, rfl, hj558, hb556⟩)
      rotate_left
      · rw [bd_no hm553] at hr
        go_wp2
        exact post_panic (fn := Tryz.f181) rfl (Or.inr ⟨j551, er557, hr.symm, rfl, hj558, But.trans hB545 hb556⟩)
      rw [bd_ok hm553] at hr
      have at560 := hat554
      have hB561 : But g w W550 := But.trans hB545 hb556
      have x562 := x546.but hb556 (by omega)
      have x563 := x547.but hb556 (by omega)
      have d564 := d548.but hb556 (by simp [Fr]; omega)
      have hs565 : w.heap.size + 2 ≤ W550.heap.size := Nat.le_trans hs549 hb556.size
      clear hat554 hB545 x546 x547 d548
      clear hm553
      have onesF := Rds.all d564
      go_wp2_with (first | (refine wpList_load_row rfl 59 (.tmp 3) rfl (w.heap.size + 1) rfl 59 _ (0, 0) (.struct _) x563 rfl rfl (by kernel_rfl) ?_) | (refine wpList_store_row rfl 59 (.tmp 2) (.tmp 92) rfl w.heap.size _ rfl rfl 59 _ x562 (by kernel_rfl) rfl onesF ?_))
      refine bodyPost_ret (results_cell_row rfl _ _ w.heap.size _ _ _ (.struct _) rfl (x562.set _) rfl rfl (by kernel_rfl)) rfl ?_
      exact Or.inl ⟨⟨1, 0, 0, .zero, .zero, [x], []⟩, j551, q552, _, hr.symm, rfl, ⟨_, _, _, _, _, _, _, _, _, _, _, rfl, (d564.row (by simp [Fr]) _).in fun k hk => by simp [Fr] at hk ⊢; omega⟩, at560.row _ hsz hbz, by omega, But.row hB561 (Nat.le_refl _) _⟩
  · simp only [if_true] at hr
    obtain ⟨rfl, _⟩ := acc_yes hm5
    clear hm5
    go_wp2_with fail
    refine (HNM.out _ _ _ at12).mono ?_
    rintro en W566 (⟨s, j567, q568, v575, hm569, rfl, rfl, hat570, hle571, hb572⟩ | ⟨j567, er573, hm569, rfl, hj574, hb572⟩)
    rotate_left
    · rw [bd_no hm569] at hr
      go_wp2
      exact post_panic (fn := Tryz.f181) rfl (Or.inr ⟨j567, er573, hr.symm, rfl, hj574, But.trans hB13 hb572⟩)
    rw [bd_ok hm569] at hr
    have at576 := hat570
    have hB577 : But g w W566 := But.trans hB13 hb572
    have x578 := x14.but hb572 (by omega)
    have x579 := x15.but hb572 (by omega)
    have hs580 : w.heap.size + 2 ≤ W566.heap.size := Nat.le_trans hs16 hb572.size
    clear hat570 hB13 x14 x15
    have hd := dr_rds (Q := Fr (w.heap.size + 2)) (w := W566) 8 0 0 [] s zero_rds zero_rds nil_rd
    go_wp2_with (refine wpList_store_row rfl 59 (.tmp 2) (.tmp 12) rfl w.heap.size _ rfl rfl 59 _ x578 (by kernel_rfl) rfl (by simp [Value.oneCell']) ?_)
    refine bodyPost_ret (results_cell_row rfl _ _ w.heap.size _ _ _ (.struct _) rfl (x578.set _) rfl rfl (by kernel_rfl)) rfl ?_
    exact Or.inl ⟨⟨8, 0, 0, .zero, .zero, [], s⟩, j567, q568, _, hr.symm, rfl, ⟨_, _, _, _, _, _, _, _, _, _, _, rfl, (hd.row (by simp [Fr]) _).in fun k hk => by simp [Fr] at hk ⊢; omega⟩, at576.row _ hsz hbz, by omega, But.row hB577 (Nat.le_refl _) _⟩
end Ps
end Go.Proofs.YtggdhgppclnckaaGreatDoor
