/-
  Postfix operators.
-/
import Derived.Test.YtggdhgppclnckaaGreatDoorPasI
namespace Go.Proofs.YtggdhgppclnckaaGreatDoor
open Go Go.RowKit Lx
set_option maxRecDepth 20000

namespace Ps
variable {w : World} {g b n c : Nat} {L : List Tok} {i : Nat} {o : Int}
set_option maxHeartbeats 8000000 in
theorem postfix_x {X : P Ex} {q : Nat} (hx : Does g b n c L 166 rdE X q) (hp : Does g b n c L 251 rdE (prim L X) (q + 1)) : Does g b n c L 239 rdE (post L X) (q + 1) := by
  intro w i o h hq
  generalize hr : post L X i o = r
  unfold post at hr
  have HX := Lib.hid hx
  have HA := HA_ (g := g) (b := b) (n := n) (c := c) (L := L)
  have HWT := HW_ (g := g) (b := b) (n := n) (c := c) (L := L)
  have HNU : Hid (∀ W j q, At W g b n c L j q → Calls Tryz.prog 164 #[.pointer (some ⟨g, 0, none⟩)] W (Giv g b n c L (rdN W.heap.size) W j 1 (number L j q))) := fun W j q hW => number_x hW
  have hsz := h.cs.size
  have hbz := h.hb
  have hLn := h.hn
  obtain ⟨S, hS⟩ : ∃ S, w.heap.size = S := ⟨_, rfl⟩
  have H1 := Lib.hid (fun W => fun hW : Below w.heap.size w W => hp W i o (h.new hW) hq)
  clear hx hp h
  have b0 := allocB w (.cells #[.int .i64 0, .int .i64 0, .bool false, .slice none 0 0, .slice none 0 0, .string ⟨#[]⟩, .slice none 0 0] 53)
  have x6 := box_alloc w 53 #[.int .i64 0, .int .i64 0, .bool false, .slice none 0 0, .slice none 0 0, .string ⟨#[]⟩, .slice none 0 0]
  go_enter Tryz.func239, Tryz.ntmps239
  go_wp2_with fail
  have H2 := Lib.hid (H1.out _ b0)
  have sz0 := b0.size
  have sz1 := x6.lt
  generalize w.alloc (.cells #[.int .i64 0, .int .i64 0, .bool false, .slice none 0 0, .slice none 0 0, .string ⟨#[]⟩, .slice none 0 0] 53) = w0 at *
  refine H2.out.mono ?_
  rintro en w1 (⟨a, j, q1, v, hm, rfl, ⟨a0, a1, a2, a3, a4, a5, a6, rfl, hv⟩, hat, hle, hb⟩ | ⟨j, er, hm, rfl, hj, hb⟩)
  · rw [bd_ok hm] at hr
    have HR := Lib.hid hr
    have y6 := (x6.but hb (by omega)).new (allocB w1 (.cells #[a0, a1, a2, a3, a4, a5, a6] 53))
    have y7 := box_alloc w1 53 #[a0, a1, a2, a3, a4, a5, a6]
    have hat1 := hat.new (allocB w1 (.cells #[a0, a1, a2, a3, a4, a5, a6] 53))
    have HB1 : Hid (But g w (w1.alloc (.cells #[a0, a1, a2, a3, a4, a5, a6] 53))) := ((But.of_below b0).trans hb).trans (But.of_below (allocB w1 _))
    have HV1 : Hid (Rds (Ob S w1.heap.size) (w1.alloc (.cells #[a0, a1, a2, a3, a4, a5, a6] 53)) a.d [a0, a1, a2, a3, a4, a5, a6]) := hv.keep (allocB w1 _).size (fun k _ hk => (allocB w1 _).block k hk) fun k hk hlt => by simp [Fr] at hk; simp [Ob]; omega
    have s1 := hb.size
    have ones : (#[a0, a1, a2, a3, a4, a5, a6] : Array Value).all (·.oneCell') = true := hv.all
    clear hm H1 H2 hat hv hb x6 hr
    go_wp2_with (refine wpList_store_row rfl 53 (.tmp 3) (.tmp 5) rfl w1.heap.size _ rfl rfl 53 _ (box_alloc w1 53 #[.int .i64 0, .int .i64 0, .bool false, .slice none 0 0, .slice none 0 0, .string ⟨#[]⟩, .slice none 0 0]) (by kernel_rfl) rfl ones ?_)
    rw [World.setRow_alloc_new]
    simp only [Act.put]
    have s7 := y7.lt
    generalize w1.alloc (.cells #[a0, a1, a2, a3, a4, a5, a6] 53) = w1' at *
    generalize hs1 : w1.heap.size = eb at *
    generalize w0.heap.size = S0 at *
    clear ones
    go_loopg [7] L.length (fun k tv wr => ∃ (e : Ex) (e0 e1 e2 e3 e4 e5 e6 : Value) (j : Nat) (q' : Int), (tv = undef ∨ tv ≠ undef) ∧ Hid (postF L X k e j q' = r) ∧ At wr g b n c L j q' ∧ Box wr eb 53 #[e0, e1, e2, e3, e4, e5, e6] ∧ Box wr S 53 #[.int .i64 0, .int .i64 0, .bool false, .slice none 0 0, .slice none 0 0, .string ⟨#[]⟩, .slice none 0 0] ∧ Hid (Rds (Ob S eb) wr e.d [e0, e1, e2, e3, e4, e5, e6]) ∧ Hid (But g w wr) ∧ i ≤ j ∧ n ≤ k + j)
    case atStart => exact ⟨a, _, _, _, _, _, _, _, j, q1, Classical.em _, HR.out, hat1, y7, hS ▸ y6, HV1.out, HB1.out, by omega, by omega⟩
    case round =>
      obtain ⟨e, e0, e1, e2, e3, e4, e5, e6, j, q', _, hk, hw, z7, z6, HEV, HB, hij, hnk⟩ := hrel
      clear HR hat1 y7 y6 HV1 HB1
      have hi := hw.hi
      have hl := hw.len
      cases gk with
      | zero => omega
      | succ gk =>
        have hk2 := hk.out
        unfold postF at hk2
        clear hk
        have hSr := HB.out.size
        have hz7 := z7.lt
        go_wp2_with fail
        refine (HA.out _ _ _ [46] (by decide) hw).mono ?_
        rintro en w5 (⟨t, j2, q2, v, hm, rfl, rfl, hat5, hle5, hb5⟩ | ⟨j2, er, hm, rfl, hj2, hb5⟩)
        rotate_left
        · rw [bd_no hm] at hk2
          go_wp2
          exact post_panic (fn := Tryz.f239) rfl (Or.inr ⟨j2, er, hk2.symm, rfl, hj2, HB.out.trans hb5⟩)
        rw [bd_ok hm] at hk2
        have s5 := hb5.size
        have z7n := z7.but hb5 (by omega)
        have z6n := z6.but hb5 (by omega)
        clear z7 z6
        cases t
        · obtain ⟨rfl, rfl, _⟩ := acc_not hm
          simp only [Bool.false_eq_true, if_false] at hk2
          clear hm
          have HB' : Hid (But g w w5) := HB.out.trans hb5
          have HEV' : Hid (Rds (Ob S eb) w5 e.d [e0, e1, e2, e3, e4, e5, e6]) := HEV.out.but hb5 (by simp [Ob]; omega)
          clear HB HEV hb5
          go_wp2_with fail
          refine (HA.out _ _ _ [91] (by decide) hat5).mono ?_
          rintro en w4 (⟨t, j4, q4, v, hm, rfl, rfl, hat4, hle4, hb4⟩ | ⟨j4, er, hm, rfl, hj4, hb4⟩)
          rotate_left
          · rw [bd_no hm] at hk2
            go_wp2
            exact post_panic (fn := Tryz.f239) rfl (Or.inr ⟨j4, er, hk2.symm, rfl, hj4, HB'.out.trans hb4⟩)
          rw [bd_ok hm] at hk2
          have s4 := hb4.size
          have z7m := z7n.but hb4 (by omega)
          have z6m := z6n.but hb4 (by omega)
          clear z7n z6n
          cases t
          · obtain ⟨rfl, rfl, _⟩ := acc_not hm
            simp only [Bool.false_eq_true, if_false] at hk2
            have ones : (#[e0, e1, e2, e3, e4, e5, e6] : Array Value).all (·.oneCell') = true := (HEV'.out).all
            go_wp2_with (first | (refine wpList_load_row rfl 53 (.tmp 3) rfl eb rfl 53 _ (0, 0) (.struct _) z7m rfl rfl (by kernel_rfl) ?_) | (refine wpList_store_row rfl 53 (.tmp 2) (.tmp 6) rfl S _ rfl rfl 53 _ z6m (by kernel_rfl) rfl ones ?_))
            refine bodyPost_ret (results_cell_row rfl _ _ S _ _ _ (.struct _) rfl (z6m.set _) rfl rfl (by kernel_rfl)) rfl ?_
            exact Or.inl ⟨e, _, _, _, hk2.symm, rfl, ⟨_, _, _, _, _, _, _, rfl, ((HEV'.out.but hb4 (by simp [Ob]; omega)).row (by simp [Ob]) _).in (fun k hk => by simp [Ob] at hk; simp [Fr]; omega)⟩, hat4.row _ (by omega) (by omega), by omega, But.row (HB'.out.trans hb4) (by omega) _⟩
          · obtain ⟨rfl, _⟩ := acc_yes hm
            simp only [if_true] at hk2
            have HK3 := Lib.hid hk2
            have H3 := Lib.hid (HX.out w4.drew _ q4 (hat4.drewN 1) (by omega))
            clear hk2 hm
            have HB5' : Hid (But g w w4.drew) := (HB'.out.trans hb4).drewN 1
            have HE5 : Hid (Rds (Ob S eb) w4.drew e.d [e0, e1, e2, e3, e4, e5, e6]) := ((HEV'.out.but hb4 (by simp [Ob]; omega)).keep (Nat.le_refl _) (fun _ _ _ => rfl) fun _ h _ => h)
            have z7' : Box w4.drew eb 53 #[e0, e1, e2, e3, e4, e5, e6] := z7m.drewN 1
            have z6' : Box w4.drew S 53 #[.int .i64 0, .int .i64 0, .bool false, .slice none 0 0, .slice none 0 0, .string ⟨#[]⟩, .slice none 0 0] := z6m.drewN 1
            have s5' : w4.drew.heap.size = w4.heap.size := rfl
            clear z7m z6m
            go_wp2
            refine wp_region_held_drew (S := fun _ => True) (by kernel_rfl) ?_ (fun hHeld => ?_)
            · trivial
            refine tkH (i := 1) (oi := ⟨some 19, _, _, _, _, _⟩) (v := ?_) ?_ ?_
            rotate_left
            · intro W hSw
              go_simp
              try with_reducible rfl
            try simp only [Act.put, List.setIfInBounds_toArray, List.set_cons_zero, List.set_cons_succ]
            refine wpAnyH_ready (rs := [0, 2]) (by kernel_rfl) (by simp) ?_
            refine AllReadyH.cons (o := ⟨some 18, _, _, _, _, _⟩) rfl (fun K hK => ?_) (AllReadyH.cons (o := ⟨some 20, _, _, _, _, _⟩) rfl (fun K hK => ?_) (AllReadyH.nil))
            · rw [if_pos (by rfl)]
              refine wp_load_row 53 (.tmp 3) rfl (eb) rfl 53 _ (0, 0) (.struct _) (z7') rfl rfl (by kernel_rfl) ?_
              refine hK.out _ _ (trivial) (fun hHeld => ?_)
              clear hK K
              try simp only [Act.put, List.setIfInBounds_toArray, List.set_cons_zero, List.set_cons_succ]
              refine wpAnyH_ready (rs := [2]) (by kernel_rfl) (by simp) ?_
              refine AllReadyH.cons (o := ⟨some 20, _, _, _, _, _⟩) rfl (fun K hK => ?_) AllReadyH.nil
              go_simp
              clear hHeld
              refine H3.out.mono ?_
              rintro en w6 (⟨x, j3, q3, v, hm3, rfl, ⟨x0, x1, x2, x3, x4, x5, x6, rfl, hvx⟩, hat6, hle3, hb6⟩ | ⟨j3, er, hm3, rfl, hj3, hb6⟩)
              rotate_left
              · have hk6 := HK3.out
                rw [bd_no hm3] at hk6
                exact post_panic (fn := Tryz.f239) rfl (Or.inr ⟨j3, er, hk6.symm, rfl, hj3, HB5'.out.trans hb6⟩)
              have hk6 := HK3.out
              rw [bd_ok hm3] at hk6
              have s6 := hb6.size
              have y7 := z7'.but hb6 (by omega)
              have hve := HE5.out.but hb6 (by simp [Ob]; omega)
              have hvy : Rds (Ob S eb) w6 x.d [x0, x1, x2, x3, x4, x5, x6] := hvx.in (fun k hk => by simp [Fr] at hk; simp [Ob]; omega)
              refine hK.out _ _ (trivial) (fun hHeld => ?_)
              clear hK K
              try simp only [Act.put, List.setIfInBounds_toArray, List.set_cons_zero, List.set_cons_succ]
              refine wpAnyH_ready (rs := [3]) (by kernel_rfl) (by simp) ?_
              refine AllReadyH.cons (o := ⟨some 21, _, _, _, _, _⟩) rfl (fun K hK => ?_) AllReadyH.nil
              go_simp
              refine hK.out _ _ (trivial) (fun hHeld => ?_)
              clear hK K
              try simp only [Act.put, List.setIfInBounds_toArray, List.set_cons_zero, List.set_cons_succ]
              refine wpAnyH_ready (rs := [4]) (by kernel_rfl) (by simp) ?_
              refine AllReadyH.cons (o := ⟨some 22, _, _, _, _, _⟩) rfl (fun K hK => ?_) AllReadyH.nil
              go_simp
              refine (node_x _ _ _ _ _).mono ?_
              rintro en w7 ⟨rfl, hb7⟩
              refine hK.out _ _ (trivial) (fun hHeld => ?_)
              clear hK K
              try simp only [Act.put, List.setIfInBounds_toArray, List.set_cons_zero, List.set_cons_succ]
              refine wpAnyH_ready (rs := [5]) (by kernel_rfl) (by simp) ?_
              refine AllReadyH.cons (o := ⟨none, _, _, _, _, _⟩) rfl (fun K hK => ?_) AllReadyH.nil
              rw [if_pos (by rfl)]
              refine wp_store_row 53 (.tmp 3) (.tmp 22) rfl (eb) _ rfl rfl 53 _ (Box.new (Box.new y7 (allocB _ _)) hb7) (by kernel_rfl) rfl (by simp [Value.oneCell']) ?_
              refine hK.out _ _ (trivial) (fun hHeld => ?_)
              clear hK K
              try simp only [Act.put]
              refine wpAnyH_done (by kernel_rfl) ?_ _
              have hl7 : Rd (Ob S eb) w7 (.l 7 (dsE [e, x])) (.slice (some ⟨w6.heap.size, 0, none⟩) 2 2) := by
                have := (Rds.laidQ (sz := 7) (n := 2) 53 (hve.app hvy) (by simp [Ex.d_len]) (by simp [Ob]; omega) (by decide)).new hb7
                simpa [dsE] using this
              have s7 := hb7.size
              have sa := (allocB w6 (.cells #[e0, e1, e2, e3, e4, e5, e6, x0, x1, x2, x3, x4, x5, x6] 53)).size
              have hat8 := ((hat6.new (allocB w6 (.cells #[e0, e1, e2, e3, e4, e5, e6, x0, x1, x2, x3, x4, x5, x6] 53))).new hb7).row #[.int .i64 21, .int .i64 0, .bool false, .slice none 0 0, .slice none 0 0, .string ⟨#[]⟩, .slice (some ⟨w6.heap.size, 0, none⟩) 2 2] (k := eb) (by omega) (by omega)
              have b8 := Box.set (Box.new (Box.new y7 (allocB w6 (.cells #[e0, e1, e2, e3, e4, e5, e6, x0, x1, x2, x3, x4, x5, x6] 53))) hb7) #[.int .i64 21, .int .i64 0, .bool false, .slice none 0 0, .slice none 0 0, .string ⟨#[]⟩, .slice (some ⟨w6.heap.size, 0, none⟩) 2 2]
              have b6 := Box.other (j := eb) (Box.new (Box.new (z6'.but hb6 (by omega)) (allocB w6 (.cells #[e0, e1, e2, e3, e4, e5, e6, x0, x1, x2, x3, x4, x5, x6] 53))) hb7) #[.int .i64 21, .int .i64 0, .bool false, .slice none 0 0, .slice none 0 0, .string ⟨#[]⟩, .slice (some ⟨w6.heap.size, 0, none⟩) 2 2] (by omega)
              have d8 := (node_rds 21 _ hl7).row (k := eb) (by simp [Ob]) #[.int .i64 21, .int .i64 0, .bool false, .slice none 0 0, .slice none 0 0, .string ⟨#[]⟩, .slice (some ⟨w6.heap.size, 0, none⟩) 2 2]
              have HB8 : Hid (But g w (w7.setRow eb #[.int .i64 21, .int .i64 0, .bool false, .slice none 0 0, .slice none 0 0, .string ⟨#[]⟩, .slice (some ⟨w6.heap.size, 0, none⟩) 2 2])) := But.row (((HB5'.out.trans hb6).trans (But.of_below (allocB _ _))).trans (But.of_below hb7)) (by omega) _
              go_wp2_with fail
              have s8 := size_row w7 eb #[.int .i64 21, .int .i64 0, .bool false, .slice none 0 0, .slice none 0 0, .string ⟨#[]⟩, .slice (some ⟨w6.heap.size, 0, none⟩) 2 2]
              generalize w7.setRow eb #[.int .i64 21, .int .i64 0, .bool false, .slice none 0 0, .slice none 0 0, .string ⟨#[]⟩, .slice (some ⟨w6.heap.size, 0, none⟩) 2 2] = w8 at *
              refine (HWT.out _ _ _ [93] (by decide) hat8).mono ?_
              rintro en w9 (⟨⟨⟩, j4, q4, v, hm4, rfl, rfl, hat9, hle4, hb9⟩ | ⟨j4, er, hm4, rfl, hj4, hb9⟩)
              rotate_left
              · rw [bd_no hm4] at hk6
                go_wp2
                exact post_panic (fn := Tryz.f239) rfl (Or.inr ⟨j4, er, hk6.symm, rfl, hj4, HB8.out.trans hb9⟩)
              rw [bd_ok hm4] at hk6
              go_wp2
              go_roundg gk
              case measure => omega
              case rel => exact ⟨node 21 [e, x], _, _, _, _, _, _, _, j4, q4, Classical.em _, hk6, hat9, b8.but hb9 (by omega), b6.but hb9 (by omega), d8.but hb9 (by simp [Ob]; omega), HB8.out.trans hb9, by omega, by omega⟩
            · go_simp
              clear hHeld
              refine H3.out.mono ?_
              rintro en w6 (⟨x, j3, q3, v, hm3, rfl, ⟨x0, x1, x2, x3, x4, x5, x6, rfl, hvx⟩, hat6, hle3, hb6⟩ | ⟨j3, er, hm3, rfl, hj3, hb6⟩)
              rotate_left
              · have hk6 := HK3.out
                rw [bd_no hm3] at hk6
                exact post_panic (fn := Tryz.f239) rfl (Or.inr ⟨j3, er, hk6.symm, rfl, hj3, HB5'.out.trans hb6⟩)
              have hk6 := HK3.out
              rw [bd_ok hm3] at hk6
              have s6 := hb6.size
              have y7 := z7'.but hb6 (by omega)
              have hve := HE5.out.but hb6 (by simp [Ob]; omega)
              have hvy : Rds (Ob S eb) w6 x.d [x0, x1, x2, x3, x4, x5, x6] := hvx.in (fun k hk => by simp [Fr] at hk; simp [Ob]; omega)
              refine hK.out _ _ (trivial) (fun hHeld => ?_)
              clear hK K
              try simp only [Act.put, List.setIfInBounds_toArray, List.set_cons_zero, List.set_cons_succ]
              refine wpAnyH_ready (rs := [0]) (by kernel_rfl) (by simp) ?_
              refine AllReadyH.cons (o := ⟨some 18, _, _, _, _, _⟩) rfl (fun K hK => ?_) AllReadyH.nil
              rw [if_pos (by rfl)]
              refine wp_load_row 53 (.tmp 3) rfl (eb) rfl 53 _ (0, 0) (.struct _) (y7) rfl rfl (by kernel_rfl) ?_
              refine hK.out _ _ (trivial) (fun hHeld => ?_)
              clear hK K
              try simp only [Act.put, List.setIfInBounds_toArray, List.set_cons_zero, List.set_cons_succ]
              refine wpAnyH_ready (rs := [3]) (by kernel_rfl) (by simp) ?_
              refine AllReadyH.cons (o := ⟨some 21, _, _, _, _, _⟩) rfl (fun K hK => ?_) AllReadyH.nil
              go_simp
              refine hK.out _ _ (trivial) (fun hHeld => ?_)
              clear hK K
              try simp only [Act.put, List.setIfInBounds_toArray, List.set_cons_zero, List.set_cons_succ]
              refine wpAnyH_ready (rs := [4]) (by kernel_rfl) (by simp) ?_
              refine AllReadyH.cons (o := ⟨some 22, _, _, _, _, _⟩) rfl (fun K hK => ?_) AllReadyH.nil
              go_simp
              refine (node_x _ _ _ _ _).mono ?_
              rintro en w7 ⟨rfl, hb7⟩
              refine hK.out _ _ (trivial) (fun hHeld => ?_)
              clear hK K
              try simp only [Act.put, List.setIfInBounds_toArray, List.set_cons_zero, List.set_cons_succ]
              refine wpAnyH_ready (rs := [5]) (by kernel_rfl) (by simp) ?_
              refine AllReadyH.cons (o := ⟨none, _, _, _, _, _⟩) rfl (fun K hK => ?_) AllReadyH.nil
              rw [if_pos (by rfl)]
              refine wp_store_row 53 (.tmp 3) (.tmp 22) rfl (eb) _ rfl rfl 53 _ (Box.new (Box.new y7 (allocB _ _)) hb7) (by kernel_rfl) rfl (by simp [Value.oneCell']) ?_
              refine hK.out _ _ (trivial) (fun hHeld => ?_)
              clear hK K
              try simp only [Act.put]
              refine wpAnyH_done (by kernel_rfl) ?_ _
              have hl7 : Rd (Ob S eb) w7 (.l 7 (dsE [e, x])) (.slice (some ⟨w6.heap.size, 0, none⟩) 2 2) := by
                have := (Rds.laidQ (sz := 7) (n := 2) 53 (hve.app hvy) (by simp [Ex.d_len]) (by simp [Ob]; omega) (by decide)).new hb7
                simpa [dsE] using this
              have s7 := hb7.size
              have sa := (allocB w6 (.cells #[e0, e1, e2, e3, e4, e5, e6, x0, x1, x2, x3, x4, x5, x6] 53)).size
              have hat8 := ((hat6.new (allocB w6 (.cells #[e0, e1, e2, e3, e4, e5, e6, x0, x1, x2, x3, x4, x5, x6] 53))).new hb7).row #[.int .i64 21, .int .i64 0, .bool false, .slice none 0 0, .slice none 0 0, .string ⟨#[]⟩, .slice (some ⟨w6.heap.size, 0, none⟩) 2 2] (k := eb) (by omega) (by omega)
              have b8 := Box.set (Box.new (Box.new y7 (allocB w6 (.cells #[e0, e1, e2, e3, e4, e5, e6, x0, x1, x2, x3, x4, x5, x6] 53))) hb7) #[.int .i64 21, .int .i64 0, .bool false, .slice none 0 0, .slice none 0 0, .string ⟨#[]⟩, .slice (some ⟨w6.heap.size, 0, none⟩) 2 2]
              have b6 := Box.other (j := eb) (Box.new (Box.new (z6'.but hb6 (by omega)) (allocB w6 (.cells #[e0, e1, e2, e3, e4, e5, e6, x0, x1, x2, x3, x4, x5, x6] 53))) hb7) #[.int .i64 21, .int .i64 0, .bool false, .slice none 0 0, .slice none 0 0, .string ⟨#[]⟩, .slice (some ⟨w6.heap.size, 0, none⟩) 2 2] (by omega)
              have d8 := (node_rds 21 _ hl7).row (k := eb) (by simp [Ob]) #[.int .i64 21, .int .i64 0, .bool false, .slice none 0 0, .slice none 0 0, .string ⟨#[]⟩, .slice (some ⟨w6.heap.size, 0, none⟩) 2 2]
              have HB8 : Hid (But g w (w7.setRow eb #[.int .i64 21, .int .i64 0, .bool false, .slice none 0 0, .slice none 0 0, .string ⟨#[]⟩, .slice (some ⟨w6.heap.size, 0, none⟩) 2 2])) := But.row (((HB5'.out.trans hb6).trans (But.of_below (allocB _ _))).trans (But.of_below hb7)) (by omega) _
              go_wp2_with fail
              have s8 := size_row w7 eb #[.int .i64 21, .int .i64 0, .bool false, .slice none 0 0, .slice none 0 0, .string ⟨#[]⟩, .slice (some ⟨w6.heap.size, 0, none⟩) 2 2]
              generalize w7.setRow eb #[.int .i64 21, .int .i64 0, .bool false, .slice none 0 0, .slice none 0 0, .string ⟨#[]⟩, .slice (some ⟨w6.heap.size, 0, none⟩) 2 2] = w8 at *
              refine (HWT.out _ _ _ [93] (by decide) hat8).mono ?_
              rintro en w9 (⟨⟨⟩, j4, q4, v, hm4, rfl, rfl, hat9, hle4, hb9⟩ | ⟨j4, er, hm4, rfl, hj4, hb9⟩)
              rotate_left
              · rw [bd_no hm4] at hk6
                go_wp2
                exact post_panic (fn := Tryz.f239) rfl (Or.inr ⟨j4, er, hk6.symm, rfl, hj4, HB8.out.trans hb9⟩)
              rw [bd_ok hm4] at hk6
              go_wp2
              go_roundg gk
              case measure => omega
              case rel => exact ⟨node 21 [e, x], _, _, _, _, _, _, _, j4, q4, Classical.em _, hk6, hat9, b8.but hb9 (by omega), b6.but hb9 (by omega), d8.but hb9 (by simp [Ob]; omega), HB8.out.trans hb9, by omega, by omega⟩
        · obtain ⟨rfl, _⟩ := acc_yes hm
          simp only [if_true] at hk2
          have HK3 := Lib.hid hk2
          have H3 := Lib.hid (HNU.out w5.drew _ q2 (hat5.drewN 1))
          clear hk2 hm
          have HB5' : Hid (But g w w5.drew) := (HB.out.trans hb5).drewN 1
          have HE5 : Hid (Rds (Ob S eb) w5.drew e.d [e0, e1, e2, e3, e4, e5, e6]) := ((HEV.out.but hb5 (by simp [Ob]; omega)).keep (Nat.le_refl _) (fun _ _ _ => rfl) fun _ h _ => h)
          have z7' : Box w5.drew eb 53 #[e0, e1, e2, e3, e4, e5, e6] := z7n.drewN 1
          have z6' : Box w5.drew S 53 #[.int .i64 0, .int .i64 0, .bool false, .slice none 0 0, .slice none 0 0, .string ⟨#[]⟩, .slice none 0 0] := z6n.drewN 1
          have s5' : w5.drew.heap.size = w5.heap.size := rfl
          clear z7n z6n
          go_wp2
          refine wp_region_held_drew (S := fun _ => True) (by kernel_rfl) ?_ (fun hHeld => ?_)
          · trivial
          refine tkH (i := 0) (oi := ⟨some 10, _, _, _, _, _⟩) (v := ?_) ?_ ?_
          rotate_left
          · intro W hSw
            go_simp
            try with_reducible rfl
          try simp only [Act.put, List.setIfInBounds_toArray, List.set_cons_zero, List.set_cons_succ]
          refine wpAnyH_ready (rs := [1, 2]) (by kernel_rfl) (by simp) ?_
          refine AllReadyH.cons (o := ⟨some 11, _, _, _, _, _⟩) rfl (fun K hK => ?_) (AllReadyH.cons (o := ⟨some 12, _, _, _, _, _⟩) rfl (fun K hK => ?_) (AllReadyH.nil))
          · go_simp
            clear hHeld
            refine H3.out.mono ?_
            rintro en w6 (⟨x, j3, q3, v, hm3, rfl, rfl, hat6, hle3, hb6⟩ | ⟨j3, er, hm3, rfl, hj3, hb6⟩)
            rotate_left
            · have hk6 := HK3.out
              rw [bd_no hm3] at hk6
              exact post_panic (fn := Tryz.f239) rfl (Or.inr ⟨j3, er, hk6.symm, rfl, hj3, HB5'.out.trans hb6⟩)
            have hk6 := HK3.out
            rw [bd_ok hm3] at hk6
            have s6 := hb6.size
            have y7 := z7'.but hb6 (by omega)
            have hve := HE5.out.but hb6 (by simp [Ob]; omega)
            refine hK.out _ _ (trivial) (fun hHeld => ?_)
            clear hK K
            try simp only [Act.put, List.setIfInBounds_toArray, List.set_cons_zero, List.set_cons_succ]
            refine wpAnyH_ready (rs := [2]) (by kernel_rfl) (by simp) ?_
            refine AllReadyH.cons (o := ⟨some 12, _, _, _, _, _⟩) rfl (fun K hK => ?_) AllReadyH.nil
            rw [if_pos (by rfl)]
            refine wp_load_row 53 (.tmp 3) rfl (eb) rfl 53 _ (0, 0) (.struct _) (y7) rfl rfl (by kernel_rfl) ?_
            refine hK.out _ _ (trivial) (fun hHeld => ?_)
            clear hK K
            try simp only [Act.put, List.setIfInBounds_toArray, List.set_cons_zero, List.set_cons_succ]
            refine wpAnyH_ready (rs := [3]) (by kernel_rfl) (by simp) ?_
            refine AllReadyH.cons (o := ⟨some 13, _, _, _, _, _⟩) rfl (fun K hK => ?_) AllReadyH.nil
            go_simp
            refine hK.out _ _ (trivial) (fun hHeld => ?_)
            clear hK K
            try simp only [Act.put, List.setIfInBounds_toArray, List.set_cons_zero, List.set_cons_succ]
            refine tkH (i := 4) (oi := ⟨some 14, _, _, _, _, _⟩) (v := ?_) ?_ ?_
            rotate_left
            · intro W hSw
              go_simp
              try with_reducible rfl
            try simp only [Act.put, List.setIfInBounds_toArray, List.set_cons_zero, List.set_cons_succ]
            refine wpAnyH_ready (rs := [5]) (by kernel_rfl) (by simp) ?_
            refine AllReadyH.cons (o := ⟨none, _, _, _, _, _⟩) rfl (fun K hK => ?_) AllReadyH.nil
            rw [if_pos (by rfl)]
            refine wp_store_row 53 (.tmp 3) (.tmp 14) rfl (eb) _ rfl rfl 53 _ (Box.new y7 (allocB _ _)) (by kernel_rfl) rfl (by simp [Value.oneCell']) ?_
            refine hK.out _ _ (trivial) (fun hHeld => ?_)
            clear hK K
            try simp only [Act.put]
            refine wpAnyH_done (by kernel_rfl) ?_ _
            go_wp2
            go_roundg gk
            case measure => omega
            case rel =>
              have hl7 : Rd (Ob S eb) (w6.alloc (.cells #[e0, e1, e2, e3, e4, e5, e6] 53)) (.l 7 (dsE [e])) (.slice (some ⟨w6.heap.size, 0, none⟩) 1 1) := by
                have := Rds.laidQ (sz := 7) (n := 1) 53 hve (by simp [Ex.d_len]) (by simp [Ob]; omega) (by decide)
                simpa [dsE] using this
              exact ⟨.mk 17 x .zero [] [e], _, _, _, _, _, _, _, j3, q3, Classical.em _, hk6, (hat6.new (allocB _ _)).row _ (by omega) (by omega), Box.set (Box.new y7 (allocB _ _)) _, Box.other (Box.new (z6'.but hb6 (by omega)) (allocB _ _)) _ (by omega), (mk_rds 17 x [] [e] zero_rds hl7).row (by simp [Ob]) _, But.row ((HB5'.out.trans hb6).trans (But.of_below (allocB _ _))) (by omega) _, by omega, by omega⟩
          · rw [if_pos (by rfl)]
            refine wp_load_row 53 (.tmp 3) rfl (eb) rfl 53 _ (0, 0) (.struct _) (z7') rfl rfl (by kernel_rfl) ?_
            refine hK.out _ _ (trivial) (fun hHeld => ?_)
            clear hK K
            try simp only [Act.put, List.setIfInBounds_toArray, List.set_cons_zero, List.set_cons_succ]
            refine wpAnyH_ready (rs := [1, 3]) (by kernel_rfl) (by simp) ?_
            refine AllReadyH.cons (o := ⟨some 11, _, _, _, _, _⟩) rfl (fun K hK => ?_) (AllReadyH.cons (o := ⟨some 13, _, _, _, _, _⟩) rfl (fun K hK => ?_) (AllReadyH.nil))
            · go_simp
              clear hHeld
              refine H3.out.mono ?_
              rintro en w6 (⟨x, j3, q3, v, hm3, rfl, rfl, hat6, hle3, hb6⟩ | ⟨j3, er, hm3, rfl, hj3, hb6⟩)
              rotate_left
              · have hk6 := HK3.out
                rw [bd_no hm3] at hk6
                exact post_panic (fn := Tryz.f239) rfl (Or.inr ⟨j3, er, hk6.symm, rfl, hj3, HB5'.out.trans hb6⟩)
              have hk6 := HK3.out
              rw [bd_ok hm3] at hk6
              have s6 := hb6.size
              have y7 := z7'.but hb6 (by omega)
              have hve := HE5.out.but hb6 (by simp [Ob]; omega)
              refine hK.out _ _ (trivial) (fun hHeld => ?_)
              clear hK K
              try simp only [Act.put, List.setIfInBounds_toArray, List.set_cons_zero, List.set_cons_succ]
              refine wpAnyH_ready (rs := [3]) (by kernel_rfl) (by simp) ?_
              refine AllReadyH.cons (o := ⟨some 13, _, _, _, _, _⟩) rfl (fun K hK => ?_) AllReadyH.nil
              go_simp
              refine hK.out _ _ (trivial) (fun hHeld => ?_)
              clear hK K
              try simp only [Act.put, List.setIfInBounds_toArray, List.set_cons_zero, List.set_cons_succ]
              refine tkH (i := 4) (oi := ⟨some 14, _, _, _, _, _⟩) (v := ?_) ?_ ?_
              rotate_left
              · intro W hSw
                go_simp
                try with_reducible rfl
              try simp only [Act.put, List.setIfInBounds_toArray, List.set_cons_zero, List.set_cons_succ]
              refine wpAnyH_ready (rs := [5]) (by kernel_rfl) (by simp) ?_
              refine AllReadyH.cons (o := ⟨none, _, _, _, _, _⟩) rfl (fun K hK => ?_) AllReadyH.nil
              rw [if_pos (by rfl)]
              refine wp_store_row 53 (.tmp 3) (.tmp 14) rfl (eb) _ rfl rfl 53 _ (Box.new y7 (allocB _ _)) (by kernel_rfl) rfl (by simp [Value.oneCell']) ?_
              refine hK.out _ _ (trivial) (fun hHeld => ?_)
              clear hK K
              try simp only [Act.put]
              refine wpAnyH_done (by kernel_rfl) ?_ _
              go_wp2
              go_roundg gk
              case measure => omega
              case rel =>
                have hl7 : Rd (Ob S eb) (w6.alloc (.cells #[e0, e1, e2, e3, e4, e5, e6] 53)) (.l 7 (dsE [e])) (.slice (some ⟨w6.heap.size, 0, none⟩) 1 1) := by
                  have := Rds.laidQ (sz := 7) (n := 1) 53 hve (by simp [Ex.d_len]) (by simp [Ob]; omega) (by decide)
                  simpa [dsE] using this
                exact ⟨.mk 17 x .zero [] [e], _, _, _, _, _, _, _, j3, q3, Classical.em _, hk6, (hat6.new (allocB _ _)).row _ (by omega) (by omega), Box.set (Box.new y7 (allocB _ _)) _, Box.other (Box.new (z6'.but hb6 (by omega)) (allocB _ _)) _ (by omega), (mk_rds 17 x [] [e] zero_rds hl7).row (by simp [Ob]) _, But.row ((HB5'.out.trans hb6).trans (But.of_below (allocB _ _))) (by omega) _, by omega, by omega⟩
            · go_simp
              refine hK.out _ _ (trivial) (fun hHeld => ?_)
              clear hK K
              try simp only [Act.put, List.setIfInBounds_toArray, List.set_cons_zero, List.set_cons_succ]
              refine wpAnyH_ready (rs := [1]) (by kernel_rfl) (by simp) ?_
              refine AllReadyH.cons (o := ⟨some 11, _, _, _, _, _⟩) rfl (fun K hK => ?_) AllReadyH.nil
              go_simp
              clear hHeld
              have ba := allocB w5.drew (.cells #[e0, e1, e2, e3, e4, e5, e6] 53)
              have hl0 : Rd (Ob S eb) (w5.drew.alloc (.cells #[e0, e1, e2, e3, e4, e5, e6] 53)) (.l 7 (dsE [e])) (.slice (some ⟨w5.drew.heap.size, 0, none⟩) 1 1) := by
                have := Rds.laidQ (sz := 7) (n := 1) 53 HE5.out (by simp [Ex.d_len]) (by simp [Ob]; omega) (by decide)
                simpa [dsE] using this
              have za := Box.new z7' ba
              have zb := Box.new z6' ba
              have sa := ba.size
              have HBA := HB5'.out.trans (But.of_below ba)
              refine (HNU.out _ _ _ ((hat5.drewN 1).new ba)).mono ?_
              rintro en w6 (⟨x, j3, q3, v, hm3, rfl, rfl, hat6, hle3, hb6⟩ | ⟨j3, er, hm3, rfl, hj3, hb6⟩)
              rotate_left
              · have hk6 := HK3.out
                rw [bd_no hm3] at hk6
                exact post_panic (fn := Tryz.f239) rfl (Or.inr ⟨j3, er, hk6.symm, rfl, hj3, HBA.trans hb6⟩)
              have hk6 := HK3.out
              rw [bd_ok hm3] at hk6
              have s6 := hb6.size
              have y7 := za.but hb6 (by omega)
              have hl7 := hl0.but hb6 (by simp [Ob]; omega)
              refine hK.out _ _ (trivial) (fun hHeld => ?_)
              clear hK K
              try simp only [Act.put, List.setIfInBounds_toArray, List.set_cons_zero, List.set_cons_succ]
              refine tkH (i := 4) (oi := ⟨some 14, _, _, _, _, _⟩) (v := ?_) ?_ ?_
              rotate_left
              · intro W hSw
                go_simp
                try with_reducible rfl
              try simp only [Act.put, List.setIfInBounds_toArray, List.set_cons_zero, List.set_cons_succ]
              refine wpAnyH_ready (rs := [5]) (by kernel_rfl) (by simp) ?_
              refine AllReadyH.cons (o := ⟨none, _, _, _, _, _⟩) rfl (fun K hK => ?_) AllReadyH.nil
              rw [if_pos (by rfl)]
              refine wp_store_row 53 (.tmp 3) (.tmp 14) rfl (eb) _ rfl rfl 53 _ (y7) (by kernel_rfl) rfl (by simp [Value.oneCell']) ?_
              refine hK.out _ _ (trivial) (fun hHeld => ?_)
              clear hK K
              try simp only [Act.put]
              refine wpAnyH_done (by kernel_rfl) ?_ _
              go_wp2
              go_roundg gk
              case measure => omega
              case rel =>
                exact ⟨.mk 17 x .zero [] [e], _, _, _, _, _, _, _, j3, q3, Classical.em _, hk6, hat6.row _ (by omega) (by omega), Box.set y7 _, Box.other (zb.but hb6 (by omega)) _ (by omega), (mk_rds 17 x [] [e] zero_rds hl7).row (by simp [Ob]) _, But.row (HBA.trans hb6) (by omega) _, by omega, by omega⟩
  · rw [bd_no hm] at hr
    go_wp2
    exact post_panic (fn := Tryz.f239) rfl (Or.inr ⟨j, er, hr.symm, rfl, hj, (But.of_below b0).trans hb⟩)
end Ps
end Go.Proofs.YtggdhgppclnckaaGreatDoor
