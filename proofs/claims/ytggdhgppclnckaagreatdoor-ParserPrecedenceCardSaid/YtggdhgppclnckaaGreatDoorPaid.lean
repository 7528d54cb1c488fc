/-
  Programs: the outermost rule.
-/
import Derived.Test.YtggdhgppclnckaaGreatDoorPaic
namespace Go.Proofs.YtggdhgppclnckaaGreatDoor
open Go Go.RowKit Lx
set_option maxRecDepth 20000

namespace Ps
variable {w : World} {g b n c : Nat} {L : List Tok} {i : Nat} {o : Int}
theorem own_low {w : World} {base sz n c k : Nat} {t : TypeId} {A : Option Addr} {ds : List D} (h : Own w base t sz A n c ds) (hk : k < base) (cs : Array Value) : Own (w.setRow k cs) base t sz A n c ds := by
  have hlt := h.lt
  obtain ⟨vs, h, r⟩ := h
  exact ⟨vs, own_row h fun a ha => setRow_other w k _ cs (by have := (hlt a ha).1; omega), r.row (by omega) cs⟩
theorem Own.drew {w : World} {base sz n c : Nat} {t : TypeId} {A : Option Addr} {ds : List D} (h : Own w base t sz A n c ds) : Own w.drew base t sz A n c ds := h.new (drewN_below (Below.refl _ _) 1)
theorem TwoOwn.lt {w : World} {base sz n c m e : Nat} {t : TypeId} {A B : Option Addr} {ds es : List D} {p : D} {v : Value} (h : TwoOwn w base t sz A n c ds B m e es p v) : ∀ a, A = some a → a.block < w.heap.size := by
  obtain ⟨vs, us, h1, _⟩ := h
  rintro a rfl
  exact (h1.lt a.block rfl).2
theorem TwoOwn.rd1 {w : World} {base sz n c m e : Nat} {t : TypeId} {A B : Option Addr} {ds es : List D} {p : D} {v : Value} (h : TwoOwn w base t sz A n c ds B m e es p v) : Rd (Fr base) w (.l sz ds) (.slice A n c) := by
  obtain ⟨vs, us, h1, _, h3, _⟩ := h
  exact Own.rd ⟨vs, h1, h3.in fun _ hb => ⟨hb.1, hb.2.1⟩⟩
theorem TwoOwn.rd0 {w : World} {base sz n c m e : Nat} {t : TypeId} {A B : Option Addr} {ds es : List D} {p : D} {v : Value} (h : TwoOwn w base t sz A n c ds B m e es p v) : Rd (Fr base) w p v := by
  obtain ⟨vs, us, _, _, _, _, h5, _⟩ := h
  exact h5.in fun _ hb => hb.1
theorem info_str : (Tryz.prog.info? 9).map (fun i => (i.zero, i.size, i.bytes)) = some (some (.string ⟨#[]⟩), 1, 16) := by kernel_rfl
theorem info_fu : (Tryz.prog.info? 71).map (fun i => (i.zero, i.size, i.bytes)) = some (some (.agg #[.string ⟨#[]⟩, .slice none 0 0, .slice none 0 0, .slice none 0 0, .string ⟨#[]⟩]), 5, 104) := by kernel_rfl
def rdPr (b : Nat) (w : World) (f : Pr) (v : Value) : Prop := ∃ a0 a1 a2 a3 a4 a5, v = .agg #[a0, a1, a2, a3, a4, a5] ∧ Rds (Fr b) w f.d [a0, a1, a2, a3, a4, a5]
set_option maxHeartbeats 16000000 in
theorem program_x (hfr : FrOk g b n c L) : Does g b n c L 67 rdPr (program L) n := by
  intro w i o h hq
  have HNM : Hid (∀ W j q, At W g b n c L j q → Calls Tryz.prog 98 #[.pointer (some ⟨g, 0, none⟩)] W (Giv g b n c L rdS W j 1 (name L j q))) := fun W j q hW => name_x hW
  have HA := HA_ (g := g) (b := b) (n := n) (c := c) (L := L)
  have HW := HW_ (g := g) (b := b) (n := n) (c := c) (L := L)
  have HBL := Lib.hid (block_x (g := g) (b := b) (n := n) (c := c) (L := L) hfr)
  obtain ⟨tsi, htsi, hts1, hts2, hts3⟩ := info_three info_str
  obtain ⟨tfi, htfi, htf1, htf2, htf3⟩ := info_three info_fu
  have HFU : Hid (∀ W j q, At W g b n c L j q → Calls Tryz.prog 100 #[.pointer (some ⟨g, 0, none⟩)] W (Giv g b n c L (rdFu W.heap.size) W j 1 (func L j q))) := fun W j q hW => func_x hfr W j q hW (by omega)
  obtain ⟨S, hS⟩ : ∃ S, w.heap.size = S := ⟨_, rfl⟩
  have hsz := h.cs.size
  have hbz := h.hb
  have hLn := h.hn
  rw [hS] at hsz hbz
  generalize hr : program L i o = r
  unfold program at hr
  have b0 : Below w.heap.size w ((w.alloc (.cells #[.slice none 0 0, .slice none 0 0, .slice none 0 0, .slice none 0 0, .slice none 0 0, .string ⟨#[]⟩] 32)).alloc (.cells #[.slice none 0 0, .slice none 0 0, .slice none 0 0, .slice none 0 0, .slice none 0 0, .string ⟨#[]⟩] 32)) := (allocB w _).trans ((allocB _ _).mono (by simp))
  have x0 := (box_alloc w 32 #[.slice none 0 0, .slice none 0 0, .slice none 0 0, .slice none 0 0, .slice none 0 0, .string ⟨#[]⟩]).new (allocB (w.alloc (.cells #[.slice none 0 0, .slice none 0 0, .slice none 0 0, .slice none 0 0, .slice none 0 0, .string ⟨#[]⟩] 32)) (.cells #[.slice none 0 0, .slice none 0 0, .slice none 0 0, .slice none 0 0, .slice none 0 0, .string ⟨#[]⟩] 32))
  have xp := box_alloc (w.alloc (.cells #[.slice none 0 0, .slice none 0 0, .slice none 0 0, .slice none 0 0, .slice none 0 0, .string ⟨#[]⟩] 32)) 32 #[.slice none 0 0, .slice none 0 0, .slice none 0 0, .slice none 0 0, .slice none 0 0, .string ⟨#[]⟩]
  rw [show (w.alloc (.cells #[.slice none 0 0, .slice none 0 0, .slice none 0 0, .slice none 0 0, .slice none 0 0, .string ⟨#[]⟩] 32)).heap.size = w.heap.size + 1 by simp, hS] at xp
  rw [hS] at x0
  have at0 := h.new b0
  have hs0 : S + 2 ≤ ((w.alloc (.cells #[.slice none 0 0, .slice none 0 0, .slice none 0 0, .slice none 0 0, .slice none 0 0, .string ⟨#[]⟩] 32)).alloc (.cells #[.slice none 0 0, .slice none 0 0, .slice none 0 0, .slice none 0 0, .slice none 0 0, .string ⟨#[]⟩] 32)).heap.size := by simp [hS]
  have hB0 : But g w ((w.alloc (.cells #[.slice none 0 0, .slice none 0 0, .slice none 0 0, .slice none 0 0, .slice none 0 0, .string ⟨#[]⟩] 32)).alloc (.cells #[.slice none 0 0, .slice none 0 0, .slice none 0 0, .slice none 0 0, .slice none 0 0, .string ⟨#[]⟩] 32)) := But.of_below b0
  clear h b0
  go_enter Tryz.func67, Tryz.ntmps67
  go_wp2
  go_step3
  go_wp2
  rw [hS]
  generalize (w.alloc (.cells #[.slice none 0 0, .slice none 0 0, .slice none 0 0, .slice none 0 0, .slice none 0 0, .string ⟨#[]⟩] 32)).alloc (.cells #[.slice none 0 0, .slice none 0 0, .slice none 0 0, .slice none 0 0, .slice none 0 0, .string ⟨#[]⟩] 32) = W0 at *
  have HR := Lib.hid hr
  clear hr
  go_loopg [5] L.length (fun k tv wr => ∃ A m cc l j q', (tv = undef ∨ tv ≠ undef) ∧ Hid (bd (paramsF L k l) (fun ps => bd (partsF L L.length [] []) fun fq => bd (block L) fun x => bd (ends L) fun _ => ret ⟨ps, fq.1, fq.2, x.1, x.2.1, x.2.2⟩) j q' = r) ∧ At wr g b n c L j q' ∧ Own wr (S + 2) 9 1 A m cc (l.map .s) ∧ l.length = m ∧ Box wr (S + 1) 32 #[.slice A m cc, .slice none 0 0, .slice none 0 0, .slice none 0 0, .slice none 0 0, .string ⟨#[]⟩] ∧ Box wr S 32 #[.slice none 0 0, .slice none 0 0, .slice none 0 0, .slice none 0 0, .slice none 0 0, .string ⟨#[]⟩] ∧ But g w wr ∧ i ≤ j ∧ m ≤ j ∧ n ≤ k + j)
  case atStart => exact ⟨none, 0, 0, [], i, o, Classical.em _, HR.out, at0, Own.nil _ _ _ _, rfl, xp, x0, hB0, by omega, by omega, by omega⟩
  case round =>
    obtain ⟨A, m, cc, l, j, q', _, hk, hw, hown, hlm, yp, yx, HB, hij, hmj, hkj⟩ := hrel
    clear HR at0 xp x0 hB0 hs0
    have hi := hw.hi
    have hl := hw.len
    have hln := hw.hn
    cases gk with
    | zero => omega
    | succ gk =>
      have hk2 := hk.out
      unfold paramsF at hk2
      rw [bd_assoc] at hk2
      go_wp2_with fail
      refine (HA.out _ _ _ [112, 97, 114, 97, 109] (by decide) hw).mono ?_
      rintro en w3 (⟨t, j2, q2, v, hm, rfl, rfl, hat, hle, hb⟩ | ⟨j2, er, hm, rfl, hj2, hb⟩)
      rotate_left
      · rw [bd_no hm] at hk2
        go_wp2
        exact post_panic (fn := Tryz.f67) rfl (Or.inr ⟨j2, er, hk2.symm, rfl, hj2, HB.trans hb⟩)
      rw [bd_ok hm] at hk2
      have hs3 := yp.lt
      have own3 := hown.but hb (by omega)
      have yp3 := yp.but hb (by omega)
      have yx3 := yx.but hb (by omega)
      have HB3 := HB.trans hb
      have hs3' := hb.size
      clear hown yp yx HB hk
      cases t
      · obtain ⟨rfl, rfl, _⟩ := acc_not hm
        simp only [Bool.false_eq_true, if_false] at hk2
        have hk3 : bd (partsF L L.length [] []) (fun fq => bd (block L) fun x => bd (ends L) fun _ => ret ⟨l, fq.1, fq.2, x.1, x.2.1, x.2.2⟩) _ _ = r := hk2
        clear hm hk2 hw
        have two0 : TwoOwn w3 (S + 2) 71 5 none 0 0 [] none 0 0 [] (.l 1 (l.map .s)) (.slice A m cc) := ⟨[], [], World.ownsRow_nil _ _ _ _, World.ownsRow_nil _ _ _ _, .nil, .nil, own3.rd.in fun k hk => ⟨hk, (fun a ha => (by cases ha)), (fun a ha => (by cases ha))⟩, fun a ha => (by cases ha)⟩
        have HK3 := Lib.hid hk3
        clear hk3 own3
        go_wp2
        go_step3
        go_wp2
        generalize w3 = w3' at *
        go_loopg [15] L.length (fun k tv wr => ∃ A1 n1 c1 A2 n2 c2 fs qs j q', (tv = undef ∨ tv ≠ undef) ∧ Hid (bd (partsF L k fs qs) (fun fq => bd (block L) fun x => bd (ends L) fun _ => ret ⟨l, fq.1, fq.2, x.1, x.2.1, x.2.2⟩) j q' = r) ∧ At wr g b n c L j q' ∧ TwoOwn wr (S + 2) 71 5 A1 n1 c1 (fs.flatMap Fu.d) A2 n2 c2 (qs.flatMap Fu.d) (.l 1 (l.map .s)) (.slice A m cc) ∧ Box wr (S + 1) 32 #[.slice A m cc, .slice A1 n1 c1, .slice A2 n2 c2, .slice none 0 0, .slice none 0 0, .string ⟨#[]⟩] ∧ Box wr S 32 #[.slice none 0 0, .slice none 0 0, .slice none 0 0, .slice none 0 0, .slice none 0 0, .string ⟨#[]⟩] ∧ But g w wr ∧ i ≤ j ∧ n1 ≤ j ∧ n2 ≤ j ∧ n ≤ k + j)
        case atStart => exact ⟨none, 0, 0, none, 0, 0, [], [], _, _, Classical.em _, HK3.out, hat, two0, yp3, yx3, HB3, by omega, by omega, by omega, by omega⟩
        case round =>
          obtain ⟨A1, n1, c1, A2, n2, c2, fs, qs, j, q', _, hk, hw, own, yp, yx, HB, hij, hn1, hn2, hkj⟩ := hrel
          clear HK3 hat two0 yp3 yx3 HB3 hb hle
          have hi := hw.hi
          have hl := hw.len
          have hln := hw.hn
          cases gk with
          | zero => omega
          | succ gk =>
          have hk2 := hk.out
          unfold partsF at hk2
          rw [bd_assoc] at hk2
          go_wp2_with fail
          refine (HA.out _ _ _ [102, 117, 110, 99] (by decide) hw).mono ?_
          rintro en w3 (⟨t, j2, q2, v, hm, rfl, rfl, hat, hle, hb⟩ | ⟨j2, er, hm, rfl, hj2, hb⟩)
          rotate_left
          · rw [bd_no hm] at hk2
            go_wp2
            exact post_panic (fn := Tryz.f67) rfl (Or.inr ⟨j2, er, hk2.symm, rfl, hj2, HB.trans hb⟩)
          rw [bd_ok hm] at hk2
          have hs3 := yp.lt
          have own3 := own.but hb (by omega)
          have yp3 := yp.but hb (by omega)
          have yx3 := yx.but hb (by omega)
          have HB3 := HB.trans hb
          have hs3' := hb.size
          clear own yp yx HB hk
          cases t
          rotate_left
          · obtain ⟨rfl, _⟩ := acc_yes hm
            simp only [if_true] at hk2
            rw [bd_assoc] at hk2
            have HK3 := Lib.hid hk2
            have hatd := hat.drew
            have ownd := own3.drew
            have LT1 := Lib.hid ownd.lt
            have LT2 := Lib.hid ownd.swap.lt
            have ypd := yp3.drew
            have yxd := yx3.drew
            have HBd := Lib.hid (But.drew HB3)
            have sd : w3.drew.heap.size = w3.heap.size := rfl
            have pcA := box_cell ypd 1 (.slice A1 n1 c1) rfl
            clear hm hk2 hw hat own3 yp3 yx3 HB3
            go_wp2
            refine wp_region_held_drew (S := fun _ => True) (by kernel_rfl) ?_ (fun hHeld => ?_)
            · trivial
            refine tkH (i := 0) (oi := ⟨some 18, _, _, _, _, _⟩) (v := ?_) ?_ ?_
            rotate_left
            · intro W hSw
              go_simp
              try with_reducible rfl
            try simp only [Act.put, List.setIfInBounds_toArray, List.set_cons_zero, List.set_cons_succ]
            refine tkH (i := 2) (oi := ⟨some 20, _, _, _, _, _⟩) (v := ?_) ?_ ?_
            rotate_left
            · intro W hSw
              go_simp
              try with_reducible rfl
            try simp only [Act.put, List.setIfInBounds_toArray, List.set_cons_zero, List.set_cons_succ]
            refine wpAnyH_ready (rs := [1, 3]) (by kernel_rfl) (by simp) ?_
            refine AllReadyH.cons (o := ⟨some 19, _, _, _, _, _⟩) rfl (fun K hK => ?_) (AllReadyH.cons (o := ⟨some 21, _, _, _, _, _⟩) rfl (fun K hK => ?_) (AllReadyH.nil))
            · go_simp
              refine hK.out _ _ (trivial) (fun hHeld => ?_)
              clear hK K
              try simp only [Act.put, List.setIfInBounds_toArray, List.set_cons_zero, List.set_cons_succ]
              refine wpAnyH_ready (rs := [3]) (by kernel_rfl) (by simp) ?_
              refine AllReadyH.cons (o := ⟨some 21, _, _, _, _, _⟩) rfl (fun K hK => ?_) AllReadyH.nil
              go_simp
              clear hHeld
              refine (HFU.out _ _ _ hatd).mono ?_
              rintro en w6 (⟨f, j3, q3, v, hm3, rfl, ⟨f0, f1, f2, f3, f4, rfl, hv⟩, hat6, hle3, hb6⟩ | ⟨j3, er, hm3, rfl, hj3, hb6⟩)
              rotate_left
              · have hk6 := HK3.out
                rw [bd_no hm3] at hk6
                exact post_panic (fn := Tryz.f67) rfl (Or.inr ⟨j3, er, hk6.symm, rfl, hj3, HBd.out.trans hb6⟩)
              have hk6 := HK3.out
              rw [bd_ok hm3] at hk6
              have s6 := hb6.size
              have yp6 := ypd.but hb6 (by omega)
              have yx6 := yxd.but hb6 (by omega)
              have own6 := ownd.but hb6 (by omega)
              have pcB := box_cell yp6 1 (.slice A1 n1 c1) rfl
              have yp7 := yp6.new (allocB w6 (.cells #[f0, f1, f2, f3, f4] 71))
              have pcC := box_cell yp7 1 (.slice A1 n1 c1) rfl
              refine hK.out _ _ (trivial) (fun hHeld => ?_)
              clear hK K
              try simp only [Act.put, List.setIfInBounds_toArray, List.set_cons_zero, List.set_cons_succ]
              refine wpAnyH_ready (rs := [4]) (by kernel_rfl) (by simp) ?_
              refine AllReadyH.cons (o := ⟨some 22, _, _, _, _, _⟩) rfl (fun K hK => ?_) AllReadyH.nil
              go_simp
              refine hK.out _ _ (trivial) (fun hHeld => ?_)
              clear hK K
              try simp only [Act.put, List.setIfInBounds_toArray, List.set_cons_zero, List.set_cons_succ]
              refine wpAnyH_ready (rs := [5]) (by kernel_rfl) (by simp) ?_
              refine AllReadyH.cons (o := ⟨some 23, _, _, _, _, _⟩) rfl (fun K hK => ?_) AllReadyH.nil
              rw [if_pos (by rfl)]
              obtain ⟨wz, hwz⟩ : ∃ wz, w6.alloc (.cells #[f0, f1, f2, f3, f4] 71) = wz := ⟨_, rfl⟩
              have bz : Below w6.heap.size w6 wz := hwz ▸ allocB w6 _
              have own7 := (own6).new bz
              have lt1 := own6.lt
              have lt2 := own6.swap.lt
              obtain ⟨vs, us, hrow, hqr, h3, h4, h5, h6⟩ := own7
              have hx7 : Rds (Zt (S + 2) A1 A2) wz f.d [f0, f1, f2, f3, f4] := hv.keep bz.size (fun k _ hk => bz.block k hk) fun k hk hlt => by
                simp [Fr] at hk
                exact ⟨by omega, fun a ha => by have := LT1.out a ha; omega, fun a ha => by have := LT2.out a ha; omega⟩
              have NEWS := cells_of_alloc w6 [f0, f1, f2, f3, f4] 71
              rw [show (.cells [f0, f1, f2, f3, f4].toArray 71 : Obj) = .cells #[f0, f1, f2, f3, f4] 71 from rfl, hwz] at NEWS
              rw [hwz] at yp7
              have hsz7 : S + 2 ≤ wz.heap.size := by have := bz.size; omega
              have hat7 := hat6.new bz
              have HB7 := (HBd.out.trans hb6).trans (But.of_below bz)
              have yx7 := yx6.new bz
              have onesF := hv.ones
              rw [hwz]
              clear hwz
              refine wp_append_at (.tmp 19) (.tmp 22) 28 rfl (S + 2) 71 tfi (.agg #[.string ⟨#[]⟩, .slice none 0 0, .slice none 0 0, .slice none 0 0, .string ⟨#[]⟩]) 5 104 Tryz.underlying28 htfi htf1 htf2 htf3 rfl (by decide) (.slice A1 n1 c1) n1 vs rfl hrow ⟨w6.heap.size, 0, none⟩ 1 1 [f0, f1, f2, f3, f4] rfl rfl NEWS onesF (by unfold maxLen; omega) (by omega) hsz7 ?_
              intro v' w8 hown8 hgrow hnew
              obtain ⟨A8, c8, rfl, own8⟩ := TwoOwn.snoc hrow hqr h3 h4 h5 h6 hx7 hown8 (by decide) hgrow (hnew_or hnew)
              have hb8 := grown_below hrow hgrow hsz7
              have hat8 := hat7.below hb8 (by omega) (by omega)
              have HB8 := grown_but hrow hgrow HB7 (by omega) hsz7
              have yp8 := yp7.below hb8 (by omega)
              have yx8 := yx7.below hb8 (by omega)
              have pc8 := box_cell yp8 1 (.slice A1 n1 c1) rfl
              have pf8 := Box.fr yp8 1
              refine hK.out _ _ (trivial) (fun hHeld => ?_)
              clear hK K
              try simp only [Act.put, List.setIfInBounds_toArray, List.set_cons_zero, List.set_cons_succ]
              refine tkH (i := 6) (oi := ⟨some 24, _, _, _, _, _⟩) (v := ?_) ?_ ?_
              rotate_left
              · intro W hSw
                go_simp
                try with_reducible rfl
              try simp only [Act.put, List.setIfInBounds_toArray, List.set_cons_zero, List.set_cons_succ]
              refine wpAnyH_ready (rs := [7]) (by kernel_rfl) (by simp) ?_
              refine AllReadyH.cons (o := ⟨none, _, _, _, _, _⟩) rfl (fun K hK => ?_) AllReadyH.nil
              go_simp
              refine hK.out _ _ (trivial) (fun hHeld => ?_)
              clear hK K
              try simp only [Act.put, List.setIfInBounds_toArray, List.set_cons_zero, List.set_cons_succ]
              refine wpAnyH_done (by kernel_rfl) ?_ _
              have ec : w8.setCell ⟨S + 1, 1, none⟩ (.slice A8 (n1 + 1) c8) = w8.setRow (S + 1) #[.slice A m cc, .slice A8 (n1 + 1) c8, .slice A2 n2 c2, .slice none 0 0, .slice none 0 0, .string ⟨#[]⟩] := Box.cell_row yp8 1 _
              rw [ec]
              have yp9 := yp8.set #[.slice A m cc, .slice A8 (n1 + 1) c8, .slice A2 n2 c2, .slice none 0 0, .slice none 0 0, .string ⟨#[]⟩]
              have yx9 := yx8.other (j := S + 1) #[.slice A m cc, .slice A8 (n1 + 1) c8, .slice A2 n2 c2, .slice none 0 0, .slice none 0 0, .string ⟨#[]⟩] (by omega)
              have own9 := own8.row (k := S + 1) (by omega) #[.slice A m cc, .slice A8 (n1 + 1) c8, .slice A2 n2 c2, .slice none 0 0, .slice none 0 0, .string ⟨#[]⟩]
              have hat9 := hat8.row (k := S + 1) #[.slice A m cc, .slice A8 (n1 + 1) c8, .slice A2 n2 c2, .slice none 0 0, .slice none 0 0, .string ⟨#[]⟩] (by omega) (by omega)
              have HB9 : But g w (w8.setRow (S + 1) #[.slice A m cc, .slice A8 (n1 + 1) c8, .slice A2 n2 c2, .slice none 0 0, .slice none 0 0, .string ⟨#[]⟩]) := But.row HB8 (by omega) _
              clear ec pc8 pf8
              have HK6 := Lib.hid hk6
              go_wp2
              go_roundg gk
              case measure => omega
              case rel => exact ⟨A8, n1 + 1, c8, A2, n2, c2, fs ++ [f], qs, j3, q3, Classical.em _, HK6.out, hat9, by have := own9; simpa [List.flatMap_append] using this, yp9, yx9, HB9, by omega, by omega, by omega, by omega⟩
            · go_simp
              clear hHeld
              refine (HFU.out _ _ _ hatd).mono ?_
              rintro en w6 (⟨f, j3, q3, v, hm3, rfl, ⟨f0, f1, f2, f3, f4, rfl, hv⟩, hat6, hle3, hb6⟩ | ⟨j3, er, hm3, rfl, hj3, hb6⟩)
              rotate_left
              · have hk6 := HK3.out
                rw [bd_no hm3] at hk6
                exact post_panic (fn := Tryz.f67) rfl (Or.inr ⟨j3, er, hk6.symm, rfl, hj3, HBd.out.trans hb6⟩)
              have hk6 := HK3.out
              rw [bd_ok hm3] at hk6
              have s6 := hb6.size
              have yp6 := ypd.but hb6 (by omega)
              have yx6 := yxd.but hb6 (by omega)
              have own6 := ownd.but hb6 (by omega)
              have pcB := box_cell yp6 1 (.slice A1 n1 c1) rfl
              have yp7 := yp6.new (allocB w6 (.cells #[f0, f1, f2, f3, f4] 71))
              have pcC := box_cell yp7 1 (.slice A1 n1 c1) rfl
              refine hK.out _ _ (trivial) (fun hHeld => ?_)
              clear hK K
              try simp only [Act.put, List.setIfInBounds_toArray, List.set_cons_zero, List.set_cons_succ]
              refine wpAnyH_ready (rs := [1, 4]) (by kernel_rfl) (by simp) ?_
              refine AllReadyH.cons (o := ⟨some 19, _, _, _, _, _⟩) rfl (fun K hK => ?_) (AllReadyH.cons (o := ⟨some 22, _, _, _, _, _⟩) rfl (fun K hK => ?_) (AllReadyH.nil))
              · go_simp
                refine hK.out _ _ (trivial) (fun hHeld => ?_)
                clear hK K
                try simp only [Act.put, List.setIfInBounds_toArray, List.set_cons_zero, List.set_cons_succ]
                refine wpAnyH_ready (rs := [4]) (by kernel_rfl) (by simp) ?_
                refine AllReadyH.cons (o := ⟨some 22, _, _, _, _, _⟩) rfl (fun K hK => ?_) AllReadyH.nil
                go_simp
                refine hK.out _ _ (trivial) (fun hHeld => ?_)
                clear hK K
                try simp only [Act.put, List.setIfInBounds_toArray, List.set_cons_zero, List.set_cons_succ]
                refine wpAnyH_ready (rs := [5]) (by kernel_rfl) (by simp) ?_
                refine AllReadyH.cons (o := ⟨some 23, _, _, _, _, _⟩) rfl (fun K hK => ?_) AllReadyH.nil
                rw [if_pos (by rfl)]
                obtain ⟨wz, hwz⟩ : ∃ wz, w6.alloc (.cells #[f0, f1, f2, f3, f4] 71) = wz := ⟨_, rfl⟩
                have bz : Below w6.heap.size w6 wz := hwz ▸ allocB w6 _
                have own7 := (own6).new bz
                have lt1 := own6.lt
                have lt2 := own6.swap.lt
                obtain ⟨vs, us, hrow, hqr, h3, h4, h5, h6⟩ := own7
                have hx7 : Rds (Zt (S + 2) A1 A2) wz f.d [f0, f1, f2, f3, f4] := hv.keep bz.size (fun k _ hk => bz.block k hk) fun k hk hlt => by
                  simp [Fr] at hk
                  exact ⟨by omega, fun a ha => by have := LT1.out a ha; omega, fun a ha => by have := LT2.out a ha; omega⟩
                have NEWS := cells_of_alloc w6 [f0, f1, f2, f3, f4] 71
                rw [show (.cells [f0, f1, f2, f3, f4].toArray 71 : Obj) = .cells #[f0, f1, f2, f3, f4] 71 from rfl, hwz] at NEWS
                rw [hwz] at yp7
                have hsz7 : S + 2 ≤ wz.heap.size := by have := bz.size; omega
                have hat7 := hat6.new bz
                have HB7 := (HBd.out.trans hb6).trans (But.of_below bz)
                have yx7 := yx6.new bz
                have onesF := hv.ones
                rw [hwz]
                clear hwz
                refine wp_append_at (.tmp 19) (.tmp 22) 28 rfl (S + 2) 71 tfi (.agg #[.string ⟨#[]⟩, .slice none 0 0, .slice none 0 0, .slice none 0 0, .string ⟨#[]⟩]) 5 104 Tryz.underlying28 htfi htf1 htf2 htf3 rfl (by decide) (.slice A1 n1 c1) n1 vs rfl hrow ⟨w6.heap.size, 0, none⟩ 1 1 [f0, f1, f2, f3, f4] rfl rfl NEWS onesF (by unfold maxLen; omega) (by omega) hsz7 ?_
                intro v' w8 hown8 hgrow hnew
                obtain ⟨A8, c8, rfl, own8⟩ := TwoOwn.snoc hrow hqr h3 h4 h5 h6 hx7 hown8 (by decide) hgrow (hnew_or hnew)
                have hb8 := grown_below hrow hgrow hsz7
                have hat8 := hat7.below hb8 (by omega) (by omega)
                have HB8 := grown_but hrow hgrow HB7 (by omega) hsz7
                have yp8 := yp7.below hb8 (by omega)
                have yx8 := yx7.below hb8 (by omega)
                have pc8 := box_cell yp8 1 (.slice A1 n1 c1) rfl
                have pf8 := Box.fr yp8 1
                refine hK.out _ _ (trivial) (fun hHeld => ?_)
                clear hK K
                try simp only [Act.put, List.setIfInBounds_toArray, List.set_cons_zero, List.set_cons_succ]
                refine tkH (i := 6) (oi := ⟨some 24, _, _, _, _, _⟩) (v := ?_) ?_ ?_
                rotate_left
                · intro W hSw
                  go_simp
                  try with_reducible rfl
                try simp only [Act.put, List.setIfInBounds_toArray, List.set_cons_zero, List.set_cons_succ]
                refine wpAnyH_ready (rs := [7]) (by kernel_rfl) (by simp) ?_
                refine AllReadyH.cons (o := ⟨none, _, _, _, _, _⟩) rfl (fun K hK => ?_) AllReadyH.nil
                go_simp
                refine hK.out _ _ (trivial) (fun hHeld => ?_)
                clear hK K
                try simp only [Act.put, List.setIfInBounds_toArray, List.set_cons_zero, List.set_cons_succ]
                refine wpAnyH_done (by kernel_rfl) ?_ _
                have ec : w8.setCell ⟨S + 1, 1, none⟩ (.slice A8 (n1 + 1) c8) = w8.setRow (S + 1) #[.slice A m cc, .slice A8 (n1 + 1) c8, .slice A2 n2 c2, .slice none 0 0, .slice none 0 0, .string ⟨#[]⟩] := Box.cell_row yp8 1 _
                rw [ec]
                have yp9 := yp8.set #[.slice A m cc, .slice A8 (n1 + 1) c8, .slice A2 n2 c2, .slice none 0 0, .slice none 0 0, .string ⟨#[]⟩]
                have yx9 := yx8.other (j := S + 1) #[.slice A m cc, .slice A8 (n1 + 1) c8, .slice A2 n2 c2, .slice none 0 0, .slice none 0 0, .string ⟨#[]⟩] (by omega)
                have own9 := own8.row (k := S + 1) (by omega) #[.slice A m cc, .slice A8 (n1 + 1) c8, .slice A2 n2 c2, .slice none 0 0, .slice none 0 0, .string ⟨#[]⟩]
                have hat9 := hat8.row (k := S + 1) #[.slice A m cc, .slice A8 (n1 + 1) c8, .slice A2 n2 c2, .slice none 0 0, .slice none 0 0, .string ⟨#[]⟩] (by omega) (by omega)
                have HB9 : But g w (w8.setRow (S + 1) #[.slice A m cc, .slice A8 (n1 + 1) c8, .slice A2 n2 c2, .slice none 0 0, .slice none 0 0, .string ⟨#[]⟩]) := But.row HB8 (by omega) _
                clear ec pc8 pf8
                have HK6 := Lib.hid hk6
                go_wp2
                go_roundg gk
                case measure => omega
                case rel => exact ⟨A8, n1 + 1, c8, A2, n2, c2, fs ++ [f], qs, j3, q3, Classical.em _, HK6.out, hat9, by have := own9; simpa [List.flatMap_append] using this, yp9, yx9, HB9, by omega, by omega, by omega, by omega⟩
              · go_simp
                refine hK.out _ _ (trivial) (fun hHeld => ?_)
                clear hK K
                try simp only [Act.put, List.setIfInBounds_toArray, List.set_cons_zero, List.set_cons_succ]
                refine wpAnyH_ready (rs := [1]) (by kernel_rfl) (by simp) ?_
                refine AllReadyH.cons (o := ⟨some 19, _, _, _, _, _⟩) rfl (fun K hK => ?_) AllReadyH.nil
                go_simp
                refine hK.out _ _ (trivial) (fun hHeld => ?_)
                clear hK K
                try simp only [Act.put, List.setIfInBounds_toArray, List.set_cons_zero, List.set_cons_succ]
                refine wpAnyH_ready (rs := [5]) (by kernel_rfl) (by simp) ?_
                refine AllReadyH.cons (o := ⟨some 23, _, _, _, _, _⟩) rfl (fun K hK => ?_) AllReadyH.nil
                rw [if_pos (by rfl)]
                obtain ⟨wz, hwz⟩ : ∃ wz, w6.alloc (.cells #[f0, f1, f2, f3, f4] 71) = wz := ⟨_, rfl⟩
                have bz : Below w6.heap.size w6 wz := hwz ▸ allocB w6 _
                have own7 := (own6).new bz
                have lt1 := own6.lt
                have lt2 := own6.swap.lt
                obtain ⟨vs, us, hrow, hqr, h3, h4, h5, h6⟩ := own7
                have hx7 : Rds (Zt (S + 2) A1 A2) wz f.d [f0, f1, f2, f3, f4] := hv.keep bz.size (fun k _ hk => bz.block k hk) fun k hk hlt => by
                  simp [Fr] at hk
                  exact ⟨by omega, fun a ha => by have := LT1.out a ha; omega, fun a ha => by have := LT2.out a ha; omega⟩
                have NEWS := cells_of_alloc w6 [f0, f1, f2, f3, f4] 71
                rw [show (.cells [f0, f1, f2, f3, f4].toArray 71 : Obj) = .cells #[f0, f1, f2, f3, f4] 71 from rfl, hwz] at NEWS
                rw [hwz] at yp7
                have hsz7 : S + 2 ≤ wz.heap.size := by have := bz.size; omega
                have hat7 := hat6.new bz
                have HB7 := (HBd.out.trans hb6).trans (But.of_below bz)
                have yx7 := yx6.new bz
                have onesF := hv.ones
                rw [hwz]
                clear hwz
                refine wp_append_at (.tmp 19) (.tmp 22) 28 rfl (S + 2) 71 tfi (.agg #[.string ⟨#[]⟩, .slice none 0 0, .slice none 0 0, .slice none 0 0, .string ⟨#[]⟩]) 5 104 Tryz.underlying28 htfi htf1 htf2 htf3 rfl (by decide) (.slice A1 n1 c1) n1 vs rfl hrow ⟨w6.heap.size, 0, none⟩ 1 1 [f0, f1, f2, f3, f4] rfl rfl NEWS onesF (by unfold maxLen; omega) (by omega) hsz7 ?_
                intro v' w8 hown8 hgrow hnew
                obtain ⟨A8, c8, rfl, own8⟩ := TwoOwn.snoc hrow hqr h3 h4 h5 h6 hx7 hown8 (by decide) hgrow (hnew_or hnew)
                have hb8 := grown_below hrow hgrow hsz7
                have hat8 := hat7.below hb8 (by omega) (by omega)
                have HB8 := grown_but hrow hgrow HB7 (by omega) hsz7
                have yp8 := yp7.below hb8 (by omega)
                have yx8 := yx7.below hb8 (by omega)
                have pc8 := box_cell yp8 1 (.slice A1 n1 c1) rfl
                have pf8 := Box.fr yp8 1
                refine hK.out _ _ (trivial) (fun hHeld => ?_)
                clear hK K
                try simp only [Act.put, List.setIfInBounds_toArray, List.set_cons_zero, List.set_cons_succ]
                refine tkH (i := 6) (oi := ⟨some 24, _, _, _, _, _⟩) (v := ?_) ?_ ?_
                rotate_left
                · intro W hSw
                  go_simp
                  try with_reducible rfl
                try simp only [Act.put, List.setIfInBounds_toArray, List.set_cons_zero, List.set_cons_succ]
                refine wpAnyH_ready (rs := [7]) (by kernel_rfl) (by simp) ?_
                refine AllReadyH.cons (o := ⟨none, _, _, _, _, _⟩) rfl (fun K hK => ?_) AllReadyH.nil
                go_simp
                refine hK.out _ _ (trivial) (fun hHeld => ?_)
                clear hK K
                try simp only [Act.put, List.setIfInBounds_toArray, List.set_cons_zero, List.set_cons_succ]
                refine wpAnyH_done (by kernel_rfl) ?_ _
                have ec : w8.setCell ⟨S + 1, 1, none⟩ (.slice A8 (n1 + 1) c8) = w8.setRow (S + 1) #[.slice A m cc, .slice A8 (n1 + 1) c8, .slice A2 n2 c2, .slice none 0 0, .slice none 0 0, .string ⟨#[]⟩] := Box.cell_row yp8 1 _
                rw [ec]
                have yp9 := yp8.set #[.slice A m cc, .slice A8 (n1 + 1) c8, .slice A2 n2 c2, .slice none 0 0, .slice none 0 0, .string ⟨#[]⟩]
                have yx9 := yx8.other (j := S + 1) #[.slice A m cc, .slice A8 (n1 + 1) c8, .slice A2 n2 c2, .slice none 0 0, .slice none 0 0, .string ⟨#[]⟩] (by omega)
                have own9 := own8.row (k := S + 1) (by omega) #[.slice A m cc, .slice A8 (n1 + 1) c8, .slice A2 n2 c2, .slice none 0 0, .slice none 0 0, .string ⟨#[]⟩]
                have hat9 := hat8.row (k := S + 1) #[.slice A m cc, .slice A8 (n1 + 1) c8, .slice A2 n2 c2, .slice none 0 0, .slice none 0 0, .string ⟨#[]⟩] (by omega) (by omega)
                have HB9 : But g w (w8.setRow (S + 1) #[.slice A m cc, .slice A8 (n1 + 1) c8, .slice A2 n2 c2, .slice none 0 0, .slice none 0 0, .string ⟨#[]⟩]) := But.row HB8 (by omega) _
                clear ec pc8 pf8
                have HK6 := Lib.hid hk6
                go_wp2
                go_roundg gk
                case measure => omega
                case rel => exact ⟨A8, n1 + 1, c8, A2, n2, c2, fs ++ [f], qs, j3, q3, Classical.em _, HK6.out, hat9, by have := own9; simpa [List.flatMap_append] using this, yp9, yx9, HB9, by omega, by omega, by omega, by omega⟩
          obtain ⟨rfl, rfl, _⟩ := acc_not hm
          simp only [Bool.false_eq_true, if_false] at hk2
          rw [bd_assoc] at hk2
          clear hm hw
          go_wp2_with fail
          refine (HA.out _ _ _ [113, 117, 101, 114, 121] (by decide) hat).mono ?_
          rintro en w4 (⟨t, j4, q4, v, hm, rfl, rfl, hat4, hle4, hb4⟩ | ⟨j4, er, hm, rfl, hj4, hb4⟩)
          rotate_left
          · rw [bd_no hm] at hk2
            go_wp2
            exact post_panic (fn := Tryz.f67) rfl (Or.inr ⟨j4, er, hk2.symm, rfl, hj4, HB3.trans hb4⟩)
          rw [bd_ok hm] at hk2
          have own4 := own3.but hb4 (by omega)
          have yp4 := yp3.but hb4 (by omega)
          have yx4 := yx3.but hb4 (by omega)
          have HB4 := HB3.trans hb4
          have hs4' := hb4.size
          clear own3 yp3 yx3 HB3 hat
          cases t
          rotate_left
          · obtain ⟨rfl, _⟩ := acc_yes hm
            simp only [if_true] at hk2
            rw [bd_assoc] at hk2
            unfold query at hk2
            rw [bd_assoc] at hk2
            have HK3 := Lib.hid hk2
            have hatd := hat4.drew
            have ownd := own4.drew
            have LT1 := Lib.hid ownd.lt
            have LT2 := Lib.hid ownd.swap.lt
            have ypd := yp4.drew
            have yxd := yx4.drew
            have HBd := Lib.hid (But.drew HB4)
            have sd : w4.drew.heap.size = w4.heap.size := rfl
            have pcA := box_cell ypd 2 (.slice A2 n2 c2) rfl
            clear hm hk2 hat4 own4 yp4 yx4 HB4
            go_wp2
            refine wp_region_held_drew (S := fun _ => True) (by kernel_rfl) ?_ (fun hHeld => ?_)
            · trivial
            refine tkH (i := 0) (oi := ⟨some 28, _, _, _, _, _⟩) (v := ?_) ?_ ?_
            rotate_left
            · intro W hSw
              go_simp
              try with_reducible rfl
            try simp only [Act.put, List.setIfInBounds_toArray, List.set_cons_zero, List.set_cons_succ]
            refine tkH (i := 2) (oi := ⟨some 30, _, _, _, _, _⟩) (v := ?_) ?_ ?_
            rotate_left
            · intro W hSw
              go_simp
              try with_reducible rfl
            try simp only [Act.put, List.setIfInBounds_toArray, List.set_cons_zero, List.set_cons_succ]
            refine tkH (i := 3) (oi := ⟨some 31, _, _, _, _, _⟩) (v := ?_) ?_ ?_
            rotate_left
            · intro W hSw
              go_simp
              try with_reducible rfl
            try simp only [Act.put, List.setIfInBounds_toArray, List.set_cons_zero, List.set_cons_succ]
            refine wpAnyH_ready (rs := [1, 4]) (by kernel_rfl) (by simp) ?_
            refine AllReadyH.cons (o := ⟨some 29, _, _, _, _, _⟩) rfl (fun K hK => ?_) (AllReadyH.cons (o := ⟨some 32, _, _, _, _, _⟩) rfl (fun K hK => ?_) (AllReadyH.nil))
            · go_simp
              refine hK.out _ _ (trivial) (fun hHeld => ?_)
              clear hK K
              try simp only [Act.put, List.setIfInBounds_toArray, List.set_cons_zero, List.set_cons_succ]
              refine wpAnyH_ready (rs := [4]) (by kernel_rfl) (by simp) ?_
              refine AllReadyH.cons (o := ⟨some 32, _, _, _, _, _⟩) rfl (fun K hK => ?_) AllReadyH.nil
              go_simp
              clear hHeld
              refine (HNM.out _ _ _ hatd).mono ?_
              rintro en w5 (⟨s, j3', q3', v, hm3, rfl, rfl, hat5, hle5, hb5⟩ | ⟨j3', er, hm3, rfl, hj3, hb5⟩)
              rotate_left
              · have hk6 := HK3.out
                rw [bd_no hm3] at hk6
                exact post_panic (fn := Tryz.f67) rfl (Or.inr ⟨j3', er, hk6.symm, rfl, hj3, HBd.out.trans hb5⟩)
              have hk5 := HK3.out
              rw [bd_ok hm3] at hk5
              have s5 := hb5.size
              have yp5 := ypd.but hb5 (by omega)
              have yx5 := yxd.but hb5 (by omega)
              have own5 := ownd.but hb5 (by omega)
              have HB5q := HBd.out.trans hb5
              have pcN := box_cell yp5 2 (.slice A2 n2 c2) rfl
              refine hK.out _ _ (trivial) (fun hHeld => ?_)
              clear hK K
              try simp only [Act.put, List.setIfInBounds_toArray, List.set_cons_zero, List.set_cons_succ]
              refine tkH (i := 5) (oi := ⟨some 33, _, _, _, _, _⟩) (v := ?_) ?_ ?_
              rotate_left
              · intro W hSw
                go_simp
                try with_reducible rfl
              try simp only [Act.put, List.setIfInBounds_toArray, List.set_cons_zero, List.set_cons_succ]
              refine wpAnyH_ready (rs := [6]) (by kernel_rfl) (by simp) ?_
              refine AllReadyH.cons (o := ⟨some 34, _, _, _, _, _⟩) rfl (fun K hK => ?_) AllReadyH.nil
              go_simp
              clear hHeld
              refine (inner_x hfr hat5 w5.heap.size (by omega) (by omega) (Nat.le_refl _) s [] (.nil 6)).mono ?_
              rintro en w6 (⟨f, j3, q3, v, hm3, rfl, ⟨f0, f1, f2, f3, f4, rfl, hv⟩, hat6, hle3, hb6⟩ | ⟨j3, er, hm3, rfl, hj3, hb6⟩)
              rotate_left
              · have hk6 := hk5
                rw [bd_no hm3] at hk6
                exact post_panic (fn := Tryz.f67) rfl (Or.inr ⟨j3, er, hk6.symm, rfl, hj3, HB5q.trans hb6⟩)
              have hk6 := hk5
              rw [bd_ok hm3] at hk6
              have s6 := hb6.size
              have yp6 := yp5.but hb6 (by omega)
              have yx6 := yx5.but hb6 (by omega)
              have own6 := own5.but hb6 (by omega)
              have HB6q := HB5q.trans hb6
              have pcB := box_cell yp6 2 (.slice A2 n2 c2) rfl
              have yp7 := yp6.new (allocB w6 (.cells #[f0, f1, f2, f3, f4] 71))
              have pcC := box_cell yp7 2 (.slice A2 n2 c2) rfl
              refine hK.out _ _ (trivial) (fun hHeld => ?_)
              clear hK K
              try simp only [Act.put, List.setIfInBounds_toArray, List.set_cons_zero, List.set_cons_succ]
              refine wpAnyH_ready (rs := [7]) (by kernel_rfl) (by simp) ?_
              refine AllReadyH.cons (o := ⟨some 35, _, _, _, _, _⟩) rfl (fun K hK => ?_) AllReadyH.nil
              go_simp
              refine hK.out _ _ (trivial) (fun hHeld => ?_)
              clear hK K
              try simp only [Act.put, List.setIfInBounds_toArray, List.set_cons_zero, List.set_cons_succ]
              refine wpAnyH_ready (rs := [8]) (by kernel_rfl) (by simp) ?_
              refine AllReadyH.cons (o := ⟨some 36, _, _, _, _, _⟩) rfl (fun K hK => ?_) AllReadyH.nil
              rw [if_pos (by rfl)]
              obtain ⟨wz, hwz⟩ : ∃ wz, w6.alloc (.cells #[f0, f1, f2, f3, f4] 71) = wz := ⟨_, rfl⟩
              have bz : Below w6.heap.size w6 wz := hwz ▸ allocB w6 _
              have own7 := (own6.swap).new bz
              have lt1 := own6.lt
              have lt2 := own6.swap.lt
              obtain ⟨vs, us, hrow, hqr, h3, h4, h5, h6⟩ := own7
              have hx7 : Rds (Zt (S + 2) A2 A1) wz f.d [f0, f1, f2, f3, f4] := hv.keep bz.size (fun k _ hk => bz.block k hk) fun k hk hlt => by
                simp [Fr] at hk
                exact ⟨by omega, fun a ha => by have := LT2.out a ha; omega, fun a ha => by have := LT1.out a ha; omega⟩
              have NEWS := cells_of_alloc w6 [f0, f1, f2, f3, f4] 71
              rw [show (.cells [f0, f1, f2, f3, f4].toArray 71 : Obj) = .cells #[f0, f1, f2, f3, f4] 71 from rfl, hwz] at NEWS
              rw [hwz] at yp7
              have hsz7 : S + 2 ≤ wz.heap.size := by have := bz.size; omega
              have hat7 := hat6.new bz
              have HB7 := (HB6q).trans (But.of_below bz)
              have yx7 := yx6.new bz
              have onesF := hv.ones
              rw [hwz]
              clear hwz
              refine wp_append_at (.tmp 29) (.tmp 35) 28 rfl (S + 2) 71 tfi (.agg #[.string ⟨#[]⟩, .slice none 0 0, .slice none 0 0, .slice none 0 0, .string ⟨#[]⟩]) 5 104 Tryz.underlying28 htfi htf1 htf2 htf3 rfl (by decide) (.slice A2 n2 c2) n2 vs rfl hrow ⟨w6.heap.size, 0, none⟩ 1 1 [f0, f1, f2, f3, f4] rfl rfl NEWS onesF (by unfold maxLen; omega) (by omega) hsz7 ?_
              intro v' w8 hown8 hgrow hnew
              obtain ⟨A8, c8, rfl, own8⟩ := TwoOwn.snoc hrow hqr h3 h4 h5 h6 hx7 hown8 (by decide) hgrow (hnew_or hnew)
              have hb8 := grown_below hrow hgrow hsz7
              have hat8 := hat7.below hb8 (by omega) (by omega)
              have HB8 := grown_but hrow hgrow HB7 (by omega) hsz7
              have yp8 := yp7.below hb8 (by omega)
              have yx8 := yx7.below hb8 (by omega)
              have pc8 := box_cell yp8 2 (.slice A2 n2 c2) rfl
              have pf8 := Box.fr yp8 2
              refine hK.out _ _ (trivial) (fun hHeld => ?_)
              clear hK K
              try simp only [Act.put, List.setIfInBounds_toArray, List.set_cons_zero, List.set_cons_succ]
              refine tkH (i := 9) (oi := ⟨some 37, _, _, _, _, _⟩) (v := ?_) ?_ ?_
              rotate_left
              · intro W hSw
                go_simp
                try with_reducible rfl
              try simp only [Act.put, List.setIfInBounds_toArray, List.set_cons_zero, List.set_cons_succ]
              refine wpAnyH_ready (rs := [10]) (by kernel_rfl) (by simp) ?_
              refine AllReadyH.cons (o := ⟨none, _, _, _, _, _⟩) rfl (fun K hK => ?_) AllReadyH.nil
              go_simp
              refine hK.out _ _ (trivial) (fun hHeld => ?_)
              clear hK K
              try simp only [Act.put, List.setIfInBounds_toArray, List.set_cons_zero, List.set_cons_succ]
              refine wpAnyH_done (by kernel_rfl) ?_ _
              have ec : w8.setCell ⟨S + 1, 2, none⟩ (.slice A8 (n2 + 1) c8) = w8.setRow (S + 1) #[.slice A m cc, .slice A1 n1 c1, .slice A8 (n2 + 1) c8, .slice none 0 0, .slice none 0 0, .string ⟨#[]⟩] := Box.cell_row yp8 2 _
              rw [ec]
              have yp9 := yp8.set #[.slice A m cc, .slice A1 n1 c1, .slice A8 (n2 + 1) c8, .slice none 0 0, .slice none 0 0, .string ⟨#[]⟩]
              have yx9 := yx8.other (j := S + 1) #[.slice A m cc, .slice A1 n1 c1, .slice A8 (n2 + 1) c8, .slice none 0 0, .slice none 0 0, .string ⟨#[]⟩] (by omega)
              have own9 := own8.row (k := S + 1) (by omega) #[.slice A m cc, .slice A1 n1 c1, .slice A8 (n2 + 1) c8, .slice none 0 0, .slice none 0 0, .string ⟨#[]⟩]
              have hat9 := hat8.row (k := S + 1) #[.slice A m cc, .slice A1 n1 c1, .slice A8 (n2 + 1) c8, .slice none 0 0, .slice none 0 0, .string ⟨#[]⟩] (by omega) (by omega)
              have HB9 : But g w (w8.setRow (S + 1) #[.slice A m cc, .slice A1 n1 c1, .slice A8 (n2 + 1) c8, .slice none 0 0, .slice none 0 0, .string ⟨#[]⟩]) := But.row HB8 (by omega) _
              clear ec pc8 pf8
              have HK6 := Lib.hid hk6
              go_wp2
              go_roundg gk
              case measure => omega
              case rel => exact ⟨A1, n1, c1, A8, n2 + 1, c8, fs, qs ++ [f], j3, q3, Classical.em _, HK6.out, hat9, by have := own9.swap; simpa [List.flatMap_append] using this, yp9, yx9, HB9, by omega, by omega, by omega, by omega⟩
            · go_simp
              clear hHeld
              refine (HNM.out _ _ _ hatd).mono ?_
              rintro en w5 (⟨s, j3', q3', v, hm3, rfl, rfl, hat5, hle5, hb5⟩ | ⟨j3', er, hm3, rfl, hj3, hb5⟩)
              rotate_left
              · have hk6 := HK3.out
                rw [bd_no hm3] at hk6
                exact post_panic (fn := Tryz.f67) rfl (Or.inr ⟨j3', er, hk6.symm, rfl, hj3, HBd.out.trans hb5⟩)
              have hk5 := HK3.out
              rw [bd_ok hm3] at hk5
              have s5 := hb5.size
              have yp5 := ypd.but hb5 (by omega)
              have yx5 := yxd.but hb5 (by omega)
              have own5 := ownd.but hb5 (by omega)
              have HB5q := HBd.out.trans hb5
              have pcN := box_cell yp5 2 (.slice A2 n2 c2) rfl
              refine hK.out _ _ (trivial) (fun hHeld => ?_)
              clear hK K
              try simp only [Act.put, List.setIfInBounds_toArray, List.set_cons_zero, List.set_cons_succ]
              refine tkH (i := 5) (oi := ⟨some 33, _, _, _, _, _⟩) (v := ?_) ?_ ?_
              rotate_left
              · intro W hSw
                go_simp
                try with_reducible rfl
              try simp only [Act.put, List.setIfInBounds_toArray, List.set_cons_zero, List.set_cons_succ]
              refine wpAnyH_ready (rs := [1, 6]) (by kernel_rfl) (by simp) ?_
              refine AllReadyH.cons (o := ⟨some 29, _, _, _, _, _⟩) rfl (fun K hK => ?_) (AllReadyH.cons (o := ⟨some 34, _, _, _, _, _⟩) rfl (fun K hK => ?_) (AllReadyH.nil))
              · go_simp
                refine hK.out _ _ (trivial) (fun hHeld => ?_)
                clear hK K
                try simp only [Act.put, List.setIfInBounds_toArray, List.set_cons_zero, List.set_cons_succ]
                refine wpAnyH_ready (rs := [6]) (by kernel_rfl) (by simp) ?_
                refine AllReadyH.cons (o := ⟨some 34, _, _, _, _, _⟩) rfl (fun K hK => ?_) AllReadyH.nil
                go_simp
                clear hHeld
                refine (inner_x hfr hat5 w5.heap.size (by omega) (by omega) (Nat.le_refl _) s [] (.nil 6)).mono ?_
                rintro en w6 (⟨f, j3, q3, v, hm3, rfl, ⟨f0, f1, f2, f3, f4, rfl, hv⟩, hat6, hle3, hb6⟩ | ⟨j3, er, hm3, rfl, hj3, hb6⟩)
                rotate_left
                · have hk6 := hk5
                  rw [bd_no hm3] at hk6
                  exact post_panic (fn := Tryz.f67) rfl (Or.inr ⟨j3, er, hk6.symm, rfl, hj3, HB5q.trans hb6⟩)
                have hk6 := hk5
                rw [bd_ok hm3] at hk6
                have s6 := hb6.size
                have yp6 := yp5.but hb6 (by omega)
                have yx6 := yx5.but hb6 (by omega)
                have own6 := own5.but hb6 (by omega)
                have HB6q := HB5q.trans hb6
                have pcB := box_cell yp6 2 (.slice A2 n2 c2) rfl
                have yp7 := yp6.new (allocB w6 (.cells #[f0, f1, f2, f3, f4] 71))
                have pcC := box_cell yp7 2 (.slice A2 n2 c2) rfl
                refine hK.out _ _ (trivial) (fun hHeld => ?_)
                clear hK K
                try simp only [Act.put, List.setIfInBounds_toArray, List.set_cons_zero, List.set_cons_succ]
                refine wpAnyH_ready (rs := [7]) (by kernel_rfl) (by simp) ?_
                refine AllReadyH.cons (o := ⟨some 35, _, _, _, _, _⟩) rfl (fun K hK => ?_) AllReadyH.nil
                go_simp
                refine hK.out _ _ (trivial) (fun hHeld => ?_)
                clear hK K
                try simp only [Act.put, List.setIfInBounds_toArray, List.set_cons_zero, List.set_cons_succ]
                refine wpAnyH_ready (rs := [8]) (by kernel_rfl) (by simp) ?_
                refine AllReadyH.cons (o := ⟨some 36, _, _, _, _, _⟩) rfl (fun K hK => ?_) AllReadyH.nil
                rw [if_pos (by rfl)]
                obtain ⟨wz, hwz⟩ : ∃ wz, w6.alloc (.cells #[f0, f1, f2, f3, f4] 71) = wz := ⟨_, rfl⟩
                have bz : Below w6.heap.size w6 wz := hwz ▸ allocB w6 _
                have own7 := (own6.swap).new bz
                have lt1 := own6.lt
                have lt2 := own6.swap.lt
                obtain ⟨vs, us, hrow, hqr, h3, h4, h5, h6⟩ := own7
                have hx7 : Rds (Zt (S + 2) A2 A1) wz f.d [f0, f1, f2, f3, f4] := hv.keep bz.size (fun k _ hk => bz.block k hk) fun k hk hlt => by
                  simp [Fr] at hk
                  exact ⟨by omega, fun a ha => by have := LT2.out a ha; omega, fun a ha => by have := LT1.out a ha; omega⟩
                have NEWS := cells_of_alloc w6 [f0, f1, f2, f3, f4] 71
                rw [show (.cells [f0, f1, f2, f3, f4].toArray 71 : Obj) = .cells #[f0, f1, f2, f3, f4] 71 from rfl, hwz] at NEWS
                rw [hwz] at yp7
                have hsz7 : S + 2 ≤ wz.heap.size := by have := bz.size; omega
                have hat7 := hat6.new bz
                have HB7 := (HB6q).trans (But.of_below bz)
                have yx7 := yx6.new bz
                have onesF := hv.ones
                rw [hwz]
                clear hwz
                refine wp_append_at (.tmp 29) (.tmp 35) 28 rfl (S + 2) 71 tfi (.agg #[.string ⟨#[]⟩, .slice none 0 0, .slice none 0 0, .slice none 0 0, .string ⟨#[]⟩]) 5 104 Tryz.underlying28 htfi htf1 htf2 htf3 rfl (by decide) (.slice A2 n2 c2) n2 vs rfl hrow ⟨w6.heap.size, 0, none⟩ 1 1 [f0, f1, f2, f3, f4] rfl rfl NEWS onesF (by unfold maxLen; omega) (by omega) hsz7 ?_
                intro v' w8 hown8 hgrow hnew
                obtain ⟨A8, c8, rfl, own8⟩ := TwoOwn.snoc hrow hqr h3 h4 h5 h6 hx7 hown8 (by decide) hgrow (hnew_or hnew)
                have hb8 := grown_below hrow hgrow hsz7
                have hat8 := hat7.below hb8 (by omega) (by omega)
                have HB8 := grown_but hrow hgrow HB7 (by omega) hsz7
                have yp8 := yp7.below hb8 (by omega)
                have yx8 := yx7.below hb8 (by omega)
                have pc8 := box_cell yp8 2 (.slice A2 n2 c2) rfl
                have pf8 := Box.fr yp8 2
                refine hK.out _ _ (trivial) (fun hHeld => ?_)
                clear hK K
                try simp only [Act.put, List.setIfInBounds_toArray, List.set_cons_zero, List.set_cons_succ]
                refine tkH (i := 9) (oi := ⟨some 37, _, _, _, _, _⟩) (v := ?_) ?_ ?_
                rotate_left
                · intro W hSw
                  go_simp
                  try with_reducible rfl
                try simp only [Act.put, List.setIfInBounds_toArray, List.set_cons_zero, List.set_cons_succ]
                refine wpAnyH_ready (rs := [10]) (by kernel_rfl) (by simp) ?_
                refine AllReadyH.cons (o := ⟨none, _, _, _, _, _⟩) rfl (fun K hK => ?_) AllReadyH.nil
                go_simp
                refine hK.out _ _ (trivial) (fun hHeld => ?_)
                clear hK K
                try simp only [Act.put, List.setIfInBounds_toArray, List.set_cons_zero, List.set_cons_succ]
                refine wpAnyH_done (by kernel_rfl) ?_ _
                have ec : w8.setCell ⟨S + 1, 2, none⟩ (.slice A8 (n2 + 1) c8) = w8.setRow (S + 1) #[.slice A m cc, .slice A1 n1 c1, .slice A8 (n2 + 1) c8, .slice none 0 0, .slice none 0 0, .string ⟨#[]⟩] := Box.cell_row yp8 2 _
                rw [ec]
                have yp9 := yp8.set #[.slice A m cc, .slice A1 n1 c1, .slice A8 (n2 + 1) c8, .slice none 0 0, .slice none 0 0, .string ⟨#[]⟩]
                have yx9 := yx8.other (j := S + 1) #[.slice A m cc, .slice A1 n1 c1, .slice A8 (n2 + 1) c8, .slice none 0 0, .slice none 0 0, .string ⟨#[]⟩] (by omega)
                have own9 := own8.row (k := S + 1) (by omega) #[.slice A m cc, .slice A1 n1 c1, .slice A8 (n2 + 1) c8, .slice none 0 0, .slice none 0 0, .string ⟨#[]⟩]
                have hat9 := hat8.row (k := S + 1) #[.slice A m cc, .slice A1 n1 c1, .slice A8 (n2 + 1) c8, .slice none 0 0, .slice none 0 0, .string ⟨#[]⟩] (by omega) (by omega)
                have HB9 : But g w (w8.setRow (S + 1) #[.slice A m cc, .slice A1 n1 c1, .slice A8 (n2 + 1) c8, .slice none 0 0, .slice none 0 0, .string ⟨#[]⟩]) := But.row HB8 (by omega) _
                clear ec pc8 pf8
                have HK6 := Lib.hid hk6
                go_wp2
                go_roundg gk
                case measure => omega
                case rel => exact ⟨A1, n1, c1, A8, n2 + 1, c8, fs, qs ++ [f], j3, q3, Classical.em _, HK6.out, hat9, by have := own9.swap; simpa [List.flatMap_append] using this, yp9, yx9, HB9, by omega, by omega, by omega, by omega⟩
              · go_simp
                clear hHeld
                refine (inner_x hfr hat5 w5.heap.size (by omega) (by omega) (Nat.le_refl _) s [] (.nil 6)).mono ?_
                rintro en w6 (⟨f, j3, q3, v, hm3, rfl, ⟨f0, f1, f2, f3, f4, rfl, hv⟩, hat6, hle3, hb6⟩ | ⟨j3, er, hm3, rfl, hj3, hb6⟩)
                rotate_left
                · have hk6 := hk5
                  rw [bd_no hm3] at hk6
                  exact post_panic (fn := Tryz.f67) rfl (Or.inr ⟨j3, er, hk6.symm, rfl, hj3, HB5q.trans hb6⟩)
                have hk6 := hk5
                rw [bd_ok hm3] at hk6
                have s6 := hb6.size
                have yp6 := yp5.but hb6 (by omega)
                have yx6 := yx5.but hb6 (by omega)
                have own6 := own5.but hb6 (by omega)
                have HB6q := HB5q.trans hb6
                have pcB := box_cell yp6 2 (.slice A2 n2 c2) rfl
                have yp7 := yp6.new (allocB w6 (.cells #[f0, f1, f2, f3, f4] 71))
                have pcC := box_cell yp7 2 (.slice A2 n2 c2) rfl
                refine hK.out _ _ (trivial) (fun hHeld => ?_)
                clear hK K
                try simp only [Act.put, List.setIfInBounds_toArray, List.set_cons_zero, List.set_cons_succ]
                refine wpAnyH_ready (rs := [1, 7]) (by kernel_rfl) (by simp) ?_
                refine AllReadyH.cons (o := ⟨some 29, _, _, _, _, _⟩) rfl (fun K hK => ?_) (AllReadyH.cons (o := ⟨some 35, _, _, _, _, _⟩) rfl (fun K hK => ?_) (AllReadyH.nil))
                · go_simp
                  refine hK.out _ _ (trivial) (fun hHeld => ?_)
                  clear hK K
                  try simp only [Act.put, List.setIfInBounds_toArray, List.set_cons_zero, List.set_cons_succ]
                  refine wpAnyH_ready (rs := [7]) (by kernel_rfl) (by simp) ?_
                  refine AllReadyH.cons (o := ⟨some 35, _, _, _, _, _⟩) rfl (fun K hK => ?_) AllReadyH.nil
                  go_simp
                  refine hK.out _ _ (trivial) (fun hHeld => ?_)
                  clear hK K
                  try simp only [Act.put, List.setIfInBounds_toArray, List.set_cons_zero, List.set_cons_succ]
                  refine wpAnyH_ready (rs := [8]) (by kernel_rfl) (by simp) ?_
                  refine AllReadyH.cons (o := ⟨some 36, _, _, _, _, _⟩) rfl (fun K hK => ?_) AllReadyH.nil
                  rw [if_pos (by rfl)]
                  obtain ⟨wz, hwz⟩ : ∃ wz, w6.alloc (.cells #[f0, f1, f2, f3, f4] 71) = wz := ⟨_, rfl⟩
                  have bz : Below w6.heap.size w6 wz := hwz ▸ allocB w6 _
                  have own7 := (own6.swap).new bz
                  have lt1 := own6.lt
                  have lt2 := own6.swap.lt
                  obtain ⟨vs, us, hrow, hqr, h3, h4, h5, h6⟩ := own7
                  have hx7 : Rds (Zt (S + 2) A2 A1) wz f.d [f0, f1, f2, f3, f4] := hv.keep bz.size (fun k _ hk => bz.block k hk) fun k hk hlt => by
                    simp [Fr] at hk
                    exact ⟨by omega, fun a ha => by have := LT2.out a ha; omega, fun a ha => by have := LT1.out a ha; omega⟩
                  have NEWS := cells_of_alloc w6 [f0, f1, f2, f3, f4] 71
                  rw [show (.cells [f0, f1, f2, f3, f4].toArray 71 : Obj) = .cells #[f0, f1, f2, f3, f4] 71 from rfl, hwz] at NEWS
                  rw [hwz] at yp7
                  have hsz7 : S + 2 ≤ wz.heap.size := by have := bz.size; omega
                  have hat7 := hat6.new bz
                  have HB7 := (HB6q).trans (But.of_below bz)
                  have yx7 := yx6.new bz
                  have onesF := hv.ones
                  rw [hwz]
                  clear hwz
                  refine wp_append_at (.tmp 29) (.tmp 35) 28 rfl (S + 2) 71 tfi (.agg #[.string ⟨#[]⟩, .slice none 0 0, .slice none 0 0, .slice none 0 0, .string ⟨#[]⟩]) 5 104 Tryz.underlying28 htfi htf1 htf2 htf3 rfl (by decide) (.slice A2 n2 c2) n2 vs rfl hrow ⟨w6.heap.size, 0, none⟩ 1 1 [f0, f1, f2, f3, f4] rfl rfl NEWS onesF (by unfold maxLen; omega) (by omega) hsz7 ?_
                  intro v' w8 hown8 hgrow hnew
                  obtain ⟨A8, c8, rfl, own8⟩ := TwoOwn.snoc hrow hqr h3 h4 h5 h6 hx7 hown8 (by decide) hgrow (hnew_or hnew)
                  have hb8 := grown_below hrow hgrow hsz7
                  have hat8 := hat7.below hb8 (by omega) (by omega)
                  have HB8 := grown_but hrow hgrow HB7 (by omega) hsz7
                  have yp8 := yp7.below hb8 (by omega)
                  have yx8 := yx7.below hb8 (by omega)
                  have pc8 := box_cell yp8 2 (.slice A2 n2 c2) rfl
                  have pf8 := Box.fr yp8 2
                  refine hK.out _ _ (trivial) (fun hHeld => ?_)
                  clear hK K
                  try simp only [Act.put, List.setIfInBounds_toArray, List.set_cons_zero, List.set_cons_succ]
                  refine tkH (i := 9) (oi := ⟨some 37, _, _, _, _, _⟩) (v := ?_) ?_ ?_
                  rotate_left
                  · intro W hSw
                    go_simp
                    try with_reducible rfl
                  try simp only [Act.put, List.setIfInBounds_toArray, List.set_cons_zero, List.set_cons_succ]
                  refine wpAnyH_ready (rs := [10]) (by kernel_rfl) (by simp) ?_
                  refine AllReadyH.cons (o := ⟨none, _, _, _, _, _⟩) rfl (fun K hK => ?_) AllReadyH.nil
                  go_simp
                  refine hK.out _ _ (trivial) (fun hHeld => ?_)
                  clear hK K
                  try simp only [Act.put, List.setIfInBounds_toArray, List.set_cons_zero, List.set_cons_succ]
                  refine wpAnyH_done (by kernel_rfl) ?_ _
                  have ec : w8.setCell ⟨S + 1, 2, none⟩ (.slice A8 (n2 + 1) c8) = w8.setRow (S + 1) #[.slice A m cc, .slice A1 n1 c1, .slice A8 (n2 + 1) c8, .slice none 0 0, .slice none 0 0, .string ⟨#[]⟩] := Box.cell_row yp8 2 _
                  rw [ec]
                  have yp9 := yp8.set #[.slice A m cc, .slice A1 n1 c1, .slice A8 (n2 + 1) c8, .slice none 0 0, .slice none 0 0, .string ⟨#[]⟩]
                  have yx9 := yx8.other (j := S + 1) #[.slice A m cc, .slice A1 n1 c1, .slice A8 (n2 + 1) c8, .slice none 0 0, .slice none 0 0, .string ⟨#[]⟩] (by omega)
                  have own9 := own8.row (k := S + 1) (by omega) #[.slice A m cc, .slice A1 n1 c1, .slice A8 (n2 + 1) c8, .slice none 0 0, .slice none 0 0, .string ⟨#[]⟩]
                  have hat9 := hat8.row (k := S + 1) #[.slice A m cc, .slice A1 n1 c1, .slice A8 (n2 + 1) c8, .slice none 0 0, .slice none 0 0, .string ⟨#[]⟩] (by omega) (by omega)
                  have HB9 : But g w (w8.setRow (S + 1) #[.slice A m cc, .slice A1 n1 c1, .slice A8 (n2 + 1) c8, .slice none 0 0, .slice none 0 0, .string ⟨#[]⟩]) := But.row HB8 (by omega) _
                  clear ec pc8 pf8
                  have HK6 := Lib.hid hk6
                  go_wp2
                  go_roundg gk
                  case measure => omega
                  case rel => exact ⟨A1, n1, c1, A8, n2 + 1, c8, fs, qs ++ [f], j3, q3, Classical.em _, HK6.out, hat9, by have := own9.swap; simpa [List.flatMap_append] using this, yp9, yx9, HB9, by omega, by omega, by omega, by omega⟩
                · go_simp
                  refine hK.out _ _ (trivial) (fun hHeld => ?_)
                  clear hK K
                  try simp only [Act.put, List.setIfInBounds_toArray, List.set_cons_zero, List.set_cons_succ]
                  refine wpAnyH_ready (rs := [1]) (by kernel_rfl) (by simp) ?_
                  refine AllReadyH.cons (o := ⟨some 29, _, _, _, _, _⟩) rfl (fun K hK => ?_) AllReadyH.nil
                  go_simp
                  refine hK.out _ _ (trivial) (fun hHeld => ?_)
                  clear hK K
                  try simp only [Act.put, List.setIfInBounds_toArray, List.set_cons_zero, List.set_cons_succ]
                  refine wpAnyH_ready (rs := [8]) (by kernel_rfl) (by simp) ?_
                  refine AllReadyH.cons (o := ⟨some 36, _, _, _, _, _⟩) rfl (fun K hK => ?_) AllReadyH.nil
                  rw [if_pos (by rfl)]
                  obtain ⟨wz, hwz⟩ : ∃ wz, w6.alloc (.cells #[f0, f1, f2, f3, f4] 71) = wz := ⟨_, rfl⟩
                  have bz : Below w6.heap.size w6 wz := hwz ▸ allocB w6 _
                  have own7 := (own6.swap).new bz
                  have lt1 := own6.lt
                  have lt2 := own6.swap.lt
                  obtain ⟨vs, us, hrow, hqr, h3, h4, h5, h6⟩ := own7
                  have hx7 : Rds (Zt (S + 2) A2 A1) wz f.d [f0, f1, f2, f3, f4] := hv.keep bz.size (fun k _ hk => bz.block k hk) fun k hk hlt => by
                    simp [Fr] at hk
                    exact ⟨by omega, fun a ha => by have := LT2.out a ha; omega, fun a ha => by have := LT1.out a ha; omega⟩
                  have NEWS := cells_of_alloc w6 [f0, f1, f2, f3, f4] 71
                  rw [show (.cells [f0, f1, f2, f3, f4].toArray 71 : Obj) = .cells #[f0, f1, f2, f3, f4] 71 from rfl, hwz] at NEWS
                  rw [hwz] at yp7
                  have hsz7 : S + 2 ≤ wz.heap.size := by have := bz.size; omega
                  have hat7 := hat6.new bz
                  have HB7 := (HB6q).trans (But.of_below bz)
                  have yx7 := yx6.new bz
                  have onesF := hv.ones
                  rw [hwz]
                  clear hwz
                  refine wp_append_at (.tmp 29) (.tmp 35) 28 rfl (S + 2) 71 tfi (.agg #[.string ⟨#[]⟩, .slice none 0 0, .slice none 0 0, .slice none 0 0, .string ⟨#[]⟩]) 5 104 Tryz.underlying28 htfi htf1 htf2 htf3 rfl (by decide) (.slice A2 n2 c2) n2 vs rfl hrow ⟨w6.heap.size, 0, none⟩ 1 1 [f0, f1, f2, f3, f4] rfl rfl NEWS onesF (by unfold maxLen; omega) (by omega) hsz7 ?_
                  intro v' w8 hown8 hgrow hnew
                  obtain ⟨A8, c8, rfl, own8⟩ := TwoOwn.snoc hrow hqr h3 h4 h5 h6 hx7 hown8 (by decide) hgrow (hnew_or hnew)
                  have hb8 := grown_below hrow hgrow hsz7
                  have hat8 := hat7.below hb8 (by omega) (by omega)
                  have HB8 := grown_but hrow hgrow HB7 (by omega) hsz7
                  have yp8 := yp7.below hb8 (by omega)
                  have yx8 := yx7.below hb8 (by omega)
                  have pc8 := box_cell yp8 2 (.slice A2 n2 c2) rfl
                  have pf8 := Box.fr yp8 2
                  refine hK.out _ _ (trivial) (fun hHeld => ?_)
                  clear hK K
                  try simp only [Act.put, List.setIfInBounds_toArray, List.set_cons_zero, List.set_cons_succ]
                  refine tkH (i := 9) (oi := ⟨some 37, _, _, _, _, _⟩) (v := ?_) ?_ ?_
                  rotate_left
                  · intro W hSw
                    go_simp
                    try with_reducible rfl
                  try simp only [Act.put, List.setIfInBounds_toArray, List.set_cons_zero, List.set_cons_succ]
                  refine wpAnyH_ready (rs := [10]) (by kernel_rfl) (by simp) ?_
                  refine AllReadyH.cons (o := ⟨none, _, _, _, _, _⟩) rfl (fun K hK => ?_) AllReadyH.nil
                  go_simp
                  refine hK.out _ _ (trivial) (fun hHeld => ?_)
                  clear hK K
                  try simp only [Act.put, List.setIfInBounds_toArray, List.set_cons_zero, List.set_cons_succ]
                  refine wpAnyH_done (by kernel_rfl) ?_ _
                  have ec : w8.setCell ⟨S + 1, 2, none⟩ (.slice A8 (n2 + 1) c8) = w8.setRow (S + 1) #[.slice A m cc, .slice A1 n1 c1, .slice A8 (n2 + 1) c8, .slice none 0 0, .slice none 0 0, .string ⟨#[]⟩] := Box.cell_row yp8 2 _
                  rw [ec]
                  have yp9 := yp8.set #[.slice A m cc, .slice A1 n1 c1, .slice A8 (n2 + 1) c8, .slice none 0 0, .slice none 0 0, .string ⟨#[]⟩]
                  have yx9 := yx8.other (j := S + 1) #[.slice A m cc, .slice A1 n1 c1, .slice A8 (n2 + 1) c8, .slice none 0 0, .slice none 0 0, .string ⟨#[]⟩] (by omega)
                  have own9 := own8.row (k := S + 1) (by omega) #[.slice A m cc, .slice A1 n1 c1, .slice A8 (n2 + 1) c8, .slice none 0 0, .slice none 0 0, .string ⟨#[]⟩]
                  have hat9 := hat8.row (k := S + 1) #[.slice A m cc, .slice A1 n1 c1, .slice A8 (n2 + 1) c8, .slice none 0 0, .slice none 0 0, .string ⟨#[]⟩] (by omega) (by omega)
                  have HB9 : But g w (w8.setRow (S + 1) #[.slice A m cc, .slice A1 n1 c1, .slice A8 (n2 + 1) c8, .slice none 0 0, .slice none 0 0, .string ⟨#[]⟩]) := But.row HB8 (by omega) _
                  clear ec pc8 pf8
                  have HK6 := Lib.hid hk6
                  go_wp2
                  go_roundg gk
                  case measure => omega
                  case rel => exact ⟨A1, n1, c1, A8, n2 + 1, c8, fs, qs ++ [f], j3, q3, Classical.em _, HK6.out, hat9, by have := own9.swap; simpa [List.flatMap_append] using this, yp9, yx9, HB9, by omega, by omega, by omega, by omega⟩
          obtain ⟨rfl, rfl, _⟩ := acc_not hm
          simp only [Bool.false_eq_true, if_false] at hk2
          have hk3 : bd (block L) (fun x => bd (ends L) fun _ => ret ⟨l, fs, qs, x.1, x.2.1, x.2.2⟩) _ _ = r := hk2
          have dq := own4.swap.rd1
          have df := own4.rd1
          have dp := own4.rd0
          clear hm hk2 own4
          go_wp2_with fail
          refine (HBL.out _ _ _ hat4 (by omega)).mono ?_
          rintro en w5 (⟨⟨vs, bdy, res⟩, j5, q5, v, hm, rfl, ⟨Cv, cm, ce, Ev, em, ee, rfl, hv1, hv2⟩, hat5, hle5, hb5⟩ | ⟨j5, er, hm, rfl, hj5, hb5⟩)
          rotate_left
          · rw [bd_no hm] at hk3
            go_wp2
            exact post_panic (fn := Tryz.f67) rfl (Or.inr ⟨j5, er, hk3.symm, rfl, hj5, HB4.trans hb5⟩)
          rw [bd_ok hm] at hk3
          have yp5 := yp4.but hb5 (by omega)
          have yx5 := yx4.but hb5 (by omega)
          have HB5 := HB4.trans hb5
          have hs5 := hb5.size
          have dv5 : Rd (Fr (S + 2)) w5 (.l 6 (vs.flatMap De.d)) (.slice Cv cm ce) := hv1.in fun k hk => by simp [Fr] at hk ⊢; omega
          have db5 : Rd (Fr (S + 2)) w5 (.l 25 (dsS bdy)) (.slice Ev em ee) := hv2.in fun k hk => by simp [Fr] at hk ⊢; omega
          have d5 : Rds (Fr (S + 2)) w5 (Pr.mk l fs qs vs bdy res).d [.slice A m cc, .slice A1 n1 c1, .slice A2 n2 c2, .slice Cv cm ce, .slice Ev em ee, .string (bt res)] := .cons (dp.but hb5 (by simp [Fr]; omega)) (.cons (df.but hb5 (by simp [Fr]; omega)) (.cons (dq.but hb5 (by simp [Fr]; omega)) (.cons dv5 (.cons db5 (.cons (.s res) .nil)))))
          clear hm yp4 yx4 HB4 hat4 dq df dp dv5 db5 hv1 hv2
          have pc3 := box_cell yp5 3 (.slice none 0 0) rfl
          have pc4 := box_cell yp5 4 (.slice none 0 0) rfl
          have pc5 := box_cell yp5 5 (.string ⟨#[]⟩) rfl
          have pf3 := Box.fr yp5 3
          have pf4 := Box.fr yp5 4
          have pf5 := Box.fr yp5 5
          go_wp2_with fail
          clear pc3 pc4 pc5 pf3 pf4 pf5
          have e1 : w5.setCell ⟨S + 1, 3, none⟩ (.slice Cv cm ce) = w5.setRow (S + 1) #[.slice A m cc, .slice A1 n1 c1, .slice A2 n2 c2, .slice Cv cm ce, .slice none 0 0, .string ⟨#[]⟩] := Box.cell_row yp5 3 _
          rw [e1]
          have yp6 := yp5.set #[.slice A m cc, .slice A1 n1 c1, .slice A2 n2 c2, .slice Cv cm ce, .slice none 0 0, .string ⟨#[]⟩]
          have yx6 := yx5.other (j := S + 1) #[.slice A m cc, .slice A1 n1 c1, .slice A2 n2 c2, .slice Cv cm ce, .slice none 0 0, .string ⟨#[]⟩] (by omega)
          have hat6 := hat5.row (k := S + 1) #[.slice A m cc, .slice A1 n1 c1, .slice A2 n2 c2, .slice Cv cm ce, .slice none 0 0, .string ⟨#[]⟩] (by omega) (by omega)
          have HB6 : But g w (w5.setRow (S + 1) #[.slice A m cc, .slice A1 n1 c1, .slice A2 n2 c2, .slice Cv cm ce, .slice none 0 0, .string ⟨#[]⟩]) := But.row HB5 (by omega) _
          have d6 := d5.row (k := S + 1) (by simp [Fr]) #[.slice A m cc, .slice A1 n1 c1, .slice A2 n2 c2, .slice Cv cm ce, .slice none 0 0, .string ⟨#[]⟩]
          clear e1 yp5 yx5 hat5 HB5 d5
          generalize w5.setRow (S + 1) #[.slice A m cc, .slice A1 n1 c1, .slice A2 n2 c2, .slice Cv cm ce, .slice none 0 0, .string ⟨#[]⟩] = w6 at *
          have e1 : w6.setCell ⟨S + 1, 4, none⟩ (.slice Ev em ee) = w6.setRow (S + 1) #[.slice A m cc, .slice A1 n1 c1, .slice A2 n2 c2, .slice Cv cm ce, .slice Ev em ee, .string ⟨#[]⟩] := Box.cell_row yp6 4 _
          rw [e1]
          have yp7 := yp6.set #[.slice A m cc, .slice A1 n1 c1, .slice A2 n2 c2, .slice Cv cm ce, .slice Ev em ee, .string ⟨#[]⟩]
          have yx7 := yx6.other (j := S + 1) #[.slice A m cc, .slice A1 n1 c1, .slice A2 n2 c2, .slice Cv cm ce, .slice Ev em ee, .string ⟨#[]⟩] (by omega)
          have hat7 := hat6.row (k := S + 1) #[.slice A m cc, .slice A1 n1 c1, .slice A2 n2 c2, .slice Cv cm ce, .slice Ev em ee, .string ⟨#[]⟩] (by omega) (by omega)
          have HB7 : But g w (w6.setRow (S + 1) #[.slice A m cc, .slice A1 n1 c1, .slice A2 n2 c2, .slice Cv cm ce, .slice Ev em ee, .string ⟨#[]⟩]) := But.row HB6 (by omega) _
          have d7 := d6.row (k := S + 1) (by simp [Fr]) #[.slice A m cc, .slice A1 n1 c1, .slice A2 n2 c2, .slice Cv cm ce, .slice Ev em ee, .string ⟨#[]⟩]
          clear e1 yp6 yx6 hat6 HB6 d6
          generalize w6.setRow (S + 1) #[.slice A m cc, .slice A1 n1 c1, .slice A2 n2 c2, .slice Cv cm ce, .slice Ev em ee, .string ⟨#[]⟩] = w7 at *
          have e1 : w7.setCell ⟨S + 1, 5, none⟩ (.string (bt res)) = w7.setRow (S + 1) #[.slice A m cc, .slice A1 n1 c1, .slice A2 n2 c2, .slice Cv cm ce, .slice Ev em ee, .string (bt res)] := Box.cell_row yp7 5 _
          rw [e1]
          have yp8 := yp7.set #[.slice A m cc, .slice A1 n1 c1, .slice A2 n2 c2, .slice Cv cm ce, .slice Ev em ee, .string (bt res)]
          have yx8 := yx7.other (j := S + 1) #[.slice A m cc, .slice A1 n1 c1, .slice A2 n2 c2, .slice Cv cm ce, .slice Ev em ee, .string (bt res)] (by omega)
          have hat8 := hat7.row (k := S + 1) #[.slice A m cc, .slice A1 n1 c1, .slice A2 n2 c2, .slice Cv cm ce, .slice Ev em ee, .string (bt res)] (by omega) (by omega)
          have HB8 : But g w (w7.setRow (S + 1) #[.slice A m cc, .slice A1 n1 c1, .slice A2 n2 c2, .slice Cv cm ce, .slice Ev em ee, .string (bt res)]) := But.row HB7 (by omega) _
          have d8 := d7.row (k := S + 1) (by simp [Fr]) #[.slice A m cc, .slice A1 n1 c1, .slice A2 n2 c2, .slice Cv cm ce, .slice Ev em ee, .string (bt res)]
          clear e1 yp7 yx7 hat7 HB7 d7
          generalize w7.setRow (S + 1) #[.slice A m cc, .slice A1 n1 c1, .slice A2 n2 c2, .slice Cv cm ce, .slice Ev em ee, .string (bt res)] = w8 at *
          refine (textOf_x hat8 5).mono ?_
          rintro en w9 (⟨a, j9, q9, v, hm, rfl, rfl, hat9, hle9, hb9⟩ | ⟨j9, er, hm, rfl, hj9, hb9⟩)
          rotate_left
          · unfold textM at hm
            split at hm
            · cases hm
            · next e =>
              injection hm with m1 m2
              subst m1 m2
              have he : ends L j5 q5 = .no j5 4 := by unfold ends; rw [if_neg e]
              rw [bd_no he] at hk3
              go_wp2
              exact post_panic (fn := Tryz.f67) rfl (Or.inr ⟨j5, 4, hk3.symm, rfl, hj9, HB8.trans hb9⟩)
          unfold textM at hm
          split at hm
          · next e =>
            injection hm with m1 m2 m3
            subst m1 m2 m3
            have he : ends L j5 q5 = .ok () j5 q5 := by unfold ends; rw [if_pos e]
            rw [bd_ok he] at hk3
            have yp9 := yp8.but hb9 (by omega)
            have yx9 := yx8.but hb9 (by omega)
            have d9 := d8.but hb9 (by simp [Fr]; omega)
            have ones : (#[.slice A m cc, .slice A1 n1 c1, .slice A2 n2 c2, .slice Cv cm ce, .slice Ev em ee, .string (bt res)] : Array Value).all (·.oneCell') = true := d9.all
            go_wp2_with (first | (refine wpList_load_row rfl 32 (.tmp 3) rfl (S + 1) rfl 32 _ (0, 0) (.struct _) yp9 rfl rfl (by kernel_rfl) ?_) | (refine wpList_store_row rfl 32 (.tmp 2) (.tmp 49) rfl S _ rfl rfl 32 _ yx9 (by kernel_rfl) rfl ones ?_))
            try rw [Exit.noGoto_ret]
            refine bodyPost_ret (results_cell_row rfl _ _ S _ _ _ (.struct _) rfl (yx9.set _) rfl rfl (by kernel_rfl)) rfl ?_
            exact Or.inl ⟨⟨l, fs, qs, vs, bdy, res⟩, j5, q5, _, hk3.symm, rfl, ⟨_, _, _, _, _, _, rfl, (d9.row (by simp [Fr]) _).in fun k hk => by simp [Fr] at hk ⊢; omega⟩, hat9.row _ hsz hbz, by omega, But.row (HB8.trans hb9) (by omega) _⟩
          · cases hm
      · obtain ⟨rfl, _⟩ := acc_yes hm
        simp only [if_true] at hk2
        rw [bd_assoc] at hk2
        have HK3 := Lib.hid hk2
        have hatd := hat.drew
        have ownd := own3.drew
        have ypd := yp3.drew
        have yxd := yx3.drew
        have HBd := Lib.hid (But.drew HB3)
        have sd : w3.drew.heap.size = w3.heap.size := rfl
        have pcA := box_cell ypd 0 (.slice A m cc) rfl
        clear hm hk2 hw hat own3 yp3 yx3 HB3
        go_wp2
        refine wp_region_held_drew (S := fun _ => True) (by kernel_rfl) ?_ (fun hHeld => ?_)
        · trivial
        refine tkH (i := 0) (oi := ⟨some 6, _, _, _, _, _⟩) (v := ?_) ?_ ?_
        rotate_left
        · intro W hSw
          go_simp
          try with_reducible rfl
        try simp only [Act.put, List.setIfInBounds_toArray, List.set_cons_zero, List.set_cons_succ]
        refine tkH (i := 2) (oi := ⟨some 8, _, _, _, _, _⟩) (v := ?_) ?_ ?_
        rotate_left
        · intro W hSw
          go_simp
          try with_reducible rfl
        try simp only [Act.put, List.setIfInBounds_toArray, List.set_cons_zero, List.set_cons_succ]
        refine wpAnyH_ready (rs := [1, 3]) (by kernel_rfl) (by simp) ?_
        refine AllReadyH.cons (o := ⟨some 7, _, _, _, _, _⟩) rfl (fun K hK => ?_) (AllReadyH.cons (o := ⟨some 9, _, _, _, _, _⟩) rfl (fun K hK => ?_) (AllReadyH.nil))
        · go_simp
          refine hK.out _ _ (trivial) (fun hHeld => ?_)
          clear hK K
          try simp only [Act.put, List.setIfInBounds_toArray, List.set_cons_zero, List.set_cons_succ]
          refine wpAnyH_ready (rs := [3]) (by kernel_rfl) (by simp) ?_
          refine AllReadyH.cons (o := ⟨some 9, _, _, _, _, _⟩) rfl (fun K hK => ?_) AllReadyH.nil
          go_simp
          clear hHeld
          refine (HNM.out _ _ _ hatd).mono ?_
          rintro en w6 (⟨s, j3, q3, v, hm3, rfl, rfl, hat6, hle3, hb6⟩ | ⟨j3, er, hm3, rfl, hj3, hb6⟩)
          rotate_left
          · have hk6 := HK3.out
            rw [bd_no hm3] at hk6
            exact post_panic (fn := Tryz.f67) rfl (Or.inr ⟨j3, er, hk6.symm, rfl, hj3, HBd.out.trans hb6⟩)
          have hk6 := HK3.out
          rw [bd_ok hm3, bd_assoc] at hk6
          have s6 := hb6.size
          have yp6 := ypd.but hb6 (by omega)
          have yx6 := yxd.but hb6 (by omega)
          have own6 := ownd.but hb6 (by omega)
          have pcB := box_cell yp6 0 (.slice A m cc) rfl
          have yp7 := yp6.new (allocB w6 (.cells #[.string (bt s)] 9))
          have pcC := box_cell yp7 0 (.slice A m cc) rfl
          refine hK.out _ _ (trivial) (fun hHeld => ?_)
          clear hK K
          try simp only [Act.put, List.setIfInBounds_toArray, List.set_cons_zero, List.set_cons_succ]
          refine wpAnyH_ready (rs := [4]) (by kernel_rfl) (by simp) ?_
          refine AllReadyH.cons (o := ⟨some 10, _, _, _, _, _⟩) rfl (fun K hK => ?_) AllReadyH.nil
          go_simp
          refine hK.out _ _ (trivial) (fun hHeld => ?_)
          clear hK K
          try simp only [Act.put, List.setIfInBounds_toArray, List.set_cons_zero, List.set_cons_succ]
          refine wpAnyH_ready (rs := [5]) (by kernel_rfl) (by simp) ?_
          refine AllReadyH.cons (o := ⟨some 11, _, _, _, _, _⟩) rfl (fun K hK => ?_) AllReadyH.nil
          rw [if_pos (by rfl)]
          obtain ⟨wz, hwz⟩ : ∃ wz, w6.alloc (.cells #[.string (bt s)] 9) = wz := ⟨_, rfl⟩
          have bz : Below w6.heap.size w6 wz := hwz ▸ allocB w6 _
          have own7 := own6.new bz
          have lt7 := own7.lt
          obtain ⟨vs, hrow, hrd⟩ := own7
          have hx7 : Rds (fun b => S + 2 ≤ b ∧ offA A b) wz [.s s] [.string (bt s)] := .cons (.s s) .nil
          have NEWS := cells_of_alloc w6 [.string (bt s)] 9
          rw [show (.cells [.string (bt s)].toArray 9 : Obj) = .cells #[.string (bt s)] 9 from rfl, hwz] at NEWS
          rw [hwz] at yp7
          have hsz7 : S + 2 ≤ wz.heap.size := by have := bz.size; omega
          have hat7 := hat6.new bz
          have HB7 := (HBd.out.trans hb6).trans (But.of_below bz)
          have yx7 := yx6.new bz
          rw [hwz]
          clear hwz
          refine wp_append_at (.tmp 7) (.tmp 10) 27 rfl (S + 2) 9 tsi (.string ⟨#[]⟩) 1 16 Tryz.underlying27 htsi hts1 hts2 hts3 rfl (by decide) (.slice A m cc) m vs rfl hrow ⟨w6.heap.size, 0, none⟩ 1 1 [.string (bt s)] rfl rfl NEWS (by simp [Value.oneCell']) (by unfold maxLen; omega) (by omega) hsz7 ?_
          intro v' w8 hown8 hgrow hnew
          obtain ⟨A8, c8, rfl, own8⟩ := Own.snoc hrow hrd hx7 hown8 (by decide) hgrow (hnew_or hnew)
          have hb8 := grown_below hrow hgrow hsz7
          have hat8 := hat7.below hb8 (by omega) (by omega)
          have HB8 := grown_but hrow hgrow HB7 (by omega) hsz7
          have yp8 := yp7.below hb8 (by omega)
          have yx8 := yx7.below hb8 (by omega)
          have pc8 := box_cell yp8 0 (.slice A m cc) rfl
          have pf8 := Box.fr yp8 0
          refine hK.out _ _ (trivial) (fun hHeld => ?_)
          clear hK K
          try simp only [Act.put, List.setIfInBounds_toArray, List.set_cons_zero, List.set_cons_succ]
          refine tkH (i := 6) (oi := ⟨some 12, _, _, _, _, _⟩) (v := ?_) ?_ ?_
          rotate_left
          · intro W hSw
            go_simp
            try with_reducible rfl
          try simp only [Act.put, List.setIfInBounds_toArray, List.set_cons_zero, List.set_cons_succ]
          refine wpAnyH_ready (rs := [7]) (by kernel_rfl) (by simp) ?_
          refine AllReadyH.cons (o := ⟨none, _, _, _, _, _⟩) rfl (fun K hK => ?_) AllReadyH.nil
          go_simp
          refine hK.out _ _ (trivial) (fun hHeld => ?_)
          clear hK K
          try simp only [Act.put, List.setIfInBounds_toArray, List.set_cons_zero, List.set_cons_succ]
          refine wpAnyH_done (by kernel_rfl) ?_ _
          have ec : w8.setCell ⟨S + 1, 0, none⟩ (.slice A8 (m + 1) c8) = w8.setRow (S + 1) #[.slice A8 (m + 1) c8, .slice none 0 0, .slice none 0 0, .slice none 0 0, .slice none 0 0, .string ⟨#[]⟩] := Box.cell_row yp8 0 _
          rw [ec]
          have yp9 := yp8.set #[.slice A8 (m + 1) c8, .slice none 0 0, .slice none 0 0, .slice none 0 0, .slice none 0 0, .string ⟨#[]⟩]
          have yx9 := yx8.other (j := S + 1) #[.slice A8 (m + 1) c8, .slice none 0 0, .slice none 0 0, .slice none 0 0, .slice none 0 0, .string ⟨#[]⟩] (by omega)
          have own9 := own_low own8 (k := S + 1) (by omega) #[.slice A8 (m + 1) c8, .slice none 0 0, .slice none 0 0, .slice none 0 0, .slice none 0 0, .string ⟨#[]⟩]
          have hat9 := hat8.row (k := S + 1) #[.slice A8 (m + 1) c8, .slice none 0 0, .slice none 0 0, .slice none 0 0, .slice none 0 0, .string ⟨#[]⟩] (by omega) (by omega)
          have HB9 : But g w (w8.setRow (S + 1) #[.slice A8 (m + 1) c8, .slice none 0 0, .slice none 0 0, .slice none 0 0, .slice none 0 0, .string ⟨#[]⟩]) := But.row HB8 (by omega) _
          have hs9 := HB9.size
          clear ec pc8 pf8
          go_wp2_with fail
          generalize w8.setRow (S + 1) #[.slice A8 (m + 1) c8, .slice none 0 0, .slice none 0 0, .slice none 0 0, .slice none 0 0, .string ⟨#[]⟩] = w9 at *
          refine (HW.out _ _ _ [59] (by decide) hat9).mono ?_
          rintro en w10 (⟨⟨⟩, j4, q4, v, hm4, rfl, rfl, hat10, hle4, hb10⟩ | ⟨j4, er, hm4, rfl, hj4, hb10⟩)
          rotate_left
          · rw [bd_no hm4] at hk6
            go_wp2
            exact post_panic (fn := Tryz.f67) rfl (Or.inr ⟨j4, er, hk6.symm, rfl, hj4, HB9.trans hb10⟩)
          rw [bd_ok hm4] at hk6
          have HK6 := Lib.hid hk6
          go_wp2
          go_roundg gk
          case measure => omega
          case rel => exact ⟨A8, m + 1, c8, l ++ [s], j4, q4, Classical.em _, HK6.out, hat10, by have := own9.but hb10 (by omega); simpa using this, by simp [hlm], yp9.but hb10 (by omega), yx9.but hb10 (by omega), HB9.trans hb10, by omega, by omega, by omega⟩
        · go_simp
          clear hHeld
          refine (HNM.out _ _ _ hatd).mono ?_
          rintro en w6 (⟨s, j3, q3, v, hm3, rfl, rfl, hat6, hle3, hb6⟩ | ⟨j3, er, hm3, rfl, hj3, hb6⟩)
          rotate_left
          · have hk6 := HK3.out
            rw [bd_no hm3] at hk6
            exact post_panic (fn := Tryz.f67) rfl (Or.inr ⟨j3, er, hk6.symm, rfl, hj3, HBd.out.trans hb6⟩)
          have hk6 := HK3.out
          rw [bd_ok hm3, bd_assoc] at hk6
          have s6 := hb6.size
          have yp6 := ypd.but hb6 (by omega)
          have yx6 := yxd.but hb6 (by omega)
          have own6 := ownd.but hb6 (by omega)
          have pcB := box_cell yp6 0 (.slice A m cc) rfl
          have yp7 := yp6.new (allocB w6 (.cells #[.string (bt s)] 9))
          have pcC := box_cell yp7 0 (.slice A m cc) rfl
          refine hK.out _ _ (trivial) (fun hHeld => ?_)
          clear hK K
          try simp only [Act.put, List.setIfInBounds_toArray, List.set_cons_zero, List.set_cons_succ]
          refine wpAnyH_ready (rs := [1, 4]) (by kernel_rfl) (by simp) ?_
          refine AllReadyH.cons (o := ⟨some 7, _, _, _, _, _⟩) rfl (fun K hK => ?_) (AllReadyH.cons (o := ⟨some 10, _, _, _, _, _⟩) rfl (fun K hK => ?_) (AllReadyH.nil))
          · go_simp
            refine hK.out _ _ (trivial) (fun hHeld => ?_)
            clear hK K
            try simp only [Act.put, List.setIfInBounds_toArray, List.set_cons_zero, List.set_cons_succ]
            refine wpAnyH_ready (rs := [4]) (by kernel_rfl) (by simp) ?_
            refine AllReadyH.cons (o := ⟨some 10, _, _, _, _, _⟩) rfl (fun K hK => ?_) AllReadyH.nil
            go_simp
            refine hK.out _ _ (trivial) (fun hHeld => ?_)
            clear hK K
            try simp only [Act.put, List.setIfInBounds_toArray, List.set_cons_zero, List.set_cons_succ]
            refine wpAnyH_ready (rs := [5]) (by kernel_rfl) (by simp) ?_
            refine AllReadyH.cons (o := ⟨some 11, _, _, _, _, _⟩) rfl (fun K hK => ?_) AllReadyH.nil
            rw [if_pos (by rfl)]
            obtain ⟨wz, hwz⟩ : ∃ wz, w6.alloc (.cells #[.string (bt s)] 9) = wz := ⟨_, rfl⟩
            have bz : Below w6.heap.size w6 wz := hwz ▸ allocB w6 _
            have own7 := own6.new bz
            have lt7 := own7.lt
            obtain ⟨vs, hrow, hrd⟩ := own7
            have hx7 : Rds (fun b => S + 2 ≤ b ∧ offA A b) wz [.s s] [.string (bt s)] := .cons (.s s) .nil
            have NEWS := cells_of_alloc w6 [.string (bt s)] 9
            rw [show (.cells [.string (bt s)].toArray 9 : Obj) = .cells #[.string (bt s)] 9 from rfl, hwz] at NEWS
            rw [hwz] at yp7
            have hsz7 : S + 2 ≤ wz.heap.size := by have := bz.size; omega
            have hat7 := hat6.new bz
            have HB7 := (HBd.out.trans hb6).trans (But.of_below bz)
            have yx7 := yx6.new bz
            rw [hwz]
            clear hwz
            refine wp_append_at (.tmp 7) (.tmp 10) 27 rfl (S + 2) 9 tsi (.string ⟨#[]⟩) 1 16 Tryz.underlying27 htsi hts1 hts2 hts3 rfl (by decide) (.slice A m cc) m vs rfl hrow ⟨w6.heap.size, 0, none⟩ 1 1 [.string (bt s)] rfl rfl NEWS (by simp [Value.oneCell']) (by unfold maxLen; omega) (by omega) hsz7 ?_
            intro v' w8 hown8 hgrow hnew
            obtain ⟨A8, c8, rfl, own8⟩ := Own.snoc hrow hrd hx7 hown8 (by decide) hgrow (hnew_or hnew)
            have hb8 := grown_below hrow hgrow hsz7
            have hat8 := hat7.below hb8 (by omega) (by omega)
            have HB8 := grown_but hrow hgrow HB7 (by omega) hsz7
            have yp8 := yp7.below hb8 (by omega)
            have yx8 := yx7.below hb8 (by omega)
            have pc8 := box_cell yp8 0 (.slice A m cc) rfl
            have pf8 := Box.fr yp8 0
            refine hK.out _ _ (trivial) (fun hHeld => ?_)
            clear hK K
            try simp only [Act.put, List.setIfInBounds_toArray, List.set_cons_zero, List.set_cons_succ]
            refine tkH (i := 6) (oi := ⟨some 12, _, _, _, _, _⟩) (v := ?_) ?_ ?_
            rotate_left
            · intro W hSw
              go_simp
              try with_reducible rfl
            try simp only [Act.put, List.setIfInBounds_toArray, List.set_cons_zero, List.set_cons_succ]
            refine wpAnyH_ready (rs := [7]) (by kernel_rfl) (by simp) ?_
            refine AllReadyH.cons (o := ⟨none, _, _, _, _, _⟩) rfl (fun K hK => ?_) AllReadyH.nil
            go_simp
            refine hK.out _ _ (trivial) (fun hHeld => ?_)
            clear hK K
            try simp only [Act.put, List.setIfInBounds_toArray, List.set_cons_zero, List.set_cons_succ]
            refine wpAnyH_done (by kernel_rfl) ?_ _
            have ec : w8.setCell ⟨S + 1, 0, none⟩ (.slice A8 (m + 1) c8) = w8.setRow (S + 1) #[.slice A8 (m + 1) c8, .slice none 0 0, .slice none 0 0, .slice none 0 0, .slice none 0 0, .string ⟨#[]⟩] := Box.cell_row yp8 0 _
            rw [ec]
            have yp9 := yp8.set #[.slice A8 (m + 1) c8, .slice none 0 0, .slice none 0 0, .slice none 0 0, .slice none 0 0, .string ⟨#[]⟩]
            have yx9 := yx8.other (j := S + 1) #[.slice A8 (m + 1) c8, .slice none 0 0, .slice none 0 0, .slice none 0 0, .slice none 0 0, .string ⟨#[]⟩] (by omega)
            have own9 := own_low own8 (k := S + 1) (by omega) #[.slice A8 (m + 1) c8, .slice none 0 0, .slice none 0 0, .slice none 0 0, .slice none 0 0, .string ⟨#[]⟩]
            have hat9 := hat8.row (k := S + 1) #[.slice A8 (m + 1) c8, .slice none 0 0, .slice none 0 0, .slice none 0 0, .slice none 0 0, .string ⟨#[]⟩] (by omega) (by omega)
            have HB9 : But g w (w8.setRow (S + 1) #[.slice A8 (m + 1) c8, .slice none 0 0, .slice none 0 0, .slice none 0 0, .slice none 0 0, .string ⟨#[]⟩]) := But.row HB8 (by omega) _
            have hs9 := HB9.size
            clear ec pc8 pf8
            go_wp2_with fail
            generalize w8.setRow (S + 1) #[.slice A8 (m + 1) c8, .slice none 0 0, .slice none 0 0, .slice none 0 0, .slice none 0 0, .string ⟨#[]⟩] = w9 at *
            refine (HW.out _ _ _ [59] (by decide) hat9).mono ?_
            rintro en w10 (⟨⟨⟩, j4, q4, v, hm4, rfl, rfl, hat10, hle4, hb10⟩ | ⟨j4, er, hm4, rfl, hj4, hb10⟩)
            rotate_left
            · rw [bd_no hm4] at hk6
              go_wp2
              exact post_panic (fn := Tryz.f67) rfl (Or.inr ⟨j4, er, hk6.symm, rfl, hj4, HB9.trans hb10⟩)
            rw [bd_ok hm4] at hk6
            have HK6 := Lib.hid hk6
            go_wp2
            go_roundg gk
            case measure => omega
            case rel => exact ⟨A8, m + 1, c8, l ++ [s], j4, q4, Classical.em _, HK6.out, hat10, by have := own9.but hb10 (by omega); simpa using this, by simp [hlm], yp9.but hb10 (by omega), yx9.but hb10 (by omega), HB9.trans hb10, by omega, by omega, by omega⟩
          · go_simp
            refine hK.out _ _ (trivial) (fun hHeld => ?_)
            clear hK K
            try simp only [Act.put, List.setIfInBounds_toArray, List.set_cons_zero, List.set_cons_succ]
            refine wpAnyH_ready (rs := [1]) (by kernel_rfl) (by simp) ?_
            refine AllReadyH.cons (o := ⟨some 7, _, _, _, _, _⟩) rfl (fun K hK => ?_) AllReadyH.nil
            go_simp
            refine hK.out _ _ (trivial) (fun hHeld => ?_)
            clear hK K
            try simp only [Act.put, List.setIfInBounds_toArray, List.set_cons_zero, List.set_cons_succ]
            refine wpAnyH_ready (rs := [5]) (by kernel_rfl) (by simp) ?_
            refine AllReadyH.cons (o := ⟨some 11, _, _, _, _, _⟩) rfl (fun K hK => ?_) AllReadyH.nil
            rw [if_pos (by rfl)]
            obtain ⟨wz, hwz⟩ : ∃ wz, w6.alloc (.cells #[.string (bt s)] 9) = wz := ⟨_, rfl⟩
            have bz : Below w6.heap.size w6 wz := hwz ▸ allocB w6 _
            have own7 := own6.new bz
            have lt7 := own7.lt
            obtain ⟨vs, hrow, hrd⟩ := own7
            have hx7 : Rds (fun b => S + 2 ≤ b ∧ offA A b) wz [.s s] [.string (bt s)] := .cons (.s s) .nil
            have NEWS := cells_of_alloc w6 [.string (bt s)] 9
            rw [show (.cells [.string (bt s)].toArray 9 : Obj) = .cells #[.string (bt s)] 9 from rfl, hwz] at NEWS
            rw [hwz] at yp7
            have hsz7 : S + 2 ≤ wz.heap.size := by have := bz.size; omega
            have hat7 := hat6.new bz
            have HB7 := (HBd.out.trans hb6).trans (But.of_below bz)
            have yx7 := yx6.new bz
            rw [hwz]
            clear hwz
            refine wp_append_at (.tmp 7) (.tmp 10) 27 rfl (S + 2) 9 tsi (.string ⟨#[]⟩) 1 16 Tryz.underlying27 htsi hts1 hts2 hts3 rfl (by decide) (.slice A m cc) m vs rfl hrow ⟨w6.heap.size, 0, none⟩ 1 1 [.string (bt s)] rfl rfl NEWS (by simp [Value.oneCell']) (by unfold maxLen; omega) (by omega) hsz7 ?_
            intro v' w8 hown8 hgrow hnew
            obtain ⟨A8, c8, rfl, own8⟩ := Own.snoc hrow hrd hx7 hown8 (by decide) hgrow (hnew_or hnew)
            have hb8 := grown_below hrow hgrow hsz7
            have hat8 := hat7.below hb8 (by omega) (by omega)
            have HB8 := grown_but hrow hgrow HB7 (by omega) hsz7
            have yp8 := yp7.below hb8 (by omega)
            have yx8 := yx7.below hb8 (by omega)
            have pc8 := box_cell yp8 0 (.slice A m cc) rfl
            have pf8 := Box.fr yp8 0
            refine hK.out _ _ (trivial) (fun hHeld => ?_)
            clear hK K
            try simp only [Act.put, List.setIfInBounds_toArray, List.set_cons_zero, List.set_cons_succ]
            refine tkH (i := 6) (oi := ⟨some 12, _, _, _, _, _⟩) (v := ?_) ?_ ?_
            rotate_left
            · intro W hSw
              go_simp
              try with_reducible rfl
            try simp only [Act.put, List.setIfInBounds_toArray, List.set_cons_zero, List.set_cons_succ]
            refine wpAnyH_ready (rs := [7]) (by kernel_rfl) (by simp) ?_
            refine AllReadyH.cons (o := ⟨none, _, _, _, _, _⟩) rfl (fun K hK => ?_) AllReadyH.nil
            go_simp
            refine hK.out _ _ (trivial) (fun hHeld => ?_)
            clear hK K
            try simp only [Act.put, List.setIfInBounds_toArray, List.set_cons_zero, List.set_cons_succ]
            refine wpAnyH_done (by kernel_rfl) ?_ _
            have ec : w8.setCell ⟨S + 1, 0, none⟩ (.slice A8 (m + 1) c8) = w8.setRow (S + 1) #[.slice A8 (m + 1) c8, .slice none 0 0, .slice none 0 0, .slice none 0 0, .slice none 0 0, .string ⟨#[]⟩] := Box.cell_row yp8 0 _
            rw [ec]
            have yp9 := yp8.set #[.slice A8 (m + 1) c8, .slice none 0 0, .slice none 0 0, .slice none 0 0, .slice none 0 0, .string ⟨#[]⟩]
            have yx9 := yx8.other (j := S + 1) #[.slice A8 (m + 1) c8, .slice none 0 0, .slice none 0 0, .slice none 0 0, .slice none 0 0, .string ⟨#[]⟩] (by omega)
            have own9 := own_low own8 (k := S + 1) (by omega) #[.slice A8 (m + 1) c8, .slice none 0 0, .slice none 0 0, .slice none 0 0, .slice none 0 0, .string ⟨#[]⟩]
            have hat9 := hat8.row (k := S + 1) #[.slice A8 (m + 1) c8, .slice none 0 0, .slice none 0 0, .slice none 0 0, .slice none 0 0, .string ⟨#[]⟩] (by omega) (by omega)
            have HB9 : But g w (w8.setRow (S + 1) #[.slice A8 (m + 1) c8, .slice none 0 0, .slice none 0 0, .slice none 0 0, .slice none 0 0, .string ⟨#[]⟩]) := But.row HB8 (by omega) _
            have hs9 := HB9.size
            clear ec pc8 pf8
            go_wp2_with fail
            generalize w8.setRow (S + 1) #[.slice A8 (m + 1) c8, .slice none 0 0, .slice none 0 0, .slice none 0 0, .slice none 0 0, .string ⟨#[]⟩] = w9 at *
            refine (HW.out _ _ _ [59] (by decide) hat9).mono ?_
            rintro en w10 (⟨⟨⟩, j4, q4, v, hm4, rfl, rfl, hat10, hle4, hb10⟩ | ⟨j4, er, hm4, rfl, hj4, hb10⟩)
            rotate_left
            · rw [bd_no hm4] at hk6
              go_wp2
              exact post_panic (fn := Tryz.f67) rfl (Or.inr ⟨j4, er, hk6.symm, rfl, hj4, HB9.trans hb10⟩)
            rw [bd_ok hm4] at hk6
            have HK6 := Lib.hid hk6
            go_wp2
            go_roundg gk
            case measure => omega
            case rel => exact ⟨A8, m + 1, c8, l ++ [s], j4, q4, Classical.em _, HK6.out, hat10, by have := own9.but hb10 (by omega); simpa using this, by simp [hlm], yp9.but hb10 (by omega), yx9.but hb10 (by omega), HB9.trans hb10, by omega, by omega, by omega⟩
end Ps
end Go.Proofs.YtggdhgppclnckaaGreatDoor
