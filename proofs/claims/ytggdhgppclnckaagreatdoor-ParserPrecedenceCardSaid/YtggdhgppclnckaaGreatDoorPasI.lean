/-
  Primaries.
-/
import Derived.Test.YtggdhgppclnckaaGreatDoorPasH
namespace Go.Proofs.YtggdhgppclnckaaGreatDoor
open Go Go.RowKit Lx
set_option maxRecDepth 20000

namespace Ps
attribute [local go_sem] fld_tok0 fld_tok1
variable {w : World} {g b n c : Nat} {L : List Tok} {i : Nat} {o : Int}
theorem HN_ : Hid (∀ W j q, At W g b n c L j q → Calls Tryz.prog 123 #[.pointer (some ⟨g, 0, none⟩)] W fun e w' => e = .returned (.agg #[.int .i64 (tkn L j).k, .string (bt (tkn L j).t), .int .i64 (tkn L j).ln, .int .i64 (tkn L j).co]) ∧ Below W.heap.size W w') := fun _ _ _ hW => next_x hW
theorem mk_rds {Q : Nat → Prop} {w : World} (op i : Int) {r : Rv} {a0 a1 a2 : Value} (nm : Bs) (xs : List Ex) {v : Value} (hr : Rds Q w r.d [a0, a1, a2]) (h : Rd Q w (.l 7 (dsE xs)) v) : Rds Q w (Ex.mk op i r nm xs).d [.int .i64 op, .int .i64 i, a0, a1, a2, .string (bt nm), v] := by
  simp only [Ex.d]
  unfold Rv.d at hr
  cases hr with
  | cons h0 hr => cases hr with
    | cons h1 hr => cases hr with
      | cons h2 _ => exact .cons (.n _ _) (.cons (.n _ _) (.cons h0 (.cons h1 (.cons h2 (.cons (.s nm) (.cons h .nil))))))
theorem zero_rds {Q : Nat → Prop} {w : World} : Rds Q w Rv.zero.d [.bool false, .slice none 0 0, .slice none 0 0] := .cons (.b _) (.cons (.nil _) (.cons (.nil _) .nil))
theorem nil_rd {Q : Nat → Prop} {w : World} : Rd Q w (.l 7 (dsE [])) (.slice none 0 0) := .nil 7
theorem dsE_flat (l : List Ex) : dsE l = l.flatMap Ex.d := by
  induction l with
  | nil => rfl
  | cons e l ih => simp [dsE, ih]
theorem en_expr : Enters 166 := fun args W => by simp [go_sem]

set_option maxHeartbeats 4000000 in
theorem primary_x {X : P Ex} {q : Nat} (hfr : FrOk g b n c L) (hx : Does g b n c L 166 rdE X q) (hp : Does g b n c L 268 rdE (paren L X) (q + 1)) : Does g b n c L 251 rdE (prim L X) (q + 1) := by
  intro w i o h hq
  generalize hr : prim L X i o = r
  unfold prim at hr
  have hsz := h.cs.size
  have hbz := h.hb
  have b0 := allocB w (.cells #[.int .i64 0, .int .i64 0, .bool false, .slice none 0 0, .slice none 0 0, .string ⟨#[]⟩, .slice none 0 0] 53)
  have x0 := box_alloc w 53 #[.int .i64 0, .int .i64 0, .bool false, .slice none 0 0, .slice none 0 0, .string ⟨#[]⟩, .slice none 0 0]
  have at0 := h.new b0
  have hs0 : w.heap.size + 1 ≤ (w.alloc (.cells #[.int .i64 0, .int .i64 0, .bool false, .slice none 0 0, .slice none 0 0, .string ⟨#[]⟩, .slice none 0 0] 53)).heap.size := by simp
  have hB0 : But g w (w.alloc (.cells #[.int .i64 0, .int .i64 0, .bool false, .slice none 0 0, .slice none 0 0, .string ⟨#[]⟩, .slice none 0 0] 53)) := But.of_below b0
  clear h
  have HN := HN_ (g := g) (b := b) (n := n) (c := c) (L := L)
  have HA := HA_ (g := g) (b := b) (n := n) (c := c) (L := L)
  have HNM : Hid (∀ W j q, At W g b n c L j q → Calls Tryz.prog 98 #[.pointer (some ⟨g, 0, none⟩)] W (Giv g b n c L rdS W j 1 (name L j q))) := fun W j q hW => name_x hW
  have HNU : Hid (∀ W j q, At W g b n c L j q → Calls Tryz.prog 164 #[.pointer (some ⟨g, 0, none⟩)] W (Giv g b n c L (rdN W.heap.size) W j 1 (number L j q))) := fun W j q hW => number_x hW
  have HFR := Lib.hid hfr
  have HIB : Hid (∀ W j q, At W g b n c L j q → Calls Tryz.prog 182 #[.pointer (some ⟨g, 0, none⟩), .int .i64 2, .string ⟨#[47]⟩] W (GivesB (decide ((tkn L j).k = 2) && decide ((tkn L (j + 1)).t = [47])) W)) := fun W j q hW => isBefore_x hW 2 (by decide) [47]
  have HPA := Lib.hid hp
  have HLU : Hid (∀ W j p, At W g b n c L j p → n ≤ q + j → Calls Tryz.prog 183 #[.pointer (some ⟨g, 0, none⟩), .string ⟨#[93]⟩, .func (.func 166) #[.pointer (some ⟨g, 0, none⟩)] #[]] W (Giv g b n c L (rdL 7 Ex.d W.heap.size) W j 0 (listU L [93] X j p))) := fun W j p hW hj => untilExpr_x hx en_expr hW hj [93] (by decide)
  clear hx hp hfr
  go_enter Tryz.func251, Tryz.ntmps251
  go_wp2_with fail
  generalize w.alloc (.cells #[.int .i64 0, .int .i64 0, .bool false, .slice none 0 0, .slice none 0 0, .string ⟨#[]⟩, .slice none 0 0] 53) = W0 at *
  refine (HN.out _ _ _ at0).mono ?_
  rintro en W1 ⟨rfl, hb2⟩
  have at3 := at0.new hb2
  have hB4 : But g w W1 := But.trans hB0 (But.of_below hb2)
  have x5 := x0.new hb2
  have hs6 : w.heap.size + 1 ≤ W1.heap.size := Nat.le_trans hs0 hb2.size
  clear at0 hB0 x0
  by_cases e1 : (tkn L i).k = 1
  · have q1 : ((tkn L i).k == 1) = true := by simp [e1]
    rw [if_pos e1] at hr
    clear e1
    go_wp2_with fail
    refine (HNM.out _ _ _ at3).mono ?_
    rintro en W7 (⟨s, j8, q9, v16, hm10, rfl, rfl, hat11, hle12, hb13⟩ | ⟨j8, er14, hm10, rfl, hj15, hb13⟩)
    rotate_left
    · rw [bd_no hm10] at hr
      go_wp2
      exact post_panic (fn := Tryz.f251) rfl (Or.inr ⟨j8, er14, hr.symm, rfl, hj15, But.trans hB4 hb13⟩)
    rw [bd_ok hm10] at hr
    have at17 := hat11
    have hB18 : But g w W7 := But.trans hB4 hb13
    have x19 := x5.but hb13 (by omega)
    have hs20 : w.heap.size + 1 ≤ W7.heap.size := Nat.le_trans hs6 hb13.size
    clear hat11 hB4 x5
    have hd := mk_rds (Q := Fr (w.heap.size + 1)) (w := W7) 4 0 s [] zero_rds nil_rd
    go_wp2_with (refine wpList_store_row rfl 53 (.tmp 2) (.tmp 10) rfl w.heap.size _ rfl rfl 53 _ x19 (by kernel_rfl) rfl (by simp [Value.oneCell']) ?_)
    refine bodyPost_ret (results_cell_row rfl _ _ w.heap.size _ _ _ (.struct _) rfl (x19.set _) rfl rfl (by kernel_rfl)) rfl ?_
    exact Or.inl ⟨.mk 4 0 .zero s [], j8, q9, _, hr.symm, rfl, ⟨_, _, _, _, _, _, _, rfl, (hd.row (by simp [Fr]) _).in fun k hk => by simp [Fr] at hk ⊢; omega⟩, at17.row _ hsz hbz, by omega, But.row hB18 (Nat.le_refl _) _⟩
  · have q1 : ((tkn L i).k == 1) = false := by simpa using e1
    rw [if_neg e1] at hr
    clear e1
    by_cases e2 : (tkn L i).k = 2
    · have q2 : ((tkn L i).k == 2) = true := by simp [e2]
      rw [if_pos e2] at hr
      go_wp2_with fail
      refine (HIB.out _ _ _ at3).mono ?_
      rintro en W21 ⟨rfl, hb22⟩
      have at23 := at3.new hb22
      have hB24 : But g w W21 := But.trans hB4 (But.of_below hb22)
      have x25 := x5.new hb22
      have hs26 : w.heap.size + 1 ≤ W21.heap.size := Nat.le_trans hs6 hb22.size
      clear at3 hB4 x5
      by_cases e3 : (tkn L (i + 1)).t = [47]
      · have q3 : (decide ((tkn L i).k = 2) && decide ((tkn L (i + 1)).t = [47])) = true := by simp [e2, e3]
        rw [if_pos e3] at hr
        rw [q3]
        have hfa : FrAt L i := .inl e3
        clear e2 e3 q3
        go_wp2_with fail
        refine (HFR.out _ _ _ at23 hfa).mono ?_
        rintro en W27 (⟨r, j28, q29, v36, hm30, rfl, ⟨r0, r1, r2, rfl, hv⟩, hat31, hle32, hb33⟩ | ⟨j28, er34, hm30, rfl, hj35, hb33⟩)
        rotate_left
        · rw [bd_no hm30] at hr
          go_wp2
          exact post_panic (fn := Tryz.f251) rfl (Or.inr ⟨j28, er34, hr.symm, rfl, hj35, But.trans hB24 hb33⟩)
        rw [bd_ok hm30] at hr
        have at37 := hat31
        have hB38 : But g w W27 := But.trans hB24 hb33
        have x39 := x25.but hb33 (by omega)
        have hs40 : w.heap.size + 1 ≤ W27.heap.size := Nat.le_trans hs26 hb33.size
        clear hat31 hB24 x25
        have hv2 : Rds (Fr (w.heap.size + 1)) W27 r.d [r0, r1, r2] := hv.in fun k hk => Nat.le_trans (by assumption) hk
        have hd := mk_rds 3 0 [] [] hv2 nil_rd
        have ones := hd.all
        go_wp2_with (refine wpList_store_row rfl 53 (.tmp 2) (.tmp 17) rfl w.heap.size _ rfl rfl 53 _ x39 (by kernel_rfl) rfl (ones) ?_)
        refine bodyPost_ret (results_cell_row rfl _ _ w.heap.size _ _ _ (.struct _) rfl (x39.set _) rfl rfl (by kernel_rfl)) rfl ?_
        exact Or.inl ⟨.mk 3 0 r [] [], j28, q29, _, hr.symm, rfl, ⟨_, _, _, _, _, _, _, rfl, (hd.row (by simp [Fr]) _).in fun k hk => by simp [Fr] at hk ⊢; omega⟩, at37.row _ hsz hbz, by omega, But.row hB38 (Nat.le_refl _) _⟩
      · have q3 : (decide ((tkn L i).k = 2) && decide ((tkn L (i + 1)).t = [47])) = false := by simp [e3]
        rw [if_neg e3] at hr
        rw [q3]
        clear e2 e3 q3
        go_wp2_with fail
        refine (HNU.out _ _ _ at23).mono ?_
        rintro en W41 (⟨x, j42, q43, v50, hm44, rfl, rfl, hat45, hle46, hb47⟩ | ⟨j42, er48, hm44, rfl, hj49, hb47⟩)
        rotate_left
        · rw [bd_no hm44] at hr
          go_wp2
          exact post_panic (fn := Tryz.f251) rfl (Or.inr ⟨j42, er48, hr.symm, rfl, hj49, But.trans hB24 hb47⟩)
        rw [bd_ok hm44] at hr
        have at51 := hat45
        have hB52 : But g w W41 := But.trans hB24 hb47
        have x53 := x25.but hb47 (by omega)
        have hs54 : w.heap.size + 1 ≤ W41.heap.size := Nat.le_trans hs26 hb47.size
        clear hat45 hB24 x25
        have hd := mk_rds (Q := Fr (w.heap.size + 1)) (w := W41) 2 x [] [] zero_rds nil_rd
        go_wp2_with (refine wpList_store_row rfl 53 (.tmp 2) (.tmp 20) rfl w.heap.size _ rfl rfl 53 _ x53 (by kernel_rfl) rfl (by simp [Value.oneCell']) ?_)
        refine bodyPost_ret (results_cell_row rfl _ _ w.heap.size _ _ _ (.struct _) rfl (x53.set _) rfl rfl (by kernel_rfl)) rfl ?_
        exact Or.inl ⟨.mk 2 x .zero [] [], j42, q43, _, hr.symm, rfl, ⟨_, _, _, _, _, _, _, rfl, (hd.row (by simp [Fr]) _).in fun k hk => by simp [Fr] at hk ⊢; omega⟩, at51.row _ hsz hbz, by omega, But.row hB52 (Nat.le_refl _) _⟩
    · have q2 : ((tkn L i).k == 2) = false := by simpa using e2
      rw [if_neg e2] at hr
      unfold primW at hr
      clear e2
      go_wp2_with fail
      refine (HA.out _ _ _ [116, 114, 117, 101] (by decide) at3).mono ?_
      rintro en W56 (⟨t55, j57, q58, v65, hm59, rfl, rfl, hat60, hle61, hb62⟩ | ⟨j57, er63, hm59, rfl, hj64, hb62⟩)
      rotate_left
      · rw [bd_no hm59] at hr
        go_wp2
        exact post_panic (fn := Tryz.f251) rfl (Or.inr ⟨j57, er63, hr.symm, rfl, hj64, But.trans hB4 hb62⟩)
      rw [bd_ok hm59] at hr
      have at66 := hat60
      have hB67 : But g w W56 := But.trans hB4 hb62
      have x68 := x5.but hb62 (by omega)
      have hs69 : w.heap.size + 1 ≤ W56.heap.size := Nat.le_trans hs6 hb62.size
      clear hat60 hB4 x5
      cases t55
      · simp only [Bool.false_eq_true, if_false] at hr
        obtain ⟨rfl, rfl, _⟩ := acc_not hm59
        clear hm59
        go_wp2_with fail
        refine (HA.out _ _ _ [102, 97, 108, 115, 101] (by decide) at66).mono ?_
        rintro en W71 (⟨t70, j72, q73, v80, hm74, rfl, rfl, hat75, hle76, hb77⟩ | ⟨j72, er78, hm74, rfl, hj79, hb77⟩)
        rotate_left
        · rw [bd_no hm74] at hr
          go_wp2
          exact post_panic (fn := Tryz.f251) rfl (Or.inr ⟨j72, er78, hr.symm, rfl, hj79, But.trans hB67 hb77⟩)
        rw [bd_ok hm74] at hr
        have at81 := hat75
        have hB82 : But g w W71 := But.trans hB67 hb77
        have x83 := x68.but hb77 (by omega)
        have hs84 : w.heap.size + 1 ≤ W71.heap.size := Nat.le_trans hs69 hb77.size
        clear hat75 hB67 x68
        cases t70
        · simp only [Bool.false_eq_true, if_false] at hr
          obtain ⟨rfl, rfl, _⟩ := acc_not hm74
          clear hm74
          go_wp2_with fail
          refine (HA.out _ _ _ [91] (by decide) at81).mono ?_
          rintro en W86 (⟨t85, j87, q88, v95, hm89, rfl, rfl, hat90, hle91, hb92⟩ | ⟨j87, er93, hm89, rfl, hj94, hb92⟩)
          rotate_left
          · rw [bd_no hm89] at hr
            go_wp2
            exact post_panic (fn := Tryz.f251) rfl (Or.inr ⟨j87, er93, hr.symm, rfl, hj94, But.trans hB82 hb92⟩)
          rw [bd_ok hm89] at hr
          have at96 := hat90
          have hB97 : But g w W86 := But.trans hB82 hb92
          have x98 := x83.but hb92 (by omega)
          have hs99 : w.heap.size + 1 ≤ W86.heap.size := Nat.le_trans hs84 hb92.size
          clear hat90 hB82 x83
          cases t85
          · simp only [Bool.false_eq_true, if_false] at hr
            obtain ⟨rfl, rfl, _⟩ := acc_not hm89
            clear hm89
            go_wp2_with fail
            refine (HPA.out _ _ _ at96 (by omega)).mono ?_
            rintro en W101 (⟨x, j102, q103, v110, hm104, rfl, ⟨x0, x1, x2, x3, x4, x5, x6, rfl, hv100⟩, hat105, hle106, hb107⟩ | ⟨j102, er108, hm104, rfl, hj109, hb107⟩)
            rotate_left
            · rw [hm104] at hr
              go_wp2
              exact post_panic (fn := Tryz.f251) rfl (Or.inr ⟨j102, er108, hr.symm, rfl, hj109, But.trans hB97 hb107⟩)
            rw [hm104] at hr
            have at111 := hat105
            have hB112 : But g w W101 := But.trans hB97 hb107
            have x113 := x98.but hb107 (by omega)
            have hs114 : w.heap.size + 1 ≤ W101.heap.size := Nat.le_trans hs99 hb107.size
            clear hat105 hB97 x98
            have d115 : Rds (Fr (w.heap.size + 1)) W101 x.d [x0, x1, x2, x3, x4, x5, x6] := hv100.in fun k hk => Nat.le_trans (by assumption) hk
            clear hv100
            go_wp2_with (refine wpList_store_row rfl 53 (.tmp 2) (.tmp 38) rfl w.heap.size _ rfl rfl 53 _ x113 (by kernel_rfl) rfl (Rds.all d115) ?_)
            refine bodyPost_ret (results_cell_row rfl _ _ w.heap.size _ _ _ (.struct _) rfl (x113.set _) rfl rfl (by kernel_rfl)) rfl ?_
            exact Or.inl ⟨x, j102, q103, _, hr.symm, rfl, ⟨_, _, _, _, _, _, _, rfl, (d115.row (by simp [Fr]) _).in fun k hk => by simp [Fr] at hk ⊢; omega⟩, at111.row _ hsz hbz, by omega, But.row hB112 (Nat.le_refl _) _⟩
          · simp only [if_true] at hr
            obtain ⟨rfl, _⟩ := acc_yes hm89
            clear hm89
            go_wp2_with fail
            refine (HLU.out _ _ _ at96 (by omega)).mono ?_
            rintro en W116 (⟨l, j117, q118, v125, hm119, rfl, ⟨A, m, c2, rfl, hv⟩, hat120, hle121, hb122⟩ | ⟨j117, er123, hm119, rfl, hj124, hb122⟩)
            rotate_left
            · rw [bd_no hm119] at hr
              go_wp2
              exact post_panic (fn := Tryz.f251) rfl (Or.inr ⟨j117, er123, hr.symm, rfl, hj124, But.trans hB97 hb122⟩)
            rw [bd_ok hm119] at hr
            have at126 := hat120
            have hB127 : But g w W116 := But.trans hB97 hb122
            have x128 := x98.but hb122 (by omega)
            have hs129 : w.heap.size + 1 ≤ W116.heap.size := Nat.le_trans hs99 hb122.size
            clear hat120 hB97 x98
            have hv2 : Rd (Fr (w.heap.size + 1)) W116 (.l 7 (dsE l)) (.slice A m c2) := dsE_flat l ▸ hv.in fun k hk => Nat.le_trans (by assumption) hk
            go_wp2_with fail
            refine (node_x _ _ _ _ _).mono ?_
            rintro en W130 ⟨rfl, hb131⟩
            have at132 := at126.new hb131
            have hB133 : But g w W130 := But.trans hB127 (But.of_below hb131)
            have x134 := x128.new hb131
            have d135 := hv2.new hb131
            have hs136 : w.heap.size + 1 ≤ W130.heap.size := Nat.le_trans hs129 hb131.size
            clear at126 hB127 x128 hv2
            have nd137 := node_rds 18 l d135
            go_wp2_with (refine wpList_store_row rfl 53 (.tmp 2) (.tmp 36) rfl w.heap.size _ rfl rfl 53 _ x134 (by kernel_rfl) rfl (by simp [Value.oneCell']) ?_)
            refine bodyPost_ret (results_cell_row rfl _ _ w.heap.size _ _ _ (.struct _) rfl (x134.set _) rfl rfl (by kernel_rfl)) rfl ?_
            exact Or.inl ⟨node 18 l, j117, q118, _, hr.symm, rfl, ⟨_, _, _, _, _, _, _, rfl, (nd137.row (by simp [Fr]) _).in fun k hk => by simp [Fr] at hk ⊢; omega⟩, at132.row _ hsz hbz, by omega, But.row hB133 (Nat.le_refl _) _⟩
        · simp only [if_true] at hr
          obtain ⟨rfl, _⟩ := acc_yes hm74
          clear hm74
          have hd := mk_rds (Q := Fr (w.heap.size + 1)) (w := W71) 1 0 [] [] zero_rds nil_rd
          go_wp2_with (refine wpList_store_row rfl 53 (.tmp 2) (.tmp 28) rfl w.heap.size _ rfl rfl 53 _ x83 (by kernel_rfl) rfl (by simp [Value.oneCell']) ?_)
          refine bodyPost_ret (results_cell_row rfl _ _ w.heap.size _ _ _ (.struct _) rfl (x83.set _) rfl rfl (by kernel_rfl)) rfl ?_
          exact Or.inl ⟨.mk 1 0 .zero [] [], _, q73, _, hr.symm, rfl, ⟨_, _, _, _, _, _, _, rfl, (hd.row (by simp [Fr]) _).in fun k hk => by simp [Fr] at hk ⊢; omega⟩, at81.row _ hsz hbz, by omega, But.row hB82 (Nat.le_refl _) _⟩
      · simp only [if_true] at hr
        obtain ⟨rfl, _⟩ := acc_yes hm59
        clear hm59
        have hd := mk_rds (Q := Fr (w.heap.size + 1)) (w := W56) 1 1 [] [] zero_rds nil_rd
        go_wp2_with (refine wpList_store_row rfl 53 (.tmp 2) (.tmp 24) rfl w.heap.size _ rfl rfl 53 _ x68 (by kernel_rfl) rfl (by simp [Value.oneCell']) ?_)
        refine bodyPost_ret (results_cell_row rfl _ _ w.heap.size _ _ _ (.struct _) rfl (x68.set _) rfl rfl (by kernel_rfl)) rfl ?_
        exact Or.inl ⟨.mk 1 1 .zero [] [], _, q58, _, hr.symm, rfl, ⟨_, _, _, _, _, _, _, rfl, (hd.row (by simp [Fr]) _).in fun k hk => by simp [Fr] at hk ⊢; omega⟩, at66.row _ hsz hbz, by omega, But.row hB67 (Nat.le_refl _) _⟩
end Ps
end Go.Proofs.YtggdhgppclnckaaGreatDoor
