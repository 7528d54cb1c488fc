/-
  Statements.
-/
import Derived.Test.YtggdhgppclnckaaGreatDoorPasU
namespace Go.Proofs.YtggdhgppclnckaaGreatDoor
open Go Go.RowKit Lx
set_option maxRecDepth 20000

namespace Ps
variable {w : World} {g b n c : Nat} {L : List Tok} {i : Nat} {o : Int}

set_option maxHeartbeats 16000000 in
theorem statement_x {X : P Ex} {B : P (List St)} {q : Nat} (hx : Does g b n c L 166 rdE X q) (hb : Does g b n c L 167 (rdL 25 St.d) B q) (hc : Does1 g b n c L 168 rdSt (change L X) q) : Does1 g b n c L 143 rdSt (stmtE L X B) q := by
  intro w i o h hq
  generalize hr : stmtE L X B i o = r
  unfold stmtE at hr
  have hsz := h.cs.size
  have hbz := h.hb
  have b0 : Below w.heap.size w ((w.alloc (.cells #[.int .i64 0, .string ⟨#[]⟩, .string ⟨#[]⟩, .int .i64 0, .int .i64 0, .int .i64 0, .bool false, .slice none 0 0, .slice none 0 0, .string ⟨#[]⟩, .slice none 0 0, .slice none 0 0, .int .i64 0, .int .i64 0, .int .i64 0, .bool false, .slice none 0 0, .slice none 0 0, .bool false, .slice none 0 0, .slice none 0 0, .slice none 0 0, .string ⟨#[]⟩, .slice none 0 0, .slice none 0 0] 61)).alloc (.cells #[.int .i64 0, .string ⟨#[]⟩, .string ⟨#[]⟩, .int .i64 0, .int .i64 0, .int .i64 0, .bool false, .slice none 0 0, .slice none 0 0, .string ⟨#[]⟩, .slice none 0 0, .slice none 0 0, .int .i64 0, .int .i64 0, .int .i64 0, .bool false, .slice none 0 0, .slice none 0 0, .bool false, .slice none 0 0, .slice none 0 0, .slice none 0 0, .string ⟨#[]⟩, .slice none 0 0, .slice none 0 0] 61)) := (allocB w _).trans ((allocB _ _).mono (by simp))
  have x0 := (box_alloc w 61 #[.int .i64 0, .string ⟨#[]⟩, .string ⟨#[]⟩, .int .i64 0, .int .i64 0, .int .i64 0, .bool false, .slice none 0 0, .slice none 0 0, .string ⟨#[]⟩, .slice none 0 0, .slice none 0 0, .int .i64 0, .int .i64 0, .int .i64 0, .bool false, .slice none 0 0, .slice none 0 0, .bool false, .slice none 0 0, .slice none 0 0, .slice none 0 0, .string ⟨#[]⟩, .slice none 0 0, .slice none 0 0]).new (allocB (w.alloc (.cells #[.int .i64 0, .string ⟨#[]⟩, .string ⟨#[]⟩, .int .i64 0, .int .i64 0, .int .i64 0, .bool false, .slice none 0 0, .slice none 0 0, .string ⟨#[]⟩, .slice none 0 0, .slice none 0 0, .int .i64 0, .int .i64 0, .int .i64 0, .bool false, .slice none 0 0, .slice none 0 0, .bool false, .slice none 0 0, .slice none 0 0, .slice none 0 0, .string ⟨#[]⟩, .slice none 0 0, .slice none 0 0] 61)) (.cells #[.int .i64 0, .string ⟨#[]⟩, .string ⟨#[]⟩, .int .i64 0, .int .i64 0, .int .i64 0, .bool false, .slice none 0 0, .slice none 0 0, .string ⟨#[]⟩, .slice none 0 0, .slice none 0 0, .int .i64 0, .int .i64 0, .int .i64 0, .bool false, .slice none 0 0, .slice none 0 0, .bool false, .slice none 0 0, .slice none 0 0, .slice none 0 0, .string ⟨#[]⟩, .slice none 0 0, .slice none 0 0] 61))
  have xe0 := box_alloc (w.alloc (.cells #[.int .i64 0, .string ⟨#[]⟩, .string ⟨#[]⟩, .int .i64 0, .int .i64 0, .int .i64 0, .bool false, .slice none 0 0, .slice none 0 0, .string ⟨#[]⟩, .slice none 0 0, .slice none 0 0, .int .i64 0, .int .i64 0, .int .i64 0, .bool false, .slice none 0 0, .slice none 0 0, .bool false, .slice none 0 0, .slice none 0 0, .slice none 0 0, .string ⟨#[]⟩, .slice none 0 0, .slice none 0 0] 61)) 61 #[.int .i64 0, .string ⟨#[]⟩, .string ⟨#[]⟩, .int .i64 0, .int .i64 0, .int .i64 0, .bool false, .slice none 0 0, .slice none 0 0, .string ⟨#[]⟩, .slice none 0 0, .slice none 0 0, .int .i64 0, .int .i64 0, .int .i64 0, .bool false, .slice none 0 0, .slice none 0 0, .bool false, .slice none 0 0, .slice none 0 0, .slice none 0 0, .string ⟨#[]⟩, .slice none 0 0, .slice none 0 0]
  rw [show (w.alloc (.cells #[.int .i64 0, .string ⟨#[]⟩, .string ⟨#[]⟩, .int .i64 0, .int .i64 0, .int .i64 0, .bool false, .slice none 0 0, .slice none 0 0, .string ⟨#[]⟩, .slice none 0 0, .slice none 0 0, .int .i64 0, .int .i64 0, .int .i64 0, .bool false, .slice none 0 0, .slice none 0 0, .bool false, .slice none 0 0, .slice none 0 0, .slice none 0 0, .string ⟨#[]⟩, .slice none 0 0, .slice none 0 0] 61)).heap.size = w.heap.size + 1 by simp] at xe0
  have at0 := h.new b0
  have hs0 : w.heap.size + 2 ≤ ((w.alloc (.cells #[.int .i64 0, .string ⟨#[]⟩, .string ⟨#[]⟩, .int .i64 0, .int .i64 0, .int .i64 0, .bool false, .slice none 0 0, .slice none 0 0, .string ⟨#[]⟩, .slice none 0 0, .slice none 0 0, .int .i64 0, .int .i64 0, .int .i64 0, .bool false, .slice none 0 0, .slice none 0 0, .bool false, .slice none 0 0, .slice none 0 0, .slice none 0 0, .string ⟨#[]⟩, .slice none 0 0, .slice none 0 0] 61)).alloc (.cells #[.int .i64 0, .string ⟨#[]⟩, .string ⟨#[]⟩, .int .i64 0, .int .i64 0, .int .i64 0, .bool false, .slice none 0 0, .slice none 0 0, .string ⟨#[]⟩, .slice none 0 0, .slice none 0 0, .int .i64 0, .int .i64 0, .int .i64 0, .bool false, .slice none 0 0, .slice none 0 0, .bool false, .slice none 0 0, .slice none 0 0, .slice none 0 0, .string ⟨#[]⟩, .slice none 0 0, .slice none 0 0] 61)).heap.size := by simp
  have hB0 : But g w ((w.alloc (.cells #[.int .i64 0, .string ⟨#[]⟩, .string ⟨#[]⟩, .int .i64 0, .int .i64 0, .int .i64 0, .bool false, .slice none 0 0, .slice none 0 0, .string ⟨#[]⟩, .slice none 0 0, .slice none 0 0, .int .i64 0, .int .i64 0, .int .i64 0, .bool false, .slice none 0 0, .slice none 0 0, .bool false, .slice none 0 0, .slice none 0 0, .slice none 0 0, .string ⟨#[]⟩, .slice none 0 0, .slice none 0 0] 61)).alloc (.cells #[.int .i64 0, .string ⟨#[]⟩, .string ⟨#[]⟩, .int .i64 0, .int .i64 0, .int .i64 0, .bool false, .slice none 0 0, .slice none 0 0, .string ⟨#[]⟩, .slice none 0 0, .slice none 0 0, .int .i64 0, .int .i64 0, .int .i64 0, .bool false, .slice none 0 0, .slice none 0 0, .bool false, .slice none 0 0, .slice none 0 0, .slice none 0 0, .string ⟨#[]⟩, .slice none 0 0, .slice none 0 0] 61)) := But.of_below b0
  clear h b0
  have HA := HA_ (g := g) (b := b) (n := n) (c := c) (L := L)
  have HW := HW_ (g := g) (b := b) (n := n) (c := c) (L := L)
  have HX := Lib.hid hx
  have HB := Lib.hid hb
  have HC := Lib.hid hc
  have HNU : Hid (∀ W j q, At W g b n c L j q → Calls Tryz.prog 164 #[.pointer (some ⟨g, 0, none⟩)] W (Giv g b n c L (rdN W.heap.size) W j 1 (number L j q))) := fun W j q hW => number_x hW
  clear hx hb hc
  go_enter Tryz.func143, Tryz.ntmps143
  go_wp2_with fail
  generalize ((w.alloc (.cells #[.int .i64 0, .string ⟨#[]⟩, .string ⟨#[]⟩, .int .i64 0, .int .i64 0, .int .i64 0, .bool false, .slice none 0 0, .slice none 0 0, .string ⟨#[]⟩, .slice none 0 0, .slice none 0 0, .int .i64 0, .int .i64 0, .int .i64 0, .bool false, .slice none 0 0, .slice none 0 0, .bool false, .slice none 0 0, .slice none 0 0, .slice none 0 0, .string ⟨#[]⟩, .slice none 0 0, .slice none 0 0] 61)).alloc (.cells #[.int .i64 0, .string ⟨#[]⟩, .string ⟨#[]⟩, .int .i64 0, .int .i64 0, .int .i64 0, .bool false, .slice none 0 0, .slice none 0 0, .string ⟨#[]⟩, .slice none 0 0, .slice none 0 0, .int .i64 0, .int .i64 0, .int .i64 0, .bool false, .slice none 0 0, .slice none 0 0, .bool false, .slice none 0 0, .slice none 0 0, .slice none 0 0, .string ⟨#[]⟩, .slice none 0 0, .slice none 0 0] 61)) = W0 at *
  refine (HA.out _ _ _ [105, 102] (by decide) at0).mono ?_
  rintro en W123 (⟨t122, j124, q125, v132, hm126, rfl, rfl, hat127, hle128, hb129⟩ | ⟨j124, er130, hm126, rfl, hj131, hb129⟩)
  rotate_left
  · rw [bd_no hm126] at hr
    go_wp2
    exact post_panic (fn := Tryz.f143) rfl (Or.inr ⟨j124, er130, hr.symm, rfl, hj131, But.trans hB0 hb129⟩)
  rw [bd_ok hm126] at hr
  have at133 := hat127
  have hB134 : But g w W123 := But.trans hB0 hb129
  have x135 := x0.but hb129 (by omega)
  have x136 := xe0.but hb129 (by omega)
  have hs137 : w.heap.size + 2 ≤ W123.heap.size := Nat.le_trans hs0 hb129.size
  clear hat127 hB0 x0 xe0
  cases t122
  · simp only [Bool.false_eq_true, if_false] at hr
    obtain ⟨rfl, rfl, _⟩ := acc_not hm126
    clear hm126
    go_wp2_with fail
    refine (HA.out _ _ _ [114, 101, 112, 101, 97, 116] (by decide) at133).mono ?_
    rintro en W139 (⟨t138, j140, q141, v148, hm142, rfl, rfl, hat143, hle144, hb145⟩ | ⟨j140, er146, hm142, rfl, hj147, hb145⟩)
    rotate_left
    · rw [bd_no hm142] at hr
      go_wp2
      exact post_panic (fn := Tryz.f143) rfl (Or.inr ⟨j140, er146, hr.symm, rfl, hj147, But.trans hB134 hb145⟩)
    rw [bd_ok hm142] at hr
    have at149 := hat143
    have hB150 : But g w W139 := But.trans hB134 hb145
    have x151 := x135.but hb145 (by omega)
    have x152 := x136.but hb145 (by omega)
    have hs153 : w.heap.size + 2 ≤ W139.heap.size := Nat.le_trans hs137 hb145.size
    clear hat143 hB134 x135 x136
    cases t138
    · simp only [Bool.false_eq_true, if_false] at hr
      obtain ⟨rfl, rfl, _⟩ := acc_not hm142
      clear hm142
      go_wp2_with fail
      refine (HA.out _ _ _ [119, 104, 105, 108, 101] (by decide) at149).mono ?_
      rintro en W155 (⟨t154, j156, q157, v164, hm158, rfl, rfl, hat159, hle160, hb161⟩ | ⟨j156, er162, hm158, rfl, hj163, hb161⟩)
      rotate_left
      · rw [bd_no hm158] at hr
        go_wp2
        exact post_panic (fn := Tryz.f143) rfl (Or.inr ⟨j156, er162, hr.symm, rfl, hj163, But.trans hB150 hb161⟩)
      rw [bd_ok hm158] at hr
      have at165 := hat159
      have hB166 : But g w W155 := But.trans hB150 hb161
      have x167 := x151.but hb161 (by omega)
      have x168 := x152.but hb161 (by omega)
      have hs169 : w.heap.size + 2 ≤ W155.heap.size := Nat.le_trans hs153 hb161.size
      clear hat159 hB150 x151 x152
      cases t154
      · simp only [Bool.false_eq_true, if_false] at hr
        obtain ⟨rfl, rfl, _⟩ := acc_not hm158
        clear hm158
        go_wp2_with fail
        refine (HA.out _ _ _ [111, 98, 115, 101, 114, 118, 101] (by decide) at165).mono ?_
        rintro en W171 (⟨t170, j172, q173, v180, hm174, rfl, rfl, hat175, hle176, hb177⟩ | ⟨j172, er178, hm174, rfl, hj179, hb177⟩)
        rotate_left
        · rw [bd_no hm174] at hr
          go_wp2
          exact post_panic (fn := Tryz.f143) rfl (Or.inr ⟨j172, er178, hr.symm, rfl, hj179, But.trans hB166 hb177⟩)
        rw [bd_ok hm174] at hr
        have at181 := hat175
        have hB182 : But g w W171 := But.trans hB166 hb177
        have x183 := x167.but hb177 (by omega)
        have x184 := x168.but hb177 (by omega)
        have hs185 : w.heap.size + 2 ≤ W171.heap.size := Nat.le_trans hs169 hb177.size
        clear hat175 hB166 x167 x168
        cases t170
        · simp only [Bool.false_eq_true, if_false] at hr
          obtain ⟨rfl, rfl, _⟩ := acc_not hm174
          clear hm174
          go_wp2_with fail
          refine (HA.out _ _ _ [119, 101, 105, 103, 104, 116] (by decide) at181).mono ?_
          rintro en W187 (⟨t186, j188, q189, v196, hm190, rfl, rfl, hat191, hle192, hb193⟩ | ⟨j188, er194, hm190, rfl, hj195, hb193⟩)
          rotate_left
          · rw [bd_no hm190] at hr
            go_wp2
            exact post_panic (fn := Tryz.f143) rfl (Or.inr ⟨j188, er194, hr.symm, rfl, hj195, But.trans hB182 hb193⟩)
          rw [bd_ok hm190] at hr
          have at197 := hat191
          have hB198 : But g w W187 := But.trans hB182 hb193
          have x199 := x183.but hb193 (by omega)
          have x200 := x184.but hb193 (by omega)
          have hs201 : w.heap.size + 2 ≤ W187.heap.size := Nat.le_trans hs185 hb193.size
          clear hat191 hB182 x183 x184
          cases t186
          · simp only [Bool.false_eq_true, if_false] at hr
            obtain ⟨rfl, rfl, _⟩ := acc_not hm190
            clear hm190
            go_wp2_with fail
            refine (HC.out _ _ _ at197 (by omega)).mono ?_
            rintro en W202 (⟨s, j203, q204, v211, hm205, rfl, ⟨c0, c1, c2, c3, c4, c5, c6, c7, c8, c9, c10, c11, c12, c13, c14, c15, c16, c17, c18, c19, c20, c21, c22, c23, c24, rfl, hv⟩, hat206, hle207, hb208⟩ | ⟨j203, er209, hm205, rfl, hj210, hb208⟩)
            rotate_left
            · rw [bd_no hm205] at hr
              go_wp2
              exact post_panic (fn := Tryz.f143) rfl (Or.inr ⟨j203, er209, hr.symm, rfl, hj210, But.trans hB198 hb208⟩)
            rw [bd_ok hm205] at hr
            have at212 := hat206
            have hB213 : But g w W202 := But.trans hB198 hb208
            have x214 := x199.but hb208 (by omega)
            have x215 := x200.but hb208 (by omega)
            have hs216 : w.heap.size + 2 ≤ W202.heap.size := Nat.le_trans hs201 hb208.size
            clear hat206 hB198 x199 x200
            have hdd : Rds (Fr (w.heap.size + 2)) W202 s.d [c0, c1, c2, c3, c4, c5, c6, c7, c8, c9, c10, c11, c12, c13, c14, c15, c16, c17, c18, c19, c20, c21, c22, c23, c24] := hv.in fun k hk => Nat.le_trans (by assumption) hk
            clear hv
            have onesS := hdd.all
            go_wp2_with (refine wpList_store_row rfl 61 (.tmp 3) (.tmp 5) rfl (w.heap.size + 1) _ rfl rfl 61 _ x215 (by kernel_rfl) rfl (onesS) ?_)
            have hzW217 : W202.heap.size ≤ (W202.setRow (w.heap.size + 1) #[c0, c1, c2, c3, c4, c5, c6, c7, c8, c9, c10, c11, c12, c13, c14, c15, c16, c17, c18, c19, c20, c21, c22, c23, c24]).heap.size := by rw [size_row]; exact Nat.le_refl _
            have at218 := at212.row #[c0, c1, c2, c3, c4, c5, c6, c7, c8, c9, c10, c11, c12, c13, c14, c15, c16, c17, c18, c19, c20, c21, c22, c23, c24] (k := w.heap.size + 1) (by omega) (by omega)
            have hB219 : But g w (W202.setRow (w.heap.size + 1) #[c0, c1, c2, c3, c4, c5, c6, c7, c8, c9, c10, c11, c12, c13, c14, c15, c16, c17, c18, c19, c20, c21, c22, c23, c24]) := But.row hB213 (by omega) _
            have x220 := x214.other (j := w.heap.size + 1) #[c0, c1, c2, c3, c4, c5, c6, c7, c8, c9, c10, c11, c12, c13, c14, c15, c16, c17, c18, c19, c20, c21, c22, c23, c24] (by omega)
            have x221 := x215.set #[c0, c1, c2, c3, c4, c5, c6, c7, c8, c9, c10, c11, c12, c13, c14, c15, c16, c17, c18, c19, c20, c21, c22, c23, c24]
            have d222 := hdd.row (k := w.heap.size + 1) (by simp [Fr]) #[c0, c1, c2, c3, c4, c5, c6, c7, c8, c9, c10, c11, c12, c13, c14, c15, c16, c17, c18, c19, c20, c21, c22, c23, c24]
            have hs223 : w.heap.size + 2 ≤ (W202.setRow (w.heap.size + 1) #[c0, c1, c2, c3, c4, c5, c6, c7, c8, c9, c10, c11, c12, c13, c14, c15, c16, c17, c18, c19, c20, c21, c22, c23, c24]).heap.size := Nat.le_trans hs216 hzW217
            clear hzW217 at212 hB213 x214 x215 hdd
            generalize W202.setRow (w.heap.size + 1) #[c0, c1, c2, c3, c4, c5, c6, c7, c8, c9, c10, c11, c12, c13, c14, c15, c16, c17, c18, c19, c20, c21, c22, c23, c24] = W217 at *
            refine (HW.out _ _ _ [59] (by decide) at218).mono ?_
            rintro en W224 (⟨⟨⟩, j225, q226, v233, hm227, rfl, rfl, hat228, hle229, hb230⟩ | ⟨j225, er231, hm227, rfl, hj232, hb230⟩)
            rotate_left
            · rw [bd_no hm227] at hr
              go_wp2
              exact post_panic (fn := Tryz.f143) rfl (Or.inr ⟨j225, er231, hr.symm, rfl, hj232, But.trans hB219 hb230⟩)
            rw [bd_ok hm227] at hr
            have at234 := hat228
            have hB235 : But g w W224 := But.trans hB219 hb230
            have x236 := x220.but hb230 (by omega)
            have x237 := x221.but hb230 (by omega)
            have d238 := d222.but hb230 (by simp [Fr]; omega)
            have hs239 : w.heap.size + 2 ≤ W224.heap.size := Nat.le_trans hs223 hb230.size
            clear hat228 hB219 x220 x221 d222
            clear hm227
            have onesF := Rds.all d238
            go_wp2_with (first | (refine wpList_load_row rfl 61 (.tmp 3) rfl (w.heap.size + 1) rfl 61 _ (0, 0) (.struct _) x237 rfl rfl (by kernel_rfl) ?_) | (refine wpList_store_row rfl 61 (.tmp 2) (.tmp 50) rfl w.heap.size _ rfl rfl 61 _ x236 (by kernel_rfl) rfl onesF ?_))
            refine bodyPost_ret (results_cell_row rfl _ _ w.heap.size _ _ _ (.struct _) rfl (x236.set _) rfl rfl (by kernel_rfl)) rfl ?_
            exact Or.inl ⟨s, j225, q226, _, hr.symm, rfl, ⟨_, _, _, _, _, _, _, _, _, _, _, _, _, _, _, _, _, _, _, _, _, _, _, _, _, rfl, (d238.row (by simp [Fr]) _).in fun k hk => by simp [Fr] at hk ⊢; omega⟩, at234.row _ hsz hbz, by omega, But.row hB235 (Nat.le_refl _) _⟩
          · simp only [if_true] at hr
            obtain ⟨rfl, _⟩ := acc_yes hm190
            clear hm190
            go_wp2_with fail
            refine (HX.out _ _ _ at197 (by omega)).mono ?_
            rintro en W241 (⟨e, j242, q243, v250, hm244, rfl, ⟨e0, e1, e2, e3, e4, e5, e6, rfl, hv240⟩, hat245, hle246, hb247⟩ | ⟨j242, er248, hm244, rfl, hj249, hb247⟩)
            rotate_left
            · rw [bd_no hm244] at hr
              go_wp2
              exact post_panic (fn := Tryz.f143) rfl (Or.inr ⟨j242, er248, hr.symm, rfl, hj249, But.trans hB198 hb247⟩)
            rw [bd_ok hm244] at hr
            have at251 := hat245
            have hB252 : But g w W241 := But.trans hB198 hb247
            have x253 := x199.but hb247 (by omega)
            have x254 := x200.but hb247 (by omega)
            have hs255 : w.heap.size + 2 ≤ W241.heap.size := Nat.le_trans hs201 hb247.size
            clear hat245 hB198 x199 x200
            have d256 : Rds (Fr (w.heap.size + 2)) W241 e.d [e0, e1, e2, e3, e4, e5, e6] := hv240.in fun k hk => Nat.le_trans (by assumption) hk
            clear hv240
            have hdd := st_rds 8 [] [] 0 [] [] [] d256 nil_rd zdr_rds nils_rd nils_rd
            have onesS := hdd.all
            go_wp2_with (refine wpList_store_row rfl 61 (.tmp 3) (.tmp 47) rfl (w.heap.size + 1) _ rfl rfl 61 _ x254 (by kernel_rfl) rfl (onesS) ?_)
            have hzW257 : W241.heap.size ≤ (W241.setRow (w.heap.size + 1) #[.int .i64 8, .string ⟨#[]⟩, .string ⟨#[]⟩, .int .i64 0, e0, e1, e2, e3, e4, e5, e6, .slice none 0 0, .int .i64 0, .int .i64 0, .int .i64 0, .bool false, .slice none 0 0, .slice none 0 0, .bool false, .slice none 0 0, .slice none 0 0, .slice none 0 0, .string ⟨#[]⟩, .slice none 0 0, .slice none 0 0]).heap.size := by rw [size_row]; exact Nat.le_refl _
            have at258 := at251.row #[.int .i64 8, .string ⟨#[]⟩, .string ⟨#[]⟩, .int .i64 0, e0, e1, e2, e3, e4, e5, e6, .slice none 0 0, .int .i64 0, .int .i64 0, .int .i64 0, .bool false, .slice none 0 0, .slice none 0 0, .bool false, .slice none 0 0, .slice none 0 0, .slice none 0 0, .string ⟨#[]⟩, .slice none 0 0, .slice none 0 0] (k := w.heap.size + 1) (by omega) (by omega)
            have hB259 : But g w (W241.setRow (w.heap.size + 1) #[.int .i64 8, .string ⟨#[]⟩, .string ⟨#[]⟩, .int .i64 0, e0, e1, e2, e3, e4, e5, e6, .slice none 0 0, .int .i64 0, .int .i64 0, .int .i64 0, .bool false, .slice none 0 0, .slice none 0 0, .bool false, .slice none 0 0, .slice none 0 0, .slice none 0 0, .string ⟨#[]⟩, .slice none 0 0, .slice none 0 0]) := But.row hB252 (by omega) _
            have x260 := x253.other (j := w.heap.size + 1) #[.int .i64 8, .string ⟨#[]⟩, .string ⟨#[]⟩, .int .i64 0, e0, e1, e2, e3, e4, e5, e6, .slice none 0 0, .int .i64 0, .int .i64 0, .int .i64 0, .bool false, .slice none 0 0, .slice none 0 0, .bool false, .slice none 0 0, .slice none 0 0, .slice none 0 0, .string ⟨#[]⟩, .slice none 0 0, .slice none 0 0] (by omega)
            have x261 := x254.set #[.int .i64 8, .string ⟨#[]⟩, .string ⟨#[]⟩, .int .i64 0, e0, e1, e2, e3, e4, e5, e6, .slice none 0 0, .int .i64 0, .int .i64 0, .int .i64 0, .bool false, .slice none 0 0, .slice none 0 0, .bool false, .slice none 0 0, .slice none 0 0, .slice none 0 0, .string ⟨#[]⟩, .slice none 0 0, .slice none 0 0]
            have d262 := hdd.row (k := w.heap.size + 1) (by simp [Fr]) #[.int .i64 8, .string ⟨#[]⟩, .string ⟨#[]⟩, .int .i64 0, e0, e1, e2, e3, e4, e5, e6, .slice none 0 0, .int .i64 0, .int .i64 0, .int .i64 0, .bool false, .slice none 0 0, .slice none 0 0, .bool false, .slice none 0 0, .slice none 0 0, .slice none 0 0, .string ⟨#[]⟩, .slice none 0 0, .slice none 0 0]
            have hs263 : w.heap.size + 2 ≤ (W241.setRow (w.heap.size + 1) #[.int .i64 8, .string ⟨#[]⟩, .string ⟨#[]⟩, .int .i64 0, e0, e1, e2, e3, e4, e5, e6, .slice none 0 0, .int .i64 0, .int .i64 0, .int .i64 0, .bool false, .slice none 0 0, .slice none 0 0, .bool false, .slice none 0 0, .slice none 0 0, .slice none 0 0, .string ⟨#[]⟩, .slice none 0 0, .slice none 0 0]).heap.size := Nat.le_trans hs255 hzW257
            clear hzW257 at251 hB252 x253 x254 hdd
            generalize W241.setRow (w.heap.size + 1) #[.int .i64 8, .string ⟨#[]⟩, .string ⟨#[]⟩, .int .i64 0, e0, e1, e2, e3, e4, e5, e6, .slice none 0 0, .int .i64 0, .int .i64 0, .int .i64 0, .bool false, .slice none 0 0, .slice none 0 0, .bool false, .slice none 0 0, .slice none 0 0, .slice none 0 0, .string ⟨#[]⟩, .slice none 0 0, .slice none 0 0] = W257 at *
            refine (HW.out _ _ _ [59] (by decide) at258).mono ?_
            rintro en W264 (⟨⟨⟩, j265, q266, v273, hm267, rfl, rfl, hat268, hle269, hb270⟩ | ⟨j265, er271, hm267, rfl, hj272, hb270⟩)
            rotate_left
            · rw [bd_no hm267] at hr
              go_wp2
              exact post_panic (fn := Tryz.f143) rfl (Or.inr ⟨j265, er271, hr.symm, rfl, hj272, But.trans hB259 hb270⟩)
            rw [bd_ok hm267] at hr
            have at274 := hat268
            have hB275 : But g w W264 := But.trans hB259 hb270
            have x276 := x260.but hb270 (by omega)
            have x277 := x261.but hb270 (by omega)
            have d278 := d262.but hb270 (by simp [Fr]; omega)
            have hs279 : w.heap.size + 2 ≤ W264.heap.size := Nat.le_trans hs263 hb270.size
            clear hat268 hB259 x260 x261 d262
            clear hm267
            have onesF := Rds.all d278
            go_wp2_with (first | (refine wpList_load_row rfl 61 (.tmp 3) rfl (w.heap.size + 1) rfl 61 _ (0, 0) (.struct _) x277 rfl rfl (by kernel_rfl) ?_) | (refine wpList_store_row rfl 61 (.tmp 2) (.tmp 50) rfl w.heap.size _ rfl rfl 61 _ x276 (by kernel_rfl) rfl onesF ?_))
            refine bodyPost_ret (results_cell_row rfl _ _ w.heap.size _ _ _ (.struct _) rfl (x276.set _) rfl rfl (by kernel_rfl)) rfl ?_
            exact Or.inl ⟨.mk 8 [] [] 0 e [] .zero [] [], j265, q266, _, hr.symm, rfl, ⟨_, _, _, _, _, _, _, _, _, _, _, _, _, _, _, _, _, _, _, _, _, _, _, _, _, rfl, (d278.row (by simp [Fr]) _).in fun k hk => by simp [Fr] at hk ⊢; omega⟩, at274.row _ hsz hbz, by omega, But.row hB275 (Nat.le_refl _) _⟩
        · simp only [if_true] at hr
          obtain ⟨rfl, _⟩ := acc_yes hm174
          clear hm174
          go_wp2_with fail
          refine (HX.out _ _ _ at181 (by omega)).mono ?_
          rintro en W281 (⟨e, j282, q283, v290, hm284, rfl, ⟨e0, e1, e2, e3, e4, e5, e6, rfl, hv280⟩, hat285, hle286, hb287⟩ | ⟨j282, er288, hm284, rfl, hj289, hb287⟩)
          rotate_left
          · rw [bd_no hm284] at hr
            go_wp2
            exact post_panic (fn := Tryz.f143) rfl (Or.inr ⟨j282, er288, hr.symm, rfl, hj289, But.trans hB182 hb287⟩)
          rw [bd_ok hm284] at hr
          have at291 := hat285
          have hB292 : But g w W281 := But.trans hB182 hb287
          have x293 := x183.but hb287 (by omega)
          have x294 := x184.but hb287 (by omega)
          have hs295 : w.heap.size + 2 ≤ W281.heap.size := Nat.le_trans hs185 hb287.size
          clear hat285 hB182 x183 x184
          have d296 : Rds (Fr (w.heap.size + 2)) W281 e.d [e0, e1, e2, e3, e4, e5, e6] := hv280.in fun k hk => Nat.le_trans (by assumption) hk
          clear hv280
          have hdd := st_rds 7 [] [] 0 [] [] [] d296 nil_rd zdr_rds nils_rd nils_rd
          have onesS := hdd.all
          go_wp2_with (refine wpList_store_row rfl 61 (.tmp 3) (.tmp 41) rfl (w.heap.size + 1) _ rfl rfl 61 _ x294 (by kernel_rfl) rfl (onesS) ?_)
          have hzW297 : W281.heap.size ≤ (W281.setRow (w.heap.size + 1) #[.int .i64 7, .string ⟨#[]⟩, .string ⟨#[]⟩, .int .i64 0, e0, e1, e2, e3, e4, e5, e6, .slice none 0 0, .int .i64 0, .int .i64 0, .int .i64 0, .bool false, .slice none 0 0, .slice none 0 0, .bool false, .slice none 0 0, .slice none 0 0, .slice none 0 0, .string ⟨#[]⟩, .slice none 0 0, .slice none 0 0]).heap.size := by rw [size_row]; exact Nat.le_refl _
          have at298 := at291.row #[.int .i64 7, .string ⟨#[]⟩, .string ⟨#[]⟩, .int .i64 0, e0, e1, e2, e3, e4, e5, e6, .slice none 0 0, .int .i64 0, .int .i64 0, .int .i64 0, .bool false, .slice none 0 0, .slice none 0 0, .bool false, .slice none 0 0, .slice none 0 0, .slice none 0 0, .string ⟨#[]⟩, .slice none 0 0, .slice none 0 0] (k := w.heap.size + 1) (by omega) (by omega)
          have hB299 : But g w (W281.setRow (w.heap.size + 1) #[.int .i64 7, .string ⟨#[]⟩, .string ⟨#[]⟩, .int .i64 0, e0, e1, e2, e3, e4, e5, e6, .slice none 0 0, .int .i64 0, .int .i64 0, .int .i64 0, .bool false, .slice none 0 0, .slice none 0 0, .bool false, .slice none 0 0, .slice none 0 0, .slice none 0 0, .string ⟨#[]⟩, .slice none 0 0, .slice none 0 0]) := But.row hB292 (by omega) _
          have x300 := x293.other (j := w.heap.size + 1) #[.int .i64 7, .string ⟨#[]⟩, .string ⟨#[]⟩, .int .i64 0, e0, e1, e2, e3, e4, e5, e6, .slice none 0 0, .int .i64 0, .int .i64 0, .int .i64 0, .bool false, .slice none 0 0, .slice none 0 0, .bool false, .slice none 0 0, .slice none 0 0, .slice none 0 0, .string ⟨#[]⟩, .slice none 0 0, .slice none 0 0] (by omega)
          have x301 := x294.set #[.int .i64 7, .string ⟨#[]⟩, .string ⟨#[]⟩, .int .i64 0, e0, e1, e2, e3, e4, e5, e6, .slice none 0 0, .int .i64 0, .int .i64 0, .int .i64 0, .bool false, .slice none 0 0, .slice none 0 0, .bool false, .slice none 0 0, .slice none 0 0, .slice none 0 0, .string ⟨#[]⟩, .slice none 0 0, .slice none 0 0]
          have d302 := hdd.row (k := w.heap.size + 1) (by simp [Fr]) #[.int .i64 7, .string ⟨#[]⟩, .string ⟨#[]⟩, .int .i64 0, e0, e1, e2, e3, e4, e5, e6, .slice none 0 0, .int .i64 0, .int .i64 0, .int .i64 0, .bool false, .slice none 0 0, .slice none 0 0, .bool false, .slice none 0 0, .slice none 0 0, .slice none 0 0, .string ⟨#[]⟩, .slice none 0 0, .slice none 0 0]
          have hs303 : w.heap.size + 2 ≤ (W281.setRow (w.heap.size + 1) #[.int .i64 7, .string ⟨#[]⟩, .string ⟨#[]⟩, .int .i64 0, e0, e1, e2, e3, e4, e5, e6, .slice none 0 0, .int .i64 0, .int .i64 0, .int .i64 0, .bool false, .slice none 0 0, .slice none 0 0, .bool false, .slice none 0 0, .slice none 0 0, .slice none 0 0, .string ⟨#[]⟩, .slice none 0 0, .slice none 0 0]).heap.size := Nat.le_trans hs295 hzW297
          clear hzW297 at291 hB292 x293 x294 hdd
          generalize W281.setRow (w.heap.size + 1) #[.int .i64 7, .string ⟨#[]⟩, .string ⟨#[]⟩, .int .i64 0, e0, e1, e2, e3, e4, e5, e6, .slice none 0 0, .int .i64 0, .int .i64 0, .int .i64 0, .bool false, .slice none 0 0, .slice none 0 0, .bool false, .slice none 0 0, .slice none 0 0, .slice none 0 0, .string ⟨#[]⟩, .slice none 0 0, .slice none 0 0] = W297 at *
          refine (HW.out _ _ _ [59] (by decide) at298).mono ?_
          rintro en W304 (⟨⟨⟩, j305, q306, v313, hm307, rfl, rfl, hat308, hle309, hb310⟩ | ⟨j305, er311, hm307, rfl, hj312, hb310⟩)
          rotate_left
          · rw [bd_no hm307] at hr
            go_wp2
            exact post_panic (fn := Tryz.f143) rfl (Or.inr ⟨j305, er311, hr.symm, rfl, hj312, But.trans hB299 hb310⟩)
          rw [bd_ok hm307] at hr
          have at314 := hat308
          have hB315 : But g w W304 := But.trans hB299 hb310
          have x316 := x300.but hb310 (by omega)
          have x317 := x301.but hb310 (by omega)
          have d318 := d302.but hb310 (by simp [Fr]; omega)
          have hs319 : w.heap.size + 2 ≤ W304.heap.size := Nat.le_trans hs303 hb310.size
          clear hat308 hB299 x300 x301 d302
          clear hm307
          have onesF := Rds.all d318
          go_wp2_with (first | (refine wpList_load_row rfl 61 (.tmp 3) rfl (w.heap.size + 1) rfl 61 _ (0, 0) (.struct _) x317 rfl rfl (by kernel_rfl) ?_) | (refine wpList_store_row rfl 61 (.tmp 2) (.tmp 50) rfl w.heap.size _ rfl rfl 61 _ x316 (by kernel_rfl) rfl onesF ?_))
          refine bodyPost_ret (results_cell_row rfl _ _ w.heap.size _ _ _ (.struct _) rfl (x316.set _) rfl rfl (by kernel_rfl)) rfl ?_
          exact Or.inl ⟨.mk 7 [] [] 0 e [] .zero [] [], j305, q306, _, hr.symm, rfl, ⟨_, _, _, _, _, _, _, _, _, _, _, _, _, _, _, _, _, _, _, _, _, _, _, _, _, rfl, (d318.row (by simp [Fr]) _).in fun k hk => by simp [Fr] at hk ⊢; omega⟩, at314.row _ hsz hbz, by omega, But.row hB315 (Nat.le_refl _) _⟩
      · simp only [if_true] at hr
        obtain ⟨rfl, _⟩ := acc_yes hm158
        clear hm158
        go_wp2_with fail
        refine (HX.out _ _ _ at165 (by omega)).mono ?_
        rintro en W321 (⟨e, j322, q323, v330, hm324, rfl, ⟨e0, e1, e2, e3, e4, e5, e6, rfl, hv320⟩, hat325, hle326, hb327⟩ | ⟨j322, er328, hm324, rfl, hj329, hb327⟩)
        rotate_left
        · rw [bd_no hm324] at hr
          go_wp2
          exact post_panic (fn := Tryz.f143) rfl (Or.inr ⟨j322, er328, hr.symm, rfl, hj329, But.trans hB166 hb327⟩)
        rw [bd_ok hm324] at hr
        have at331 := hat325
        have hB332 : But g w W321 := But.trans hB166 hb327
        have x333 := x167.but hb327 (by omega)
        have x334 := x168.but hb327 (by omega)
        have hs335 : w.heap.size + 2 ≤ W321.heap.size := Nat.le_trans hs169 hb327.size
        clear hat325 hB166 x167 x168
        have d336 : Rds (Fr (w.heap.size + 2)) W321 e.d [e0, e1, e2, e3, e4, e5, e6] := hv320.in fun k hk => Nat.le_trans (by assumption) hk
        clear hv320
        go_wp2_with fail
        refine (HB.out _ _ _ at331 (by omega)).mono ?_
        rintro en W337 (⟨t, j338, q339, v346, hm340, rfl, ⟨Bt, mt, ct, rfl, hvt⟩, hat341, hle342, hb343⟩ | ⟨j338, er344, hm340, rfl, hj345, hb343⟩)
        rotate_left
        · rw [bd_no hm340] at hr
          go_wp2
          exact post_panic (fn := Tryz.f143) rfl (Or.inr ⟨j338, er344, hr.symm, rfl, hj345, But.trans hB332 hb343⟩)
        rw [bd_ok hm340] at hr
        have at347 := hat341
        have hB348 : But g w W337 := But.trans hB332 hb343
        have x349 := x333.but hb343 (by omega)
        have x350 := x334.but hb343 (by omega)
        have d351 := d336.but hb343 (by simp [Fr]; omega)
        have hs352 : w.heap.size + 2 ≤ W337.heap.size := Nat.le_trans hs335 hb343.size
        clear hat341 hB332 x333 x334 d336
        have hwt : Rd (Fr (w.heap.size + 2)) W337 (.l 25 (dsS t)) (.slice Bt mt ct) := dsS_flat t ▸ hvt.in fun k hk => Nat.le_trans (by assumption) hk
        clear hvt
        have hdd := st_rds 6 [] [] 0 [] t [] d351 nil_rd zdr_rds hwt nils_rd
        have onesS := hdd.all
        go_wp2_with (refine wpList_store_row rfl 61 (.tmp 2) (.tmp 35) rfl w.heap.size _ rfl rfl 61 _ x349 (by kernel_rfl) rfl (onesS) ?_)
        refine bodyPost_ret (results_cell_row rfl _ _ w.heap.size _ _ _ (.struct _) rfl (x349.set _) rfl rfl (by kernel_rfl)) rfl ?_
        exact Or.inl ⟨.mk 6 [] [] 0 e [] .zero t [], j338, q339, _, hr.symm, rfl, ⟨_, _, _, _, _, _, _, _, _, _, _, _, _, _, _, _, _, _, _, _, _, _, _, _, _, rfl, (hdd.row (by simp [Fr]) _).in fun k hk => by simp [Fr] at hk ⊢; omega⟩, at347.row _ hsz hbz, by omega, But.row hB348 (Nat.le_refl _) _⟩
    · simp only [if_true] at hr
      obtain ⟨rfl, _⟩ := acc_yes hm142
      clear hm142
      go_wp2_with fail
      refine (HNU.out _ _ _ at149).mono ?_
      rintro en W353 (⟨k, j354, q355, v362, hm356, rfl, rfl, hat357, hle358, hb359⟩ | ⟨j354, er360, hm356, rfl, hj361, hb359⟩)
      rotate_left
      · rw [bd_no hm356] at hr
        go_wp2
        exact post_panic (fn := Tryz.f143) rfl (Or.inr ⟨j354, er360, hr.symm, rfl, hj361, But.trans hB150 hb359⟩)
      rw [bd_ok hm356] at hr
      have at363 := hat357
      have hB364 : But g w W353 := But.trans hB150 hb359
      have x365 := x151.but hb359 (by omega)
      have x366 := x152.but hb359 (by omega)
      have hs367 : w.heap.size + 2 ≤ W353.heap.size := Nat.le_trans hs153 hb359.size
      clear hat357 hB150 x151 x152
      go_wp2_with fail
      refine (HB.out _ _ _ at363 (by omega)).mono ?_
      rintro en W368 (⟨t, j369, q370, v377, hm371, rfl, ⟨Bt, mt, ct, rfl, hvt⟩, hat372, hle373, hb374⟩ | ⟨j369, er375, hm371, rfl, hj376, hb374⟩)
      rotate_left
      · rw [bd_no hm371] at hr
        go_wp2
        exact post_panic (fn := Tryz.f143) rfl (Or.inr ⟨j369, er375, hr.symm, rfl, hj376, But.trans hB364 hb374⟩)
      rw [bd_ok hm371] at hr
      have at378 := hat372
      have hB379 : But g w W368 := But.trans hB364 hb374
      have x380 := x365.but hb374 (by omega)
      have x381 := x366.but hb374 (by omega)
      have hs382 : w.heap.size + 2 ≤ W368.heap.size := Nat.le_trans hs367 hb374.size
      clear hat372 hB364 x365 x366
      have hwt : Rd (Fr (w.heap.size + 2)) W368 (.l 25 (dsS t)) (.slice Bt mt ct) := dsS_flat t ▸ hvt.in fun k hk => Nat.le_trans (by assumption) hk
      clear hvt
      have hdd := st_rds 5 [] [] k [] t [] zex_rds nil_rd zdr_rds hwt nils_rd
      go_wp2_with (refine wpList_store_row rfl 61 (.tmp 2) (.tmp 27) rfl w.heap.size _ rfl rfl 61 _ x380 (by kernel_rfl) rfl (hdd.all) ?_)
      refine bodyPost_ret (results_cell_row rfl _ _ w.heap.size _ _ _ (.struct _) rfl (x380.set _) rfl rfl (by kernel_rfl)) rfl ?_
      exact Or.inl ⟨.mk 5 [] [] k .zero [] .zero t [], j369, q370, _, hr.symm, rfl, ⟨_, _, _, _, _, _, _, _, _, _, _, _, _, _, _, _, _, _, _, _, _, _, _, _, _, rfl, (hdd.row (by simp [Fr]) _).in fun k hk => by simp [Fr] at hk ⊢; omega⟩, at378.row _ hsz hbz, by omega, But.row hB379 (Nat.le_refl _) _⟩
  · simp only [if_true] at hr
    obtain ⟨rfl, _⟩ := acc_yes hm126
    clear hm126
    go_wp2_with fail
    refine (HX.out _ _ _ at133 (by omega)).mono ?_
    rintro en W384 (⟨e, j385, q386, v393, hm387, rfl, ⟨e0, e1, e2, e3, e4, e5, e6, rfl, hv383⟩, hat388, hle389, hb390⟩ | ⟨j385, er391, hm387, rfl, hj392, hb390⟩)
    rotate_left
    · rw [bd_no hm387] at hr
      go_wp2
      exact post_panic (fn := Tryz.f143) rfl (Or.inr ⟨j385, er391, hr.symm, rfl, hj392, But.trans hB134 hb390⟩)
    rw [bd_ok hm387] at hr
    have at394 := hat388
    have hB395 : But g w W384 := But.trans hB134 hb390
    have x396 := x135.but hb390 (by omega)
    have x397 := x136.but hb390 (by omega)
    have hs398 : w.heap.size + 2 ≤ W384.heap.size := Nat.le_trans hs137 hb390.size
    clear hat388 hB134 x135 x136
    have d399 : Rds (Fr (w.heap.size + 2)) W384 e.d [e0, e1, e2, e3, e4, e5, e6] := hv383.in fun k hk => Nat.le_trans (by assumption) hk
    clear hv383
    go_wp2_with fail
    refine (HB.out _ _ _ at394 (by omega)).mono ?_
    rintro en W400 (⟨t, j401, q402, v409, hm403, rfl, ⟨Bt, mt, ct, rfl, hvt⟩, hat404, hle405, hb406⟩ | ⟨j401, er407, hm403, rfl, hj408, hb406⟩)
    rotate_left
    · rw [bd_no hm403] at hr
      go_wp2
      exact post_panic (fn := Tryz.f143) rfl (Or.inr ⟨j401, er407, hr.symm, rfl, hj408, But.trans hB395 hb406⟩)
    rw [bd_ok hm403] at hr
    have at410 := hat404
    have hB411 : But g w W400 := But.trans hB395 hb406
    have x412 := x396.but hb406 (by omega)
    have x413 := x397.but hb406 (by omega)
    have d414 := d399.but hb406 (by simp [Fr]; omega)
    have hs415 : w.heap.size + 2 ≤ W400.heap.size := Nat.le_trans hs398 hb406.size
    clear hat404 hB395 x396 x397 d399
    have hwt : Rd (Fr (w.heap.size + 2)) W400 (.l 25 (dsS t)) (.slice Bt mt ct) := dsS_flat t ▸ hvt.in fun k hk => Nat.le_trans (by assumption) hk
    clear hvt
    have hdd := st_rds 4 [] [] 0 [] t [] d414 nil_rd zdr_rds hwt nils_rd
    have onesS := hdd.all
    go_wp2_with (refine wpList_store_row rfl 61 (.tmp 3) (.tmp 13) rfl (w.heap.size + 1) _ rfl rfl 61 _ x413 (by kernel_rfl) rfl (onesS) ?_)
    have hzW416 : W400.heap.size ≤ (W400.setRow (w.heap.size + 1) #[.int .i64 4, .string ⟨#[]⟩, .string ⟨#[]⟩, .int .i64 0, e0, e1, e2, e3, e4, e5, e6, .slice none 0 0, .int .i64 0, .int .i64 0, .int .i64 0, .bool false, .slice none 0 0, .slice none 0 0, .bool false, .slice none 0 0, .slice none 0 0, .slice none 0 0, .string ⟨#[]⟩, .slice Bt mt ct, .slice none 0 0]).heap.size := by rw [size_row]; exact Nat.le_refl _
    have at417 := at410.row #[.int .i64 4, .string ⟨#[]⟩, .string ⟨#[]⟩, .int .i64 0, e0, e1, e2, e3, e4, e5, e6, .slice none 0 0, .int .i64 0, .int .i64 0, .int .i64 0, .bool false, .slice none 0 0, .slice none 0 0, .bool false, .slice none 0 0, .slice none 0 0, .slice none 0 0, .string ⟨#[]⟩, .slice Bt mt ct, .slice none 0 0] (k := w.heap.size + 1) (by omega) (by omega)
    have hB418 : But g w (W400.setRow (w.heap.size + 1) #[.int .i64 4, .string ⟨#[]⟩, .string ⟨#[]⟩, .int .i64 0, e0, e1, e2, e3, e4, e5, e6, .slice none 0 0, .int .i64 0, .int .i64 0, .int .i64 0, .bool false, .slice none 0 0, .slice none 0 0, .bool false, .slice none 0 0, .slice none 0 0, .slice none 0 0, .string ⟨#[]⟩, .slice Bt mt ct, .slice none 0 0]) := But.row hB411 (by omega) _
    have x419 := x412.other (j := w.heap.size + 1) #[.int .i64 4, .string ⟨#[]⟩, .string ⟨#[]⟩, .int .i64 0, e0, e1, e2, e3, e4, e5, e6, .slice none 0 0, .int .i64 0, .int .i64 0, .int .i64 0, .bool false, .slice none 0 0, .slice none 0 0, .bool false, .slice none 0 0, .slice none 0 0, .slice none 0 0, .string ⟨#[]⟩, .slice Bt mt ct, .slice none 0 0] (by omega)
    have x420 := x413.set #[.int .i64 4, .string ⟨#[]⟩, .string ⟨#[]⟩, .int .i64 0, e0, e1, e2, e3, e4, e5, e6, .slice none 0 0, .int .i64 0, .int .i64 0, .int .i64 0, .bool false, .slice none 0 0, .slice none 0 0, .bool false, .slice none 0 0, .slice none 0 0, .slice none 0 0, .string ⟨#[]⟩, .slice Bt mt ct, .slice none 0 0]
    have d421 := d414.row (k := w.heap.size + 1) (by simp [Fr]) #[.int .i64 4, .string ⟨#[]⟩, .string ⟨#[]⟩, .int .i64 0, e0, e1, e2, e3, e4, e5, e6, .slice none 0 0, .int .i64 0, .int .i64 0, .int .i64 0, .bool false, .slice none 0 0, .slice none 0 0, .bool false, .slice none 0 0, .slice none 0 0, .slice none 0 0, .string ⟨#[]⟩, .slice Bt mt ct, .slice none 0 0]
    have d422 := hwt.row (k := w.heap.size + 1) (by simp [Fr]) #[.int .i64 4, .string ⟨#[]⟩, .string ⟨#[]⟩, .int .i64 0, e0, e1, e2, e3, e4, e5, e6, .slice none 0 0, .int .i64 0, .int .i64 0, .int .i64 0, .bool false, .slice none 0 0, .slice none 0 0, .bool false, .slice none 0 0, .slice none 0 0, .slice none 0 0, .string ⟨#[]⟩, .slice Bt mt ct, .slice none 0 0]
    have d423 := hdd.row (k := w.heap.size + 1) (by simp [Fr]) #[.int .i64 4, .string ⟨#[]⟩, .string ⟨#[]⟩, .int .i64 0, e0, e1, e2, e3, e4, e5, e6, .slice none 0 0, .int .i64 0, .int .i64 0, .int .i64 0, .bool false, .slice none 0 0, .slice none 0 0, .bool false, .slice none 0 0, .slice none 0 0, .slice none 0 0, .string ⟨#[]⟩, .slice Bt mt ct, .slice none 0 0]
    have hs424 : w.heap.size + 2 ≤ (W400.setRow (w.heap.size + 1) #[.int .i64 4, .string ⟨#[]⟩, .string ⟨#[]⟩, .int .i64 0, e0, e1, e2, e3, e4, e5, e6, .slice none 0 0, .int .i64 0, .int .i64 0, .int .i64 0, .bool false, .slice none 0 0, .slice none 0 0, .bool false, .slice none 0 0, .slice none 0 0, .slice none 0 0, .string ⟨#[]⟩, .slice Bt mt ct, .slice none 0 0]).heap.size := Nat.le_trans hs415 hzW416
    clear hzW416 at410 hB411 x412 x413 d414 hwt hdd
    generalize W400.setRow (w.heap.size + 1) #[.int .i64 4, .string ⟨#[]⟩, .string ⟨#[]⟩, .int .i64 0, e0, e1, e2, e3, e4, e5, e6, .slice none 0 0, .int .i64 0, .int .i64 0, .int .i64 0, .bool false, .slice none 0 0, .slice none 0 0, .bool false, .slice none 0 0, .slice none 0 0, .slice none 0 0, .string ⟨#[]⟩, .slice Bt mt ct, .slice none 0 0] = W416 at *
    refine (HA.out _ _ _ [101, 108, 115, 101] (by decide) at417).mono ?_
    rintro en W426 (⟨t425, j427, q428, v435, hm429, rfl, rfl, hat430, hle431, hb432⟩ | ⟨j427, er433, hm429, rfl, hj434, hb432⟩)
    rotate_left
    · rw [bd_no hm429] at hr
      go_wp2
      exact post_panic (fn := Tryz.f143) rfl (Or.inr ⟨j427, er433, hr.symm, rfl, hj434, But.trans hB418 hb432⟩)
    rw [bd_ok hm429] at hr
    have at436 := hat430
    have hB437 : But g w W426 := But.trans hB418 hb432
    have x438 := x419.but hb432 (by omega)
    have x439 := x420.but hb432 (by omega)
    have d440 := d421.but hb432 (by simp [Fr]; omega)
    have d441 := d422.but hb432 (by simp [Fr]; omega)
    have d442 := d423.but hb432 (by simp [Fr]; omega)
    have hs443 : w.heap.size + 2 ≤ W426.heap.size := Nat.le_trans hs424 hb432.size
    clear hat430 hB418 x419 x420 d421 d422 d423
    cases t425
    · simp only [Bool.false_eq_true, if_false] at hr
      obtain ⟨rfl, rfl, _⟩ := acc_not hm429
      clear hm429
      have onesF := Rds.all d442
      go_wp2_with (first | (refine wpList_load_row rfl 61 (.tmp 3) rfl (w.heap.size + 1) rfl 61 _ (0, 0) (.struct _) x439 rfl rfl (by kernel_rfl) ?_) | (refine wpList_store_row rfl 61 (.tmp 2) (.tmp 19) rfl w.heap.size _ rfl rfl 61 _ x438 (by kernel_rfl) rfl onesF ?_))
      refine bodyPost_ret (results_cell_row rfl _ _ w.heap.size _ _ _ (.struct _) rfl (x438.set _) rfl rfl (by kernel_rfl)) rfl ?_
      exact Or.inl ⟨.mk 4 [] [] 0 e [] .zero t [], j427, q428, _, hr.symm, rfl, ⟨_, _, _, _, _, _, _, _, _, _, _, _, _, _, _, _, _, _, _, _, _, _, _, _, _, rfl, (d442.row (by simp [Fr]) _).in fun k hk => by simp [Fr] at hk ⊢; omega⟩, at436.row _ hsz hbz, by omega, But.row hB437 (Nat.le_refl _) _⟩
    · simp only [if_true] at hr
      obtain ⟨rfl, _⟩ := acc_yes hm429
      clear hm429
      go_wp2_with fail
      refine (HB.out _ _ _ at436 (by omega)).mono ?_
      rintro en W444 (⟨u, j445, q446, v453, hm447, rfl, ⟨Bu, mu, cu, rfl, hvu⟩, hat448, hle449, hb450⟩ | ⟨j445, er451, hm447, rfl, hj452, hb450⟩)
      rotate_left
      · rw [bd_no hm447] at hr
        go_wp2
        exact post_panic (fn := Tryz.f143) rfl (Or.inr ⟨j445, er451, hr.symm, rfl, hj452, But.trans hB437 hb450⟩)
      rw [bd_ok hm447] at hr
      have at454 := hat448
      have hB455 : But g w W444 := But.trans hB437 hb450
      have x456 := x438.but hb450 (by omega)
      have x457 := x439.but hb450 (by omega)
      have d458 := d440.but hb450 (by simp [Fr]; omega)
      have d459 := d441.but hb450 (by simp [Fr]; omega)
      have d460 := d442.but hb450 (by simp [Fr]; omega)
      have hs461 : w.heap.size + 2 ≤ W444.heap.size := Nat.le_trans hs443 hb450.size
      clear hat448 hB437 x438 x439 d440 d441 d442
      have hwu : Rd (Fr (w.heap.size + 2)) W444 (.l 25 (dsS u)) (.slice Bu mu cu) := dsS_flat u ▸ hvu.in fun k hk => Nat.le_trans (by assumption) hk
      clear hvu
      have hd2 := st_rds 4 [] [] 0 [] t u d458 nil_rd zdr_rds d459 hwu
      have onesG := hd2.all
      have pc24 := box_cell x457 24 (.slice none 0 0) rfl
      have pf24 := Box.fr x457 24
      have ec : W444.setCell ⟨w.heap.size + 1, 24, none⟩ (.slice Bu mu cu) = W444.setRow (w.heap.size + 1) #[.int .i64 4, .string ⟨#[]⟩, .string ⟨#[]⟩, .int .i64 0, e0, e1, e2, e3, e4, e5, e6, .slice none 0 0, .int .i64 0, .int .i64 0, .int .i64 0, .bool false, .slice none 0 0, .slice none 0 0, .bool false, .slice none 0 0, .slice none 0 0, .slice none 0 0, .string ⟨#[]⟩, .slice Bt mt ct, .slice Bu mu cu] := Box.cell_row x457 24 (.slice Bu mu cu)
      have xe2 : Box (W444.setCell ⟨w.heap.size + 1, 24, none⟩ (.slice Bu mu cu)) (w.heap.size + 1) 61 #[.int .i64 4, .string ⟨#[]⟩, .string ⟨#[]⟩, .int .i64 0, e0, e1, e2, e3, e4, e5, e6, .slice none 0 0, .int .i64 0, .int .i64 0, .int .i64 0, .bool false, .slice none 0 0, .slice none 0 0, .bool false, .slice none 0 0, .slice none 0 0, .slice none 0 0, .string ⟨#[]⟩, .slice Bt mt ct, .slice Bu mu cu] := by rw [ec]; exact Box.set x457 _
      have xx2 : Box (W444.setCell ⟨w.heap.size + 1, 24, none⟩ (.slice Bu mu cu)) w.heap.size 61 #[.int .i64 0, .string ⟨#[]⟩, .string ⟨#[]⟩, .int .i64 0, .int .i64 0, .int .i64 0, .bool false, .slice none 0 0, .slice none 0 0, .string ⟨#[]⟩, .slice none 0 0, .slice none 0 0, .int .i64 0, .int .i64 0, .int .i64 0, .bool false, .slice none 0 0, .slice none 0 0, .bool false, .slice none 0 0, .slice none 0 0, .slice none 0 0, .string ⟨#[]⟩, .slice none 0 0, .slice none 0 0] := by rw [ec]; exact Box.other x456 _ (by omega)
      have EC := Lib.hid ec
      clear ec
      go_wp2_with (first | (refine wpList_load_row rfl 61 (.tmp 3) rfl (w.heap.size + 1) rfl 61 _ (0, 0) (.struct _) xe2 rfl rfl (by kernel_rfl) ?_) | (refine wpList_store_row rfl 61 (.tmp 2) (.tmp 19) rfl w.heap.size _ rfl rfl 61 _ xx2 (by kernel_rfl) rfl onesG ?_))
      rw [EC.out]
      clear xe2 xx2 pc24 pf24 EC
      have hzW462 : W444.heap.size ≤ (W444.setRow (w.heap.size + 1) #[.int .i64 4, .string ⟨#[]⟩, .string ⟨#[]⟩, .int .i64 0, e0, e1, e2, e3, e4, e5, e6, .slice none 0 0, .int .i64 0, .int .i64 0, .int .i64 0, .bool false, .slice none 0 0, .slice none 0 0, .bool false, .slice none 0 0, .slice none 0 0, .slice none 0 0, .string ⟨#[]⟩, .slice Bt mt ct, .slice Bu mu cu]).heap.size := by rw [size_row]; exact Nat.le_refl _
      have at463 := at454.row #[.int .i64 4, .string ⟨#[]⟩, .string ⟨#[]⟩, .int .i64 0, e0, e1, e2, e3, e4, e5, e6, .slice none 0 0, .int .i64 0, .int .i64 0, .int .i64 0, .bool false, .slice none 0 0, .slice none 0 0, .bool false, .slice none 0 0, .slice none 0 0, .slice none 0 0, .string ⟨#[]⟩, .slice Bt mt ct, .slice Bu mu cu] (k := w.heap.size + 1) (by omega) (by omega)
      have hB464 : But g w (W444.setRow (w.heap.size + 1) #[.int .i64 4, .string ⟨#[]⟩, .string ⟨#[]⟩, .int .i64 0, e0, e1, e2, e3, e4, e5, e6, .slice none 0 0, .int .i64 0, .int .i64 0, .int .i64 0, .bool false, .slice none 0 0, .slice none 0 0, .bool false, .slice none 0 0, .slice none 0 0, .slice none 0 0, .string ⟨#[]⟩, .slice Bt mt ct, .slice Bu mu cu]) := But.row hB455 (by omega) _
      have x465 := x456.other (j := w.heap.size + 1) #[.int .i64 4, .string ⟨#[]⟩, .string ⟨#[]⟩, .int .i64 0, e0, e1, e2, e3, e4, e5, e6, .slice none 0 0, .int .i64 0, .int .i64 0, .int .i64 0, .bool false, .slice none 0 0, .slice none 0 0, .bool false, .slice none 0 0, .slice none 0 0, .slice none 0 0, .string ⟨#[]⟩, .slice Bt mt ct, .slice Bu mu cu] (by omega)
      have x466 := x457.set #[.int .i64 4, .string ⟨#[]⟩, .string ⟨#[]⟩, .int .i64 0, e0, e1, e2, e3, e4, e5, e6, .slice none 0 0, .int .i64 0, .int .i64 0, .int .i64 0, .bool false, .slice none 0 0, .slice none 0 0, .bool false, .slice none 0 0, .slice none 0 0, .slice none 0 0, .string ⟨#[]⟩, .slice Bt mt ct, .slice Bu mu cu]
      have d467 := hd2.row (k := w.heap.size + 1) (by simp [Fr]) #[.int .i64 4, .string ⟨#[]⟩, .string ⟨#[]⟩, .int .i64 0, e0, e1, e2, e3, e4, e5, e6, .slice none 0 0, .int .i64 0, .int .i64 0, .int .i64 0, .bool false, .slice none 0 0, .slice none 0 0, .bool false, .slice none 0 0, .slice none 0 0, .slice none 0 0, .string ⟨#[]⟩, .slice Bt mt ct, .slice Bu mu cu]
      have hs468 : w.heap.size + 2 ≤ (W444.setRow (w.heap.size + 1) #[.int .i64 4, .string ⟨#[]⟩, .string ⟨#[]⟩, .int .i64 0, e0, e1, e2, e3, e4, e5, e6, .slice none 0 0, .int .i64 0, .int .i64 0, .int .i64 0, .bool false, .slice none 0 0, .slice none 0 0, .bool false, .slice none 0 0, .slice none 0 0, .slice none 0 0, .string ⟨#[]⟩, .slice Bt mt ct, .slice Bu mu cu]).heap.size := Nat.le_trans hs461 hzW462
      clear hzW462 at454 hB455 x456 x457 hd2
      generalize W444.setRow (w.heap.size + 1) #[.int .i64 4, .string ⟨#[]⟩, .string ⟨#[]⟩, .int .i64 0, e0, e1, e2, e3, e4, e5, e6, .slice none 0 0, .int .i64 0, .int .i64 0, .int .i64 0, .bool false, .slice none 0 0, .slice none 0 0, .bool false, .slice none 0 0, .slice none 0 0, .slice none 0 0, .string ⟨#[]⟩, .slice Bt mt ct, .slice Bu mu cu] = W462 at *
      refine bodyPost_ret (results_cell_row rfl _ _ w.heap.size _ _ _ (.struct _) rfl (x465.set _) rfl rfl (by kernel_rfl)) rfl ?_
      exact Or.inl ⟨.mk 4 [] [] 0 e [] .zero t u, j445, q446, _, hr.symm, rfl, ⟨_, _, _, _, _, _, _, _, _, _, _, _, _, _, _, _, _, _, _, _, _, _, _, _, _, rfl, (d467.row (by simp [Fr]) _).in fun k hk => by simp [Fr] at hk ⊢; omega⟩, at463.row _ hsz hbz, by omega, But.row hB464 (Nat.le_refl _) _⟩
end Ps
end Go.Proofs.YtggdhgppclnckaaGreatDoor
