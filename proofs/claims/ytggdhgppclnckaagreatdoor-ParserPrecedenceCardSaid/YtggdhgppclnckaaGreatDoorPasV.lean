/-
  Statements that give a variable a value.
-/
import Derived.Test.YtggdhgppclnckaaGreatDoorPasU
namespace Go.Proofs.YtggdhgppclnckaaGreatDoor
open Go Go.RowKit Lx
set_option maxRecDepth 20000

namespace Ps
variable {w : World} {g b n c : Nat} {L : List Tok} {i : Nat} {o : Int}

set_option maxHeartbeats 8000000 in
theorem change_x {X : P Ex} {q : Nat} (hx : Does g b n c L 166 rdE X q) (hd : Does g b n c L 181 rdDr (drawE L X) q) : Does1 g b n c L 168 rdSt (change L X) q := by
  intro w i o h hq
  generalize hr : change L X i o = r
  unfold change at hr
  have hsz := h.cs.size
  have hbz := h.hb
  have b0 := allocB w (.cells #[.int .i64 0, .string ⟨#[]⟩, .string ⟨#[]⟩, .int .i64 0, .int .i64 0, .int .i64 0, .bool false, .slice none 0 0, .slice none 0 0, .string ⟨#[]⟩, .slice none 0 0, .slice none 0 0, .int .i64 0, .int .i64 0, .int .i64 0, .bool false, .slice none 0 0, .slice none 0 0, .bool false, .slice none 0 0, .slice none 0 0, .slice none 0 0, .string ⟨#[]⟩, .slice none 0 0, .slice none 0 0] 61)
  have x0 := box_alloc w 61 #[.int .i64 0, .string ⟨#[]⟩, .string ⟨#[]⟩, .int .i64 0, .int .i64 0, .int .i64 0, .bool false, .slice none 0 0, .slice none 0 0, .string ⟨#[]⟩, .slice none 0 0, .slice none 0 0, .int .i64 0, .int .i64 0, .int .i64 0, .bool false, .slice none 0 0, .slice none 0 0, .bool false, .slice none 0 0, .slice none 0 0, .slice none 0 0, .string ⟨#[]⟩, .slice none 0 0, .slice none 0 0]
  have at0 := h.new b0
  have hs0 : w.heap.size + 1 ≤ (w.alloc (.cells #[.int .i64 0, .string ⟨#[]⟩, .string ⟨#[]⟩, .int .i64 0, .int .i64 0, .int .i64 0, .bool false, .slice none 0 0, .slice none 0 0, .string ⟨#[]⟩, .slice none 0 0, .slice none 0 0, .int .i64 0, .int .i64 0, .int .i64 0, .bool false, .slice none 0 0, .slice none 0 0, .bool false, .slice none 0 0, .slice none 0 0, .slice none 0 0, .string ⟨#[]⟩, .slice none 0 0, .slice none 0 0] 61)).heap.size := by simp
  have hB0 : But g w (w.alloc (.cells #[.int .i64 0, .string ⟨#[]⟩, .string ⟨#[]⟩, .int .i64 0, .int .i64 0, .int .i64 0, .bool false, .slice none 0 0, .slice none 0 0, .string ⟨#[]⟩, .slice none 0 0, .slice none 0 0, .int .i64 0, .int .i64 0, .int .i64 0, .bool false, .slice none 0 0, .slice none 0 0, .bool false, .slice none 0 0, .slice none 0 0, .slice none 0 0, .string ⟨#[]⟩, .slice none 0 0, .slice none 0 0] 61)) := But.of_below b0
  clear h
  have HA := HA_ (g := g) (b := b) (n := n) (c := c) (L := L)
  have HW := HW_ (g := g) (b := b) (n := n) (c := c) (L := L)
  have HX := Lib.hid hx
  have HD := Lib.hid hd
  have HNM : Hid (∀ W j q, At W g b n c L j q → Calls Tryz.prog 98 #[.pointer (some ⟨g, 0, none⟩)] W (Giv g b n c L rdS W j 1 (name L j q))) := fun W j q hW => name_x hW
  have HIB : Hid (∀ W j q, At W g b n c L j q → Calls Tryz.prog 182 #[.pointer (some ⟨g, 0, none⟩), .int .i64 1, .string ⟨#[40]⟩] W (GivesB (decide ((tkn L j).k = 1) && decide ((tkn L (j + 1)).t = [40])) W)) := fun W j q hW => isBefore_x hW 1 (by decide) [40]
  have HLU : Hid (∀ W j p, At W g b n c L j p → n ≤ q + j → Calls Tryz.prog 183 #[.pointer (some ⟨g, 0, none⟩), .string ⟨#[41]⟩, .func (.func 166) #[.pointer (some ⟨g, 0, none⟩)] #[]] W (Giv g b n c L (rdL 7 Ex.d W.heap.size) W j 0 (listU L [41] X j p))) := fun W j p hW hj => untilExpr_x hx en_expr hW hj [41] (by decide)
  clear hx hd
  go_enter Tryz.func168, Tryz.ntmps168
  go_wp2_with fail
  generalize w.alloc (.cells #[.int .i64 0, .string ⟨#[]⟩, .string ⟨#[]⟩, .int .i64 0, .int .i64 0, .int .i64 0, .bool false, .slice none 0 0, .slice none 0 0, .string ⟨#[]⟩, .slice none 0 0, .slice none 0 0, .int .i64 0, .int .i64 0, .int .i64 0, .bool false, .slice none 0 0, .slice none 0 0, .bool false, .slice none 0 0, .slice none 0 0, .slice none 0 0, .string ⟨#[]⟩, .slice none 0 0, .slice none 0 0] 61) = W0 at *
  refine (HNM.out _ _ _ at0).mono ?_
  rintro en W1 (⟨s, j2, q3, v10, hm4, rfl, rfl, hat5, hle6, hb7⟩ | ⟨j2, er8, hm4, rfl, hj9, hb7⟩)
  rotate_left
  · rw [bd_no hm4] at hr
    go_wp2
    exact post_panic (fn := Tryz.f168) rfl (Or.inr ⟨j2, er8, hr.symm, rfl, hj9, But.trans hB0 hb7⟩)
  rw [bd_ok hm4] at hr
  have at11 := hat5
  have hB12 : But g w W1 := But.trans hB0 hb7
  have x13 := x0.but hb7 (by omega)
  have hs14 : w.heap.size + 1 ≤ W1.heap.size := Nat.le_trans hs0 hb7.size
  clear hat5 hB0 x0
  go_wp2_with fail
  refine (HA.out _ _ _ [126] (by decide) at11).mono ?_
  rintro en W16 (⟨t15, j17, q18, v25, hm19, rfl, rfl, hat20, hle21, hb22⟩ | ⟨j17, er23, hm19, rfl, hj24, hb22⟩)
  rotate_left
  · rw [bd_no hm19] at hr
    go_wp2
    exact post_panic (fn := Tryz.f168) rfl (Or.inr ⟨j17, er23, hr.symm, rfl, hj24, But.trans hB12 hb22⟩)
  rw [bd_ok hm19] at hr
  have at26 := hat20
  have hB27 : But g w W16 := But.trans hB12 hb22
  have x28 := x13.but hb22 (by omega)
  have hs29 : w.heap.size + 1 ≤ W16.heap.size := Nat.le_trans hs14 hb22.size
  clear hat20 hB12 x13
  cases t15
  · simp only [Bool.false_eq_true, if_false] at hr
    obtain ⟨rfl, rfl, _⟩ := acc_not hm19
    clear hm19
    go_wp2_with fail
    refine (HW.out _ _ _ [58, 61] (by decide) at26).mono ?_
    rintro en W30 (⟨⟨⟩, j31, q32, v39, hm33, rfl, rfl, hat34, hle35, hb36⟩ | ⟨j31, er37, hm33, rfl, hj38, hb36⟩)
    rotate_left
    · rw [bd_no hm33] at hr
      go_wp2
      exact post_panic (fn := Tryz.f168) rfl (Or.inr ⟨j31, er37, hr.symm, rfl, hj38, But.trans hB27 hb36⟩)
    rw [bd_ok hm33] at hr
    have at40 := hat34
    have hB41 : But g w W30 := But.trans hB27 hb36
    have x42 := x28.but hb36 (by omega)
    have hs43 : w.heap.size + 1 ≤ W30.heap.size := Nat.le_trans hs29 hb36.size
    clear hat34 hB27 x28
    clear hm33
    go_wp2_with fail
    refine (HIB.out _ _ _ at40).mono ?_
    rintro en W44 ⟨rfl, hb45⟩
    have at46 := at40.new hb45
    have hB47 : But g w W44 := But.trans hB41 (But.of_below hb45)
    have x48 := x42.new hb45
    have hs49 : w.heap.size + 1 ≤ W44.heap.size := Nat.le_trans hs43 hb45.size
    clear at40 hB41 x42
    try dsimp only at hr
    by_cases e3 : (tkn L j31).k = 1 ∧ (tkn L (j31 + 1)).t = [40]
    · have q3 : (decide ((tkn L j31).k = 1) && decide ((tkn L (j31 + 1)).t = [40])) = true := by simp [e3]
      rw [if_pos e3] at hr
      rw [q3]
      clear e3 q3
      go_wp2_with fail
      refine (HNM.out _ _ _ at46).mono ?_
      rintro en W50 (⟨f, j51, q52, v59, hm53, rfl, rfl, hat54, hle55, hb56⟩ | ⟨j51, er57, hm53, rfl, hj58, hb56⟩)
      rotate_left
      · rw [bd_no hm53] at hr
        go_wp2
        exact post_panic (fn := Tryz.f168) rfl (Or.inr ⟨j51, er57, hr.symm, rfl, hj58, But.trans hB47 hb56⟩)
      rw [bd_ok hm53] at hr
      have at60 := hat54
      have hB61 : But g w W50 := But.trans hB47 hb56
      have x62 := x48.but hb56 (by omega)
      have hs63 : w.heap.size + 1 ≤ W50.heap.size := Nat.le_trans hs49 hb56.size
      clear hat54 hB47 x48
      go_wp2_with fail
      refine (HW.out _ _ _ [40] (by decide) at60).mono ?_
      rintro en W64 (⟨⟨⟩, j65, q66, v73, hm67, rfl, rfl, hat68, hle69, hb70⟩ | ⟨j65, er71, hm67, rfl, hj72, hb70⟩)
      rotate_left
      · rw [bd_no hm67] at hr
        go_wp2
        exact post_panic (fn := Tryz.f168) rfl (Or.inr ⟨j65, er71, hr.symm, rfl, hj72, But.trans hB61 hb70⟩)
      rw [bd_ok hm67] at hr
      have at74 := hat68
      have hB75 : But g w W64 := But.trans hB61 hb70
      have x76 := x62.but hb70 (by omega)
      have hs77 : w.heap.size + 1 ≤ W64.heap.size := Nat.le_trans hs63 hb70.size
      clear hat68 hB61 x62
      clear hm67
      go_wp2_with fail
      refine (HLU.out _ _ _ at74 (by omega)).mono ?_
      rintro en W78 (⟨l, j79, q80, v87, hm81, rfl, ⟨B, m, cc, rfl, hv⟩, hat82, hle83, hb84⟩ | ⟨j79, er85, hm81, rfl, hj86, hb84⟩)
      rotate_left
      · rw [bd_no hm81] at hr
        go_wp2
        exact post_panic (fn := Tryz.f168) rfl (Or.inr ⟨j79, er85, hr.symm, rfl, hj86, But.trans hB75 hb84⟩)
      rw [bd_ok hm81] at hr
      have at88 := hat82
      have hB89 : But g w W78 := But.trans hB75 hb84
      have x90 := x76.but hb84 (by omega)
      have hs91 : w.heap.size + 1 ≤ W78.heap.size := Nat.le_trans hs77 hb84.size
      clear hat82 hB75 x76
      have hv2 : Rd (Fr (w.heap.size + 1)) W78 (.l 7 (dsE l)) (.slice B m cc) := dsE_flat l ▸ hv.in fun k hk => Nat.le_trans (by assumption) hk
      have hdd := st_rds 3 s f 0 l [] [] zex_rds hv2 zdr_rds nils_rd nils_rd
      go_wp2_with (refine wpList_store_row rfl 61 (.tmp 2) (.tmp 27) rfl w.heap.size _ rfl rfl 61 _ x90 (by kernel_rfl) rfl (hdd.all) ?_)
      refine bodyPost_ret (results_cell_row rfl _ _ w.heap.size _ _ _ (.struct _) rfl (x90.set _) rfl rfl (by kernel_rfl)) rfl ?_
      exact Or.inl ⟨.mk 3 s f 0 .zero l .zero [] [], j79, q80, _, hr.symm, rfl, ⟨_, _, _, _, _, _, _, _, _, _, _, _, _, _, _, _, _, _, _, _, _, _, _, _, _, rfl, (hdd.row (by simp [Fr]) _).in fun k hk => by simp [Fr] at hk ⊢; omega⟩, at88.row _ hsz hbz, by omega, But.row hB89 (Nat.le_refl _) _⟩
    · have q3 : (decide ((tkn L j31).k = 1) && decide ((tkn L (j31 + 1)).t = [40])) = false := by simpa using e3
      rw [if_neg e3] at hr
      rw [q3]
      clear e3 q3
      go_wp2_with fail
      refine (HX.out _ _ _ at46 (by omega)).mono ?_
      rintro en W93 (⟨x, j94, q95, v102, hm96, rfl, ⟨x0, x1, x2, x3, x4, x5, x6, rfl, hv92⟩, hat97, hle98, hb99⟩ | ⟨j94, er100, hm96, rfl, hj101, hb99⟩)
      rotate_left
      · rw [bd_no hm96] at hr
        go_wp2
        exact post_panic (fn := Tryz.f168) rfl (Or.inr ⟨j94, er100, hr.symm, rfl, hj101, But.trans hB47 hb99⟩)
      rw [bd_ok hm96] at hr
      have at103 := hat97
      have hB104 : But g w W93 := But.trans hB47 hb99
      have x105 := x48.but hb99 (by omega)
      have hs106 : w.heap.size + 1 ≤ W93.heap.size := Nat.le_trans hs49 hb99.size
      clear hat97 hB47 x48
      have d107 : Rds (Fr (w.heap.size + 1)) W93 x.d [x0, x1, x2, x3, x4, x5, x6] := hv92.in fun k hk => Nat.le_trans (by assumption) hk
      clear hv92
      have hdd := st_rds 1 s [] 0 [] [] [] d107 nil_rd zdr_rds nils_rd nils_rd
      have onesS := hdd.all
      go_wp2_with (refine wpList_store_row rfl 61 (.tmp 2) (.tmp 31) rfl w.heap.size _ rfl rfl 61 _ x105 (by kernel_rfl) rfl (onesS) ?_)
      refine bodyPost_ret (results_cell_row rfl _ _ w.heap.size _ _ _ (.struct _) rfl (x105.set _) rfl rfl (by kernel_rfl)) rfl ?_
      exact Or.inl ⟨.mk 1 s [] 0 x [] .zero [] [], j94, q95, _, hr.symm, rfl, ⟨_, _, _, _, _, _, _, _, _, _, _, _, _, _, _, _, _, _, _, _, _, _, _, _, _, rfl, (hdd.row (by simp [Fr]) _).in fun k hk => by simp [Fr] at hk ⊢; omega⟩, at103.row _ hsz hbz, by omega, But.row hB104 (Nat.le_refl _) _⟩
  · simp only [if_true] at hr
    obtain ⟨rfl, _⟩ := acc_yes hm19
    clear hm19
    go_wp2_with fail
    refine (HD.out _ _ _ at26 (by omega)).mono ?_
    rintro en W108 (⟨d, j109, q110, v117, hm111, rfl, ⟨d0, d1, d2, d3, d4, d5, d6, d7, d8, d9, d10, rfl, hv⟩, hat112, hle113, hb114⟩ | ⟨j109, er115, hm111, rfl, hj116, hb114⟩)
    rotate_left
    · rw [bd_no hm111] at hr
      go_wp2
      exact post_panic (fn := Tryz.f168) rfl (Or.inr ⟨j109, er115, hr.symm, rfl, hj116, But.trans hB27 hb114⟩)
    rw [bd_ok hm111] at hr
    have at118 := hat112
    have hB119 : But g w W108 := But.trans hB27 hb114
    have x120 := x28.but hb114 (by omega)
    have hs121 : w.heap.size + 1 ≤ W108.heap.size := Nat.le_trans hs29 hb114.size
    clear hat112 hB27 x28
    have hv2 : Rds (Fr (w.heap.size + 1)) W108 d.d [d0, d1, d2, d3, d4, d5, d6, d7, d8, d9, d10] := hv.in fun k hk => Nat.le_trans (by assumption) hk
    have hdd := st_rds 2 s [] 0 [] [] [] zex_rds nil_rd hv2 nils_rd nils_rd
    have onesS := hdd.all
    go_wp2_with (refine wpList_store_row rfl 61 (.tmp 2) (.tmp 12) rfl w.heap.size _ rfl rfl 61 _ x120 (by kernel_rfl) rfl (onesS) ?_)
    refine bodyPost_ret (results_cell_row rfl _ _ w.heap.size _ _ _ (.struct _) rfl (x120.set _) rfl rfl (by kernel_rfl)) rfl ?_
    exact Or.inl ⟨.mk 2 s [] 0 .zero [] d [] [], j109, q110, _, hr.symm, rfl, ⟨_, _, _, _, _, _, _, _, _, _, _, _, _, _, _, _, _, _, _, _, _, _, _, _, _, rfl, (hdd.row (by simp [Fr]) _).in fun k hk => by simp [Fr] at hk ⊢; omega⟩, at118.row _ hsz hbz, by omega, But.row hB119 (Nat.le_refl _) _⟩
end Ps
end Go.Proofs.YtggdhgppclnckaaGreatDoor
