/-
  Expressions.
-/
import Derived.Test.YtggdhgppclnckaaGreatDoorPasJ
namespace Go.Proofs.YtggdhgppclnckaaGreatDoor
open Go Go.RowKit Lx
set_option maxRecDepth 20000

namespace Ps
variable {w : World} {g b n c : Nat} {L : List Tok} {i : Nat} {o : Int}

set_option maxHeartbeats 8000000 in
theorem cond_x {X : P Ex} {q : Nat} (hx : Does g b n c L 166 rdE X q) (ho : Does g b n c L 179 rdE (orE L X) (q + 1)) : Does g b n c L 166 rdE (condE L X) (q + 1) := by
  intro w i o h hq
  generalize hr : condE L X i o = r
  unfold condE at hr
  have hsz := h.cs.size
  have hbz := h.hb
  have b0 := allocB w (.cells #[.int .i64 0, .int .i64 0, .bool false, .slice none 0 0, .slice none 0 0, .string ⟨#[]⟩, .slice none 0 0] 53)
  have x0 := box_alloc w 53 #[.int .i64 0, .int .i64 0, .bool false, .slice none 0 0, .slice none 0 0, .string ⟨#[]⟩, .slice none 0 0]
  have at0 := h.new b0
  have hs0 : w.heap.size + 1 ≤ (w.alloc (.cells #[.int .i64 0, .int .i64 0, .bool false, .slice none 0 0, .slice none 0 0, .string ⟨#[]⟩, .slice none 0 0] 53)).heap.size := by simp
  have hB0 : But g w (w.alloc (.cells #[.int .i64 0, .int .i64 0, .bool false, .slice none 0 0, .slice none 0 0, .string ⟨#[]⟩, .slice none 0 0] 53)) := But.of_below b0
  clear h
  have HA := HA_ (g := g) (b := b) (n := n) (c := c) (L := L)
  have HW := HW_ (g := g) (b := b) (n := n) (c := c) (L := L)
  have HX := Lib.hid hx
  have HO := Lib.hid ho
  clear hx ho
  go_enter Tryz.func166, Tryz.ntmps166
  go_wp2_with fail
  generalize w.alloc (.cells #[.int .i64 0, .int .i64 0, .bool false, .slice none 0 0, .slice none 0 0, .string ⟨#[]⟩, .slice none 0 0] 53) = W0 at *
  refine (HO.out _ _ _ at0 hq).mono ?_
  rintro en W2 (⟨e, j3, q4, v11, hm5, rfl, ⟨e0, e1, e2, e3, e4, e5, e6, rfl, hv1⟩, hat6, hle7, hb8⟩ | ⟨j3, er9, hm5, rfl, hj10, hb8⟩)
  rotate_left
  · rw [bd_no hm5] at hr
    go_wp2
    exact post_panic (fn := Tryz.f166) rfl (Or.inr ⟨j3, er9, hr.symm, rfl, hj10, But.trans hB0 hb8⟩)
  rw [bd_ok hm5] at hr
  have at12 := hat6
  have hB13 : But g w W2 := But.trans hB0 hb8
  have x14 := x0.but hb8 (by omega)
  have hs15 : w.heap.size + 1 ≤ W2.heap.size := Nat.le_trans hs0 hb8.size
  clear hat6 hB0 x0
  have d16 : Rds (Fr (w.heap.size + 1)) W2 e.d [e0, e1, e2, e3, e4, e5, e6] := hv1.in fun k hk => Nat.le_trans (by assumption) hk
  clear hv1
  have ones18 := Rds.all d16
  go_wp2_with (refine wpList_store_row rfl 53 (.tmp 3) (.tmp 6) rfl W2.heap.size _ rfl rfl 53 _ (box_alloc W2 53 #[.int .i64 0, .int .i64 0, .bool false, .slice none 0 0, .slice none 0 0, .string ⟨#[]⟩, .slice none 0 0]) (by kernel_rfl) rfl ones18 ?_)
  rw [World.setRow_alloc_new]
  try simp only [Act.put]
  have bl19 := allocB W2 (.cells #[e0, e1, e2, e3, e4, e5, e6] 53)
  have x20 := box_alloc W2 53 #[e0, e1, e2, e3, e4, e5, e6]
  have at21 := at12.new bl19
  have hB22 : But g w (W2.alloc (.cells #[e0, e1, e2, e3, e4, e5, e6] 53)) := But.trans hB13 (But.of_below bl19)
  have x23 := x14.new bl19
  have d24 := d16.new bl19
  have hs25 : w.heap.size + 1 ≤ (W2.alloc (.cells #[e0, e1, e2, e3, e4, e5, e6] 53)).heap.size := Nat.le_trans hs15 bl19.size
  clear at12 hB13 x14 d16
  generalize W2.alloc (.cells #[e0, e1, e2, e3, e4, e5, e6] 53) = W17 at *
  generalize hgeb26 : W2.heap.size = eb26 at *
  clear hgeb26 bl19 ones18
  have hleb26 := x20.lt
  refine (HA.out _ _ _ [63] (by decide) at21).mono ?_
  rintro en W28 (⟨t27, j29, q30, v37, hm31, rfl, rfl, hat32, hle33, hb34⟩ | ⟨j29, er35, hm31, rfl, hj36, hb34⟩)
  rotate_left
  · rw [bd_no hm31] at hr
    go_wp2
    exact post_panic (fn := Tryz.f166) rfl (Or.inr ⟨j29, er35, hr.symm, rfl, hj36, But.trans hB22 hb34⟩)
  rw [bd_ok hm31] at hr
  have at38 := hat32
  have hB39 : But g w W28 := But.trans hB22 hb34
  have x40 := x23.but hb34 (by omega)
  have x41 := x20.but hb34 (by omega)
  have d42 := d24.but hb34 (by simp [Fr]; omega)
  have hs43 : w.heap.size + 1 ≤ W28.heap.size := Nat.le_trans hs25 hb34.size
  clear hat32 hB22 x23 x20 d24
  cases t27
  · simp only [Bool.false_eq_true, if_false] at hr
    obtain ⟨rfl, rfl, _⟩ := acc_not hm31
    clear hm31
    have onesE := Rds.all d42
    go_wp2_with (first | (refine wpList_load_row rfl 53 (.tmp 3) rfl eb26 rfl 53 _ (0, 0) (.struct _) x41 rfl rfl (by kernel_rfl) ?_) | (refine wpList_store_row rfl 53 (.tmp 2) (.tmp 10) rfl w.heap.size _ rfl rfl 53 _ x40 (by kernel_rfl) rfl onesE ?_))
    refine bodyPost_ret (results_cell_row rfl _ _ w.heap.size _ _ _ (.struct _) rfl (x40.set _) rfl rfl (by kernel_rfl)) rfl ?_
    exact Or.inl ⟨e, j29, q30, _, hr.symm, rfl, ⟨_, _, _, _, _, _, _, rfl, (d42.row (by simp [Fr]) _).in fun k hk => by simp [Fr] at hk ⊢; omega⟩, at38.row _ hsz hbz, by omega, But.row hB39 (Nat.le_refl _) _⟩
  · simp only [if_true] at hr
    obtain ⟨rfl, _⟩ := acc_yes hm31
    clear hm31
    go_wp2_with fail
    refine (HX.out _ _ _ at38 (by omega)).mono ?_
    rintro en W45 (⟨f, j46, q47, v54, hm48, rfl, ⟨f0, f1, f2, f3, f4, f5, f6, rfl, hv44⟩, hat49, hle50, hb51⟩ | ⟨j46, er52, hm48, rfl, hj53, hb51⟩)
    rotate_left
    · rw [bd_no hm48] at hr
      go_wp2
      exact post_panic (fn := Tryz.f166) rfl (Or.inr ⟨j46, er52, hr.symm, rfl, hj53, But.trans hB39 hb51⟩)
    rw [bd_ok hm48] at hr
    have at55 := hat49
    have hB56 : But g w W45 := But.trans hB39 hb51
    have x57 := x40.but hb51 (by omega)
    have x58 := x41.but hb51 (by omega)
    have d59 := d42.but hb51 (by simp [Fr]; omega)
    have hs60 : w.heap.size + 1 ≤ W45.heap.size := Nat.le_trans hs43 hb51.size
    clear hat49 hB39 x40 x41 d42
    have d61 : Rds (Fr (w.heap.size + 1)) W45 f.d [f0, f1, f2, f3, f4, f5, f6] := hv44.in fun k hk => Nat.le_trans (by assumption) hk
    clear hv44
    have ones63 := Rds.all d61
    go_wp2_with (refine wpList_store_row rfl 53 (.tmp 4) (.tmp 12) rfl W45.heap.size _ rfl rfl 53 _ (box_alloc W45 53 #[.int .i64 0, .int .i64 0, .bool false, .slice none 0 0, .slice none 0 0, .string ⟨#[]⟩, .slice none 0 0]) (by kernel_rfl) rfl ones63 ?_)
    rw [World.setRow_alloc_new]
    try simp only [Act.put]
    have bl64 := allocB W45 (.cells #[f0, f1, f2, f3, f4, f5, f6] 53)
    have x65 := box_alloc W45 53 #[f0, f1, f2, f3, f4, f5, f6]
    have at66 := at55.new bl64
    have hB67 : But g w (W45.alloc (.cells #[f0, f1, f2, f3, f4, f5, f6] 53)) := But.trans hB56 (But.of_below bl64)
    have x68 := x57.new bl64
    have x69 := x58.new bl64
    have d70 := d59.new bl64
    have d71 := d61.new bl64
    have hs72 : w.heap.size + 1 ≤ (W45.alloc (.cells #[f0, f1, f2, f3, f4, f5, f6] 53)).heap.size := Nat.le_trans hs60 bl64.size
    clear at55 hB56 x57 x58 d59 d61
    generalize W45.alloc (.cells #[f0, f1, f2, f3, f4, f5, f6] 53) = W62 at *
    generalize hgeb73 : W45.heap.size = eb73 at *
    clear hgeb73 bl64 ones63
    have hleb73 := x65.lt
    refine (HW.out _ _ _ [58] (by decide) at66).mono ?_
    rintro en W74 (⟨⟨⟩, j75, q76, v83, hm77, rfl, rfl, hat78, hle79, hb80⟩ | ⟨j75, er81, hm77, rfl, hj82, hb80⟩)
    rotate_left
    · rw [bd_no hm77] at hr
      go_wp2
      exact post_panic (fn := Tryz.f166) rfl (Or.inr ⟨j75, er81, hr.symm, rfl, hj82, But.trans hB67 hb80⟩)
    rw [bd_ok hm77] at hr
    have at84 := hat78
    have hB85 : But g w W74 := But.trans hB67 hb80
    have x86 := x68.but hb80 (by omega)
    have x87 := x69.but hb80 (by omega)
    have x88 := x65.but hb80 (by omega)
    have d89 := d70.but hb80 (by simp [Fr]; omega)
    have d90 := d71.but hb80 (by simp [Fr]; omega)
    have hs91 : w.heap.size + 1 ≤ W74.heap.size := Nat.le_trans hs72 hb80.size
    clear hat78 hB67 x68 x69 x65 d70 d71
    clear hm77
    have at92 := at84.drew
    have hB93 := But.drew hB85
    have x94 := x86.drew
    have x95 := x87.drew
    have x96 := x88.drew
    have d97 := d89.drew
    have d98 := d90.drew
    have hs99 : w.heap.size + 1 ≤ W74.drew.heap.size := hs91
    clear at84 hB85 x86 x87 x88 d89 d90
    go_wp2
    refine wp_region_held_drew (S := fun W => Box W eb26 53 #[e0, e1, e2, e3, e4, e5, e6] ∧ Box W eb73 53 #[f0, f1, f2, f3, f4, f5, f6]) (by kernel_rfl) ?_ (fun hHeld => ?_)
    · exact ⟨x95, x96⟩
    refine tkH (i := 0) (oi := ⟨some 15, _, _, _, _, _⟩) (v := .agg #[e0, e1, e2, e3, e4, e5, e6]) (fun W hSw => Box.yield rfl rfl (hSw.1) rfl (by kernel_rfl)) ?_
    try simp only [Act.put, List.setIfInBounds_toArray, List.set_cons_zero, List.set_cons_succ]
    refine tkH (i := 1) (oi := ⟨some 16, _, _, _, _, _⟩) (v := .agg #[f0, f1, f2, f3, f4, f5, f6]) (fun W hSw => Box.yield rfl rfl (hSw.2) rfl (by kernel_rfl)) ?_
    try simp only [Act.put, List.setIfInBounds_toArray, List.set_cons_zero, List.set_cons_succ]
    refine tkH (i := 2) (oi := ⟨some 17, _, _, _, _, _⟩) (v := ?_) ?_ ?_
    rotate_left
    · intro W hSw
      go_simp
      try with_reducible rfl
    try simp only [Act.put, List.setIfInBounds_toArray, List.set_cons_zero, List.set_cons_succ]
    refine wpAnyH_ready (rs := [3]) (by kernel_rfl) (by simp) ?_
    refine AllReadyH.cons (o := ⟨some 18, _, _, _, _, _⟩) rfl (fun K hK => ?_) AllReadyH.nil
    go_simp
    refine (HX.out _ _ _ at92 (by omega)).mono ?_
    rintro en W101 (⟨x, j102, q103, v110, hm104, rfl, ⟨x0, x1, x2, x3, x4, x5, x6, rfl, hv100⟩, hat105, hle106, hb107⟩ | ⟨j102, er108, hm104, rfl, hj109, hb107⟩)
    rotate_left
    · rw [bd_no hm104] at hr
      exact post_panic (fn := Tryz.f166) rfl (Or.inr ⟨j102, er108, hr.symm, rfl, hj109, But.trans hB93 hb107⟩)
    rw [bd_ok hm104] at hr
    have at111 := hat105
    have hB112 : But g w W101 := But.trans hB93 hb107
    have x113 := x94.but hb107 (by omega)
    have x114 := x95.but hb107 (by omega)
    have x115 := x96.but hb107 (by omega)
    have d116 := d97.but hb107 (by simp [Fr]; omega)
    have d117 := d98.but hb107 (by simp [Fr]; omega)
    have hs118 : w.heap.size + 1 ≤ W101.heap.size := Nat.le_trans hs99 hb107.size
    clear hat105 hB93 x94 x95 x96 d97 d98
    have d119 : Rds (Fr (w.heap.size + 1)) W101 x.d [x0, x1, x2, x3, x4, x5, x6] := hv100.in fun k hk => Nat.le_trans (by assumption) hk
    clear hv100
    refine hK.out _ _ (⟨x114, x115⟩) (fun hHeld => ?_)
    clear hK K
    try simp only [Act.put, List.setIfInBounds_toArray, List.set_cons_zero, List.set_cons_succ]
    refine wpAnyH_ready (rs := [4]) (by kernel_rfl) (by simp) ?_
    refine AllReadyH.cons (o := ⟨some 19, _, _, _, _, _⟩) rfl (fun K hK => ?_) AllReadyH.nil
    go_simp
    have bl122 := allocB W101 (.cells #[e0, e1, e2, e3, e4, e5, e6, f0, f1, f2, f3, f4, f5, f6, x0, x1, x2, x3, x4, x5, x6] 53)
    have dl123 : Rd (Fr (w.heap.size + 1)) (W101.alloc (.cells #[e0, e1, e2, e3, e4, e5, e6, f0, f1, f2, f3, f4, f5, f6, x0, x1, x2, x3, x4, x5, x6] 53)) (.l 7 (dsE [e, f, x])) (.slice (some ⟨W101.heap.size, 0, none⟩) 3 3) := by
      have := Rds.laidQ (sz := 7) (n := 3) 53 (d116.app (d117.app (d119))) (by simp [Ex.d_len]) (show w.heap.size + 1 ≤ W101.heap.size by assumption) (by decide)
      simpa [dsE] using this
    have at124 := at111.new bl122
    have hB125 : But g w (W101.alloc (.cells #[e0, e1, e2, e3, e4, e5, e6, f0, f1, f2, f3, f4, f5, f6, x0, x1, x2, x3, x4, x5, x6] 53)) := But.trans hB112 (But.of_below bl122)
    have x126 := x113.new bl122
    have x127 := x114.new bl122
    have x128 := x115.new bl122
    have d129 := d116.new bl122
    have d130 := d117.new bl122
    have d131 := d119.new bl122
    have hs132 : w.heap.size + 1 ≤ (W101.alloc (.cells #[e0, e1, e2, e3, e4, e5, e6, f0, f1, f2, f3, f4, f5, f6, x0, x1, x2, x3, x4, x5, x6] 53)).heap.size := Nat.le_trans hs118 bl122.size
    clear at111 hB112 x113 x114 x115 d116 d117 d119
    refine hK.out _ _ (⟨x127, x128⟩) (fun hHeld => ?_)
    clear hK K
    try simp only [Act.put, List.setIfInBounds_toArray, List.set_cons_zero, List.set_cons_succ]
    refine wpAnyH_ready (rs := [5]) (by kernel_rfl) (by simp) ?_
    refine AllReadyH.cons (o := ⟨some 20, _, _, _, _, _⟩) rfl (fun K hK => ?_) AllReadyH.nil
    go_simp
    refine (node_x _ _ _ _ _).mono ?_
    rintro en W133 ⟨rfl, hb134⟩
    have at135 := at124.new hb134
    have hB136 : But g w W133 := But.trans hB125 (But.of_below hb134)
    have x137 := x126.new hb134
    have x138 := x127.new hb134
    have x139 := x128.new hb134
    have d140 := d129.new hb134
    have d141 := d130.new hb134
    have d142 := d131.new hb134
    have d143 := dl123.new hb134
    have hs144 : w.heap.size + 1 ≤ W133.heap.size := Nat.le_trans hs132 hb134.size
    clear at124 hB125 x126 x127 x128 d129 d130 d131 dl123
    have nd145 := node_rds 15 [e, f, x] d143
    refine hK.out _ _ (⟨x138, x139⟩) (fun hHeld => ?_)
    clear hK K
    try simp only [Act.put, List.setIfInBounds_toArray, List.set_cons_zero, List.set_cons_succ]
    refine wpAnyH_ready (rs := [6]) (by kernel_rfl) (by simp) ?_
    refine AllReadyH.cons (o := ⟨none, _, _, _, _, _⟩) rfl (fun K hK => ?_) AllReadyH.nil
    rw [if_pos (by rfl)]
    refine wp_store_row 53 (.tmp 2) (.tmp 20) rfl (w.heap.size) _ rfl rfl 53 _ (x137) (by kernel_rfl) rfl (by simp [Value.oneCell']) ?_
    refine hK.out _ _ (⟨x138.other _ (by omega), x139.other _ (by omega)⟩) (fun hHeld => ?_)
    clear hK K
    try simp only [Act.put]
    refine wpAnyH_done (by kernel_rfl) ?_ _
    go_wp2
    refine bodyPost_ret (results_cell_row rfl _ _ w.heap.size _ _ _ (.struct _) rfl (x137.set _) rfl rfl (by kernel_rfl)) rfl ?_
    exact Or.inl ⟨node 15 [e, f, x], j102, q103, _, hr.symm, rfl, ⟨_, _, _, _, _, _, _, rfl, (nd145.row (by simp [Fr]) _).in fun k hk => by simp [Fr] at hk ⊢; omega⟩, at135.row _ hsz hbz, by omega, But.row hB136 (Nat.le_refl _) _⟩
end Ps
end Go.Proofs.YtggdhgppclnckaaGreatDoor
