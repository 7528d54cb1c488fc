/-
  Comparisons and expressions.
-/
import Derived.Test.YtggdhgppclnckaaGreatDoorPasJ
namespace Go.Proofs.YtggdhgppclnckaaGreatDoor
open Go Go.RowKit Lx
set_option maxRecDepth 20000

namespace Ps
variable {w : World} {g b n c : Nat} {L : List Tok} {i : Nat} {o : Int}

set_option maxHeartbeats 8000000 in
theorem comparison_x {S : P Ex} {q : Nat} (hs : Does g b n c L 215 rdE S q) : Does g b n c L 206 rdE (cmpE L S) q := by
  intro w i o h hq
  generalize hr : cmpE L S i o = r
  unfold cmpE at hr
  have hsz := h.cs.size
  have hbz := h.hb
  have b0 := allocB w (.cells #[.int .i64 0, .int .i64 0, .bool false, .slice none 0 0, .slice none 0 0, .string ⟨#[]⟩, .slice none 0 0] 53)
  have x0 := box_alloc w 53 #[.int .i64 0, .int .i64 0, .bool false, .slice none 0 0, .slice none 0 0, .string ⟨#[]⟩, .slice none 0 0]
  have at0 := h.new b0
  have hs0 : w.heap.size + 1 ≤ (w.alloc (.cells #[.int .i64 0, .int .i64 0, .bool false, .slice none 0 0, .slice none 0 0, .string ⟨#[]⟩, .slice none 0 0] 53)).heap.size := by simp
  have hB0 : But g w (w.alloc (.cells #[.int .i64 0, .int .i64 0, .bool false, .slice none 0 0, .slice none 0 0, .string ⟨#[]⟩, .slice none 0 0] 53)) := But.of_below b0
  clear h
  have HA := HA_ (g := g) (b := b) (n := n) (c := c) (L := L)
  have HS := Lib.hid hs
  clear hs
  go_enter Tryz.func206, Tryz.ntmps206
  go_wp2_with fail
  generalize w.alloc (.cells #[.int .i64 0, .int .i64 0, .bool false, .slice none 0 0, .slice none 0 0, .string ⟨#[]⟩, .slice none 0 0] 53) = W0 at *
  refine (HS.out _ _ _ at0 hq).mono ?_
  rintro en W2 (⟨e, j3, q4, v11, hm5, rfl, ⟨e0, e1, e2, e3, e4, e5, e6, rfl, hv1⟩, hat6, hle7, hb8⟩ | ⟨j3, er9, hm5, rfl, hj10, hb8⟩)
  rotate_left
  · rw [bd_no hm5] at hr
    go_wp2
    exact post_panic (fn := Tryz.f206) rfl (Or.inr ⟨j3, er9, hr.symm, rfl, hj10, But.trans hB0 hb8⟩)
  rw [bd_ok hm5] at hr
  have at12 := hat6
  have hB13 : But g w W2 := But.trans hB0 hb8
  have x14 := x0.but hb8 (by omega)
  have hs15 : w.heap.size + 1 ≤ W2.heap.size := Nat.le_trans hs0 hb8.size
  clear hat6 hB0 x0
  have d16 : Rds (Fr (w.heap.size + 1)) W2 e.d [e0, e1, e2, e3, e4, e5, e6] := hv1.in fun k hk => Nat.le_trans (by assumption) hk
  clear hv1
  have ones18 := Rds.all d16
  go_wp2_with (refine wpList_store_row rfl 53 (.tmp 3) (.tmp 5) rfl W2.heap.size _ rfl rfl 53 _ (box_alloc W2 53 #[.int .i64 0, .int .i64 0, .bool false, .slice none 0 0, .slice none 0 0, .string ⟨#[]⟩, .slice none 0 0]) (by kernel_rfl) rfl ones18 ?_)
  rw [World.setRow_alloc_new]
  try simp only [Act.put]
  have bl19 := allocB W2 (.cells #[e0, e1, e2, e3, e4, e5, e6] 53)
  have x20 := box_alloc W2 53 #[e0, e1, e2, e3, e4, e5, e6]
  have at21 := at12.new bl19
  have hB22 : But g w (W2.alloc (.cells #[e0, e1, e2, e3, e4, e5, e6] 53)) := But.trans hB13 (But.of_below bl19)
  have x23 := x14.new bl19
  have d24 := d16.new bl19
  have hs25 : w.heap.size + 1 ≤ (W2.alloc (.cells #[e0, e1, e2, e3, e4, e5, e6] 53)).heap.size := Nat.le_trans hs15 bl19.size
  clear at12 hB13 x14 d16
  generalize W2.alloc (.cells #[e0, e1, e2, e3, e4, e5, e6] 53) = W17 at *
  generalize hgeb26 : W2.heap.size = eb26 at *
  clear hgeb26 bl19 ones18
  have hleb26 := x20.lt
  refine (HA.out _ _ _ [61, 61] (by decide) at21).mono ?_
  rintro en W28 (⟨t27, j29, q30, v37, hm31, rfl, rfl, hat32, hle33, hb34⟩ | ⟨j29, er35, hm31, rfl, hj36, hb34⟩)
  rotate_left
  · rw [bd_no hm31] at hr
    go_wp2
    exact post_panic (fn := Tryz.f206) rfl (Or.inr ⟨j29, er35, hr.symm, rfl, hj36, But.trans hB22 hb34⟩)
  rw [bd_ok hm31] at hr
  have at38 := hat32
  have hB39 : But g w W28 := But.trans hB22 hb34
  have x40 := x23.but hb34 (by omega)
  have x41 := x20.but hb34 (by omega)
  have d42 := d24.but hb34 (by simp [Fr]; omega)
  have hs43 : w.heap.size + 1 ≤ W28.heap.size := Nat.le_trans hs25 hb34.size
  clear hat32 hB22 x23 x20 d24
  cases t27
  · simp only [Bool.false_eq_true, if_false] at hr
    obtain ⟨rfl, rfl, _⟩ := acc_not hm31
    clear hm31
    go_wp2_with fail
    refine (HA.out _ _ _ [33, 61] (by decide) at38).mono ?_
    rintro en W45 (⟨t44, j46, q47, v54, hm48, rfl, rfl, hat49, hle50, hb51⟩ | ⟨j46, er52, hm48, rfl, hj53, hb51⟩)
    rotate_left
    · rw [bd_no hm48] at hr
      go_wp2
      exact post_panic (fn := Tryz.f206) rfl (Or.inr ⟨j46, er52, hr.symm, rfl, hj53, But.trans hB39 hb51⟩)
    rw [bd_ok hm48] at hr
    have at55 := hat49
    have hB56 : But g w W45 := But.trans hB39 hb51
    have x57 := x40.but hb51 (by omega)
    have x58 := x41.but hb51 (by omega)
    have d59 := d42.but hb51 (by simp [Fr]; omega)
    have hs60 : w.heap.size + 1 ≤ W45.heap.size := Nat.le_trans hs43 hb51.size
    clear hat49 hB39 x40 x41 d42
    cases t44
    · simp only [Bool.false_eq_true, if_false] at hr
      obtain ⟨rfl, rfl, _⟩ := acc_not hm48
      clear hm48
      go_wp2_with fail
      refine (HA.out _ _ _ [60] (by decide) at55).mono ?_
      rintro en W62 (⟨t61, j63, q64, v71, hm65, rfl, rfl, hat66, hle67, hb68⟩ | ⟨j63, er69, hm65, rfl, hj70, hb68⟩)
      rotate_left
      · rw [bd_no hm65] at hr
        go_wp2
        exact post_panic (fn := Tryz.f206) rfl (Or.inr ⟨j63, er69, hr.symm, rfl, hj70, But.trans hB56 hb68⟩)
      rw [bd_ok hm65] at hr
      have at72 := hat66
      have hB73 : But g w W62 := But.trans hB56 hb68
      have x74 := x57.but hb68 (by omega)
      have x75 := x58.but hb68 (by omega)
      have d76 := d59.but hb68 (by simp [Fr]; omega)
      have hs77 : w.heap.size + 1 ≤ W62.heap.size := Nat.le_trans hs60 hb68.size
      clear hat66 hB56 x57 x58 d59
      cases t61
      · simp only [Bool.false_eq_true, if_false] at hr
        obtain ⟨rfl, rfl, _⟩ := acc_not hm65
        clear hm65
        go_wp2_with fail
        refine (HA.out _ _ _ [60, 61] (by decide) at72).mono ?_
        rintro en W79 (⟨t78, j80, q81, v88, hm82, rfl, rfl, hat83, hle84, hb85⟩ | ⟨j80, er86, hm82, rfl, hj87, hb85⟩)
        rotate_left
        · rw [bd_no hm82] at hr
          go_wp2
          exact post_panic (fn := Tryz.f206) rfl (Or.inr ⟨j80, er86, hr.symm, rfl, hj87, But.trans hB73 hb85⟩)
        rw [bd_ok hm82] at hr
        have at89 := hat83
        have hB90 : But g w W79 := But.trans hB73 hb85
        have x91 := x74.but hb85 (by omega)
        have x92 := x75.but hb85 (by omega)
        have d93 := d76.but hb85 (by simp [Fr]; omega)
        have hs94 : w.heap.size + 1 ≤ W79.heap.size := Nat.le_trans hs77 hb85.size
        clear hat83 hB73 x74 x75 d76
        cases t78
        · simp only [Bool.false_eq_true, if_false] at hr
          obtain ⟨rfl, rfl, _⟩ := acc_not hm82
          clear hm82
          go_wp2_with fail
          refine (HA.out _ _ _ [62] (by decide) at89).mono ?_
          rintro en W96 (⟨t95, j97, q98, v105, hm99, rfl, rfl, hat100, hle101, hb102⟩ | ⟨j97, er103, hm99, rfl, hj104, hb102⟩)
          rotate_left
          · rw [bd_no hm99] at hr
            go_wp2
            exact post_panic (fn := Tryz.f206) rfl (Or.inr ⟨j97, er103, hr.symm, rfl, hj104, But.trans hB90 hb102⟩)
          rw [bd_ok hm99] at hr
          have at106 := hat100
          have hB107 : But g w W96 := But.trans hB90 hb102
          have x108 := x91.but hb102 (by omega)
          have x109 := x92.but hb102 (by omega)
          have d110 := d93.but hb102 (by simp [Fr]; omega)
          have hs111 : w.heap.size + 1 ≤ W96.heap.size := Nat.le_trans hs94 hb102.size
          clear hat100 hB90 x91 x92 d93
          cases t95
          · simp only [Bool.false_eq_true, if_false] at hr
            obtain ⟨rfl, rfl, _⟩ := acc_not hm99
            clear hm99
            go_wp2_with fail
            refine (HA.out _ _ _ [62, 61] (by decide) at106).mono ?_
            rintro en W113 (⟨t112, j114, q115, v122, hm116, rfl, rfl, hat117, hle118, hb119⟩ | ⟨j114, er120, hm116, rfl, hj121, hb119⟩)
            rotate_left
            · rw [bd_no hm116] at hr
              go_wp2
              exact post_panic (fn := Tryz.f206) rfl (Or.inr ⟨j114, er120, hr.symm, rfl, hj121, But.trans hB107 hb119⟩)
            rw [bd_ok hm116] at hr
            have at123 := hat117
            have hB124 : But g w W113 := But.trans hB107 hb119
            have x125 := x108.but hb119 (by omega)
            have x126 := x109.but hb119 (by omega)
            have d127 := d110.but hb119 (by simp [Fr]; omega)
            have hs128 : w.heap.size + 1 ≤ W113.heap.size := Nat.le_trans hs111 hb119.size
            clear hat117 hB107 x108 x109 d110
            cases t112
            · simp only [Bool.false_eq_true, if_false] at hr
              obtain ⟨rfl, rfl, _⟩ := acc_not hm116
              clear hm116
              have onesE := Rds.all d127
              go_wp2_with (first | (refine wpList_load_row rfl 53 (.tmp 3) rfl eb26 rfl 53 _ (0, 0) (.struct _) x126 rfl rfl (by kernel_rfl) ?_) | (refine wpList_store_row rfl 53 (.tmp 2) (.tmp 56) rfl w.heap.size _ rfl rfl 53 _ x125 (by kernel_rfl) rfl onesE ?_))
              refine bodyPost_ret (results_cell_row rfl _ _ w.heap.size _ _ _ (.struct _) rfl (x125.set _) rfl rfl (by kernel_rfl)) rfl ?_
              exact Or.inl ⟨e, j114, q115, _, hr.symm, rfl, ⟨_, _, _, _, _, _, _, rfl, (d127.row (by simp [Fr]) _).in fun k hk => by simp [Fr] at hk ⊢; omega⟩, at123.row _ hsz hbz, by omega, But.row hB124 (Nat.le_refl _) _⟩
            · simp only [if_true] at hr
              obtain ⟨rfl, _⟩ := acc_yes hm116
              clear hm116
              have at129 := at123.drew
              have hB130 := But.drew hB124
              have x131 := x125.drew
              have x132 := x126.drew
              have d133 := d127.drew
              have hs134 : w.heap.size + 1 ≤ W113.drew.heap.size := hs128
              clear at123 hB124 x125 x126 d127
              go_wp2
              refine wp_region_held_drew (S := fun W => Box W eb26 53 #[e0, e1, e2, e3, e4, e5, e6]) (by kernel_rfl) ?_ (fun hHeld => ?_)
              · exact x132
              refine tkH (i := 0) (oi := ⟨some 51, _, _, _, _, _⟩) (v := ?_) ?_ ?_
              rotate_left
              · intro W hSw
                go_simp
                try with_reducible rfl
              try simp only [Act.put, List.setIfInBounds_toArray, List.set_cons_zero, List.set_cons_succ]
              refine tkH (i := 2) (oi := ⟨some 53, _, _, _, _, _⟩) (v := .agg #[e0, e1, e2, e3, e4, e5, e6]) (fun W hSw => Box.yield rfl rfl (hSw) rfl (by kernel_rfl)) ?_
              try simp only [Act.put, List.setIfInBounds_toArray, List.set_cons_zero, List.set_cons_succ]
              refine wpAnyH_ready (rs := [1]) (by kernel_rfl) (by simp) ?_
              refine AllReadyH.cons (o := ⟨some 52, _, _, _, _, _⟩) rfl (fun K hK => ?_) AllReadyH.nil
              go_simp
              refine (HS.out _ _ _ at129 (by omega)).mono ?_
              rintro en W136 (⟨x, j137, q138, v145, hm139, rfl, ⟨x0, x1, x2, x3, x4, x5, x6, rfl, hv135⟩, hat140, hle141, hb142⟩ | ⟨j137, er143, hm139, rfl, hj144, hb142⟩)
              rotate_left
              · rw [bd_no hm139] at hr
                exact post_panic (fn := Tryz.f206) rfl (Or.inr ⟨j137, er143, hr.symm, rfl, hj144, But.trans hB130 hb142⟩)
              rw [bd_ok hm139] at hr
              have at146 := hat140
              have hB147 : But g w W136 := But.trans hB130 hb142
              have x148 := x131.but hb142 (by omega)
              have x149 := x132.but hb142 (by omega)
              have d150 := d133.but hb142 (by simp [Fr]; omega)
              have hs151 : w.heap.size + 1 ≤ W136.heap.size := Nat.le_trans hs134 hb142.size
              clear hat140 hB130 x131 x132 d133
              have d152 : Rds (Fr (w.heap.size + 1)) W136 x.d [x0, x1, x2, x3, x4, x5, x6] := hv135.in fun k hk => Nat.le_trans (by assumption) hk
              clear hv135
              refine hK.out _ _ (x149) (fun hHeld => ?_)
              clear hK K
              try simp only [Act.put, List.setIfInBounds_toArray, List.set_cons_zero, List.set_cons_succ]
              refine wpAnyH_ready (rs := [3]) (by kernel_rfl) (by simp) ?_
              refine AllReadyH.cons (o := ⟨some 54, _, _, _, _, _⟩) rfl (fun K hK => ?_) AllReadyH.nil
              go_simp
              have bl155 := allocB W136 (.cells #[x0, x1, x2, x3, x4, x5, x6, e0, e1, e2, e3, e4, e5, e6] 53)
              have dl156 : Rd (Fr (w.heap.size + 1)) (W136.alloc (.cells #[x0, x1, x2, x3, x4, x5, x6, e0, e1, e2, e3, e4, e5, e6] 53)) (.l 7 (dsE [x, e])) (.slice (some ⟨W136.heap.size, 0, none⟩) 2 2) := by
                have := Rds.laidQ (sz := 7) (n := 2) 53 (d152.app (d150)) (by simp [Ex.d_len]) (show w.heap.size + 1 ≤ W136.heap.size by assumption) (by decide)
                simpa [dsE] using this
              have at157 := at146.new bl155
              have hB158 : But g w (W136.alloc (.cells #[x0, x1, x2, x3, x4, x5, x6, e0, e1, e2, e3, e4, e5, e6] 53)) := But.trans hB147 (But.of_below bl155)
              have x159 := x148.new bl155
              have x160 := x149.new bl155
              have d161 := d150.new bl155
              have d162 := d152.new bl155
              have hs163 : w.heap.size + 1 ≤ (W136.alloc (.cells #[x0, x1, x2, x3, x4, x5, x6, e0, e1, e2, e3, e4, e5, e6] 53)).heap.size := Nat.le_trans hs151 bl155.size
              clear at146 hB147 x148 x149 d150 d152
              refine hK.out _ _ (x160) (fun hHeld => ?_)
              clear hK K
              try simp only [Act.put, List.setIfInBounds_toArray, List.set_cons_zero, List.set_cons_succ]
              refine wpAnyH_ready (rs := [4]) (by kernel_rfl) (by simp) ?_
              refine AllReadyH.cons (o := ⟨some 55, _, _, _, _, _⟩) rfl (fun K hK => ?_) AllReadyH.nil
              go_simp
              refine (node_x _ _ _ _ _).mono ?_
              rintro en W164 ⟨rfl, hb165⟩
              have at166 := at157.new hb165
              have hB167 : But g w W164 := But.trans hB158 (But.of_below hb165)
              have x168 := x159.new hb165
              have x169 := x160.new hb165
              have d170 := d161.new hb165
              have d171 := d162.new hb165
              have d172 := dl156.new hb165
              have hs173 : w.heap.size + 1 ≤ W164.heap.size := Nat.le_trans hs163 hb165.size
              clear at157 hB158 x159 x160 d161 d162 dl156
              have nd174 := node_rds 10 [x, e] d172
              refine hK.out _ _ (x169) (fun hHeld => ?_)
              clear hK K
              try simp only [Act.put, List.setIfInBounds_toArray, List.set_cons_zero, List.set_cons_succ]
              refine wpAnyH_ready (rs := [5]) (by kernel_rfl) (by simp) ?_
              refine AllReadyH.cons (o := ⟨none, _, _, _, _, _⟩) rfl (fun K hK => ?_) AllReadyH.nil
              rw [if_pos (by rfl)]
              refine wp_store_row 53 (.tmp 2) (.tmp 55) rfl (w.heap.size) _ rfl rfl 53 _ (x168) (by kernel_rfl) rfl (by simp [Value.oneCell']) ?_
              refine hK.out _ _ (x169.other _ (by omega)) (fun hHeld => ?_)
              clear hK K
              try simp only [Act.put]
              refine wpAnyH_done (by kernel_rfl) ?_ _
              go_wp2
              refine bodyPost_ret (results_cell_row rfl _ _ w.heap.size _ _ _ (.struct _) rfl (x168.set _) rfl rfl (by kernel_rfl)) rfl ?_
              exact Or.inl ⟨node 10 [x, e], j137, q138, _, hr.symm, rfl, ⟨_, _, _, _, _, _, _, rfl, (nd174.row (by simp [Fr]) _).in fun k hk => by simp [Fr] at hk ⊢; omega⟩, at166.row _ hsz hbz, by omega, But.row hB167 (Nat.le_refl _) _⟩
          · simp only [if_true] at hr
            obtain ⟨rfl, _⟩ := acc_yes hm99
            clear hm99
            have at175 := at106.drew
            have hB176 := But.drew hB107
            have x177 := x108.drew
            have x178 := x109.drew
            have d179 := d110.drew
            have hs180 : w.heap.size + 1 ≤ W96.drew.heap.size := hs111
            clear at106 hB107 x108 x109 d110
            go_wp2
            refine wp_region_held_drew (S := fun W => Box W eb26 53 #[e0, e1, e2, e3, e4, e5, e6]) (by kernel_rfl) ?_ (fun hHeld => ?_)
            · exact x178
            refine tkH (i := 0) (oi := ⟨some 43, _, _, _, _, _⟩) (v := ?_) ?_ ?_
            rotate_left
            · intro W hSw
              go_simp
              try with_reducible rfl
            try simp only [Act.put, List.setIfInBounds_toArray, List.set_cons_zero, List.set_cons_succ]
            refine tkH (i := 2) (oi := ⟨some 45, _, _, _, _, _⟩) (v := .agg #[e0, e1, e2, e3, e4, e5, e6]) (fun W hSw => Box.yield rfl rfl (hSw) rfl (by kernel_rfl)) ?_
            try simp only [Act.put, List.setIfInBounds_toArray, List.set_cons_zero, List.set_cons_succ]
            refine wpAnyH_ready (rs := [1]) (by kernel_rfl) (by simp) ?_
            refine AllReadyH.cons (o := ⟨some 44, _, _, _, _, _⟩) rfl (fun K hK => ?_) AllReadyH.nil
            go_simp
            refine (HS.out _ _ _ at175 (by omega)).mono ?_
            rintro en W182 (⟨x, j183, q184, v191, hm185, rfl, ⟨x0, x1, x2, x3, x4, x5, x6, rfl, hv181⟩, hat186, hle187, hb188⟩ | ⟨j183, er189, hm185, rfl, hj190, hb188⟩)
            rotate_left
            · rw [bd_no hm185] at hr
              exact post_panic (fn := Tryz.f206) rfl (Or.inr ⟨j183, er189, hr.symm, rfl, hj190, But.trans hB176 hb188⟩)
            rw [bd_ok hm185] at hr
            have at192 := hat186
            have hB193 : But g w W182 := But.trans hB176 hb188
            have x194 := x177.but hb188 (by omega)
            have x195 := x178.but hb188 (by omega)
            have d196 := d179.but hb188 (by simp [Fr]; omega)
            have hs197 : w.heap.size + 1 ≤ W182.heap.size := Nat.le_trans hs180 hb188.size
            clear hat186 hB176 x177 x178 d179
            have d198 : Rds (Fr (w.heap.size + 1)) W182 x.d [x0, x1, x2, x3, x4, x5, x6] := hv181.in fun k hk => Nat.le_trans (by assumption) hk
            clear hv181
            refine hK.out _ _ (x195) (fun hHeld => ?_)
            clear hK K
            try simp only [Act.put, List.setIfInBounds_toArray, List.set_cons_zero, List.set_cons_succ]
            refine wpAnyH_ready (rs := [3]) (by kernel_rfl) (by simp) ?_
            refine AllReadyH.cons (o := ⟨some 46, _, _, _, _, _⟩) rfl (fun K hK => ?_) AllReadyH.nil
            go_simp
            have bl201 := allocB W182 (.cells #[x0, x1, x2, x3, x4, x5, x6, e0, e1, e2, e3, e4, e5, e6] 53)
            have dl202 : Rd (Fr (w.heap.size + 1)) (W182.alloc (.cells #[x0, x1, x2, x3, x4, x5, x6, e0, e1, e2, e3, e4, e5, e6] 53)) (.l 7 (dsE [x, e])) (.slice (some ⟨W182.heap.size, 0, none⟩) 2 2) := by
              have := Rds.laidQ (sz := 7) (n := 2) 53 (d198.app (d196)) (by simp [Ex.d_len]) (show w.heap.size + 1 ≤ W182.heap.size by assumption) (by decide)
              simpa [dsE] using this
            have at203 := at192.new bl201
            have hB204 : But g w (W182.alloc (.cells #[x0, x1, x2, x3, x4, x5, x6, e0, e1, e2, e3, e4, e5, e6] 53)) := But.trans hB193 (But.of_below bl201)
            have x205 := x194.new bl201
            have x206 := x195.new bl201
            have d207 := d196.new bl201
            have d208 := d198.new bl201
            have hs209 : w.heap.size + 1 ≤ (W182.alloc (.cells #[x0, x1, x2, x3, x4, x5, x6, e0, e1, e2, e3, e4, e5, e6] 53)).heap.size := Nat.le_trans hs197 bl201.size
            clear at192 hB193 x194 x195 d196 d198
            refine hK.out _ _ (x206) (fun hHeld => ?_)
            clear hK K
            try simp only [Act.put, List.setIfInBounds_toArray, List.set_cons_zero, List.set_cons_succ]
            refine wpAnyH_ready (rs := [4]) (by kernel_rfl) (by simp) ?_
            refine AllReadyH.cons (o := ⟨some 47, _, _, _, _, _⟩) rfl (fun K hK => ?_) AllReadyH.nil
            go_simp
            refine (node_x _ _ _ _ _).mono ?_
            rintro en W210 ⟨rfl, hb211⟩
            have at212 := at203.new hb211
            have hB213 : But g w W210 := But.trans hB204 (But.of_below hb211)
            have x214 := x205.new hb211
            have x215 := x206.new hb211
            have d216 := d207.new hb211
            have d217 := d208.new hb211
            have d218 := dl202.new hb211
            have hs219 : w.heap.size + 1 ≤ W210.heap.size := Nat.le_trans hs209 hb211.size
            clear at203 hB204 x205 x206 d207 d208 dl202
            have nd220 := node_rds 9 [x, e] d218
            refine hK.out _ _ (x215) (fun hHeld => ?_)
            clear hK K
            try simp only [Act.put, List.setIfInBounds_toArray, List.set_cons_zero, List.set_cons_succ]
            refine wpAnyH_ready (rs := [5]) (by kernel_rfl) (by simp) ?_
            refine AllReadyH.cons (o := ⟨none, _, _, _, _, _⟩) rfl (fun K hK => ?_) AllReadyH.nil
            rw [if_pos (by rfl)]
            refine wp_store_row 53 (.tmp 2) (.tmp 47) rfl (w.heap.size) _ rfl rfl 53 _ (x214) (by kernel_rfl) rfl (by simp [Value.oneCell']) ?_
            refine hK.out _ _ (x215.other _ (by omega)) (fun hHeld => ?_)
            clear hK K
            try simp only [Act.put]
            refine wpAnyH_done (by kernel_rfl) ?_ _
            go_wp2
            refine bodyPost_ret (results_cell_row rfl _ _ w.heap.size _ _ _ (.struct _) rfl (x214.set _) rfl rfl (by kernel_rfl)) rfl ?_
            exact Or.inl ⟨node 9 [x, e], j183, q184, _, hr.symm, rfl, ⟨_, _, _, _, _, _, _, rfl, (nd220.row (by simp [Fr]) _).in fun k hk => by simp [Fr] at hk ⊢; omega⟩, at212.row _ hsz hbz, by omega, But.row hB213 (Nat.le_refl _) _⟩
        · simp only [if_true] at hr
          obtain ⟨rfl, _⟩ := acc_yes hm82
          clear hm82
          have at221 := at89.drew
          have hB222 := But.drew hB90
          have x223 := x91.drew
          have x224 := x92.drew
          have d225 := d93.drew
          have hs226 : w.heap.size + 1 ≤ W79.drew.heap.size := hs94
          clear at89 hB90 x91 x92 d93
          go_wp2
          refine wp_region_held_drew (S := fun W => Box W eb26 53 #[e0, e1, e2, e3, e4, e5, e6]) (by kernel_rfl) ?_ (fun hHeld => ?_)
          · exact x224
          refine tkH (i := 0) (oi := ⟨some 35, _, _, _, _, _⟩) (v := .agg #[e0, e1, e2, e3, e4, e5, e6]) (fun W hSw => Box.yield rfl rfl (hSw) rfl (by kernel_rfl)) ?_
          try simp only [Act.put, List.setIfInBounds_toArray, List.set_cons_zero, List.set_cons_succ]
          refine tkH (i := 1) (oi := ⟨some 36, _, _, _, _, _⟩) (v := ?_) ?_ ?_
          rotate_left
          · intro W hSw
            go_simp
            try with_reducible rfl
          try simp only [Act.put, List.setIfInBounds_toArray, List.set_cons_zero, List.set_cons_succ]
          refine wpAnyH_ready (rs := [2]) (by kernel_rfl) (by simp) ?_
          refine AllReadyH.cons (o := ⟨some 37, _, _, _, _, _⟩) rfl (fun K hK => ?_) AllReadyH.nil
          go_simp
          refine (HS.out _ _ _ at221 (by omega)).mono ?_
          rintro en W228 (⟨x, j229, q230, v237, hm231, rfl, ⟨x0, x1, x2, x3, x4, x5, x6, rfl, hv227⟩, hat232, hle233, hb234⟩ | ⟨j229, er235, hm231, rfl, hj236, hb234⟩)
          rotate_left
          · rw [bd_no hm231] at hr
            exact post_panic (fn := Tryz.f206) rfl (Or.inr ⟨j229, er235, hr.symm, rfl, hj236, But.trans hB222 hb234⟩)
          rw [bd_ok hm231] at hr
          have at238 := hat232
          have hB239 : But g w W228 := But.trans hB222 hb234
          have x240 := x223.but hb234 (by omega)
          have x241 := x224.but hb234 (by omega)
          have d242 := d225.but hb234 (by simp [Fr]; omega)
          have hs243 : w.heap.size + 1 ≤ W228.heap.size := Nat.le_trans hs226 hb234.size
          clear hat232 hB222 x223 x224 d225
          have d244 : Rds (Fr (w.heap.size + 1)) W228 x.d [x0, x1, x2, x3, x4, x5, x6] := hv227.in fun k hk => Nat.le_trans (by assumption) hk
          clear hv227
          refine hK.out _ _ (x241) (fun hHeld => ?_)
          clear hK K
          try simp only [Act.put, List.setIfInBounds_toArray, List.set_cons_zero, List.set_cons_succ]
          refine wpAnyH_ready (rs := [3]) (by kernel_rfl) (by simp) ?_
          refine AllReadyH.cons (o := ⟨some 38, _, _, _, _, _⟩) rfl (fun K hK => ?_) AllReadyH.nil
          go_simp
          have bl247 := allocB W228 (.cells #[e0, e1, e2, e3, e4, e5, e6, x0, x1, x2, x3, x4, x5, x6] 53)
          have dl248 : Rd (Fr (w.heap.size + 1)) (W228.alloc (.cells #[e0, e1, e2, e3, e4, e5, e6, x0, x1, x2, x3, x4, x5, x6] 53)) (.l 7 (dsE [e, x])) (.slice (some ⟨W228.heap.size, 0, none⟩) 2 2) := by
            have := Rds.laidQ (sz := 7) (n := 2) 53 (d242.app (d244)) (by simp [Ex.d_len]) (show w.heap.size + 1 ≤ W228.heap.size by assumption) (by decide)
            simpa [dsE] using this
          have at249 := at238.new bl247
          have hB250 : But g w (W228.alloc (.cells #[e0, e1, e2, e3, e4, e5, e6, x0, x1, x2, x3, x4, x5, x6] 53)) := But.trans hB239 (But.of_below bl247)
          have x251 := x240.new bl247
          have x252 := x241.new bl247
          have d253 := d242.new bl247
          have d254 := d244.new bl247
          have hs255 : w.heap.size + 1 ≤ (W228.alloc (.cells #[e0, e1, e2, e3, e4, e5, e6, x0, x1, x2, x3, x4, x5, x6] 53)).heap.size := Nat.le_trans hs243 bl247.size
          clear at238 hB239 x240 x241 d242 d244
          refine hK.out _ _ (x252) (fun hHeld => ?_)
          clear hK K
          try simp only [Act.put, List.setIfInBounds_toArray, List.set_cons_zero, List.set_cons_succ]
          refine wpAnyH_ready (rs := [4]) (by kernel_rfl) (by simp) ?_
          refine AllReadyH.cons (o := ⟨some 39, _, _, _, _, _⟩) rfl (fun K hK => ?_) AllReadyH.nil
          go_simp
          refine (node_x _ _ _ _ _).mono ?_
          rintro en W256 ⟨rfl, hb257⟩
          have at258 := at249.new hb257
          have hB259 : But g w W256 := But.trans hB250 (But.of_below hb257)
          have x260 := x251.new hb257
          have x261 := x252.new hb257
          have d262 := d253.new hb257
          have d263 := d254.new hb257
          have d264 := dl248.new hb257
          have hs265 : w.heap.size + 1 ≤ W256.heap.size := Nat.le_trans hs255 hb257.size
          clear at249 hB250 x251 x252 d253 d254 dl248
          have nd266 := node_rds 10 [e, x] d264
          refine hK.out _ _ (x261) (fun hHeld => ?_)
          clear hK K
          try simp only [Act.put, List.setIfInBounds_toArray, List.set_cons_zero, List.set_cons_succ]
          refine wpAnyH_ready (rs := [5]) (by kernel_rfl) (by simp) ?_
          refine AllReadyH.cons (o := ⟨none, _, _, _, _, _⟩) rfl (fun K hK => ?_) AllReadyH.nil
          rw [if_pos (by rfl)]
          refine wp_store_row 53 (.tmp 2) (.tmp 39) rfl (w.heap.size) _ rfl rfl 53 _ (x260) (by kernel_rfl) rfl (by simp [Value.oneCell']) ?_
          refine hK.out _ _ (x261.other _ (by omega)) (fun hHeld => ?_)
          clear hK K
          try simp only [Act.put]
          refine wpAnyH_done (by kernel_rfl) ?_ _
          go_wp2
          refine bodyPost_ret (results_cell_row rfl _ _ w.heap.size _ _ _ (.struct _) rfl (x260.set _) rfl rfl (by kernel_rfl)) rfl ?_
          exact Or.inl ⟨node 10 [e, x], j229, q230, _, hr.symm, rfl, ⟨_, _, _, _, _, _, _, rfl, (nd266.row (by simp [Fr]) _).in fun k hk => by simp [Fr] at hk ⊢; omega⟩, at258.row _ hsz hbz, by omega, But.row hB259 (Nat.le_refl _) _⟩
      · simp only [if_true] at hr
        obtain ⟨rfl, _⟩ := acc_yes hm65
        clear hm65
        have at267 := at72.drew
        have hB268 := But.drew hB73
        have x269 := x74.drew
        have x270 := x75.drew
        have d271 := d76.drew
        have hs272 : w.heap.size + 1 ≤ W62.drew.heap.size := hs77
        clear at72 hB73 x74 x75 d76
        go_wp2
        refine wp_region_held_drew (S := fun W => Box W eb26 53 #[e0, e1, e2, e3, e4, e5, e6]) (by kernel_rfl) ?_ (fun hHeld => ?_)
        · exact x270
        refine tkH (i := 0) (oi := ⟨some 27, _, _, _, _, _⟩) (v := .agg #[e0, e1, e2, e3, e4, e5, e6]) (fun W hSw => Box.yield rfl rfl (hSw) rfl (by kernel_rfl)) ?_
        try simp only [Act.put, List.setIfInBounds_toArray, List.set_cons_zero, List.set_cons_succ]
        refine tkH (i := 1) (oi := ⟨some 28, _, _, _, _, _⟩) (v := ?_) ?_ ?_
        rotate_left
        · intro W hSw
          go_simp
          try with_reducible rfl
        try simp only [Act.put, List.setIfInBounds_toArray, List.set_cons_zero, List.set_cons_succ]
        refine wpAnyH_ready (rs := [2]) (by kernel_rfl) (by simp) ?_
        refine AllReadyH.cons (o := ⟨some 29, _, _, _, _, _⟩) rfl (fun K hK => ?_) AllReadyH.nil
        go_simp
        refine (HS.out _ _ _ at267 (by omega)).mono ?_
        rintro en W274 (⟨x, j275, q276, v283, hm277, rfl, ⟨x0, x1, x2, x3, x4, x5, x6, rfl, hv273⟩, hat278, hle279, hb280⟩ | ⟨j275, er281, hm277, rfl, hj282, hb280⟩)
        rotate_left
        · rw [bd_no hm277] at hr
          exact post_panic (fn := Tryz.f206) rfl (Or.inr ⟨j275, er281, hr.symm, rfl, hj282, But.trans hB268 hb280⟩)
        rw [bd_ok hm277] at hr
        have at284 := hat278
        have hB285 : But g w W274 := But.trans hB268 hb280
        have x286 := x269.but hb280 (by omega)
        have x287 := x270.but hb280 (by omega)
        have d288 := d271.but hb280 (by simp [Fr]; omega)
        have hs289 : w.heap.size + 1 ≤ W274.heap.size := Nat.le_trans hs272 hb280.size
        clear hat278 hB268 x269 x270 d271
        have d290 : Rds (Fr (w.heap.size + 1)) W274 x.d [x0, x1, x2, x3, x4, x5, x6] := hv273.in fun k hk => Nat.le_trans (by assumption) hk
        clear hv273
        refine hK.out _ _ (x287) (fun hHeld => ?_)
        clear hK K
        try simp only [Act.put, List.setIfInBounds_toArray, List.set_cons_zero, List.set_cons_succ]
        refine wpAnyH_ready (rs := [3]) (by kernel_rfl) (by simp) ?_
        refine AllReadyH.cons (o := ⟨some 30, _, _, _, _, _⟩) rfl (fun K hK => ?_) AllReadyH.nil
        go_simp
        have bl293 := allocB W274 (.cells #[e0, e1, e2, e3, e4, e5, e6, x0, x1, x2, x3, x4, x5, x6] 53)
        have dl294 : Rd (Fr (w.heap.size + 1)) (W274.alloc (.cells #[e0, e1, e2, e3, e4, e5, e6, x0, x1, x2, x3, x4, x5, x6] 53)) (.l 7 (dsE [e, x])) (.slice (some ⟨W274.heap.size, 0, none⟩) 2 2) := by
          have := Rds.laidQ (sz := 7) (n := 2) 53 (d288.app (d290)) (by simp [Ex.d_len]) (show w.heap.size + 1 ≤ W274.heap.size by assumption) (by decide)
          simpa [dsE] using this
        have at295 := at284.new bl293
        have hB296 : But g w (W274.alloc (.cells #[e0, e1, e2, e3, e4, e5, e6, x0, x1, x2, x3, x4, x5, x6] 53)) := But.trans hB285 (But.of_below bl293)
        have x297 := x286.new bl293
        have x298 := x287.new bl293
        have d299 := d288.new bl293
        have d300 := d290.new bl293
        have hs301 : w.heap.size + 1 ≤ (W274.alloc (.cells #[e0, e1, e2, e3, e4, e5, e6, x0, x1, x2, x3, x4, x5, x6] 53)).heap.size := Nat.le_trans hs289 bl293.size
        clear at284 hB285 x286 x287 d288 d290
        refine hK.out _ _ (x298) (fun hHeld => ?_)
        clear hK K
        try simp only [Act.put, List.setIfInBounds_toArray, List.set_cons_zero, List.set_cons_succ]
        refine wpAnyH_ready (rs := [4]) (by kernel_rfl) (by simp) ?_
        refine AllReadyH.cons (o := ⟨some 31, _, _, _, _, _⟩) rfl (fun K hK => ?_) AllReadyH.nil
        go_simp
        refine (node_x _ _ _ _ _).mono ?_
        rintro en W302 ⟨rfl, hb303⟩
        have at304 := at295.new hb303
        have hB305 : But g w W302 := But.trans hB296 (But.of_below hb303)
        have x306 := x297.new hb303
        have x307 := x298.new hb303
        have d308 := d299.new hb303
        have d309 := d300.new hb303
        have d310 := dl294.new hb303
        have hs311 : w.heap.size + 1 ≤ W302.heap.size := Nat.le_trans hs301 hb303.size
        clear at295 hB296 x297 x298 d299 d300 dl294
        have nd312 := node_rds 9 [e, x] d310
        refine hK.out _ _ (x307) (fun hHeld => ?_)
        clear hK K
        try simp only [Act.put, List.setIfInBounds_toArray, List.set_cons_zero, List.set_cons_succ]
        refine wpAnyH_ready (rs := [5]) (by kernel_rfl) (by simp) ?_
        refine AllReadyH.cons (o := ⟨none, _, _, _, _, _⟩) rfl (fun K hK => ?_) AllReadyH.nil
        rw [if_pos (by rfl)]
        refine wp_store_row 53 (.tmp 2) (.tmp 31) rfl (w.heap.size) _ rfl rfl 53 _ (x306) (by kernel_rfl) rfl (by simp [Value.oneCell']) ?_
        refine hK.out _ _ (x307.other _ (by omega)) (fun hHeld => ?_)
        clear hK K
        try simp only [Act.put]
        refine wpAnyH_done (by kernel_rfl) ?_ _
        go_wp2
        refine bodyPost_ret (results_cell_row rfl _ _ w.heap.size _ _ _ (.struct _) rfl (x306.set _) rfl rfl (by kernel_rfl)) rfl ?_
        exact Or.inl ⟨node 9 [e, x], j275, q276, _, hr.symm, rfl, ⟨_, _, _, _, _, _, _, rfl, (nd312.row (by simp [Fr]) _).in fun k hk => by simp [Fr] at hk ⊢; omega⟩, at304.row _ hsz hbz, by omega, But.row hB305 (Nat.le_refl _) _⟩
    · simp only [if_true] at hr
      obtain ⟨rfl, _⟩ := acc_yes hm48
      clear hm48
      have at313 := at55.drew
      have hB314 := But.drew hB56
      have x315 := x57.drew
      have x316 := x58.drew
      have d317 := d59.drew
      have hs318 : w.heap.size + 1 ≤ W45.drew.heap.size := hs60
      clear at55 hB56 x57 x58 d59
      go_wp2
      refine wp_region_held_drew (S := fun W => Box W eb26 53 #[e0, e1, e2, e3, e4, e5, e6]) (by kernel_rfl) ?_ (fun hHeld => ?_)
      · exact x316
      refine tkH (i := 0) (oi := ⟨some 17, _, _, _, _, _⟩) (v := .agg #[e0, e1, e2, e3, e4, e5, e6]) (fun W hSw => Box.yield rfl rfl (hSw) rfl (by kernel_rfl)) ?_
      try simp only [Act.put, List.setIfInBounds_toArray, List.set_cons_zero, List.set_cons_succ]
      refine tkH (i := 1) (oi := ⟨some 18, _, _, _, _, _⟩) (v := ?_) ?_ ?_
      rotate_left
      · intro W hSw
        go_simp
        try with_reducible rfl
      try simp only [Act.put, List.setIfInBounds_toArray, List.set_cons_zero, List.set_cons_succ]
      refine wpAnyH_ready (rs := [2]) (by kernel_rfl) (by simp) ?_
      refine AllReadyH.cons (o := ⟨some 19, _, _, _, _, _⟩) rfl (fun K hK => ?_) AllReadyH.nil
      go_simp
      refine (HS.out _ _ _ at313 (by omega)).mono ?_
      rintro en W320 (⟨x, j321, q322, v329, hm323, rfl, ⟨x0, x1, x2, x3, x4, x5, x6, rfl, hv319⟩, hat324, hle325, hb326⟩ | ⟨j321, er327, hm323, rfl, hj328, hb326⟩)
      rotate_left
      · rw [bd_no hm323] at hr
        exact post_panic (fn := Tryz.f206) rfl (Or.inr ⟨j321, er327, hr.symm, rfl, hj328, But.trans hB314 hb326⟩)
      rw [bd_ok hm323] at hr
      have at330 := hat324
      have hB331 : But g w W320 := But.trans hB314 hb326
      have x332 := x315.but hb326 (by omega)
      have x333 := x316.but hb326 (by omega)
      have d334 := d317.but hb326 (by simp [Fr]; omega)
      have hs335 : w.heap.size + 1 ≤ W320.heap.size := Nat.le_trans hs318 hb326.size
      clear hat324 hB314 x315 x316 d317
      have d336 : Rds (Fr (w.heap.size + 1)) W320 x.d [x0, x1, x2, x3, x4, x5, x6] := hv319.in fun k hk => Nat.le_trans (by assumption) hk
      clear hv319
      refine hK.out _ _ (x333) (fun hHeld => ?_)
      clear hK K
      try simp only [Act.put, List.setIfInBounds_toArray, List.set_cons_zero, List.set_cons_succ]
      refine wpAnyH_ready (rs := [3]) (by kernel_rfl) (by simp) ?_
      refine AllReadyH.cons (o := ⟨some 20, _, _, _, _, _⟩) rfl (fun K hK => ?_) AllReadyH.nil
      go_simp
      have bl339 := allocB W320 (.cells #[e0, e1, e2, e3, e4, e5, e6, x0, x1, x2, x3, x4, x5, x6] 53)
      have dl340 : Rd (Fr (w.heap.size + 1)) (W320.alloc (.cells #[e0, e1, e2, e3, e4, e5, e6, x0, x1, x2, x3, x4, x5, x6] 53)) (.l 7 (dsE [e, x])) (.slice (some ⟨W320.heap.size, 0, none⟩) 2 2) := by
        have := Rds.laidQ (sz := 7) (n := 2) 53 (d334.app (d336)) (by simp [Ex.d_len]) (show w.heap.size + 1 ≤ W320.heap.size by assumption) (by decide)
        simpa [dsE] using this
      have at341 := at330.new bl339
      have hB342 : But g w (W320.alloc (.cells #[e0, e1, e2, e3, e4, e5, e6, x0, x1, x2, x3, x4, x5, x6] 53)) := But.trans hB331 (But.of_below bl339)
      have x343 := x332.new bl339
      have x344 := x333.new bl339
      have d345 := d334.new bl339
      have d346 := d336.new bl339
      have hs347 : w.heap.size + 1 ≤ (W320.alloc (.cells #[e0, e1, e2, e3, e4, e5, e6, x0, x1, x2, x3, x4, x5, x6] 53)).heap.size := Nat.le_trans hs335 bl339.size
      clear at330 hB331 x332 x333 d334 d336
      refine hK.out _ _ (x344) (fun hHeld => ?_)
      clear hK K
      try simp only [Act.put, List.setIfInBounds_toArray, List.set_cons_zero, List.set_cons_succ]
      refine wpAnyH_ready (rs := [4]) (by kernel_rfl) (by simp) ?_
      refine AllReadyH.cons (o := ⟨some 21, _, _, _, _, _⟩) rfl (fun K hK => ?_) AllReadyH.nil
      go_simp
      refine (node_x _ _ _ _ _).mono ?_
      rintro en W348 ⟨rfl, hb349⟩
      have at350 := at341.new hb349
      have hB351 : But g w W348 := But.trans hB342 (But.of_below hb349)
      have x352 := x343.new hb349
      have x353 := x344.new hb349
      have d354 := d345.new hb349
      have d355 := d346.new hb349
      have d356 := dl340.new hb349
      have hs357 : w.heap.size + 1 ≤ W348.heap.size := Nat.le_trans hs347 hb349.size
      clear at341 hB342 x343 x344 d345 d346 dl340
      have nd358 := node_rds 8 [e, x] d356
      refine hK.out _ _ (x353) (fun hHeld => ?_)
      clear hK K
      try simp only [Act.put, List.setIfInBounds_toArray, List.set_cons_zero, List.set_cons_succ]
      refine wpAnyH_ready (rs := [5]) (by kernel_rfl) (by simp) ?_
      refine AllReadyH.cons (o := ⟨some 22, _, _, _, _, _⟩) rfl (fun K hK => ?_) AllReadyH.nil
      go_simp
      have bl359 := allocB W348 (.cells #[.int .i64 8, .int .i64 0, .bool false, .slice none 0 0, .slice none 0 0, .string ⟨#[]⟩, .slice (some ⟨W320.heap.size, 0, none⟩) 2 2] 53)
      have dl360 : Rd (Fr (w.heap.size + 1)) (W348.alloc (.cells #[.int .i64 8, .int .i64 0, .bool false, .slice none 0 0, .slice none 0 0, .string ⟨#[]⟩, .slice (some ⟨W320.heap.size, 0, none⟩) 2 2] 53)) (.l 7 (dsE [node 8 [e, x]])) (.slice (some ⟨W348.heap.size, 0, none⟩) 1 1) := by
        have := Rds.laidQ (sz := 7) (n := 1) 53 nd358 (by simp [Ex.d_len]) (show w.heap.size + 1 ≤ W348.heap.size by assumption) (by decide)
        simpa [dsE] using this
      have at361 := at350.new bl359
      have hB362 : But g w (W348.alloc (.cells #[.int .i64 8, .int .i64 0, .bool false, .slice none 0 0, .slice none 0 0, .string ⟨#[]⟩, .slice (some ⟨W320.heap.size, 0, none⟩) 2 2] 53)) := But.trans hB351 (But.of_below bl359)
      have x363 := x352.new bl359
      have x364 := x353.new bl359
      have d365 := nd358.new bl359
      have hs366 : w.heap.size + 1 ≤ (W348.alloc (.cells #[.int .i64 8, .int .i64 0, .bool false, .slice none 0 0, .slice none 0 0, .string ⟨#[]⟩, .slice (some ⟨W320.heap.size, 0, none⟩) 2 2] 53)).heap.size := Nat.le_trans hs357 bl359.size
      clear at350 hB351 x352 x353 nd358
      refine hK.out _ _ (x364) (fun hHeld => ?_)
      clear hK K
      try simp only [Act.put, List.setIfInBounds_toArray, List.set_cons_zero, List.set_cons_succ]
      refine wpAnyH_ready (rs := [6]) (by kernel_rfl) (by simp) ?_
      refine AllReadyH.cons (o := ⟨some 23, _, _, _, _, _⟩) rfl (fun K hK => ?_) AllReadyH.nil
      go_simp
      refine (node_x _ _ _ _ _).mono ?_
      rintro en W367 ⟨rfl, hb368⟩
      have at369 := at361.new hb368
      have hB370 : But g w W367 := But.trans hB362 (But.of_below hb368)
      have x371 := x363.new hb368
      have x372 := x364.new hb368
      have d373 := dl360.new hb368
      have hs374 : w.heap.size + 1 ≤ W367.heap.size := Nat.le_trans hs366 hb368.size
      clear at361 hB362 x363 x364 dl360
      have nd375 := node_rds 5 [node 8 [e, x]] d373
      refine hK.out _ _ (x372) (fun hHeld => ?_)
      clear hK K
      try simp only [Act.put, List.setIfInBounds_toArray, List.set_cons_zero, List.set_cons_succ]
      refine wpAnyH_ready (rs := [7]) (by kernel_rfl) (by simp) ?_
      refine AllReadyH.cons (o := ⟨none, _, _, _, _, _⟩) rfl (fun K hK => ?_) AllReadyH.nil
      rw [if_pos (by rfl)]
      refine wp_store_row 53 (.tmp 2) (.tmp 23) rfl (w.heap.size) _ rfl rfl 53 _ (x371) (by kernel_rfl) rfl (by simp [Value.oneCell']) ?_
      refine hK.out _ _ (x372.other _ (by omega)) (fun hHeld => ?_)
      clear hK K
      try simp only [Act.put]
      refine wpAnyH_done (by kernel_rfl) ?_ _
      go_wp2
      refine bodyPost_ret (results_cell_row rfl _ _ w.heap.size _ _ _ (.struct _) rfl (x371.set _) rfl rfl (by kernel_rfl)) rfl ?_
      exact Or.inl ⟨node 5 [node 8 [e, x]], j321, q322, _, hr.symm, rfl, ⟨_, _, _, _, _, _, _, rfl, (nd375.row (by simp [Fr]) _).in fun k hk => by simp [Fr] at hk ⊢; omega⟩, at369.row _ hsz hbz, by omega, But.row hB370 (Nat.le_refl _) _⟩
  · simp only [if_true] at hr
    obtain ⟨rfl, _⟩ := acc_yes hm31
    clear hm31
    have at376 := at38.drew
    have hB377 := But.drew hB39
    have x378 := x40.drew
    have x379 := x41.drew
    have d380 := d42.drew
    have hs381 : w.heap.size + 1 ≤ W28.drew.heap.size := hs43
    clear at38 hB39 x40 x41 d42
    go_wp2
    refine wp_region_held_drew (S := fun W => Box W eb26 53 #[e0, e1, e2, e3, e4, e5, e6]) (by kernel_rfl) ?_ (fun hHeld => ?_)
    · exact x379
    refine tkH (i := 0) (oi := ⟨some 9, _, _, _, _, _⟩) (v := .agg #[e0, e1, e2, e3, e4, e5, e6]) (fun W hSw => Box.yield rfl rfl (hSw) rfl (by kernel_rfl)) ?_
    try simp only [Act.put, List.setIfInBounds_toArray, List.set_cons_zero, List.set_cons_succ]
    refine tkH (i := 1) (oi := ⟨some 10, _, _, _, _, _⟩) (v := ?_) ?_ ?_
    rotate_left
    · intro W hSw
      go_simp
      try with_reducible rfl
    try simp only [Act.put, List.setIfInBounds_toArray, List.set_cons_zero, List.set_cons_succ]
    refine wpAnyH_ready (rs := [2]) (by kernel_rfl) (by simp) ?_
    refine AllReadyH.cons (o := ⟨some 11, _, _, _, _, _⟩) rfl (fun K hK => ?_) AllReadyH.nil
    go_simp
    refine (HS.out _ _ _ at376 (by omega)).mono ?_
    rintro en W383 (⟨x, j384, q385, v392, hm386, rfl, ⟨x0, x1, x2, x3, x4, x5, x6, rfl, hv382⟩, hat387, hle388, hb389⟩ | ⟨j384, er390, hm386, rfl, hj391, hb389⟩)
    rotate_left
    · rw [bd_no hm386] at hr
      exact post_panic (fn := Tryz.f206) rfl (Or.inr ⟨j384, er390, hr.symm, rfl, hj391, But.trans hB377 hb389⟩)
    rw [bd_ok hm386] at hr
    have at393 := hat387
    have hB394 : But g w W383 := But.trans hB377 hb389
    have x395 := x378.but hb389 (by omega)
    have x396 := x379.but hb389 (by omega)
    have d397 := d380.but hb389 (by simp [Fr]; omega)
    have hs398 : w.heap.size + 1 ≤ W383.heap.size := Nat.le_trans hs381 hb389.size
    clear hat387 hB377 x378 x379 d380
    have d399 : Rds (Fr (w.heap.size + 1)) W383 x.d [x0, x1, x2, x3, x4, x5, x6] := hv382.in fun k hk => Nat.le_trans (by assumption) hk
    clear hv382
    refine hK.out _ _ (x396) (fun hHeld => ?_)
    clear hK K
    try simp only [Act.put, List.setIfInBounds_toArray, List.set_cons_zero, List.set_cons_succ]
    refine wpAnyH_ready (rs := [3]) (by kernel_rfl) (by simp) ?_
    refine AllReadyH.cons (o := ⟨some 12, _, _, _, _, _⟩) rfl (fun K hK => ?_) AllReadyH.nil
    go_simp
    have bl402 := allocB W383 (.cells #[e0, e1, e2, e3, e4, e5, e6, x0, x1, x2, x3, x4, x5, x6] 53)
    have dl403 : Rd (Fr (w.heap.size + 1)) (W383.alloc (.cells #[e0, e1, e2, e3, e4, e5, e6, x0, x1, x2, x3, x4, x5, x6] 53)) (.l 7 (dsE [e, x])) (.slice (some ⟨W383.heap.size, 0, none⟩) 2 2) := by
      have := Rds.laidQ (sz := 7) (n := 2) 53 (d397.app (d399)) (by simp [Ex.d_len]) (show w.heap.size + 1 ≤ W383.heap.size by assumption) (by decide)
      simpa [dsE] using this
    have at404 := at393.new bl402
    have hB405 : But g w (W383.alloc (.cells #[e0, e1, e2, e3, e4, e5, e6, x0, x1, x2, x3, x4, x5, x6] 53)) := But.trans hB394 (But.of_below bl402)
    have x406 := x395.new bl402
    have x407 := x396.new bl402
    have d408 := d397.new bl402
    have d409 := d399.new bl402
    have hs410 : w.heap.size + 1 ≤ (W383.alloc (.cells #[e0, e1, e2, e3, e4, e5, e6, x0, x1, x2, x3, x4, x5, x6] 53)).heap.size := Nat.le_trans hs398 bl402.size
    clear at393 hB394 x395 x396 d397 d399
    refine hK.out _ _ (x407) (fun hHeld => ?_)
    clear hK K
    try simp only [Act.put, List.setIfInBounds_toArray, List.set_cons_zero, List.set_cons_succ]
    refine wpAnyH_ready (rs := [4]) (by kernel_rfl) (by simp) ?_
    refine AllReadyH.cons (o := ⟨some 13, _, _, _, _, _⟩) rfl (fun K hK => ?_) AllReadyH.nil
    go_simp
    refine (node_x _ _ _ _ _).mono ?_
    rintro en W411 ⟨rfl, hb412⟩
    have at413 := at404.new hb412
    have hB414 : But g w W411 := But.trans hB405 (But.of_below hb412)
    have x415 := x406.new hb412
    have x416 := x407.new hb412
    have d417 := d408.new hb412
    have d418 := d409.new hb412
    have d419 := dl403.new hb412
    have hs420 : w.heap.size + 1 ≤ W411.heap.size := Nat.le_trans hs410 hb412.size
    clear at404 hB405 x406 x407 d408 d409 dl403
    have nd421 := node_rds 8 [e, x] d419
    refine hK.out _ _ (x416) (fun hHeld => ?_)
    clear hK K
    try simp only [Act.put, List.setIfInBounds_toArray, List.set_cons_zero, List.set_cons_succ]
    refine wpAnyH_ready (rs := [5]) (by kernel_rfl) (by simp) ?_
    refine AllReadyH.cons (o := ⟨none, _, _, _, _, _⟩) rfl (fun K hK => ?_) AllReadyH.nil
    rw [if_pos (by rfl)]
    refine wp_store_row 53 (.tmp 2) (.tmp 13) rfl (w.heap.size) _ rfl rfl 53 _ (x415) (by kernel_rfl) rfl (by simp [Value.oneCell']) ?_
    refine hK.out _ _ (x416.other _ (by omega)) (fun hHeld => ?_)
    clear hK K
    try simp only [Act.put]
    refine wpAnyH_done (by kernel_rfl) ?_ _
    go_wp2
    refine bodyPost_ret (results_cell_row rfl _ _ w.heap.size _ _ _ (.struct _) rfl (x415.set _) rfl rfl (by kernel_rfl)) rfl ?_
    exact Or.inl ⟨node 8 [e, x], j384, q385, _, hr.symm, rfl, ⟨_, _, _, _, _, _, _, rfl, (nd421.row (by simp [Fr]) _).in fun k hk => by simp [Fr] at hk ⊢; omega⟩, at413.row _ hsz hbz, by omega, But.row hB414 (Nat.le_refl _) _⟩
end Ps
end Go.Proofs.YtggdhgppclnckaaGreatDoor
