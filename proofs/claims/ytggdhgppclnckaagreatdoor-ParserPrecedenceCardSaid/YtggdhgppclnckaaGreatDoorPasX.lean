/-
  Types.
-/
import Derived.Test.YtggdhgppclnckaaGreatDoorPasP
namespace Go.Proofs.YtggdhgppclnckaaGreatDoor
open Go Go.RowKit Lx
set_option maxRecDepth 20000

namespace Ps
variable {w : World} {g b n c : Nat} {L : List Tok} {i : Nat} {o : Int}

theorem en_typeOf : Enters 142 := fun args W => by simp [go_sem]
set_option maxHeartbeats 16000000 in
theorem typeOf_x {T : P Ty} {q : Nat} (ht : Does g b n c L 142 rdT T q) : Does g b n c L 142 rdT (tyE L T) (q + 1) := by
  intro w i o h hq
  generalize hr : tyE L T i o = r
  unfold tyE at hr
  have hsz := h.cs.size
  have hbz := h.hb
  have b0 := allocB w (.cells #[.int .i64 0, .int .i64 0, .int .i64 0, .int .i64 0, .slice none 0 0] 74)
  have x0 := box_alloc w 74 #[.int .i64 0, .int .i64 0, .int .i64 0, .int .i64 0, .slice none 0 0]
  have at0 := h.new b0
  have hs0 : w.heap.size + 1 ≤ (w.alloc (.cells #[.int .i64 0, .int .i64 0, .int .i64 0, .int .i64 0, .slice none 0 0] 74)).heap.size := by simp
  have hB0 : But g w (w.alloc (.cells #[.int .i64 0, .int .i64 0, .int .i64 0, .int .i64 0, .slice none 0 0] 74)) := But.of_below b0
  clear h
  have HA := HA_ (g := g) (b := b) (n := n) (c := c) (L := L)
  have HW := HW_ (g := g) (b := b) (n := n) (c := c) (L := L)
  have HT := Lib.hid ht
  have HNU : Hid (∀ W j q, At W g b n c L j q → Calls Tryz.prog 164 #[.pointer (some ⟨g, 0, none⟩)] W (Giv g b n c L (rdN W.heap.size) W j 1 (number L j q))) := fun W j q hW => number_x hW
  have HPI : Hid (∀ W j p, At W g b n c L j p → Calls Tryz.prog 162 #[.pointer (some ⟨g, 0, none⟩), .func (.func 163) #[.pointer (some ⟨g, 0, none⟩)] #[]] W (Giv g b n c L (rdP rdN W.heap.size) W j 0 (pair L (integer L) j p))) := fun W j p hW => pairInt_x (q := n) (fun w i o h _ => (integer_x h).mono fun _ _ hh => hh.weak (Nat.zero_le _)) en_integer hW (by omega)
  have HL : Hid (∀ W j p, At W g b n c L j p → n ≤ q + j → Calls Tryz.prog 165 #[.pointer (some ⟨g, 0, none⟩), .func (.func 142) #[.pointer (some ⟨g, 0, none⟩)] #[]] W (Giv g b n c L (rdLb 5 Ty.d W.heap.size) W j 0 (list L T j p))) := fun W j p hW hj => listType_x ht en_typeOf hW hj
  have HF : Hid (∀ W j p, At W g b n c L j p → Calls Tryz.prog 125 #[.pointer (some ⟨g, 0, none⟩), .int .i64 4] W fun en w' => en = .returned (.agg #[.int .i64 (tkn L j).ln, .int .i64 (tkn L j).co, .int .i64 4]) ∧ Below W.heap.size W w') := fun W j p hW => failure_x hW 4
  obtain ⟨ti, hti, hz1, hs1, hby1⟩ := info_three info_Type
  clear ht
  go_enter Tryz.func142, Tryz.ntmps142
  go_wp2_with fail
  generalize w.alloc (.cells #[.int .i64 0, .int .i64 0, .int .i64 0, .int .i64 0, .slice none 0 0] 74) = W0 at *
  refine (HA.out _ _ _ [98, 111, 111, 108] (by decide) at0).mono ?_
  rintro en W2 (⟨t1, j3, q4, v11, hm5, rfl, rfl, hat6, hle7, hb8⟩ | ⟨j3, er9, hm5, rfl, hj10, hb8⟩)
  rotate_left
  · rw [bd_no hm5] at hr
    go_wp2
    exact post_panic (fn := Tryz.f142) rfl (Or.inr ⟨j3, er9, hr.symm, rfl, hj10, But.trans hB0 hb8⟩)
  rw [bd_ok hm5] at hr
  have at12 := hat6
  have hB13 : But g w W2 := But.trans hB0 hb8
  have x14 := x0.but hb8 (by omega)
  have hs15 : w.heap.size + 1 ≤ W2.heap.size := Nat.le_trans hs0 hb8.size
  clear hat6 hB0 x0
  cases t1
  · simp only [Bool.false_eq_true, if_false] at hr
    obtain ⟨rfl, rfl, _⟩ := acc_not hm5
    clear hm5
    go_wp2_with fail
    refine (HA.out _ _ _ [110, 97, 116] (by decide) at12).mono ?_
    rintro en W17 (⟨t16, j18, q19, v26, hm20, rfl, rfl, hat21, hle22, hb23⟩ | ⟨j18, er24, hm20, rfl, hj25, hb23⟩)
    rotate_left
    · rw [bd_no hm20] at hr
      go_wp2
      exact post_panic (fn := Tryz.f142) rfl (Or.inr ⟨j18, er24, hr.symm, rfl, hj25, But.trans hB13 hb23⟩)
    rw [bd_ok hm20] at hr
    have at27 := hat21
    have hB28 : But g w W17 := But.trans hB13 hb23
    have x29 := x14.but hb23 (by omega)
    have hs30 : w.heap.size + 1 ≤ W17.heap.size := Nat.le_trans hs15 hb23.size
    clear hat21 hB13 x14
    cases t16
    · simp only [Bool.false_eq_true, if_false] at hr
      obtain ⟨rfl, rfl, _⟩ := acc_not hm20
      clear hm20
      go_wp2_with fail
      refine (HA.out _ _ _ [114, 101, 97, 108] (by decide) at27).mono ?_
      rintro en W32 (⟨t31, j33, q34, v41, hm35, rfl, rfl, hat36, hle37, hb38⟩ | ⟨j33, er39, hm35, rfl, hj40, hb38⟩)
      rotate_left
      · rw [bd_no hm35] at hr
        go_wp2
        exact post_panic (fn := Tryz.f142) rfl (Or.inr ⟨j33, er39, hr.symm, rfl, hj40, But.trans hB28 hb38⟩)
      rw [bd_ok hm35] at hr
      have at42 := hat36
      have hB43 : But g w W32 := But.trans hB28 hb38
      have x44 := x29.but hb38 (by omega)
      have hs45 : w.heap.size + 1 ≤ W32.heap.size := Nat.le_trans hs30 hb38.size
      clear hat36 hB28 x29
      cases t31
      · simp only [Bool.false_eq_true, if_false] at hr
        obtain ⟨rfl, rfl, _⟩ := acc_not hm35
        clear hm35
        go_wp2_with fail
        refine (HA.out _ _ _ [105, 110, 116] (by decide) at42).mono ?_
        rintro en W47 (⟨t46, j48, q49, v56, hm50, rfl, rfl, hat51, hle52, hb53⟩ | ⟨j48, er54, hm50, rfl, hj55, hb53⟩)
        rotate_left
        · rw [bd_no hm50] at hr
          go_wp2
          exact post_panic (fn := Tryz.f142) rfl (Or.inr ⟨j48, er54, hr.symm, rfl, hj55, But.trans hB43 hb53⟩)
        rw [bd_ok hm50] at hr
        have at57 := hat51
        have hB58 : But g w W47 := But.trans hB43 hb53
        have x59 := x44.but hb53 (by omega)
        have hs60 : w.heap.size + 1 ≤ W47.heap.size := Nat.le_trans hs45 hb53.size
        clear hat51 hB43 x44
        cases t46
        · simp only [Bool.false_eq_true, if_false] at hr
          obtain ⟨rfl, rfl, _⟩ := acc_not hm50
          clear hm50
          go_wp2_with fail
          refine (HA.out _ _ _ [108, 105, 115, 116] (by decide) at57).mono ?_
          rintro en W62 (⟨t61, j63, q64, v71, hm65, rfl, rfl, hat66, hle67, hb68⟩ | ⟨j63, er69, hm65, rfl, hj70, hb68⟩)
          rotate_left
          · rw [bd_no hm65] at hr
            go_wp2
            exact post_panic (fn := Tryz.f142) rfl (Or.inr ⟨j63, er69, hr.symm, rfl, hj70, But.trans hB58 hb68⟩)
          rw [bd_ok hm65] at hr
          have at72 := hat66
          have hB73 : But g w W62 := But.trans hB58 hb68
          have x74 := x59.but hb68 (by omega)
          have hs75 : w.heap.size + 1 ≤ W62.heap.size := Nat.le_trans hs60 hb68.size
          clear hat66 hB58 x59
          cases t61
          · simp only [Bool.false_eq_true, if_false] at hr
            obtain ⟨rfl, rfl, _⟩ := acc_not hm65
            clear hm65
            go_wp2_with fail
            refine (HA.out _ _ _ [40] (by decide) at72).mono ?_
            rintro en W77 (⟨t76, j78, q79, v86, hm80, rfl, rfl, hat81, hle82, hb83⟩ | ⟨j78, er84, hm80, rfl, hj85, hb83⟩)
            rotate_left
            · rw [bd_no hm80] at hr
              go_wp2
              exact post_panic (fn := Tryz.f142) rfl (Or.inr ⟨j78, er84, hr.symm, rfl, hj85, But.trans hB73 hb83⟩)
            rw [bd_ok hm80] at hr
            have at87 := hat81
            have hB88 : But g w W77 := But.trans hB73 hb83
            have x89 := x74.but hb83 (by omega)
            have hs90 : w.heap.size + 1 ≤ W77.heap.size := Nat.le_trans hs75 hb83.size
            clear hat81 hB73 x74
            cases t76
            · simp only [Bool.false_eq_true, if_false] at hr
              obtain ⟨rfl, rfl, _⟩ := acc_not hm80
              clear hm80
              go_wp2_with fail
              refine (HF.out _ _ _ at87).mono ?_
              rintro en W9 ⟨rfl, hb9⟩
              go_wp2
              exact post_panic (fn := Tryz.f142) rfl (Or.inr ⟨_, 4, hr.symm, rfl, at87.hi, But.trans hB88 (But.of_below hb9)⟩)
            · simp only [if_true] at hr
              obtain ⟨rfl, _⟩ := acc_yes hm80
              clear hm80
              go_wp2_with fail
              refine (HT.out _ _ _ at87 (by omega)).mono ?_
              rintro en W92 (⟨f, j93, q94, v101, hm95, rfl, ⟨f0, f1, f2, f3, f4, rfl, hv91⟩, hat96, hle97, hb98⟩ | ⟨j93, er99, hm95, rfl, hj100, hb98⟩)
              rotate_left
              · rw [bd_no hm95] at hr
                go_wp2
                exact post_panic (fn := Tryz.f142) rfl (Or.inr ⟨j93, er99, hr.symm, rfl, hj100, But.trans hB88 hb98⟩)
              rw [bd_ok hm95] at hr
              have at102 := hat96
              have hB103 : But g w W92 := But.trans hB88 hb98
              have x104 := x89.but hb98 (by omega)
              have hs105 : w.heap.size + 1 ≤ W92.heap.size := Nat.le_trans hs90 hb98.size
              clear hat96 hB88 x89
              have d106 : Rds (Fr (w.heap.size + 1)) W92 f.d [f0, f1, f2, f3, f4] := hv91.in fun k hk => Nat.le_trans (by assumption) hk
              clear hv91
              have ones108 := Rds.all d106
              go_wp2_with (refine wpList_store_row rfl 74 (.tmp 6) (.tmp 55) rfl W92.heap.size _ rfl rfl 74 _ (box_alloc W92 74 #[.int .i64 0, .int .i64 0, .int .i64 0, .int .i64 0, .slice none 0 0]) (by kernel_rfl) rfl ones108 ?_)
              rw [World.setRow_alloc_new]
              try simp only [Act.put]
              have bl109 := allocB W92 (.cells #[f0, f1, f2, f3, f4] 74)
              have x110 := box_alloc W92 74 #[f0, f1, f2, f3, f4]
              have at111 := at102.new bl109
              have hB112 : But g w (W92.alloc (.cells #[f0, f1, f2, f3, f4] 74)) := But.trans hB103 (But.of_below bl109)
              have x113 := x104.new bl109
              have d114 := d106.new bl109
              have hs115 : w.heap.size + 1 ≤ (W92.alloc (.cells #[f0, f1, f2, f3, f4] 74)).heap.size := Nat.le_trans hs105 bl109.size
              clear at102 hB103 x104 d106
              generalize W92.alloc (.cells #[f0, f1, f2, f3, f4] 74) = W107 at *
              generalize hgeb116 : W92.heap.size = eb116 at *
              clear hgeb116 bl109 ones108
              have hleb116 := x110.lt
              refine (HW.out _ _ _ [44] (by decide) at111).mono ?_
              rintro en W117 (⟨⟨⟩, j118, q119, v126, hm120, rfl, rfl, hat121, hle122, hb123⟩ | ⟨j118, er124, hm120, rfl, hj125, hb123⟩)
              rotate_left
              · rw [bd_no hm120] at hr
                go_wp2
                exact post_panic (fn := Tryz.f142) rfl (Or.inr ⟨j118, er124, hr.symm, rfl, hj125, But.trans hB112 hb123⟩)
              rw [bd_ok hm120] at hr
              have at127 := hat121
              have hB128 : But g w W117 := But.trans hB112 hb123
              have x129 := x113.but hb123 (by omega)
              have x130 := x110.but hb123 (by omega)
              have d131 := d114.but hb123 (by simp [Fr]; omega)
              have hs132 : w.heap.size + 1 ≤ W117.heap.size := Nat.le_trans hs115 hb123.size
              clear hat121 hB112 x113 x110 d114
              clear hm120
              go_wp2_with fail
              refine (HL.out _ _ _ at127 (by omega)).mono ?_
              rintro en W133 (⟨l, j134, q135, v142, hm136, rfl, ⟨B, m, cc, rfl, hv, hm0, hm1⟩, hat137, hle138, hb139⟩ | ⟨j134, er140, hm136, rfl, hj141, hb139⟩)
              rotate_left
              · rw [bd_no hm136] at hr
                go_wp2
                exact post_panic (fn := Tryz.f142) rfl (Or.inr ⟨j134, er140, hr.symm, rfl, hj141, But.trans hB128 hb139⟩)
              rw [bd_ok hm136] at hr
              have at143 := hat137
              have hB144 : But g w W133 := But.trans hB128 hb139
              have x145 := x129.but hb139 (by omega)
              have x146 := x130.but hb139 (by omega)
              have d147 := d131.but hb139 (by simp [Fr]; omega)
              have hs148 : w.heap.size + 1 ≤ W133.heap.size := Nat.le_trans hs132 hb139.size
              clear hat137 hB128 x129 x130 d131
              have hv2 : Rd (Fr (w.heap.size + 1)) W133 (.l 5 (l.flatMap Ty.d)) (.slice B m cc) := hv.in fun k hk => Nat.le_trans (by assumption) hk
              clear hv
              go_wp2_with fail
              refine (HW.out _ _ _ [41] (by decide) at143).mono ?_
              rintro en W149 (⟨⟨⟩, j150, q151, v158, hm152, rfl, rfl, hat153, hle154, hb155⟩ | ⟨j150, er156, hm152, rfl, hj157, hb155⟩)
              rotate_left
              · rw [bd_no hm152] at hr
                go_wp2
                exact post_panic (fn := Tryz.f142) rfl (Or.inr ⟨j150, er156, hr.symm, rfl, hj157, But.trans hB144 hb155⟩)
              rw [bd_ok hm152] at hr
              have at159 := hat153
              have hB160 : But g w W149 := But.trans hB144 hb155
              have x161 := x145.but hb155 (by omega)
              have x162 := x146.but hb155 (by omega)
              have d163 := d147.but hb155 (by simp [Fr]; omega)
              have d164 := hv2.but hb155 (by simp [Fr]; omega)
              have hs165 : w.heap.size + 1 ≤ W149.heap.size := Nat.le_trans hs148 hb155.size
              clear hat153 hB144 x145 x146 d147 hv2
              clear hm152
              obtain ⟨G, P, vs, rfl, hG, hGl, hvl, hcs, hrs⟩ := rd_cells d164 hm0
              obtain ⟨wz, hwz⟩ : ∃ wz, W149.alloc (.cells #[f0, f1, f2, f3, f4] 74) = wz := ⟨_, rfl⟩
              have HWZ := Lib.hid hwz
              have bz : Below W149.heap.size W149 wz := hwz ▸ allocB W149 _
              have hown := own_first 74 5 d163 (show w.heap.size + 1 ≤ W149.heap.size by assumption) rfl
              rw [show (.cells [f0, f1, f2, f3, f4].toArray 74 : Obj) = .cells #[f0, f1, f2, f3, f4] 74 from rfl, hwz] at hown
              have hvz : Rds (fun k => w.heap.size + 1 ≤ k ∧ offA (some ⟨W149.heap.size, 0, none⟩) k) wz (l.flatMap Ty.d) vs := hrs.keep bz.size (fun k _ hk => bz.block k hk) fun k hk hlt => ⟨hk, fun a ha => by injection ha with ha; subst ha; simp; omega⟩
              have NEWS : ∀ j u, vs[j]? = some u → wz.cell? ((⟨G, P, none⟩ : Addr).add j) = some u := fun j u hu => by
                have h0 := hcs j u hu
                rw [add_plain] at h0 ⊢
                rw [World.cell?_of_block (a := ⟨G, P + j, none⟩) (bz.block G hGl)]; exact h0
              have ones := hvz.ones
              have hszz : w.heap.size + 1 ≤ wz.heap.size := Nat.le_trans (by assumption) bz.size
              obtain ⟨us, hrow, hrd⟩ := hown
              have bfk := x162
              have at166 := at159.new bz
              have hB167 : But g w wz := But.trans hB160 (But.of_below bz)
              have x168 := x161.new bz
              have x169 := x162.new bz
              have hs170 : w.heap.size + 1 ≤ wz.heap.size := Nat.le_trans hs165 bz.size
              clear at159 hB160 x161 x162
              clear hwz hcs hrs hGl
              go_wp2_with (first | (refine wpList_load_row rfl 74 (.tmp 6) rfl eb116 rfl 74 _ (0, 0) (.struct _) bfk rfl rfl (by kernel_rfl) ?_) | (at_builtin; (rw [HWZ.out]; refine wpList_append_own_at _ rfl (.tmp 65) (.tmp 66) 72 rfl (w.heap.size + 1) 74 ti (.agg #[.int .i64 0, .int .i64 0, .int .i64 0, .int .i64 0, .slice none 0 0]) 5 56 Tryz.underlying72 hti hz1 hs1 hby1 rfl (by decide) (.slice (some ⟨W149.heap.size, 0, none⟩) 1 1) 1 us rfl hrow ⟨G, P, none⟩ m cc vs rfl hvl NEWS ones (by unfold maxLen; omega) (by omega) hszz ?_)))
              intro v' w5 hown5 hgrow _ hnew
              obtain ⟨A5, c5, rfl, hown6⟩ := Own.snoc hrow hrd hvz hown5 hm0 hgrow (hnew_or hnew)
              have hb5 := grown_below hrow hgrow hszz
              have at5 := at166.below hb5 (by omega) (by omega)
              have hB5 := grown_but hrow hgrow hB167 (by omega) hszz
              have x5 := x168.below hb5 (by omega)
              have hd := ty_rds 5 0 0 0 (f :: l) (v := .slice A5 (1 + m) c5) (by have := hown6.rd; simpa [dsT, dsT_flat] using this)
              go_wp2_with (refine wpList_store_row rfl 74 (.tmp 2) (.tmp 68) rfl w.heap.size _ rfl rfl 74 _ x5 (by kernel_rfl) rfl (by simp [Value.oneCell']) ?_)
              refine bodyPost_ret (results_cell_row rfl _ _ w.heap.size _ _ _ (.struct _) rfl (x5.set _) rfl rfl (by kernel_rfl)) rfl ?_
              exact Or.inl ⟨.mk 5 0 0 0 (f :: l), j150, q151, _, hr.symm, rfl, ⟨_, _, _, _, _, rfl, (hd.row (by simp [Fr]) _).in fun k hk => by simp [Fr] at hk ⊢; omega⟩, at5.row _ hsz hbz, by omega, But.row hB5 (Nat.le_refl _) _⟩
          · simp only [if_true] at hr
            obtain ⟨rfl, _⟩ := acc_yes hm65
            clear hm65
            go_wp2_with fail
            refine (HW.out _ _ _ [91] (by decide) at72).mono ?_
            rintro en W171 (⟨⟨⟩, j172, q173, v180, hm174, rfl, rfl, hat175, hle176, hb177⟩ | ⟨j172, er178, hm174, rfl, hj179, hb177⟩)
            rotate_left
            · rw [bd_no hm174] at hr
              go_wp2
              exact post_panic (fn := Tryz.f142) rfl (Or.inr ⟨j172, er178, hr.symm, rfl, hj179, But.trans hB73 hb177⟩)
            rw [bd_ok hm174] at hr
            have at181 := hat175
            have hB182 : But g w W171 := But.trans hB73 hb177
            have x183 := x74.but hb177 (by omega)
            have hs184 : w.heap.size + 1 ≤ W171.heap.size := Nat.le_trans hs75 hb177.size
            clear hat175 hB73 x74
            clear hm174
            go_wp2_with fail
            refine (HNU.out _ _ _ at181).mono ?_
            rintro en W185 (⟨k, j186, q187, v194, hm188, rfl, rfl, hat189, hle190, hb191⟩ | ⟨j186, er192, hm188, rfl, hj193, hb191⟩)
            rotate_left
            · rw [bd_no hm188] at hr
              go_wp2
              exact post_panic (fn := Tryz.f142) rfl (Or.inr ⟨j186, er192, hr.symm, rfl, hj193, But.trans hB182 hb191⟩)
            rw [bd_ok hm188] at hr
            have at195 := hat189
            have hB196 : But g w W185 := But.trans hB182 hb191
            have x197 := x183.but hb191 (by omega)
            have hs198 : w.heap.size + 1 ≤ W185.heap.size := Nat.le_trans hs184 hb191.size
            clear hat189 hB182 x183
            go_wp2_with fail
            refine (HW.out _ _ _ [93] (by decide) at195).mono ?_
            rintro en W199 (⟨⟨⟩, j200, q201, v208, hm202, rfl, rfl, hat203, hle204, hb205⟩ | ⟨j200, er206, hm202, rfl, hj207, hb205⟩)
            rotate_left
            · rw [bd_no hm202] at hr
              go_wp2
              exact post_panic (fn := Tryz.f142) rfl (Or.inr ⟨j200, er206, hr.symm, rfl, hj207, But.trans hB196 hb205⟩)
            rw [bd_ok hm202] at hr
            have at209 := hat203
            have hB210 : But g w W199 := But.trans hB196 hb205
            have x211 := x197.but hb205 (by omega)
            have hs212 : w.heap.size + 1 ≤ W199.heap.size := Nat.le_trans hs198 hb205.size
            clear hat203 hB196 x197
            clear hm202
            go_wp2_with fail
            refine (HT.out _ _ _ at209 (by omega)).mono ?_
            rintro en W214 (⟨x, j215, q216, v223, hm217, rfl, ⟨x0, x1, x2, x3, x4, rfl, hv213⟩, hat218, hle219, hb220⟩ | ⟨j215, er221, hm217, rfl, hj222, hb220⟩)
            rotate_left
            · rw [bd_no hm217] at hr
              go_wp2
              exact post_panic (fn := Tryz.f142) rfl (Or.inr ⟨j215, er221, hr.symm, rfl, hj222, But.trans hB210 hb220⟩)
            rw [bd_ok hm217] at hr
            have at224 := hat218
            have hB225 : But g w W214 := But.trans hB210 hb220
            have x226 := x211.but hb220 (by omega)
            have hs227 : w.heap.size + 1 ≤ W214.heap.size := Nat.le_trans hs212 hb220.size
            clear hat218 hB210 x211
            have d228 : Rds (Fr (w.heap.size + 1)) W214 x.d [x0, x1, x2, x3, x4] := hv213.in fun k hk => Nat.le_trans (by assumption) hk
            clear hv213
            have bl := allocB W214 (.cells #[x0, x1, x2, x3, x4] 74)
            have dl : Rd (Fr (w.heap.size + 1)) (W214.alloc (.cells #[x0, x1, x2, x3, x4] 74)) (.l 5 (dsT [x])) (.slice (some ⟨W214.heap.size, 0, none⟩) 1 1) := by
              have := Rds.laidQ (sz := 5) (n := 1) 74 d228 (by simp [Ty.d_len]) (show w.heap.size + 1 ≤ W214.heap.size by assumption) (by decide)
              simpa [dsT] using this
            have xa := x226.new bl
            go_wp2_with (refine wpList_store_row rfl 74 (.tmp 2) (.tmp 50) rfl w.heap.size _ rfl rfl 74 _ xa (by kernel_rfl) rfl (by simp [Value.oneCell']) ?_)
            clear xa
            have at229 := at224.new bl
            have hB230 : But g w (W214.alloc (.cells #[x0, x1, x2, x3, x4] 74)) := But.trans hB225 (But.of_below bl)
            have x231 := x226.new bl
            have hs232 : w.heap.size + 1 ≤ (W214.alloc (.cells #[x0, x1, x2, x3, x4] 74)).heap.size := Nat.le_trans hs227 bl.size
            clear at224 hB225 x226
            generalize W214.alloc (.cells #[x0, x1, x2, x3, x4] 74) = WA at *
            generalize hgA : W214.heap.size = PA at *
            clear hgA bl
            have hd := ty_rds 6 0 0 k [x] dl
            refine bodyPost_ret (results_cell_row rfl _ _ w.heap.size _ _ _ (.struct _) rfl (x231.set _) rfl rfl (by kernel_rfl)) rfl ?_
            exact Or.inl ⟨.mk 6 0 0 k [x], j215, q216, _, hr.symm, rfl, ⟨_, _, _, _, _, rfl, (hd.row (by simp [Fr]) _).in fun k hk => by simp [Fr] at hk ⊢; omega⟩, at229.row _ hsz hbz, by omega, But.row hB230 (Nat.le_refl _) _⟩
        · simp only [if_true] at hr
          obtain ⟨rfl, _⟩ := acc_yes hm50
          clear hm50
          go_wp2_with fail
          refine (HW.out _ _ _ [91] (by decide) at57).mono ?_
          rintro en W233 (⟨⟨⟩, j234, q235, v242, hm236, rfl, rfl, hat237, hle238, hb239⟩ | ⟨j234, er240, hm236, rfl, hj241, hb239⟩)
          rotate_left
          · rw [bd_no hm236] at hr
            go_wp2
            exact post_panic (fn := Tryz.f142) rfl (Or.inr ⟨j234, er240, hr.symm, rfl, hj241, But.trans hB58 hb239⟩)
          rw [bd_ok hm236] at hr
          have at243 := hat237
          have hB244 : But g w W233 := But.trans hB58 hb239
          have x245 := x59.but hb239 (by omega)
          have hs246 : w.heap.size + 1 ≤ W233.heap.size := Nat.le_trans hs60 hb239.size
          clear hat237 hB58 x59
          clear hm236
          go_wp2_with fail
          refine (HPI.out _ _ _ at243).mono ?_
          rintro en W247 (⟨p, j248, q249, v256, hm250, rfl, ⟨_, _, rfl, rfl, rfl⟩, hat251, hle252, hb253⟩ | ⟨j248, er254, hm250, rfl, hj255, hb253⟩)
          rotate_left
          · rw [bd_no hm250] at hr
            go_wp2
            exact post_panic (fn := Tryz.f142) rfl (Or.inr ⟨j248, er254, hr.symm, rfl, hj255, But.trans hB244 hb253⟩)
          rw [bd_ok hm250] at hr
          have at257 := hat251
          have hB258 : But g w W247 := But.trans hB244 hb253
          have x259 := x245.but hb253 (by omega)
          have hs260 : w.heap.size + 1 ≤ W247.heap.size := Nat.le_trans hs246 hb253.size
          clear hat251 hB244 x245
          go_wp2_with fail
          refine (HW.out _ _ _ [93] (by decide) at257).mono ?_
          rintro en W261 (⟨⟨⟩, j262, q263, v270, hm264, rfl, rfl, hat265, hle266, hb267⟩ | ⟨j262, er268, hm264, rfl, hj269, hb267⟩)
          rotate_left
          · rw [bd_no hm264] at hr
            go_wp2
            exact post_panic (fn := Tryz.f142) rfl (Or.inr ⟨j262, er268, hr.symm, rfl, hj269, But.trans hB258 hb267⟩)
          rw [bd_ok hm264] at hr
          have at271 := hat265
          have hB272 : But g w W261 := But.trans hB258 hb267
          have x273 := x259.but hb267 (by omega)
          have hs274 : w.heap.size + 1 ≤ W261.heap.size := Nat.le_trans hs260 hb267.size
          clear hat265 hB258 x259
          clear hm264
          have hd := ty_rds (Q := Fr (w.heap.size + 1)) (w := W261) 2 p.1 p.2 0 [] nilT_rd
          go_wp2_with (refine wpList_store_row rfl 74 (.tmp 2) (.tmp 36) rfl w.heap.size _ rfl rfl 74 _ x273 (by kernel_rfl) rfl (by simp [Value.oneCell']) ?_)
          refine bodyPost_ret (results_cell_row rfl _ _ w.heap.size _ _ _ (.struct _) rfl (x273.set _) rfl rfl (by kernel_rfl)) rfl ?_
          exact Or.inl ⟨.mk 2 p.1 p.2 0 [], j262, q263, _, hr.symm, rfl, ⟨_, _, _, _, _, rfl, (hd.row (by simp [Fr]) _).in fun k hk => by simp [Fr] at hk ⊢; omega⟩, at271.row _ hsz hbz, by omega, But.row hB272 (Nat.le_refl _) _⟩
      · simp only [if_true] at hr
        obtain ⟨rfl, _⟩ := acc_yes hm35
        clear hm35
        have hd := ty_rds (Q := Fr (w.heap.size + 1)) (w := W32) 4 0 0 0 [] nilT_rd
        go_wp2_with (refine wpList_store_row rfl 74 (.tmp 2) (.tmp 19) rfl w.heap.size _ rfl rfl 74 _ x44 (by kernel_rfl) rfl (by simp [Value.oneCell']) ?_)
        refine bodyPost_ret (results_cell_row rfl _ _ w.heap.size _ _ _ (.struct _) rfl (x44.set _) rfl rfl (by kernel_rfl)) rfl ?_
        exact Or.inl ⟨leaf 4, _, q34, _, hr.symm, rfl, ⟨_, _, _, _, _, rfl, (hd.row (by simp [Fr]) _).in fun k hk => by simp [Fr] at hk ⊢; omega⟩, at42.row _ hsz hbz, by omega, But.row hB43 (Nat.le_refl _) _⟩
    · simp only [if_true] at hr
      obtain ⟨rfl, _⟩ := acc_yes hm20
      clear hm20
      have hd := ty_rds (Q := Fr (w.heap.size + 1)) (w := W17) 3 0 0 0 [] nilT_rd
      go_wp2_with (refine wpList_store_row rfl 74 (.tmp 2) (.tmp 15) rfl w.heap.size _ rfl rfl 74 _ x29 (by kernel_rfl) rfl (by simp [Value.oneCell']) ?_)
      refine bodyPost_ret (results_cell_row rfl _ _ w.heap.size _ _ _ (.struct _) rfl (x29.set _) rfl rfl (by kernel_rfl)) rfl ?_
      exact Or.inl ⟨leaf 3, _, q19, _, hr.symm, rfl, ⟨_, _, _, _, _, rfl, (hd.row (by simp [Fr]) _).in fun k hk => by simp [Fr] at hk ⊢; omega⟩, at27.row _ hsz hbz, by omega, But.row hB28 (Nat.le_refl _) _⟩
  · simp only [if_true] at hr
    obtain ⟨rfl, _⟩ := acc_yes hm5
    clear hm5
    have hd := ty_rds (Q := Fr (w.heap.size + 1)) (w := W2) 1 0 0 0 [] nilT_rd
    go_wp2_with (refine wpList_store_row rfl 74 (.tmp 2) (.tmp 11) rfl w.heap.size _ rfl rfl 74 _ x14 (by kernel_rfl) rfl (by simp [Value.oneCell']) ?_)
    refine bodyPost_ret (results_cell_row rfl _ _ w.heap.size _ _ _ (.struct _) rfl (x14.set _) rfl rfl (by kernel_rfl)) rfl ?_
    exact Or.inl ⟨leaf 1, _, q4, _, hr.symm, rfl, ⟨_, _, _, _, _, rfl, (hd.row (by simp [Fr]) _).in fun k hk => by simp [Fr] at hk ⊢; omega⟩, at12.row _ hsz hbz, by omega, But.row hB13 (Nat.le_refl _) _⟩
theorem ty_all : ∀ k : Nat, Does g b n c L 142 rdT (tyF L k) k
  | 0 => fun w i o h hq => absurd h.hi (by omega)
  | k + 1 => typeOf_x (ty_all k)
end Ps
end Go.Proofs.YtggdhgppclnckaaGreatDoor
