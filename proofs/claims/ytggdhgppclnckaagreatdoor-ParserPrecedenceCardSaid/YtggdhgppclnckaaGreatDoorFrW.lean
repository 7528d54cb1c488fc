/-
  The parser's fractions.
-/
import Derived.Test.YtggdhgppclnckaaGreatDoorFrP
import Derived.Test.YtggdhgppclnckaaGreatDoorPasI
namespace Go.Proofs.YtggdhgppclnckaaGreatDoor
open Go Go.RowKit Lx
set_option maxRecDepth 20000

namespace Ps
variable {w : World} {g b n c : Nat} {L : List Tok} {i : Nat} {o : Int}
theorem Gl.laid {w : World} (h : Gl w) : Q.Laid w := by
  refine ⟨?_, h.n0, h.n1, h.n2, h.n3⟩
  have := h.n0
  unfold World.cell? at this
  split at this
  · next hx => exact (Array.getElem?_eq_some_iff.1 hx).1
  · cases this
set_option maxHeartbeats 1000000 in
theorem value_x (h : At w g b n c L i o) (x : ByteArray) (j : Nat) {v1 v2 : Nat} (hs : x.size ≤ 1000000) (hc : Q.CutAt (Q.unsigned x) j) (h1 : Q.ReadsAs ((Q.unsigned x).extract 0 j) v1 0) (h2 : Q.ReadsAs (Q.second (Q.unsigned x) j) v2 0) : Calls Tryz.prog 207 #[.pointer (some ⟨g, 0, none⟩), .string x] w (Giv g b n c L (rdR w.heap.size) w i 0 (if v2 = 0 then .no i 3 else .ok (ratv (Q.signed x) v1 v2) i o)) := by
  have HP : Hid (∀ W, At W g b n c L i o → Calls Tryz.prog 216 #[.string x] W (Q.GivesQ W (Q.signed x) v1 0 v2 0)) := fun W hW => Q.ratParse_g x j W hW.gl.laid hs hc h1 h2
  have HF : Hid (∀ W e, At W g b n c L i o → Calls Tryz.prog 125 #[.pointer (some ⟨g, 0, none⟩), .int .i64 e] W fun en w' => en = .returned (failV L i e) ∧ Below W.heap.size W w') := fun W e hW => failure_x hW e
  generalize Q.signed x = sg at *
  clear hs hc h1 h2
  have hi := h.hi
  generalize hr : (if v2 = 0 then R.no i 3 else .ok (ratv sg v1 v2) i o) = r
  by_cases h0 : v2 = 0
  · rw [if_pos h0] at hr
    have hsz := h.cs.size
    have hbz := h.hb
    have b0 := allocB w (.cells #[.bool false, .slice none 0 0, .slice none 0 0] 50)
    have x0 := box_alloc w 50 #[.bool false, .slice none 0 0, .slice none 0 0]
    have at0 := h.new b0
    have hs0 : w.heap.size + 1 ≤ (w.alloc (.cells #[.bool false, .slice none 0 0, .slice none 0 0] 50)).heap.size := by simp
    have hB0 : But g w (w.alloc (.cells #[.bool false, .slice none 0 0, .slice none 0 0] 50)) := But.of_below b0
    clear h
    go_enter Tryz.func207, Tryz.ntmps207
    go_wp2_with fail
    generalize w.alloc (.cells #[.bool false, .slice none 0 0, .slice none 0 0] 50) = W0 at *
    refine (HP.out _ at0).mono ?_
    rintro en W1 ⟨_, _, h3, _⟩
    obtain ⟨rfl, hb1⟩ := h3 rfl rfl (by exact_mod_cast h0)
    clear h3 h0
    have at1 := at0.new hb1
    have hB2 : But g w W1 := But.trans hB0 (But.of_below hb1)
    have x3 := x0.new hb1
    have hs4 : w.heap.size + 1 ≤ W1.heap.size := Nat.le_trans hs0 hb1.size
    clear at0 hB0 x0
    have hz := zero_rds (Q := Fr (w.heap.size + 1)) (w := W1)
    have ones6 := Rds.all hz
    go_wp2_with (refine wpList_store_row rfl 50 (.tmp 5) (.tmp 10) rfl W1.heap.size _ rfl rfl 50 _ (box_alloc W1 50 #[.bool false, .slice none 0 0, .slice none 0 0]) (by kernel_rfl) rfl ones6 ?_)
    rw [World.setRow_alloc_new]
    try simp only [Act.put]
    have bl7 := allocB W1 (.cells #[.bool false, .slice none 0 0, .slice none 0 0] 50)
    have x8 := box_alloc W1 50 #[.bool false, .slice none 0 0, .slice none 0 0]
    have at9 := at1.new bl7
    have hB10 : But g w (W1.alloc (.cells #[.bool false, .slice none 0 0, .slice none 0 0] 50)) := But.trans hB2 (But.of_below bl7)
    have x11 := x3.new bl7
    have d12 := hz.new bl7
    have hs13 : w.heap.size + 1 ≤ (W1.alloc (.cells #[.bool false, .slice none 0 0, .slice none 0 0] 50)).heap.size := Nat.le_trans hs4 bl7.size
    clear at1 hB2 x3 hz
    generalize W1.alloc (.cells #[.bool false, .slice none 0 0, .slice none 0 0] 50) = W5 at *
    generalize hgeb14 : W1.heap.size = eb14 at *
    clear hgeb14 bl7 ones6
    have hleb14 := x8.lt
    go_wp2_with fail
    refine (HF.out _ _ at9).mono ?_
    rintro en W2 ⟨rfl, hb2⟩
    go_wp2
    exact post_panic (fn := Tryz.f207) rfl (Or.inr ⟨i, 3, hr.symm, rfl, hi, But.trans hB10 (But.of_below hb2)⟩)
  · rw [if_neg h0] at hr
    have hsz := h.cs.size
    have hbz := h.hb
    have b0 := allocB w (.cells #[.bool false, .slice none 0 0, .slice none 0 0] 50)
    have x0 := box_alloc w 50 #[.bool false, .slice none 0 0, .slice none 0 0]
    have at0 := h.new b0
    have hs0 : w.heap.size + 1 ≤ (w.alloc (.cells #[.bool false, .slice none 0 0, .slice none 0 0] 50)).heap.size := by simp
    have hB0 : But g w (w.alloc (.cells #[.bool false, .slice none 0 0, .slice none 0 0] 50)) := But.of_below b0
    clear h
    go_enter Tryz.func207, Tryz.ntmps207
    go_wp2_with fail
    generalize w.alloc (.cells #[.bool false, .slice none 0 0, .slice none 0 0] 50) = W0 at *
    refine (HP.out _ at0).mono ?_
    rintro en W1 ⟨_, _, _, h3⟩
    obtain ⟨t1, A1, n1, c1, A2, n2, c2, rfl, hrn, ha1, ha2, hb1⟩ := h3 rfl rfl (by exact_mod_cast h0)
    clear h3
    have hv := (ratv_rd hrn (by omega) ha1 ha2)
    obtain ⟨y0, y1, y2, hy, hv⟩ := hv
    injection hy with hy
    injection hy with hy
    injection hy with hy0 hy
    injection hy with hy1 hy
    injection hy with hy2 hy
    subst hy0 hy1 hy2
    clear hy hrn ha1 ha2
    have hz : Rds (Fr (w.heap.size + 1)) W1 (ratv sg v1 v2).d [.bool t1, .slice A1 n1 c1, .slice A2 n2 c2] := hv.in fun k hk => Nat.le_trans hs0 hk
    clear hv
    have at15 := at0.new hb1
    have hB16 : But g w W1 := But.trans hB0 (But.of_below hb1)
    have x17 := x0.new hb1
    have hs18 : w.heap.size + 1 ≤ W1.heap.size := Nat.le_trans hs0 hb1.size
    clear at0 hB0 x0
    have onesF := Rds.all hz
    have blF := allocB W1 (.cells #[.bool t1, .slice A1 n1 c1, .slice A2 n2 c2] 50)
    have xF := box_alloc W1 50 #[.bool t1, .slice A1 n1 c1, .slice A2 n2 c2]
    have at19 := at15.new blF
    have hB20 : But g w (W1.alloc (.cells #[.bool t1, .slice A1 n1 c1, .slice A2 n2 c2] 50)) := But.trans hB16 (But.of_below blF)
    have x21 := x17.new blF
    have d22 := hz.new blF
    have hs23 : w.heap.size + 1 ≤ (W1.alloc (.cells #[.bool t1, .slice A1 n1 c1, .slice A2 n2 c2] 50)).heap.size := Nat.le_trans hs18 blF.size
    clear at15 hB16 x17 hz
    go_wp2_with (first | (refine wpList_store_row rfl 50 (.tmp 5) (.tmp 10) rfl W1.heap.size _ rfl rfl 50 _ (box_alloc W1 50 #[.bool false, .slice none 0 0, .slice none 0 0]) (by kernel_rfl) rfl onesF ?_) | (rw [World.setRow_alloc_new]; (refine wpList_load_row rfl 50 (.tmp 5) rfl (W1.heap.size) rfl 50 _ (0, 0) (.struct _) xF rfl rfl (by kernel_rfl) ?_)) | (refine wpList_load_row rfl 50 (.tmp 5) rfl (W1.heap.size) rfl 50 _ (0, 0) (.struct _) xF rfl rfl (by kernel_rfl) ?_) | (refine wpList_store_row rfl 50 (.tmp 4) (.tmp 18) rfl w.heap.size _ rfl rfl 50 _ x21 (by kernel_rfl) rfl onesF ?_))
    refine bodyPost_ret (results_cell_row rfl _ _ w.heap.size _ _ _ (.struct _) rfl (x21.set _) rfl rfl (by kernel_rfl)) rfl ?_
    exact Or.inl ⟨ratv sg v1 v2, i, o, _, hr.symm, rfl, ⟨_, _, _, rfl, (d22.row (by simp [Fr]) _).in fun k hk => by simp [Fr] at hk ⊢; omega⟩, at19.row _ hsz hbz, by omega, But.row hB20 (Nat.le_refl _) _⟩

theorem textOf_yes (h : At w g b n c L i o) (hk : (tkn L i).k = 2) : Calls Tryz.prog 103 #[.pointer (some ⟨g, 0, none⟩), .int .i64 2] w fun e w' => e = .returned (.string (bt (tkn L i).t)) ∧ At w' g b n c L i o ∧ But g w w' := by
  refine (textOf_x h 2).mono ?_
  have hm : textM L 2 i o = .ok (tkn L i).t i o := by unfold textM; rw [if_pos hk]
  rintro en w1 (⟨a, j, q1, v, h1, rfl, rfl, hat, hle, hb⟩ | ⟨j, er, h1, _⟩)
  · rw [hm] at h1
    injection h1 with m1 m2 m3
    subst m1 m2 m3
    exact ⟨rfl, hat, hb⟩
  · rw [hm] at h1; cases h1
theorem textOf_no (h : At w g b n c L i o) (hk : (tkn L i).k ≠ 2) : Calls Tryz.prog 103 #[.pointer (some ⟨g, 0, none⟩), .int .i64 2] w fun e w' => e = .panicked (chn L i 4) ∧ But g w w' := by
  refine (textOf_x h 2).mono ?_
  have hm : textM L 2 i o = .no i 4 := by unfold textM; rw [if_neg hk]
  rintro en w1 (⟨a, j, q1, v, h1, _⟩ | ⟨j, er, h1, rfl, hj, hb⟩)
  · rw [hm] at h1; cases h1
  · rw [hm] at h1
    injection h1 with m1 m2
    subst m1 m2
    exact ⟨rfl, hb⟩
theorem take_num (h : At w g b n c L i o) (hk : (tkn L i).k = 2) : Calls Tryz.prog 124 #[.pointer (some ⟨g, 0, none⟩)] w fun e w' => e = .returned (.tuple #[]) ∧ At w' g b n c L (i + 1) o ∧ But g w w' := by
  refine (take_x h (by omega)).mono ?_
  have hm : take (tkn L i).t i o = .ok () (i + 1) o := by
    have := h.good.words _ h.mem (by omega) (by omega)
    unfold take
    rw [if_neg, if_neg]
    · rintro (e | e | e) <;> rw [e] at this <;> revert this <;> decide
    · rintro (e | e | e) <;> rw [e] at this <;> revert this <;> decide
  rintro en w1 (⟨a, j, q1, v, h1, rfl, rfl, hat, hle, hb⟩ | ⟨j, er, h1, _⟩)
  · rw [hm] at h1
    injection h1 with m1 m2 m3
    subst m2 m3
    exact ⟨rfl, hat, hb⟩
  · rw [hm] at h1; cases h1
set_option maxHeartbeats 2000000 in
theorem value_one (h : At w g b n c L i o) (sg : Bool) {t : Bs} (h0 : 0 < t.length) (h1 : t.length ≤ 60) (hd : ∀ c ∈ t, isD c.toNat = true) : Calls Tryz.prog 207 #[.pointer (some ⟨g, 0, none⟩), .string (bt ((if sg then [45] else []) ++ t))] w (Giv g b n c L (rdR w.heap.size) w i 0 (.ok (ratv sg (numv t) 1) i o)) := by
  obtain ⟨s1, s2⟩ := num_signed hd sg [] h0
  rw [List.append_nil] at s1 s2
  obtain ⟨c1, c2, c3⟩ := cut_one hd
  have r1 := num_reads hd h0 h1
  have r2 : Q.ReadsAs (bt [49]) (1 : Nat) 0 := num_reads (t := [49]) (by decide) (by decide) (by decide)
  have := value_x h (bt ((if sg then [45] else []) ++ t)) t.length (v1 := numv t) (v2 := 1) (by rw [bt_size, List.length_append]; cases sg <;> simp <;> omega) (by rw [s2]; exact c1) (by rw [s2, c2]; exact r1) (by rw [s2, c3]; exact r2)
  rw [s1] at this
  rw [if_neg Nat.one_ne_zero] at this
  exact this
set_option maxHeartbeats 2000000 in
theorem value_two (h : At w g b n c L i o) (sg : Bool) {t u : Bs} (h0 : 0 < t.length) (h1 : t.length ≤ 60) (hd : ∀ c ∈ t, isD c.toNat = true) (u0 : 0 < u.length) (u1 : u.length ≤ 60) (ud : ∀ c ∈ u, isD c.toNat = true) : Calls Tryz.prog 207 #[.pointer (some ⟨g, 0, none⟩), .string (bt ((if sg then [45] else []) ++ (t ++ 47 :: u)))] w (Giv g b n c L (rdR w.heap.size) w i 0 (if numv u = 0 then .no i 3 else .ok (ratv sg (numv t) (numv u)) i o)) := by
  obtain ⟨s1, s2⟩ := num_signed hd sg (47 :: u) h0
  obtain ⟨c1, c2, c3⟩ := cut_two u hd
  have := value_x h (bt ((if sg then [45] else []) ++ (t ++ 47 :: u))) t.length (v1 := numv t) (v2 := numv u) (by rw [bt_size, List.length_append]; cases sg <;> simp <;> omega) (by rw [s2]; exact c1) (by rw [s2, c2]; exact num_reads hd h0 h1) (by rw [s2, c3]; exact num_reads ud u0 u1)
  rw [s1] at this
  exact this
set_option maxHeartbeats 4000000 in
theorem fraction_x (h : At w g b n c L i o) : Calls Tryz.prog 195 #[.pointer (some ⟨g, 0, none⟩)] w (Giv g b n c L (rdR w.heap.size) w i 1 (fraction L i o)) := by
  have HA : Hid (∀ W j q s, s ≠ [] → At W g b n c L j q → Calls Tryz.prog 97 #[.pointer (some ⟨g, 0, none⟩), .string (bt s)] W (Giv g b n c L rdB W j 0 (acc L s j q))) := fun W j q s hs hW => accept_x hW s hs
  have HT1 : Hid (∀ W j q, At W g b n c L j q → (tkn L j).k = 2 → Calls Tryz.prog 103 #[.pointer (some ⟨g, 0, none⟩), .int .i64 2] W fun e w' => e = .returned (.string (bt (tkn L j).t)) ∧ At w' g b n c L j q ∧ But g W w') := fun W j q hW hk => textOf_yes hW hk
  have HT2 : Hid (∀ W j q, At W g b n c L j q → (tkn L j).k ≠ 2 → Calls Tryz.prog 103 #[.pointer (some ⟨g, 0, none⟩), .int .i64 2] W fun e w' => e = .panicked (chn L j 4) ∧ But g W w') := fun W j q hW hk => textOf_no hW hk
  have HK : Hid (∀ W j q, At W g b n c L j q → (tkn L j).k = 2 → Calls Tryz.prog 124 #[.pointer (some ⟨g, 0, none⟩)] W fun e w' => e = .returned (.tuple #[]) ∧ At w' g b n c L (j + 1) q ∧ But g W w') := fun W j q hW hk => take_num hW hk
  have HD : Hid (∀ j q W, At W g b n c L j q → (tkn L j).k = 2 → 0 < (tkn L j).t.length ∧ (tkn L j).t.length ≤ 60 ∧ ∀ c ∈ (tkn L j).t, isD c.toNat = true) := fun j q W hW hk => hW.good.nums _ hW.mem hk
  have HV1 : Hid (∀ W j q sg t, At W g b n c L j q → 0 < t.length → t.length ≤ 60 → (∀ c ∈ t, isD c.toNat = true) → Calls Tryz.prog 207 #[.pointer (some ⟨g, 0, none⟩), .string (bt ((if sg then [45] else []) ++ t))] W (Giv g b n c L (rdR W.heap.size) W j 0 (.ok (ratv sg (numv t) 1) j q))) := fun W j q sg t hW h0 h1 hd => value_one hW sg h0 h1 hd
  have HV2 : Hid (∀ W j q sg t u, At W g b n c L j q → 0 < t.length → t.length ≤ 60 → (∀ c ∈ t, isD c.toNat = true) → 0 < u.length → u.length ≤ 60 → (∀ c ∈ u, isD c.toNat = true) → Calls Tryz.prog 207 #[.pointer (some ⟨g, 0, none⟩), .string (bt ((if sg then [45] else []) ++ (t ++ 47 :: u)))] W (Giv g b n c L (rdR W.heap.size) W j 0 (if numv u = 0 then .no j 3 else .ok (ratv sg (numv t) (numv u)) j q))) := fun W j q sg t u hW h0 h1 hd u0 u1 ud => value_two hW sg h0 h1 hd u0 u1 ud
  generalize hr : fraction L i o = r
  unfold fraction at hr
  have hsz := h.cs.size
  have hbz := h.hb
  have b0 := allocB w (.cells #[.bool false, .slice none 0 0, .slice none 0 0] 50)
  have x0 := box_alloc w 50 #[.bool false, .slice none 0 0, .slice none 0 0]
  have at0 := h.new b0
  have hs0 : w.heap.size + 1 ≤ (w.alloc (.cells #[.bool false, .slice none 0 0, .slice none 0 0] 50)).heap.size := by simp
  have hB0 : But g w (w.alloc (.cells #[.bool false, .slice none 0 0, .slice none 0 0] 50)) := But.of_below b0
  clear h
  go_enter Tryz.func195, Tryz.ntmps195
  go_wp2_with fail
  generalize w.alloc (.cells #[.bool false, .slice none 0 0, .slice none 0 0] 50) = W0 at *
  refine (HA.out _ _ _ [45] (by decide) at0).mono ?_
  rintro en W25 (⟨t24, j26, q27, v34, hm28, rfl, rfl, hat29, hle30, hb31⟩ | ⟨j26, er32, hm28, rfl, hj33, hb31⟩)
  rotate_left
  · rw [bd_no hm28] at hr
    go_wp2
    exact post_panic (fn := Tryz.f195) rfl (Or.inr ⟨j26, er32, hr.symm, rfl, hj33, But.trans hB0 hb31⟩)
  rw [bd_ok hm28] at hr
  have at35 := hat29
  have hB36 : But g w W25 := But.trans hB0 hb31
  have x37 := x0.but hb31 (by omega)
  have hs38 : w.heap.size + 1 ≤ W25.heap.size := Nat.le_trans hs0 hb31.size
  clear hat29 hB0 x0
  cases t24
  · try simp only [Bool.false_eq_true, if_false] at hr
    obtain ⟨rfl, rfl, _⟩ := acc_not hm28
    clear hm28
    by_cases ek : (tkn L j26).k = 2
    rotate_left
    · have hm : digs L j26 q27 = .no j26 4 := by unfold digs; rw [if_neg ek]
      rw [bd_no hm] at hr
      have hj := at35.hi
      go_wp2_with fail
      refine (HT2.out _ _ _ at35 ek).mono ?_
      rintro en W9 ⟨rfl, hb9⟩
      go_wp2
      exact post_panic (fn := Tryz.f195) rfl (Or.inr ⟨j26, 4, hr.symm, rfl, hj, But.trans hB36 hb9⟩)
    have hm : digs L j26 q27 = .ok (tkn L j26).t (j26 + 1) q27 := by unfold digs; rw [if_pos ek]
    rw [bd_ok hm] at hr
    obtain ⟨d0, d1, d2⟩ := HD.out _ _ _ at35 ek
    have z1 : (bt (tkn L j26).t).size ≤ 60 := d1
    clear hm
    go_wp2_with fail
    refine (HT1.out _ _ _ at35 ek).mono ?_
    rintro en W39 ⟨rfl, hat40, hb41⟩
    have at42 := hat40
    have hB43 : But g w W39 := But.trans hB36 hb41
    have x44 := x37.but hb41 (by omega)
    have hs45 : w.heap.size + 1 ≤ W39.heap.size := Nat.le_trans hs38 hb41.size
    clear hat40 hB36 x37
    go_wp2_with fail
    refine (HK.out _ _ _ at42 ek).mono ?_
    rintro en W46 ⟨rfl, hat47, hb48⟩
    have at49 := hat47
    have hB50 : But g w W46 := But.trans hB43 hb48
    have x51 := x44.but hb48 (by omega)
    have hs52 : w.heap.size + 1 ≤ W46.heap.size := Nat.le_trans hs45 hb48.size
    clear hat47 hB43 x44
    clear ek
    go_wp2_with fail
    refine (HA.out _ _ _ [47] (by decide) at49).mono ?_
    rintro en W54 (⟨t53, j55, q56, v63, hm57, rfl, rfl, hat58, hle59, hb60⟩ | ⟨j55, er61, hm57, rfl, hj62, hb60⟩)
    rotate_left
    · rw [bd_no hm57] at hr
      go_wp2
      exact post_panic (fn := Tryz.f195) rfl (Or.inr ⟨j55, er61, hr.symm, rfl, hj62, But.trans hB50 hb60⟩)
    rw [bd_ok hm57] at hr
    have at64 := hat58
    have hB65 : But g w W54 := But.trans hB50 hb60
    have x66 := x51.but hb60 (by omega)
    have hs67 : w.heap.size + 1 ≤ W54.heap.size := Nat.le_trans hs52 hb60.size
    clear hat58 hB50 x51
    cases t53
    · try simp only [Bool.false_eq_true, if_false] at hr
      obtain ⟨rfl, rfl, _⟩ := acc_not hm57
      clear hm57
      go_wp2_with fail
      have hx : bt (tkn L j26).t = bt ((if false then [45] else []) ++ (tkn L j26).t) := by apply ByteArray.ext; simp [bt]
      rw [hx]
      clear hx
      refine (HV1.out _ _ _ false (tkn L j26).t at64 d0 d1 d2).mono ?_
      rintro en W68 (⟨rv, j9, q9, v9, hm9, rfl, ⟨y0, y1, y2, rfl, hv⟩, hat70, hle9, hb69⟩ | ⟨j9, e9, hm9, rfl, hj9, hb69⟩)
      rotate_left
      · cases hm9
      injection hm9 with m1 m2 m3
      subst m1 m2 m3
      have at71 := hat70
      have hB72 : But g w W68 := But.trans hB65 hb69
      have x73 := x66.but hb69 (by omega)
      have hs74 : w.heap.size + 1 ≤ W68.heap.size := Nat.le_trans hs67 hb69.size
      clear hat70 hB65 x66
      have hdd : Rds (Fr (w.heap.size + 1)) W68 _ [y0, y1, y2] := hv.in fun k hk => Nat.le_trans (by assumption) hk
      go_wp2_with (refine wpList_store_row rfl 50 (.tmp 2) (.tmp 18) rfl w.heap.size _ rfl rfl 50 _ x73 (by kernel_rfl) rfl (hdd.all) ?_)
      refine bodyPost_ret (results_cell_row rfl _ _ w.heap.size _ _ _ (.struct _) rfl (x73.set _) rfl rfl (by kernel_rfl)) rfl ?_
      exact Or.inl ⟨_, _, _, _, hr.symm, rfl, ⟨_, _, _, rfl, (hdd.row (by simp [Fr]) _).in fun k hk => by simp [Fr] at hk ⊢; omega⟩, at71.row _ hsz hbz, by omega, But.row hB72 (Nat.le_refl _) _⟩
    · try simp only [if_true] at hr
      obtain ⟨rfl, _⟩ := acc_yes hm57
      clear hm57
      by_cases ek2 : (tkn L ((j26 + 1) + 1)).k = 2
      rotate_left
      · have hm : dens L ((j26 + 1) + 1) q56 = .no ((j26 + 1) + 1) 4 := by unfold dens; rw [if_neg ek2]
        rw [bd_no hm] at hr
        have hj := at64.hi
        go_wp2_with fail
        refine (HT2.out _ _ _ at64 ek2).mono ?_
        rintro en W9 ⟨rfl, hb9⟩
        go_wp2
        exact post_panic (fn := Tryz.f195) rfl (Or.inr ⟨((j26 + 1) + 1), 4, hr.symm, rfl, hj, But.trans hB65 hb9⟩)
      obtain ⟨u0, u1, u2⟩ := HD.out _ _ _ at64 ek2
      have z2 : (bt (tkn L ((j26 + 1) + 1)).t).size ≤ 60 := u1
      go_wp2_with fail
      refine (HT1.out _ _ _ at64 ek2).mono ?_
      rintro en W75 ⟨rfl, hat76, hb77⟩
      have at78 := hat76
      have hB79 : But g w W75 := But.trans hB65 hb77
      have x80 := x66.but hb77 (by omega)
      have hs81 : w.heap.size + 1 ≤ W75.heap.size := Nat.le_trans hs67 hb77.size
      clear hat76 hB65 x66
      go_wp2_with fail
      have hx : (((⟨#[]⟩ : ByteArray) ++ bt (tkn L j26).t) ++ ⟨#[47]⟩) ++ bt (tkn L ((j26 + 1) + 1)).t = bt ((if false then [45] else []) ++ ((tkn L j26).t ++ 47 :: (tkn L ((j26 + 1) + 1)).t)) := by apply ByteArray.ext; simp [bt]
      rw [hx]
      clear hx
      refine (HV2.out _ _ _ false (tkn L j26).t (tkn L ((j26 + 1) + 1)).t at78 d0 d1 d2 u0 u1 u2).mono ?_
      have hd9 : dens L ((j26 + 1) + 1) q56 = (if numv (tkn L ((j26 + 1) + 1)).t = 0 then .no ((j26 + 1) + 1) 3 else .ok (tkn L ((j26 + 1) + 1)).t (((j26 + 1) + 1) + 1) q56) := by unfold dens; rw [if_pos ek2]
      by_cases e0 : numv (tkn L ((j26 + 1) + 1)).t = 0
      · rw [if_pos e0] at hd9 ⊢
        rw [bd_no hd9] at hr
        rintro en W82 (⟨rv, j9, q9, v9, hm9, _⟩ | ⟨j9, e9, hm9, rfl, hj9, hb83⟩)
        · cases hm9
        injection hm9 with m1 m2
        subst m1 m2
        go_wp2
        exact post_panic (fn := Tryz.f195) rfl (Or.inr ⟨_, 3, hr.symm, rfl, hj9, But.trans hB79 hb83⟩)
      rw [if_neg e0] at hd9 ⊢
      rw [bd_ok hd9] at hr
      rintro en W82 (⟨rv, j9, q9, v9, hm9, rfl, ⟨y0, y1, y2, rfl, hv⟩, hat84, hle9, hb83⟩ | ⟨j9, e9, hm9, rfl, hj9, hb83⟩)
      rotate_left
      · cases hm9
      injection hm9 with m1 m2 m3
      subst m1 m2 m3
      clear hd9 e0
      have at85 := hat84
      have hB86 : But g w W82 := But.trans hB79 hb83
      have x87 := x80.but hb83 (by omega)
      have hs88 : w.heap.size + 1 ≤ W82.heap.size := Nat.le_trans hs81 hb83.size
      clear hat84 hB79 x80
      have hz : Rds (Fr (w.heap.size + 1)) W82 _ [y0, y1, y2] := hv.in fun k hk => Nat.le_trans (by assumption) hk
      clear hv
      have ones90 := Rds.all hz
      go_wp2_with (refine wpList_store_row rfl 50 (.tmp 4) (.tmp 25) rfl W82.heap.size _ rfl rfl 50 _ (box_alloc W82 50 #[.bool false, .slice none 0 0, .slice none 0 0]) (by kernel_rfl) rfl ones90 ?_)
      rw [World.setRow_alloc_new]
      try simp only [Act.put]
      have bl91 := allocB W82 (.cells #[y0, y1, y2] 50)
      have x92 := box_alloc W82 50 #[y0, y1, y2]
      have at93 := at85.new bl91
      have hB94 : But g w (W82.alloc (.cells #[y0, y1, y2] 50)) := But.trans hB86 (But.of_below bl91)
      have x95 := x87.new bl91
      have d96 := hz.new bl91
      have hs97 : w.heap.size + 1 ≤ (W82.alloc (.cells #[y0, y1, y2] 50)).heap.size := Nat.le_trans hs88 bl91.size
      clear at85 hB86 x87 hz
      generalize W82.alloc (.cells #[y0, y1, y2] 50) = W89 at *
      generalize hgeb98 : W82.heap.size = eb98 at *
      clear hgeb98 bl91 ones90
      have hleb98 := x92.lt
      go_wp2_with fail
      refine (HK.out _ _ _ at93 ek2).mono ?_
      rintro en W99 ⟨rfl, hat100, hb101⟩
      have at102 := hat100
      have hB103 : But g w W99 := But.trans hB94 hb101
      have x104 := x95.but hb101 (by omega)
      have x105 := x92.but hb101 (by omega)
      have d106 := d96.but hb101 (by simp [Fr]; omega)
      have hs107 : w.heap.size + 1 ≤ W99.heap.size := Nat.le_trans hs97 hb101.size
      clear hat100 hB94 x95 x92 d96
      have onesF := Rds.all d106
      go_wp2_with (first | (refine wpList_load_row rfl 50 (.tmp 4) rfl (eb98) rfl 50 _ (0, 0) (.struct _) x105 rfl rfl (by kernel_rfl) ?_) | (refine wpList_store_row rfl 50 (.tmp 2) (.tmp 28) rfl w.heap.size _ rfl rfl 50 _ x104 (by kernel_rfl) rfl onesF ?_))
      refine bodyPost_ret (results_cell_row rfl _ _ w.heap.size _ _ _ (.struct _) rfl (x104.set _) rfl rfl (by kernel_rfl)) rfl ?_
      exact Or.inl ⟨_, (((j26 + 1) + 1) + 1), q56, _, hr.symm, rfl, ⟨_, _, _, rfl, (d106.row (by simp [Fr]) _).in fun k hk => by simp [Fr] at hk ⊢; omega⟩, at102.row _ hsz hbz, by omega, But.row hB103 (Nat.le_refl _) _⟩
  · try simp only [if_true] at hr
    obtain ⟨rfl, _⟩ := acc_yes hm28
    clear hm28
    by_cases ek : (tkn L (i + 1)).k = 2
    rotate_left
    · have hm : digs L (i + 1) q27 = .no (i + 1) 4 := by unfold digs; rw [if_neg ek]
      rw [bd_no hm] at hr
      have hj := at35.hi
      go_wp2_with fail
      refine (HT2.out _ _ _ at35 ek).mono ?_
      rintro en W9 ⟨rfl, hb9⟩
      go_wp2
      exact post_panic (fn := Tryz.f195) rfl (Or.inr ⟨(i + 1), 4, hr.symm, rfl, hj, But.trans hB36 hb9⟩)
    have hm : digs L (i + 1) q27 = .ok (tkn L (i + 1)).t ((i + 1) + 1) q27 := by unfold digs; rw [if_pos ek]
    rw [bd_ok hm] at hr
    obtain ⟨d0, d1, d2⟩ := HD.out _ _ _ at35 ek
    have z1 : (bt (tkn L (i + 1)).t).size ≤ 60 := d1
    clear hm
    go_wp2_with fail
    refine (HT1.out _ _ _ at35 ek).mono ?_
    rintro en W108 ⟨rfl, hat109, hb110⟩
    have at111 := hat109
    have hB112 : But g w W108 := But.trans hB36 hb110
    have x113 := x37.but hb110 (by omega)
    have hs114 : w.heap.size + 1 ≤ W108.heap.size := Nat.le_trans hs38 hb110.size
    clear hat109 hB36 x37
    go_wp2_with fail
    refine (HK.out _ _ _ at111 ek).mono ?_
    rintro en W115 ⟨rfl, hat116, hb117⟩
    have at118 := hat116
    have hB119 : But g w W115 := But.trans hB112 hb117
    have x120 := x113.but hb117 (by omega)
    have hs121 : w.heap.size + 1 ≤ W115.heap.size := Nat.le_trans hs114 hb117.size
    clear hat116 hB112 x113
    clear ek
    go_wp2_with fail
    refine (HA.out _ _ _ [47] (by decide) at118).mono ?_
    rintro en W123 (⟨t122, j124, q125, v132, hm126, rfl, rfl, hat127, hle128, hb129⟩ | ⟨j124, er130, hm126, rfl, hj131, hb129⟩)
    rotate_left
    · rw [bd_no hm126] at hr
      go_wp2
      exact post_panic (fn := Tryz.f195) rfl (Or.inr ⟨j124, er130, hr.symm, rfl, hj131, But.trans hB119 hb129⟩)
    rw [bd_ok hm126] at hr
    have at133 := hat127
    have hB134 : But g w W123 := But.trans hB119 hb129
    have x135 := x120.but hb129 (by omega)
    have hs136 : w.heap.size + 1 ≤ W123.heap.size := Nat.le_trans hs121 hb129.size
    clear hat127 hB119 x120
    cases t122
    · try simp only [Bool.false_eq_true, if_false] at hr
      obtain ⟨rfl, rfl, _⟩ := acc_not hm126
      clear hm126
      go_wp2_with fail
      have hx : (⟨#[45]⟩ : ByteArray) ++ bt (tkn L (i + 1)).t = bt ((if true then [45] else []) ++ (tkn L (i + 1)).t) := by apply ByteArray.ext; simp [bt]
      rw [hx]
      clear hx
      refine (HV1.out _ _ _ true (tkn L (i + 1)).t at133 d0 d1 d2).mono ?_
      rintro en W137 (⟨rv, j9, q9, v9, hm9, rfl, ⟨y0, y1, y2, rfl, hv⟩, hat139, hle9, hb138⟩ | ⟨j9, e9, hm9, rfl, hj9, hb138⟩)
      rotate_left
      · cases hm9
      injection hm9 with m1 m2 m3
      subst m1 m2 m3
      have at140 := hat139
      have hB141 : But g w W137 := But.trans hB134 hb138
      have x142 := x135.but hb138 (by omega)
      have hs143 : w.heap.size + 1 ≤ W137.heap.size := Nat.le_trans hs136 hb138.size
      clear hat139 hB134 x135
      have hdd : Rds (Fr (w.heap.size + 1)) W137 _ [y0, y1, y2] := hv.in fun k hk => Nat.le_trans (by assumption) hk
      go_wp2_with (refine wpList_store_row rfl 50 (.tmp 2) (.tmp 18) rfl w.heap.size _ rfl rfl 50 _ x142 (by kernel_rfl) rfl (hdd.all) ?_)
      refine bodyPost_ret (results_cell_row rfl _ _ w.heap.size _ _ _ (.struct _) rfl (x142.set _) rfl rfl (by kernel_rfl)) rfl ?_
      exact Or.inl ⟨_, _, _, _, hr.symm, rfl, ⟨_, _, _, rfl, (hdd.row (by simp [Fr]) _).in fun k hk => by simp [Fr] at hk ⊢; omega⟩, at140.row _ hsz hbz, by omega, But.row hB141 (Nat.le_refl _) _⟩
    · try simp only [if_true] at hr
      obtain ⟨rfl, _⟩ := acc_yes hm126
      clear hm126
      by_cases ek2 : (tkn L (((i + 1) + 1) + 1)).k = 2
      rotate_left
      · have hm : dens L (((i + 1) + 1) + 1) q125 = .no (((i + 1) + 1) + 1) 4 := by unfold dens; rw [if_neg ek2]
        rw [bd_no hm] at hr
        have hj := at133.hi
        go_wp2_with fail
        refine (HT2.out _ _ _ at133 ek2).mono ?_
        rintro en W9 ⟨rfl, hb9⟩
        go_wp2
        exact post_panic (fn := Tryz.f195) rfl (Or.inr ⟨(((i + 1) + 1) + 1), 4, hr.symm, rfl, hj, But.trans hB134 hb9⟩)
      obtain ⟨u0, u1, u2⟩ := HD.out _ _ _ at133 ek2
      have z2 : (bt (tkn L (((i + 1) + 1) + 1)).t).size ≤ 60 := u1
      go_wp2_with fail
      refine (HT1.out _ _ _ at133 ek2).mono ?_
      rintro en W144 ⟨rfl, hat145, hb146⟩
      have at147 := hat145
      have hB148 : But g w W144 := But.trans hB134 hb146
      have x149 := x135.but hb146 (by omega)
      have hs150 : w.heap.size + 1 ≤ W144.heap.size := Nat.le_trans hs136 hb146.size
      clear hat145 hB134 x135
      go_wp2_with fail
      have hx : (((⟨#[45]⟩ : ByteArray) ++ bt (tkn L (i + 1)).t) ++ ⟨#[47]⟩) ++ bt (tkn L (((i + 1) + 1) + 1)).t = bt ((if true then [45] else []) ++ ((tkn L (i + 1)).t ++ 47 :: (tkn L (((i + 1) + 1) + 1)).t)) := by apply ByteArray.ext; simp [bt]
      rw [hx]
      clear hx
      refine (HV2.out _ _ _ true (tkn L (i + 1)).t (tkn L (((i + 1) + 1) + 1)).t at147 d0 d1 d2 u0 u1 u2).mono ?_
      have hd9 : dens L (((i + 1) + 1) + 1) q125 = (if numv (tkn L (((i + 1) + 1) + 1)).t = 0 then .no (((i + 1) + 1) + 1) 3 else .ok (tkn L (((i + 1) + 1) + 1)).t ((((i + 1) + 1) + 1) + 1) q125) := by unfold dens; rw [if_pos ek2]
      by_cases e0 : numv (tkn L (((i + 1) + 1) + 1)).t = 0
      · rw [if_pos e0] at hd9 ⊢
        rw [bd_no hd9] at hr
        rintro en W151 (⟨rv, j9, q9, v9, hm9, _⟩ | ⟨j9, e9, hm9, rfl, hj9, hb152⟩)
        · cases hm9
        injection hm9 with m1 m2
        subst m1 m2
        go_wp2
        exact post_panic (fn := Tryz.f195) rfl (Or.inr ⟨_, 3, hr.symm, rfl, hj9, But.trans hB148 hb152⟩)
      rw [if_neg e0] at hd9 ⊢
      rw [bd_ok hd9] at hr
      rintro en W151 (⟨rv, j9, q9, v9, hm9, rfl, ⟨y0, y1, y2, rfl, hv⟩, hat153, hle9, hb152⟩ | ⟨j9, e9, hm9, rfl, hj9, hb152⟩)
      rotate_left
      · cases hm9
      injection hm9 with m1 m2 m3
      subst m1 m2 m3
      clear hd9 e0
      have at154 := hat153
      have hB155 : But g w W151 := But.trans hB148 hb152
      have x156 := x149.but hb152 (by omega)
      have hs157 : w.heap.size + 1 ≤ W151.heap.size := Nat.le_trans hs150 hb152.size
      clear hat153 hB148 x149
      have hz : Rds (Fr (w.heap.size + 1)) W151 _ [y0, y1, y2] := hv.in fun k hk => Nat.le_trans (by assumption) hk
      clear hv
      have ones159 := Rds.all hz
      go_wp2_with (refine wpList_store_row rfl 50 (.tmp 4) (.tmp 25) rfl W151.heap.size _ rfl rfl 50 _ (box_alloc W151 50 #[.bool false, .slice none 0 0, .slice none 0 0]) (by kernel_rfl) rfl ones159 ?_)
      rw [World.setRow_alloc_new]
      try simp only [Act.put]
      have bl160 := allocB W151 (.cells #[y0, y1, y2] 50)
      have x161 := box_alloc W151 50 #[y0, y1, y2]
      have at162 := at154.new bl160
      have hB163 : But g w (W151.alloc (.cells #[y0, y1, y2] 50)) := But.trans hB155 (But.of_below bl160)
      have x164 := x156.new bl160
      have d165 := hz.new bl160
      have hs166 : w.heap.size + 1 ≤ (W151.alloc (.cells #[y0, y1, y2] 50)).heap.size := Nat.le_trans hs157 bl160.size
      clear at154 hB155 x156 hz
      generalize W151.alloc (.cells #[y0, y1, y2] 50) = W158 at *
      generalize hgeb167 : W151.heap.size = eb167 at *
      clear hgeb167 bl160 ones159
      have hleb167 := x161.lt
      go_wp2_with fail
      refine (HK.out _ _ _ at162 ek2).mono ?_
      rintro en W168 ⟨rfl, hat169, hb170⟩
      have at171 := hat169
      have hB172 : But g w W168 := But.trans hB163 hb170
      have x173 := x164.but hb170 (by omega)
      have x174 := x161.but hb170 (by omega)
      have d175 := d165.but hb170 (by simp [Fr]; omega)
      have hs176 : w.heap.size + 1 ≤ W168.heap.size := Nat.le_trans hs166 hb170.size
      clear hat169 hB163 x164 x161 d165
      have onesF := Rds.all d175
      go_wp2_with (first | (refine wpList_load_row rfl 50 (.tmp 4) rfl (eb167) rfl 50 _ (0, 0) (.struct _) x174 rfl rfl (by kernel_rfl) ?_) | (refine wpList_store_row rfl 50 (.tmp 2) (.tmp 28) rfl w.heap.size _ rfl rfl 50 _ x173 (by kernel_rfl) rfl onesF ?_))
      refine bodyPost_ret (results_cell_row rfl _ _ w.heap.size _ _ _ (.struct _) rfl (x173.set _) rfl rfl (by kernel_rfl)) rfl ?_
      exact Or.inl ⟨_, ((((i + 1) + 1) + 1) + 1), q125, _, hr.symm, rfl, ⟨_, _, _, rfl, (d175.row (by simp [Fr]) _).in fun k hk => by simp [Fr] at hk ⊢; omega⟩, at171.row _ hsz hbz, by omega, But.row hB172 (Nat.le_refl _) _⟩
theorem fr_ok (g b n c : Nat) (L : List Tok) : FrOk g b n c L := fun _ _ _ h _ => fraction_x h
end Ps
end Go.Proofs.YtggdhgppclnckaaGreatDoor
