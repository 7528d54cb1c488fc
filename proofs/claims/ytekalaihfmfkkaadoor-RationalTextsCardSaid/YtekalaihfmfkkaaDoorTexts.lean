/-
  exactppllaw02.RationalTexts returns true for every fraction, whatever the memory, if noStep holds what the program's text lays.
-/
import Derived.Test.YtekalaihfmfkkaaDoorRatT
import Derived.Test.YtekalaihfmfkkaaDoorRefNorm
import Derived.Test.YtekalaihfmfkkaaDoorRefFormat
import Derived.Test.YtekalaihfmfkkaaDoorShort2
namespace Go.Proofs.YtekalaihfmfkkaaDoor
open Go.RowKit
set_option maxRecDepth 100000

theorem refFormat_d {w : World} {A : Option Addr} {n c : Nat} {x : Int} (hx : Num w A n c x) (hn : n ≤ 900000) (N : Nat) (hN : x = (N : Int)) : Calls Tryd.prog 9 #[.slice A n c] w (TextB w (dec N)) := by
  obtain ⟨L, h1, rfl⟩ := hx
  exact refFormat_any A n c L w N h1 hn hN
theorem ratText_size {q : Rat} {k : Nat} (h1 : (q.num.natAbs : Int) < pw k) (h2 : (q.den : Int) < pw k) : (ratText q).size ≤ 20 * k + 4 := by
  have z1 := dec_size h1
  have z2 := dec_size h2
  have a1 : (⟨#[45]⟩ : ByteArray).size = 1 := rfl
  have a2 : (⟨#[47]⟩ : ByteArray).size = 1 := rfl
  unfold ratText
  split <;> split <;> (try simp only [ByteArray.size_append, a1, a2]) <;> omega
theorem Loose.parts {w : World} {s : Bool} {A B : Option Addr} {n c m d k : Nat} {q : Rat} (h : Loose w s A n c B m d q k) (k0 : 1 ≤ k) : (q.num.natAbs : Int) < pw k ∧ (q.den : Int) < pw k := by
  obtain ⟨x, y, hx, hy, hq, hn, hm⟩ := h
  have x0 := hx.nonneg
  have y0 := hy.nonneg
  have px : x < pw k := pw_up hx.lt hn
  have py : y < pw k := pw_up hy.lt hm
  by_cases h0 : y = 0
  · subst h0
    rw [rat_over_zero] at hq
    subst hq
    have : (1 : Int) < pw k := Int.lt_of_lt_of_le (show (1 : Int) < pw 1 by decide) (pw_mono k0)
    exact ⟨by show (0 : Int) < _; omega, by show (1 : Int) < _; omega⟩
  · subst hq
    rw [rat_abs s x0 (by omega), rat_den s (by omega)]
    exact ⟨ediv_lt_pw x0 px, ediv_lt_pw y0 py⟩

set_option maxHeartbeats 40000000 in
theorem rationalTexts.walk {A B : Option Addr} {n c m d : Nat} {s : Bool} {x y : Int} {w : World} (hl : Laid w) (gx : Num w A n c x) (gy : Num w B m d y) :
    Calls Tryd.prog 3 #[.agg #[.bool s, .slice A n c, .slice B m d]] w (True1 w) := by
  obtain ⟨v, hv⟩ : ∃ v, w.alloc (.cells #[.bool s, .slice A n c, .slice B m d] 24) = v := ⟨_, rfl⟩
  obtain ⟨p, hp, hsz, bv, hC, _⟩ := boxes0 w _ _ _ _ v hv
  have HC := Lib.hid hC
  have HP := Lib.hid hp
  have HV := Lib.hid hv
  replace gx := gx.below bv
  replace gy := gy.below bv
  replace hl := hl.below bv
  clear hC hp hv
  go_enter Tryd.func3, Tryd.ntmps3
  obtain ⟨a0, a1, a2⟩ := HC.out _ (Below.refl _ _)
  rw [← HV.out, HP.out] at a0 a1 a2
  go_wp2_with fail
  rw [HV.out, ← HP.out]
  clear a0 a1 a2
  by_cases h1 : 12 < n ∨ 12 < m
  · refine (short2_no s v h1).mono ?_
    rintro e w1 ⟨rfl, k1⟩
    go_wp2_with fail
    refine (awake2_any w1 (hl.below k1)).mono ?_
    rintro e w2 ⟨rfl, k2⟩
    go_wp2
    go_ret
    exact ⟨rfl, nextB bv (nextB k1 k2)⟩
  refine (short2_yes s v (by omega) (by omega)).mono ?_
  rintro e w1 ⟨rfl, k1⟩
  obtain ⟨q, hq⟩ : ∃ q, rat s x y = q := ⟨_, rfl⟩
  have la : Loose v s A n c B m d q 12 := ⟨x, y, gx, gy, hq, by omega, by omega⟩
  have hpt := la.parts (by decide)
  have HPT := Lib.hid hpt
  clear gx gy hq h1 hpt
  obtain ⟨a0, a1, a2⟩ := HC.out _ k1
  go_wp2_with fail
  refine (ratFormat_r (hl.below k1) (la.below k1) (by decide) (by decide)).mono ?_
  rintro e w2 ⟨rfl, k2⟩
  replace k2 := nextB k1 k2
  clear a0 a1 a2
  go_wp2_with fail
  have HCT := Lib.hid (ratBody_cut q)
  have hts : (ratText q).size ≤ 1000000 := Nat.le_trans (ratText_size HPT.out.1 HPT.out.2) (by decide)
  have hU := ratText_unsigned q
  have hS := ratText_signed q
  obtain ⟨v1, e1, hr1⟩ := readsAs_ex (dec q.num.natAbs)
  obtain ⟨v2, e2, hr2⟩ := readsAs_ex (dec q.den)
  have HPA := ratParse_g (ratText q) (dec q.num.natAbs).size w2 (hl.below k2) hts (v1 := v1) (e1 := e1) (v2 := v2) (e2 := e2) (by rw [hU]; exact HCT.out.1) (by rw [hU, HCT.out.2.1]; exact hr1) (by rw [hU, HCT.out.2.2]; exact hr2)
  rw [hS] at HPA
  have HPA' := Lib.hid HPA
  clear HPA hU hS hts
  refine HPA'.out.mono ?_
  rintro e w3 HG
  clear HPA'
  have tailN : ∀ W, Below v.heap.size v W → Calls Tryd.prog 8 #[.agg #[.bool s, .slice A n c, .slice B m d]] W (GivesR W q 12) := fun W hW => refNorm_r (la.below hW) (by decide) (by decide)
  have HTN := Lib.hid tailN
  clear tailN la
  by_cases hA1 : (dec q.num.natAbs).size ≤ 60
  · have hz1 : e1 = 0 ∧ v1 = (q.num.natAbs : Int) := by
      rcases hr1 with ⟨h, _, _, _, h2⟩ | ⟨_, _, h, _⟩ | ⟨_, _, h | ⟨j, hj, _, hb⟩⟩
      · exact ⟨h, by rw [h2, dec_data, rev_dv]⟩
      · omega
      · have := dec_pos q.num.natAbs; omega
      · have := dec_byte q.num.natAbs j hj; omega
    obtain ⟨rfl, rfl⟩ := hz1
    by_cases hA2 : (dec q.den).size ≤ 60
    · have hz2 : e2 = 0 ∧ v2 = (q.den : Int) := by
        rcases hr2 with ⟨h, _, _, _, h2⟩ | ⟨_, _, h, _⟩ | ⟨_, _, h | ⟨j, hj, _, hb⟩⟩
        · exact ⟨h, by rw [h2, dec_data, rev_dv]⟩
        · omega
        · have := dec_pos q.den; omega
        · have := dec_byte q.den j hj; omega
      obtain ⟨rfl, rfl⟩ := hz2
      have hok := HG.2.2.2 rfl rfl (by have := q.den_pos; omega)
      rw [rat_self] at hok
      obtain ⟨s4, A4, n4, c4, B4, m4, d4, rfl, r4, _, _, k3⟩ := hok
      clear HG hr1 hr2
      replace k3 := nextB k2 k3
      have ba := (Below.refl w3.heap.size w3).alloc (Nat.le_refl _) (.cells #[.bool s4, .slice A4 n4 c4, .slice B4 m4 d4] 24)
      have hgb : w3.heap.size < (w3.alloc (.cells #[.bool s4, .slice A4 n4 c4, .slice B4 m4 d4] 24)).heap.size := by rw [World.size_alloc]; exact Nat.lt_succ_self _
      have HX := Lib.hid (three_cells hgb ((World.cell?_alloc_new ..).trans rfl) ((World.cell?_alloc_new ..).trans rfl) ((World.cell?_alloc_new ..).trans rfl))
      have k4 := nextB k3 ba
      obtain ⟨a0, a1, a2⟩ := HC.out _ k4
      go_wp2_with fail
      refine (HTN.out _ k4).mono ?_
      rintro e w5 ⟨s5, A5, n5, c5, B5, m5, d5, rfl, r5, _, _, b5⟩
      have bb := (Below.refl w5.heap.size w5).alloc (Nat.le_refl _) (.cells #[.bool s5, .slice A5 n5 c5, .slice B5 m5 d5] 24)
      have hgc : w5.heap.size < (w5.alloc (.cells #[.bool s5, .slice A5 n5 c5, .slice B5 m5 d5] 24)).heap.size := by rw [World.size_alloc]; exact Nat.lt_succ_self _
      have HY := Lib.hid (three_cells hgc ((World.cell?_alloc_new ..).trans rfl) ((World.cell?_alloc_new ..).trans rfl) ((World.cell?_alloc_new ..).trans rfl))
      have hn5 := r5.2.2.2.1
      have hm5 := r5.2.2.2.2
      have F1 := Lib.hid (refFormat_d (r5.2.1.num.below bb) (by omega) q.num.natAbs rfl)
      clear a0 a1 a2 hgb hgc
      go_wp2_with fail
      refine F1.out.mono ?_
      rintro e w6 ⟨rfl, b6⟩
      obtain ⟨y0, y1, y2⟩ := HY.out _ b6
      have F2 := Lib.hid (refFormat_d (r5.2.2.1.num.below (nextB bb b6)) (by omega) q.den rfl)
      go_wp2_with fail
      refine F2.out.mono ?_
      rintro e w7 ⟨rfl, b7⟩
      clear y0 y1 y2
      obtain ⟨y0, y1, y2⟩ := HY.out _ (nextB b6 b7)
      have b57 := nextB b5 (nextB bb (nextB b6 b7))
      obtain ⟨x0, x1, x2⟩ := HX.out _ b57
      have k7 := nextB k4 b57
      have SM := Lib.hid (sameR_true ((r4.below ba).below b57) (r5.below (nextB bb (nextB b6 b7))) rfl)
      go_wp2_with fail
      refine SM.out.mono ?_
      rintro e w8 ⟨rfl, b8⟩
      replace k7 := nextB k7 b8
      have AWK := Lib.hid (awake2_any _ (hl.below k7))
      go_wp2_with fail
      refine AWK.out.mono ?_
      rintro e w9 ⟨rfl, b9⟩
      go_wp2
      go_ret
      exact ⟨rfl, nextB bv (nextB k7 b9)⟩
    · have hA3 : 60 < (dec q.den).size := by omega
      have hz2 : e2 = 9 := by
        rcases hr2 with ⟨_, _, _, h, _⟩ | ⟨h, _, _, _⟩ | ⟨_, _, h | ⟨j, hj, _, hb⟩⟩
        · omega
        · exact h
        · have := dec_pos q.den; omega
        · have := dec_byte q.den j hj; omega
      subst hz2
      obtain ⟨rfl, k3⟩ := HG.2.1 (by decide) (by decide) (.inr rfl)
      clear HG hr1 hr2 hA2
      replace k3 := nextB k2 k3
      have ba := (Below.refl w3.heap.size w3).alloc (Nat.le_refl _) (.cells #[.bool false, .slice none 0 0, .slice none 0 0] 24)
      have hgb : w3.heap.size < (w3.alloc (.cells #[.bool false, .slice none 0 0, .slice none 0 0] 24)).heap.size := by rw [World.size_alloc]; exact Nat.lt_succ_self _
      have HX := Lib.hid (three_cells hgb ((World.cell?_alloc_new ..).trans rfl) ((World.cell?_alloc_new ..).trans rfl) ((World.cell?_alloc_new ..).trans rfl))
      have k4 := nextB k3 ba
      obtain ⟨a0, a1, a2⟩ := HC.out _ k4
      go_wp2_with fail
      refine (HTN.out _ k4).mono ?_
      rintro e w5 ⟨s5, A5, n5, c5, B5, m5, d5, rfl, r5, _, _, b5⟩
      have bb := (Below.refl w5.heap.size w5).alloc (Nat.le_refl _) (.cells #[.bool s5, .slice A5 n5 c5, .slice B5 m5 d5] 24)
      have hgc : w5.heap.size < (w5.alloc (.cells #[.bool s5, .slice A5 n5 c5, .slice B5 m5 d5] 24)).heap.size := by rw [World.size_alloc]; exact Nat.lt_succ_self _
      have HY := Lib.hid (three_cells hgc ((World.cell?_alloc_new ..).trans rfl) ((World.cell?_alloc_new ..).trans rfl) ((World.cell?_alloc_new ..).trans rfl))
      have hn5 := r5.2.2.2.1
      have hm5 := r5.2.2.2.2
      have F1 := Lib.hid (refFormat_d (r5.2.1.num.below bb) (by omega) q.num.natAbs rfl)
      clear a0 a1 a2 hgb hgc
      go_wp2_with fail
      refine F1.out.mono ?_
      rintro e w6 ⟨rfl, b6⟩
      obtain ⟨y0, y1, y2⟩ := HY.out _ b6
      have F2 := Lib.hid (refFormat_d (r5.2.2.1.num.below (nextB bb b6)) (by omega) q.den rfl)
      go_wp2_with fail
      refine F2.out.mono ?_
      rintro e w7 ⟨rfl, b7⟩
      clear y0 y1 y2
      obtain ⟨y0, y1, y2⟩ := HY.out _ (nextB b6 b7)
      have b57 := nextB b5 (nextB bb (nextB b6 b7))
      obtain ⟨x0, x1, x2⟩ := HX.out _ b57
      have k7 := nextB k4 b57
      have AWK := Lib.hid (awake2_any _ (hl.below k7))
      go_wp2_with fail
      refine AWK.out.mono ?_
      rintro e w9 ⟨rfl, b9⟩
      go_wp2
      go_ret
      exact ⟨rfl, nextB bv (nextB k7 b9)⟩
  · have hA3 : 60 < (dec q.num.natAbs).size := by omega
    have hz1 : e1 = 9 := by
      rcases hr1 with ⟨_, _, _, h, _⟩ | ⟨h, _, _, _⟩ | ⟨_, _, h | ⟨j, hj, _, hb⟩⟩
      · omega
      · exact h
      · have := dec_pos q.num.natAbs; omega
      · have := dec_byte q.num.natAbs j hj; omega
    subst hz1
    have hbe9 : BlankE w2 9 e w3 := by
      refine HG.2.1 (by decide) (fun h => ?_) (.inl rfl)
      subst h
      rcases hr2 with ⟨h, _⟩ | ⟨h, _⟩ | ⟨_, _, h | ⟨j, hj, _, hb⟩⟩
      · omega
      · omega
      · have := dec_pos q.den; omega
      · have := dec_byte q.den j hj; omega
    obtain ⟨rfl, k3⟩ := hbe9
    clear HG hr1 hr2 hA1
    replace k3 := nextB k2 k3
    have ba := (Below.refl w3.heap.size w3).alloc (Nat.le_refl _) (.cells #[.bool false, .slice none 0 0, .slice none 0 0] 24)
    have hgb : w3.heap.size < (w3.alloc (.cells #[.bool false, .slice none 0 0, .slice none 0 0] 24)).heap.size := by rw [World.size_alloc]; exact Nat.lt_succ_self _
    have HX := Lib.hid (three_cells hgb ((World.cell?_alloc_new ..).trans rfl) ((World.cell?_alloc_new ..).trans rfl) ((World.cell?_alloc_new ..).trans rfl))
    have k4 := nextB k3 ba
    obtain ⟨a0, a1, a2⟩ := HC.out _ k4
    go_wp2_with fail
    refine (HTN.out _ k4).mono ?_
    rintro e w5 ⟨s5, A5, n5, c5, B5, m5, d5, rfl, r5, _, _, b5⟩
    have bb := (Below.refl w5.heap.size w5).alloc (Nat.le_refl _) (.cells #[.bool s5, .slice A5 n5 c5, .slice B5 m5 d5] 24)
    have hgc : w5.heap.size < (w5.alloc (.cells #[.bool s5, .slice A5 n5 c5, .slice B5 m5 d5] 24)).heap.size := by rw [World.size_alloc]; exact Nat.lt_succ_self _
    have HY := Lib.hid (three_cells hgc ((World.cell?_alloc_new ..).trans rfl) ((World.cell?_alloc_new ..).trans rfl) ((World.cell?_alloc_new ..).trans rfl))
    have hn5 := r5.2.2.2.1
    have hm5 := r5.2.2.2.2
    have F1 := Lib.hid (refFormat_d (r5.2.1.num.below bb) (by omega) q.num.natAbs rfl)
    clear a0 a1 a2 hgb hgc
    go_wp2_with fail
    refine F1.out.mono ?_
    rintro e w6 ⟨rfl, b6⟩
    obtain ⟨y0, y1, y2⟩ := HY.out _ b6
    obtain ⟨w7, hw7⟩ : ∃ w7, w7 = w6 := ⟨_, rfl⟩
    have b57 := nextB b5 (nextB bb b6)
    rw [← hw7] at b57 y0 y1 y2 ⊢
    clear hw7
    obtain ⟨x0, x1, x2⟩ := HX.out _ b57
    have k7 := nextB k4 b57
    have AWK := Lib.hid (awake2_any _ (hl.below k7))
    go_wp2_with fail
    refine AWK.out.mono ?_
    rintro e w9 ⟨rfl, b9⟩
    go_wp2
    go_ret
    exact ⟨rfl, nextB bv (nextB k7 b9)⟩
end Go.Proofs.YtekalaihfmfkkaaDoor
