/-
  exactpplref02.lowest, Int, New, Same: the reference's fractions.
-/
import Derived.Test.YtebbnmjmjoklmaaGreatDoorRatDiv
import Derived.Test.YtebbnmjmjoklmaaGreatDoorRefGcd
import Derived.Test.YtebbnmjmjoklmaaGreatDoorRefInt
import Derived.Test.YtebbnmjmjoklmaaGreatDoorRefAdd
namespace Go.Proofs.YtebbnmjmjoklmaaGreatDoor
open Go.RowKit
set_option maxRecDepth 20000

theorem refGcd_o {w : World} {A B : Option Addr} {n c m d : Nat} {x y : Int} (hx : Num w A n c x) (hy : Num w B m d y) (hn : n ≤ 800000) (hm : m ≤ 800000) :
    Calls Tryz.prog 79 #[.slice A n c, .slice B m d] w (GivesO w (Int.gcd x y : Int)) := by
  obtain ⟨L, h1, rfl⟩ := hx
  obtain ⟨M, h2, rfl⟩ := hy
  exact (refGcd_any A B n c m d L M w h1 h2 hn hm _ rfl).mono fun _ _ h => h.o
/-- Quotient and remainder in blocks of their own. -/
def Gives2O (w : World) (q r : Int) (e : Ending) (w' : World) : Prop :=
  ∃ A n c B m d, e = .returned (.tuple #[.slice A n c, .slice B m d, .int .i64 0]) ∧ Nrm w' A n c q ∧ Off w.heap.size A ∧ Nrm w' B m d r ∧ Off w.heap.size B ∧ Below w.heap.size w w'
theorem refDivMod_o {w : World} {A B : Option Addr} {n c m d : Nat} {x y : Int} (hx : Num w A n c x) (hy : Num w B m d y) (hn : n ≤ 800000) (hm : m ≤ 800000) (y0 : 0 < y) :
    Calls Tryz.prog 80 #[.slice A n c, .slice B m d] w (Gives2O w (x / y) (x % y)) := by
  obtain ⟨L, h1, rfl⟩ := hx
  obtain ⟨M, h2, rfl⟩ := hy
  refine (refDivMod_any A B n c m d L M w h1 h2 hn hm y0).mono fun e w' h => ?_
  obtain ⟨A, n, c, Q, B, m, d, R, he, hQ, iQ, hR, iR, hB⟩ := h
  exact ⟨A, n, c, B, m, d, he, Nrm.of_mine hQ iQ, Off.of_mine hQ, Nrm.of_mine hR iR, Off.of_mine hR, hB⟩

set_option maxHeartbeats 1000000 in
theorem lowest_r {w : World} {s : Bool} {A B : Option Addr} {n c m d k : Nat} {q : Rat} (h : Frac w s A n c B m d q k) (hk8 : k ≤ 800000) :
    Calls Tryz.prog 60 #[.bool s, .slice A n c, .slice B m d] w (GivesR w q k) := by
  obtain ⟨x, y, hx, hy, y0, hq, hn, hm⟩ := h
  have x0 := hx.nonneg
  obtain ⟨v1, hv1⟩ : ∃ v1, w.alloc (.cells #[.bool false, .slice none 0 0, .slice none 0 0] 42) = v1 := ⟨_, rfl⟩
  obtain ⟨g, hg, hsz, hb1, hZ, hF⟩ := boxes0 w _ _ _ _ v1 hv1
  have HG := Lib.hid hg
  have HSZ := Lib.hid hsz
  have HZ := Lib.hid hZ
  have HF := Lib.hid hF
  have HV := Lib.hid hv1
  clear hZ hF hv1 hsz hg
  have px : x < pw k := pw_up hx.lt hn
  have py : y < pw k := pw_up hy.lt hm
  have hx1 := hx.below hb1
  have hy1 := hy.below hb1
  have HGC := Lib.hid (refGcd_o hx1 hy1 (by omega) (by omega))
  have g0 := gcd_pos_of (x := x) y0
  have ha : Hid ((q.num.natAbs : Int) = x / (Int.gcd x y : Int)) := by show _ = _; rw [← hq]; exact rat_abs s x0 y0
  have hd : Hid ((q.den : Int) = y / (Int.gcd x y : Int)) := by show _ = _; rw [← hq]; exact rat_den s y0
  have hs : Hid (decide (q.num < 0) = (s && !decide (x = 0))) := by show _ = _; rw [← hq]; exact rat_neg s x0 y0
  have hqx : Hid (x / (Int.gcd x y : Int) = 0 ↔ x = 0) := by
    show _ ↔ _
    constructor
    · exact fun h => ediv_zero_of_dvd (Int.gcd_dvd_left ..) h
    · rintro rfl; exact Int.zero_ediv _
  have gk : Hid ((Int.gcd x y : Int) < pw k) := gcd_lt x0 (Int.le_of_lt y0) px py
  have HPX := Lib.hid (ediv_lt_pw (G := (Int.gcd x y : Int)) x0 px)
  have HPY := Lib.hid (ediv_lt_pw (G := (Int.gcd x y : Int)) (Int.le_of_lt y0) py)
  generalize (Int.gcd x y : Int) = G at *
  clear hq hx hy px py
  have hk := Below.refl v1.heap.size v1
  go_enter Tryz.func60, Tryz.ntmps60
  go_wp2_with fail
  rw [HV.out, ← HG.out]
  refine HGC.out.mono ?_
  rintro e w5 ⟨A5, n5, c5, rfl, h5, o5, b5⟩
  have l5 : n5 ≤ k := h5.short gk.out
  have HD1 := Lib.hid (refDivMod_o (hx1.below b5) h5.num (by omega) (by omega) g0)
  clear HGC
  go_wp2_with fail
  refine HD1.out.mono ?_
  rintro e w6 ⟨A6, n6, c6, X6, m6, d6, rfl, h6, o6, hr6, or6, b6⟩
  have hk6 := nextB b5 b6
  have HD2 := Lib.hid (refDivMod_o (hy1.below hk6) (h5.num.below b6) (by omega) (by omega) g0)
  clear HD1 hr6 or6
  go_wp2_with fail
  refine HD2.out.mono ?_
  rintro e w' ⟨A7, n7, c7, X7, m7, d7, rfl, h7, o7, hr7, or7, b7⟩
  have hk7 := nextB hk6 b7
  obtain ⟨o0, o1, o2⟩ := HZ.out _ hk7
  obtain ⟨f0, f1, f2⟩ := HF.out _ hk7
  have hb5 := b5.size
  have hb6 := b6.size
  have h6' := h6.below b7
  have l6 := h6.short HPX.out
  have l7 := h7.short HPY.out
  have h60 := h6.len_iff
  have HN6 : Hid (n6 = 0 ↔ x = 0) := h60.trans hqx.out
  clear HD2 hr7 or7 h6 h60
  have fin : ∀ t, t = decide (q.num < 0) → RN w' t A6 n6 c6 A7 n7 c7 q k := fun t ht => ⟨ht, by rw [ha.out]; exact h6', by rw [hd.out]; exact h7, l6, l7⟩
  have HFIN := Lib.hid fin
  clear fin
  cases s
  · go_wp2
    exact bodyPost_ret (v := .agg #[.bool false, .slice A6 n6 c6, .slice A7 n7 c7]) (by simp [results, Tryz.results60, go_sem, o0, o1, o2]) rfl ⟨_, _, _, _, _, _, _, rfl,
      store_end (wp := w5) (HFIN.out false (by rw [hs.out]; rfl)) o6 (o7.mono hb6) (by have := HSZ.out; omega) (by rw [HG.out]; omega) (nextB hb1 hk7) _ _ _⟩
  · by_cases hn6 : n6 = 0
    · have hx0 : decide (x = 0) = true := decide_eq_true (HN6.out.1 hn6)
      have HX0 := Lib.hid hx0
      clear hx0
      subst hn6
      go_wp2
      exact bodyPost_ret (v := .agg #[.bool false, .slice A6 0 c6, .slice A7 n7 c7]) (by simp [results, Tryz.results60, go_sem, o0, o1, o2]) rfl ⟨_, _, _, _, _, _, _, rfl,
        store_end (wp := w5) (HFIN.out false (by rw [hs.out, HX0.out]; rfl)) o6 (o7.mono hb6) (by have := HSZ.out; omega) (by rw [HG.out]; omega) (nextB hb1 hk7) _ _ _⟩
    · have hx0 : decide (x = 0) = false := decide_eq_false (fun h => hn6 (HN6.out.2 h))
      have HX0 := Lib.hid hx0
      have hn6' : 0 < n6 := by omega
      clear hx0 hn6
      go_wp2
      exact bodyPost_ret (v := .agg #[.bool true, .slice A6 n6 c6, .slice A7 n7 c7]) (by simp [results, Tryz.results60, go_sem, o0, o1, o2]) rfl ⟨_, _, _, _, _, _, _, rfl,
        store_end (wp := w5) (HFIN.out true (by rw [hs.out, HX0.out]; rfl)) o6 (o7.mono hb6) (by have := HSZ.out; omega) (by rw [HG.out]; omega) (nextB hb1 hk7) _ _ _⟩

theorem sameR_true {w : World} {s s' : Bool} {A B A' B' : Option Addr} {n c m d n' c' m' d' k k' : Nat} {q q' : Rat} (h : RN w s A n c B m d q k) (h' : RN w s' A' n' c' B' m' d' q' k') (e : q = q') :
    Calls Tryz.prog 22 #[.agg #[.bool s, .slice A n c, .slice B m d], .agg #[.bool s', .slice A' n' c', .slice B' m' d']] w (BoolB w true) := by
  subst e
  obtain ⟨rfl, h1, h2, _⟩ := h
  obtain ⟨rfl, h1', h2', _⟩ := h'
  obtain ⟨b, hb⟩ : ∃ b, decide (q.num < 0) = b := ⟨_, rfl⟩
  rw [hb]
  clear hb
  have hb2 := ((Below.refl w.heap.size w).alloc (Nat.le_refl _) (.cells #[.bool b, .slice A n c, .slice B m d] 42)).alloc (by simp) (.cells #[.bool b, .slice A' n' c', .slice B' m' d'] 42)
  have S1 := Lib.hid (same_n (h1.below hb2) (h1'.below hb2) rfl)
  go_enter Tryz.func22, Tryz.ntmps22
  cases b
  all_goals
    go_wp2_with fail
    refine S1.out.mono ?_
    rintro e w5 ⟨rfl, kk, rfl⟩
    have S2 := Lib.hid (same_n (h2.below (drewN_below hb2 kk)) (h2'.below (drewN_below hb2 kk)) rfl)
    go_wp2_with fail
    refine S2.out.mono ?_
    rintro e w6 ⟨rfl, kk', rfl⟩
    go_wp2
    go_ret
    exact ⟨rfl, drewN_below hb2 (kk + kk')⟩

theorem pw_two : pw 2 = 18446744073709551616 := by decide
theorem nrm_one_at {W : World} {g : Nat} (h : W.heap.size = g) : Nrm (W.alloc (.cells #[.int .u32 1] 71)) (some ⟨g, 0, none⟩) 1 1 1 := by
  subst h
  exact ⟨[1], lit1 W 1 (by decide) (by decide), is_one (by decide) (by decide)⟩

/-- The last steps of exactpplref02.Int. -/
theorem refInt_end {w v1 w5 : World} {g n5 c5 : Nat} {A5 : Option Addr} {n : Int} {s : Bool} (hb1 : Below w.heap.size w v1) (hg : g = w.heap.size) (hsz : v1.heap.size = g + 1) (hs : s = decide (n < 0)) (h5 : Nrm w5 A5 n5 c5 (n.natAbs : Int)) (o5 : Off v1.heap.size A5) (l5 : n5 ≤ 2) (hk : Below v1.heap.size v1 w5) (u v z : Value) :
    RN ((((w5.setCell ⟨g, 0, none⟩ u).setCell ⟨g, 1, none⟩ v).setCell ⟨g, 2, none⟩ z).alloc (.cells #[.int .u32 1] 71)) s A5 n5 c5 (some ⟨w5.heap.size, 0, none⟩) 1 1 (n : Rat) 2 ∧ Off w.heap.size A5 ∧ Off w.heap.size (some ⟨w5.heap.size, 0, none⟩) ∧
      Below w.heap.size w ((((w5.setCell ⟨g, 0, none⟩ u).setCell ⟨g, 1, none⟩ v).setCell ⟨g, 2, none⟩ z).alloc (.cells #[.int .u32 1] 71)) := by
  have hb := hk.size
  have hw : w.heap.size ≤ g := by omega
  have hset : (((w5.setCell ⟨g, 0, none⟩ u).setCell ⟨g, 1, none⟩ v).setCell ⟨g, 2, none⟩ z).heap.size = w5.heap.size := by simp [World.setCell]
  refine ⟨⟨hs, ?_, ?_, l5, by omega⟩, o5.mono (by omega), fun a e => ?_, ?_⟩
  · exact (h5.far3 (fun _ a e => by have := o5 a e; omega) _ _ _ _ _ _).below ((Below.refl _ _).alloc (Nat.le_refl _) _)
  · exact nrm_one_at hset
  · injection e with e; rw [← e]; show w.heap.size ≤ w5.heap.size; omega
  · exact ((((nextB hb1 hk).setCell hw _).setCell hw _).setCell hw _).alloc (by rw [hset]; omega) _

set_option maxHeartbeats 1000000 in
theorem refIntR {w : World} {n : Int} (n0 : -9223372036854775808 ≤ n) (n1 : n ≤ 9223372036854775807) : Calls Tryz.prog 59 #[.int .i64 n] w (GivesR w (n : Rat) 2) := by
  obtain ⟨v1, hv1⟩ : ∃ v1, w.alloc (.cells #[.bool false, .slice none 0 0, .slice none 0 0] 42) = v1 := ⟨_, rfl⟩
  obtain ⟨g, hg, hsz, hb1, hZ, hF⟩ := boxes0 w _ _ _ _ v1 hv1
  have HG := Lib.hid hg
  have HSZ := Lib.hid hsz
  have HZ := Lib.hid hZ
  have HF := Lib.hid hF
  have HV := Lib.hid hv1
  clear hZ hF hv1 hsz hg
  by_cases h : 0 ≤ n
  · have HA : Hid ((n.natAbs : Int) = n) := by show _ = _; omega
    have HS : Hid (false = decide (n < 0)) := (decide_eq_false (by omega)).symm
    go_enter Tryz.func59, Tryz.ntmps59
    go_wp2_with fail
    rw [HV.out, ← HG.out]
    refine (refFromInt_any n v1 h n1).mono ?_
    rintro e w5 ⟨A5, n5, c5, L5, rfl, hM, hI, b5⟩
    have h5 : Nrm w5 A5 n5 c5 (n.natAbs : Int) := by rw [HA.out]; exact Nrm.of_mine hM hI
    have o5 := Off.of_mine hM
    have l5 : n5 ≤ 2 := h5.short (by rw [pw_two]; omega)
    clear hM hI
    obtain ⟨o0, o1, o2⟩ := HZ.out _ b5
    obtain ⟨f0, f1, f2⟩ := HF.out _ b5
    have hz5 : g < w5.heap.size := by have := b5.size; have := HSZ.out; omega
    go_wp2
    exact bodyPost_ret (v := .agg #[.bool false, .slice A5 n5 c5, .slice (some ⟨w5.heap.size, 0, none⟩) 1 1]) (by simp [results, Tryz.results59, go_sem, o0, o1, o2, hz5]) rfl ⟨_, _, _, _, _, _, _, rfl,
      refInt_end hb1 HG.out HSZ.out HS.out h5 o5 l5 b5 _ _ _⟩
  · have HA : Hid ((n.natAbs : Int) = -(n + 1) + 1) := by show _ = _; omega
    have HS : Hid (true = decide (n < 0)) := (decide_eq_true (by omega)).symm
    go_enter Tryz.func59, Tryz.ntmps59
    go_wp2_with fail
    rw [HV.out, ← HG.out]
    refine (refFromInt_any (-(n + 1)) v1 (by omega) (by omega)).mono ?_
    rintro e w5 ⟨A5, n5, c5, L5, rfl, hM, hI, b5⟩
    have h5 := Nrm.of_mine hM hI
    have l5 : n5 ≤ 2 := h5.short (by rw [pw_two]; omega)
    have ba := (Below.refl w5.heap.size w5).alloc (Nat.le_refl _) (.cells #[.int .u32 1] 71)
    obtain ⟨L1, r1, e1⟩ := h5.num.below ba
    have lo := lit1 w5 1 (by decide) (by decide)
    have AD := refAdd_any _ _ _ _ _ _ _ _ _ r1 lo (by omega) (by omega)
    rw [e1, show val [(1 : Int)] = 1 by decide, ← HA.out] at AD
    have HAD := Lib.hid AD
    have hk5 := nextB b5 ba
    clear hM hI AD e1 r1 lo h5 L1
    go_wp2_with fail
    refine HAD.out.mono ?_
    rintro e w6 ⟨A6, n6, c6, L6, rfl, hM6, hI6, b6⟩
    have h6 := Nrm.of_mine hM6 hI6
    have o6 := (Off.of_mine hM6).mono hk5.size
    have l6 : n6 ≤ 2 := h6.short (by rw [pw_two]; omega)
    have hk6 := nextB hk5 b6
    clear hM6 hI6 HAD
    obtain ⟨o0, o1, o2⟩ := HZ.out _ hk6
    obtain ⟨f0, f1, f2⟩ := HF.out _ hk6
    have hz5 : g < w6.heap.size := by have := hk6.size; have := HSZ.out; omega
    go_wp2
    exact bodyPost_ret (v := .agg #[.bool true, .slice A6 n6 c6, .slice (some ⟨w6.heap.size, 0, none⟩) 1 1]) (by simp [results, Tryz.results59, go_sem, o0, o1, o2, hz5]) rfl ⟨_, _, _, _, _, _, _, rfl,
      refInt_end hb1 HG.out HSZ.out HS.out h6 o6 l6 hk6 _ _ _⟩

set_option maxHeartbeats 1000000 in
theorem refNew_r {w : World} {n d : Int} (n0 : -9223372036854775808 ≤ n) (n1 : n ≤ 9223372036854775807) (d0 : -9223372036854775808 ≤ d) (d1 : d ≤ 9223372036854775807) (hd : d ≠ 0) :
    Calls Tryz.prog 33 #[.int .i64 n, .int .i64 d] w (GivesROk w (Rat.divInt n d) 2) := by
  obtain ⟨v1, hv1⟩ : ∃ v1, w.alloc (.cells #[.bool false, .slice none 0 0, .slice none 0 0] 42) = v1 := ⟨_, rfl⟩
  obtain ⟨g, hg, hsz, hb1, hZ, hF⟩ := boxes0 w _ _ _ _ v1 hv1
  have HG := Lib.hid hg
  have HSZ := Lib.hid hsz
  have HZ := Lib.hid hZ
  have HF := Lib.hid hF
  have HV := Lib.hid hv1
  have HRI := Lib.hid (rat_ints n d)
  have HD0 : Hid (0 < (d.natAbs : Int)) := by show _ < _; omega
  have HI1 := Lib.hid (refIntR (w := v1) n0 n1)
  have HI2 : Hid (∀ w, Calls Tryz.prog 59 #[.int .i64 d] w (GivesR w (d : Rat) 2)) := fun w => refIntR d0 d1
  clear hZ hF hv1 hsz hg n0 n1 d0 d1
  go_enter Tryz.func33, Tryz.ntmps33
  go_wp2_with fail
  rw [HV.out, ← HG.out]
  refine HI1.out.mono ?_
  rintro e w5 ⟨s5, A5, n5, c5, B5, m5, d5, rfl, r5, oA5, oB5, b5⟩
  go_wp2_with fail
  refine (HI2.out w5).mono ?_
  rintro e w6 ⟨s6, A6, n6, c6, B6, m6, d6, rfl, r6, oA6, oB6, b6⟩
  have ba := ((Below.refl w6.heap.size w6).alloc (Nat.le_refl _) (.cells #[.bool s5, .slice A5 n5 c5, .slice B5 m5 d5] 42)).alloc (by simp) (.cells #[.bool s6, .slice A6 n6 c6, .slice B6 m6 d6] 42)
  have hf : Frac ((w6.alloc (.cells #[.bool s5, .slice A5 n5 c5, .slice B5 m5 d5] 42)).alloc (.cells #[.bool s6, .slice A6 n6 c6, .slice B6 m6 d6] 42)) (!(s5 == s6)) A5 n5 c5 A6 n6 c6 (Rat.divInt n d) 2 := by
    refine ⟨_, _, (r5.2.1.num.below b6).below ba, r6.2.1.num.below ba, HD0.out, ?_, r5.2.2.2.1, r6.2.2.2.1⟩
    rw [r5.1, r6.1]
    exact HRI.out
  have HL := Lib.hid (lowest_r hf (by omega))
  have hk := nextB (nextB b5 b6) ba
  clear hf r5 r6 oA5 oB5 oA6 oB6
  go_wp2_with fail
  refine HL.out.mono ?_
  rintro e w' ⟨t9, A9, n9, c9, B9, m9, d9, rfl, r9, oA9, oB9, b9⟩
  have hz9 := hk.size
  replace hk := nextB hk b9
  obtain ⟨o0, o1, o2⟩ := HZ.out _ hk
  obtain ⟨f0, f1, f2⟩ := HF.out _ hk
  go_wp2
  exact bodyPost_ret (v := .tuple #[.agg #[.bool t9, .slice A9 n9 c9, .slice B9 m9 d9], .int .i64 0]) (by simp [results, Tryz.results33, go_sem, o0, o1, o2]) rfl ⟨_, _, _, _, _, _, _, rfl,
    store_end r9 oA9 oB9 (by have := HSZ.out; omega) (by rw [HG.out]; omega) (nextB hb1 hk) _ _ _⟩

end Go.Proofs.YtebbnmjmjoklmaaGreatDoor
