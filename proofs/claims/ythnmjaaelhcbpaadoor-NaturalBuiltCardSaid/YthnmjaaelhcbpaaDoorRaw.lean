/-
  exactppllaw01.NaturalRaw and NaturalBuilt return true whatever the arguments.
-/
import Derived.Test.YthnmjaaelhcbpaaDoorAgree
import Derived.Test.YthnmjaaelhcbpaaDoorRefParse
import Derived.Test.YthnmjaaelhcbpaaDoorRefParseOk
import Derived.Test.YthnmjaaelhcbpaaDoorSrc
namespace Go.Proofs.YthnmjaaelhcbpaaDoor
open Go.RowKit
set_option maxRecDepth 20000

theorem fromInt_both (x : Int) (x1 : x ≤ 9223372036854775807) :
    ∃ v er, (∀ W, Calls Tryd.prog 12 #[.int .i64 x] W (GivesE W v er)) ∧ (∀ W, Calls Tryd.prog 13 #[.int .i64 x] W (GivesE W v er)) := by
  by_cases h : x < 0
  · refine ⟨0, 1, fun W => (fromInt_neg x W h).mono fun e w' h => ?_, fun W => (refFromInt_neg x W h).mono fun e w' h => ?_⟩
    · obtain ⟨he, rfl⟩ := h
      exact ⟨_, _, _, he, nrm_zero _, Below.refl _ _⟩
    · obtain ⟨he, rfl⟩ := h
      exact ⟨_, _, _, he, nrm_zero _, Below.refl _ _⟩
  · exact ⟨x, 0, fun W => (fromInt_any x W (by omega) x1).mono fun e w' h => h.n, fun W => (refFromInt_any x W (by omega) x1).mono fun e w' h => h.n⟩
theorem parse_both (s : ByteArray) (hs : s.size ≤ 200) :
    ∃ v er, (∀ W, Calls Tryd.prog 14 #[.string s] W (GivesE W v er)) ∧ (∀ W, Calls Tryd.prog 15 #[.string s] W (GivesE W v er)) := by
  have none_of : ∀ {er : Int} {W : World} {e : Ending} {w' : World}, (e = .returned (.tuple #[.slice none 0 0, .int .i64 er]) ∧ W = w') → GivesE W 0 er e w' := fun h => by
    obtain ⟨he, rfl⟩ := h
    exact ⟨_, _, _, he, nrm_zero _, Below.refl _ _⟩
  by_cases h0 : s.size = 0
  · exact ⟨0, 4, fun W => (parse_empty s W h0).mono fun e w' h => none_of h, fun W => (refParse_empty s W h0).mono fun e w' h => none_of h⟩
  · rcases digs_or_bad s with hd | ⟨j, hb⟩
    · by_cases h1 : s.size ≤ 60
      · exact ⟨_, 0, fun W => (parse_ok s W hd (by omega) h1).mono fun e w' h => h, fun W => (refParse_ok s W hd (by omega) h1).mono fun e w' h => h⟩
      · exact ⟨0, 9, fun W => (parse_long s W hd (by omega) (by omega)).mono fun e w' h => none_of h, fun W => (refParse_long s W hd (by omega) (by omega)).mono fun e w' h => none_of h⟩
    · exact ⟨0, 4, fun W => (parse_bad s j W hb (by omega)).mono fun e w' h => none_of h, fun W => (refParse_bad s j W hb (by omega)).mono fun e w' h => none_of h⟩
theorem pow_both {w : World} {A : Option Addr} {n c : Nat} {x : Int} (k : Int) (hx : Num w A n c x) (hn : n ≤ 100) :
    ∃ v er, (∀ W, Below w.heap.size w W → Calls Tryd.prog 18 #[.slice A n c, .int .i64 k] W (GivesE W v er)) ∧
      (∀ W, Below w.heap.size w W → Calls Tryd.prog 19 #[.slice A n c, .int .i64 k] W (GivesE W v er)) := by
  by_cases h : k < 0 ∨ 64 < k
  · refine ⟨0, 1, fun W hb => (pow_range A n c k W h).mono fun e w' h => ?_, fun W hb => (refPow_bad A n c k W h).mono fun e w' h => ?_⟩
    · obtain ⟨he, rfl⟩ := h
      exact ⟨_, _, _, he, nrm_zero _, Below.refl _ _⟩
    · obtain ⟨he, rfl⟩ := h
      exact ⟨_, _, _, he, nrm_zero _, Below.refl _ _⟩
  · obtain ⟨j, rfl⟩ := Int.eq_ofNat_of_zero_le (show 0 ≤ k by omega)
    exact ⟨x ^ j, 0, fun W hb => (pow_n A n c x j W (hx.below hb) hn (by omega)).mono fun e w' h => h, fun W hb => (refPow_n A n c x j W (hx.below hb) hn (by omega)).mono fun e w' h => h⟩

set_option maxHeartbeats 4000000 in
theorem naturalRaw.walk {A B : Option Addr} {a ca b cb : Nat} {x y k : Int} {s : ByteArray} {w : World} (hl : Laid w) (ha : Num w A a ca x) (hb : Num w B b cb y) (hk : (Lit.int .i64 k).wf = true) (hs : s.size ≤ maxLen) :
    Calls Tryd.prog 3 #[.slice A a ca, .slice B b cb, .int .i64 k, .string s] w (True1 w) := by
  have k1 := (bounds_i64 hk).2
  unfold maxLen at hs
  clear hk
  by_cases h1 : 24 < a
  · have HS := Lib.hid (short_no A a ca w h1)
    clear hs
    go_enter Tryd.func3, Tryd.ntmps3
    go_wp2_with fail
    refine HS.out.mono ?_
    rintro e w1 ⟨rfl, rfl⟩
    go_wp2_with fail
    refine (awake_any w).mono ?_
    rintro e w2 ⟨rfl, b2⟩
    go_wp2
    go_ret
    exact ⟨rfl, b2⟩
  · by_cases h2 : 24 < b
    · have HS := Lib.hid (short_yes A a ca w (by omega))
      have HS2 := Lib.hid (short_no B b cb w h2)
      clear hs
      go_enter Tryd.func3, Tryd.ntmps3
      go_wp2_with fail
      refine HS.out.mono ?_
      rintro e w1 ⟨rfl, rfl⟩
      go_wp2_with fail
      refine HS2.out.mono ?_
      rintro e w1 ⟨rfl, rfl⟩
      go_wp2_with fail
      refine (awake_any w).mono ?_
      rintro e w2 ⟨rfl, b2⟩
      go_wp2
      go_ret
      exact ⟨rfl, b2⟩
    · have HS := Lib.hid (short_yes A a ca w (by omega))
      have HS2 := Lib.hid (short_yes B b cb w (by omega))
      by_cases h3 : 200 < s.size
      · go_enter Tryd.func3, Tryd.ntmps3
        go_wp2_with fail
        refine HS.out.mono ?_
        rintro e w1 ⟨rfl, rfl⟩
        go_wp2_with fail
        refine HS2.out.mono ?_
        rintro e w1 ⟨rfl, rfl⟩
        go_wp2_with fail
        refine (awake_any w).mono ?_
        rintro e w2 ⟨rfl, b2⟩
        go_wp2
        go_ret
        exact ⟨rfl, b2⟩
      · obtain ⟨vf, ef, hF1, hF2⟩ := fromInt_both k k1
        obtain ⟨vp, ep, hP1, hP2⟩ := parse_both s (by omega)
        have HF1 := Lib.hid hF1
        have HF2 := Lib.hid hF2
        have HP1 := Lib.hid hP1
        have HP2 := Lib.hid hP2
        clear hF1 hF2 hP1 hP2 k1
        go_enter Tryd.func3, Tryd.ntmps3
        go_wp2_with fail
        refine HS.out.mono ?_
        rintro e w1 ⟨rfl, rfl⟩
        go_wp2_with fail
        refine HS2.out.mono ?_
        rintro e w1 ⟨rfl, rfl⟩
        go_wp2_with fail
        refine (HF1.out w).mono ?_
        rintro e w1 ⟨A1, n1, c1, rfl, g1, b1⟩
        go_wp2_with fail
        refine (HF2.out w1).mono ?_
        rintro e w2 ⟨A2, n2, c2, rfl, g2, b2⟩
        go_wp2_with fail
        refine (HP1.out w2).mono ?_
        rintro e w3 ⟨A3, n3, c3, rfl, g3, b3⟩
        go_wp2_with fail
        refine (HP2.out w3).mono ?_
        rintro e w4 ⟨A4, n4, c4, rfl, g4, b4⟩
        go_wp2_with fail
        refine (same_b (g1.below (nextB b2 (nextB b3 b4))) (g2.below (nextB b3 b4)) rfl).mono ?_
        rintro e w5 ⟨rfl, b5⟩
        go_wp2_with fail
        refine (same_b (g3.below (nextB b4 b5)) (g4.below b5) rfl).mono ?_
        rintro e w6 ⟨rfl, b6⟩
        have h06 := nextB b1 (nextB b2 (nextB b3 (nextB b4 (nextB b5 b6))))
        clear g1 g2 g3 g4 b1 b2 b3 b4 b5 b6 HF1 HF2 HP1 HP2
        go_wp2_with fail
        refine (agrees_n (hl.below h06) (ha.below h06) (hb.below h06) (by omega) (by omega)).mono ?_
        rintro e w7 ⟨rfl, b7⟩
        replace h06 := nextB h06 b7
        by_cases h6 : 6 < a
        · go_wp2_with fail
          refine (awake_any w7).mono ?_
          rintro e w8 ⟨rfl, b8⟩
          go_wp2
          go_ret
          exact ⟨rfl, nextB h06 b8⟩
        · obtain ⟨vw, ew, hW1, hW2⟩ := pow_both k (ha.below h06) (by omega)
          have HW1 := Lib.hid hW1
          have HW2 := Lib.hid hW2
          clear hW1 hW2
          go_wp2_with fail
          refine (HW1.out w7 (Below.refl _ _)).mono ?_
          rintro e w8 ⟨A8, n8, c8, rfl, g8, b8⟩
          go_wp2_with fail
          refine (HW2.out w8 b8).mono ?_
          rintro e w9 ⟨A9, n9, c9, rfl, g9, b9⟩
          go_wp2_with fail
          refine (same_b (g8.below b9) g9 rfl).mono ?_
          rintro e w10 ⟨rfl, b10⟩
          go_wp2_with fail
          refine (awake_any w10).mono ?_
          rintro e w11 ⟨rfl, b11⟩
          go_wp2
          go_ret
          exact ⟨rfl, nextB h06 (nextB b8 (nextB b9 (nextB b10 b11)))⟩

theorem Rd.butg {w w' : World} {A : Option Addr} {n c g : Nat} {L : List Int} (hr : Rd w A n c L) (o : ∀ a, A = some a → a.block ≠ g) (hb : But g w w') : Rd w' A n c L := by
  refine ⟨hr.len, hr.lims, hr.cap, hr.top, fun hn => ?_⟩
  obtain ⟨ad, e, hbl, hc⟩ := hr.at_ hn
  have := o ad e
  exact ⟨ad, e, Nat.lt_of_lt_of_le hbl hb.size, fun i hi => (hb.cell (p := ad.add i) (by rw [addr_block]; exact hbl) (by rw [addr_block]; exact this)).trans (hc i hi)⟩

set_option maxHeartbeats 4000000 in
theorem naturalBuilt.walk {A : Option Addr} {n c : Nat} {w : World} (hl : Laid w) (hcap : n ≤ c) (htop : c ≤ maxLen) (hI : 0 < n → ∃ ad, A = some ad ∧ IntsAt w ad n (-9223372036854775808) 9223372036854775807) :
    Calls Tryd.prog 4 #[.slice A n c] w (True1 w) := by
  have HNW := Lib.hid (new_any A n c w hcap htop hI)
  clear hI hcap htop
  go_enter Tryd.func4, Tryd.ntmps4
  go_wp2_with fail
  refine HNW.out.mono ?_
  rintro e w1 ⟨g, rfl, hg, hs1, bw1⟩
  clear HNW
  go_wp2_with fail
  refine (limbs_any g w1 hs1).mono ?_
  rintro e w2 ⟨Aa, na, ca, La, rfl, ma, la, hs2, hb2⟩
  go_wp2_with fail
  refine (limbs_any g w2 hs2).mono ?_
  rintro e w3 ⟨Ab, nb, cb, Lb, rfl, mb, lb, hs3, hb3⟩
  go_wp2_with fail
  refine (limbs_any g w3 hs3).mono ?_
  rintro e w4 ⟨Ac, nc, cc, Lc, rfl, mc, lc, hs4, hb4⟩
  have hb24 := hb3.trans hb4
  have ga1 : ∀ ad, Aa = some ad → ad.block ≠ g := fun ad h => by have h1 := (ma.lt ad h).1; have h2 := hs1.size; omega
  have gb1 : ∀ ad, Ab = some ad → ad.block ≠ g := fun ad h => by have h1 := (mb.lt ad h).1; have h2 := hs2.size; omega
  have gc1 : ∀ ad, Ac = some ad → ad.block ≠ g := fun ad h => by have h1 := (mc.lt ad h).1; have h2 := hs3.size; omega
  have a4 := (ma.keep fun ad h => hb24.block _ (ma.lt ad h).2 (ga1 ad h)).rd
  have b4 := (mb.keep fun ad h => hb4.block _ (mb.lt ad h).2 (gb1 ad h)).rd
  have c4 := mc.rd
  have bw4 : Below w.heap.size w w4 := bw1.trans ((hb2.trans hb24).below hg bw1.size)
  have hg4 := hs4.size
  have HM := Lib.hid (refMul_any Aa Ab na ca nb cb La Lb w4 a4 b4 (by omega) (by omega))
  clear hb2 hb3 hb4 hb24 ma mb mc hs1 hs2 hs3 bw1
  go_wp2_with fail
  refine HM.out.mono ?_
  rintro e w5 ⟨Ap, np, cp, Lp, rfl, mp, Ip, b5⟩
  have hp : np ≤ 8 := by
    have h1 := (Nrm.of_mine mp Ip).short (pw_prod (val_nonneg a4.lims) (val_nonneg b4.lims) (val_lt a4.lims) (val_lt b4.lims))
    rw [a4.len, b4.len] at h1
    omega
  have gp1 : ∀ ad, Ap = some ad → ad.block ≠ g := fun ad h => by have h1 := (mp.lt ad h).1; omega
  have a5 := a4.below b5
  have b5' := b4.below b5
  have c5 := c4.below b5
  have hs5 := hs4.below b5
  have p5 := mp.rd
  clear HM a4 b4 c4 hs4 mp Ip
  go_wp2_with fail
  refine (N_any g w5 5 hs5 (by omega) (by omega)).mono ?_
  rintro e w6 ⟨z, rfl, ⟨z0, z1⟩, hs6, hB6⟩
  have a6 : Num w6 Aa na ca (val La) := ⟨La, a5.butg ga1 hB6, rfl⟩
  have b6 : Num w6 Ab nb cb (val Lb) := ⟨Lb, b5'.butg gb1 hB6, rfl⟩
  have c6 : Num w6 Ac nc cc (val Lc) := ⟨Lc, c5.butg gc1 hB6, rfl⟩
  have p6 : Num w6 Ap np cp (val Lp) := ⟨Lp, p5.butg gp1 hB6, rfl⟩
  have bw6 : Below w.heap.size w w6 := (bw4.trans (b5.mono bw4.size)).trans (hB6.below hg (Nat.le_trans bw4.size b5.size))
  have hl6 := hl.below bw6
  clear a5 b5' c5 p5 hs5 hs6 hB6 b5 bw4 hl ga1 gb1 gc1 gp1
  obtain ⟨vw, ew, hW1, hW2⟩ := pow_both z a6 (by omega)
  have HW1 := Lib.hid hW1
  have HW2 := Lib.hid hW2
  clear hW1 hW2
  go_wp2_with fail
  refine (HW1.out w6 (Below.refl _ _)).mono ?_
  rintro e w8 ⟨A8, n8, c8, rfl, g8, b8⟩
  have hk := b8
  go_wp2_with fail
  refine (HW2.out w8 b8).mono ?_
  rintro e w9 ⟨A9, n9, c9, rfl, g9, b9⟩
  replace hk := nextB hk b9
  go_wp2_with fail
  refine (same_b (g8.below b9) g9 rfl).mono ?_
  rintro e w10 ⟨rfl, b10⟩
  replace hk := nextB hk b10
  clear HW1 HW2 g8 g9 b8 b9 b10
  go_wp2_with fail
  refine (agrees_n (hl6.below hk) (a6.below hk) (b6.below hk) (by omega) (by omega)).mono ?_
  rintro e w11 ⟨rfl, b11⟩
  replace hk := nextB hk b11
  go_wp2_with fail
  refine (agrees_n (hl6.below hk) (p6.below hk) (a6.below hk) (by omega) (by omega)).mono ?_
  rintro e w12 ⟨rfl, b12⟩
  replace hk := nextB hk b12
  go_wp2_with fail
  refine (refAdd_n (p6.below hk) (c6.below hk) (by omega) (by omega)).mono ?_
  rintro e w13 ⟨A13, n13, c13, rfl, g13, b13⟩
  replace hk := nextB hk b13
  have l13 : n13 ≤ 9 := g13.short (pw_sum (pw_up (p6.lt) hp) (pw_up (c6.lt) (by omega)))
  go_wp2_with fail
  refine (agrees_n (hl6.below hk) g13.num (b6.below hk) (by omega) (by omega)).mono ?_
  rintro e w14 ⟨rfl, b14⟩
  replace hk := nextB hk b14
  go_wp2_with fail
  refine (refMul_n (p6.below hk) (c6.below hk) (by omega) (by omega)).mono ?_
  rintro e w15 ⟨A15, n15, c15, rfl, g15, b15⟩
  replace hk := nextB hk b15
  have l15 := g15.short (pw_prod p6.nonneg c6.nonneg p6.lt c6.lt)
  go_wp2_with fail
  refine (refMul_n (a6.below hk) (c6.below hk) (by omega) (by omega)).mono ?_
  rintro e w16 ⟨A16, n16, c16, rfl, g16, b16⟩
  replace hk := nextB hk b16
  have l16 := g16.short (pw_prod a6.nonneg c6.nonneg a6.lt c6.lt)
  go_wp2_with fail
  refine (agrees_n (hl6.below hk) (g15.below b16).num g16.num (by omega) (by omega)).mono ?_
  rintro e w17 ⟨rfl, b17⟩
  replace hk := nextB hk b17
  go_wp2_with fail
  refine (awake_any w17).mono ?_
  rintro e w18 ⟨rfl, b18⟩
  go_wp2
  go_ret
  exact ⟨rfl, nextB bw6 (nextB hk b18)⟩
end Go.Proofs.YthnmjaaelhcbpaaDoor
