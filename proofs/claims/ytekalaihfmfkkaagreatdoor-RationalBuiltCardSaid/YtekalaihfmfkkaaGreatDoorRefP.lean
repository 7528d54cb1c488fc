/-
  exactpplref02.Parse at every string: what it gives by what exactpplref01.Parse gives of the two parts.
-/
import Derived.Test.YtekalaihfmfkkaaGreatDoorRefPw
import Derived.Test.YtekalaihfmfkkaaGreatDoorRefParseOk
namespace Go.Proofs.YtekalaihfmfkkaaGreatDoor
open Go.RowKit
set_option maxRecDepth 20000

theorem refParse_e {s : ByteArray} {v er : Int} (h : ReadsAs s v er) (hs : s.size ≤ 1000000) (w : World) :
    Calls Tryz.prog 74 #[.string s] w (GivesPE w v er) := by
  have none_of : ∀ {er : Int} {e : Ending} {w' : World}, (e = .returned (.tuple #[.slice none 0 0, .int .i64 er]) ∧ w = w') → GivesPE w 0 er e w' := fun h => by
    obtain ⟨he, rfl⟩ := h
    exact ⟨_, _, _, he, nrm_nil _, Nat.zero_le _, Below.refl _ _⟩
  have hlt := h.lt
  rcases h with ⟨rfl, hd, h0, h1, rfl⟩ | ⟨rfl, hd, h1, rfl⟩ | ⟨rfl, rfl, h0 | ⟨j, hb⟩⟩
  · refine (refParse_ok s w hd h0 h1).mono fun e w' h => ?_
    obtain ⟨A, n, c, he, hn, hb⟩ := h
    exact ⟨A, n, c, he, hn, hn.short hlt, hb⟩
  · exact (refParse_long s w hd h1 hs).mono fun e w' h => none_of h
  · exact (refParse_empty s w h0).mono fun e w' h => none_of h
  · exact (refParse_bad s j w hb hs).mono fun e w' h => none_of h
theorem reads_dec {N : Nat} {v er : Int} (h : ReadsAs (dec N) v er) (hs : (dec N).size ≤ 60) : er = 0 ∧ v = N := by
  rcases h with ⟨h, _, _, _, h2⟩ | ⟨_, _, h, _⟩ | ⟨_, _, h | ⟨j, hj, _, hb⟩⟩
  · exact ⟨h, by rw [h2, dec_data, rev_dv]⟩
  · omega
  · have := dec_pos N; omega
  · have := dec_byte N j hj; omega
theorem reads_one {v er : Int} (h : ReadsAs ⟨#[49]⟩ v er) : er = 0 ∧ v = 1 := by
  rw [← dec_one] at h
  exact reads_dec h (by rw [dec_one]; decide)
theorem signed_at (s : ByteArray) (h : 0 < s.size) : ((s[0].toNat : Int) == 45) = signed s := by
  have h1 := at_getQ s 0 h
  unfold signed
  cases hl : s.data.toList with
  | nil => rw [hl] at h1; cases h1
  | cons b l =>
    rw [hl] at h1
    injection h1 with h1
    rw [← h1]
    by_cases hb : b = 45
    · subst hb; rfl
    · have h2 : ¬ ((b.toNat : Int) = 45) := fun e => hb (UInt8.toNat_inj.1 (by show b.toNat = 45; omega))
      have e1 : ((b.toNat : Int) == 45) = false := beq_eq_false_iff_ne.2 h2
      have e2 : (some b == some (45 : UInt8)) = false := by simp [hb]
      rw [e1]; exact e2.symm
theorem signed_empty (s : ByteArray) (h : s.size = 0) : signed s = false := by
  have : s.data.toList = [] := List.length_eq_zero_iff.1 (by rw [← Lib.size_eq]; exact h)
  unfold signed
  rw [this]; rfl
theorem cut_ne {b : ByteArray} {i k : Nat} (h : CutAt b i) (hk : k < i) (hb : k < b.size) : ((b[k].toNat : Int) != 47) = true := by
  have h1 := h.2.1 k hb hk
  have h2 : ¬ ((b[k].toNat : Int) = 47) := fun e => h1 (UInt8.toNat_inj.1 (by show b[k].toNat = 47; omega))
  simpa using h2
theorem cut_eq {b : ByteArray} {i : Nat} (h : CutAt b i) (hb : i < b.size) : ((b[i].toNat : Int) != 47) = false := by
  rw [h.2.2 hb]; rfl


set_option maxHeartbeats 8000000 in
theorem refParse_g (s : ByteArray) (i : Nat) (w : World) (hs : s.size ≤ 1000000) (hc : CutAt (unsigned s) i) {v1 e1 v2 e2 : Int} (h1 : ReadsAs ((unsigned s).extract 0 i) v1 e1) (h2 : ReadsAs (second (unsigned s) i) v2 e2) :
    Calls Tryz.prog 18 #[.string s] w (GivesQ w (signed s) v1 e1 v2 e2) := by
  obtain ⟨b, hb⟩ : ∃ b, unsigned s = b := ⟨_, rfl⟩
  obtain ⟨ng, hng⟩ : ∃ ng, signed s = ng := ⟨_, rfl⟩
  obtain ⟨x1, hv1⟩ : ∃ v1, w.alloc (.cells #[.bool false, .slice none 0 0, .slice none 0 0] 24) = v1 := ⟨_, rfl⟩
  have hbs : b.size ≤ 1000000 := by rw [← hb]; exact Nat.le_trans (unsigned_size s) hs
  rw [hb] at hc h1 h2
  obtain ⟨g, hg, hsz, hb1, hZ, hF⟩ := boxes0 w _ _ _ _ x1 hv1
  have HG := Lib.hid hg
  have HSZ := Lib.hid hsz
  have HZ := Lib.hid hZ
  have HF := Lib.hid hF
  have HV := Lib.hid hv1
  have P1 : Hid (∀ W, Calls Tryz.prog 74 #[.string (b.extract 0 i)] W (GivesPE W v1 e1)) := fun W => refParse_e h1 (Nat.le_trans (extract_size_le _ _ _) hbs) W
  have P2 : Hid (∀ W, Calls Tryz.prog 74 #[.string (second b i)] W (GivesPE W v2 e2)) := fun W => refParse_e h2 (by unfold second; split; exact Nat.le_trans (extract_size_le _ _ _) hbs; show 1 ≤ _; omega) W
  have C1 := Lib.hid h1.code
  have C2 := Lib.hid h2.code
  have R2 := Lib.hid h2
  have HC := Lib.hid hc
  have hci := hc.1
  have hsg := signed_at s
  have hse := signed_empty s
  have HB := Lib.hid hb
  rw [hng] at hsg hse ⊢
  have HNG := Lib.hid hng
  clear hZ hF hv1 hsz hg h1 h2 hc hb hng
  go_enter Tryz.func18, Tryz.ntmps18
  go_upto_region 1 with fail
  rw [HV.out, ← HG.out]
  go_cut [4] (fun u4 wx => u4 = .bool ng ∧ wx = x1)
  case first =>
    by_cases h0 : 0 < s.size
    · have h1 := hsg h0
      have h2 : (0 : Int) < s.size := by omega
      clear hsg hse
      go_wp2
      go_meet
      exact ⟨rfl, rfl⟩
    · have h1 := hse (by omega)
      have h2 : s.size = 0 := by omega
      clear hsg hse
      go_wp2
      go_meet
      exact ⟨by rw [h1], rfl⟩
  case rest =>
    obtain ⟨rfl, rfl⟩ := hcut
    have hpos : ng = true → 0 < s.size := fun h => by
      rcases Nat.eq_zero_or_pos s.size with h0 | h0
      · rw [hse h0] at h; cases h
      · exact h0
    have HU : unsigned s = b := HB.out
    unfold unsigned at HU
    rw [HNG.out] at HU
    clear hsg hse
    go_upto_if 18 with fail
    go_cut [0] (fun u0 wx => u0 = .string b ∧ wx = wc)
    case first =>
      cases ng
      · rw [if_neg (by decide)] at HU
        clear hpos
        go_wp2
        go_meet
        exact ⟨by rw [HU], rfl⟩
      · rw [if_pos rfl] at HU
        have h2 : (0 : Int) < s.size := by have := hpos rfl; omega
        have h3 : (1 : Int) ≤ s.size := by omega
        clear hpos
        go_wp2
        go_meet
        exact ⟨rfl, rfl⟩
    case rest =>
      obtain ⟨rfl, rfl⟩ := hcut
      clear hpos HU HB HNG
      go_wp2_with fail
      go_loop [5] (fun iv => ∃ k : Nat, k ≤ i ∧ iv = .int .i64 k) (fun iv => i + 1 - (intOf iv).toNat)
      case atStart => exact ⟨0, Nat.zero_le _, rfl⟩
      case round =>
        obtain ⟨k, hk, rfl⟩ := hrel
        by_cases hlt : k < i
        · have hkb : k < b.size := by have := HC.out.1; omega
          have hne := cut_ne HC.out hlt hkb
          go_wp2
          go_round
          case rel => exact ⟨k + 1, by omega, by go_num⟩
          case measure => simp [intOf] <;> omega
        · obtain rfl : k = i := by omega
          clear hlt hk
          by_cases hi : k < b.size
          · have heq := cut_eq HC.out hi
            have hk0 : (0 : Int) ≤ k := by omega
            have hk1 : (k : Int) ≤ b.size := by omega
            have hk2 : (0 : Int) ≤ (k : Int) + 1 := by omega
            have hk3 : (k : Int) + 1 ≤ b.size := by omega
            have hi1 : (k : Int) < b.size := by omega
            have hw1 : wrap64 ((k : Int) + 1) = k + 1 := by unfold wrap64; omega
            rw [show second b k = b.extract (k + 1) b.size from if_pos hi] at P2
            go_wp2_with fail
            refine (P1.out wc).mono ?_
            rintro e w4 ⟨A4, n4, c4, rfl, h4, l4, b4⟩
            have hk := b4
            obtain ⟨o0, o1, o2⟩ := HZ.out _ hk
            obtain ⟨f0, f1, f2⟩ := HF.out _ hk
            have H4 := Lib.hid h4
            clear h4 P1
            rcases C1.out with rfl | rfl | rfl
            · clear o0 o1 o2 f0 f1 f2
              go_wp2_with fail
              refine (P2.out (w4.alloc (.cells #[.int .u32 1] 92))).mono ?_
              rintro e w5 ⟨A5, n5, c5, rfl, h5, l5, b5x⟩
              have b5 := (Below.refl w4.heap.size w4).alloc (Nat.le_refl _) (.cells #[.int .u32 1] 92)
              replace b5 := nextB b5 b5x
              replace hk := nextB hk b5
              obtain ⟨o0, o1, o2⟩ := HZ.out _ hk
              obtain ⟨f0, f1, f2⟩ := HF.out _ hk
              have H5 := Lib.hid h5
              clear h5 P2
              rcases C2.out with rfl | rfl | rfl
              · by_cases h0 : v2 = 0
                · subst h0
                  have HM := Lib.hid (refMake_zero (s := ng) (A := A4) (n := n4) (c := c4) H5.out.num (by omega))
                  go_wp2_with fail
                  refine HM.out.mono ?_
                  rintro e w6 ⟨rfl, b6⟩
                  replace hk := nextB hk b6
                  clear o0 o1 o2 f0 f1 f2
                  obtain ⟨o0, o1, o2⟩ := HZ.out _ hk
                  obtain ⟨f0, f1, f2⟩ := HF.out _ hk
                  go_wp2
                  exact bodyPost_ret (v := .tuple #[.agg #[.bool false, .slice none 0 0, .slice none 0 0], .int .i64 3]) (by simp [results, Tryz.results18, go_sem, o0, o1, o2]) rfl (gq3 ⟨rfl, blank_end HG.out hb1 hk _ _ _⟩)
                · have hfr : Frac w5 ng A4 n4 c4 A5 n5 c5 (rat ng v1 v2) 60 := ⟨v1, v2, H4.out.num.below b5, H5.out.num, by have := H5.out.num.nonneg; omega, rfl, l4, l5⟩
                  have HM := Lib.hid (refMake_r hfr (by omega))
                  have HN0 : Hid (v2 ≠ 0) := h0
                  clear hfr h0
                  go_wp2_with fail
                  refine HM.out.mono ?_
                  rintro e w6 ⟨t9, A9, n9, c9, B9, m9, d9, rfl, r9, oA9, oB9, b9⟩
                  have hz9 := hk.size
                  replace hk := nextB hk b9
                  clear o0 o1 o2 f0 f1 f2
                  obtain ⟨o0, o1, o2⟩ := HZ.out _ hk
                  obtain ⟨f0, f1, f2⟩ := HF.out _ hk
                  go_wp2
                  exact bodyPost_ret (v := .tuple #[.agg #[.bool t9, .slice A9 n9 c9, .slice B9 m9 d9], .int .i64 0]) (by simp [results, Tryz.results18, go_sem, o0, o1, o2]) rfl (gq0 HN0.out ⟨_, _, _, _, _, _, _, rfl,
                    store_end r9 oA9 oB9 (by have := HSZ.out; omega) (by rw [HG.out]; omega) (nextB hb1 hk) _ _ _⟩)
              · go_wp2
                exact bodyPost_ret (v := .tuple #[.agg #[.bool false, .slice none 0 0, .slice none 0 0], .int .i64 9]) (by simp [results, Tryz.results18, go_sem, o0, o1, o2]) rfl (gq9 (by decide) (by decide) (by decide) ⟨rfl, blank_end HG.out hb1 hk _ _ _⟩)
              · go_wp2
                exact bodyPost_ret (v := .tuple #[.agg #[.bool false, .slice none 0 0, .slice none 0 0], .int .i64 4]) (by simp [results, Tryz.results18, go_sem, o0, o1, o2]) rfl (gq4 (.inr rfl) ⟨rfl, blank_end HG.out hb1 hk _ _ _⟩)
            · clear o0 o1 o2 f0 f1 f2
              go_wp2_with fail
              refine (P2.out (w4.alloc (.cells #[.int .u32 1] 92))).mono ?_
              rintro e w5 ⟨A5, n5, c5, rfl, h5, l5, b5x⟩
              have b5 := (Below.refl w4.heap.size w4).alloc (Nat.le_refl _) (.cells #[.int .u32 1] 92)
              replace b5 := nextB b5 b5x
              replace hk := nextB hk b5
              obtain ⟨o0, o1, o2⟩ := HZ.out _ hk
              obtain ⟨f0, f1, f2⟩ := HF.out _ hk
              have H5 := Lib.hid h5
              clear h5 P2
              rcases C2.out with rfl | rfl | rfl
              · go_wp2
                exact bodyPost_ret (v := .tuple #[.agg #[.bool false, .slice none 0 0, .slice none 0 0], .int .i64 9]) (by simp [results, Tryz.results18, go_sem, o0, o1, o2]) rfl (gq9 (by decide) (by decide) (by decide) ⟨rfl, blank_end HG.out hb1 hk _ _ _⟩)
              · go_wp2
                exact bodyPost_ret (v := .tuple #[.agg #[.bool false, .slice none 0 0, .slice none 0 0], .int .i64 9]) (by simp [results, Tryz.results18, go_sem, o0, o1, o2]) rfl (gq9 (by decide) (by decide) (by decide) ⟨rfl, blank_end HG.out hb1 hk _ _ _⟩)
              · go_wp2
                exact bodyPost_ret (v := .tuple #[.agg #[.bool false, .slice none 0 0, .slice none 0 0], .int .i64 4]) (by simp [results, Tryz.results18, go_sem, o0, o1, o2]) rfl (gq4 (.inr rfl) ⟨rfl, blank_end HG.out hb1 hk _ _ _⟩)
            · go_wp2
              exact bodyPost_ret (v := .tuple #[.agg #[.bool false, .slice none 0 0, .slice none 0 0], .int .i64 4]) (by simp [results, Tryz.results18, go_sem, o0, o1, o2]) rfl (gq4 (.inl rfl) ⟨rfl, blank_end HG.out hb1 hk _ _ _⟩)
          · have hi2 : k = b.size := by have := HC.out.1; omega
            have hk0 : (0 : Int) ≤ k := by omega
            have hk1 : (k : Int) ≤ b.size := by omega
            have hk4 : ¬ (k : Int) < b.size := by omega
            rw [hi2, show b.extract 0 b.size = b by simp] at P1
            have hone := reads_one (by rw [show second b k = ⟨#[49]⟩ from if_neg hi] at R2; exact R2.out)
            obtain ⟨rfl, rfl⟩ := hone
            clear P2 R2 C2
            go_wp2_with fail
            refine (P1.out wc).mono ?_
            rintro e w4 ⟨A4, n4, c4, rfl, h4, l4, b4⟩
            have hk := b4
            obtain ⟨o0, o1, o2⟩ := HZ.out _ hk
            obtain ⟨f0, f1, f2⟩ := HF.out _ hk
            have H4 := Lib.hid h4
            clear h4 P1
            rcases C1.out with rfl | rfl | rfl
            · obtain ⟨w5, hw5⟩ : ∃ w5, w4.alloc (.cells #[.int .u32 1] 92) = w5 := ⟨_, rfl⟩
              have b5 : Below w4.heap.size w4 w5 := by rw [← hw5]; exact (Below.refl w4.heap.size w4).alloc (Nat.le_refl _) _
              have H1 : Num w5 (some ⟨w4.heap.size, 0, none⟩) 1 1 1 := by rw [← hw5]; exact one_at rfl
              have HW5 := Lib.hid hw5
              replace hk := nextB hk b5
              clear o0 o1 o2 f0 f1 f2 hw5
              obtain ⟨o0, o1, o2⟩ := HZ.out _ hk
              obtain ⟨f0, f1, f2⟩ := HF.out _ hk
              have h0 : (1 : Int) ≠ 0 := by decide
              have hfr : Frac w5 ng A4 n4 c4 (some ⟨w4.heap.size, 0, none⟩) 1 1 (rat ng v1 1) 60 := ⟨v1, 1, H4.out.num.below b5, H1, by decide, rfl, l4, by decide⟩
              have HM := Lib.hid (refMake_r hfr (by omega))
              have HN0 : Hid ((1 : Int) ≠ 0) := h0
              clear hfr h0
              go_wp2_with fail
              rw [HW5.out]
              refine HM.out.mono ?_
              rintro e w6 ⟨t9, A9, n9, c9, B9, m9, d9, rfl, r9, oA9, oB9, b9⟩
              have hz9 := hk.size
              replace hk := nextB hk b9
              clear o0 o1 o2 f0 f1 f2
              obtain ⟨o0, o1, o2⟩ := HZ.out _ hk
              obtain ⟨f0, f1, f2⟩ := HF.out _ hk
              go_wp2
              exact bodyPost_ret (v := .tuple #[.agg #[.bool t9, .slice A9 n9 c9, .slice B9 m9 d9], .int .i64 0]) (by simp [results, Tryz.results18, go_sem, o0, o1, o2]) rfl (gq0 HN0.out ⟨_, _, _, _, _, _, _, rfl,
                store_end r9 oA9 oB9 (by have := HSZ.out; omega) (by rw [HG.out]; omega) (nextB hb1 hk) _ _ _⟩)
            · obtain ⟨w5, hw5⟩ : ∃ w5, w4.alloc (.cells #[.int .u32 1] 92) = w5 := ⟨_, rfl⟩
              have b5 : Below w4.heap.size w4 w5 := by rw [← hw5]; exact (Below.refl w4.heap.size w4).alloc (Nat.le_refl _) _
              have HW5 := Lib.hid hw5
              replace hk := nextB hk b5
              clear o0 o1 o2 f0 f1 f2 hw5
              go_upto_region 11 with fail
              rw [HW5.out]
              obtain ⟨o0, o1, o2⟩ := HZ.out _ hk
              obtain ⟨f0, f1, f2⟩ := HF.out _ hk
              go_wp2
              exact bodyPost_ret (v := .tuple #[.agg #[.bool false, .slice none 0 0, .slice none 0 0], .int .i64 9]) (by simp [results, Tryz.results18, go_sem, o0, o1, o2]) rfl (gq9 (by decide) (by decide) (by decide) ⟨rfl, blank_end HG.out hb1 hk _ _ _⟩)
            · go_wp2
              exact bodyPost_ret (v := .tuple #[.agg #[.bool false, .slice none 0 0, .slice none 0 0], .int .i64 4]) (by simp [results, Tryz.results18, go_sem, o0, o1, o2]) rfl (gq4 (.inl rfl) ⟨rfl, blank_end HG.out hb1 hk _ _ _⟩)

end Go.Proofs.YtekalaihfmfkkaaGreatDoor
