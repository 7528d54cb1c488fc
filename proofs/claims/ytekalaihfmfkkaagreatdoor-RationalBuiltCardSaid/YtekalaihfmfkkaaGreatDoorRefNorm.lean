/-
  exactpplref02.Norm: the normal form.
-/
import Derived.Test.YtekalaihfmfkkaaGreatDoorRefR1
import Derived.Test.YtekalaihfmfkkaaGreatDoorRatDiv
namespace Go.Proofs.YtekalaihfmfkkaaGreatDoor
open Go.RowKit
set_option maxRecDepth 20000

theorem rn_zero {w : World} {B : Option Addr} {m d k : Nat} (h : Nrm w B m d 1) (hm : m ≤ k) : RN w false none 0 0 B m d 0 k :=
  ⟨by decide, ⟨[], Rd.nil w, Is.zero⟩, h, Nat.zero_le _, hm⟩

set_option maxHeartbeats 1000000 in
theorem refNorm_r {w : World} {s : Bool} {A B : Option Addr} {n c m d k : Nat} {q : Rat} (h : Loose w s A n c B m d q k) (k0 : 1 ≤ k) (hk8 : k ≤ 800000) :
    Calls Tryz.prog 84 #[.agg #[.bool s, .slice A n c, .slice B m d]] w (GivesR w q k) := by
  obtain ⟨x, y, hx, hy, hq, hn, hm⟩ := h
  have y0 := hy.nonneg
  obtain ⟨v1, hv1⟩ : ∃ v1, (w.alloc (.cells #[.bool s, .slice A n c, .slice B m d] 24)).alloc (.cells #[.bool false, .slice none 0 0, .slice none 0 0] 24) = v1 := ⟨_, rfl⟩
  obtain ⟨g, hg, hsz, hb1, hA, hZ, hF⟩ := boxes1 w _ _ _ _ _ _ _ _ v1 hv1
  have HG := Lib.hid hg
  have HSZ := Lib.hid hsz
  have HA := Lib.hid hA
  have HZ := Lib.hid hZ
  have HF := Lib.hid hF
  have HV := Lib.hid hv1
  have hx1 := hx.below hb1
  have hy1 := hy.below hb1
  have HT := Lib.hid (refTrim_n hy1 (by omega))
  clear hg hA hZ hF hsz hv1 hx hy
  go_enter Tryz.func84, Tryz.ntmps84
  go_wp2_with fail
  rw [HV.out, ← HG.out]
  refine HT.out.mono ?_
  rintro e w2 ⟨A2, n2, c2, rfl, h2, b2⟩
  clear HT
  by_cases h0 : y = 0
  · have hn2 : n2 = 0 := h2.len_iff.2 h0
    subst hn2
    subst h0
    rw [rat_over_zero] at hq
    subst hq
    have ba := (Below.refl w2.heap.size w2).alloc (Nat.le_refl _) (.cells #[.int .u32 1] 92)
    have hk := nextB b2 ba
    have HRZ := Lib.hid (rn_zero (k := k) (nrm_one_at (W := w2) rfl) k0)
    have HOZ : Hid (Off w2.heap.size (some ⟨w2.heap.size, 0, none⟩)) := by
      intro a ha
      injection ha with ha
      rw [← ha]; exact Nat.le_refl _
    obtain ⟨o0, o1, o2⟩ := HZ.out _ hk
    obtain ⟨f0, f1, f2⟩ := HF.out _ hk
    have hs2 := b2.size
    clear h2 ba
    go_wp2
    exact bodyPost_ret (v := .agg #[.bool false, .slice none 0 0, .slice (some ⟨w2.heap.size, 0, none⟩) 1 1]) (by simp [results, Tryz.results84, go_sem, o0, o1, o2]) rfl ⟨_, _, _, _, _, _, _, rfl,
      store_end (wp := w2) HRZ.out (Off.none _) HOZ.out (by have := HSZ.out; omega) (by rw [HG.out]; omega) (nextB hb1 hk) _ _ _⟩
  · have hn2 : n2 ≠ 0 := fun h => h0 (h2.len_iff.1 h)
    have hb : ((n2 : Int) == 0) = false := by simp; omega
    obtain ⟨z0, z1, z2⟩ := HA.out _ b2
    have HL := Lib.hid (lowest_r (w := w2) (s := s) (q := q) (k := k) ⟨x, y, hx1.below b2, hy1.below b2, by omega, hq, hn, hm⟩ hk8)
    have hs2 := b2.size
    clear h2 hq
    go_wp2_with fail
    refine HL.out.mono ?_
    rintro e w3 ⟨s3, A3, n3, c3, B3, m3, d3, rfl, r3, o3, o3', b3⟩
    have hk := nextB b2 b3
    clear z0 z1 z2
    obtain ⟨o0, o1, o2⟩ := HZ.out _ hk
    obtain ⟨f0, f1, f2⟩ := HF.out _ hk
    go_wp2
    exact bodyPost_ret (v := .agg #[.bool s3, .slice A3 n3 c3, .slice B3 m3 d3]) (by simp [results, Tryz.results84, go_sem, o0, o1, o2]) rfl ⟨_, _, _, _, _, _, _, rfl,
      store_end (wp := w2) r3 o3 o3' (by have := HSZ.out; omega) (by rw [HG.out]; omega) (nextB hb1 hk) _ _ _⟩
end Go.Proofs.YtekalaihfmfkkaaGreatDoor
