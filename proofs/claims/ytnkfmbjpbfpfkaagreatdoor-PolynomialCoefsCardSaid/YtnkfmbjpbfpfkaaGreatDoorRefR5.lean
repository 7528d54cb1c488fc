/-
  exactpplref02.Norm: the normal form.
  exactpplref02.Make, Format, Neg, Sign: the reference's fractions.
  exactpplref02.Mul, Div, Add.
  exactpplref02.Add.
  exactpplref02.Neg, Sub, Cmp, Equal, Format.
-/
import Derived.Test.YtnkfmbjpbfpfkaaGreatDoorRefR1
import Derived.Test.YtnkfmbjpbfpfkaaGreatDoorRatDiv
import Derived.Test.YtnkfmbjpbfpfkaaGreatDoorRatCmp
import Derived.Test.YtnkfmbjpbfpfkaaGreatDoorRefSub
import Derived.Deep.DeepCutAuto
namespace Go.Proofs.YtnkfmbjpbfpfkaaGreatDoor
open Go.RowKit
set_option maxRecDepth 20000

theorem rn_zero {w : World} {B : Option Addr} {m d k : Nat} (h : Nrm w B m d 1) (hm : m ≤ k) : RN w false none 0 0 B m d 0 k :=
  ⟨by decide, ⟨[], Rd.nil w, Is.zero⟩, h, Nat.zero_le _, hm⟩

set_option maxHeartbeats 1000000 in
theorem refNorm_r {w : World} {s : Bool} {A B : Option Addr} {n c m d k : Nat} {q : Rat} (h : Loose w s A n c B m d q k) (k0 : 1 ≤ k) (hk8 : k ≤ 800000) :
    Calls Tryz.prog 81 #[.agg #[.bool s, .slice A n c, .slice B m d]] w (GivesR w q k) := by
  obtain ⟨x, y, hx, hy, hq, hn, hm⟩ := h
  have y0 := hy.nonneg
  obtain ⟨v1, hv1⟩ : ∃ v1, (w.alloc (.cells #[.bool s, .slice A n c, .slice B m d] 53)).alloc (.cells #[.bool false, .slice none 0 0, .slice none 0 0] 53) = v1 := ⟨_, rfl⟩
  obtain ⟨g, hg, hsz, hb1, hA, hZ, hF⟩ := boxes1 w _ _ _ _ _ _ _ _ v1 hv1
  have HG := Lib.hid hg
  have HSZ := Lib.hid hsz
  have HA := Lib.hid hA
  have HZ := Lib.hid hZ
  have HF := Lib.hid hF
  have HV := Lib.hid hv1
  have hx1 := hx.below hb1
  have hy1 := hy.below hb1
  have HT := Lib.hid (refTrim_n hy1 (by omega))
  clear hg hA hZ hF hsz hv1 hx hy
  go_enter Tryz.func81, Tryz.ntmps81
  go_wp2_with fail
  rw [HV.out, ← HG.out]
  refine HT.out.mono ?_
  rintro e w2 ⟨A2, n2, c2, rfl, h2, b2⟩
  clear HT
  by_cases h0 : y = 0
  · have hn2 : n2 = 0 := h2.len_iff.2 h0
    subst hn2
    subst h0
    rw [rat_over_zero] at hq
    subst hq
    have ba := (Below.refl w2.heap.size w2).alloc (Nat.le_refl _) (.cells #[.int .u32 1] 81)
    have hk := nextB b2 ba
    have HRZ := Lib.hid (rn_zero (k := k) (nrm_one_at (W := w2) rfl) k0)
    have HOZ : Hid (Off w2.heap.size (some ⟨w2.heap.size, 0, none⟩)) := by
      intro a ha
      injection ha with ha
      rw [← ha]; exact Nat.le_refl _
    obtain ⟨o0, o1, o2⟩ := HZ.out _ hk
    obtain ⟨f0, f1, f2⟩ := HF.out _ hk
    have hs2 := b2.size
    clear h2 ba
    go_wp2
    exact bodyPost_ret (v := .agg #[.bool false, .slice none 0 0, .slice (some ⟨w2.heap.size, 0, none⟩) 1 1]) (by simp [results, Tryz.results81, go_sem, o0, o1, o2]) rfl ⟨_, _, _, _, _, _, _, rfl,
      store_end (wp := w2) HRZ.out (Off.none _) HOZ.out (by have := HSZ.out; omega) (by rw [HG.out]; omega) (nextB hb1 hk) _ _ _⟩
  · have hn2 : n2 ≠ 0 := fun h => h0 (h2.len_iff.1 h)
    have hb : ((n2 : Int) == 0) = false := by simp; omega
    obtain ⟨z0, z1, z2⟩ := HA.out _ b2
    have HL := Lib.hid (lowest_r (w := w2) (s := s) (q := q) (k := k) ⟨x, y, hx1.below b2, hy1.below b2, by omega, hq, hn, hm⟩ hk8)
    have hs2 := b2.size
    clear h2 hq
    go_wp2_with fail
    refine HL.out.mono ?_
    rintro e w3 ⟨s3, A3, n3, c3, B3, m3, d3, rfl, r3, o3, o3', b3⟩
    have hk := nextB b2 b3
    clear z0 z1 z2
    obtain ⟨o0, o1, o2⟩ := HZ.out _ hk
    obtain ⟨f0, f1, f2⟩ := HF.out _ hk
    go_wp2
    exact bodyPost_ret (v := .agg #[.bool s3, .slice A3 n3 c3, .slice B3 m3 d3]) (by simp [results, Tryz.results81, go_sem, o0, o1, o2]) rfl ⟨_, _, _, _, _, _, _, rfl,
      store_end (wp := w2) r3 o3 o3' (by have := HSZ.out; omega) (by rw [HG.out]; omega) (nextB hb1 hk) _ _ _⟩
theorem blank_end {w v1 w' : World} {g : Nat} (hg : g = w.heap.size) (hb1 : Below w.heap.size w v1) (hk : Below v1.heap.size v1 w') (u v z : Value) :
    Below w.heap.size w (((w'.setCell ⟨g, 0, none⟩ u).setCell ⟨g, 1, none⟩ v).setCell ⟨g, 2, none⟩ z) := by
  subst hg
  exact (((nextB hb1 hk).setCell (Nat.le_refl _) _).setCell (Nat.le_refl _) _).setCell (Nat.le_refl _) _
theorem rat_back (q : Rat) : rat (decide (q.num < 0)) (q.num.natAbs : Int) (q.den : Int) = q := by
  unfold rat
  have e : sg (decide (q.num < 0)) (q.num.natAbs : Int) = q.num := by
    by_cases h : q.num < 0
    · rw [decide_eq_true h]; simp [sg]; omega
    · rw [decide_eq_false h]; simp [sg]; omega
  rw [e]
  exact Rat.num_divInt_den q
end Go.Proofs.YtnkfmbjpbfpfkaaGreatDoor

namespace Go.Proofs.YtnkfmbjpbfpfkaaGreatDoor
open Go.RowKit
set_option maxRecDepth 20000

theorem refNorm_of {w v : World} {s : Bool} {A B : Option Addr} {n c m d k : Nat} {q : Rat} (h : Loose w s A n c B m d q k) (hb : Below w.heap.size w v) (k0 : 1 ≤ k) (hk8 : k ≤ 800000) :
    Calls Tryz.prog 81 #[.agg #[.bool s, .slice A n c, .slice B m d]] v (GivesR v q k) := refNorm_r (h.below hb) k0 hk8

theorem RN.sgn {w : World} {s : Bool} {A B : Option Addr} {n c m d k : Nat} {q : Rat} (h : RN w s A n c B m d q k) :
    (n = 0 ∧ sgnR q = 0 ∧ s = false) ∨ (n ≠ 0 ∧ s = true ∧ sgnR q = -1) ∨ (n ≠ 0 ∧ s = false ∧ sgnR q = 1) := by
  obtain ⟨hs, hn, _⟩ := h
  have hz := hn.len_iff
  rcases sgnR_cases q with ⟨h1, h2⟩ | ⟨h1, h2⟩ | ⟨h1, h2⟩
  · have hneg : q.num < 0 := of_decide_eq_true ((rat_neg_iff (decide (q.num < 0)) (x := (q.num.natAbs : Int)) (y := (q.den : Int)) (by omega) (by have := q.den_pos; omega)).1 (by rw [rat_back]; exact h1)).1
    exact .inr (.inl ⟨fun h0 => by have := hz.1 h0; omega, by rw [hs, decide_eq_true hneg], h2⟩)
  · subst h1
    exact .inl ⟨hz.2 rfl, h2, hs⟩
  · have hpos := (rat_pos_iff (decide (q.num < 0)) (x := (q.num.natAbs : Int)) (y := (q.den : Int)) (by omega) (by have := q.den_pos; omega)).1 (by rw [rat_back]; exact h1)
    have hp2 := of_decide_eq_false hpos.1
    exact .inr (.inr ⟨fun h0 => by have := hz.1 h0; omega, by rw [hs, decide_eq_false (by omega)], h2⟩)

set_option maxHeartbeats 1000000 in
theorem refSign_r {w : World} {s : Bool} {A B : Option Addr} {n c m d k : Nat} {q : Rat} (h : Loose w s A n c B m d q k) (k0 : 1 ≤ k) (hk8 : k ≤ 800000) :
    Calls Tryz.prog 82 #[.agg #[.bool s, .slice A n c, .slice B m d]] w (IntB w (sgnR q)) := by
  obtain ⟨v1, hv1⟩ : ∃ v1, w.alloc (.cells #[.bool s, .slice A n c, .slice B m d] 53) = v1 := ⟨_, rfl⟩
  obtain ⟨g, hg, hsz, hb1, hZ, hF⟩ := boxes0 w _ _ _ _ v1 hv1
  have HG := Lib.hid hg
  have HSZ := Lib.hid hsz
  have HZ := Lib.hid hZ
  have HF := Lib.hid hF
  have HV := Lib.hid hv1
  have HN := Lib.hid (refNorm_of h hb1 k0 hk8)
  clear hZ hF hsz h hv1 hg
  go_enter Tryz.func82, Tryz.ntmps82
  obtain ⟨a0, a1, a2⟩ := HZ.out _ (Below.refl _ _)
  rw [← HV.out, HG.out] at a0 a1 a2
  go_wp2_with fail
  rw [HV.out, ← HG.out]
  clear a0 a1 a2
  refine HN.out.mono ?_
  rintro e w5 ⟨t9, A9, n9, c9, B9, m9, d9, rfl, r9, oA9, oB9, b9⟩
  obtain ⟨o0, o1, o2⟩ := HZ.out _ b9
  obtain ⟨f0, f1, f2⟩ := HF.out _ b9
  have hfin : Below w.heap.size w (((w5.setCell ⟨g, 0, none⟩ (.bool t9)).setCell ⟨g, 1, none⟩ (.slice A9 n9 c9)).setCell ⟨g, 2, none⟩ (.slice B9 m9 d9)) := blank_end HG.out hb1 b9 _ _ _
  have HFIN := Lib.hid hfin
  have HS := Lib.hid r9.sgn
  clear hfin r9
  rcases HS.out with ⟨h0, h1, h2⟩ | ⟨h0, h2, h1⟩ | ⟨h0, h2, h1⟩
  all_goals
    have H1 := Lib.hid h1
    clear h1
    subst h2
    try subst h0
    try (have hb0 : ((n9 : Int) == 0) = false := by simp; omega)
    go_wp2
    go_ret
    exact ⟨by rw [H1.out]; rfl, HFIN.out⟩
end Go.Proofs.YtnkfmbjpbfpfkaaGreatDoor

namespace Go.Proofs.YtnkfmbjpbfpfkaaGreatDoor
open Go.RowKit
set_option maxRecDepth 20000

theorem boxes2F (w : World) (a0 a1 a2 b0 b1 b2 z0 z1 z2 : Value) (T1 T2 T3 : TypeId) (v : World) (hv : ((w.alloc (.cells #[a0, a1, a2] T1)).alloc (.cells #[b0, b1, b2] T2)).alloc (.cells #[z0, z1, z2] T3) = v) :
    ∀ W, Below v.heap.size v W → (W.frozen? ⟨w.heap.size, 0, none⟩ = false ∧ W.frozen? ⟨w.heap.size, 1, none⟩ = false ∧ W.frozen? ⟨w.heap.size, 2, none⟩ = false) ∧ W.frozen? ⟨w.heap.size + 1, 0, none⟩ = false ∧ W.frozen? ⟨w.heap.size + 1, 1, none⟩ = false ∧ W.frozen? ⟨w.heap.size + 1, 2, none⟩ = false := by
  subst hv
  intro W hb
  have hs : (((w.alloc (.cells #[a0, a1, a2] T1)).alloc (.cells #[b0, b1, b2] T2)).alloc (.cells #[z0, z1, z2] T3)).heap.size = w.heap.size + 3 := by simp
  have fa : ∀ i, (((w.alloc (.cells #[a0, a1, a2] T1)).alloc (.cells #[b0, b1, b2] T2)).alloc (.cells #[z0, z1, z2] T3)).frozen? ⟨w.heap.size, i, none⟩ = false := fun i => by
    rw [World.frozen?_alloc_past _ _ _ (by simp; omega), World.frozen?_alloc_past _ _ _ (by simp)]
    exact World.frozen?_alloc_new (w := w) #[a0, a1, a2] T1 i
  have fb : ∀ i, (((w.alloc (.cells #[a0, a1, a2] T1)).alloc (.cells #[b0, b1, b2] T2)).alloc (.cells #[z0, z1, z2] T3)).frozen? ⟨w.heap.size + 1, i, none⟩ = false := fun i => by
    rw [World.frozen?_alloc_past _ _ _ (by simp)]
    have := World.frozen?_alloc_new (w := w.alloc (.cells #[a0, a1, a2] T1)) #[b0, b1, b2] T2 i
    rwa [World.size_alloc] at this
  exact ⟨three_free (by omega) fa W hb, three_free (by omega) fb W hb⟩

/-- Both fractions stand in their boxes in normal form; the result's box is as it was made. -/
def BothN (w : World) (g : Nat) (q q' : Rat) (k k' : Nat) (wx : World) : Prop :=
  ∃ s A n c B m d s' A' n' c' B' m' d',
    (wx.cell? ⟨g, 0, none⟩ = some (.bool s) ∧ wx.cell? ⟨g, 1, none⟩ = some (.slice A n c) ∧ wx.cell? ⟨g, 2, none⟩ = some (.slice B m d)) ∧
    (wx.cell? ⟨g + 1, 0, none⟩ = some (.bool s') ∧ wx.cell? ⟨g + 1, 1, none⟩ = some (.slice A' n' c') ∧ wx.cell? ⟨g + 1, 2, none⟩ = some (.slice B' m' d')) ∧
    RN wx s A n c B m d q k ∧ RN wx s' A' n' c' B' m' d' q' k' ∧
    (wx.cell? ⟨g + 2, 0, none⟩ = some (.bool false) ∧ wx.cell? ⟨g + 2, 1, none⟩ = some (.slice none 0 0) ∧ wx.cell? ⟨g + 2, 2, none⟩ = some (.slice none 0 0)) ∧
    (wx.frozen? ⟨g + 2, 0, none⟩ = false ∧ wx.frozen? ⟨g + 2, 1, none⟩ = false ∧ wx.frozen? ⟨g + 2, 2, none⟩ = false) ∧ Below w.heap.size w wx ∧ g + 2 < wx.heap.size
theorem free3 {w : World} {g h : Nat} (H : w.frozen? ⟨g, 0, none⟩ = false ∧ w.frozen? ⟨g, 1, none⟩ = false ∧ w.frozen? ⟨g, 2, none⟩ = false) (u v z : Value) :
    (((w.setCell ⟨h, 0, none⟩ u).setCell ⟨h, 1, none⟩ v).setCell ⟨h, 2, none⟩ z).frozen? ⟨g, 0, none⟩ = false ∧ (((w.setCell ⟨h, 0, none⟩ u).setCell ⟨h, 1, none⟩ v).setCell ⟨h, 2, none⟩ z).frozen? ⟨g, 1, none⟩ = false ∧ (((w.setCell ⟨h, 0, none⟩ u).setCell ⟨h, 1, none⟩ v).setCell ⟨h, 2, none⟩ z).frozen? ⟨g, 2, none⟩ = false := by
  simp only [World.frozen?_setCell]
  exact H
theorem bothN_mk {w v1 wp wq wx : World} {g : Nat} {q q' : Rat} {k k' : Nat} {s s' : Bool} {A B A' B' : Option Addr} {n c m d n' c' m' d' : Nat} {z0 z1 z2 y0 y1 y2 : Value} (hg : g = w.heap.size) (hsz : v1.heap.size = g + 3) (hb1 : Below w.heap.size w v1)
    (HZ : ∀ W, Below v1.heap.size v1 W → W.cell? ⟨g + 2, 0, none⟩ = some (.bool false) ∧ W.cell? ⟨g + 2, 1, none⟩ = some (.slice none 0 0) ∧ W.cell? ⟨g + 2, 2, none⟩ = some (.slice none 0 0))
    (HF : ∀ W, Below v1.heap.size v1 W → W.frozen? ⟨g + 2, 0, none⟩ = false ∧ W.frozen? ⟨g + 2, 1, none⟩ = false ∧ W.frozen? ⟨g + 2, 2, none⟩ = false)
    (hk : Below v1.heap.size v1 wx) (ca : wx.cell? ⟨g, 0, none⟩ = some z0 ∧ wx.cell? ⟨g, 1, none⟩ = some z1 ∧ wx.cell? ⟨g, 2, none⟩ = some z2) (cb : wx.cell? ⟨g + 1, 0, none⟩ = some y0 ∧ wx.cell? ⟨g + 1, 1, none⟩ = some y1 ∧ wx.cell? ⟨g + 1, 2, none⟩ = some y2)
    (r : RN wx s A n c B m d q k) (r' : RN wx s' A' n' c' B' m' d' q' k') (oA : Off wp.heap.size A) (oB : Off wp.heap.size B) (oA' : Off wq.heap.size A') (oB' : Off wq.heap.size B') (hp : v1.heap.size ≤ wp.heap.size) (hq : v1.heap.size ≤ wq.heap.size) :
    BothN w g q q' k k' ((((((wx.setCell ⟨g, 0, none⟩ (.bool s)).setCell ⟨g, 1, none⟩ (.slice A n c)).setCell ⟨g, 2, none⟩ (.slice B m d)).setCell ⟨g + 1, 0, none⟩ (.bool s')).setCell ⟨g + 1, 1, none⟩ (.slice A' n' c')).setCell ⟨g + 1, 2, none⟩ (.slice B' m' d')) :=
  ⟨s, A, n, c, B, m, d, s', A', n', c', B', m', d', kept3 (by omega) (set3 ca), set3 (kept3 (by omega) cb),
    (r.far3 (fun _ a e => by have := oA a e; omega) (fun _ a e => by have := oB a e; omega) _ _ _ _ _ _).far3 (fun _ a e => by have := oA a e; omega) (fun _ a e => by have := oB a e; omega) _ _ _ _ _ _,
    (r'.far3 (fun _ a e => by have := oA' a e; omega) (fun _ a e => by have := oB' a e; omega) _ _ _ _ _ _).far3 (fun _ a e => by have := oA' a e; omega) (fun _ a e => by have := oB' a e; omega) _ _ _ _ _ _,
    kept3 (by omega) (kept3 (by omega) (HZ _ hk)), free3 (free3 (HF _ hk) _ _ _) _ _ _,
    ((((((nextB hb1 hk).setCell (by simp; omega) _).setCell (by simp; omega) _).setCell (by simp; omega) _).setCell (by simp; omega) _).setCell (by simp; omega) _).setCell (by simp; omega) _,
    by have := hk.size; simp [World.setCell]; omega⟩


theorem frac_prod {w : World} {A B : Option Addr} {n c m d k k' : Nat} {x x' y y' : Int} {s : Bool} {q : Rat} (h1 : Nrm w A n c (x * x')) (h2 : Nrm w B m d (y * y')) (x0 : 0 ≤ x) (x0' : 0 ≤ x') (y0 : 0 < y) (y0' : 0 < y') (lx : x < pw k) (lx' : x' < pw k') (ly : y < pw k) (ly' : y' < pw k') (e : rat s (x * x') (y * y') = q) :
    Frac w s A n c B m d q (k + k') :=
  ⟨_, _, h1.num, h2.num, Int.mul_pos y0 y0', e, h1.short (pw_prod x0 x0' lx lx'), h2.short (pw_prod (by omega) (by omega) ly ly')⟩
theorem mul_frac {w : World} {s s' : Bool} {A B A' B' : Option Addr} {n c m d n' c' m' d' k k' : Nat} {q q' : Rat} (r : RN w s A n c B m d q k) (r' : RN w s' A' n' c' B' m' d' q' k') :
    ∀ (W : World) {A7 A8 : Option Addr} {n7 c7 n8 c8 : Nat}, Nrm W A7 n7 c7 ((q.num.natAbs : Int) * (q'.num.natAbs : Int)) → Nrm W A8 n8 c8 ((q.den : Int) * (q'.den : Int)) → Frac W (!(s == s')) A7 n7 c7 A8 n8 c8 (q * q') (k + k') := by
  intro W A7 A8 n7 c7 n8 c8 h7 h8
  refine frac_prod h7 h8 (by omega) (by omega) (by have := q.den_pos; omega) (by have := q'.den_pos; omega) (pw_up r.2.1.num.lt r.2.2.2.1) (pw_up r'.2.1.num.lt r'.2.2.2.1) (pw_up r.2.2.1.num.lt r.2.2.2.2) (pw_up r'.2.2.1.num.lt r'.2.2.2.2) ?_
  have h := rat_mul s s' (q.num.natAbs : Int) (q.den : Int) (q'.num.natAbs : Int) (q'.den : Int)
  rw [r.1, r'.1, rat_self, rat_self, ← r.1, ← r'.1] at h
  exact h.symm
theorem div_frac {w : World} {s s' : Bool} {A B A' B' : Option Addr} {n c m d n' c' m' d' k k' : Nat} {q q' : Rat} (r : RN w s A n c B m d q k) (r' : RN w s' A' n' c' B' m' d' q' k') (hq0 : q' ≠ 0) :
    ∀ (W : World) {A7 A8 : Option Addr} {n7 c7 n8 c8 : Nat}, Nrm W A7 n7 c7 ((q.num.natAbs : Int) * (q'.den : Int)) → Nrm W A8 n8 c8 ((q.den : Int) * (q'.num.natAbs : Int)) → Frac W (!(s == s')) A7 n7 c7 A8 n8 c8 (q / q') (k + k') := by
  intro W A7 A8 n7 c7 n8 c8 h7 h8
  have hn0 : q'.num ≠ 0 := fun h => hq0 (Rat.num_eq_zero.1 h)
  refine frac_prod h7 h8 (by omega) (by omega) (by have := q.den_pos; omega) (by omega) (pw_up r.2.1.num.lt r.2.2.2.1) (pw_up r'.2.2.1.num.lt r'.2.2.2.2) (pw_up r.2.2.1.num.lt r.2.2.2.2) (pw_up r'.2.1.num.lt r'.2.2.2.1) ?_
  have h := rat_mul s s' (q.num.natAbs : Int) (q.den : Int) (q'.den : Int) (q'.num.natAbs : Int)
  rw [rat_inv s', r.1, r'.1, rat_self, rat_self, ← r.1, ← r'.1, ← Rat.div_def] at h
  exact h.symm

set_option maxHeartbeats 4000000 in
theorem refMulR {w : World} {s s' : Bool} {A B A' B' : Option Addr} {n c m d n' c' m' d' k k' : Nat} {q q' : Rat} (h : Loose w s A n c B m d q k) (h' : Loose w s' A' n' c' B' m' d' q' k') (k0 : 1 ≤ k) (k1 : 1 ≤ k') (hk8 : k ≤ 100000) (hk9 : k' ≤ 100000) :
    Calls Tryz.prog 83 #[.agg #[.bool s, .slice A n c, .slice B m d], .agg #[.bool s', .slice A' n' c', .slice B' m' d']] w (GivesR w (q * q') (k + k')) := by
  obtain ⟨v1, hv1⟩ : ∃ v1, ((w.alloc (.cells #[.bool s, .slice A n c, .slice B m d] 53)).alloc (.cells #[.bool s', .slice A' n' c', .slice B' m' d'] 53)).alloc (.cells #[.bool false, .slice none 0 0, .slice none 0 0] 53) = v1 := ⟨_, rfl⟩
  obtain ⟨g, hg, hsz, hb1, hA, hB, hZ, hF⟩ := boxes2 w _ _ _ _ _ _ _ _ _ _ _ _ v1 hv1
  have hA' := boxes2F w _ _ _ _ _ _ _ _ _ _ _ _ v1 hv1
  rw [← hg] at hA'
  have HG := Lib.hid hg
  have HSZ := Lib.hid hsz
  have HA := Lib.hid hA
  have HB := Lib.hid hB
  have HZ := Lib.hid hZ
  have HF := Lib.hid hF
  have HF' := Lib.hid hA'
  have HV := Lib.hid hv1
  clear hA hB hZ hF hv1 hsz hg hA'
  have NA : Hid (∀ W, Below v1.heap.size v1 W → Calls Tryz.prog 81 #[.agg #[.bool s, .slice A n c, .slice B m d]] W (GivesR W q k)) := fun W hW => refNorm_of (h.below hb1) hW k0 (by omega)
  have NB : Hid (∀ W, Below v1.heap.size v1 W → Calls Tryz.prog 81 #[.agg #[.bool s', .slice A' n' c', .slice B' m' d']] W (GivesR W q' k')) := fun W hW => refNorm_of (h'.below hb1) hW k1 (by omega)
  clear h h'
  go_enter Tryz.func83, Tryz.ntmps83
  go_upto_region 1 with fail
  rw [HV.out, ← HG.out]
  go_cut [6] (fun _ wx => BothN w g q q' k k' wx)
  case first =>
    have hk0x : Below v1.heap.size v1 v1.drew := (Below.refl _ _).drew
    refine wp_region_held_drew (S := (fun _ => True)) (by kernel_rfl) ?_ (fun hHeld => ?_)
    · trivial
    obtain ⟨w0, hw0⟩ : ∃ w0, w0 = v1.drew := ⟨_, rfl⟩
    rw [← hw0] at hk0x ⊢
    have hk0 := hk0x
    clear hw0 hk0x
    refine wpAnyH_ready (rs := [0, 2]) (by kernel_rfl) (by simp) ?_
    refine AllReadyH.cons (o := ⟨some 5, _, _, _, _, _⟩) rfl (fun K hK => ?_) ?_
    ·obtain ⟨a0, a1, a2⟩ := HA.out _ hk0; go_simp; refine hK.out _ _ trivial (fun hHeld => ?_); clear hK K a0 a1 a2; try simp only [Act.put, List.setIfInBounds_toArray, List.set_cons_zero, List.set_cons_succ]
     have hk1 := hk0
     refine wpAnyH_ready (rs := [1, 2]) (by kernel_rfl) (by simp) ?_
     refine AllReadyH.cons (o := ⟨some 6, _, _, _, _, _⟩) rfl (fun K hK => ?_) ?_
     ·go_simp; go_at_call 81; refine (NA.out _ hk1).mono ?_; rintro e w2 ⟨s5, A5, n5, c5, B5, m5, d5, rfl, r5, oA5, oB5, e5⟩; have hz5 := hk1.size; have hk2 := nextB hk1 e5; go_wp2_with fail; refine hK.out _ _ trivial (fun hHeld => ?_); clear hK K; try simp only [Act.put, List.setIfInBounds_toArray, List.set_cons_zero, List.set_cons_succ]
      refine wpAnyH_ready (rs := [2]) (by kernel_rfl) (by simp) ?_
      refine AllReadyH.cons (o := ⟨some 7, _, _, _, _, _⟩) rfl (fun K hK => ?_) ?_
      ·obtain ⟨b0, b1, b2⟩ := HB.out _ hk2; go_simp; refine hK.out _ _ trivial (fun hHeld => ?_); clear hK K b0 b1 b2; try simp only [Act.put, List.setIfInBounds_toArray, List.set_cons_zero, List.set_cons_succ]
       have hk3 := hk2
       refine wpAnyH_ready (rs := [3]) (by kernel_rfl) (by simp) ?_
       refine AllReadyH.cons (o := ⟨some 8, _, _, _, _, _⟩) rfl (fun K hK => ?_) ?_
       ·go_simp; go_at_call 81; refine (NB.out _ hk3).mono ?_; rintro e w4 ⟨s6, A6, n6, c6, B6, m6, d6, rfl, r6, oA6, oB6, e6⟩; have hz6 := hk3.size; have hk4 := nextB hk3 e6; go_wp2_with fail; refine hK.out _ _ trivial (fun hHeld => ?_); clear hK K; try simp only [Act.put, List.setIfInBounds_toArray, List.set_cons_zero, List.set_cons_succ]
        obtain ⟨a0, a1, a2⟩ := HA.out _ hk4; obtain ⟨b0, b1, b2⟩ := HB.out _ hk4; obtain ⟨⟨fa0, fa1, fa2⟩, fb0, fb1, fb2⟩ := HF'.out _ hk4; refine wpAnyH_ready (rs := [4]) (by kernel_rfl) (by simp) ?_; refine AllReadyH.cons (o := ⟨none, _, _, _, _, _⟩) rfl (fun K hK => ?_) AllReadyH.nil; go_simp; refine hK.out _ _ trivial (fun hHeld => ?_); clear hK K; try simp only [Act.put, List.setIfInBounds_toArray, List.set_cons_zero, List.set_cons_succ]
        obtain ⟨wy, hwy⟩ : ∃ wy, ((w4.setCell ⟨g, 0, none⟩ (.bool s5)).setCell ⟨g, 1, none⟩ (.slice A5 n5 c5)).setCell ⟨g, 2, none⟩ (.slice B5 m5 d5) = wy := ⟨_, rfl⟩
        have kb : wy.cell? ⟨g + 1, 0, none⟩ = some (.bool s') ∧ wy.cell? ⟨g + 1, 1, none⟩ = some (.slice A' n' c') ∧ wy.cell? ⟨g + 1, 2, none⟩ = some (.slice B' m' d') := by rw [← hwy]; exact kept3 (by omega) ⟨b0, b1, b2⟩
        have kf : wy.frozen? ⟨g + 1, 0, none⟩ = false ∧ wy.frozen? ⟨g + 1, 1, none⟩ = false ∧ wy.frozen? ⟨g + 1, 2, none⟩ = false := by rw [← hwy]; exact free3 ⟨fb0, fb1, fb2⟩ _ _ _
        rw [hwy]; obtain ⟨kb0, kb1, kb2⟩ := kb; obtain ⟨kf0, kf1, kf2⟩ := kf; have HWY := Lib.hid hwy; clear hwy fa0 fa1 fa2 fb0 fb1 fb2; refine wpAnyH_ready (rs := [5]) (by kernel_rfl) (by simp) ?_; refine AllReadyH.cons (o := ⟨none, _, _, _, _, _⟩) rfl (fun K hK => ?_) AllReadyH.nil; go_simp; refine hK.out _ _ trivial (fun hHeld => ?_); clear hK K; try simp only [Act.put, List.setIfInBounds_toArray, List.set_cons_zero, List.set_cons_succ]
        refine wpAnyH_done (by kernel_rfl) ?_ _; go_wp2_with fail; go_meet; rw [← HWY.out]
        exact bothN_mk HG.out HSZ.out hb1 HZ.out HF.out hk4 ⟨a0, a1, a2⟩ ⟨b0, b1, b2⟩ (r5.below e6) r6 oA5 oB5 oA6 oB6 hz5 hz6
       exact AllReadyH.nil
      exact AllReadyH.nil
     refine AllReadyH.cons (o := ⟨some 7, _, _, _, _, _⟩) rfl (fun K hK => ?_) ?_
     ·obtain ⟨b0, b1, b2⟩ := HB.out _ hk1; go_simp; refine hK.out _ _ trivial (fun hHeld => ?_); clear hK K b0 b1 b2; try simp only [Act.put, List.setIfInBounds_toArray, List.set_cons_zero, List.set_cons_succ]
      have hk2 := hk1
      refine wpAnyH_ready (rs := [1]) (by kernel_rfl) (by simp) ?_
      refine AllReadyH.cons (o := ⟨some 6, _, _, _, _, _⟩) rfl (fun K hK => ?_) ?_
      ·go_simp; go_at_call 81; refine (NA.out _ hk2).mono ?_; rintro e w3 ⟨s5, A5, n5, c5, B5, m5, d5, rfl, r5, oA5, oB5, e5⟩; have hz5 := hk2.size; have hk3 := nextB hk2 e5; go_wp2_with fail; refine hK.out _ _ trivial (fun hHeld => ?_); clear hK K; try simp only [Act.put, List.setIfInBounds_toArray, List.set_cons_zero, List.set_cons_succ]
       refine wpAnyH_ready (rs := [3]) (by kernel_rfl) (by simp) ?_
       refine AllReadyH.cons (o := ⟨some 8, _, _, _, _, _⟩) rfl (fun K hK => ?_) ?_
       ·go_simp; go_at_call 81; refine (NB.out _ hk3).mono ?_; rintro e w4 ⟨s6, A6, n6, c6, B6, m6, d6, rfl, r6, oA6, oB6, e6⟩; have hz6 := hk3.size; have hk4 := nextB hk3 e6; go_wp2_with fail; refine hK.out _ _ trivial (fun hHeld => ?_); clear hK K; try simp only [Act.put, List.setIfInBounds_toArray, List.set_cons_zero, List.set_cons_succ]
        obtain ⟨a0, a1, a2⟩ := HA.out _ hk4; obtain ⟨b0, b1, b2⟩ := HB.out _ hk4; obtain ⟨⟨fa0, fa1, fa2⟩, fb0, fb1, fb2⟩ := HF'.out _ hk4; refine wpAnyH_ready (rs := [4]) (by kernel_rfl) (by simp) ?_; refine AllReadyH.cons (o := ⟨none, _, _, _, _, _⟩) rfl (fun K hK => ?_) AllReadyH.nil; go_simp; refine hK.out _ _ trivial (fun hHeld => ?_); clear hK K; try simp only [Act.put, List.setIfInBounds_toArray, List.set_cons_zero, List.set_cons_succ]
        obtain ⟨wy, hwy⟩ : ∃ wy, ((w4.setCell ⟨g, 0, none⟩ (.bool s5)).setCell ⟨g, 1, none⟩ (.slice A5 n5 c5)).setCell ⟨g, 2, none⟩ (.slice B5 m5 d5) = wy := ⟨_, rfl⟩
        have kb : wy.cell? ⟨g + 1, 0, none⟩ = some (.bool s') ∧ wy.cell? ⟨g + 1, 1, none⟩ = some (.slice A' n' c') ∧ wy.cell? ⟨g + 1, 2, none⟩ = some (.slice B' m' d') := by rw [← hwy]; exact kept3 (by omega) ⟨b0, b1, b2⟩
        have kf : wy.frozen? ⟨g + 1, 0, none⟩ = false ∧ wy.frozen? ⟨g + 1, 1, none⟩ = false ∧ wy.frozen? ⟨g + 1, 2, none⟩ = false := by rw [← hwy]; exact free3 ⟨fb0, fb1, fb2⟩ _ _ _
        rw [hwy]; obtain ⟨kb0, kb1, kb2⟩ := kb; obtain ⟨kf0, kf1, kf2⟩ := kf; have HWY := Lib.hid hwy; clear hwy fa0 fa1 fa2 fb0 fb1 fb2; refine wpAnyH_ready (rs := [5]) (by kernel_rfl) (by simp) ?_; refine AllReadyH.cons (o := ⟨none, _, _, _, _, _⟩) rfl (fun K hK => ?_) AllReadyH.nil; go_simp; refine hK.out _ _ trivial (fun hHeld => ?_); clear hK K; try simp only [Act.put, List.setIfInBounds_toArray, List.set_cons_zero, List.set_cons_succ]
        refine wpAnyH_done (by kernel_rfl) ?_ _; go_wp2_with fail; go_meet; rw [← HWY.out]
        exact bothN_mk HG.out HSZ.out hb1 HZ.out HF.out hk4 ⟨a0, a1, a2⟩ ⟨b0, b1, b2⟩ (r5.below e6) r6 oA5 oB5 oA6 oB6 hz5 hz6
       exact AllReadyH.nil
      exact AllReadyH.nil
     exact AllReadyH.nil
    refine AllReadyH.cons (o := ⟨some 7, _, _, _, _, _⟩) rfl (fun K hK => ?_) ?_
    ·obtain ⟨b0, b1, b2⟩ := HB.out _ hk0; go_simp; refine hK.out _ _ trivial (fun hHeld => ?_); clear hK K b0 b1 b2; try simp only [Act.put, List.setIfInBounds_toArray, List.set_cons_zero, List.set_cons_succ]
     have hk1 := hk0
     refine wpAnyH_ready (rs := [0]) (by kernel_rfl) (by simp) ?_
     refine AllReadyH.cons (o := ⟨some 5, _, _, _, _, _⟩) rfl (fun K hK => ?_) ?_
     ·obtain ⟨a0, a1, a2⟩ := HA.out _ hk1; go_simp; refine hK.out _ _ trivial (fun hHeld => ?_); clear hK K a0 a1 a2; try simp only [Act.put, List.setIfInBounds_toArray, List.set_cons_zero, List.set_cons_succ]
      have hk2 := hk1
      refine wpAnyH_ready (rs := [1]) (by kernel_rfl) (by simp) ?_
      refine AllReadyH.cons (o := ⟨some 6, _, _, _, _, _⟩) rfl (fun K hK => ?_) ?_
      ·go_simp; go_at_call 81; refine (NA.out _ hk2).mono ?_; rintro e w3 ⟨s5, A5, n5, c5, B5, m5, d5, rfl, r5, oA5, oB5, e5⟩; have hz5 := hk2.size; have hk3 := nextB hk2 e5; go_wp2_with fail; refine hK.out _ _ trivial (fun hHeld => ?_); clear hK K; try simp only [Act.put, List.setIfInBounds_toArray, List.set_cons_zero, List.set_cons_succ]
       refine wpAnyH_ready (rs := [3]) (by kernel_rfl) (by simp) ?_
       refine AllReadyH.cons (o := ⟨some 8, _, _, _, _, _⟩) rfl (fun K hK => ?_) ?_
       ·go_simp; go_at_call 81; refine (NB.out _ hk3).mono ?_; rintro e w4 ⟨s6, A6, n6, c6, B6, m6, d6, rfl, r6, oA6, oB6, e6⟩; have hz6 := hk3.size; have hk4 := nextB hk3 e6; go_wp2_with fail; refine hK.out _ _ trivial (fun hHeld => ?_); clear hK K; try simp only [Act.put, List.setIfInBounds_toArray, List.set_cons_zero, List.set_cons_succ]
        obtain ⟨a0, a1, a2⟩ := HA.out _ hk4; obtain ⟨b0, b1, b2⟩ := HB.out _ hk4; obtain ⟨⟨fa0, fa1, fa2⟩, fb0, fb1, fb2⟩ := HF'.out _ hk4; refine wpAnyH_ready (rs := [4]) (by kernel_rfl) (by simp) ?_; refine AllReadyH.cons (o := ⟨none, _, _, _, _, _⟩) rfl (fun K hK => ?_) AllReadyH.nil; go_simp; refine hK.out _ _ trivial (fun hHeld => ?_); clear hK K; try simp only [Act.put, List.setIfInBounds_toArray, List.set_cons_zero, List.set_cons_succ]
        obtain ⟨wy, hwy⟩ : ∃ wy, ((w4.setCell ⟨g, 0, none⟩ (.bool s5)).setCell ⟨g, 1, none⟩ (.slice A5 n5 c5)).setCell ⟨g, 2, none⟩ (.slice B5 m5 d5) = wy := ⟨_, rfl⟩
        have kb : wy.cell? ⟨g + 1, 0, none⟩ = some (.bool s') ∧ wy.cell? ⟨g + 1, 1, none⟩ = some (.slice A' n' c') ∧ wy.cell? ⟨g + 1, 2, none⟩ = some (.slice B' m' d') := by rw [← hwy]; exact kept3 (by omega) ⟨b0, b1, b2⟩
        have kf : wy.frozen? ⟨g + 1, 0, none⟩ = false ∧ wy.frozen? ⟨g + 1, 1, none⟩ = false ∧ wy.frozen? ⟨g + 1, 2, none⟩ = false := by rw [← hwy]; exact free3 ⟨fb0, fb1, fb2⟩ _ _ _
        rw [hwy]; obtain ⟨kb0, kb1, kb2⟩ := kb; obtain ⟨kf0, kf1, kf2⟩ := kf; have HWY := Lib.hid hwy; clear hwy fa0 fa1 fa2 fb0 fb1 fb2; refine wpAnyH_ready (rs := [5]) (by kernel_rfl) (by simp) ?_; refine AllReadyH.cons (o := ⟨none, _, _, _, _, _⟩) rfl (fun K hK => ?_) AllReadyH.nil; go_simp; refine hK.out _ _ trivial (fun hHeld => ?_); clear hK K; try simp only [Act.put, List.setIfInBounds_toArray, List.set_cons_zero, List.set_cons_succ]
        refine wpAnyH_done (by kernel_rfl) ?_ _; go_wp2_with fail; go_meet; rw [← HWY.out]
        exact bothN_mk HG.out HSZ.out hb1 HZ.out HF.out hk4 ⟨a0, a1, a2⟩ ⟨b0, b1, b2⟩ (r5.below e6) r6 oA5 oB5 oA6 oB6 hz5 hz6
       exact AllReadyH.nil
      exact AllReadyH.nil
     exact AllReadyH.nil
    exact AllReadyH.nil
  case rest =>
    obtain ⟨s5, A5, n5, c5, B5, m5, d5, s6, A6, n6, c6, B6, m6, d6, CA, CB, r5, r6, ZZ, FF, hbx, hgx⟩ := hcut
    have HCA := Lib.hid (three_cells (by omega) CA.1 CA.2.1 CA.2.2)
    have HCB := Lib.hid (three_cells (by omega) CB.1 CB.2.1 CB.2.2)
    have HZX := Lib.hid (three_cells hgx ZZ.1 ZZ.2.1 ZZ.2.2)
    have HFX : Hid (∀ W, Below wc.heap.size wc W → W.frozen? ⟨g + 2, 0, none⟩ = false ∧ W.frozen? ⟨g + 2, 1, none⟩ = false ∧ W.frozen? ⟨g + 2, 2, none⟩ = false) := fun W hb => ⟨(hb.frozen (p := ⟨g + 2, 0, none⟩) hgx).trans FF.1, (hb.frozen (p := ⟨g + 2, 1, none⟩) hgx).trans FF.2.1, (hb.frozen (p := ⟨g + 2, 2, none⟩) hgx).trans FF.2.2⟩
    clear CA CB ZZ FF HA HB HZ HF HF' NA NB hb1
    have l5 := r5.2.2.2.1
    have l5' := r5.2.2.2.2
    have l6 := r6.2.2.2.1
    have l6' := r6.2.2.2.2
    have HFR := Lib.hid (mul_frac r5 r6)
    have NA1 := Lib.hid r5.2.1.num
    have NA2 := Lib.hid r5.2.2.1.num
    have NB1 := Lib.hid r6.2.1.num
    have NB2 := Lib.hid r6.2.2.1.num
    clear r5 r6
    go_upto_region 2 with fail
    have hk : Below wc.heap.size wc wc.drew := (Below.refl _ _).drew
    refine wp_region_held_drew (S := (fun W => (W.cell? ⟨g, 0, none⟩ = some (.bool s5) ∧ W.cell? ⟨g, 1, none⟩ = some (.slice A5 n5 c5) ∧ W.cell? ⟨g, 2, none⟩ = some (.slice B5 m5 d5)) ∧ (W.cell? ⟨g + 1, 0, none⟩ = some (.bool s6) ∧ W.cell? ⟨g + 1, 1, none⟩ = some (.slice A6 n6 c6) ∧ W.cell? ⟨g + 1, 2, none⟩ = some (.slice B6 m6 d6)))) (by kernel_rfl) ?_ (fun hHeld => ?_)
    · exact ⟨HCA.out _ hk, HCB.out _ hk⟩
    refine wpAnyH_take (i := 0) (oi := ⟨some 9, _, _, _, _, _⟩) (v := ?_) rfl (by kernel_rfl) (by kernel_rfl) (by kernel_rfl) (fun _ _ _ h => h) (Or.inl ⟨by rfl, ?_⟩) (by assumption) ?_
    rotate_left
    · intro w hSw
      (try dsimp only at hSw)
      go_simp
      try with_reducible rfl
    try simp only [Act.put, List.setIfInBounds_toArray, List.set_cons_zero, List.set_cons_succ]
    refine wpAnyH_take (i := 1) (oi := ⟨some 10, _, _, _, _, _⟩) (v := ?_) rfl (by kernel_rfl) (by kernel_rfl) (by kernel_rfl) (fun _ _ _ h => h) (Or.inl ⟨by rfl, ?_⟩) (by assumption) ?_
    rotate_left
    · intro w hSw
      (try dsimp only at hSw)
      go_simp
      try with_reducible rfl
    try simp only [Act.put, List.setIfInBounds_toArray, List.set_cons_zero, List.set_cons_succ]
    refine wpAnyH_take (i := 2) (oi := ⟨some 11, _, _, _, _, _⟩) (v := ?_) rfl (by kernel_rfl) (by kernel_rfl) (by kernel_rfl) (fun _ _ _ h => h) (Or.inl ⟨by rfl, ?_⟩) (by assumption) ?_
    rotate_left
    · intro w hSw
      (try dsimp only at hSw)
      go_simp
      try with_reducible rfl
    try simp only [Act.put, List.setIfInBounds_toArray, List.set_cons_zero, List.set_cons_succ]
    refine wpAnyH_take (i := 3) (oi := ⟨some 12, _, _, _, _, _⟩) (v := ?_) rfl (by kernel_rfl) (by kernel_rfl) (by kernel_rfl) (fun _ _ _ h => h) (Or.inl ⟨by rfl, ?_⟩) (by assumption) ?_
    rotate_left
    · intro w hSw
      (try dsimp only at hSw)
      go_simp
      try with_reducible rfl
    try simp only [Act.put, List.setIfInBounds_toArray, List.set_cons_zero, List.set_cons_succ]
    refine wpAnyH_take (i := 4) (oi := ⟨some 13, _, _, _, _, _⟩) (v := ?_) rfl (by kernel_rfl) (by kernel_rfl) (by kernel_rfl) (fun _ _ _ h => h) (Or.inl ⟨by rfl, ?_⟩) (by assumption) ?_
    rotate_left
    · intro w hSw
      (try dsimp only at hSw)
      go_simp
      try with_reducible rfl
    try simp only [Act.put, List.setIfInBounds_toArray, List.set_cons_zero, List.set_cons_succ]
    refine wpAnyH_take (i := 5) (oi := ⟨some 14, _, _, _, _, _⟩) (v := ?_) rfl (by kernel_rfl) (by kernel_rfl) (by kernel_rfl) (fun _ _ _ h => h) (Or.inl ⟨by rfl, ?_⟩) (by assumption) ?_
    rotate_left
    · intro w hSw
      (try dsimp only at hSw)
      go_simp
      try with_reducible rfl
    try simp only [Act.put, List.setIfInBounds_toArray, List.set_cons_zero, List.set_cons_succ]
    refine wpAnyH_take (i := 6) (oi := ⟨some 15, _, _, _, _, _⟩) (v := ?_) rfl (by kernel_rfl) (by kernel_rfl) (by kernel_rfl) (fun _ _ _ h => h) (Or.inl ⟨by rfl, ?_⟩) (by assumption) ?_
    rotate_left
    · intro w hSw
      (try dsimp only at hSw)
      go_simp
      try with_reducible rfl
    try simp only [Act.put, List.setIfInBounds_toArray, List.set_cons_zero, List.set_cons_succ]
    refine wpAnyH_take (i := 7) (oi := ⟨some 16, _, _, _, _, _⟩) (v := ?_) rfl (by kernel_rfl) (by kernel_rfl) (by kernel_rfl) (fun _ _ _ h => h) (Or.inl ⟨by rfl, ?_⟩) (by assumption) ?_
    rotate_left
    · intro w hSw
      (try dsimp only at hSw)
      go_simp
      try with_reducible rfl
    try simp only [Act.put, List.setIfInBounds_toArray, List.set_cons_zero, List.set_cons_succ]
    refine wpAnyH_take (i := 8) (oi := ⟨some 17, _, _, _, _, _⟩) (v := ?_) rfl (by kernel_rfl) (by kernel_rfl) (by kernel_rfl) (fun _ _ _ h => h) (Or.inl ⟨by rfl, ?_⟩) (by assumption) ?_
    rotate_left
    · intro w hSw
      (try dsimp only at hSw)
      go_simp
      try with_reducible rfl
    try simp only [Act.put, List.setIfInBounds_toArray, List.set_cons_zero, List.set_cons_succ]
    refine wpAnyH_take (i := 10) (oi := ⟨some 19, _, _, _, _, _⟩) (v := ?_) rfl (by kernel_rfl) (by kernel_rfl) (by kernel_rfl) (fun _ _ _ h => h) (Or.inl ⟨by rfl, ?_⟩) (by assumption) ?_
    rotate_left
    · intro w hSw
      (try dsimp only at hSw)
      go_simp
      try with_reducible rfl
    try simp only [Act.put, List.setIfInBounds_toArray, List.set_cons_zero, List.set_cons_succ]
    refine wpAnyH_take (i := 11) (oi := ⟨some 20, _, _, _, _, _⟩) (v := ?_) rfl (by kernel_rfl) (by kernel_rfl) (by kernel_rfl) (fun _ _ _ h => h) (Or.inl ⟨by rfl, ?_⟩) (by assumption) ?_
    rotate_left
    · intro w hSw
      (try dsimp only at hSw)
      go_simp
      try with_reducible rfl
    try simp only [Act.put, List.setIfInBounds_toArray, List.set_cons_zero, List.set_cons_succ]
    refine wpAnyH_take (i := 12) (oi := ⟨some 21, _, _, _, _, _⟩) (v := ?_) rfl (by kernel_rfl) (by kernel_rfl) (by kernel_rfl) (fun _ _ _ h => h) (Or.inl ⟨by rfl, ?_⟩) (by assumption) ?_
    rotate_left
    · intro w hSw
      (try dsimp only at hSw)
      go_simp
      try with_reducible rfl
    try simp only [Act.put, List.setIfInBounds_toArray, List.set_cons_zero, List.set_cons_succ]
    refine wpAnyH_take (i := 13) (oi := ⟨some 22, _, _, _, _, _⟩) (v := ?_) rfl (by kernel_rfl) (by kernel_rfl) (by kernel_rfl) (fun _ _ _ h => h) (Or.inl ⟨by rfl, ?_⟩) (by assumption) ?_
    rotate_left
    · intro w hSw
      (try dsimp only at hSw)
      go_simp
      try with_reducible rfl
    try simp only [Act.put, List.setIfInBounds_toArray, List.set_cons_zero, List.set_cons_succ]
    refine wpAnyH_ready (rs := [9]) (by kernel_rfl) (by simp) ?_
    refine AllReadyH.cons (o := ⟨some 18, _, _, _, _, _⟩) rfl (fun K hK => ?_) AllReadyH.nil
    go_simp
    go_at_call 102
    refine (refMul_n (NA1.out.below hk) (NB1.out.below hk) (by omega) (by omega)).mono ?_
    rintro e w7 ⟨A7, n7, c7, rfl, h7, b7⟩
    have hz7 := hk.size
    replace hk := nextB hk b7
    go_wp2_with fail
    refine hK.out _ _ ⟨HCA.out _ hk, HCB.out _ hk⟩ (fun hHeld => ?_)
    clear hK K
    try simp only [Act.put, List.setIfInBounds_toArray, List.set_cons_zero, List.set_cons_succ]
    refine wpAnyH_ready (rs := [14]) (by kernel_rfl) (by simp) ?_
    refine AllReadyH.cons (o := ⟨some 23, _, _, _, _, _⟩) rfl (fun K hK => ?_) AllReadyH.nil
    go_simp
    go_at_call 102
    refine (refMul_n (NA2.out.below hk) (NB2.out.below hk) (by omega) (by omega)).mono ?_
    rintro e w8 ⟨A8, n8, c8, rfl, h8, b8⟩
    have hz8 := hk.size
    replace hk := nextB hk b8
    go_wp2_with fail
    refine hK.out _ _ ⟨HCA.out _ hk, HCB.out _ hk⟩ (fun hHeld => ?_)
    clear hK K
    try simp only [Act.put, List.setIfInBounds_toArray, List.set_cons_zero, List.set_cons_succ]
    refine wpAnyH_ready (rs := [15]) (by kernel_rfl) (by simp) ?_
    refine AllReadyH.cons (o := ⟨some 24, _, _, _, _, _⟩) rfl (fun K hK => ?_) AllReadyH.nil
    go_simp
    go_at_call 86
    refine (lowest_r (k := k + k') (HFR.out _ (h7.below b8) h8) (by omega)).mono ?_
    rintro e w9 ⟨t9, A9, n9, c9, B9, m9, d9, rfl, r9, oA9, oB9, b9⟩
    have hz9 := hk.size
    replace hk := nextB hk b9
    obtain ⟨o0, o1, o2⟩ := HZX.out _ hk
    obtain ⟨f0, f1, f2⟩ := HFX.out _ hk
    go_wp2_with fail
    refine hK.out _ _ ⟨HCA.out _ hk, HCB.out _ hk⟩ (fun hHeld => ?_)
    clear hK K
    try simp only [Act.put, List.setIfInBounds_toArray, List.set_cons_zero, List.set_cons_succ]
    refine wpAnyH_ready (rs := [16]) (by kernel_rfl) (by simp) ?_
    refine AllReadyH.cons (o := ⟨none, _, _, _, _, _⟩) rfl (fun K hK => ?_) AllReadyH.nil
    go_simp
    refine hK.out _ _ ⟨kept3 (by omega) (HCA.out _ hk), kept3 (by omega) (HCB.out _ hk)⟩ (fun hHeld => ?_)
    clear hK K
    try simp only [Act.put, List.setIfInBounds_toArray, List.set_cons_zero, List.set_cons_succ]
    refine wpAnyH_done (by kernel_rfl) ?_ _
    go_wp2
    exact bodyPost_ret (v := .agg #[.bool t9, .slice A9 n9 c9, .slice B9 m9 d9]) (by simp [results, Tryz.results83, go_sem, o0, o1, o2]) rfl ⟨_, _, _, _, _, _, _, rfl,
      store_end r9 oA9 oB9 (by omega) (by rw [HG.out]; omega) (nextB hbx hk) _ _ _⟩

end Go.Proofs.YtnkfmbjpbfpfkaaGreatDoor

namespace Go.Proofs.YtnkfmbjpbfpfkaaGreatDoor
open Go.RowKit
set_option maxRecDepth 20000

theorem add_lt {x y : Int} {j : Nat} (hx : x < pw j) (hy : y < pw j) : x + y < pw (j + 1) := by
  have h := pw_pos j
  rw [pw_succ]
  omega
theorem den_lt {q q' : Rat} {k k' : Nat} (ly : (q.den : Int) < pw k) (ly' : (q'.den : Int) < pw k') : (q.den : Int) * (q'.den : Int) < pw (k + k' + 1) := by
  have h := pw_prod (by omega) (by omega) ly ly'
  exact Int.lt_of_lt_of_le h (pw_mono (by omega))
section
variable {w : World} {s s' : Bool} {A B A' B' : Option Addr} {n c m d n' c' m' d' k k' : Nat} {q q' : Rat}
theorem RN.lts (r : RN w s A n c B m d q k) : (q.num.natAbs : Int) < pw k ∧ (q.den : Int) < pw k := ⟨pw_up r.2.1.num.lt r.2.2.2.1, pw_up r.2.2.1.num.lt r.2.2.2.2⟩
theorem add_frac_same (r : RN w s A n c B m d q k) (r' : RN w s A' n' c' B' m' d' q' k') :
    ∀ (W : World) {A7 A8 : Option Addr} {n7 c7 n8 c8 : Nat}, Nrm W A7 n7 c7 ((q.num.natAbs : Int) * (q'.den : Int) + (q'.num.natAbs : Int) * (q.den : Int)) → Nrm W A8 n8 c8 ((q.den : Int) * (q'.den : Int)) → Frac W s A7 n7 c7 A8 n8 c8 (q + q') (k + k' + 1) := by
  intro W A7 A8 n7 c7 n8 c8 h7 h8
  have y0 : (0 : Int) < q.den := by have := q.den_pos; omega
  have v0 : (0 : Int) < q'.den := by have := q'.den_pos; omega
  have e := rat_add_same s (x := (q.num.natAbs : Int)) (y := (q.den : Int)) (u := (q'.num.natAbs : Int)) (v := (q'.den : Int)) (by omega) (by omega)
  have e1 := rat_self q
  have e2 := rat_self q'
  rw [← r.1] at e1
  rw [← r'.1] at e2
  rw [e1, e2] at e
  have p1 := pw_prod (by omega) (by omega) r.lts.1 r'.lts.2
  have p2 := pw_prod (by omega) (by omega) r'.lts.1 r.lts.2
  rw [Nat.add_comm k' k] at p2
  exact ⟨_, _, h7.num, h8.num, Int.mul_pos y0 v0, e.symm, h7.short (add_lt p1 p2), h8.short (den_lt r.lts.2 r'.lts.2)⟩
theorem add_frac_left (r : RN w s A n c B m d q k) (r' : RN w s' A' n' c' B' m' d' q' k') (hs : s ≠ s') (_hle : (q'.num.natAbs : Int) * (q.den : Int) ≤ (q.num.natAbs : Int) * (q'.den : Int)) :
    ∀ (W : World) {A7 A8 : Option Addr} {n7 c7 n8 c8 : Nat}, Nrm W A7 n7 c7 ((q.num.natAbs : Int) * (q'.den : Int) - (q'.num.natAbs : Int) * (q.den : Int)) → Nrm W A8 n8 c8 ((q.den : Int) * (q'.den : Int)) → Frac W s A7 n7 c7 A8 n8 c8 (q + q') (k + k' + 1) := by
  intro W A7 A8 n7 c7 n8 c8 h7 h8
  have y0 : (0 : Int) < q.den := by have := q.den_pos; omega
  have v0 : (0 : Int) < q'.den := by have := q'.den_pos; omega
  have e := rat_add_left hs (x := (q.num.natAbs : Int)) (y := (q.den : Int)) (u := (q'.num.natAbs : Int)) (v := (q'.den : Int)) (by omega) (by omega)
  have e1 := rat_self q
  have e2 := rat_self q'
  rw [← r.1] at e1
  rw [← r'.1] at e2
  rw [e1, e2] at e
  have p1 := pw_prod (by omega) (by omega) r.lts.1 r'.lts.2
  have p2 : (0 : Int) ≤ (q'.num.natAbs : Int) * (q.den : Int) := Int.mul_nonneg (by omega) (by omega)
  have p3 := pw_mono (m := k + k') (n := k + k' + 1) (by omega)
  exact ⟨_, _, h7.num, h8.num, Int.mul_pos y0 v0, e.symm, h7.short (by omega), h8.short (den_lt r.lts.2 r'.lts.2)⟩
theorem add_frac_right (r : RN w s A n c B m d q k) (r' : RN w s' A' n' c' B' m' d' q' k') (hs : s ≠ s') (_hle : (q.num.natAbs : Int) * (q'.den : Int) ≤ (q'.num.natAbs : Int) * (q.den : Int)) :
    ∀ (W : World) {A7 A8 : Option Addr} {n7 c7 n8 c8 : Nat}, Nrm W A7 n7 c7 ((q'.num.natAbs : Int) * (q.den : Int) - (q.num.natAbs : Int) * (q'.den : Int)) → Nrm W A8 n8 c8 ((q.den : Int) * (q'.den : Int)) → Frac W s' A7 n7 c7 A8 n8 c8 (q + q') (k + k' + 1) := by
  intro W A7 A8 n7 c7 n8 c8 h7 h8
  have y0 : (0 : Int) < q.den := by have := q.den_pos; omega
  have v0 : (0 : Int) < q'.den := by have := q'.den_pos; omega
  have e := rat_add_right hs (x := (q.num.natAbs : Int)) (y := (q.den : Int)) (u := (q'.num.natAbs : Int)) (v := (q'.den : Int)) (by omega) (by omega)
  have e1 := rat_self q
  have e2 := rat_self q'
  rw [← r.1] at e1
  rw [← r'.1] at e2
  rw [e1, e2] at e
  have p1 := pw_prod (by omega) (by omega) r'.lts.1 r.lts.2
  rw [Nat.add_comm k' k] at p1
  have p2 : (0 : Int) ≤ (q.num.natAbs : Int) * (q'.den : Int) := Int.mul_nonneg (by omega) (by omega)
  have p3 := pw_mono (m := k + k') (n := k + k' + 1) (by omega)
  exact ⟨_, _, h7.num, h8.num, Int.mul_pos y0 v0, e.symm, h7.short (by omega), h8.short (den_lt r.lts.2 r'.lts.2)⟩
end
theorem refSub_ok {w : World} {A B : Option Addr} {n c m d : Nat} {x y : Int} (hx : Num w A n c x) (hy : Num w B m d y) (hn : n ≤ 400000) (hm : m ≤ 400000) (h : y ≤ x) : Calls Tryz.prog 103 #[.slice A n c, .slice B m d] w (GivesNOk w (x - y)) := by
  obtain ⟨L, h1, rfl⟩ := hx
  obtain ⟨M, h2, rfl⟩ := hy
  exact (refSub_any A B n c m d L M w h1 h2 (by omega) (by omega) h).mono fun e w' h => h.n
theorem refSub_no {w : World} {A B : Option Addr} {n c m d : Nat} {x y : Int} (hx : Num w A n c x) (hy : Num w B m d y) (hn : n ≤ 400000) (hm : m ≤ 400000) (h : x < y) : Calls Tryz.prog 103 #[.slice A n c, .slice B m d] w fun e w' => e = .returned (.tuple #[.slice none 0 0, .int .i64 1]) ∧ Below w.heap.size w w' := by
  obtain ⟨L, h1, rfl⟩ := hx
  obtain ⟨M, h2, rfl⟩ := hy
  exact refSub_less A B n c m d L M w h1 h2 (by omega) (by omega) h

set_option maxHeartbeats 4000000 in
theorem refAddR {w : World} {s s' : Bool} {A B A' B' : Option Addr} {n c m d n' c' m' d' k k' : Nat} {q q' : Rat} (h : Loose w s A n c B m d q k) (h' : Loose w s' A' n' c' B' m' d' q' k') (k0 : 1 ≤ k) (k1 : 1 ≤ k') (hk8 : k ≤ 100000) (hk9 : k' ≤ 100000) :
    Calls Tryz.prog 80 #[.agg #[.bool s, .slice A n c, .slice B m d], .agg #[.bool s', .slice A' n' c', .slice B' m' d']] w (GivesR w (q + q') (k + k' + 1)) := by
  obtain ⟨v1, hv1⟩ : ∃ v1, ((w.alloc (.cells #[.bool s, .slice A n c, .slice B m d] 53)).alloc (.cells #[.bool s', .slice A' n' c', .slice B' m' d'] 53)).alloc (.cells #[.bool false, .slice none 0 0, .slice none 0 0] 53) = v1 := ⟨_, rfl⟩
  obtain ⟨g, hg, hsz, hb1, hA, hB, hZ, hF⟩ := boxes2 w _ _ _ _ _ _ _ _ _ _ _ _ v1 hv1
  have hA' := boxes2F w _ _ _ _ _ _ _ _ _ _ _ _ v1 hv1
  rw [← hg] at hA'
  have HG := Lib.hid hg
  have HSZ := Lib.hid hsz
  have HA := Lib.hid hA
  have HB := Lib.hid hB
  have HZ := Lib.hid hZ
  have HF := Lib.hid hF
  have HF' := Lib.hid hA'
  have HV := Lib.hid hv1
  clear hA hB hZ hF hv1 hsz hg hA'
  have NA : Hid (∀ W, Below v1.heap.size v1 W → Calls Tryz.prog 81 #[.agg #[.bool s, .slice A n c, .slice B m d]] W (GivesR W q k)) := fun W hW => refNorm_of (h.below hb1) hW k0 (by omega)
  have NB : Hid (∀ W, Below v1.heap.size v1 W → Calls Tryz.prog 81 #[.agg #[.bool s', .slice A' n' c', .slice B' m' d']] W (GivesR W q' k')) := fun W hW => refNorm_of (h'.below hb1) hW k1 (by omega)
  clear h h'
  go_enter Tryz.func80, Tryz.ntmps80
  go_upto_region 1 with fail
  rw [HV.out, ← HG.out]
  go_cut [13] (fun _ wx => BothN w g q q' k k' wx)
  case first =>
    have hk0x : Below v1.heap.size v1 v1.drew := (Below.refl _ _).drew
    refine wp_region_held_drew (S := (fun _ => True)) (by kernel_rfl) ?_ (fun hHeld => ?_)
    · trivial
    obtain ⟨w0, hw0⟩ : ∃ w0, w0 = v1.drew := ⟨_, rfl⟩
    rw [← hw0] at hk0x ⊢
    have hk0 := hk0x
    clear hw0 hk0x
    refine wpAnyH_ready (rs := [0, 2]) (by kernel_rfl) (by simp) ?_
    refine AllReadyH.cons (o := ⟨some 12, _, _, _, _, _⟩) rfl (fun K hK => ?_) ?_
    ·obtain ⟨a0, a1, a2⟩ := HA.out _ hk0; go_simp; refine hK.out _ _ trivial (fun hHeld => ?_); clear hK K a0 a1 a2; try simp only [Act.put, List.setIfInBounds_toArray, List.set_cons_zero, List.set_cons_succ]
     have hk1 := hk0
     refine wpAnyH_ready (rs := [1, 2]) (by kernel_rfl) (by simp) ?_
     refine AllReadyH.cons (o := ⟨some 13, _, _, _, _, _⟩) rfl (fun K hK => ?_) ?_
     ·go_simp; go_at_call 81; refine (NA.out _ hk1).mono ?_; rintro e w2 ⟨s5, A5, n5, c5, B5, m5, d5, rfl, r5, oA5, oB5, e5⟩; have hz5 := hk1.size; have hk2 := nextB hk1 e5; go_wp2_with fail; refine hK.out _ _ trivial (fun hHeld => ?_); clear hK K; try simp only [Act.put, List.setIfInBounds_toArray, List.set_cons_zero, List.set_cons_succ]
      refine wpAnyH_ready (rs := [2]) (by kernel_rfl) (by simp) ?_
      refine AllReadyH.cons (o := ⟨some 14, _, _, _, _, _⟩) rfl (fun K hK => ?_) ?_
      ·obtain ⟨b0, b1, b2⟩ := HB.out _ hk2; go_simp; refine hK.out _ _ trivial (fun hHeld => ?_); clear hK K b0 b1 b2; try simp only [Act.put, List.setIfInBounds_toArray, List.set_cons_zero, List.set_cons_succ]
       have hk3 := hk2
       refine wpAnyH_ready (rs := [3]) (by kernel_rfl) (by simp) ?_
       refine AllReadyH.cons (o := ⟨some 15, _, _, _, _, _⟩) rfl (fun K hK => ?_) ?_
       ·go_simp; go_at_call 81; refine (NB.out _ hk3).mono ?_; rintro e w4 ⟨s6, A6, n6, c6, B6, m6, d6, rfl, r6, oA6, oB6, e6⟩; have hz6 := hk3.size; have hk4 := nextB hk3 e6; go_wp2_with fail; refine hK.out _ _ trivial (fun hHeld => ?_); clear hK K; try simp only [Act.put, List.setIfInBounds_toArray, List.set_cons_zero, List.set_cons_succ]
        obtain ⟨a0, a1, a2⟩ := HA.out _ hk4; obtain ⟨b0, b1, b2⟩ := HB.out _ hk4; obtain ⟨⟨fa0, fa1, fa2⟩, fb0, fb1, fb2⟩ := HF'.out _ hk4; refine wpAnyH_ready (rs := [4]) (by kernel_rfl) (by simp) ?_; refine AllReadyH.cons (o := ⟨none, _, _, _, _, _⟩) rfl (fun K hK => ?_) AllReadyH.nil; go_simp; refine hK.out _ _ trivial (fun hHeld => ?_); clear hK K; try simp only [Act.put, List.setIfInBounds_toArray, List.set_cons_zero, List.set_cons_succ]
        obtain ⟨wy, hwy⟩ : ∃ wy, ((w4.setCell ⟨g, 0, none⟩ (.bool s5)).setCell ⟨g, 1, none⟩ (.slice A5 n5 c5)).setCell ⟨g, 2, none⟩ (.slice B5 m5 d5) = wy := ⟨_, rfl⟩
        have kb : wy.cell? ⟨g + 1, 0, none⟩ = some (.bool s') ∧ wy.cell? ⟨g + 1, 1, none⟩ = some (.slice A' n' c') ∧ wy.cell? ⟨g + 1, 2, none⟩ = some (.slice B' m' d') := by rw [← hwy]; exact kept3 (by omega) ⟨b0, b1, b2⟩
        have kf : wy.frozen? ⟨g + 1, 0, none⟩ = false ∧ wy.frozen? ⟨g + 1, 1, none⟩ = false ∧ wy.frozen? ⟨g + 1, 2, none⟩ = false := by rw [← hwy]; exact free3 ⟨fb0, fb1, fb2⟩ _ _ _
        rw [hwy]; obtain ⟨kb0, kb1, kb2⟩ := kb; obtain ⟨kf0, kf1, kf2⟩ := kf; have HWY := Lib.hid hwy; clear hwy fa0 fa1 fa2 fb0 fb1 fb2; refine wpAnyH_ready (rs := [5]) (by kernel_rfl) (by simp) ?_; refine AllReadyH.cons (o := ⟨none, _, _, _, _, _⟩) rfl (fun K hK => ?_) AllReadyH.nil; go_simp; refine hK.out _ _ trivial (fun hHeld => ?_); clear hK K; try simp only [Act.put, List.setIfInBounds_toArray, List.set_cons_zero, List.set_cons_succ]
        refine wpAnyH_done (by kernel_rfl) ?_ _; go_wp2_with fail; go_meet; rw [← HWY.out]
        exact bothN_mk HG.out HSZ.out hb1 HZ.out HF.out hk4 ⟨a0, a1, a2⟩ ⟨b0, b1, b2⟩ (r5.below e6) r6 oA5 oB5 oA6 oB6 hz5 hz6
       exact AllReadyH.nil
      exact AllReadyH.nil
     refine AllReadyH.cons (o := ⟨some 14, _, _, _, _, _⟩) rfl (fun K hK => ?_) ?_
     ·obtain ⟨b0, b1, b2⟩ := HB.out _ hk1; go_simp; refine hK.out _ _ trivial (fun hHeld => ?_); clear hK K b0 b1 b2; try simp only [Act.put, List.setIfInBounds_toArray, List.set_cons_zero, List.set_cons_succ]
      have hk2 := hk1
      refine wpAnyH_ready (rs := [1]) (by kernel_rfl) (by simp) ?_
      refine AllReadyH.cons (o := ⟨some 13, _, _, _, _, _⟩) rfl (fun K hK => ?_) ?_
      ·go_simp; go_at_call 81; refine (NA.out _ hk2).mono ?_; rintro e w3 ⟨s5, A5, n5, c5, B5, m5, d5, rfl, r5, oA5, oB5, e5⟩; have hz5 := hk2.size; have hk3 := nextB hk2 e5; go_wp2_with fail; refine hK.out _ _ trivial (fun hHeld => ?_); clear hK K; try simp only [Act.put, List.setIfInBounds_toArray, List.set_cons_zero, List.set_cons_succ]
       refine wpAnyH_ready (rs := [3]) (by kernel_rfl) (by simp) ?_
       refine AllReadyH.cons (o := ⟨some 15, _, _, _, _, _⟩) rfl (fun K hK => ?_) ?_
       ·go_simp; go_at_call 81; refine (NB.out _ hk3).mono ?_; rintro e w4 ⟨s6, A6, n6, c6, B6, m6, d6, rfl, r6, oA6, oB6, e6⟩; have hz6 := hk3.size; have hk4 := nextB hk3 e6; go_wp2_with fail; refine hK.out _ _ trivial (fun hHeld => ?_); clear hK K; try simp only [Act.put, List.setIfInBounds_toArray, List.set_cons_zero, List.set_cons_succ]
        obtain ⟨a0, a1, a2⟩ := HA.out _ hk4; obtain ⟨b0, b1, b2⟩ := HB.out _ hk4; obtain ⟨⟨fa0, fa1, fa2⟩, fb0, fb1, fb2⟩ := HF'.out _ hk4; refine wpAnyH_ready (rs := [4]) (by kernel_rfl) (by simp) ?_; refine AllReadyH.cons (o := ⟨none, _, _, _, _, _⟩) rfl (fun K hK => ?_) AllReadyH.nil; go_simp; refine hK.out _ _ trivial (fun hHeld => ?_); clear hK K; try simp only [Act.put, List.setIfInBounds_toArray, List.set_cons_zero, List.set_cons_succ]
        obtain ⟨wy, hwy⟩ : ∃ wy, ((w4.setCell ⟨g, 0, none⟩ (.bool s5)).setCell ⟨g, 1, none⟩ (.slice A5 n5 c5)).setCell ⟨g, 2, none⟩ (.slice B5 m5 d5) = wy := ⟨_, rfl⟩
        have kb : wy.cell? ⟨g + 1, 0, none⟩ = some (.bool s') ∧ wy.cell? ⟨g + 1, 1, none⟩ = some (.slice A' n' c') ∧ wy.cell? ⟨g + 1, 2, none⟩ = some (.slice B' m' d') := by rw [← hwy]; exact kept3 (by omega) ⟨b0, b1, b2⟩
        have kf : wy.frozen? ⟨g + 1, 0, none⟩ = false ∧ wy.frozen? ⟨g + 1, 1, none⟩ = false ∧ wy.frozen? ⟨g + 1, 2, none⟩ = false := by rw [← hwy]; exact free3 ⟨fb0, fb1, fb2⟩ _ _ _
        rw [hwy]; obtain ⟨kb0, kb1, kb2⟩ := kb; obtain ⟨kf0, kf1, kf2⟩ := kf; have HWY := Lib.hid hwy; clear hwy fa0 fa1 fa2 fb0 fb1 fb2; refine wpAnyH_ready (rs := [5]) (by kernel_rfl) (by simp) ?_; refine AllReadyH.cons (o := ⟨none, _, _, _, _, _⟩) rfl (fun K hK => ?_) AllReadyH.nil; go_simp; refine hK.out _ _ trivial (fun hHeld => ?_); clear hK K; try simp only [Act.put, List.setIfInBounds_toArray, List.set_cons_zero, List.set_cons_succ]
        refine wpAnyH_done (by kernel_rfl) ?_ _; go_wp2_with fail; go_meet; rw [← HWY.out]
        exact bothN_mk HG.out HSZ.out hb1 HZ.out HF.out hk4 ⟨a0, a1, a2⟩ ⟨b0, b1, b2⟩ (r5.below e6) r6 oA5 oB5 oA6 oB6 hz5 hz6
       exact AllReadyH.nil
      exact AllReadyH.nil
     exact AllReadyH.nil
    refine AllReadyH.cons (o := ⟨some 14, _, _, _, _, _⟩) rfl (fun K hK => ?_) ?_
    ·obtain ⟨b0, b1, b2⟩ := HB.out _ hk0; go_simp; refine hK.out _ _ trivial (fun hHeld => ?_); clear hK K b0 b1 b2; try simp only [Act.put, List.setIfInBounds_toArray, List.set_cons_zero, List.set_cons_succ]
     have hk1 := hk0
     refine wpAnyH_ready (rs := [0]) (by kernel_rfl) (by simp) ?_
     refine AllReadyH.cons (o := ⟨some 12, _, _, _, _, _⟩) rfl (fun K hK => ?_) ?_
     ·obtain ⟨a0, a1, a2⟩ := HA.out _ hk1; go_simp; refine hK.out _ _ trivial (fun hHeld => ?_); clear hK K a0 a1 a2; try simp only [Act.put, List.setIfInBounds_toArray, List.set_cons_zero, List.set_cons_succ]
      have hk2 := hk1
      refine wpAnyH_ready (rs := [1]) (by kernel_rfl) (by simp) ?_
      refine AllReadyH.cons (o := ⟨some 13, _, _, _, _, _⟩) rfl (fun K hK => ?_) ?_
      ·go_simp; go_at_call 81; refine (NA.out _ hk2).mono ?_; rintro e w3 ⟨s5, A5, n5, c5, B5, m5, d5, rfl, r5, oA5, oB5, e5⟩; have hz5 := hk2.size; have hk3 := nextB hk2 e5; go_wp2_with fail; refine hK.out _ _ trivial (fun hHeld => ?_); clear hK K; try simp only [Act.put, List.setIfInBounds_toArray, List.set_cons_zero, List.set_cons_succ]
       refine wpAnyH_ready (rs := [3]) (by kernel_rfl) (by simp) ?_
       refine AllReadyH.cons (o := ⟨some 15, _, _, _, _, _⟩) rfl (fun K hK => ?_) ?_
       ·go_simp; go_at_call 81; refine (NB.out _ hk3).mono ?_; rintro e w4 ⟨s6, A6, n6, c6, B6, m6, d6, rfl, r6, oA6, oB6, e6⟩; have hz6 := hk3.size; have hk4 := nextB hk3 e6; go_wp2_with fail; refine hK.out _ _ trivial (fun hHeld => ?_); clear hK K; try simp only [Act.put, List.setIfInBounds_toArray, List.set_cons_zero, List.set_cons_succ]
        obtain ⟨a0, a1, a2⟩ := HA.out _ hk4; obtain ⟨b0, b1, b2⟩ := HB.out _ hk4; obtain ⟨⟨fa0, fa1, fa2⟩, fb0, fb1, fb2⟩ := HF'.out _ hk4; refine wpAnyH_ready (rs := [4]) (by kernel_rfl) (by simp) ?_; refine AllReadyH.cons (o := ⟨none, _, _, _, _, _⟩) rfl (fun K hK => ?_) AllReadyH.nil; go_simp; refine hK.out _ _ trivial (fun hHeld => ?_); clear hK K; try simp only [Act.put, List.setIfInBounds_toArray, List.set_cons_zero, List.set_cons_succ]
        obtain ⟨wy, hwy⟩ : ∃ wy, ((w4.setCell ⟨g, 0, none⟩ (.bool s5)).setCell ⟨g, 1, none⟩ (.slice A5 n5 c5)).setCell ⟨g, 2, none⟩ (.slice B5 m5 d5) = wy := ⟨_, rfl⟩
        have kb : wy.cell? ⟨g + 1, 0, none⟩ = some (.bool s') ∧ wy.cell? ⟨g + 1, 1, none⟩ = some (.slice A' n' c') ∧ wy.cell? ⟨g + 1, 2, none⟩ = some (.slice B' m' d') := by rw [← hwy]; exact kept3 (by omega) ⟨b0, b1, b2⟩
        have kf : wy.frozen? ⟨g + 1, 0, none⟩ = false ∧ wy.frozen? ⟨g + 1, 1, none⟩ = false ∧ wy.frozen? ⟨g + 1, 2, none⟩ = false := by rw [← hwy]; exact free3 ⟨fb0, fb1, fb2⟩ _ _ _
        rw [hwy]; obtain ⟨kb0, kb1, kb2⟩ := kb; obtain ⟨kf0, kf1, kf2⟩ := kf; have HWY := Lib.hid hwy; clear hwy fa0 fa1 fa2 fb0 fb1 fb2; refine wpAnyH_ready (rs := [5]) (by kernel_rfl) (by simp) ?_; refine AllReadyH.cons (o := ⟨none, _, _, _, _, _⟩) rfl (fun K hK => ?_) AllReadyH.nil; go_simp; refine hK.out _ _ trivial (fun hHeld => ?_); clear hK K; try simp only [Act.put, List.setIfInBounds_toArray, List.set_cons_zero, List.set_cons_succ]
        refine wpAnyH_done (by kernel_rfl) ?_ _; go_wp2_with fail; go_meet; rw [← HWY.out]
        exact bothN_mk HG.out HSZ.out hb1 HZ.out HF.out hk4 ⟨a0, a1, a2⟩ ⟨b0, b1, b2⟩ (r5.below e6) r6 oA5 oB5 oA6 oB6 hz5 hz6
       exact AllReadyH.nil
      exact AllReadyH.nil
     exact AllReadyH.nil
    exact AllReadyH.nil
  case rest =>
    obtain ⟨s5, A5, n5, c5, B5, m5, d5, s6, A6, n6, c6, B6, m6, d6, CA, CB, r5, r6, ZZ, FF, hbx, hgx⟩ := hcut
    have HCA := Lib.hid (three_cells (by omega) CA.1 CA.2.1 CA.2.2)
    have HCB := Lib.hid (three_cells (by omega) CB.1 CB.2.1 CB.2.2)
    have HZX := Lib.hid (three_cells hgx ZZ.1 ZZ.2.1 ZZ.2.2)
    have HFX : Hid (∀ W, Below wc.heap.size wc W → W.frozen? ⟨g + 2, 0, none⟩ = false ∧ W.frozen? ⟨g + 2, 1, none⟩ = false ∧ W.frozen? ⟨g + 2, 2, none⟩ = false) := fun W hb => ⟨(hb.frozen (p := ⟨g + 2, 0, none⟩) hgx).trans FF.1, (hb.frozen (p := ⟨g + 2, 1, none⟩) hgx).trans FF.2.1, (hb.frozen (p := ⟨g + 2, 2, none⟩) hgx).trans FF.2.2⟩
    clear CA CB ZZ FF HA HB HZ HF HF' NA NB hb1
    have l5 := r5.2.2.2.1
    have l5' := r5.2.2.2.2
    have l6 := r6.2.2.2.1
    have l6' := r6.2.2.2.2
    have R5 := Lib.hid r5
    have R6 := Lib.hid r6
    have NA1 := Lib.hid r5.2.1.num
    have NA2 := Lib.hid r5.2.2.1.num
    have NB1 := Lib.hid r6.2.1.num
    have NB2 := Lib.hid r6.2.2.1.num
    have LX : Hid ((q.num.natAbs : Int) * (q'.den : Int) < pw (k + k')) := pw_prod (by omega) (by omega) r5.lts.1 r6.lts.2
    have LY : Hid ((q'.num.natAbs : Int) * (q.den : Int) < pw (k' + k)) := pw_prod (by omega) (by omega) r6.lts.1 r5.lts.2
    clear r5 r6
    go_upto_region 2 with fail
    have hk : Below wc.heap.size wc wc.drew := (Below.refl _ _).drew
    refine wp_region_held_drew (S := (fun W => (W.cell? ⟨g, 0, none⟩ = some (.bool s5) ∧ W.cell? ⟨g, 1, none⟩ = some (.slice A5 n5 c5) ∧ W.cell? ⟨g, 2, none⟩ = some (.slice B5 m5 d5)) ∧ (W.cell? ⟨g + 1, 0, none⟩ = some (.bool s6) ∧ W.cell? ⟨g + 1, 1, none⟩ = some (.slice A6 n6 c6) ∧ W.cell? ⟨g + 1, 2, none⟩ = some (.slice B6 m6 d6)))) (by kernel_rfl) ?_ (fun hHeld => ?_)
    · exact ⟨HCA.out _ hk, HCB.out _ hk⟩
    refine wpAnyH_take (i := 0) (oi := ⟨some 16, _, _, _, _, _⟩) (v := ?_) rfl (by kernel_rfl) (by kernel_rfl) (by kernel_rfl) (fun _ _ _ h => h) (Or.inl ⟨by rfl, ?_⟩) (by assumption) ?_
    rotate_left
    · intro w hSw
      (try dsimp only at hSw)
      go_simp
      try with_reducible rfl
    try simp only [Act.put, List.setIfInBounds_toArray, List.set_cons_zero, List.set_cons_succ]
    refine wpAnyH_take (i := 1) (oi := ⟨some 17, _, _, _, _, _⟩) (v := ?_) rfl (by kernel_rfl) (by kernel_rfl) (by kernel_rfl) (fun _ _ _ h => h) (Or.inl ⟨by rfl, ?_⟩) (by assumption) ?_
    rotate_left
    · intro w hSw
      (try dsimp only at hSw)
      go_simp
      try with_reducible rfl
    try simp only [Act.put, List.setIfInBounds_toArray, List.set_cons_zero, List.set_cons_succ]
    refine wpAnyH_take (i := 2) (oi := ⟨some 18, _, _, _, _, _⟩) (v := ?_) rfl (by kernel_rfl) (by kernel_rfl) (by kernel_rfl) (fun _ _ _ h => h) (Or.inl ⟨by rfl, ?_⟩) (by assumption) ?_
    rotate_left
    · intro w hSw
      (try dsimp only at hSw)
      go_simp
      try with_reducible rfl
    try simp only [Act.put, List.setIfInBounds_toArray, List.set_cons_zero, List.set_cons_succ]
    refine wpAnyH_take (i := 3) (oi := ⟨some 19, _, _, _, _, _⟩) (v := ?_) rfl (by kernel_rfl) (by kernel_rfl) (by kernel_rfl) (fun _ _ _ h => h) (Or.inl ⟨by rfl, ?_⟩) (by assumption) ?_
    rotate_left
    · intro w hSw
      (try dsimp only at hSw)
      go_simp
      try with_reducible rfl
    try simp only [Act.put, List.setIfInBounds_toArray, List.set_cons_zero, List.set_cons_succ]
    refine wpAnyH_take (i := 5) (oi := ⟨some 21, _, _, _, _, _⟩) (v := ?_) rfl (by kernel_rfl) (by kernel_rfl) (by kernel_rfl) (fun _ _ _ h => h) (Or.inl ⟨by rfl, ?_⟩) (by assumption) ?_
    rotate_left
    · intro w hSw
      (try dsimp only at hSw)
      go_simp
      try with_reducible rfl
    try simp only [Act.put, List.setIfInBounds_toArray, List.set_cons_zero, List.set_cons_succ]
    refine wpAnyH_take (i := 6) (oi := ⟨some 22, _, _, _, _, _⟩) (v := ?_) rfl (by kernel_rfl) (by kernel_rfl) (by kernel_rfl) (fun _ _ _ h => h) (Or.inl ⟨by rfl, ?_⟩) (by assumption) ?_
    rotate_left
    · intro w hSw
      (try dsimp only at hSw)
      go_simp
      try with_reducible rfl
    try simp only [Act.put, List.setIfInBounds_toArray, List.set_cons_zero, List.set_cons_succ]
    refine wpAnyH_take (i := 7) (oi := ⟨some 23, _, _, _, _, _⟩) (v := ?_) rfl (by kernel_rfl) (by kernel_rfl) (by kernel_rfl) (fun _ _ _ h => h) (Or.inl ⟨by rfl, ?_⟩) (by assumption) ?_
    rotate_left
    · intro w hSw
      (try dsimp only at hSw)
      go_simp
      try with_reducible rfl
    try simp only [Act.put, List.setIfInBounds_toArray, List.set_cons_zero, List.set_cons_succ]
    refine wpAnyH_take (i := 8) (oi := ⟨some 24, _, _, _, _, _⟩) (v := ?_) rfl (by kernel_rfl) (by kernel_rfl) (by kernel_rfl) (fun _ _ _ h => h) (Or.inl ⟨by rfl, ?_⟩) (by assumption) ?_
    rotate_left
    · intro w hSw
      (try dsimp only at hSw)
      go_simp
      try with_reducible rfl
    try simp only [Act.put, List.setIfInBounds_toArray, List.set_cons_zero, List.set_cons_succ]
    refine wpAnyH_ready (rs := [4]) (by kernel_rfl) (by simp) ?_
    refine AllReadyH.cons (o := ⟨some 20, _, _, _, _, _⟩) rfl (fun K hK => ?_) AllReadyH.nil
    go_simp
    go_at_call 102
    refine (refMul_n (NA1.out.below hk) (NB2.out.below hk) (by omega) (by omega)).mono ?_
    rintro e w7 ⟨A7, n7, c7, rfl, h7, b7⟩
    have hz7 := hk.size
    replace hk := nextB hk b7
    go_wp2_with fail
    refine hK.out _ _ ⟨HCA.out _ hk, HCB.out _ hk⟩ (fun hHeld => ?_)
    clear hK K
    try simp only [Act.put, List.setIfInBounds_toArray, List.set_cons_zero, List.set_cons_succ]
    refine wpAnyH_ready (rs := [9]) (by kernel_rfl) (by simp) ?_
    refine AllReadyH.cons (o := ⟨some 25, _, _, _, _, _⟩) rfl (fun K hK => ?_) AllReadyH.nil
    go_simp
    go_at_call 102
    refine (refMul_n (NB1.out.below hk) (NA2.out.below hk) (by omega) (by omega)).mono ?_
    rintro e w8 ⟨A8, n8, c8, rfl, h8, b8⟩
    have hz8 := hk.size
    replace hk := nextB hk b8
    go_wp2_with fail
    refine hK.out _ _ ⟨HCA.out _ hk, HCB.out _ hk⟩ (fun hHeld => ?_)
    clear hK K
    try simp only [Act.put, List.setIfInBounds_toArray, List.set_cons_zero, List.set_cons_succ]
    refine wpAnyH_take (i := 10) (oi := ⟨some 5, _, _, _, _, _⟩) (v := ?_) rfl (by kernel_rfl) (by kernel_rfl) (by kernel_rfl) (fun _ _ _ h => h) (Or.inl ⟨by rfl, ?_⟩) (by assumption) ?_
    rotate_left
    · intro w hSw
      (try dsimp only at hSw)
      go_simp
      try with_reducible rfl
    try simp only [Act.put, List.setIfInBounds_toArray, List.set_cons_zero, List.set_cons_succ]
    refine wpAnyH_take (i := 11) (oi := ⟨some 6, _, _, _, _, _⟩) (v := ?_) rfl (by kernel_rfl) (by kernel_rfl) (by kernel_rfl) (fun _ _ _ h => h) (Or.inl ⟨by rfl, ?_⟩) (by assumption) ?_
    rotate_left
    · intro w hSw
      (try dsimp only at hSw)
      go_simp
      try with_reducible rfl
    try simp only [Act.put, List.setIfInBounds_toArray, List.set_cons_zero, List.set_cons_succ]
    refine wpAnyH_done (by kernel_rfl) ?_ _
    replace h7 := h7.below b8
    have l7 := h7.short LX.out
    have l8 := h8.short LY.out
    have H7 := Lib.hid h7
    have H8 := Lib.hid h8
    obtain ⟨p0, p1, p2⟩ := HCA.out _ hk
    obtain ⟨q0, q1, q2⟩ := HCB.out _ hk
    clear h7 h8
    go_wp2_with fail
    refine (refMul_n (NA2.out.below hk) (NB2.out.below hk) (by omega) (by omega)).mono ?_
    rintro e w10 ⟨A10, n10, c10, rfl, h10, b10⟩
    have H10 := Lib.hid h10
    have hk10 := nextB hk b10
    clear h10 p0 p1 p2 q0 q1 q2 b7 b8 hk
    have hk := hk10
    obtain ⟨p0, p1, p2⟩ := HCA.out _ hk
    obtain ⟨q0, q1, q2⟩ := HCB.out _ hk
    by_cases hss : s5 = s6
    · subst hss
      have HFR := Lib.hid (add_frac_same R5.out R6.out)
      go_upto_region 5 with fail
      clear p0 p1 p2 q0 q1 q2
      replace hk := hk.drew
      have hb0 := (Below.refl w10.heap.size w10).drew
      refine wp_region_held_drew (S := (fun W => (W.cell? ⟨g, 0, none⟩ = some (.bool s5) ∧ W.cell? ⟨g, 1, none⟩ = some (.slice A5 n5 c5) ∧ W.cell? ⟨g, 2, none⟩ = some (.slice B5 m5 d5)) ∧ (W.cell? ⟨g + 1, 0, none⟩ = some (.bool s5) ∧ W.cell? ⟨g + 1, 1, none⟩ = some (.slice A6 n6 c6) ∧ W.cell? ⟨g + 1, 2, none⟩ = some (.slice B6 m6 d6)))) (by kernel_rfl) ?_ (fun hHeld => ?_)
      · exact ⟨HCA.out _ hk, HCB.out _ hk⟩
      refine wpAnyH_take (i := 0) (oi := ⟨some 36, _, _, _, _, _⟩) (v := ?_) rfl (by kernel_rfl) (by kernel_rfl) (by kernel_rfl) (fun _ _ _ h => h) (Or.inl ⟨by rfl, ?_⟩) (by assumption) ?_
      rotate_left
      · intro w hSw
        (try dsimp only at hSw)
        go_simp
        try with_reducible rfl
      try simp only [Act.put, List.setIfInBounds_toArray, List.set_cons_zero, List.set_cons_succ]
      refine wpAnyH_take (i := 1) (oi := ⟨some 37, _, _, _, _, _⟩) (v := ?_) rfl (by kernel_rfl) (by kernel_rfl) (by kernel_rfl) (fun _ _ _ h => h) (Or.inl ⟨by rfl, ?_⟩) (by assumption) ?_
      rotate_left
      · intro w hSw
        (try dsimp only at hSw)
        go_simp
        try with_reducible rfl
      try simp only [Act.put, List.setIfInBounds_toArray, List.set_cons_zero, List.set_cons_succ]
      refine wpAnyH_take (i := 2) (oi := ⟨some 38, _, _, _, _, _⟩) (v := ?_) rfl (by kernel_rfl) (by kernel_rfl) (by kernel_rfl) (fun _ _ _ h => h) (Or.inl ⟨by rfl, ?_⟩) (by assumption) ?_
      rotate_left
      · intro w hSw
        (try dsimp only at hSw)
        go_simp
        try with_reducible rfl
      try simp only [Act.put, List.setIfInBounds_toArray, List.set_cons_zero, List.set_cons_succ]
      refine wpAnyH_take (i := 3) (oi := ⟨some 39, _, _, _, _, _⟩) (v := ?_) rfl (by kernel_rfl) (by kernel_rfl) (by kernel_rfl) (fun _ _ _ h => h) (Or.inl ⟨by rfl, ?_⟩) (by assumption) ?_
      rotate_left
      · intro w hSw
        (try dsimp only at hSw)
        go_simp
        try with_reducible rfl
      try simp only [Act.put, List.setIfInBounds_toArray, List.set_cons_zero, List.set_cons_succ]
      refine wpAnyH_take (i := 5) (oi := ⟨some 41, _, _, _, _, _⟩) (v := ?_) rfl (by kernel_rfl) (by kernel_rfl) (by kernel_rfl) (fun _ _ _ h => h) (Or.inl ⟨by rfl, ?_⟩) (by assumption) ?_
      rotate_left
      · intro w hSw
        (try dsimp only at hSw)
        go_simp
        try with_reducible rfl
      try simp only [Act.put, List.setIfInBounds_toArray, List.set_cons_zero, List.set_cons_succ]
      refine wpAnyH_ready (rs := [4]) (by kernel_rfl) (by simp) ?_
      refine AllReadyH.cons (o := ⟨some 40, _, _, _, _, _⟩) rfl (fun K hK => ?_) AllReadyH.nil
      go_simp
      go_at_call 51
      refine (refAdd_n ((H7.out.num.below b10).below hb0) ((H8.out.num.below b10).below hb0) (by omega) (by omega)).mono ?_
      rintro e w11 ⟨A11, n11, c11, rfl, h11, b11⟩
      have hz11 := hk.size
      replace hk := nextB hk b11
      replace hb0 := nextB hb0 b11
      go_wp2_with fail
      refine hK.out _ _ ⟨HCA.out _ hk, HCB.out _ hk⟩ (fun hHeld => ?_)
      clear hK K
      try simp only [Act.put, List.setIfInBounds_toArray, List.set_cons_zero, List.set_cons_succ]
      refine wpAnyH_ready (rs := [6]) (by kernel_rfl) (by simp) ?_
      refine AllReadyH.cons (o := ⟨some 42, _, _, _, _, _⟩) rfl (fun K hK => ?_) AllReadyH.nil
      go_simp
      go_at_call 86
      refine (lowest_r (k := k + k' + 1) (HFR.out _ h11 (H10.out.below hb0)) (by omega)).mono ?_
      rintro e w9 ⟨t9, A9, n9, c9, B9, m9, d9, rfl, r9, oA9, oB9, b9⟩
      have hz9 := hk.size
      replace hk := nextB hk b9
      obtain ⟨o0, o1, o2⟩ := HZX.out _ hk
      obtain ⟨f0, f1, f2⟩ := HFX.out _ hk
      go_wp2_with fail
      refine hK.out _ _ ⟨HCA.out _ hk, HCB.out _ hk⟩ (fun hHeld => ?_)
      clear hK K
      try simp only [Act.put, List.setIfInBounds_toArray, List.set_cons_zero, List.set_cons_succ]
      refine wpAnyH_ready (rs := [7]) (by kernel_rfl) (by simp) ?_
      refine AllReadyH.cons (o := ⟨none, _, _, _, _, _⟩) rfl (fun K hK => ?_) AllReadyH.nil
      go_simp
      refine hK.out _ _ ⟨kept3 (by omega) (HCA.out _ hk), kept3 (by omega) (HCB.out _ hk)⟩ (fun hHeld => ?_)
      clear hK K
      try simp only [Act.put, List.setIfInBounds_toArray, List.set_cons_zero, List.set_cons_succ]
      refine wpAnyH_done (by kernel_rfl) ?_ _
      go_wp2
      exact bodyPost_ret (v := .agg #[.bool t9, .slice A9 n9 c9, .slice B9 m9 d9]) (by simp [results, Tryz.results80, go_sem, o0, o1, o2]) rfl ⟨_, _, _, _, _, _, _, rfl,
        store_end r9 oA9 oB9 (by omega) (by rw [HG.out]; omega) (nextB hbx hk) _ _ _⟩
    · have hb : (s5 == s6) = false := by simpa using hss
      by_cases hle : (q'.num.natAbs : Int) * (q.den : Int) ≤ (q.num.natAbs : Int) * (q'.den : Int)
      · have HFR := Lib.hid (add_frac_left R5.out R6.out hss hle)
        have SB := Lib.hid (refSub_ok (H7.out.num.below b10) (H8.out.num.below b10) (by omega) (by omega) hle)
        clear hle hss
        go_wp2_with fail
        refine SB.out.mono ?_
        rintro e w11 ⟨A11, n11, c11, rfl, h11, b11⟩
        replace hk := nextB hk b11
        clear p0 p1 p2 q0 q1 q2 hb
        obtain ⟨p0, p1, p2⟩ := HCA.out _ hk
        have LW := Lib.hid (lowest_r (HFR.out _ h11 (H10.out.below b11)) (by omega))
        go_wp2_with fail
        refine LW.out.mono ?_
        rintro e w9 ⟨t9, A9, n9, c9, B9, m9, d9, rfl, r9, oA9, oB9, b9⟩
        have hz9 := hk.size
        replace hk := nextB hk b9
        obtain ⟨o0, o1, o2⟩ := HZX.out _ hk
        obtain ⟨f0, f1, f2⟩ := HFX.out _ hk
        clear p0 p1 p2
        go_wp2
        exact bodyPost_ret (v := .agg #[.bool t9, .slice A9 n9 c9, .slice B9 m9 d9]) (by simp [results, Tryz.results80, go_sem, o0, o1, o2]) rfl ⟨_, _, _, _, _, _, _, rfl,
          store_end r9 oA9 oB9 (by omega) (by rw [HG.out]; omega) (nextB hbx hk) _ _ _⟩
      · have HFR := Lib.hid (add_frac_right R5.out R6.out hss (by omega))
        have SB := Lib.hid (refSub_no (H7.out.num.below b10) (H8.out.num.below b10) (by omega) (by omega) (by omega))
        have SC : Hid (∀ W, Below w10.heap.size w10 W → Calls Tryz.prog 103 #[.slice A8 n8 c8, .slice A7 n7 c7] W (GivesNOk W ((q'.num.natAbs : Int) * (q.den : Int) - (q.num.natAbs : Int) * (q'.den : Int)))) := fun W hW => refSub_ok ((H8.out.num.below b10).below hW) ((H7.out.num.below b10).below hW) (by omega) (by omega) (by omega)
        clear hle hss
        go_wp2_with fail
        refine SB.out.mono ?_
        rintro e w11 ⟨rfl, b11⟩
        go_wp2_with fail
        refine (SC.out _ b11).mono ?_
        rintro e w12 ⟨A12, n12, c12, rfl, h12, b12⟩
        replace hk := nextB (nextB hk b11) b12
        clear p0 p1 p2 q0 q1 q2 hb
        obtain ⟨q0, q1, q2⟩ := HCB.out _ hk
        have LW := Lib.hid (lowest_r (HFR.out _ h12 (H10.out.below (nextB b11 b12))) (by omega))
        go_wp2_with fail
        refine LW.out.mono ?_
        rintro e w9 ⟨t9, A9, n9, c9, B9, m9, d9, rfl, r9, oA9, oB9, b9⟩
        have hz9 := hk.size
        replace hk := nextB hk b9
        obtain ⟨o0, o1, o2⟩ := HZX.out _ hk
        obtain ⟨f0, f1, f2⟩ := HFX.out _ hk
        clear q0 q1 q2
        go_wp2
        exact bodyPost_ret (v := .agg #[.bool t9, .slice A9 n9 c9, .slice B9 m9 d9]) (by simp [results, Tryz.results80, go_sem, o0, o1, o2]) rfl ⟨_, _, _, _, _, _, _, rfl,
          store_end r9 oA9 oB9 (by omega) (by rw [HG.out]; omega) (nextB hbx hk) _ _ _⟩
end Go.Proofs.YtnkfmbjpbfpfkaaGreatDoor

namespace Go.Proofs.YtnkfmbjpbfpfkaaGreatDoor
open Go.RowKit
set_option maxRecDepth 20000

theorem Nrm.neg_parts {q : Rat} : ((-q).num.natAbs : Int) = q.num.natAbs ∧ ((-q).den : Int) = q.den := by
  rw [Rat.neg_num, Rat.neg_den]
  exact ⟨by omega, rfl⟩
/-- The negation's parts, with the sign bit in its place. -/
theorem RN.negate {w : World} {s t : Bool} {A B : Option Addr} {n c m d k : Nat} {q : Rat} (h : RN w s A n c B m d q k) (ht : t = decide ((-q).num < 0)) : RN w t A n c B m d (-q) k := by
  obtain ⟨_, h1, h2, h3⟩ := h
  refine ⟨ht, ?_, ?_, h3⟩
  · rw [Nrm.neg_parts.1]; exact h1
  · rw [Nrm.neg_parts.2]; exact h2
theorem neg_sign {w : World} {s : Bool} {A B : Option Addr} {n c m d k : Nat} {q : Rat} (h : RN w s A n c B m d q k) :
    (n = 0 ∧ s = false ∧ false = decide ((-q).num < 0)) ∨ (n ≠ 0 ∧ s = true ∧ false = decide ((-q).num < 0)) ∨ (n ≠ 0 ∧ s = false ∧ true = decide ((-q).num < 0)) := by
  obtain ⟨hs, hn, _⟩ := h
  have hz := hn.len_iff
  rw [Rat.neg_num]
  by_cases h1 : q.num < 0
  · exact .inr (.inl ⟨fun h0 => by have := hz.1 h0; omega, by rw [hs, decide_eq_true h1], (decide_eq_false (by omega)).symm⟩)
  · by_cases h0 : q.num = 0
    · exact .inl ⟨hz.2 (by omega), by rw [hs, decide_eq_false h1], (decide_eq_false (by omega)).symm⟩
    · exact .inr (.inr ⟨fun h2 => by have := hz.1 h2; omega, by rw [hs, decide_eq_false h1], (decide_eq_true (by omega)).symm⟩)
theorem neg_end {w v1 wp w' : World} {s t : Bool} {A B : Option Addr} {n c m d k g : Nat} {q : Rat} (h : RN w' s A n c B m d q k) (ht : t = decide ((-q).num < 0)) (oA : Off wp.heap.size A) (oB : Off wp.heap.size B) (hp : v1.heap.size ≤ wp.heap.size) (hsz : v1.heap.size = g + 2) (hg : g = w.heap.size) (hk : Below w.heap.size w w') (u1 u2 u3 u4 z1 z2 z3 : Value) :
    RN (((((((w'.setCell ⟨g, 0, none⟩ u1).setCell ⟨g, 1, none⟩ u2).setCell ⟨g, 2, none⟩ u3).setCell ⟨g, 0, none⟩ u4).setCell ⟨g + 1, 0, none⟩ z1).setCell ⟨g + 1, 1, none⟩ z2).setCell ⟨g + 1, 2, none⟩ z3) t A n c B m d (-q) k ∧ Off w.heap.size A ∧ Off w.heap.size B ∧
      Below w.heap.size w (((((((w'.setCell ⟨g, 0, none⟩ u1).setCell ⟨g, 1, none⟩ u2).setCell ⟨g, 2, none⟩ u3).setCell ⟨g, 0, none⟩ u4).setCell ⟨g + 1, 0, none⟩ z1).setCell ⟨g + 1, 1, none⟩ z2).setCell ⟨g + 1, 2, none⟩ z3) := by
  have gA : ∀ a, A = some a → a.block ≠ g ∧ a.block ≠ g + 1 := fun a e => by have := oA a e; omega
  have gB : ∀ a, B = some a → a.block ≠ g ∧ a.block ≠ g + 1 := fun a e => by have := oB a e; omega
  refine ⟨?_, oA.mono (by omega), oB.mono (by omega), ?_⟩
  · have h1 := (h.negate ht).far3 (g := g) (fun _ a e => (gA a e).1) (fun _ a e => (gB a e).1) 0 1 2 u1 u2 u3
    have h2 : RN ((((w'.setCell ⟨g, 0, none⟩ u1).setCell ⟨g, 1, none⟩ u2).setCell ⟨g, 2, none⟩ u3).setCell ⟨g, 0, none⟩ u4) t A n c B m d (-q) k :=
      ⟨h1.1, h1.2.1.far (p := ⟨g, 0, none⟩) (fun _ a e => (gA a e).1) u4, h1.2.2.1.far (p := ⟨g, 0, none⟩) (fun _ a e => (gB a e).1) u4, h1.2.2.2⟩
    exact h2.far3 (g := g + 1) (fun _ a e => (gA a e).2) (fun _ a e => (gB a e).2) 0 1 2 z1 z2 z3
  · exact (((((((hk.setCell (by simp; omega) _).setCell (by simp; omega) _).setCell (by simp; omega) _).setCell (by simp; omega) _).setCell (by simp; omega) _).setCell (by simp; omega) _).setCell (by simp; omega) _)

theorem refCmp_tri (a b : Rat) : sgnR (a + -b) = cmpR a b := by
  have tri : (a < b ∧ cmpR a b = -1) ∨ (a = b ∧ cmpR a b = 0) ∨ (b < a ∧ cmpR a b = 1) := by
    by_cases h1 : a < b
    · exact .inl ⟨h1, cmpR_lt h1⟩
    · by_cases h2 : b < a
      · exact .inr (.inr ⟨h2, cmpR_gt h2⟩)
      · have h3 : a = b := Rat.le_antisymm (Rat.not_lt.1 h2) (Rat.not_lt.1 h1)
        exact .inr (.inl ⟨h3, cmpR_eq h3⟩)
  show cmpR (a + -b) 0 = _
  have e : b + -b = 0 := Rat.add_neg_cancel b
  rcases tri with ⟨h, h2⟩ | ⟨h, h2⟩ | ⟨h, h2⟩ <;> rw [h2]
  · exact cmpR_lt (by rw [← e]; exact Rat.add_lt_add_right.2 h)
  · subst h; rw [e]; exact cmpR_eq rfl
  · exact cmpR_gt (by rw [← e]; exact Rat.add_lt_add_right.2 h)

end Go.Proofs.YtnkfmbjpbfpfkaaGreatDoor
