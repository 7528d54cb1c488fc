/-
  times, Norm, Add, Sub, Mul of polynomials with few terms.
-/
import Derived.Test.YtgopolmmeadmpaaGreatDoorDegsB
namespace Go.Proofs.YtgopolmmeadmpaaGreatDoor
open Go Go.RowKit Go.WideMaps
set_option maxRecDepth 20000

theorem sumStart {w1 v : World} {base b g m k : Nat} {E : Int} (hmap : w1.ownsMap (H := Unit) Tryz.prog 38 (plainElem Tryz.prog 3) b 0 (.map [])) (hrow : w1.ownsRow base 43 11 (.slice (some ⟨g, 0, none⟩) 0 m) 0 []) (hb : base ≤ b) (hg : base ≤ g) (hbg : b ≠ g) (hbase : base ≤ w1.heap.size)
    (hv : w1.alloc (.cells #[.map (some b), .slice (some ⟨g, 0, none⟩) 0 m] 61) = v) : SumIs v base w1.heap.size [] k E := by
  have hbl := hmap.lt
  have hgl := (hrow.lt g rfl).2
  have h := (alloc_facts hv).2.2
  have ha : ∀ q, (⟨w1.heap.size, 0, none⟩ : Addr).add q = ⟨w1.heap.size, q, none⟩ := fun q => by unfold Addr.add; split <;> simp_all
  simp only [ha] at h
  refine ⟨b, g, m, .map [], ⟨h.1 0 _ rfl, h.1 1 _ rfl, fun j => ?_, ?_, Places.none, ?_, fun x hx => (by cases hx), List.nodup_nil, fun x hx => (by cases hx), by omega, by omega, fun e => hbg e.symm, by omega, hbase, hb, hg⟩⟩
  · rw [← hv]; exact frozen_of_row _ _ j _ _ (heap_alloc_new w1 _)
  · rw [← hv]; exact hmap.alloc _
  · rw [← hv]; exact hrow.alloc _
theorem changes_norm (k : Nat) (k0 : 1 ≤ k) (hk : k ≤ 800000) : Changes 27 (fun q => q) k := fun _ _ _ hl h => norm_r hl h k0 hk
theorem changes_neg (k : Nat) (k0 : 1 ≤ k) (hk : k ≤ 800000) : Changes 28 (fun q => -q) k := fun _ _ _ hl h => neg_r hl h k0 hk
theorem PolyRd.low {w : World} {A : Option Addr} {n c : Nat} {ds : List Tq} {k : Nat} {E : Int} (h : PolyRd w A n c ds k E) : PolyLow w w.heap.size A n c ds k E := ⟨h, fun g hn e => h.lower.1 g hn e, h.lower.2⟩
theorem enters_norm : ∀ args w, (callFunc 27 args).run Tryz.prog w = .ok (.enter 27 args) w := enters_of Tryz.func27 (by kernel_rfl) rfl
theorem enters_neg : ∀ args w, (callFunc 28 args).run Tryz.prog w = .ok (.enter 28 args) w := enters_of Tryz.func28 (by kernel_rfl) rfl

set_option maxHeartbeats 8000000 in
theorem times_x {w : World} {A B : Option Addr} {n c m d kd ke : Nat} {E F : Int} {ds es : List Tq} (hl : Laid w) (hd : PolyRd w A n c ds kd E) (he : PolyRd w B m d es ke F) (hE : E ≤ 1000000000) (hF : F ≤ 1000000000) (hEF : E + F ≤ 1000000000) (kd0 : 1 ≤ kd) (ke0 : 1 ≤ ke) (hbig : 1 + n * (m * (kd + ke + 1)) ≤ 300000) (hkde : kd + ke ≤ 300000) (h12 : n * m ≤ 12) (hnm : n + m ≤ 100000) :
    Calls Tryz.prog 24 #[.slice A n c, .slice B m d] w fun e w' => ∃ P r q rs, e = .returned (.slice P r q) ∧ PolyNf w' P r q rs (1 + n * (m * (kd + ke + 1))) (E + F) ∧ Eqv (trms rs) (prods (trms ds) (trms es)) ∧ rs.length ≤ n * m ∧ Below w.heap.size w w' := by
  have HNS := Lib.hid (newSum_x (n + m) w hnm)
  have HLD := Lib.hid hd.low
  have HLE := Lib.hid he.low
  have hnl := hl.size
  have hn0 := hd.big
  have hm0 := he.big
  have hw1 : wrap64 ((n : Int) + m) = ((n + m : Nat) : Int) := by unfold wrap64; omega
  have HL := Lib.hid hl
  have HBIG := Lib.hid hbig
  have H12 := Lib.hid h12
  clear hd he hl hbig h12
  go_enter Tryz.func24, Tryz.ntmps24
  go_wp2_with fail
  refine HNS.out.mono ?_
  rintro e w1 ⟨b, g, rfl, hmap, hrow, hb, hg, hbg, hb1⟩
  obtain ⟨v, hv⟩ : ∃ v, w1.alloc (.cells #[.map (some b), .slice (some ⟨g, 0, none⟩) 0 (n + m)] 61) = v := ⟨_, rfl⟩
  have hs : SumIs v w.heap.size w1.heap.size [] 1 (E + F) := sumStart (hmap Unit) hrow hb hg hbg hb1.size hv
  have hbv : Below w.heap.size w v := hb1.trans ((hv ▸ (Below.refl _ w1).alloc (Nat.le_refl _) _ : Below w1.heap.size w1 v).mono hb1.size)
  obtain ⟨p, hp⟩ : ∃ p, w1.heap.size = p := ⟨_, rfl⟩
  rw [hp] at hs
  have HP := Lib.hid (addProducts_x (HL.out.below hbv) hnl hs (HLD.out.keep hbv) (HLE.out.keep hbv) hE hF (Int.le_refl _) hEF (Nat.le_refl _) kd0 ke0 HBIG.out hkde (by have := H12.out; simp; omega))
  have HV := Lib.hid hv
  have HPP := Lib.hid hp
  clear hv hs hmap hrow hp
  go_wp2_with fail
  rw [HV.out, HPP.out]
  refine HP.out.mono ?_
  rintro e w2 ⟨rfl, hb2, cs, hs2, hq2, hl2⟩
  have hcs : cs.length ≤ 12 := by have := H12.out; simp at hl2; omega
  have hnz := nz_length cs
  have HPO := Lib.hid (poly_x hs2 (by omega) (by omega) (by omega))
  have HQ := Lib.hid hq2
  have HLL := Lib.hid hl2
  clear hs2 hq2 hl2 hcs hnz
  go_wp2_with fail
  refine HPO.out.mono ?_
  rintro e w3 ⟨P, r, q, rs, rfl, hnf, heq, hlen, hb3⟩
  have HN := Lib.hid hnf
  have HE := Lib.hid heq
  have HLN := Lib.hid hlen
  clear hnf heq hlen HPO
  go_wp2
  go_ret
  exact ⟨_, _, _, _, rfl, HN.out, fun f => (HE.out f).trans (by rw [HQ.out f]; rfl), by have h1 := HLN.out; have h2 := HLL.out; simp at h2; omega, (hbv.trans hb2).trans hb3⟩

/-- Two results: a polynomial and an error. -/
def Two (A : Option Addr) (n c : Nat) (z : Int) : Ending := .returned (.tuple #[.slice A n c, .int .i64 z])
set_option maxHeartbeats 8000000 in
theorem mul_x {w : World} {A B : Option Addr} {n c m d kd ke : Nat} {E F : Int} {ds es : List Tq} (hl : Laid w) (hd : PolyRd w A n c ds kd E) (he : PolyRd w B m d es ke F) (hE : E ≤ 1000000000) (hF : F ≤ 1000000000) (hEF : E + F ≤ 1000000000) (kd0 : 1 ≤ kd) (ke0 : 1 ≤ ke) (hbig : 1 + n * (m * (kd + ke + 1)) ≤ 300000) (hkde : kd + ke ≤ 300000) (h12 : n * m ≤ 12) (hnm : n + m ≤ 100000) (hi1 : inLim ds) (hi2 : inLim es) :
    Calls Tryz.prog 8 #[.slice A n c, .slice B m d] w fun e w' => ∃ P r q rs, PolyNf w' P r q rs (1 + n * (m * (kd + ke + 1))) (E + F) ∧ Eqv (trms rs) (prods (trms ds) (trms es)) ∧ rs.length ≤ n * m ∧ ((inLim rs ∧ e = Two P r q 0) ∨ (¬ inLim rs ∧ e = Two none 0 0 9)) ∧ Below w.heap.size w w' := by
  have HV1 := Lib.hid (valid_x hd)
  rw [decide_eq_true hi1] at HV1
  have HV2 : Hid (∀ w1, Below w.heap.size w w1 → Calls Tryz.prog 22 #[.slice B m d] w1 fun e w' => e = .returned (.bool true) ∧ Below w1.heap.size w1 w') := fun w1 h1 => by
    have h := valid_x (he.below h1)
    rw [decide_eq_true hi2] at h
    exact h
  have HT : Hid (∀ w1, Below w.heap.size w w1 → Calls Tryz.prog 24 #[.slice A n c, .slice B m d] w1 fun e w' => ∃ P r q rs, e = .returned (.slice P r q) ∧ PolyNf w' P r q rs (1 + n * (m * (kd + ke + 1))) (E + F) ∧ Eqv (trms rs) (prods (trms ds) (trms es)) ∧ rs.length ≤ n * m ∧ Below w1.heap.size w1 w') := fun w1 h1 =>
    times_x (hl.below h1) (hd.below h1) (he.below h1) hE hF hEF kd0 ke0 hbig hkde h12 hnm
  clear hd he hl hi1 hi2 hbig
  go_enter Tryz.func8, Tryz.ntmps8
  go_wp2_with fail
  refine HV1.out.mono ?_
  rintro e w1 ⟨rfl, hb1⟩
  go_wp2_with fail
  refine (HV2.out w1 hb1).mono ?_
  rintro e w2 ⟨rfl, hb2⟩
  have hb2' := nextB hb1 hb2
  go_wp2_with fail
  refine (HT.out w2 hb2').mono ?_
  rintro e w3 ⟨P, r, q, rs, rfl, hnf, heq, hlen, hb3⟩
  have hb3' := nextB hb2' hb3
  have HLI := Lib.hid (limited_x hnf.rd)
  have HN := Lib.hid hnf
  have HE := Lib.hid heq
  have HLN := Lib.hid hlen
  clear hnf heq hlen HT HV1 HV2
  go_wp2_with fail
  refine HLI.out.mono ?_
  rintro e w4 ⟨h4, hb4⟩
  have hb4' := nextB hb3' hb4
  rcases h4 with ⟨hin, rfl⟩ | ⟨hin, rfl⟩
  · have HIN := Lib.hid hin
    clear hin HLI
    go_wp2
    go_ret2
    exact ⟨_, _, _, _, HN.out.below hb4, HE.out, HLN.out, .inl ⟨HIN.out, rfl⟩, hb4'⟩
  · have HIN := Lib.hid hin
    clear hin HLI
    go_wp2
    go_ret2
    exact ⟨_, _, _, _, HN.out.below hb4, HE.out, HLN.out, .inr ⟨HIN.out, rfl⟩, hb4'⟩
end Go.Proofs.YtgopolmmeadmpaaGreatDoor
