/-
  times, Norm, Add, Sub, Mul of polynomials with few terms.
  Norm, Add, Sub, Const, Var, Degree of polynomials with few terms.
-/
import Derived.Test.YtebbnmjmjoklmaaGreatDoorTmAt
namespace Go.Proofs.YtebbnmjmjoklmaaGreatDoor
open Go Go.RowKit Go.WideMaps
set_option maxRecDepth 20000

theorem sumStart {w1 v : World} {base b g m k : Nat} {E : Int} (hmap : w1.ownsMap (H := Unit) Tryz.prog 45 (plainElem Tryz.prog 3) b 0 (.map [])) (hrow : w1.ownsRow base 47 11 (.slice (some ⟨g, 0, none⟩) 0 m) 0 []) (hb : base ≤ b) (hg : base ≤ g) (hbg : b ≠ g) (hbase : base ≤ w1.heap.size)
    (hv : w1.alloc (.cells #[.map (some b), .slice (some ⟨g, 0, none⟩) 0 m] 79) = v) : SumIs v base w1.heap.size [] k E := by
  have hbl := hmap.lt
  have hgl := (hrow.lt g rfl).2
  have h := (alloc_facts hv).2.2
  have ha : ∀ q, (⟨w1.heap.size, 0, none⟩ : Addr).add q = ⟨w1.heap.size, q, none⟩ := fun q => by unfold Addr.add; split <;> simp_all
  simp only [ha] at h
  refine ⟨b, g, m, .map [], ⟨h.1 0 _ rfl, h.1 1 _ rfl, fun j => ?_, ?_, Places.none, ?_, fun x hx => (by cases hx), List.nodup_nil, fun x hx => (by cases hx), by omega, by omega, fun e => hbg e.symm, by omega, hbase, hb, hg⟩⟩
  · rw [← hv]; exact frozen_of_row _ _ j _ _ (heap_alloc_new w1 _)
  · rw [← hv]; exact hmap.alloc _
  · rw [← hv]; exact hrow.alloc _
theorem changes_norm (k : Nat) (k0 : 1 ≤ k) (hk : k ≤ 800000) : Changes 46 (fun q => q) k := fun _ _ _ hl h => norm_r hl h k0 hk
theorem changes_neg (k : Nat) (k0 : 1 ≤ k) (hk : k ≤ 800000) : Changes 47 (fun q => -q) k := fun _ _ _ hl h => neg_r hl h k0 hk
theorem PolyRd.low {w : World} {A : Option Addr} {n c : Nat} {ds : List Tq} {k : Nat} {E : Int} (h : PolyRd w A n c ds k E) : PolyLow w w.heap.size A n c ds k E := ⟨h, fun g hn e => h.lower.1 g hn e, h.lower.2⟩
theorem enters_norm : ∀ args w, (callFunc 46 args).run Tryz.prog w = .ok (.enter 46 args) w := enters_of Tryz.func46 (by kernel_rfl) rfl
theorem enters_neg : ∀ args w, (callFunc 47 args).run Tryz.prog w = .ok (.enter 47 args) w := enters_of Tryz.func47 (by kernel_rfl) rfl

set_option maxHeartbeats 8000000 in
theorem times_x {w : World} {A B : Option Addr} {n c m d kd ke : Nat} {E F : Int} {ds es : List Tq} (hl : Laid w) (hd : PolyRd w A n c ds kd E) (he : PolyRd w B m d es ke F) (hE : E ≤ 1000000000) (hF : F ≤ 1000000000) (hEF : E + F ≤ 1000000000) (kd0 : 1 ≤ kd) (ke0 : 1 ≤ ke) (hbig : 1 + n * (m * (kd + ke + 1)) ≤ 300000) (hkde : kd + ke ≤ 300000) (h12 : n * m ≤ 49) (hnm : n + m ≤ 100000) :
    Calls Tryz.prog 21 #[.slice A n c, .slice B m d] w fun e w' => ∃ P r q rs, e = .returned (.slice P r q) ∧ PolyNf w' P r q rs (1 + n * (m * (kd + ke + 1))) (E + F) ∧ Eqv (trms rs) (prods (trms ds) (trms es)) ∧ rs.length ≤ n * m ∧ Below w.heap.size w w' := by
  have HNS := Lib.hid (newSum_x (n + m) w hnm)
  have HLD := Lib.hid hd.low
  have HLE := Lib.hid he.low
  have hnl := hl.size
  have hn0 := hd.big
  have hm0 := he.big
  have hw1 : wrap64 ((n : Int) + m) = ((n + m : Nat) : Int) := by unfold wrap64; omega
  have HL := Lib.hid hl
  have HBIG := Lib.hid hbig
  have H12 := Lib.hid h12
  clear hd he hl hbig h12
  go_enter Tryz.func21, Tryz.ntmps21
  go_wp2_with fail
  refine HNS.out.mono ?_
  rintro e w1 ⟨b, g, rfl, hmap, hrow, hb, hg, hbg, hb1⟩
  obtain ⟨v, hv⟩ : ∃ v, w1.alloc (.cells #[.map (some b), .slice (some ⟨g, 0, none⟩) 0 (n + m)] 79) = v := ⟨_, rfl⟩
  have hs : SumIs v w.heap.size w1.heap.size [] 1 (E + F) := sumStart (hmap Unit) hrow hb hg hbg hb1.size hv
  have hbv : Below w.heap.size w v := hb1.trans ((hv ▸ (Below.refl _ w1).alloc (Nat.le_refl _) _ : Below w1.heap.size w1 v).mono hb1.size)
  obtain ⟨p, hp⟩ : ∃ p, w1.heap.size = p := ⟨_, rfl⟩
  rw [hp] at hs
  have HP := Lib.hid (addProducts_x (HL.out.below hbv) hnl hs (HLD.out.keep hbv) (HLE.out.keep hbv) hE hF (Int.le_refl _) hEF (Nat.le_refl _) kd0 ke0 HBIG.out hkde (by have := H12.out; simp; omega))
  have HV := Lib.hid hv
  have HPP := Lib.hid hp
  clear hv hs hmap hrow hp
  go_wp2_with fail
  rw [HV.out, HPP.out]
  refine HP.out.mono ?_
  rintro e w2 ⟨rfl, hb2, cs, hs2, hq2, hl2⟩
  have hcs : cs.length ≤ 49 := by have := H12.out; simp at hl2; omega
  have hnz := nz_length cs
  have HPO := Lib.hid (poly_x hs2 (by omega) (by omega) (by omega))
  have HQ := Lib.hid hq2
  have HLL := Lib.hid hl2
  clear hs2 hq2 hl2 hcs hnz
  go_wp2_with fail
  refine HPO.out.mono ?_
  rintro e w3 ⟨P, r, q, rs, rfl, hnf, heq, hlen, hb3⟩
  have HN := Lib.hid hnf
  have HE := Lib.hid heq
  have HLN := Lib.hid hlen
  clear hnf heq hlen HPO
  go_wp2
  go_ret
  exact ⟨_, _, _, _, rfl, HN.out, fun f => (HE.out f).trans (by rw [HQ.out f]; rfl), by have h1 := HLN.out; have h2 := HLL.out; simp at h2; omega, (hbv.trans hb2).trans hb3⟩

/-- Two results: a polynomial and an error. -/
def Two (A : Option Addr) (n c : Nat) (z : Int) : Ending := .returned (.tuple #[.slice A n c, .int .i64 z])
end Go.Proofs.YtebbnmjmjoklmaaGreatDoor

namespace Go.Proofs.YtebbnmjmjoklmaaGreatDoor
open Go Go.RowKit Go.WideMaps
set_option maxRecDepth 20000

theorem map_id_trms (l : List Trm) : (l.map fun t => (t.1, t.2)) = l := by simp
set_option maxHeartbeats 8000000 in
theorem wNorm_x {w : World} {A : Option Addr} {n c k : Nat} {E : Int} {ds : List Tq} (hl : Laid w) (hd : PolyRd w A n c ds k E) (hE : E ≤ 1000000000) (k0 : 1 ≤ k) (hk8 : k ≤ 300000) (hbig : 1 + n * (k + 1) ≤ 300000) (h12 : n ≤ 49) :
    Calls Tryz.prog 26 #[.slice A n c] w fun e w' => ∃ P r q rs, e = .returned (.slice P r q) ∧ PolyNf w' P r q rs (1 + n * (k + 1)) E ∧ Eqv (trms rs) (trms ds) ∧ rs.length ≤ n ∧ Below w.heap.size w w' := by
  have HL := Lib.hid hl
  have hnl := hl.size
  have hlow0 := Lib.hid hd.low
  have hnm := hd.big
  have HNS := Lib.hid (newSum_x n w (by omega))
  clear hd hl
  go_enter Tryz.func26, Tryz.ntmps26
  go_wp2_with fail
  refine HNS.out.mono ?_
  rintro e w1 ⟨b, g, rfl, hmap, hrow, hb, hg, hbg, hb1⟩
  obtain ⟨v, hv⟩ : ∃ v, w1.alloc (.cells #[.map (some b), .slice (some ⟨g, 0, none⟩) 0 n] 79) = v := ⟨_, rfl⟩
  have hs : SumIs v w.heap.size w1.heap.size [] 1 E := sumStart (hmap Unit) hrow hb hg hbg hb1.size hv
  have hbv : Below w.heap.size w v := hb1.trans ((hv ▸ (Below.refl _ w1).alloc (Nat.le_refl _) _ : Below w1.heap.size w1 v).mono hb1.size)
  obtain ⟨p, hp⟩ : ∃ p, w1.heap.size = p := ⟨_, rfl⟩
  rw [hp] at hs
  have hlow := hlow0.out.keep hbv
  have HP := Lib.hid (addTerms_x (ch := fun q => q) (HL.out.below hbv) hnl enters_norm (changes_norm k k0 (by omega)) hs hlow.rd hlow.blk hlow.low hE k0 (Nat.le_refl _) hk8 hbig (by simp; omega))
  have HV := Lib.hid hv
  have HPP := Lib.hid hp
  clear hv hs hmap hrow hp hlow HNS
  go_wp2_with fail
  rw [HV.out, HPP.out]
  refine HP.out.mono ?_
  rintro e w2 ⟨rfl, hb2, cs, hs2, hq2, hl2⟩
  have hnz := nz_length cs
  have hl2' : cs.length ≤ n := by simpa using hl2
  have HPO := Lib.hid (poly_x hs2 (by omega) (by omega) (by omega))
  have HQ := Lib.hid hq2
  have HLL := Lib.hid hl2'
  clear hs2 hq2 hl2 hnz hl2'
  go_wp2_with fail
  refine HPO.out.mono ?_
  rintro e w3 ⟨P, r, q, rs, rfl, hnf, heq, hlen, hb3⟩
  have HN := Lib.hid hnf
  have HE := Lib.hid heq
  have HLN := Lib.hid hlen
  have hB : Below w.heap.size w w3 := (hbv.trans hb2).trans hb3
  clear hnf heq hlen HPO
  go_wp2
  go_ret
  exact ⟨_, _, _, _, rfl, HN.out, fun f => (HE.out f).trans (by rw [HQ.out f, map_id_trms]; rfl), Nat.le_trans HLN.out HLL.out, hB⟩
set_option maxHeartbeats 8000000 in
theorem norm_x {w : World} {A : Option Addr} {n c k : Nat} {E : Int} {ds : List Tq} (hl : Laid w) (hd : PolyRd w A n c ds k E) (hE : E ≤ 1000000000) (k0 : 1 ≤ k) (hk8 : k ≤ 300000) (hbig : 1 + n * (k + 1) ≤ 300000) (h12 : n ≤ 49) (hin : inLim ds) :
    Calls Tryz.prog 11 #[.slice A n c] w fun e w' => ∃ P r q rs, e = Two P r q 0 ∧ PolyNf w' P r q rs (1 + n * (k + 1)) E ∧ Eqv (trms rs) (trms ds) ∧ rs.length ≤ n ∧ Below w.heap.size w w' := by
  have HV1 := Lib.hid (valid_x hd)
  rw [decide_eq_true hin] at HV1
  have HW : Hid (∀ w1, Below w.heap.size w w1 → Calls Tryz.prog 26 #[.slice A n c] w1 fun e w' => ∃ P r q rs, e = .returned (.slice P r q) ∧ PolyNf w' P r q rs (1 + n * (k + 1)) E ∧ Eqv (trms rs) (trms ds) ∧ rs.length ≤ n ∧ Below w1.heap.size w1 w') := fun w1 h1 => wNorm_x (hl.below h1) (hd.below h1) hE k0 hk8 hbig h12
  clear hd hin hl
  go_enter Tryz.func11, Tryz.ntmps11
  go_wp2_with fail
  refine HV1.out.mono ?_
  rintro e w0 ⟨rfl, hb0⟩
  clear HV1
  go_wp2_with fail
  refine (HW.out w0 hb0).mono ?_
  rintro e w3 ⟨P, r, q, rs, rfl, hnf, heq, hlen, hb3⟩
  have HN := Lib.hid hnf
  have HE := Lib.hid heq
  have HLN := Lib.hid hlen
  have hB := nextB hb0 hb3
  clear hnf heq hlen HW
  go_wp2
  go_ret2
  exact ⟨_, _, _, _, rfl, HN.out, HE.out, HLN.out, hB⟩
set_option maxHeartbeats 4000000 in
theorem norm_bad {w : World} {A : Option Addr} {n c k : Nat} {E : Int} {ds : List Tq} (hd : PolyRd w A n c ds k E) (hin : ¬ inLim ds) :
    Calls Tryz.prog 11 #[.slice A n c] w fun e w' => e = Two none 0 0 2 ∧ Below w.heap.size w w' := by
  have HV1 := Lib.hid (valid_x hd)
  rw [decide_eq_false hin] at HV1
  clear hd hin
  go_enter Tryz.func11, Tryz.ntmps11
  go_wp2_with fail
  refine HV1.out.mono ?_
  rintro e w0 ⟨rfl, hb0⟩
  go_wp2
  go_ret2
  exact ⟨rfl, hb0⟩

set_option maxHeartbeats 8000000 in
theorem addChanged_x {w : World} {A B : Option Addr} {n c m d k fc : Nat} {E : Int} {ds es : List Tq} {ch : Rat → Rat} (hl : Laid w) (hd : PolyRd w A n c ds k E) (he : PolyRd w B m d es k E) (ef : ∀ args w, (callFunc fc args).run Tryz.prog w = .ok (.enter fc args) w) (hc : Changes fc ch k) (hE : E ≤ 1000000000) (k0 : 1 ≤ k) (hk8 : k ≤ 300000) (hbig : 1 + n * (k + 1) + m * (k + 1) ≤ 300000) (h12 : n + m ≤ 49) :
    Calls Tryz.prog 45 #[.slice A n c, .slice B m d, .func (.func fc) #[] #[]] w fun e w' => ∃ P r q rs, e = .returned (.slice P r q) ∧ PolyNf w' P r q rs (1 + n * (k + 1) + m * (k + 1)) E ∧ Eqv (trms rs) (trms ds ++ (trms es).map fun t => (t.1, ch t.2)) ∧ rs.length ≤ n + m ∧ Below w.heap.size w w' := by
  have HD := Lib.hid hd
  have HE := Lib.hid he
  have HL := Lib.hid hl
  have HC := Lib.hid hc
  have EF := Lib.hid ef
  have hnl := hl.size
  have hw1 : wrap64 ((n : Int) + m) = ((n + m : Nat) : Int) := by unfold wrap64; omega
  have HBIG := Lib.hid hbig
  have H12 := Lib.hid h12
  have HNS := Lib.hid (newSum_x (n + m) w (by omega))
  clear hd he hl hc hbig h12 ef
  go_enter Tryz.func45, Tryz.ntmps45
  go_wp2_with fail
  refine HNS.out.mono ?_
  rintro e w1 ⟨b, g, rfl, hmap, hrow, hb, hg, hbg, hb1⟩
  obtain ⟨v, hv⟩ : ∃ v, w1.alloc (.cells #[.map (some b), .slice (some ⟨g, 0, none⟩) 0 (n + m)] 79) = v := ⟨_, rfl⟩
  have hs : SumIs v w.heap.size w1.heap.size [] 1 E := sumStart (hmap Unit) hrow hb hg hbg hb1.size hv
  have hbv0 : Below w.heap.size w v := hb1.trans ((hv ▸ (Below.refl _ w1).alloc (Nat.le_refl _) _ : Below w1.heap.size w1 v).mono hb1.size)
  obtain ⟨p, hp⟩ : ∃ p, w1.heap.size = p := ⟨_, rfl⟩
  rw [hp] at hs
  have hlow := (HD.out.low).keep hbv0
  have hlv := HL.out.below hbv0
  have hn12 := H12.out
  have hbg2 := HBIG.out
  have HP := Lib.hid (addTerms_x (ch := fun q => q) hlv hnl enters_norm (changes_norm k k0 (by omega)) hs hlow.rd hlow.blk hlow.low hE k0 (Nat.le_refl _) hk8 (by omega) (by simp; omega))
  have HV := Lib.hid hv
  have HPP := Lib.hid hp
  clear hv hs hmap hrow hp hlow HNS
  go_wp2_with fail
  rw [HV.out, HPP.out]
  refine HP.out.mono ?_
  rintro e w2 ⟨rfl, hb2, cs, hs2, hq2, hl2⟩
  have hl2' : cs.length ≤ n := by simpa using hl2
  have hbv2 := hbv0.trans hb2
  have hlow2 := (HE.out.low).keep hbv2
  have HP2 := Lib.hid (addTerms_x (HL.out.below hbv2) hnl EF.out HC.out hs2 hlow2.rd hlow2.blk hlow2.low hE k0 (by omega) hk8 hbg2 (by omega))
  have HQ := Lib.hid hq2
  clear hs2 hq2 hl2 hlow2 HP
  go_wp2_with fail
  refine HP2.out.mono ?_
  rintro e w3 ⟨rfl, hb3, cs2, hs3, hq3, hl3⟩
  have hnz := nz_length cs2
  have hl3' : cs2.length ≤ n + m := by omega
  have HPO := Lib.hid (poly_x hs3 (by omega) (by omega) (by omega))
  have HQ2 := Lib.hid hq3
  have HLL := Lib.hid hl3'
  clear hs3 hq3 hl3 hnz hl3' hl2' HP2
  go_wp2_with fail
  refine HPO.out.mono ?_
  rintro e w4 ⟨P, r, q, rs, rfl, hnf, heq, hlen, hb4⟩
  have HN := Lib.hid hnf
  have HEQ := Lib.hid heq
  have HLN := Lib.hid hlen
  have hB : Below w.heap.size w w4 := (hbv2.trans hb3).trans hb4
  clear hnf heq hlen HPO
  go_wp2
  go_ret
  exact ⟨_, _, _, _, rfl, HN.out, fun f => (HEQ.out f).trans (by
    rw [HQ2.out f, lin_append, HQ.out f, map_id_trms, lin_append, lin_append]
    show (0 : Rat) + _ + _ = _ + _
    rw [Rat.zero_add]), Nat.le_trans HLN.out HLL.out, hB⟩
set_option maxHeartbeats 4000000 in
theorem wAdd_x {w : World} {A B : Option Addr} {n c m d k : Nat} {E : Int} {ds es : List Tq} (hl : Laid w) (hd : PolyRd w A n c ds k E) (he : PolyRd w B m d es k E) (hE : E ≤ 1000000000) (k0 : 1 ≤ k) (hk8 : k ≤ 300000) (hbig : 1 + n * (k + 1) + m * (k + 1) ≤ 300000) (h12 : n + m ≤ 49) :
    Calls Tryz.prog 24 #[.slice A n c, .slice B m d] w fun e w' => ∃ P r q rs, e = .returned (.slice P r q) ∧ PolyNf w' P r q rs (1 + n * (k + 1) + m * (k + 1)) E ∧ Eqv (trms rs) (trms ds ++ trms es) ∧ rs.length ≤ n + m ∧ Below w.heap.size w w' := by
  have H := Lib.hid (addChanged_x hl hd he enters_norm (changes_norm k k0 (by omega)) hE k0 hk8 hbig h12)
  rw [map_id_trms] at H
  clear hl hd he hbig
  go_enter Tryz.func24, Tryz.ntmps24
  go_wp2_with fail
  refine H.out.mono ?_
  rintro e w1 ⟨P, r, q, rs, rfl, h1, h2, h3, h4⟩
  have H1 := Lib.hid h1
  have H2 := Lib.hid h2
  have H3 := Lib.hid h3
  clear h1 h2 h3 H
  go_wp2
  go_ret
  exact ⟨_, _, _, _, rfl, H1.out, H2.out, H3.out, h4⟩
set_option maxHeartbeats 4000000 in
theorem wSub_x {w : World} {A B : Option Addr} {n c m d k : Nat} {E : Int} {ds es : List Tq} (hl : Laid w) (hd : PolyRd w A n c ds k E) (he : PolyRd w B m d es k E) (hE : E ≤ 1000000000) (k0 : 1 ≤ k) (hk8 : k ≤ 300000) (hbig : 1 + n * (k + 1) + m * (k + 1) ≤ 300000) (h12 : n + m ≤ 49) :
    Calls Tryz.prog 25 #[.slice A n c, .slice B m d] w fun e w' => ∃ P r q rs, e = .returned (.slice P r q) ∧ PolyNf w' P r q rs (1 + n * (k + 1) + m * (k + 1)) E ∧ Eqv (trms rs) (trms ds ++ scale (-1) (trms es)) ∧ rs.length ≤ n + m ∧ Below w.heap.size w w' := by
  have H := Lib.hid (addChanged_x hl hd he enters_neg (changes_neg k k0 (by omega)) hE k0 hk8 hbig h12)
  have hsc : ((trms es).map fun t => (t.1, -t.2)) = scale (-1) (trms es) := by
    unfold scale
    refine List.map_congr_left fun t _ => ?_
    rw [Rat.mul_comm, Rat.neg_mul, Rat.one_mul]
  rw [hsc] at H
  clear hl hd he hbig hsc
  go_enter Tryz.func25, Tryz.ntmps25
  go_wp2_with fail
  refine H.out.mono ?_
  rintro e w1 ⟨P, r, q, rs, rfl, h1, h2, h3, h4⟩
  have H1 := Lib.hid h1
  have H2 := Lib.hid h2
  have H3 := Lib.hid h3
  clear h1 h2 h3 H
  go_wp2
  go_ret
  exact ⟨_, _, _, _, rfl, H1.out, H2.out, H3.out, h4⟩
set_option maxHeartbeats 8000000 in
theorem add_x {w : World} {A B : Option Addr} {n c m d k : Nat} {E : Int} {ds es : List Tq} (hl : Laid w) (hd : PolyRd w A n c ds k E) (he : PolyRd w B m d es k E) (hE : E ≤ 1000000000) (k0 : 1 ≤ k) (hk8 : k ≤ 300000) (hbig : 1 + n * (k + 1) + m * (k + 1) ≤ 300000) (h12 : n + m ≤ 49) (hi1 : inLim ds) (hi2 : inLim es) :
    Calls Tryz.prog 9 #[.slice A n c, .slice B m d] w fun e w' => ∃ P r q rs, e = Two P r q 0 ∧ PolyNf w' P r q rs (1 + n * (k + 1) + m * (k + 1)) E ∧ Eqv (trms rs) (trms ds ++ trms es) ∧ rs.length ≤ n + m ∧ Below w.heap.size w w' := by
  have HV1 := Lib.hid (valid_x hd)
  rw [decide_eq_true hi1] at HV1
  have HV2 : Hid (∀ w1, Below w.heap.size w w1 → Calls Tryz.prog 23 #[.slice B m d] w1 fun e w' => e = .returned (.bool true) ∧ Below w1.heap.size w1 w') := fun w1 h1 => by
    have h := valid_x (he.below h1)
    rw [decide_eq_true hi2] at h
    exact h
  have H : Hid (∀ w1, Below w.heap.size w w1 → Calls Tryz.prog 24 #[.slice A n c, .slice B m d] w1 fun e w' => ∃ P r q rs, e = .returned (.slice P r q) ∧ PolyNf w' P r q rs (1 + n * (k + 1) + m * (k + 1)) E ∧ Eqv (trms rs) (trms ds ++ trms es) ∧ rs.length ≤ n + m ∧ Below w1.heap.size w1 w') := fun w1 h1 => wAdd_x (hl.below h1) (hd.below h1) (he.below h1) hE k0 hk8 hbig h12
  clear hl hd he hi1 hi2 hbig
  go_enter Tryz.func9, Tryz.ntmps9
  go_wp2_with fail
  refine HV1.out.mono ?_
  rintro e wa ⟨rfl, hba⟩
  go_wp2_with fail
  refine (HV2.out wa hba).mono ?_
  rintro e w0 ⟨rfl, hbb⟩
  have hb0 := nextB hba hbb
  clear HV1 HV2 hba hbb
  go_wp2_with fail
  refine (H.out w0 hb0).mono ?_
  rintro e w1 ⟨P, r, q, rs, rfl, h1, h2, h3, h4⟩
  have H1 := Lib.hid h1
  have H2 := Lib.hid h2
  have H3 := Lib.hid h3
  have hB := nextB hb0 h4
  clear h1 h2 h3 H
  go_wp2
  go_ret2
  exact ⟨_, _, _, _, rfl, H1.out, H2.out, H3.out, hB⟩
set_option maxHeartbeats 8000000 in
theorem sub_x {w : World} {A B : Option Addr} {n c m d k : Nat} {E : Int} {ds es : List Tq} (hl : Laid w) (hd : PolyRd w A n c ds k E) (he : PolyRd w B m d es k E) (hE : E ≤ 1000000000) (k0 : 1 ≤ k) (hk8 : k ≤ 300000) (hbig : 1 + n * (k + 1) + m * (k + 1) ≤ 300000) (h12 : n + m ≤ 49) (hi1 : inLim ds) (hi2 : inLim es) :
    Calls Tryz.prog 10 #[.slice A n c, .slice B m d] w fun e w' => ∃ P r q rs, e = Two P r q 0 ∧ PolyNf w' P r q rs (1 + n * (k + 1) + m * (k + 1)) E ∧ Eqv (trms rs) (trms ds ++ scale (-1) (trms es)) ∧ rs.length ≤ n + m ∧ Below w.heap.size w w' := by
  have HV1 := Lib.hid (valid_x hd)
  rw [decide_eq_true hi1] at HV1
  have HV2 : Hid (∀ w1, Below w.heap.size w w1 → Calls Tryz.prog 23 #[.slice B m d] w1 fun e w' => e = .returned (.bool true) ∧ Below w1.heap.size w1 w') := fun w1 h1 => by
    have h := valid_x (he.below h1)
    rw [decide_eq_true hi2] at h
    exact h
  have H : Hid (∀ w1, Below w.heap.size w w1 → Calls Tryz.prog 25 #[.slice A n c, .slice B m d] w1 fun e w' => ∃ P r q rs, e = .returned (.slice P r q) ∧ PolyNf w' P r q rs (1 + n * (k + 1) + m * (k + 1)) E ∧ Eqv (trms rs) (trms ds ++ scale (-1) (trms es)) ∧ rs.length ≤ n + m ∧ Below w1.heap.size w1 w') := fun w1 h1 => wSub_x (hl.below h1) (hd.below h1) (he.below h1) hE k0 hk8 hbig h12
  clear hl hd he hi1 hi2 hbig
  go_enter Tryz.func10, Tryz.ntmps10
  go_wp2_with fail
  refine HV1.out.mono ?_
  rintro e wa ⟨rfl, hba⟩
  go_wp2_with fail
  refine (HV2.out wa hba).mono ?_
  rintro e w0 ⟨rfl, hbb⟩
  have hb0 := nextB hba hbb
  clear HV1 HV2 hba hbb
  go_wp2_with fail
  refine (H.out w0 hb0).mono ?_
  rintro e w1 ⟨P, r, q, rs, rfl, h1, h2, h3, h4⟩
  have H1 := Lib.hid h1
  have H2 := Lib.hid h2
  have H3 := Lib.hid h3
  have hB := nextB hb0 h4
  clear h1 h2 h3 H
  go_wp2
  go_ret2
  exact ⟨_, _, _, _, rfl, H1.out, H2.out, H3.out, hB⟩
set_option maxHeartbeats 4000000 in
theorem isVar_x (v : Int) (w : World) (h0 : 0 ≤ v) (h8 : v < 8) : Calls Tryz.prog 49 #[.int .i64 v] w fun e w' => e = .returned (.bool true) ∧ w = w' := by
  go_enter Tryz.func49, Tryz.ntmps49
  go_wp2
  go_ret
  exact ⟨rfl, rfl⟩
/-- The monomial of one variable. -/
def single (v : Nat) (e : Int) : List Int := [0, 0, 0, 0, 0, 0, 0, 0].set v e

set_option maxHeartbeats 8000000 in
theorem wConst_x {w : World} {s : Bool} {A B : Option Addr} {n c m d k : Nat} {q : Rat} (hl : Laid w) (h : Loose w s A n c B m d q k) (k0 : 1 ≤ k) (hk8 : k ≤ 300000) (hq : q ≠ 0) :
    Calls Tryz.prog 67 #[.agg #[.bool s, .slice A n c, .slice B m d]] w fun e w' => ∃ t g, e = .returned (.slice (some ⟨g, 0, none⟩) 1 1) ∧ t.L = [0, 0, 0, 0, 0, 0, 0, 0] ∧ w'.ownsRow w.heap.size 47 11 (.slice (some ⟨g, 0, none⟩) 1 1) 1 (rowOf [t]) ∧ t.rn w' q k ∧ t.lies (· ≠ g) ∧ Below w.heap.size w w' := by
  have hb0 := (Below.refl w.heap.size w).alloc (Nat.le_refl _) (.cells #[.bool s, .slice A n c, .slice B m d] 42)
  have HS := Lib.hid (signOf_r (h.below hb0) k0)
  have HN : Hid (∀ w1, Below w.heap.size w w1 → Calls Tryz.prog 46 #[.agg #[.bool s, .slice A n c, .slice B m d]] w1 (GivesR w1 q k)) := fun w1 h1 => norm_r (hl.below h1) (h.below h1) k0 (by omega)
  have hsg : ((sgnR q == 0) = false) := by
    rcases sgnR_cases q with ⟨h1, h2⟩ | ⟨h1, h2⟩ | ⟨h1, h2⟩
    · rw [h2]; rfl
    · exact absurd h1 hq
    · rw [h2]; rfl
  obtain ⟨z, hz⟩ : ∃ z, sgnR q = z := ⟨_, rfl⟩
  rw [hz] at hsg HS
  clear h hl hz
  go_enter Tryz.func67, Tryz.ntmps67
  go_wp2_with fail
  refine HS.out.mono ?_
  rintro e w1 ⟨rfl, hb1⟩
  have hb1' := nextB hb0 hb1
  have k0' := hb1.cell (p := ⟨w.heap.size, 0, none⟩) (by simp)
  have k1' := hb1.cell (p := ⟨w.heap.size, 1, none⟩) (by simp)
  have k2' := hb1.cell (p := ⟨w.heap.size, 2, none⟩) (by simp)
  rw [World.cell?_alloc_new] at k0' k1' k2'
  have j0 : w1.cell? ⟨w.heap.size, 0, none⟩ = some (.bool s) := k0'
  have j1 : w1.cell? ⟨w.heap.size, 1, none⟩ = some (.slice A n c) := k1'
  have j2 : w1.cell? ⟨w.heap.size, 2, none⟩ = some (.slice B m d) := k2'
  clear k0' k1' k2' HS
  go_wp2_with fail
  refine (HN.out w1 hb1').mono ?_
  rintro e w2 ⟨s2, A2, n2, c2, B2, m2, d2, rfl, r2, o1, o2, e2⟩
  have hb2' := nextB hb1' e2
  clear j0 j1 j2 HN
  have R2 := Lib.hid r2
  have O1 := Lib.hid o1
  have O2 := Lib.hid o2
  clear r2 o1 o2
  go_wp2
  go_ret
  have hal : Below w2.heap.size w2 (w2.alloc (.cells #[.int .i64 0, .int .i64 0, .int .i64 0, .int .i64 0, .int .i64 0, .int .i64 0, .int .i64 0, .int .i64 0, .bool s2, .slice A2 n2 c2, .slice B2 m2 d2] 47)) := (Below.refl _ w2).alloc (Nat.le_refl _) _
  have hrn : Tm.rn ⟨[0, 0, 0, 0, 0, 0, 0, 0], s2, A2, n2, c2, B2, m2, d2⟩ w2 q k := R2.out
  exact ⟨⟨[0, 0, 0, 0, 0, 0, 0, 0], s2, A2, n2, c2, B2, m2, d2⟩, w2.heap.size, rfl, rfl, World.ownsRow_lit w2 _ 1 hb2'.size (by decide) rfl, hrn.below hal, hrn.old.mono fun i hi => by omega, nextB hb2' hal⟩
theorem ownsRow_base {w : World} {base base' : Nat} {e : TypeId} {size : Nat} {v : Value} {n : Nat} {xs : List Value} (h : w.ownsRow base e size v n xs) (hb : base' ≤ base) : w.ownsRow base' e size v n xs :=
  ⟨h.1, h.2.imp id fun ⟨g, cap, cur, a, b, d⟩ => ⟨g, cap, cur, a, Nat.le_trans hb b, d⟩⟩
set_option maxHeartbeats 4000000 in
theorem const_x {w : World} {s : Bool} {A B : Option Addr} {n c m d k : Nat} {q : Rat} (hl : Laid w) (h : Loose w s A n c B m d q k) (k0 : 1 ≤ k) (hk8 : k ≤ 300000) (hq : q ≠ 0) :
    Calls Tryz.prog 50 #[.agg #[.bool s, .slice A n c, .slice B m d]] w fun e w' => ∃ t g, e = .returned (.slice (some ⟨g, 0, none⟩) 1 1) ∧ t.L = [0, 0, 0, 0, 0, 0, 0, 0] ∧ w'.ownsRow w.heap.size 47 11 (.slice (some ⟨g, 0, none⟩) 1 1) 1 (rowOf [t]) ∧ t.rn w' q k ∧ t.lies (· ≠ g) ∧ Below w.heap.size w w' := by
  have hb0 := (Below.refl w.heap.size w).alloc (Nat.le_refl _) (.cells #[.bool s, .slice A n c, .slice B m d] 42)
  have H := Lib.hid (wConst_x (hl.below hb0) (h.below hb0) k0 hk8 hq)
  clear hl h
  go_enter Tryz.func50, Tryz.ntmps50
  go_wp2_with fail
  refine H.out.mono ?_
  rintro e w1 ⟨t, g, rfl, h1, h2, h3, h4, h5⟩
  have H2 := Lib.hid (ownsRow_base h2 hb0.size)
  have hB := nextB hb0 h5
  clear h2 H h5
  go_wp2
  go_ret
  exact ⟨t, g, rfl, h1, H2.out, h3, h4, hB⟩
theorem single_8 (v : Nat) (e : Int) : (single v e).length = 8 := by simp [single]
theorem single_put {t : Tm} (hL : t.L = [0, 0, 0, 0, 0, 0, 0, 0]) {v : Nat} (hv : v < 8) (e : Int) : (rowOf [t]).set v (.int .i64 e) = rowOf [{ t with L := single v e }] := by
  have h1 : rowOf [t] = t.cells := by simp [rowOf]
  have h2 : rowOf [{ t with L := single v e }] = ({ t with L := single v e } : Tm).cells := by simp [rowOf]
  rw [h1, h2]
  unfold Tm.cells
  rw [hL]
  match v, hv with
  | 0, _ | 1, _ | 2, _ | 3, _ | 4, _ | 5, _ | 6, _ | 7, _ => rfl
theorem single_monoE {v : Nat} {e E : Int} (h0 : 0 ≤ e) (h1 : e ≤ E) : MonoE E (single v e) := by
  refine ⟨single_8 v e, fun x hx => ?_⟩
  unfold single at hx
  rcases List.mem_or_eq_of_mem_set hx with hx | rfl
  · simp at hx; omega
  · omega
theorem one_norml {t : Tm} {q : Rat} (hq : q ≠ 0) : Norml (trms [(t, q)]) := ⟨List.pairwise_singleton _ _, fun u hu => by
  rw [List.mem_singleton.1 hu]; exact hq⟩
/-- A polynomial of one term in memory. -/
theorem one_nf {w : World} {base g k : Nat} {E : Int} {t : Tm} {q : Rat} (hr : w.ownsRow base 47 11 (.slice (some ⟨g, 0, none⟩) 1 1) 1 (rowOf [t])) (hM : MonoE E t.L) (hn : t.rn w q k) (hq : q ≠ 0) : PolyNf w (some ⟨g, 0, none⟩) 1 1 [(t, q)] k E :=
  ⟨⟨rfl, Nat.le_refl _, by omega, fun _ => ⟨g, rfl, ownsRow_zero hr⟩, fun x hx => by rw [List.mem_singleton.1 hx]; exact hM, fun x hx => by rw [List.mem_singleton.1 hx]; exact hn.loose⟩, one_norml hq, fun x hx => by rw [List.mem_singleton.1 hx]; exact hn⟩

set_option maxHeartbeats 8000000 in
theorem var_x {w : World} {v : Nat} (hl : Laid w) (hv : v < 8) :
    Calls Tryz.prog 27 #[.int .i64 (v : Int)] w fun e w' => ∃ t g, e = Two (some ⟨g, 0, none⟩) 1 1 0 ∧ t.L = single v 1 ∧ PolyNf w' (some ⟨g, 0, none⟩) 1 1 [(t, 1)] 2 1 ∧ Below w.heap.size w w' := by
  have HV := Lib.hid (isVar_x (v : Int) w (by omega) (by omega))
  have HI := Lib.hid (int_r (n := 1) hl (by decide) (by decide))
  have HL := Lib.hid hl
  have hv1 : (v : Int) < 8 := by omega
  have hv0 : (0 : Int) ≤ v := by omega
  clear hl
  go_enter Tryz.func27, Tryz.ntmps27
  go_wp2_with fail
  refine HV.out.mono ?_
  rintro e w1 ⟨rfl, rfl⟩
  go_wp2_with fail
  refine HI.out.mono ?_
  rintro e w2 ⟨s2, A2, n2, c2, B2, m2, d2, rfl, r2, o1, o2, e2⟩
  have HC := Lib.hid (const_x (HL.out.below e2) r2.loose (by omega) (by omega) (by decide))
  clear r2 o1 o2 HI HV
  go_wp2_with fail
  refine HC.out.mono ?_
  rintro e w3 ⟨t, g, rfl, hL, hrow, hrn, hlg, hb3⟩
  have hb := nextB e2 hb3
  have hz := hrow.frozenAt v
  obtain ⟨u, hu⟩ : ∃ u, w3.cell? ⟨g, v, none⟩ = some u := by
    rw [hrow.cellAt v (by omega)]
    exact ⟨_, List.getElem?_eq_getElem (by rw [hrow.1]; omega)⟩
  obtain ⟨st1, st2⟩ := hrow.stored v (.int .i64 1)
  rw [single_put hL hv] at st1
  have hgl := (hrow.lt g rfl)
  have hl2 : t.lies fun i => (w3.setCell ⟨g, v, none⟩ (.int .i64 1)).heap[i]? = w3.heap[i]? := (hrn.old.and hlg).mono fun i hi => st2.block i hi.1 (fun e => hi.2 (by injection e))
  have hrn2 : t.rn (w3.setCell ⟨g, v, none⟩ (.int .i64 1)) 1 2 := Tm.rn.apart hrn st2.size hl2
  have hnf : PolyNf _ (some ⟨g, 0, none⟩) 1 1 [({ t with L := single v 1 }, 1)] 2 1 := one_nf st1 (single_monoE (by decide) (by decide)) hrn2 (by decide)
  have HN := Lib.hid hnf
  have hB : Hid (Below w.heap.size w (w3.setCell ⟨g, v, none⟩ (.int .i64 1))) := hb.setCell (p := ⟨g, v, none⟩) (Nat.le_trans e2.size hgl.1) _
  clear st1 st2 hnf hL hrow hrn hlg HC
  go_wp2
  go_ret2
  exact ⟨_, g, rfl, rfl, HN.out, hB.out⟩
end Go.Proofs.YtebbnmjmjoklmaaGreatDoor
