/-
  The statements' check that the program is awake: it returns true.
-/
import Derived.Test.YtgopolmmeadmpaaGreatDoorFormatPQ
namespace Go.Proofs.YtgopolmmeadmpaaGreatDoor
open Go Go.RowKit Go.WideMaps
set_option maxRecDepth 100000

theorem PolyRd.lim {w : World} {A : Option Addr} {n c k : Nat} {E : Int} {ds : List Tq} (h : PolyRd w A n c ds k E) (hE : E ≤ 1024) : inLim ds := fun x hx e he => by
  have := (h.mono x hx).2 e he
  omega
theorem pq_eqv {x y : Tm} (hx : x.L = single 0 1) (hy : y.L = single 1 1) : Eqv (prods (trms [(x, 1)] ++ trms [(y, 1)]) (trms [(x, 1)] ++ scale (-1) (trms [(y, 1)]))) pq := fun f => by
  have e : prods (trms [(x, 1)] ++ trms [(y, 1)]) (trms [(x, 1)] ++ scale (-1) (trms [(y, 1)])) = [([2, 0, 0, 0, 0, 0, 0, 0], 1), ([1, 1, 0, 0, 0, 0, 0, 0], -1), ([1, 1, 0, 0, 0, 0, 0, 0], 1), ([0, 2, 0, 0, 0, 0, 0, 0], -1)] := by
    simp only [trms, List.map_cons, List.map_nil, hx, hy]
    simp [prods, scale, madd, single, Rat.mul_one, Rat.one_mul]
  rw [e]
  simp only [pq, lin_cons, lin_nil]
  rw [← Rat.add_assoc (-1 * f [1, 1, 0, 0, 0, 0, 0, 0]), ← Rat.add_mul]
  rw [show (-1 : Rat) + 1 = 0 from Rat.neg_add_cancel 1, Rat.zero_mul, Rat.zero_add]

set_option maxHeartbeats 8000000 in
theorem awake3 {w : World} (hl : Laid w) : Calls Tryz.prog 13 #[] w (True1 w) := by
  have HL := Lib.hid hl
  have HV0 := Lib.hid (var_x (v := 0) hl (by decide))
  clear hl
  go_enter Tryz.func13, Tryz.ntmps13
  go_wp2_with fail
  refine HV0.out.mono ?_
  rintro e w1 ⟨x, gx, rfl, hxL, nx, b1⟩
  have HV1 := Lib.hid (var_x (v := 1) (HL.out.below b1) (by decide))
  have HX := Lib.hid nx
  have HXL := Lib.hid hxL
  clear HV0 nx hxL
  unfold Two
  go_wp2_with fail
  refine HV1.out.mono ?_
  rintro e w2 ⟨y, gy, rfl, hyL, ny, b2⟩
  have c2 := nextB b1 b2
  have px := HX.out.rd.below b2
  have HA := Lib.hid (add_x (HL.out.below c2) px ny.rd (by decide) (by decide) (by decide) (by decide) (by decide) (px.lim (by decide)) (ny.rd.lim (by decide)))
  have HY := Lib.hid ny
  have HYL := Lib.hid hyL
  have HPX := Lib.hid px
  clear HV1 ny hyL px HX
  unfold Two
  go_wp2_with fail
  refine HA.out.mono ?_
  rintro e w3 ⟨Ps, rs, qs, s, rfl, ns, es, ls, b3⟩
  have c3 := nextB c2 b3
  have px := HPX.out.below b3
  have py := HY.out.rd.below b3
  have HS := Lib.hid (sub_x (HL.out.below c3) px py (by decide) (by decide) (by decide) (by decide) (by decide) (px.lim (by decide)) (py.lim (by decide)))
  have NS := Lib.hid ns
  have ES := Lib.hid es
  have LS := Lib.hid ls
  clear HA ns es ls px py HPX HY
  unfold Two
  go_wp2_with fail
  refine HS.out.mono ?_
  rintro e w4 ⟨Pd, rd, qd, d, rfl, nd, ed, ld, b4⟩
  have c4 := nextB c3 b4
  have ps := NS.out.rd.below b4
  have hrs : rs ≤ 2 := by rw [NS.out.rd.len]; exact LS.out
  have hrd : rd ≤ 2 := by rw [nd.rd.len]; exact ld
  have hnm : rs * rd ≤ 4 := Nat.mul_le_mul hrs hrd
  have hm15 : rd * (7 + 7 + 1) ≤ 30 := by omega
  have hbig : 1 + rs * (rd * (7 + 7 + 1)) ≤ 300000 := by
    have := Nat.mul_le_mul hrs hm15
    omega
  have HM := Lib.hid (mul_x (HL.out.below c4) ps nd.rd (by decide) (by decide) (by decide) (by decide) (by decide) hbig (by decide) (by omega) (by omega) (ps.lim (by decide)) (nd.rd.lim (by decide)))
  have ED := Lib.hid ed
  have HBIG := Lib.hid hbig
  have HNM := Lib.hid hnm
  clear HS nd ed ld ps NS LS hrs hrd hnm hm15 hbig
  unfold Two
  go_wp2_with fail
  refine HM.out.mono ?_
  rintro e w5 ⟨Pm, rm, qm, m, nm, em, lm, hres, b5⟩
  have c5 := nextB c4 b5
  rcases hres with ⟨hin, rfl⟩ | ⟨hin, rfl⟩
  · obtain ⟨K, hK⟩ : ∃ K, 1 + rs * (rd * (7 + 7 + 1)) = K := ⟨_, rfl⟩
    obtain ⟨v, hv⟩ : ∃ v, w5.alloc (.cells #[.string ⟨#[112]⟩, .string ⟨#[113]⟩] 9) = v := ⟨_, rfl⟩
    have hbv : Below w5.heap.size w5 v := hv ▸ (Below.refl _ w5).alloc (Nat.le_refl _) _
    have ha : ∀ q, (⟨w5.heap.size, 0, none⟩ : Addr).add q = ⟨w5.heap.size, q, none⟩ := fun q => by unfold Addr.add; split <;> simp_all
    have hcl := (alloc_facts hv).2.2
    simp only [ha] at hcl
    have hrm : rm ≤ 4 := by rw [nm.rd.len]; exact Nat.le_trans lm HNM.out
    have hKb : K ≤ 500 := by
      have h1 := HNM.out
      have h2 : rs * (rd * 15) = rs * rd * 15 := by rw [Nat.mul_assoc]
      have h3 : 1 + rs * (rd * 15) = K := hK
      rw [h2] at h3
      omega
    rw [hK] at nm
    have hk4 : rm * (K + 1) ≤ 4 * (K + 1) := Nat.mul_le_mul_right _ hrm
    have heq : Eqv (trms m) pq := em.trans ((Eqv.prods ES.out ED.out).trans (pq_eqv HXL.out HYL.out))
    have HF := Lib.hid (formatPQ (h := w5.heap.size) ((HL.out.below c5).below hbv) (nm.rd.below hbv) (by decide) (by omega) (by omega) (by omega) (by omega) hin heq (hcl.1 0 _ rfl) (hcl.1 1 _ rfl) (by rw [hcl.2]; exact Nat.lt_succ_self _))
    have HV := Lib.hid hv
    have c6 := nextB c5 hbv
    clear hv hcl nm em lm heq hK hKb hk4 HM ha hin hbv
    unfold Two
    go_wp2_with fail
    rw [HV.out]
    refine HF.out.mono ?_
    rintro e w6 ⟨rfl, b6⟩
    have c7 := nextB c6 b6
    clear HF
    go_wp2
    go_ret
    exact ⟨rfl, c7⟩
  · exact absurd (nm.rd.lim (by decide)) hin
end Go.Proofs.YtgopolmmeadmpaaGreatDoor
