/-
  wide.Coefs, polynomial.Coefs, and exactppllaw03.PolynomialCoefs.
-/
import Derived.Test.YtnkfmbjpbfpfkaaGreatDoorSplit
import Derived.Test.YtnkfmbjpbfpfkaaGreatDoorAwake3
import Derived.Test.YtnkfmbjpbfpfkaaGreatDoorSrcP
namespace Go.Proofs.YtnkfmbjpbfpfkaaGreatDoor
open Go Go.RowKit Go.WideMaps
set_option maxRecDepth 100000

theorem mmax_getD {a b : List Int} (ha : a.length = 8) (hb : b.length = 8) {v : Nat} (hv : v < 8) : (mmax a b).getD v 0 = max (a.getD v 0) (b.getD v 0) := by
  obtain ⟨x0, x1, x2, x3, x4, x5, x6, x7, rfl⟩ := eight ha
  obtain ⟨y0, y1, y2, y3, y4, y5, y6, y7, rfl⟩ := eight hb
  match v, hv with
  | 0, _ | 1, _ | 2, _ | 3, _ | 4, _ | 5, _ | 6, _ | 7, _ => rfl
theorem degs_spec {v : Nat} (hv : v < 8) {ds : List Tq} (h8 : ∀ x ∈ ds, x.1.L.length = 8) : (∀ x ∈ ds, x.1.L.getD v 0 ≤ (degs ds).getD v 0) ∧ ((degs ds).getD v 0 = 0 ∨ ∃ x ∈ ds, x.1.L.getD v 0 = (degs ds).getD v 0) ∧ 0 ≤ (degs ds).getD v 0 := by
  have key : ∀ (l : List Tq) (m : List Int), (∀ x ∈ l, x.1.L.length = 8) → m.length = 8 → m.getD v 0 ≤ (l.foldl (fun m x => mmax m x.1.L) m).getD v 0 ∧ (∀ x ∈ l, x.1.L.getD v 0 ≤ (l.foldl (fun m x => mmax m x.1.L) m).getD v 0) ∧ ((l.foldl (fun m x => mmax m x.1.L) m).getD v 0 = m.getD v 0 ∨ ∃ x ∈ l, x.1.L.getD v 0 = (l.foldl (fun m x => mmax m x.1.L) m).getD v 0) := by
    intro l
    induction l with
    | nil => intro m _ _; exact ⟨Int.le_refl _, fun x hx => (by cases hx), .inl rfl⟩
    | cons x l ih =>
      intro m hl hm
      have hx := hl x (List.mem_cons_self ..)
      obtain ⟨i1, i2, i3⟩ := ih (mmax m x.1.L) (fun y hy => hl y (List.mem_cons_of_mem _ hy)) (mmax_8 hm hx)
      rw [mmax_getD hm hx hv] at i1 i3
      rw [List.foldl_cons]
      refine ⟨by omega, fun y hy => ?_, ?_⟩
      · rcases List.mem_cons.1 hy with rfl | hy
        · omega
        · exact i2 y hy
      · rcases i3 with i3 | ⟨y, hy, i3⟩
        · by_cases h : x.1.L.getD v 0 ≤ m.getD v 0
          · left; omega
          · right; exact ⟨x, List.mem_cons_self .., by omega⟩
        · right; exact ⟨y, List.mem_cons_of_mem _ hy, i3⟩
  have hz : ([0, 0, 0, 0, 0, 0, 0, 0] : List Int).getD v 0 = 0 := by
    match v, hv with
    | 0, _ | 1, _ | 2, _ | 3, _ | 4, _ | 5, _ | 6, _ | 7, _ => rfl
  obtain ⟨k1, k2, k3⟩ := key ds [0, 0, 0, 0, 0, 0, 0, 0] h8 rfl
  rw [hz] at k1 k3
  exact ⟨k2, k3, k1⟩
theorem degs_trms : ∀ {a b : List Tq}, trms a = trms b → degs a = degs b := by
  have key : ∀ (a b : List Tq) (m : List Int), trms a = trms b → a.foldl (fun m x => mmax m x.1.L) m = b.foldl (fun m x => mmax m x.1.L) m := by
    intro a
    induction a with
    | nil => intro b m h; cases b with
      | nil => rfl
      | cons y b => cases h
    | cons x a ih => intro b m h; cases b with
      | nil => cases h
      | cons y b =>
        injection h with h1 h2
        injection h1 with h3 _
        rw [List.foldl_cons, List.foldl_cons, h3]
        exact ih b _ h2
  intro a b h
  exact key a b _ h

/-- What Coefs returns. -/
def CoefsAre (w w' : World) (v N : Nat) (l : List Trm) (K : Nat) (E : Int) (val : Value) : Prop :=
  ∃ rs, Norml (trms rs) ∧ Eqv (trms rs) l ∧ (∀ x ∈ rs, MonoE E x.1.L) ∧ rs.length ≤ N ∧ Below w.heap.size w w' ∧
    ((rs = [] ∧ val = .slice none 0 0) ∨ (rs ≠ [] ∧ ∃ (g D : Nat) (f : Nat → Sl), (degs rs).getD v 0 = (D : Int) ∧ (∀ x ∈ rs, x.1.L.getD v 0 ≤ (D : Int)) ∧ (∃ x ∈ rs, x.1.L.getD v 0 = (D : Int)) ∧ val = .slice (some ⟨g, 0, none⟩) (D + 1) (D + 1) ∧ SplitAt g D f v rs K w'))

set_option maxHeartbeats 4000000 in
theorem split_nil {w : World} {A : Option Addr} {c v : Nat} : Calls Tryz.prog 78 #[.slice A 0 c, .int .i64 v] w fun e w' => e = .returned (.slice none 0 0) ∧ w = w' := by
  go_enter Tryz.func78, Tryz.ntmps78
  go_wp2
  go_ret
  exact ⟨rfl, rfl⟩
set_option maxHeartbeats 8000000 in
theorem wCoefs_x {w : World} {A : Option Addr} {n c k v N K : Nat} {E : Int} {ds : List Tq} (hl : Laid w) (hd : PolyRd w A n c ds k E) (hE : E ≤ 1000) (k0 : 1 ≤ k) (hk8 : k ≤ 300000) (hK : 1 + n * (k + 1) ≤ K) (hK3 : K ≤ 300000) (hN : n ≤ N) (h12 : N ≤ 12) (hv : v < 8) :
    Calls Tryz.prog 44 #[.slice A n c, .int .i64 v] w fun e w' => ∃ val, e = .returned val ∧ CoefsAre w w' v N (trms ds) K E val := by
  have HN := Lib.hid (wNorm_x hl hd (by omega) k0 hk8 (by omega) (by omega))
  clear hd hl
  go_enter Tryz.func44, Tryz.ntmps44
  go_wp2_with fail
  refine HN.out.mono ?_
  rintro e w1 ⟨P, r, q, rs, rfl, nf, eq, ln, b1⟩
  have NF := Lib.hid (nf.le hK (Int.le_refl _))
  have EQ := Lib.hid eq
  have hrl : r = rs.length := nf.rd.len
  have HB1 := Lib.hid b1
  clear nf eq HN b1
  by_cases hr : r = 0
  · subst hr
    have hrs : rs = [] := List.eq_nil_of_length_eq_zero hrl.symm
    have HRS := Lib.hid hrs
    clear hrl hrs
    go_wp2_with fail
    refine split_nil.mono ?_
    rintro e w2 ⟨rfl, rfl⟩
    go_wp2
    go_ret
    exact ⟨_, rfl, rs, NF.out.norml, EQ.out, NF.out.rd.mono, Nat.le_trans ln hN, HB1.out, .inl ⟨HRS.out, rfl⟩⟩
  · have hne : rs ≠ [] := fun e => hr (by rw [hrl, e]; rfl)
    obtain ⟨s1, s2, s3⟩ := degs_spec hv (ds := rs) fun x hx => (NF.out.rd.mono x hx).1
    obtain ⟨D, hD⟩ : ∃ D : Nat, (degs rs).getD v 0 = D := ⟨((degs rs).getD v 0).toNat, by omega⟩
    rw [hD] at s1 s2
    have hatt : ∃ x ∈ rs, x.1.L.getD v 0 = (D : Int) := by
      rcases s2 with h | h
      · obtain ⟨x, hx⟩ := List.exists_mem_of_ne_nil rs hne
        refine ⟨x, hx, ?_⟩
        have h1 := s1 x hx
        have h2 := (getD_range (NF.out.rd.mono x hx) hv).1
        omega
      · exact h
    have hD2 : D ≤ 1000 := by
      obtain ⟨x, hx, h⟩ := hatt
      have := (getD_range (NF.out.rd.mono x hx) hv).2
      omega
    have HSP := Lib.hid (split_x NF.out (by omega) hv (by omega) (by omega) hD s1 hD2)
    have HAT := Lib.hid hatt
    have HS1 := Lib.hid s1
    have HDD := Lib.hid hD
    have HNE := Lib.hid hne
    clear hatt s1 s2 s3 hD hne hrl
    go_wp2_with fail
    refine HSP.out.mono ?_
    rintro e w2 ⟨g, f, rfl, hsp, b2⟩
    have HS2 := Lib.hid hsp
    have HB2 := Lib.hid (nextB HB1.out b2)
    clear hsp b2 HSP
    go_wp2
    go_ret
    exact ⟨_, rfl, rs, NF.out.norml, EQ.out, NF.out.rd.mono, Nat.le_trans ln hN, HB2.out, .inr ⟨HNE.out, g, D, f, HDD.out, HS1.out, HAT.out, rfl, HS2.out⟩⟩
set_option maxHeartbeats 8000000 in
theorem coefs_x {w : World} {A : Option Addr} {n c v : Nat} {ds : List Tq} (hl : Laid w) (hd : PolyRd w A n c ds 4 2) (hn : n ≤ 6) (hin : inLim ds) (hv : v < 8) :
    Calls Tryz.prog 16 #[.slice A n c, .int .i64 v] w fun e w' => ∃ val, e = .returned (.tuple #[val, .int .i64 0]) ∧ CoefsAre w w' v 6 (trms ds) 200 2 val := by
  have HN := Lib.hid (normFor_x hl hd (by decide) (by decide) (by decide) (by omega) (by omega) hin hv)
  have HL := Lib.hid hl
  clear hl hd hin
  go_enter Tryz.func16, Tryz.ntmps16
  go_wp2_with fail
  refine HN.out.mono ?_
  rintro e w1 ⟨P, r, q, rs, rfl, nf, eq, ln, b1⟩
  have hr6 : r ≤ 6 := by have := nf.rd.len; omega
  have nf31 := nf.le (show 1 + n * (4 + 1) ≤ 31 by omega) (Int.le_refl _)
  have HC := Lib.hid (wCoefs_x (N := 6) (K := 200) (HL.out.below b1) nf31.rd (by decide) (by decide) (by decide) (by omega) (by decide) hr6 (by decide) hv)
  have EQ := Lib.hid eq
  have HB1 := Lib.hid b1
  clear nf nf31 eq ln b1 HN
  unfold Two
  go_wp2_with fail
  refine HC.out.mono ?_
  rintro e w2 ⟨val, rfl, hca⟩
  have HCA : Hid (CoefsAre w w2 v 6 (trms ds) 200 2 val) := by
    obtain ⟨ss, c1, c2, c3, c4, c5, c6⟩ := hca
    exact ⟨ss, c1, c2.trans EQ.out, c3, c4, nextB HB1.out c5, c6⟩
  clear hca HC
  go_wp2
  refine bodyPost_ret (v := .tuple #[val, .int .i64 0]) (by simp [results, Tryz.results16, go_sem]) rfl ⟨val, rfl, HCA.out⟩
theorem backTo_zero (v : Nat) (ds : List Tq) : backTo v 0 ds = [] := rfl

set_option maxHeartbeats 40000000 in
theorem polynomialCoefs.walk {A : Option Addr} {n c V : Nat} {w : World} (hl : Laid w) (hcap : n ≤ c) (htop : c ≤ maxLen) (hI : 0 < n → ∃ ad, A = some ad ∧ IntsAt w ad n (-9223372036854775808) 9223372036854775807) (hV : V < 256) :
    Calls Tryz.prog 5 #[.slice A n c, .int .u8 (V : Int)] w (True1 w) := by
  have HNW := Lib.hid (new_any A n c w hcap htop hI)
  have HLW := Lib.hid hl
  obtain ⟨i, hi⟩ : ∃ i : Nat, (V : Int) % 4 = i := ⟨V % 4, by omega⟩
  have hi4 : i < 4 := by omega
  clear hI hcap htop hl
  go_enter Tryz.func5, Tryz.ntmps5
  go_wp2_with fail
  refine HNW.out.mono ?_
  rintro e w1 ⟨g0, rfl, hg, hs1, bw1⟩
  clear HNW
  have HSP := Lib.hid (srcPoly_r g0 w1 3 6 hs1 (by decide) (by decide))
  have HG := Lib.hid hg
  have HW1 := Lib.hid bw1
  clear hg hs1 bw1
  go_wp2_with fail
  refine HSP.out.mono ?_
  rintro e w2 ⟨Ap, np, cp, ds, rfl, hrow, hn6, _, hb2⟩
  have hrd := hrow.rd (by omega)
  have hlim := hrow.lim
  have HRD := Lib.hid hrd
  have HLIM := Lib.hid hlim
  have HB2 : Hid (Below w.heap.size w w2) := HW1.out.trans (hb2.below HG.out HW1.out.size)
  have HL2 := Lib.hid (HLW.out.below HB2.out)
  have HC := Lib.hid (coefs_x (v := i) HL2.out hrd hn6 hlim (by omega))
  clear hrow hb2 hrd hlim HSP HW1
  go_wp2_with fail
  rw [hi]
  clear hi
  refine HC.out.mono ?_
  rintro e w3 ⟨val, rfl, rs, hN, hQ, hM, hl6, hB3, hcase⟩
  have HNM := Lib.hid hN
  have HQ := Lib.hid hQ
  have HM := Lib.hid hM
  have HL6 := Lib.hid hl6
  have HB3 := Lib.hid hB3
  have HDG := Lib.hid (degree_x (v := i) (HL2.out.below HB3.out) (HRD.out.below HB3.out) (by decide) (by decide) (by decide) (by omega) (by omega) HLIM.out (by omega))
  clear hN hQ hM hl6 hB3 HC
  have HCASE := Lib.hid hcase
  clear hcase
  go_wp2_with fail
  refine HDG.out.mono ?_
  rintro e w4 ⟨rs2, hN2, hQ2, rfl, e4⟩
  have huq : trms rs2 = trms rs := Norml.unique hN2 HNM.out (hQ2.trans HQ.out.symm)
  have HB4 := Lib.hid (nextB HB3.out e4)
  have HB4w := Lib.hid (HB2.out.trans (HB4.out.mono HB2.out.size))
  have hdeg : (if rs2 = [] then (-1 : Int) else (degs rs2).getD i 0) = if rs = [] then -1 else (degs rs).getD i 0 := by
    rw [degs_trms huq]
    have hiff : rs2 = [] ↔ rs = [] := by
      have h1 : rs2.length = rs.length := by
        have h := congrArg List.length huq
        unfold trms at h
        simpa using h
      constructor
      · intro h; exact List.eq_nil_of_length_eq_zero (by rw [← h1, h]; rfl)
      · intro h; exact List.eq_nil_of_length_eq_zero (by rw [h1, h]; rfl)
    by_cases h : rs = []
    · rw [if_pos h, if_pos (hiff.2 h)]
    · rw [if_neg h, if_neg (fun e => h (hiff.1 e))]
  have HVX := Lib.hid (refVar_x (w := w4) (v := i) (by omega))
  rcases HCASE.out with ⟨hnil, rfl⟩ | ⟨hne, g, D, f, hD, hDs, hatt, rfl, hsp⟩
  · rw [if_pos hnil] at hdeg
    rw [hdeg]
    have HNIL := Lib.hid hnil
    clear hdeg hnil huq hN2 hQ2 HDG HCASE
    go_wp2_with fail
    refine HVX.out.mono ?_
    rintro e w5 ⟨t, gx, rfl, htL, nx, e5⟩
    have HB5 := Lib.hid (nextB HB4.out e5)
    have HB5w := Lib.hid (nextB HB4w.out e5)
    clear htL nx e5 HVX
    unfold Two
    go_wp2_with fail
    refine wp_loop_rounds 1 ?_
    rw [rounds_succ]
    have hq0 : Eqv (trms ([] : List Tq)) (trms ds) := by have h := HQ.out; rw [HNIL.out] at h; exact h
    have HQ0 := Lib.hid hq0
    clear hq0
    have HNP := Lib.hid (refNormal_x (HRD.out.below HB5.out) (by decide) (by decide) (by omega) (by decide) (by omega))
    have HAW := Lib.hid (fun W (hW : Below w.heap.size w W) => awake3 (HLW.out.below hW))
    go_wp2_with fail
    refine HNP.out.mono ?_
    rintro e w20 ⟨P20, r20, d20, rs20, rfl, nf20, eq20, ln20, nl20, e20⟩
    have HB20 := Lib.hid (nextB HB5w.out e20)
    have HSM := Lib.hid (sameP_true ((PolyNf.nil w5 2).below e20) nf20 (HQ0.out.trans eq20.symm) (by decide))
    clear nf20 eq20 ln20 nl20 e20 HNP
    go_wp2_with fail
    refine HSM.out.mono ?_
    rintro e w21 ⟨rfl, e21⟩
    have HB21 := Lib.hid (nextB HB20.out e21)
    clear HSM e21
    go_wp2_with fail
    refine (HAW.out w21 HB21.out).mono ?_
    rintro e w22 ⟨rfl, e22⟩
    have HB22 := Lib.hid (nextB HB21.out e22)
    clear HAW e22
    go_wp2
    go_ret
    exact ⟨rfl, HB22.out⟩
  · rw [if_neg hne, hD] at hdeg
    rw [hdeg]
    have hD2 : D ≤ 2 := by
      obtain ⟨x, hx, h⟩ := hatt
      have := (getD_range (HM.out x hx) (show i < 8 by omega)).2
      omega
    have HSP4 := Lib.hid (hsp.below e4)
    have HDS := Lib.hid hDs
    have HATT := Lib.hid hatt
    clear hdeg huq hN2 hQ2 HDG HCASE hD hDs hatt hsp hne
    have hdd : ((D : Int) + 1 - 1) = D := by omega
    go_wp2_with fail
    refine HVX.out.mono ?_
    rintro e w5 ⟨t, gx, rfl, htL, nx, e5⟩
    have HB5 := Lib.hid (nextB HB4.out e5)
    have HB5w := Lib.hid (nextB HB4w.out e5)
    have HSP5 := Lib.hid (HSP4.out.below e5)
    have HTL := Lib.hid htL
    have HNX := Lib.hid nx
    clear htL nx e5 HVX hdd
    unfold Two
    go_wp2
    go_loopw [13, 14] (fun ov kv wr => ∃ (P : Option Addr) (r d : Nat) (ss : List Tq) (kk : Nat), ov = .slice P r d ∧ kv = .int .i64 kk ∧ kk ≤ D + 1 ∧ Hid (Below w5.heap.size w5 wr) ∧ Hid (PolyNf wr P r d ss (1 + kk * 8000) 4) ∧ Hid (Eqv (trms ss) (backTo i kk rs)) ∧ Hid (ss.length ≤ kk * 6) ∧ Hid (P = none → d = 0)) (fun _ kv _ => D + 1 - (intOf kv).toNat)
    case atStart => exact ⟨none, 0, 0, [], 0, rfl, rfl, Nat.zero_le _, Below.refl _ _, (by show PolyNf _ _ _ _ _ _ _; simpa using PolyNf.nil w5 4), (by show Eqv _ _; rw [backTo_zero]; exact Eqv.refl _), (by show _ ≤ _; simp), fun _ => rfl⟩
    case round =>
      obtain ⟨P, r, d, ss, kk, rfl, rfl, hkD, HBR, HSN, HSQ, HSL, HNL⟩ := hrel
      by_cases hlt : kk < D + 1
      · have hlt2 : (kk : Int) < D + 1 := by omega
        have hk0 : (0 : Int) ≤ kk := by omega
        have hkk2 : kk ≤ 2 := by omega
        obtain ⟨Ak, nk, ck, hfk⟩ : ∃ Ak nk ck, f kk = (Ak, nk, ck) := ⟨_, _, _, rfl⟩
        have SP := HSP5.out.below HBR.out
        have hrow := SP.row kk (by omega)
        rw [hfk] at hrow
        have hrow : OutRow (g + 1) Ak nk ck (coefAt i kk rs) 200 wr := hrow
        have hnk : nk ≤ 6 := by
          have h1 : nk = (coefAt i kk rs).length := hrow.len
          have h2 : (coefAt i kk rs).length ≤ rs.length := by unfold coefAt; rw [List.length_map]; exact List.length_filter_le _ _
          have := HL6.out
          omega
        have hnf : PolyNf wr Ak nk ck (coefAt i kk rs) 200 2 := hrow.nf (by omega) (fun y hy => by
          obtain ⟨x, hx, _, rfl⟩ := mem_coefAt hy
          have hm := HM.out x hx
          refine ⟨by show (x.1.L.set i 0).length = 8; rw [List.length_set]; exact hm.1, fun e he => ?_⟩
          rcases List.mem_or_eq_of_mem_set he with h | rfl
          · exact hm.2 e h
          · exact ⟨by decide, by decide⟩) (coefAt_norml (fun x hx => (HM.out x hx).1) HNM.out)
        have HEX0 : Hid (∀ x ∈ coefAt i kk rs, x.1.L.getD i 0 ≤ 0) := fun y hy => by
          obtain ⟨x, hx, _, rfl⟩ := mem_coefAt hy
          show (x.1.L.set i 0).getD i 0 ≤ 0
          rw [List.getD_eq_getElem?_getD, List.getElem?_set_self (by rw [(HM.out x hx).1]; omega)]
          exact Int.le_refl _
        have HCK : Hid (∀ W, Below wr.heap.size wr W → PolyNf W Ak nk ck (coefAt i kk rs) 200 2) := fun W hW => hnf.below hW
        have HCL : Hid (∀ W, Below wr.heap.size wr W → W.cell? ⟨g, kk, none⟩ = some (.slice Ak nk ck)) := fun W hW => by
          have h := (SP.below hW).cell kk (by omega)
          rw [hfk] at h
          exact h
        have HISN : Hid (∀ W, Below wr.heap.size wr W → Calls Tryz.prog 19 #[.slice Ak nk ck] W fun e w' => e = .returned (.bool true) ∧ Below W.heap.size W w') := fun W hW => refIsNormal_x (hnf.below hW) (by decide) (by decide) (by omega) (by decide) (by omega)
        have HEXP : Hid (∀ W, Below wr.heap.size wr W → Calls Tryz.prog 20 #[.slice Ak nk ck, .int .i64 i] W fun e w' => ∃ z : Int, e = .returned (.int .i64 z) ∧ (∀ b : Int, -1 ≤ b → (∀ x ∈ coefAt i kk rs, x.1.L.getD i 0 ≤ b) → z ≤ b) ∧ Below W.heap.size W w') := fun W hW => refExponent_x (hnf.below hW).rd (by decide) (by omega)
        have HPW : Hid (∀ W, Below wr.heap.size wr W → Calls Tryz.prog 23 #[.slice (some ⟨gx, 0, none⟩) 1 1, .int .i64 kk] W (GivesNf W [(single i kk, 1)] 1 (4 + kk * 4) kk)) := fun W hW => refPower_x (((HNX.out.below HBR.out).below hW).rd) HTL.out (by omega) (by omega)
        have hnkD : kk = D → ¬ (nk : Int) = 0 := fun e h0 => by
          obtain ⟨x, hx, h⟩ := HATT.out
          have h1 : nk = (coefAt i kk rs).length := hrow.len
          have h2 : clr i x ∈ coefAt i kk rs := List.mem_map.2 ⟨x, List.mem_filter.2 ⟨hx, by rw [e]; simpa using h⟩, rfl⟩
          have h3 : coefAt i kk rs = [] := List.eq_nil_of_length_eq_zero (by omega)
          rw [h3] at h2
          cases h2
        clear SP hrow hnf hfk
        have c12 := HCL.out wr (Below.refl _ _)
        go_wp2_with fail
        refine (HISN.out wr (Below.refl _ _)).mono ?_
        rintro e wx ⟨rfl, ex⟩
        have cx := HCL.out wx ex
        clear c12
        go_wp2_with fail
        refine (HEXP.out wx ex).mono ?_
        rintro e wz ⟨z, rfl, hz, ez⟩
        have hz0 : ¬ 0 < z := by have := hz 0 (by decide) HEX0.out; omega
        have hk := nextB ex ez
        have cz := HCL.out wz hk
        clear cx ex ez hz
        by_cases hlast : kk = D
        · have hnk0 := hnkD hlast
          clear hnkD
          have hkd : (kk : Int) = D := by omega
          have hkd2 : ((kk : Int) == D) = true := by rw [beq_iff_eq]; exact hkd
          have HKD := Lib.hid hkd
          clear hkd hlast
          go_wp2_with fail
          · rename_i hh
            exfalso
            rcases hh with hh | hh
            · omega
            · exact hnk0 (by simpa using hh)
          rename_i hh
          clear hh
          replace hk := hk.drew
          clear cz
          refine wp_region_held_drew (S := (fun W => W.cell? ⟨g, kk, none⟩ = some (.slice Ak nk ck))) (by kernel_rfl) ?_ (fun hHeld => ?_)
          · exact HCL.out _ hk
          refine wpAnyH_take (i := 0) (oi := ⟨some 85, _, _, _, _, _⟩) (v := ?_) rfl (by kernel_rfl) (by kernel_rfl) (by kernel_rfl) (fun _ _ _ h => h) (Or.inl ⟨by rfl, ?_⟩) (by assumption) ?_
          rotate_left
          · intro w hSw
            (try dsimp only at hSw)
            go_simp
            try with_reducible rfl
          try simp only [Act.put, List.setIfInBounds_toArray, List.set_cons_zero, List.set_cons_succ]
          refine wpAnyH_take (i := 1) (oi := ⟨some 86, _, _, _, _, _⟩) (v := ?_) rfl (by kernel_rfl) (by kernel_rfl) (by kernel_rfl) (fun _ _ _ h => h) (Or.inl ⟨by rfl, ?_⟩) (by assumption) ?_
          rotate_left
          · intro w hSw
            (try dsimp only at hSw)
            go_simp
            try with_reducible rfl
          try simp only [Act.put, List.setIfInBounds_toArray, List.set_cons_zero, List.set_cons_succ]
          refine wpAnyH_take (i := 2) (oi := ⟨some 87, _, _, _, _, _⟩) (v := ?_) rfl (by kernel_rfl) (by kernel_rfl) (by kernel_rfl) (fun _ _ _ h => h) (Or.inl ⟨by rfl, ?_⟩) (by assumption) ?_
          rotate_left
          · intro w hSw
            (try dsimp only at hSw)
            go_simp
            try with_reducible rfl
          try simp only [Act.put, List.setIfInBounds_toArray, List.set_cons_zero, List.set_cons_succ]
          refine wpAnyH_take (i := 3) (oi := ⟨some 88, _, _, _, _, _⟩) (v := ?_) rfl (by kernel_rfl) (by kernel_rfl) (by kernel_rfl) (fun _ _ _ h => h) (Or.inl ⟨by rfl, ?_⟩) (by assumption) ?_
          rotate_left
          · intro w hSw
            (try dsimp only at hSw)
            go_simp
            try with_reducible rfl
          try simp only [Act.put, List.setIfInBounds_toArray, List.set_cons_zero, List.set_cons_succ]
          refine wpAnyH_take (i := 4) (oi := ⟨some 89, _, _, _, _, _⟩) (v := ?_) rfl (by kernel_rfl) (by kernel_rfl) (by kernel_rfl) (fun _ _ _ h => h) (Or.inl ⟨by rfl, ?_⟩) (by assumption) ?_
          rotate_left
          · intro w hSw
            (try dsimp only at hSw)
            go_simp
            try with_reducible rfl
          try simp only [Act.put, List.setIfInBounds_toArray, List.set_cons_zero, List.set_cons_succ]
          refine wpAnyH_take (i := 5) (oi := ⟨some 90, _, _, _, _, _⟩) (v := ?_) rfl (by kernel_rfl) (by kernel_rfl) (by kernel_rfl) (fun _ _ _ h => h) (Or.inl ⟨by rfl, ?_⟩) (by assumption) ?_
          rotate_left
          · intro w hSw
            (try dsimp only at hSw)
            go_simp
            try with_reducible rfl
          try simp only [Act.put, List.setIfInBounds_toArray, List.set_cons_zero, List.set_cons_succ]
          refine wpAnyH_take (i := 6) (oi := ⟨some 91, _, _, _, _, _⟩) (v := ?_) rfl (by kernel_rfl) (by kernel_rfl) (by kernel_rfl) (fun _ _ _ h => h) (Or.inl ⟨by rfl, ?_⟩) (by assumption) ?_
          rotate_left
          · intro w hSw
            (try dsimp only at hSw)
            go_simp
            try with_reducible rfl
          try simp only [Act.put, List.setIfInBounds_toArray, List.set_cons_zero, List.set_cons_succ]
          refine wpAnyH_ready (rs := [7]) (by kernel_rfl) (by simp) ?_
          refine AllReadyH.cons (o := ⟨some 92, _, _, _, _, _⟩) rfl (fun K hK => ?_) AllReadyH.nil
          go_simp
          refine (HPW.out _ hk).mono ?_
          rintro e w7 ⟨P7, r7, d7, rs7, rfl, nf7, eq7, ln7, nl7, e7⟩
          have NF7 := Lib.hid nf7
          have EQ7 := Lib.hid eq7
          have LN7 := Lib.hid ln7
          replace hk := nextB hk e7
          clear nf7 eq7 nl7 ln7
          go_wp2_with fail
          refine hK.out _ _ (HCL.out _ hk) (fun hHeld => ?_)
          clear hK K
          try simp only [Act.put, List.setIfInBounds_toArray, List.set_cons_zero, List.set_cons_succ]
          refine wpAnyH_ready (rs := [8]) (by kernel_rfl) (by simp) ?_
          refine AllReadyH.cons (o := ⟨some 93, _, _, _, _, _⟩) rfl (fun K hK => ?_) AllReadyH.nil
          go_simp
          have hr7 : r7 ≤ 1 := by rw [NF7.out.rd.len]; exact LN7.out
          have h7b : r7 * (nk * (200 + (4 + kk * 4) + 1)) ≤ 1 * (6 * (200 + 12 + 1)) := Nat.mul_le_mul hr7 (Nat.mul_le_mul hnk (by omega))
          have h7c : r7 * nk ≤ 1 * 6 := Nat.mul_le_mul hr7 hnk
          refine (refProduct_x (HCK.out _ hk).rd NF7.out.rd (by decide) (by omega) (by decide) (by omega) (by decide) (by omega) (by omega) (by omega) (by omega) (by omega) (by omega)).mono ?_
          rintro e w8 ⟨P8, r8, d8, rs8, rfl, nf8, eq8, ln8, nl8, e8⟩
          have NF8 := Lib.hid (nf8.le (show _ ≤ 1300 by omega) (show _ ≤ (4 : Int) by omega))
          have EQ8 := Lib.hid eq8
          have hr8 : r8 ≤ 6 := by have := nf8.rd.len; omega
          replace hk := nextB hk e8
          clear nf8 eq8 nl8 ln8 h7b h7c hr7
          go_wp2_with fail
          refine hK.out _ _ (HCL.out _ hk) (fun hHeld => ?_)
          clear hK K
          try simp only [Act.put, List.setIfInBounds_toArray, List.set_cons_zero, List.set_cons_succ]
          refine wpAnyH_ready (rs := [9]) (by kernel_rfl) (by simp) ?_
          refine AllReadyH.cons (o := ⟨some 94, _, _, _, _, _⟩) rfl (fun K hK => ?_) AllReadyH.nil
          go_simp
          have h8b : r8 * (1300 + 1) ≤ 6 * 1301 := Nat.mul_le_mul_right _ hr8
          have hrs := HSN.out.rd.len
          have hsl := HSL.out
          refine (refSum_x (HSN.out.below hk) HNL.out NF8.out.rd (by decide) (by omega) (by decide) (by omega) (by decide) (by omega) (by omega)).mono ?_
          rintro e w9 ⟨P9, r9, d9, rs9, rfl, nf9, eq9, ln9, nl9, e9⟩
          have NF9 := Lib.hid (nf9.le (show _ ≤ 1 + (kk + 1) * 8000 by omega) (Int.le_refl _))
          have EQ9 := Lib.hid eq9
          have LN9 : Hid (rs9.length ≤ (kk + 1) * 6) := by show _ ≤ _; omega
          have NL9 := Lib.hid nl9
          replace hk := nextB hk e9
          clear nf9 eq9 nl9 ln9 h8b hrs hsl
          go_wp2_with fail
          refine hK.out _ _ (HCL.out _ hk) (fun hHeld => ?_)
          clear hK K
          try simp only [Act.put, List.setIfInBounds_toArray, List.set_cons_zero, List.set_cons_succ]
          refine wpAnyH_take (i := 10) (oi := ⟨some 13, _, _, _, _, _⟩) (v := ?_) rfl (by kernel_rfl) (by kernel_rfl) (by kernel_rfl) (fun _ _ _ h => h) (Or.inl ⟨by rfl, ?_⟩) (by assumption) ?_
          rotate_left
          · intro w hSw
            (try dsimp only at hSw)
            go_simp
            try with_reducible rfl
          try simp only [Act.put, List.setIfInBounds_toArray, List.set_cons_zero, List.set_cons_succ]
          refine wpAnyH_done (by kernel_rfl) ?_ _
          have HBN := Lib.hid (nextB HBR.out hk)
          have EQN : Hid (Eqv (trms rs9) (backTo i (kk + 1) rs)) := fun ff => by
            rw [backTo_succ, EQ9.out ff, lin_append, lin_append, HSQ.out ff, EQ8.out ff]
            exact congrArg (fun z => lin (backTo i kk rs) ff + z) (Eqv.prods (Eqv.refl _) EQ7.out ff)
          clear hk HCL HCK HISN HEXP HPW EQ7 EQ8 EQ9 NF7 NF8 LN7 HSN HSQ HSL HNL
          go_wp2
          go_roundw
          case rel => exact ⟨P9, r9, d9, rs9, kk + 1, rfl, by go_num, by omega, HBN, NF9, EQN, LN9, NL9⟩
          case measure => simp [intOf] <;> omega
        · clear hnkD
          have hkd : ¬ (kk : Int) = D := by omega
          have hkd2 : ((kk : Int) == D) = false := by rw [beq_eq_false_iff_ne]; exact hkd
          have HKD := Lib.hid hkd
          clear hkd hlast
          go_wp2_with fail
          replace hk := hk.drew
          clear cz
          refine wp_region_held_drew (S := (fun W => W.cell? ⟨g, kk, none⟩ = some (.slice Ak nk ck))) (by kernel_rfl) ?_ (fun hHeld => ?_)
          · exact HCL.out _ hk
          refine wpAnyH_take (i := 0) (oi := ⟨some 85, _, _, _, _, _⟩) (v := ?_) rfl (by kernel_rfl) (by kernel_rfl) (by kernel_rfl) (fun _ _ _ h => h) (Or.inl ⟨by rfl, ?_⟩) (by assumption) ?_
          rotate_left
          · intro w hSw
            (try dsimp only at hSw)
            go_simp
            try with_reducible rfl
          try simp only [Act.put, List.setIfInBounds_toArray, List.set_cons_zero, List.set_cons_succ]
          refine wpAnyH_take (i := 1) (oi := ⟨some 86, _, _, _, _, _⟩) (v := ?_) rfl (by kernel_rfl) (by kernel_rfl) (by kernel_rfl) (fun _ _ _ h => h) (Or.inl ⟨by rfl, ?_⟩) (by assumption) ?_
          rotate_left
          · intro w hSw
            (try dsimp only at hSw)
            go_simp
            try with_reducible rfl
          try simp only [Act.put, List.setIfInBounds_toArray, List.set_cons_zero, List.set_cons_succ]
          refine wpAnyH_take (i := 2) (oi := ⟨some 87, _, _, _, _, _⟩) (v := ?_) rfl (by kernel_rfl) (by kernel_rfl) (by kernel_rfl) (fun _ _ _ h => h) (Or.inl ⟨by rfl, ?_⟩) (by assumption) ?_
          rotate_left
          · intro w hSw
            (try dsimp only at hSw)
            go_simp
            try with_reducible rfl
          try simp only [Act.put, List.setIfInBounds_toArray, List.set_cons_zero, List.set_cons_succ]
          refine wpAnyH_take (i := 3) (oi := ⟨some 88, _, _, _, _, _⟩) (v := ?_) rfl (by kernel_rfl) (by kernel_rfl) (by kernel_rfl) (fun _ _ _ h => h) (Or.inl ⟨by rfl, ?_⟩) (by assumption) ?_
          rotate_left
          · intro w hSw
            (try dsimp only at hSw)
            go_simp
            try with_reducible rfl
          try simp only [Act.put, List.setIfInBounds_toArray, List.set_cons_zero, List.set_cons_succ]
          refine wpAnyH_take (i := 4) (oi := ⟨some 89, _, _, _, _, _⟩) (v := ?_) rfl (by kernel_rfl) (by kernel_rfl) (by kernel_rfl) (fun _ _ _ h => h) (Or.inl ⟨by rfl, ?_⟩) (by assumption) ?_
          rotate_left
          · intro w hSw
            (try dsimp only at hSw)
            go_simp
            try with_reducible rfl
          try simp only [Act.put, List.setIfInBounds_toArray, List.set_cons_zero, List.set_cons_succ]
          refine wpAnyH_take (i := 5) (oi := ⟨some 90, _, _, _, _, _⟩) (v := ?_) rfl (by kernel_rfl) (by kernel_rfl) (by kernel_rfl) (fun _ _ _ h => h) (Or.inl ⟨by rfl, ?_⟩) (by assumption) ?_
          rotate_left
          · intro w hSw
            (try dsimp only at hSw)
            go_simp
            try with_reducible rfl
          try simp only [Act.put, List.setIfInBounds_toArray, List.set_cons_zero, List.set_cons_succ]
          refine wpAnyH_take (i := 6) (oi := ⟨some 91, _, _, _, _, _⟩) (v := ?_) rfl (by kernel_rfl) (by kernel_rfl) (by kernel_rfl) (fun _ _ _ h => h) (Or.inl ⟨by rfl, ?_⟩) (by assumption) ?_
          rotate_left
          · intro w hSw
            (try dsimp only at hSw)
            go_simp
            try with_reducible rfl
          try simp only [Act.put, List.setIfInBounds_toArray, List.set_cons_zero, List.set_cons_succ]
          refine wpAnyH_ready (rs := [7]) (by kernel_rfl) (by simp) ?_
          refine AllReadyH.cons (o := ⟨some 92, _, _, _, _, _⟩) rfl (fun K hK => ?_) AllReadyH.nil
          go_simp
          refine (HPW.out _ hk).mono ?_
          rintro e w7 ⟨P7, r7, d7, rs7, rfl, nf7, eq7, ln7, nl7, e7⟩
          have NF7 := Lib.hid nf7
          have EQ7 := Lib.hid eq7
          have LN7 := Lib.hid ln7
          replace hk := nextB hk e7
          clear nf7 eq7 nl7 ln7
          go_wp2_with fail
          refine hK.out _ _ (HCL.out _ hk) (fun hHeld => ?_)
          clear hK K
          try simp only [Act.put, List.setIfInBounds_toArray, List.set_cons_zero, List.set_cons_succ]
          refine wpAnyH_ready (rs := [8]) (by kernel_rfl) (by simp) ?_
          refine AllReadyH.cons (o := ⟨some 93, _, _, _, _, _⟩) rfl (fun K hK => ?_) AllReadyH.nil
          go_simp
          have hr7 : r7 ≤ 1 := by rw [NF7.out.rd.len]; exact LN7.out
          have h7b : r7 * (nk * (200 + (4 + kk * 4) + 1)) ≤ 1 * (6 * (200 + 12 + 1)) := Nat.mul_le_mul hr7 (Nat.mul_le_mul hnk (by omega))
          have h7c : r7 * nk ≤ 1 * 6 := Nat.mul_le_mul hr7 hnk
          refine (refProduct_x (HCK.out _ hk).rd NF7.out.rd (by decide) (by omega) (by decide) (by omega) (by decide) (by omega) (by omega) (by omega) (by omega) (by omega) (by omega)).mono ?_
          rintro e w8 ⟨P8, r8, d8, rs8, rfl, nf8, eq8, ln8, nl8, e8⟩
          have NF8 := Lib.hid (nf8.le (show _ ≤ 1300 by omega) (show _ ≤ (4 : Int) by omega))
          have EQ8 := Lib.hid eq8
          have hr8 : r8 ≤ 6 := by have := nf8.rd.len; omega
          replace hk := nextB hk e8
          clear nf8 eq8 nl8 ln8 h7b h7c hr7
          go_wp2_with fail
          refine hK.out _ _ (HCL.out _ hk) (fun hHeld => ?_)
          clear hK K
          try simp only [Act.put, List.setIfInBounds_toArray, List.set_cons_zero, List.set_cons_succ]
          refine wpAnyH_ready (rs := [9]) (by kernel_rfl) (by simp) ?_
          refine AllReadyH.cons (o := ⟨some 94, _, _, _, _, _⟩) rfl (fun K hK => ?_) AllReadyH.nil
          go_simp
          have h8b : r8 * (1300 + 1) ≤ 6 * 1301 := Nat.mul_le_mul_right _ hr8
          have hrs := HSN.out.rd.len
          have hsl := HSL.out
          refine (refSum_x (HSN.out.below hk) HNL.out NF8.out.rd (by decide) (by omega) (by decide) (by omega) (by decide) (by omega) (by omega)).mono ?_
          rintro e w9 ⟨P9, r9, d9, rs9, rfl, nf9, eq9, ln9, nl9, e9⟩
          have NF9 := Lib.hid (nf9.le (show _ ≤ 1 + (kk + 1) * 8000 by omega) (Int.le_refl _))
          have EQ9 := Lib.hid eq9
          have LN9 : Hid (rs9.length ≤ (kk + 1) * 6) := by show _ ≤ _; omega
          have NL9 := Lib.hid nl9
          replace hk := nextB hk e9
          clear nf9 eq9 nl9 ln9 h8b hrs hsl
          go_wp2_with fail
          refine hK.out _ _ (HCL.out _ hk) (fun hHeld => ?_)
          clear hK K
          try simp only [Act.put, List.setIfInBounds_toArray, List.set_cons_zero, List.set_cons_succ]
          refine wpAnyH_take (i := 10) (oi := ⟨some 13, _, _, _, _, _⟩) (v := ?_) rfl (by kernel_rfl) (by kernel_rfl) (by kernel_rfl) (fun _ _ _ h => h) (Or.inl ⟨by rfl, ?_⟩) (by assumption) ?_
          rotate_left
          · intro w hSw
            (try dsimp only at hSw)
            go_simp
            try with_reducible rfl
          try simp only [Act.put, List.setIfInBounds_toArray, List.set_cons_zero, List.set_cons_succ]
          refine wpAnyH_done (by kernel_rfl) ?_ _
          have HBN := Lib.hid (nextB HBR.out hk)
          have EQN : Hid (Eqv (trms rs9) (backTo i (kk + 1) rs)) := fun ff => by
            rw [backTo_succ, EQ9.out ff, lin_append, lin_append, HSQ.out ff, EQ8.out ff]
            exact congrArg (fun z => lin (backTo i kk rs) ff + z) (Eqv.prods (Eqv.refl _) EQ7.out ff)
          clear hk HCL HCK HISN HEXP HPW EQ7 EQ8 EQ9 NF7 NF8 LN7 HSN HSQ HSL HNL
          go_wp2
          go_roundw
          case rel => exact ⟨P9, r9, d9, rs9, kk + 1, rfl, by go_num, by omega, HBN, NF9, EQN, LN9, NL9⟩
          case measure => simp [intOf] <;> omega
      · obtain rfl : kk = D + 1 := by omega
        have hq0 : Eqv (trms ss) (trms ds) := (HSQ.out.trans (backTo_all (by omega) (D + 1) fun x hx => ⟨(HM.out x hx).1, (getD_range (HM.out x hx) (by omega)).1, by have := HDS.out x hx; omega⟩)).trans HQ.out
        have HQ0 := Lib.hid hq0
        have HB6 := Lib.hid (nextB HB5.out HBR.out)
        have HB6w := Lib.hid (nextB HB5w.out HBR.out)
        clear hq0 HSQ HSL HNL HSP5 HSP4
        have HNP := Lib.hid (refNormal_x (HRD.out.below HB6.out) (by decide) (by decide) (by omega) (by decide) (by omega))
        have HAW := Lib.hid (fun W (hW : Below w.heap.size w W) => awake3 (HLW.out.below hW))
        go_wp2_with fail
        refine HNP.out.mono ?_
        rintro e w20 ⟨P20, r20, d20, rs20, rfl, nf20, eq20, ln20, nl20, e20⟩
        have HB20 := Lib.hid (nextB HB6w.out e20)
        have HSM := Lib.hid (sameP_true (HSN.out.below e20) nf20 (HQ0.out.trans eq20.symm) (by decide))
        clear nf20 eq20 ln20 nl20 e20 HNP
        go_wp2_with fail
        refine HSM.out.mono ?_
        rintro e w21 ⟨rfl, e21⟩
        have HB21 := Lib.hid (nextB HB20.out e21)
        clear HSM e21
        go_wp2_with fail
        refine (HAW.out w21 HB21.out).mono ?_
        rintro e w22 ⟨rfl, e22⟩
        have HB22 := Lib.hid (nextB HB21.out e22)
        clear HAW e22
        go_wp2
        go_ret
        exact ⟨rfl, HB22.out⟩
end Go.Proofs.YtnkfmbjpbfpfkaaGreatDoor
