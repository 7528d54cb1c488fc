/-
  The program's polynomials by what they denote; PolynomialRing: the law's walk.
-/
import Derived.Test.YtebbnmjmjoklmaaGreatDoorAwake3
import Derived.Test.YtebbnmjmjoklmaaGreatDoorSrcP
import Derived.Test.YtebbnmjmjoklmaaGreatDoorEqMono
namespace Go.Proofs.YtebbnmjmjoklmaaGreatDoor
open Go Go.RowKit Go.WideMaps
set_option maxRecDepth 20000

/-- A readable polynomial that denotes what l does, of at most N terms. -/
def Pol (W : World) (A : Option Addr) (n c : Nat) (l : List Trm) (N k : Nat) (E : Int) : Prop := ∃ ds, PolyRd W A n c ds k E ∧ Eqv (trms ds) l ∧ n ≤ N
/-- One in normal form. -/
def Nol (W : World) (A : Option Addr) (n c : Nat) (l : List Trm) (N k : Nat) (E : Int) : Prop := ∃ ds, PolyNf W A n c ds k E ∧ Eqv (trms ds) l ∧ n ≤ N
theorem Pol.below {w w' : World} {A : Option Addr} {n c N k : Nat} {l : List Trm} {E : Int} (h : Pol w A n c l N k E) (hb : Below w.heap.size w w') : Pol w' A n c l N k E := by
  obtain ⟨ds, h1, h2⟩ := h
  exact ⟨ds, h1.below hb, h2⟩
theorem Nol.below {w w' : World} {A : Option Addr} {n c N k : Nat} {l : List Trm} {E : Int} (h : Nol w A n c l N k E) (hb : Below w.heap.size w w') : Nol w' A n c l N k E := by
  obtain ⟨ds, h1, h2⟩ := h
  exact ⟨ds, h1.below hb, h2⟩
theorem Nol.pol {w : World} {A : Option Addr} {n c N k : Nat} {l : List Trm} {E : Int} (h : Nol w A n c l N k E) : Pol w A n c l N k E := by
  obtain ⟨ds, h1, h2⟩ := h
  exact ⟨ds, h1.rd, h2⟩
theorem Pol.le {w : World} {A : Option Addr} {n c N k j : Nat} {l : List Trm} {E F : Int} (h : Pol w A n c l N k E) (hk : k ≤ j) (hE : E ≤ F) : Pol w A n c l N j F := by
  obtain ⟨ds, h1, h2⟩ := h
  exact ⟨ds, h1.le hk hE, h2⟩
theorem rd_lim {w : World} {A : Option Addr} {n c k : Nat} {ds : List Tq} {E : Int} (h : PolyRd w A n c ds k E) (hE : E ≤ 1024) : inLim ds := fun x hx e he => by have := (h.mono x hx).2 e he; omega
theorem Pol.of_row {base n c N : Nat} {A : Option Addr} {ds : List Tq} {W : World} (h : SrcRow base A n c ds W) (hn : n ≤ N) (hN : N ≤ 49) : Pol W A n c (trms ds) N 4 2 := ⟨ds, h.rd (by omega), Eqv.refl _, hn⟩
/-- A polynomial in normal form comes back, and no error. -/
def GivesPN (w : World) (l : List Trm) (N k : Nat) (E : Int) (e : Ending) (w' : World) : Prop := ∃ A n c, e = Two A n c 0 ∧ Nol w' A n c l N k E ∧ Below w.heap.size w w'
theorem mulN {w : World} {A B : Option Addr} {n c m d N M k j K : Nat} {l r : List Trm} {E F : Int} (hl : Laid w) (h1 : Pol w A n c l N k E) (h2 : Pol w B m d r M j F) (hE0 : 0 ≤ E) (hF0 : 0 ≤ F) (hEF : E + F ≤ 1024) (k0 : 1 ≤ k) (j0 : 1 ≤ j) (hk : k ≤ 300000) (hj : j ≤ 300000)
    (hK : 1 + N * (M * (1 + N * (k + 1) + (1 + M * (j + 1)) + 1)) ≤ K) (hK3 : K ≤ 300000) (hs : 1 + N * (k + 1) + (1 + M * (j + 1)) ≤ 300000) (hN : N ≤ 49) (hM : M ≤ 49) (hNM : N * M ≤ 49) :
    Calls Tryz.prog 7 #[.slice A n c, .slice B m d] w (GivesPN w (prods l r) (N * M) K (E + F)) := by
  obtain ⟨ds, d1, d2, d3⟩ := h1
  obtain ⟨es, e1, e2, e3⟩ := h2
  have i1 : n * (k + 1) ≤ N * (k + 1) := Nat.mul_le_mul_right _ d3
  have i2 : m * (j + 1) ≤ M * (j + 1) := Nat.mul_le_mul_right _ e3
  have i3 : n * m ≤ N * M := Nat.mul_le_mul d3 e3
  have i4 : n * (m * (1 + N * (k + 1) + (1 + M * (j + 1)) + 1)) ≤ N * (M * (1 + N * (k + 1) + (1 + M * (j + 1)) + 1)) := Nat.mul_le_mul d3 (Nat.mul_le_mul_right _ e3)
  refine (mul_ok (kd' := 1 + N * (k + 1)) (ke' := 1 + M * (j + 1)) hl d1 e1 hE0 hF0 hEF k0 j0 hk hj (by omega) (by omega) (by omega) hs (by omega) (by omega) (by omega)).mono ?_
  rintro e w' ⟨P, r', q, rs, rfl, nf, eq, ln, b⟩
  have hr := nf.rd.len
  exact ⟨P, r', q, rfl, ⟨rs, nf.le (by omega) (Int.le_refl _), eq.trans (Eqv.prods d2 e2), by omega⟩, b⟩
theorem addN {w : World} {A B : Option Addr} {n c m d N M k K : Nat} {l r : List Trm} {E : Int} (hl : Laid w) (h1 : Pol w A n c l N k E) (h2 : Pol w B m d r M k E) (hE : E ≤ 1024) (k0 : 1 ≤ k) (hk : k ≤ 300000)
    (hK : 1 + N * (k + 1) + M * (k + 1) ≤ K) (hK3 : K ≤ 300000) (hNM : N + M ≤ 49) : Calls Tryz.prog 9 #[.slice A n c, .slice B m d] w (GivesPN w (l ++ r) (N + M) K E) := by
  obtain ⟨ds, d1, d2, d3⟩ := h1
  obtain ⟨es, e1, e2, e3⟩ := h2
  have i1 : n * (k + 1) ≤ N * (k + 1) := Nat.mul_le_mul_right _ d3
  have i2 : m * (k + 1) ≤ M * (k + 1) := Nat.mul_le_mul_right _ e3
  refine (add_x hl d1 e1 (by omega) k0 hk (by omega) (by omega) (rd_lim d1 hE) (rd_lim e1 hE)).mono ?_
  rintro e w' ⟨P, r', q, rs, rfl, nf, eq, ln, b⟩
  have hr := nf.rd.len
  exact ⟨P, r', q, rfl, ⟨rs, nf.le (by omega) (Int.le_refl _), eq.trans (d2.append e2), by omega⟩, b⟩
theorem subN {w : World} {A B : Option Addr} {n c m d N M k K : Nat} {l r : List Trm} {E : Int} (hl : Laid w) (h1 : Pol w A n c l N k E) (h2 : Pol w B m d r M k E) (hE : E ≤ 1024) (k0 : 1 ≤ k) (hk : k ≤ 300000)
    (hK : 1 + N * (k + 1) + M * (k + 1) ≤ K) (hK3 : K ≤ 300000) (hNM : N + M ≤ 49) : Calls Tryz.prog 10 #[.slice A n c, .slice B m d] w (GivesPN w (l ++ scale (-1) r) (N + M) K E) := by
  obtain ⟨ds, d1, d2, d3⟩ := h1
  obtain ⟨es, e1, e2, e3⟩ := h2
  have i1 : n * (k + 1) ≤ N * (k + 1) := Nat.mul_le_mul_right _ d3
  have i2 : m * (k + 1) ≤ M * (k + 1) := Nat.mul_le_mul_right _ e3
  refine (sub_x hl d1 e1 (by omega) k0 hk (by omega) (by omega) (rd_lim d1 hE) (rd_lim e1 hE)).mono ?_
  rintro e w' ⟨P, r', q, rs, rfl, nf, eq, ln, b⟩
  have hr := nf.rd.len
  exact ⟨P, r', q, rfl, ⟨rs, nf.le (by omega) (Int.le_refl _), eq.trans (d2.append (e2.scale (-1))), by omega⟩, b⟩
theorem normN {w : World} {A : Option Addr} {n c N k K : Nat} {l : List Trm} {E : Int} (hl : Laid w) (h1 : Pol w A n c l N k E) (hE : E ≤ 1024) (k0 : 1 ≤ k) (hk : k ≤ 300000)
    (hK : 1 + N * (k + 1) ≤ K) (hK3 : K ≤ 300000) (hN : N ≤ 49) : Calls Tryz.prog 11 #[.slice A n c] w (GivesPN w l N K E) := by
  obtain ⟨ds, d1, d2, d3⟩ := h1
  have i1 : n * (k + 1) ≤ N * (k + 1) := Nat.mul_le_mul_right _ d3
  refine (norm_x hl d1 (by omega) k0 hk (by omega) (by omega) (rd_lim d1 hE)).mono ?_
  rintro e w' ⟨P, r', q, rs, rfl, nf, eq, ln, b⟩
  have hr := nf.rd.len
  exact ⟨P, r', q, rfl, ⟨rs, nf.le (by omega) (Int.le_refl _), eq.trans d2, by omega⟩, b⟩
theorem sameN {w : World} {A B : Option Addr} {n c m d N M k j : Nat} {l r : List Trm} {E F : Int} (h1 : Nol w A n c l N k E) (h2 : Nol w B m d r M j F) (hq : Eqv l r) (hE : E ≤ 1024) : Calls Tryz.prog 8 #[.slice A n c, .slice B m d] w (BoolB w true) := by
  obtain ⟨ds, d1, d2, _⟩ := h1
  obtain ⟨es, e1, e2, _⟩ := h2
  exact sameP_true d1 e1 ((d2.trans hq).trans e2.symm) (by omega)

set_option maxHeartbeats 40000000 in
theorem polynomialRing.walk {A : Option Addr} {n c : Nat} {w : World} (hl : Laid w) (hcap : n ≤ c) (htop : c ≤ maxLen) (hI : 0 < n → ∃ ad, A = some ad ∧ IntsAt w ad n (-9223372036854775808) 9223372036854775807) :
    Calls Tryz.prog 3 #[.slice A n c] w (True1 w) := by
  have HNW := Lib.hid (new_any A n c w hcap htop hI)
  have HLW := Lib.hid hl
  clear hI hcap htop hl
  go_enter Tryz.func3, Tryz.ntmps3
  go_wp2_with fail
  refine HNW.out.mono ?_
  rintro e w1 ⟨g0, rfl, hg, hs1, bw1⟩
  clear HNW
  have HS := Lib.hid (srcPoly_r g0 w1 3 4 hs1 (by decide) (by decide))
  have hg1 := hs1.size
  have HG := Lib.hid hg
  have HB := Lib.hid bw1
  clear hg hs1 bw1
  go_wp2_with fail
  refine HS.out.mono ?_
  rintro e w2 ⟨Ap, np, cp, dp, rfl, rowp, lp, hs2, b2⟩
  have HS := Lib.hid (srcPoly_r g0 w2 3 3 hs2 (by decide) (by decide))
  have hg2 := hs2.size
  replace HB : Hid (Below w.heap.size w w2) := HB.out.trans (b2.below HG.out HB.out.size)
  have RP := Lib.hid rowp
  clear hs2 b2 rowp
  go_wp2_with fail
  refine HS.out.mono ?_
  rintro e w3 ⟨Aq, nq, cq, dq, rfl, rowq, lq, hs3, b3⟩
  have HS := Lib.hid (srcPoly_r g0 w3 3 3 hs3 (by decide) (by decide))
  have hg3 := hs3.size
  replace HB : Hid (Below w.heap.size w w3) := HB.out.trans (b3.below HG.out HB.out.size)
  have RQ := Lib.hid rowq
  replace RP := Lib.hid (RP.out.but b3 hg1)
  clear hs3 b3 rowq
  go_wp2_with fail
  refine HS.out.mono ?_
  rintro e w4 ⟨Ar, nr, cr, dr, rfl, rowr, lr, _, b4⟩
  replace HB : Hid (Below w.heap.size w w4) := HB.out.trans (b4.below HG.out HB.out.size)
  have HL := Lib.hid (HLW.out.below HB.out)
  have Hp := Lib.hid (Pol.of_row (RP.out.but b4 hg1) lp (by decide))
  have Hq := Lib.hid (Pol.of_row (RQ.out.but b4 hg2) lq (by decide))
  have Hr := Lib.hid (Pol.of_row rowr lr (by decide))
  obtain ⟨tp, htp⟩ : ∃ l, trms dp = l := ⟨_, rfl⟩
  obtain ⟨tq, htq⟩ : ∃ l, trms dq = l := ⟨_, rfl⟩
  obtain ⟨tr, htr⟩ : ∃ l, trms dr = l := ⟨_, rfl⟩
  rw [htp] at Hp
  rw [htq] at Hq
  rw [htr] at Hr
  clear b4 rowr RP RQ htp htq htr lp lq lr hg1 hg2 hg3 HG HS
  have HC := Lib.hid (mulN HL.out Hp.out Hq.out (K := 457) (by decide) (by decide) (by decide) (by decide) (by decide) (by decide) (by decide) (by decide) (by decide) (by decide) (by decide) (by decide) (by decide))
  go_wp2_with fail
  refine HC.out.mono ?_
  rintro e w5 ⟨Aa, na, ca, rfl, nf, ek⟩
  unfold Two
  replace Hp := Lib.hid (Hp.out.below ek)
  replace Hq := Lib.hid (Hq.out.below ek)
  replace Hr := Lib.hid (Hr.out.below ek)
  have Ha := Lib.hid nf
  replace HB := Lib.hid (nextB HB.out ek)
  replace HL := Lib.hid (HL.out.below ek)
  clear nf ek HC
  have HC := Lib.hid (mulN HL.out Hq.out Hp.out (K := 457) (by decide) (by decide) (by decide) (by decide) (by decide) (by decide) (by decide) (by decide) (by decide) (by decide) (by decide) (by decide) (by decide))
  go_wp2_with fail
  refine HC.out.mono ?_
  rintro e w6 ⟨Ab, nb, cb, rfl, nf, ek⟩
  unfold Two
  replace Hp := Lib.hid (Hp.out.below ek)
  replace Hq := Lib.hid (Hq.out.below ek)
  replace Hr := Lib.hid (Hr.out.below ek)
  replace Ha := Lib.hid (Ha.out.below ek)
  have Hb := Lib.hid nf
  replace HB := Lib.hid (nextB HB.out ek)
  replace HL := Lib.hid (HL.out.below ek)
  clear nf ek HC
  have HC := Lib.hid (sameN Ha.out Hb.out (prods_comm tp tq) (by decide))
  go_wp2_with fail
  refine HC.out.mono ?_
  rintro e w7 ⟨rfl, ek⟩
  clear Hb
  replace Hp := Lib.hid (Hp.out.below ek)
  replace Hq := Lib.hid (Hq.out.below ek)
  replace Hr := Lib.hid (Hr.out.below ek)
  replace Ha := Lib.hid (Ha.out.below ek)
  replace HB := Lib.hid (nextB HB.out ek)
  replace HL := Lib.hid (HL.out.below ek)
  clear ek HC
  have HC := Lib.hid (mulN HL.out Ha.out.pol Hr.out (K := 198505) (by decide) (by decide) (by decide) (by decide) (by decide) (by decide) (by decide) (by decide) (by decide) (by decide) (by decide) (by decide) (by decide))
  go_wp2_with fail
  refine HC.out.mono ?_
  rintro e w8 ⟨AA1, nA1, cA1, rfl, nf, ek⟩
  unfold Two
  replace Hp := Lib.hid (Hp.out.below ek)
  replace Hq := Lib.hid (Hq.out.below ek)
  replace Hr := Lib.hid (Hr.out.below ek)
  replace Ha := Lib.hid (Ha.out.below ek)
  have HA1 := Lib.hid nf
  replace HB := Lib.hid (nextB HB.out ek)
  replace HL := Lib.hid (HL.out.below ek)
  clear nf ek HC
  clear Ha
  have HC := Lib.hid (mulN HL.out Hq.out Hr.out (K := 298) (by decide) (by decide) (by decide) (by decide) (by decide) (by decide) (by decide) (by decide) (by decide) (by decide) (by decide) (by decide) (by decide))
  go_wp2_with fail
  refine HC.out.mono ?_
  rintro e w9 ⟨Ac1, nc1, cc1, rfl, nf, ek⟩
  unfold Two
  replace Hp := Lib.hid (Hp.out.below ek)
  replace Hq := Lib.hid (Hq.out.below ek)
  replace Hr := Lib.hid (Hr.out.below ek)
  replace HA1 := Lib.hid (HA1.out.below ek)
  have Hc1 := Lib.hid nf
  replace HB := Lib.hid (nextB HB.out ek)
  replace HL := Lib.hid (HL.out.below ek)
  clear nf ek HC
  have HC := Lib.hid (mulN HL.out Hp.out Hc1.out.pol (K := 97705) (by decide) (by decide) (by decide) (by decide) (by decide) (by decide) (by decide) (by decide) (by decide) (by decide) (by decide) (by decide) (by decide))
  go_wp2_with fail
  refine HC.out.mono ?_
  rintro e w10 ⟨AB1, nB1, cB1, rfl, nf, ek⟩
  unfold Two
  replace Hp := Lib.hid (Hp.out.below ek)
  replace Hq := Lib.hid (Hq.out.below ek)
  replace Hr := Lib.hid (Hr.out.below ek)
  replace HA1 := Lib.hid (HA1.out.below ek)
  replace Hc1 := Lib.hid (Hc1.out.below ek)
  have HB1 := Lib.hid nf
  replace HB := Lib.hid (nextB HB.out ek)
  replace HL := Lib.hid (HL.out.below ek)
  clear nf ek HC
  clear Hc1
  have HC := Lib.hid (sameN HA1.out HB1.out (prods_assoc tp tq tr) (by decide))
  go_wp2_with fail
  refine HC.out.mono ?_
  rintro e w11 ⟨rfl, ek⟩
  clear HA1
  clear HB1
  replace Hp := Lib.hid (Hp.out.below ek)
  replace Hq := Lib.hid (Hq.out.below ek)
  replace Hr := Lib.hid (Hr.out.below ek)
  replace HB := Lib.hid (nextB HB.out ek)
  replace HL := Lib.hid (HL.out.below ek)
  clear ek HC
  have HC := Lib.hid (addN HL.out Hq.out Hr.out (K := 31) (by decide) (by decide) (by decide) (by decide) (by decide) (by decide))
  go_wp2_with fail
  refine HC.out.mono ?_
  rintro e w12 ⟨Ax, nx, cx, rfl, nf, ek⟩
  unfold Two
  replace Hp := Lib.hid (Hp.out.below ek)
  replace Hq := Lib.hid (Hq.out.below ek)
  replace Hr := Lib.hid (Hr.out.below ek)
  have Hx := Lib.hid nf
  replace HB := Lib.hid (nextB HB.out ek)
  replace HL := Lib.hid (HL.out.below ek)
  clear nf ek HC
  have HC := Lib.hid (mulN HL.out Hp.out Hx.out.pol (K := 5161) (by decide) (by decide) (by decide) (by decide) (by decide) (by decide) (by decide) (by decide) (by decide) (by decide) (by decide) (by decide) (by decide))
  go_wp2_with fail
  refine HC.out.mono ?_
  rintro e w13 ⟨Am, nm, cm, rfl, nf, ek⟩
  unfold Two
  replace Hp := Lib.hid (Hp.out.below ek)
  replace Hq := Lib.hid (Hq.out.below ek)
  replace Hr := Lib.hid (Hr.out.below ek)
  replace Hx := Lib.hid (Hx.out.below ek)
  have Hm := Lib.hid nf
  replace HB := Lib.hid (nextB HB.out ek)
  replace HL := Lib.hid (HL.out.below ek)
  clear nf ek HC
  have HC := Lib.hid (mulN HL.out Hp.out Hq.out (K := 457) (by decide) (by decide) (by decide) (by decide) (by decide) (by decide) (by decide) (by decide) (by decide) (by decide) (by decide) (by decide) (by decide))
  go_wp2_with fail
  refine HC.out.mono ?_
  rintro e w14 ⟨Au, nu, cu, rfl, nf, ek⟩
  unfold Two
  replace Hp := Lib.hid (Hp.out.below ek)
  replace Hq := Lib.hid (Hq.out.below ek)
  replace Hr := Lib.hid (Hr.out.below ek)
  replace Hx := Lib.hid (Hx.out.below ek)
  replace Hm := Lib.hid (Hm.out.below ek)
  have Hu := Lib.hid nf
  replace HB := Lib.hid (nextB HB.out ek)
  replace HL := Lib.hid (HL.out.below ek)
  clear nf ek HC
  have HC := Lib.hid (mulN HL.out Hp.out Hr.out (K := 457) (by decide) (by decide) (by decide) (by decide) (by decide) (by decide) (by decide) (by decide) (by decide) (by decide) (by decide) (by decide) (by decide))
  go_wp2_with fail
  refine HC.out.mono ?_
  rintro e w15 ⟨Av, nv, cv, rfl, nf, ek⟩
  unfold Two
  replace Hp := Lib.hid (Hp.out.below ek)
  replace Hq := Lib.hid (Hq.out.below ek)
  replace Hr := Lib.hid (Hr.out.below ek)
  replace Hx := Lib.hid (Hx.out.below ek)
  replace Hm := Lib.hid (Hm.out.below ek)
  replace Hu := Lib.hid (Hu.out.below ek)
  have Hv := Lib.hid nf
  replace HB := Lib.hid (nextB HB.out ek)
  replace HL := Lib.hid (HL.out.below ek)
  clear nf ek HC
  have HC := Lib.hid (addN HL.out Hu.out.pol Hv.out.pol (K := 10993) (by decide) (by decide) (by decide) (by decide) (by decide) (by decide))
  go_wp2_with fail
  refine HC.out.mono ?_
  rintro e w16 ⟨As, ns, cs, rfl, nf, ek⟩
  unfold Two
  replace Hp := Lib.hid (Hp.out.below ek)
  replace Hq := Lib.hid (Hq.out.below ek)
  replace Hr := Lib.hid (Hr.out.below ek)
  replace Hx := Lib.hid (Hx.out.below ek)
  replace Hm := Lib.hid (Hm.out.below ek)
  replace Hu := Lib.hid (Hu.out.below ek)
  replace Hv := Lib.hid (Hv.out.below ek)
  have Hs := Lib.hid nf
  replace HB := Lib.hid (nextB HB.out ek)
  replace HL := Lib.hid (HL.out.below ek)
  clear nf ek HC
  clear Hu
  clear Hv
  have HC := Lib.hid (subN HL.out Hx.out.pol (Hr.out.le (show 4 ≤ 31 by decide) (show (2 : Int) ≤ 2 by decide)) (K := 289) (by decide) (by decide) (by decide) (by decide) (by decide) (by decide))
  go_wp2_with fail
  refine HC.out.mono ?_
  rintro e w17 ⟨Ad, nd, cd, rfl, nf, ek⟩
  unfold Two
  replace Hp := Lib.hid (Hp.out.below ek)
  replace Hq := Lib.hid (Hq.out.below ek)
  replace Hr := Lib.hid (Hr.out.below ek)
  replace Hx := Lib.hid (Hx.out.below ek)
  replace Hm := Lib.hid (Hm.out.below ek)
  replace Hs := Lib.hid (Hs.out.below ek)
  have Hd := Lib.hid nf
  replace HB := Lib.hid (nextB HB.out ek)
  replace HL := Lib.hid (HL.out.below ek)
  clear nf ek HC
  clear Hx
  have HC := Lib.hid (normN HL.out Hq.out (K := 16) (by decide) (by decide) (by decide) (by decide) (by decide) (by decide))
  go_wp2_with fail
  refine HC.out.mono ?_
  rintro e w18 ⟨Ak, nk, ck, rfl, nf, ek⟩
  unfold Two
  replace Hp := Lib.hid (Hp.out.below ek)
  replace Hq := Lib.hid (Hq.out.below ek)
  replace Hr := Lib.hid (Hr.out.below ek)
  replace Hm := Lib.hid (Hm.out.below ek)
  replace Hs := Lib.hid (Hs.out.below ek)
  replace Hd := Lib.hid (Hd.out.below ek)
  have Hk := Lib.hid nf
  replace HB := Lib.hid (nextB HB.out ek)
  replace HL := Lib.hid (HL.out.below ek)
  clear nf ek HC
  have HC := Lib.hid (sameN Hm.out Hs.out (prods_append tp tq tr) (by decide))
  go_wp2_with fail
  refine HC.out.mono ?_
  rintro e w19 ⟨rfl, ek⟩
  clear Hm
  clear Hs
  replace Hp := Lib.hid (Hp.out.below ek)
  replace Hq := Lib.hid (Hq.out.below ek)
  replace Hr := Lib.hid (Hr.out.below ek)
  replace Hd := Lib.hid (Hd.out.below ek)
  replace Hk := Lib.hid (Hk.out.below ek)
  replace HB := Lib.hid (nextB HB.out ek)
  replace HL := Lib.hid (HL.out.below ek)
  clear ek HC
  have HC := Lib.hid (sameN Hd.out Hk.out (add_sub tq tr) (by decide))
  go_wp2_with fail
  refine HC.out.mono ?_
  rintro e w20 ⟨rfl, ek⟩
  clear Hd
  clear Hk
  replace Hp := Lib.hid (Hp.out.below ek)
  replace Hq := Lib.hid (Hq.out.below ek)
  replace Hr := Lib.hid (Hr.out.below ek)
  replace HB := Lib.hid (nextB HB.out ek)
  replace HL := Lib.hid (HL.out.below ek)
  clear ek HC
  have HC := Lib.hid (awake3 HL.out)
  go_wp2_with fail
  refine HC.out.mono ?_
  rintro e wz ⟨rfl, ek⟩
  replace HB := Lib.hid (nextB HB.out ek)
  clear ek HC HL
  go_wp2
  go_ret
  exact ⟨rfl, HB.out⟩
end Go.Proofs.YtebbnmjmjoklmaaGreatDoor
