/-
  The reference's Zero, Flatten, Unflatten, Compare of any types and values: the error that comes first, or the result.
-/
import Derived.Test.YtklndjkblfncjaaGreatDoorRefB7
import Derived.Test.YtklndjkblfncjaaGreatDoorTop7
namespace Go.Proofs.YtklndjkblfncjaaGreatDoor
open Go Go.RowKit
set_option maxRecDepth 20000

set_option maxHeartbeats 4000000 in
theorem RZero_x (S : Nat → Prop) (d : Nat) (T : Ty) (A : Option Addr) (n c : Nat) (w : World) (h : TyRd S w d T A n c) (hg : Good d T) (hk : T.k ≠ 4) :
    Calls Tryz.prog 20 #[tyV T A n c] w (GivesVlOk d (vzero d T) w) := by
  obtain ⟨v, hv⟩ : ∃ v, (w.alloc (.cells #[.int .i64 T.k, .int .i64 T.lo, .int .i64 T.hi, .int .i64 T.mx, .slice A n c] 24)).alloc (.cells #[.int .i64 0, .slice none 0 0] 27) = v := ⟨_, rfl⟩
  obtain ⟨hvs, hwv, hbx⟩ := boxes_tv w _ _ _ _ _ _ _ _ _ v hv
  have HF := Lib.hid (typed_x S d T A n c v (h.below hwv) hg hk)
  have HZ : Hid (∀ W, Below v.heap.size v W → Calls Tryz.prog 40 #[tyV T A n c] W (GivesVl d (vzero d T) W)) := fun W hW => rzero_x d S T A n c W (h.below (nextB hwv hW)) hg.ok
  have HBX := Lib.hid hbx
  have HVV := Lib.hid hv
  have HWV := Lib.hid hwv
  have HVS := Lib.hid hvs
  clear h hg hk hv hbx hwv hvs
  go_enter Tryz.func20, Tryz.ntmps20
  go_wp2_with fail
  rw [HVV.out]
  refine HF.out.mono ?_
  rintro e1 w1 ⟨rfl, hb⟩
  obtain ⟨⟨p0, p1, p2, p3, p4⟩, _⟩ := HBX.out w1 hb
  have HZ1 := Lib.hid (HZ.out w1 hb)
  clear HF HZ
  go_wp2_with fail
  refine HZ1.out.mono ?_
  rintro e2 w2 ⟨B, m, q, rfl, hr, hb2⟩
  have hB2 := nextB hb hb2
  obtain ⟨_, r0, r1, f0, f1⟩ := HBX.out w2 hB2
  have hs1 := hb.size
  have hset : ∀ y0 y1, VlRd (fun b => w1.heap.size ≤ b) ((w2.setCell ⟨w.heap.size + 1, 0, none⟩ y0).setCell ⟨w.heap.size + 1, 1, none⟩ y1) d (vzero d T) B m q := fun y0 y1 => (hr.set (fun x hx => by have := HVS.out; omega)).set (fun x hx => by have := HVS.out; omega)
  have HSET := Lib.hid hset
  have HFB := Lib.hid ((((nextB HWV.out hB2)).setCell (p := ⟨w.heap.size + 1, 0, none⟩) (by simp) (.int .i64 (vzero d T).i)).setCell (p := ⟨w.heap.size + 1, 1, none⟩) (by simp) (.slice B m q))
  clear hr hb hb2 hB2 hset HZ1 HBX p0 p1 p2 p3 p4
  go_wp2
  refine bodyPost_ret (v := .tuple #[vlV (vzero d T) B m q, .int .i64 0]) (by simp [results, Tryz.results20, go_sem, r0, r1]) rfl ⟨B, m, q, rfl, ?_, HFB.out⟩
  exact (HSET.out _ _).in fun b hb => by have := HVS.out; omega
set_option maxHeartbeats 4000000 in
theorem RZero_bad (S : Nat → Prop) (d : Nat) (hd : d ≤ 10) (T : Ty) (A : Option Addr) (n c : Nat) (w : World) (h : TyRd S w d T A n c) (hne : tyErr d T ≠ 0) :
    Calls Tryz.prog 20 #[tyV T A n c] w fun e w' => e = .returned (.tuple #[vlV (.mk 0 []) none 0 0, .int .i64 (tyErr d T)]) ∧ Below w.heap.size w w' := by
  obtain ⟨v, hv⟩ : ∃ v, (w.alloc (.cells #[.int .i64 T.k, .int .i64 T.lo, .int .i64 T.hi, .int .i64 T.mx, .slice A n c] 24)).alloc (.cells #[.int .i64 0, .slice none 0 0] 27) = v := ⟨_, rfl⟩
  obtain ⟨hvs, hwv, hbx⟩ := boxes_tv w _ _ _ _ _ _ _ _ _ v hv
  have HF := Lib.hid (typed_e S d hd T A n c v (h.below hwv))
  obtain ⟨x, hx⟩ : ∃ x, tyErr d T = x := ⟨_, rfl⟩
  rw [hx] at HF hne ⊢
  have bx : (x != 0) = true := by simpa using hne
  have HBX := Lib.hid hbx
  have HVV := Lib.hid hv
  have HWV := Lib.hid hwv
  clear h hv hbx hwv hvs hx hne
  go_enter Tryz.func20, Tryz.ntmps20
  go_wp2_with fail
  rw [HVV.out]
  refine HF.out.mono ?_
  rintro e1 w1 ⟨rfl, hb⟩
  obtain ⟨_, r0, r1, f0, f1⟩ := HBX.out w1 hb
  have HWB := Lib.hid (nextB HWV.out hb)
  have HBB : Hid (∀ z0 z1, Below w.heap.size w ((w1.setCell ⟨w.heap.size + 1, 0, none⟩ z0).setCell ⟨w.heap.size + 1, 1, none⟩ z1)) := fun z0 z1 => (HWB.out.setCell (p := ⟨w.heap.size + 1, 0, none⟩) (by simp) z0).setCell (p := ⟨w.heap.size + 1, 1, none⟩) (by simp) z1
  clear HF hb HBX
  go_wp2
  refine bodyPost_ret (v := .tuple #[vlV (.mk 0 []) none 0 0, .int .i64 x]) (by simp [results, Tryz.results20, go_sem, r0, r1, Vl.i]) rfl ⟨rfl, ?_⟩
  first | exact HBB.out _ _ | exact HWB.out | exact HBB.out (.int .i64 0) (.slice none 0 0)

set_option maxHeartbeats 4000000 in
theorem RFlatten_x (S : Nat → Prop) (d : Nat) (T : Ty) (A : Option Addr) (n c : Nat) (w : World) (h : TyRd S w d T A n c) (hg : Good d T) (hk : T.k ≠ 4) (S' : Nat → Prop) (d' : Nat) (V : Vl) (B : Option Addr) (m q : Nat) (hv : VlRd S' w d' V B m q) (hr3 : T.k = 3 → V.i ≤ 9223372036854775807) (hve : verr d T V = 0) (hlen : (vflat d T V).length ≤ 1000) :
    Calls Tryz.prog 14 #[tyV T A n c, vlV V B m q] w (OutInts 0 (vflat d T V) w) := by
  obtain ⟨v, hvv⟩ : ∃ v, (w.alloc (.cells #[.int .i64 T.k, .int .i64 T.lo, .int .i64 T.hi, .int .i64 T.mx, .slice A n c] 24)).alloc (.cells #[.int .i64 V.i, .slice B m q] 27) = v := ⟨_, rfl⟩
  obtain ⟨hvs, hwv, hbx⟩ := boxes_tv w _ _ _ _ _ _ _ _ _ v hvv
  have hCk := refCheck_h S d hg.deep T A n c v (h.below hwv) S' d' V B m q (hv.below hwv) hr3
  rw [ckErr_good hg hk, hve] at hCk
  have HF := Lib.hid hCk
  have HC : Hid (∀ W, Below v.heap.size v W → Calls Tryz.prog 31 #[tyV T A n c, vlV V B m q] W (GivesNew (vflat d T V) W)) := fun W hW => flat_x d S T A n c S' d' V B m q W (h.below (nextB hwv hW)) hg.ok (hv.below (nextB hwv hW)) hve hlen
  have HBX := Lib.hid hbx
  have HVV := Lib.hid hvv
  have HWV := Lib.hid hwv
  clear h hg hk hv hvv hbx hwv hvs hCk hve hlen hr3
  go_enter Tryz.func14, Tryz.ntmps14
  go_wp2_with fail
  rw [HVV.out]
  refine HF.out.mono ?_
  rintro e1 w1 ⟨rfl, hb⟩
  obtain ⟨⟨p0, p1, p2, p3, p4⟩, r0, r1, f0, f1⟩ := HBX.out w1 hb
  have HC1 := Lib.hid (HC.out w1 hb)
  clear HF HC
  go_wp2_with fail
  refine HC1.out.mono ?_
  rintro e2 w2 ⟨Q, nq, qq, rfl, hO, hb2⟩
  have hB := nextB HWV.out (nextB hb hb2)
  clear hb HC1 HBX p0 p1 p2 p3 p4 r0 r1 f0 f1 hb2
  go_wp2
  go_ret2
  exact ⟨_, _, _, rfl, hO.own, hB⟩

set_option maxHeartbeats 4000000 in
theorem RFlatten_bad (S : Nat → Prop) (d : Nat) (hd : d ≤ 10) (T : Ty) (A : Option Addr) (n c : Nat) (w : World) (h : TyRd S w d T A n c) (S' : Nat → Prop) (d' : Nat) (V : Vl) (B : Option Addr) (m q : Nat) (hv : VlRd S' w d' V B m q) (hr3 : T.k = 3 → V.i ≤ 9223372036854775807) (hne : ckErr d T V ≠ 0) :
    Calls Tryz.prog 14 #[tyV T A n c, vlV V B m q] w fun e w' => e = .returned (.tuple #[.slice none 0 0, .int .i64 (ckErr d T V)]) ∧ Below w.heap.size w w' := by
  obtain ⟨v, hvv⟩ : ∃ v, (w.alloc (.cells #[.int .i64 T.k, .int .i64 T.lo, .int .i64 T.hi, .int .i64 T.mx, .slice A n c] 24)).alloc (.cells #[.int .i64 V.i, .slice B m q] 27) = v := ⟨_, rfl⟩
  obtain ⟨hvs, hwv, hbx⟩ := boxes_tv w _ _ _ _ _ _ _ _ _ v hvv
  have HF := Lib.hid (refCheck_h S d hd T A n c v (h.below hwv) S' d' V B m q (hv.below hwv) hr3)
  obtain ⟨x, hx⟩ : ∃ x, ckErr d T V = x := ⟨_, rfl⟩
  rw [hx] at HF hne ⊢
  have bx : (x != 0) = true := by simpa using hne
  have HVV := Lib.hid hvv
  have HWV := Lib.hid hwv
  clear h hv hvv hbx hwv hvs hx hne
  go_enter Tryz.func14, Tryz.ntmps14
  go_wp2_with fail
  rw [HVV.out]
  refine HF.out.mono ?_
  rintro e1 w1 ⟨rfl, hb⟩
  have HWB := Lib.hid (nextB HWV.out hb)
  clear HF hb
  go_wp2
  go_ret2
  exact ⟨rfl, HWB.out⟩

theorem RZero_e (S : Nat → Prop) (d : Nat) (hd : d ≤ 10) (T : Ty) (A : Option Addr) (n c : Nat) (w : World) (h : TyRd S w d T A n c) : Calls Tryz.prog 20 #[tyV T A n c] w (OutVl (tyErr d T) d (vzero d T) w) := by
  by_cases h0 : tyErr d T = 0
  · rw [h0]
    obtain ⟨hg, hk⟩ := tyErr_good h0 hd
    exact (RZero_x S d T A n c w h hg hk).mono fun e w' h => OutVl.ok h
  · exact (RZero_bad S d hd T A n c w h h0).mono fun e w' h => OutVl.bad h0 h
theorem RFlatten_e (S : Nat → Prop) (d : Nat) (hd : d ≤ 10) (T : Ty) (A : Option Addr) (n c : Nat) (w : World) (h : TyRd S w d T A n c) (S' : Nat → Prop) (d' : Nat) (V : Vl) (B : Option Addr) (m q : Nat) (hv : VlRd S' w d' V B m q) (hr3 : T.k = 3 → V.i ≤ 9223372036854775807) :
    Calls Tryz.prog 14 #[tyV T A n c, vlV V B m q] w (OutInts (ckErr d T V) (vflat d T V) w) := by
  by_cases h0 : ckErr d T V = 0
  · rw [h0]
    obtain ⟨h1, h2⟩ := ckErr_zero h0
    obtain ⟨hg, hk⟩ := tyErr_good h1 hd
    exact RFlatten_x S d T A n c w h hg hk S' d' V B m q hv hr3 h2 (Nat.le_trans (flat_small h hg h2) (by decide))
  · exact (RFlatten_bad S d hd T A n c w h S' d' V B m q hv hr3 h0).mono fun e w' h => OutInts.bad h0 h

set_option maxHeartbeats 4000000 in
theorem RUnflatten_ty (S : Nat → Prop) (d : Nat) (hd : d ≤ 10) (T : Ty) (A : Option Addr) (n c : Nat) (w : World) (h : TyRd S w d T A n c) (Q : Option Addr) (nq qq : Nat) (hne : tyErr d T ≠ 0) :
    Calls Tryz.prog 24 #[tyV T A n c, .slice Q nq qq] w fun e w' => e = .returned (.tuple #[vlV (.mk 0 []) none 0 0, .int .i64 (tyErr d T)]) ∧ Below w.heap.size w w' := by
  obtain ⟨v, hv⟩ : ∃ v, (w.alloc (.cells #[.int .i64 T.k, .int .i64 T.lo, .int .i64 T.hi, .int .i64 T.mx, .slice A n c] 24)).alloc (.cells #[.int .i64 0, .slice none 0 0] 27) = v := ⟨_, rfl⟩
  obtain ⟨hvs, hwv, hbx⟩ := boxes_tv w _ _ _ _ _ _ _ _ _ v hv
  have HF := Lib.hid (typed_e S d hd T A n c v (h.below hwv))
  obtain ⟨x, hx⟩ : ∃ x, tyErr d T = x := ⟨_, rfl⟩
  rw [hx] at HF hne ⊢
  have bx : (x != 0) = true := by simpa using hne
  have HBX := Lib.hid hbx
  have HVV := Lib.hid hv
  have HWV := Lib.hid hwv
  clear h hv hbx hwv hvs hx hne
  go_enter Tryz.func24, Tryz.ntmps24
  go_wp2_with fail
  rw [HVV.out]
  refine HF.out.mono ?_
  rintro e1 w1 ⟨rfl, hb⟩
  obtain ⟨_, r0, r1, f0, f1⟩ := HBX.out w1 hb
  have HWB := Lib.hid (nextB HWV.out hb)
  have HBB : Hid (∀ z0 z1, Below w.heap.size w ((w1.setCell ⟨w.heap.size + 1, 0, none⟩ z0).setCell ⟨w.heap.size + 1, 1, none⟩ z1)) := fun z0 z1 => (HWB.out.setCell (p := ⟨w.heap.size + 1, 0, none⟩) (by simp) z0).setCell (p := ⟨w.heap.size + 1, 1, none⟩) (by simp) z1
  clear HF hb HBX
  go_wp2
  refine bodyPost_ret (v := .tuple #[vlV (.mk 0 []) none 0 0, .int .i64 x]) (by simp [results, Tryz.results24, go_sem, r0, r1, Vl.i]) rfl ⟨rfl, ?_⟩
  first | exact HBB.out _ _ | exact HWB.out | exact HBB.out (.int .i64 0) (.slice none 0 0)

set_option maxHeartbeats 8000000 in
theorem RUnflatten_x (S : Nat → Prop) (d : Nat) (T : Ty) (A : Option Addr) (n c : Nat) (w : World) (h : TyRd S w d T A n c) (hg : Good d T) (hk : T.k ≠ 4) (Q : Option Addr) (nq qq : Nat) (L : List Int) (hr : IntRd w.heap.size w Q nq qq L) (hr3 : ∀ x ∈ L, x ≤ 9223372036854775807) (X : Int)
    (hX : X = if L.length ≠ twidth d T then 2 else if verr d T (vval d T L) ≠ 0 then 2 else if vflat d T (vval d T L) ≠ L then 2 else 0) :
    Calls Tryz.prog 24 #[tyV T A n c, .slice Q nq qq] w (OutVl X d (vval d T L) w) := by
  obtain ⟨v, hvv⟩ : ∃ v, (w.alloc (.cells #[.int .i64 T.k, .int .i64 T.lo, .int .i64 T.hi, .int .i64 T.mx, .slice A n c] 24)).alloc (.cells #[.int .i64 0, .slice none 0 0] 27) = v := ⟨_, rfl⟩
  obtain ⟨hvs, hwv, hbx⟩ := boxes_tv w _ _ _ _ _ _ _ _ _ v hvv
  have HF := Lib.hid (typed_x S d T A n c v (h.below hwv) hg hk)
  have HT : ∀ W, Below v.heap.size v W → TyRd S W d T A n c := fun W hW => h.below (nextB hwv hW)
  have HQ : ∀ W, Below v.heap.size v W → IntRd w.heap.size W Q nq qq L := fun W hW => hr.below (nextB hwv hW) (Nat.le_refl _)
  have hpl := parts_width d T h.deep hg.ok
  have HP : Hid (∀ W, Below v.heap.size v W → Calls Tryz.prog 42 #[tyV T A n c] W (GivesCs (tparts d T) W)) := fun W hW => parts_x d S T A n c W (HT W hW) hg.ok (Nat.le_trans hg.wide (by decide))
  have hnq := hr.len
  obtain ⟨z, hz⟩ : ∃ z, twidth d T = z := ⟨_, rfl⟩
  have HB : Hid (z ≤ nq → ∀ W, Below v.heap.size v W → Calls Tryz.prog 43 #[tyV T A n c, .slice Q nq qq] W (GivesRead w.heap.size d (vval d T L) (L.drop z) W)) := fun hzn W hW => by
    have := build_x d w.heap.size S T A n c Q nq qq L W (HT W hW) hg.ok (nextB hwv hW).size (HQ W hW) (by omega)
    rwa [hz] at this
  have hi3 : T.k = 3 → (vval d T L).i ≤ 9223372036854775807 := by
    intro h3
    cases d with
    | zero => exact h.elim
    | succ d =>
      simp only [vval, if_neg (show ¬ T.k = 5 by omega), if_neg (show ¬ T.k = 6 by omega), Vl.i]
      cases L with
      | nil => show (0 : Int) ≤ _; decide
      | cons x L => exact hr3 x List.mem_cons_self
  obtain ⟨V, hV⟩ : ∃ V, vval d T L = V := ⟨_, rfl⟩
  rw [hV] at HB hX hi3 ⊢
  have HWR : Hid (∀ W, Below v.heap.size v W → ∀ B m q (S' : Nat → Prop), VlRd S' W d V B m q → Calls Tryz.prog 41 #[tyV T A n c, vlV V B m q] W (FaultIs (verr d T V) W)) := fun W hW B m q S' hv => rwrong_x d S T A n c W (HT W hW) hg.ok hk S' d V B m q hv hi3
  have HFL : Hid (verr d T V = 0 → ∀ W, Below v.heap.size v W → ∀ B m q (S' : Nat → Prop), VlRd S' W d V B m q → Calls Tryz.prog 31 #[tyV T A n c, vlV V B m q] W (GivesNew (vflat d T V) W)) := fun h0 W hW B m q S' hv => flat_x d S T A n c S' d V B m q W (HT W hW) hg.ok hv h0 (Nat.le_trans (flat_small h hg h0) (by decide))
  have HSM : Hid (∀ W, Below v.heap.size v W → ∀ Q' n' q', IntOwn W Q' n' q' (vflat d T V) → Calls Tryz.prog 18 #[.slice Q' n' q', .slice Q nq qq] W fun e w' => e = .returned (.bool (decide (vflat d T V = L))) ∧ Below W.heap.size W w') := fun W hW Q' n' q' hO =>
    same_ints2 W.heap.size Q' Q n' q' nq qq _ _ W (Nat.le_refl _) (hO.rd fun a ha => (row_lt hO.row a ha).2) (by
      have h1 := HQ W hW
      exact ⟨h1.len, h1.cap, h1.top, fun hn => by
        obtain ⟨g, o, e, hg, hat⟩ := h1.at_ hn
        exact ⟨g, o, e, Nat.lt_of_lt_of_le hg (nextB hwv hW).size, hat⟩⟩)
  rw [hz] at hX hpl
  rw [hnq] at hX
  obtain ⟨y, hy⟩ : ∃ y, verr d T V = y := ⟨_, rfl⟩
  rw [hy] at hX HWR HFL
  generalize tparts d T = ps at HP hpl
  generalize vflat d T V = l at *
  have HX := Lib.hid hX
  have HPL := Lib.hid hpl
  have HBX := Lib.hid hbx
  have HVV := Lib.hid hvv
  have HWV := Lib.hid hwv
  have HVS := Lib.hid hvs
  have HD0 : Hid (0 < d) := by
    show 0 < d
    cases d with
    | zero => exact h.elim
    | succ d => omega
  clear h hg hk hvv hbx hwv hvs hV HT HQ hr hr3 hnq hz hy hX hpl hi3
  generalize L.drop z = L0 at HB
  go_enter Tryz.func24, Tryz.ntmps24
  go_wp2_with fail
  rw [HVV.out]
  refine HF.out.mono ?_
  rintro e1 w1 ⟨rfl, hb1⟩
  obtain ⟨⟨p0, p1, p2, p3, p4⟩, _⟩ := HBX.out w1 hb1
  have HP1 := Lib.hid (HP.out w1 hb1)
  clear HF HP
  go_wp2_with fail
  refine HP1.out.mono ?_
  rintro e2 w2 ⟨B2, m2, q2, rfl, hO2, hb2⟩
  have hk2 := nextB hb1 hb2
  have hmz : m2 = z := by have := hO2.len; have := HPL.out; omega
  subst hmz
  clear p0 p1 p2 p3 p4 HP1 hb1 hb2 hO2
  obtain ⟨⟨p0, p1, p2, p3, p4⟩, r0, r1, f0, f1⟩ := HBX.out w2 hk2
  by_cases hlen : nq = m2
  · have bn : ((nq : Int) != (m2 : Int)) = false := by simp; omega
    have hX := HX.out
    rw [if_neg (by simpa using hlen)] at hX
    have HX1 := Lib.hid hX
    have HB2 := Lib.hid (HB.out (by omega) w2 hk2)
    clear hX HX HB hlen
    go_wp2_with fail
    refine HB2.out.mono ?_
    rintro e3 w3 ⟨B, m, q, Q3, n3, k3, rfl, hV3, _, hb3⟩
    have hk3 := nextB hk2 hb3
    obtain ⟨u, hu⟩ : ∃ u, w3.alloc (.cells #[.int .i64 V.i, .slice B m q] 27) = u := ⟨_, rfl⟩
    have h3u : Below w3.heap.size w3 u := hu ▸ allocB _ _
    have hku := nextB hk3 h3u
    have hbu : Box2 u w3.heap.size (.int .i64 V.i) (.slice B m q) := hu ▸ box2_new _ _ _ _
    have hsu : w3.heap.size < u.heap.size := World.block_lt_of_cell? u _ hbu.1
    have HVU := Lib.hid (hV3.below h3u)
    have HBU := Lib.hid hbu
    have HV1 := Lib.hid (HWR.out u hku _ _ _ _ HVU.out)
    have hs2 := hk2.size
    have hs3 := hb3.size
    have HKU := Lib.hid hku
    have HSU := Lib.hid hsu
    obtain ⟨y0, y1, _, _⟩ := hbu
    clear p0 p1 p2 p3 p4 r0 r1 f0 f1 HB2 hb3 hV3 HWR
    obtain ⟨⟨p0, p1, p2, p3, p4⟩, r0, r1, f0, f1⟩ := HBX.out u hku
    clear hku hsu h3u
    subst hu
    go_wp2_with fail
    refine HV1.out.mono ?_
    rintro e4 w4 ⟨rfl, hb4⟩
    have hk4 := nextB HKU.out hb4
    have HV4 := Lib.hid (HVU.out.below hb4)
    have HB4 := Lib.hid (HBU.out.below hb4 HSU.out)
    have hs4 : w3.heap.size < w4.heap.size := Nat.lt_of_lt_of_le HSU.out hb4.size
    clear p0 p1 p2 p3 p4 r0 r1 f0 f1 y0 y1 HV1 hb4 HVU HBU HSU HKU
    obtain ⟨⟨p0, p1, p2, p3, p4⟩, r0, r1, f0, f1⟩ := HBX.out w4 hk4
    obtain ⟨y0, y1, _, _⟩ := HB4.out
    by_cases hy0 : y = 0
    · subst hy0
      have hX := HX1.out
      rw [if_neg (by decide)] at hX
      have HX2 := Lib.hid hX
      have HF4 := Lib.hid (HFL.out rfl w4 hk4 _ _ _ _ HV4.out)
      clear hX HX1 HFL
      go_wp2_with fail
      refine HF4.out.mono ?_
      rintro e5 w5 ⟨Q5, n5, q5, rfl, hO5, hb5⟩
      have hk5 := nextB hk4 hb5
      have HV5 := Lib.hid (HV4.out.below hb5)
      have HB5 := Lib.hid (HB4.out.below hb5 hs4)
      have hs5 : w3.heap.size < w5.heap.size := Nat.lt_of_lt_of_le hs4 hb5.size
      have HE5 := Lib.hid (HSM.out w5 hk5 _ _ _ hO5.own)
      clear p0 p1 p2 p3 p4 r0 r1 f0 f1 y0 y1 HF4 hb5 hO5 HV4 HB4 HSM hs4
      go_wp2_with fail
      refine HE5.out.mono ?_
      rintro e6 w6 ⟨rfl, hb6⟩
      have hk6 := nextB hk5 hb6
      have HV6 := Lib.hid (HV5.out.below hb6)
      have hB6 := HB5.out.below hb6 hs5
      obtain ⟨_, r0, r1, f0, f1⟩ := HBX.out w6 hk6
      obtain ⟨y0, y1, _, _⟩ := hB6
      have hvs6 := hk6.size
      have HWB := Lib.hid (nextB HWV.out hk6)
      have HBB : Hid (∀ z0 z1, Below w.heap.size w ((w6.setCell ⟨w.heap.size + 1, 0, none⟩ z0).setCell ⟨w.heap.size + 1, 1, none⟩ z1)) := fun z0 z1 => (HWB.out.setCell (p := ⟨w.heap.size + 1, 0, none⟩) (by simp) z0).setCell (p := ⟨w.heap.size + 1, 1, none⟩) (by simp) z1
      have HVE : Hid (∀ z0 z1, VlRd (fun b => w.heap.size ≤ b) ((w6.setCell ⟨w.heap.size + 1, 0, none⟩ z0).setCell ⟨w.heap.size + 1, 1, none⟩ z1) d V B m q) := fun z0 z1 => ((HV6.out.set (fun z hz => by have := HVS.out; omega)).set (fun z hz => by have := HVS.out; omega)).in fun b hb => by have := HVS.out; omega
      clear HE5 HB5 HV5 hb6 hk5 hk4 hk3 hk2
      by_cases hlL : l = L
      · have hd : decide (l = L) = true := by simpa using hlL
        have hX : X = 0 := by rw [HX2.out, if_neg (by simpa using hlL)]
        subst hX
        rw [hd]
        clear hd
        go_wp2
        exact bodyPost_ret (v := .tuple #[vlV V B m q, .int .i64 0]) (by simp [results, Tryz.results24, go_sem, r0, r1]) rfl (OutVl.ok ⟨B, m, q, rfl, HVE.out _ _, HBB.out _ _⟩)
      · have hd : decide (l = L) = false := by simpa using hlL
        have hX : X = 2 := by rw [HX2.out, if_pos (by simpa using hlL)]
        subst hX
        rw [hd]
        clear hd
        go_wp2
        refine bodyPost_ret (v := .tuple #[vlV (.mk 0 []) none 0 0, .int .i64 2]) (by simp [results, Tryz.results24, go_sem, r0, r1, Vl.i]) rfl (OutVl.bad (by decide) ⟨rfl, ?_⟩)
        first | exact HBB.out _ _ | exact HWB.out | exact HBB.out (.int .i64 0) (.slice none 0 0)
    · have bv : (y != 0) = true := by simpa using hy0
      have hX : X = 2 := by rw [HX1.out, if_pos hy0]
      subst hX
      have HWB := Lib.hid (nextB HWV.out hk4)
      have HBB : Hid (∀ z0 z1, Below w.heap.size w ((w4.setCell ⟨w.heap.size + 1, 0, none⟩ z0).setCell ⟨w.heap.size + 1, 1, none⟩ z1)) := fun z0 z1 => (HWB.out.setCell (p := ⟨w.heap.size + 1, 0, none⟩) (by simp) z0).setCell (p := ⟨w.heap.size + 1, 1, none⟩) (by simp) z1
      clear hy0 HX1 HFL HSM hk4 hk3 hk2
      go_wp2
      refine bodyPost_ret (v := .tuple #[vlV (.mk 0 []) none 0 0, .int .i64 2]) (by simp [results, Tryz.results24, go_sem, r0, r1, Vl.i]) rfl (OutVl.bad (by decide) ⟨rfl, ?_⟩)
      first | exact HBB.out _ _ | exact HWB.out | exact HBB.out (.int .i64 0) (.slice none 0 0)
  · have bn : ((nq : Int) != (m2 : Int)) = true := by simp; omega
    have hX : X = 2 := by rw [HX.out, if_pos hlen]
    subst hX
    have HWB := Lib.hid (nextB HWV.out hk2)
    have HBB : Hid (∀ z0 z1, Below w.heap.size w ((w2.setCell ⟨w.heap.size + 1, 0, none⟩ z0).setCell ⟨w.heap.size + 1, 1, none⟩ z1)) := fun z0 z1 => (HWB.out.setCell (p := ⟨w.heap.size + 1, 0, none⟩) (by simp) z0).setCell (p := ⟨w.heap.size + 1, 1, none⟩) (by simp) z1
    clear hlen HX HB HFL HSM HWR hk2
    go_wp2
    refine bodyPost_ret (v := .tuple #[vlV (.mk 0 []) none 0 0, .int .i64 2]) (by simp [results, Tryz.results24, go_sem, r0, r1, Vl.i]) rfl (OutVl.bad (by decide) ⟨rfl, ?_⟩)
    first | exact HBB.out _ _ | exact HWB.out | exact HBB.out (.int .i64 0) (.slice none 0 0)
theorem RUnflatten_e (S : Nat → Prop) (d : Nat) (hd : d ≤ 10) (T : Ty) (A : Option Addr) (n c : Nat) (w : World) (h : TyRd S w d T A n c) (Q : Option Addr) (nq qq : Nat) (L : List Int) (hr : IntRd w.heap.size w Q nq qq L) (hr3 : ∀ x ∈ L, x ≤ 9223372036854775807) :
    Calls Tryz.prog 24 #[tyV T A n c, .slice Q nq qq] w (OutVl (uErr d T L) d (vval d T L) w) := by
  unfold uErr
  by_cases h0 : tyErr d T = 0
  · obtain ⟨hg, hk⟩ := tyErr_good h0 hd
    rw [if_neg (by simpa using h0)]
    exact RUnflatten_x S d T A n c w h hg hk Q nq qq L hr hr3 _ rfl
  · rw [if_pos h0]
    exact (RUnflatten_ty S d hd T A n c w h Q nq qq h0).mono fun e w' h => OutVl.bad h0 h

end Go.Proofs.YtklndjkblfncjaaGreatDoor
