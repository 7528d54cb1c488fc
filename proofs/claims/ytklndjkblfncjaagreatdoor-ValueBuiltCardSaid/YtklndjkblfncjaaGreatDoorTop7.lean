/-
  Package value: Zero, Flatten, Unflatten, Compare, Format of any types and values: the error that comes first, or the result.
-/
import Derived.Test.YtklndjkblfncjaaGreatDoorUnf7
import Derived.Test.YtklndjkblfncjaaGreatDoorVcm7
import Derived.Test.YtklndjkblfncjaaGreatDoorFmt7
import Derived.Test.YtklndjkblfncjaaGreatDoorErrP
namespace Go.Proofs.YtklndjkblfncjaaGreatDoor
open Go Go.RowKit
set_option maxRecDepth 20000

def okVl (E : Int) (V : Vl) : Vl := if E = 0 then V else .mk 0 []
def okInts (E : Int) (l : List Int) : List Int := if E = 0 then l else []
def okInt (E x : Int) : Int := if E = 0 then x else 0
def okStr (E : Int) (s : By) : By := if E = 0 then s else []
def OutVl (E : Int) (d : Nat) (V : Vl) (w : World) (e : Ending) (w' : World) : Prop := ∃ B m q, e = .returned (.tuple #[vlV (okVl E V) B m q, .int .i64 E]) ∧ VlRd (fun b => w.heap.size ≤ b) w' (d + 1) (okVl E V) B m q ∧ Below w.heap.size w w'
def OutInts (E : Int) (l : List Int) (w : World) (e : Ending) (w' : World) : Prop := ∃ Q n q, e = .returned (.tuple #[.slice Q n q, .int .i64 E]) ∧ IntOwn w' Q n q (okInts E l) ∧ Below w.heap.size w w'
def OutInt (E x : Int) (w : World) (e : Ending) (w' : World) : Prop := e = .returned (.tuple #[.int .i64 (okInt E x), .int .i64 E]) ∧ Below w.heap.size w w'
def OutStr (E : Int) (s : By) (w : World) (e : Ending) (w' : World) : Prop := e = .returned (.tuple #[.string ⟨(okStr E s).toArray⟩, .int .i64 E]) ∧ Below w.heap.size w w'
theorem OutVl.ok {d : Nat} {V : Vl} {w : World} {e : Ending} {w' : World} (h : GivesVlOk d V w e w') : OutVl 0 d V w e w' := by
  obtain ⟨B, m, q, rfl, hr, hb⟩ := h
  exact ⟨B, m, q, rfl, hr.up, hb⟩
theorem OutVl.bad {E : Int} (hE : E ≠ 0) {d : Nat} {V : Vl} {w : World} {e : Ending} {w' : World} (h : e = .returned (.tuple #[vlV (.mk 0 []) none 0 0, .int .i64 E]) ∧ Below w.heap.size w w') : OutVl E d V w e w' := by
  have : okVl E V = .mk 0 [] := if_neg hE
  exact ⟨none, 0, 0, by rw [this]; exact h.1, by rw [this]; exact VlRd.nil _ _ rfl, h.2⟩
theorem OutInts.ok {l : List Int} {w : World} {e : Ending} {w' : World} (h : GivesFlat l w e w') : OutInts 0 l w e w' := by
  obtain ⟨Q, n, q, rfl, hO, _, hb⟩ := h
  exact ⟨Q, n, q, rfl, hO, hb⟩
theorem OutInts.bad {E : Int} (hE : E ≠ 0) {l : List Int} {w : World} {e : Ending} {w' : World} (h : e = .returned (.tuple #[.slice none 0 0, .int .i64 E]) ∧ Below w.heap.size w w') : OutInts E l w e w' := by
  have : okInts E l = [] := if_neg hE
  exact ⟨none, 0, 0, h.1, by rw [this]; exact IntOwn.nil _, h.2⟩
theorem OutInt.bad {E : Int} (hE : E ≠ 0) {x : Int} {w : World} {e : Ending} {w' : World} (h : e = .returned (.tuple #[.int .i64 0, .int .i64 E]) ∧ Below w.heap.size w w') : OutInt E x w e w' := by
  have : okInt E x = 0 := if_neg hE
  exact ⟨by rw [this]; exact h.1, h.2⟩
theorem OutStr.bad {E : Int} (hE : E ≠ 0) {s : By} {w : World} {e : Ending} {w' : World} (h : e = .returned (.tuple #[.string ⟨#[]⟩, .int .i64 E]) ∧ Below w.heap.size w w') : OutStr E s w e w' := by
  have : okStr E s = [] := if_neg hE
  exact ⟨by rw [this]; exact h.1, h.2⟩
/-- The error of the cells of a type. -/
def uErr (d : Nat) (T : Ty) (L : List Int) : Int := if tyErr d T ≠ 0 then tyErr d T else if L.length ≠ twidth d T then 2 else if verr d T (vval d T L) ≠ 0 then 2 else if vflat d T (vval d T L) ≠ L then 2 else 0
theorem ckErr_zero {d : Nat} {T : Ty} {V : Vl} (h : ckErr d T V = 0) : tyErr d T = 0 ∧ verr d T V = 0 := by
  unfold ckErr at h
  by_cases h0 : tyErr d T = 0
  · rw [if_neg (by simpa using h0)] at h; exact ⟨h0, h⟩
  · rw [if_pos h0] at h; exact absurd h h0
theorem flat_small {S : Nat → Prop} {w : World} {d : Nat} {T : Ty} {A : Option Addr} {n c : Nat} {V : Vl} (h : TyRd S w d T A n c) (hg : Good d T) (hv : verr d T V = 0) : (vflat d T V).length ≤ 24 := by
  rw [flat_width d T V h.deep hg.ok hv]; exact hg.wide

set_option maxHeartbeats 4000000 in
theorem Zero_bad (S : Nat → Prop) (d : Nat) (hd : d ≤ 10) (T : Ty) (A : Option Addr) (n c : Nat) (w : World) (h : TyRd S w d T A n c) (hne : tyErr d T ≠ 0) :
    Calls Tryz.prog 19 #[tyV T A n c] w fun e w' => e = .returned (.tuple #[vlV (.mk 0 []) none 0 0, .int .i64 (tyErr d T)]) ∧ Below w.heap.size w w' := by
  obtain ⟨v, hv⟩ : ∃ v, (w.alloc (.cells #[.int .i64 T.k, .int .i64 T.lo, .int .i64 T.hi, .int .i64 T.mx, .slice A n c] 24)).alloc (.cells #[.int .i64 0, .slice none 0 0] 27) = v := ⟨_, rfl⟩
  obtain ⟨hvs, hwv, hbx⟩ := boxes_tv w _ _ _ _ _ _ _ _ _ v hv
  have HF := Lib.hid (typeFault_e S d hd T A n c v (h.below hwv))
  obtain ⟨x, hx⟩ : ∃ x, tyErr d T = x := ⟨_, rfl⟩
  rw [hx] at HF hne ⊢
  have bx : (x != 0) = true := by simpa using hne
  have HBX := Lib.hid hbx
  have HVV := Lib.hid hv
  have HWV := Lib.hid hwv
  clear h hv hbx hwv hvs hx hne
  go_enter Tryz.func19, Tryz.ntmps19
  go_wp2_with fail
  rw [HVV.out]
  refine HF.out.mono ?_
  rintro e1 w1 ⟨rfl, hb⟩
  obtain ⟨_, r0, r1, f0, f1⟩ := HBX.out w1 hb
  have HWB := Lib.hid (nextB HWV.out hb)
  have HBB : Hid (∀ z0 z1, Below w.heap.size w ((w1.setCell ⟨w.heap.size + 1, 0, none⟩ z0).setCell ⟨w.heap.size + 1, 1, none⟩ z1)) := fun z0 z1 => (HWB.out.setCell (p := ⟨w.heap.size + 1, 0, none⟩) (by simp) z0).setCell (p := ⟨w.heap.size + 1, 1, none⟩) (by simp) z1
  clear HF hb HBX
  go_wp2
  refine bodyPost_ret (v := .tuple #[vlV (.mk 0 []) none 0 0, .int .i64 x]) (by simp [results, Tryz.results19, go_sem, r0, r1, Vl.i]) rfl ⟨rfl, ?_⟩
  first | exact HBB.out _ _ | exact HWB.out | exact HBB.out (.int .i64 0) (.slice none 0 0)

set_option maxHeartbeats 4000000 in
theorem Flatten_bad (S : Nat → Prop) (d : Nat) (hd : d ≤ 10) (T : Ty) (A : Option Addr) (n c : Nat) (w : World) (h : TyRd S w d T A n c) (S' : Nat → Prop) (d' : Nat) (V : Vl) (B : Option Addr) (m q : Nat) (hv : VlRd S' w d' V B m q) (hne : ckErr d T V ≠ 0) :
    Calls Tryz.prog 16 #[tyV T A n c, vlV V B m q] w fun e w' => e = .returned (.tuple #[.slice none 0 0, .int .i64 (ckErr d T V)]) ∧ Below w.heap.size w w' := by
  obtain ⟨v, hvv⟩ : ∃ v, (w.alloc (.cells #[.int .i64 T.k, .int .i64 T.lo, .int .i64 T.hi, .int .i64 T.mx, .slice A n c] 24)).alloc (.cells #[.int .i64 V.i, .slice B m q] 27) = v := ⟨_, rfl⟩
  obtain ⟨hvs, hwv, hbx⟩ := boxes_tv w _ _ _ _ _ _ _ _ _ v hvv
  have HF := Lib.hid (Check_e S d hd T A n c v (h.below hwv) S' d' V B m q (hv.below hwv))
  obtain ⟨x, hx⟩ : ∃ x, ckErr d T V = x := ⟨_, rfl⟩
  rw [hx] at HF hne ⊢
  have bx : (x != 0) = true := by simpa using hne
  have HVV := Lib.hid hvv
  have HWV := Lib.hid hwv
  clear h hv hvv hbx hwv hvs hx hne
  go_enter Tryz.func16, Tryz.ntmps16
  go_wp2_with fail
  rw [HVV.out]
  refine HF.out.mono ?_
  rintro e1 w1 ⟨rfl, hb⟩
  have HWB := Lib.hid (nextB HWV.out hb)
  clear HF hb
  go_wp2
  go_ret2
  exact ⟨rfl, HWB.out⟩

set_option maxHeartbeats 4000000 in
theorem Format_bad (S : Nat → Prop) (d : Nat) (hd : d ≤ 10) (T : Ty) (A : Option Addr) (n c : Nat) (w : World) (h : TyRd S w d T A n c) (S' : Nat → Prop) (d' : Nat) (V : Vl) (B : Option Addr) (m q : Nat) (hv : VlRd S' w d' V B m q) (hne : ckErr d T V ≠ 0) :
    Calls Tryz.prog 27 #[tyV T A n c, vlV V B m q] w fun e w' => e = .returned (.tuple #[.string ⟨#[]⟩, .int .i64 (ckErr d T V)]) ∧ Below w.heap.size w w' := by
  obtain ⟨v, hvv⟩ : ∃ v, (w.alloc (.cells #[.int .i64 T.k, .int .i64 T.lo, .int .i64 T.hi, .int .i64 T.mx, .slice A n c] 24)).alloc (.cells #[.int .i64 V.i, .slice B m q] 27) = v := ⟨_, rfl⟩
  obtain ⟨hvs, hwv, hbx⟩ := boxes_tv w _ _ _ _ _ _ _ _ _ v hvv
  have HF := Lib.hid (Check_e S d hd T A n c v (h.below hwv) S' d' V B m q (hv.below hwv))
  obtain ⟨x, hx⟩ : ∃ x, ckErr d T V = x := ⟨_, rfl⟩
  rw [hx] at HF hne ⊢
  have bx : (x != 0) = true := by simpa using hne
  have HVV := Lib.hid hvv
  have HWV := Lib.hid hwv
  clear h hv hvv hbx hwv hvs hx hne
  go_enter Tryz.func27, Tryz.ntmps27
  go_wp2_with fail
  rw [HVV.out]
  refine HF.out.mono ?_
  rintro e1 w1 ⟨rfl, hb⟩
  have HWB := Lib.hid (nextB HWV.out hb)
  clear HF hb
  go_wp2
  go_ret2
  exact ⟨rfl, HWB.out⟩

theorem Zero_e (S : Nat → Prop) (d : Nat) (hd : d ≤ 10) (T : Ty) (A : Option Addr) (n c : Nat) (w : World) (h : TyRd S w d T A n c) : Calls Tryz.prog 19 #[tyV T A n c] w (OutVl (tyErr d T) d (vzero d T) w) := by
  by_cases h0 : tyErr d T = 0
  · rw [h0]
    obtain ⟨hg, hk⟩ := tyErr_good h0 hd
    exact (Zero_x S d T A n c w h hg hk).mono fun e w' h => OutVl.ok h
  · exact (Zero_bad S d hd T A n c w h h0).mono fun e w' h => OutVl.bad h0 h
theorem Flatten_e (S : Nat → Prop) (d : Nat) (hd : d ≤ 10) (T : Ty) (A : Option Addr) (n c : Nat) (w : World) (h : TyRd S w d T A n c) (S' : Nat → Prop) (d' : Nat) (V : Vl) (B : Option Addr) (m q : Nat) (hv : VlRd S' w d' V B m q) :
    Calls Tryz.prog 16 #[tyV T A n c, vlV V B m q] w (OutInts (ckErr d T V) (vflat d T V) w) := by
  by_cases h0 : ckErr d T V = 0
  · rw [h0]
    obtain ⟨h1, h2⟩ := ckErr_zero h0
    obtain ⟨hg, hk⟩ := tyErr_good h1 hd
    exact (Flatten_x S d T A n c w h hg hk S' d' V B m q hv h2 (Nat.le_trans (flat_small h hg h2) (by decide))).mono fun e w' h => OutInts.ok h
  · exact (Flatten_bad S d hd T A n c w h S' d' V B m q hv h0).mono fun e w' h => OutInts.bad h0 h
theorem Format_e (S : Nat → Prop) (d : Nat) (hd : d ≤ 9) (T : Ty) (A : Option Addr) (n c : Nat) (w : World) (h : TyRd S w d T A n c) (S' : Nat → Prop) (d' : Nat) (V : Vl) (B : Option Addr) (m q : Nat) (hv : VlRd S' w d' V B m q) (ht : Tab w) :
    Calls Tryz.prog 27 #[tyV T A n c, vlV V B m q] w (OutStr (ckErr d T V) (vfmt d T V) w) := by
  by_cases h0 : ckErr d T V = 0
  · rw [h0]
    obtain ⟨h1, h2⟩ := ckErr_zero h0
    obtain ⟨hg, hk⟩ := tyErr_good h1 (by omega)
    exact (Format_x S d hd T A n c w h hg hk S' d' V B m q hv h2 ht).mono fun e w' h => h
  · exact (Format_bad S d (by omega) T A n c w h S' d' V B m q hv h0).mono fun e w' h => OutStr.bad h0 h

set_option maxHeartbeats 4000000 in
theorem Unflatten_ty (S : Nat → Prop) (d : Nat) (hd : d ≤ 10) (T : Ty) (A : Option Addr) (n c : Nat) (w : World) (h : TyRd S w d T A n c) (Q : Option Addr) (nq qq : Nat) (hne : tyErr d T ≠ 0) :
    Calls Tryz.prog 17 #[tyV T A n c, .slice Q nq qq] w fun e w' => e = .returned (.tuple #[vlV (.mk 0 []) none 0 0, .int .i64 (tyErr d T)]) ∧ Below w.heap.size w w' := by
  obtain ⟨v, hv⟩ : ∃ v, (w.alloc (.cells #[.int .i64 T.k, .int .i64 T.lo, .int .i64 T.hi, .int .i64 T.mx, .slice A n c] 24)).alloc (.cells #[.int .i64 0, .slice none 0 0] 27) = v := ⟨_, rfl⟩
  obtain ⟨hvs, hwv, hbx⟩ := boxes_tv w _ _ _ _ _ _ _ _ _ v hv
  have HF := Lib.hid (typeFault_e S d hd T A n c v (h.below hwv))
  obtain ⟨x, hx⟩ : ∃ x, tyErr d T = x := ⟨_, rfl⟩
  rw [hx] at HF hne ⊢
  have bx : (x != 0) = true := by simpa using hne
  have HBX := Lib.hid hbx
  have HVV := Lib.hid hv
  have HWV := Lib.hid hwv
  clear h hv hbx hwv hvs hx hne
  go_enter Tryz.func17, Tryz.ntmps17
  go_wp2_with fail
  rw [HVV.out]
  refine HF.out.mono ?_
  rintro e1 w1 ⟨rfl, hb⟩
  obtain ⟨_, r0, r1, f0, f1⟩ := HBX.out w1 hb
  have HWB := Lib.hid (nextB HWV.out hb)
  have HBB : Hid (∀ z0 z1, Below w.heap.size w ((w1.setCell ⟨w.heap.size + 1, 0, none⟩ z0).setCell ⟨w.heap.size + 1, 1, none⟩ z1)) := fun z0 z1 => (HWB.out.setCell (p := ⟨w.heap.size + 1, 0, none⟩) (by simp) z0).setCell (p := ⟨w.heap.size + 1, 1, none⟩) (by simp) z1
  clear HF hb HBX
  go_wp2
  refine bodyPost_ret (v := .tuple #[vlV (.mk 0 []) none 0 0, .int .i64 x]) (by simp [results, Tryz.results17, go_sem, r0, r1, Vl.i]) rfl ⟨rfl, ?_⟩
  first | exact HBB.out _ _ | exact HWB.out | exact HBB.out (.int .i64 0) (.slice none 0 0)

set_option maxHeartbeats 4000000 in
theorem Unflatten_len (S : Nat → Prop) (d : Nat) (T : Ty) (A : Option Addr) (n c : Nat) (w : World) (h : TyRd S w d T A n c) (hg : Good d T) (hk : T.k ≠ 4) (Q : Option Addr) (nq qq : Nat) (hlen : nq ≠ twidth d T) :
    Calls Tryz.prog 17 #[tyV T A n c, .slice Q nq qq] w fun e w' => e = .returned (.tuple #[vlV (.mk 0 []) none 0 0, .int .i64 2]) ∧ Below w.heap.size w w' := by
  obtain ⟨v, hv⟩ : ∃ v, (w.alloc (.cells #[.int .i64 T.k, .int .i64 T.lo, .int .i64 T.hi, .int .i64 T.mx, .slice A n c] 24)).alloc (.cells #[.int .i64 0, .slice none 0 0] 27) = v := ⟨_, rfl⟩
  obtain ⟨hvs, hwv, hbx⟩ := boxes_tv w _ _ _ _ _ _ _ _ _ v hv
  have HF := Lib.hid (typeFault_x S d T A n c v (h.below hwv) hg hk)
  have HK : Hid (∀ W, Below v.heap.size v W → Calls Tryz.prog 34 #[tyV T A n c] W (GivesKinds (twidth d T) W)) := fun W hW => Cells_x S d T A n c W (h.below (nextB hwv hW)) hg
  obtain ⟨z, hz⟩ : ∃ z, twidth d T = z := ⟨_, rfl⟩
  rw [hz] at HK hlen
  have bn : ((nq : Int) != (z : Int)) = true := by simp; omega
  have HBX := Lib.hid hbx
  have HVV := Lib.hid hv
  have HWV := Lib.hid hwv
  clear h hg hk hv hbx hwv hvs hz hlen
  go_enter Tryz.func17, Tryz.ntmps17
  go_wp2_with fail
  rw [HVV.out]
  refine HF.out.mono ?_
  rintro e1 w1 ⟨rfl, hb1⟩
  obtain ⟨⟨p0, p1, p2, p3, p4⟩, _⟩ := HBX.out w1 hb1
  have HK1 := Lib.hid (HK.out w1 hb1)
  clear HF HK
  go_wp2_with fail
  refine HK1.out.mono ?_
  rintro e2 w2 ⟨Q2, q2, rfl, hb2⟩
  have hk2 := nextB hb1 hb2
  clear p0 p1 p2 p3 p4 HK1 hb1 hb2
  obtain ⟨_, r0, r1, f0, f1⟩ := HBX.out w2 hk2
  have HWB := Lib.hid (nextB HWV.out hk2)
  have HBB : Hid (∀ z0 z1, Below w.heap.size w ((w2.setCell ⟨w.heap.size + 1, 0, none⟩ z0).setCell ⟨w.heap.size + 1, 1, none⟩ z1)) := fun z0 z1 => (HWB.out.setCell (p := ⟨w.heap.size + 1, 0, none⟩) (by simp) z0).setCell (p := ⟨w.heap.size + 1, 1, none⟩) (by simp) z1
  clear hk2 HBX
  go_wp2
  refine bodyPost_ret (v := .tuple #[vlV (.mk 0 []) none 0 0, .int .i64 2]) (by simp [results, Tryz.results17, go_sem, r0, r1, Vl.i]) rfl ⟨rfl, ?_⟩
  first | exact HBB.out _ _ | exact HWB.out | exact HBB.out (.int .i64 0) (.slice none 0 0)

set_option maxHeartbeats 8000000 in
theorem Unflatten_val (S : Nat → Prop) (d : Nat) (T : Ty) (A : Option Addr) (n c : Nat) (w : World) (h : TyRd S w d T A n c) (hg : Good d T) (hk : T.k ≠ 4) (Q : Option Addr) (nq qq : Nat) (L : List Int) (hr : IntRd w.heap.size w Q nq qq L) (hlen : L.length = twidth d T) (hve : verr d T (vval d T L) ≠ 0) :
    Calls Tryz.prog 17 #[tyV T A n c, .slice Q nq qq] w fun e w' => e = .returned (.tuple #[vlV (.mk 0 []) none 0 0, .int .i64 2]) ∧ Below w.heap.size w w' := by
  obtain ⟨v, hvv⟩ : ∃ v, (w.alloc (.cells #[.int .i64 T.k, .int .i64 T.lo, .int .i64 T.hi, .int .i64 T.mx, .slice A n c] 24)).alloc (.cells #[.int .i64 0, .slice none 0 0] 27) = v := ⟨_, rfl⟩
  obtain ⟨hvs, hwv, hbx⟩ := boxes_tv w _ _ _ _ _ _ _ _ _ v hvv
  have hnq : twidth d T = nq := by rw [← hlen]; exact hr.len
  have HF := Lib.hid (typeFault_x S d T A n c v (h.below hwv) hg hk)
  have HT : ∀ W, Below v.heap.size v W → TyRd S W d T A n c := fun W hW => h.below (nextB hwv hW)
  have HQ : ∀ W, Below v.heap.size v W → IntRd w.heap.size W Q nq qq L := fun W hW => hr.below (nextB hwv hW) (Nat.le_refl _)
  have HK : Hid (∀ W, Below v.heap.size v W → Calls Tryz.prog 34 #[tyV T A n c] W (GivesKinds nq W)) := fun W hW => by
    have := Cells_x S d T A n c W (HT W hW) hg
    rwa [hnq] at this
  obtain ⟨V, hV⟩ : ∃ V, vval d T L = V := ⟨_, rfl⟩
  rw [hV] at hve
  have HR : Hid (∀ W, Below v.heap.size v W → Calls Tryz.prog 35 #[tyV T A n c, .slice Q nq qq] W (GivesRead w.heap.size d V (L.drop (twidth d T)) W)) := fun W hW => by
    have := read_x d w.heap.size S T A n c Q nq qq L W (HT W hW) hg.ok (nextB hwv hW).size (HQ W hW) (by omega)
    rwa [hV] at this
  obtain ⟨y, hy⟩ : ∃ y, verr d T V = y := ⟨_, rfl⟩
  have HVF : Hid (∀ W, Below v.heap.size v W → ∀ B m q (S' : Nat → Prop), VlRd S' W d V B m q → Calls Tryz.prog 36 #[tyV T A n c, vlV V B m q] W (FaultIs y W)) := fun W hW B m q S' hv => by
    have := vfault_x d S T A n c W (HT W hW) hg.ok S' d V B m q hv
    rwa [hy] at this
  rw [hy] at hve
  have bv : (y != 0) = true := by simpa using hve
  have HBX := Lib.hid hbx
  have HVV := Lib.hid hvv
  have HWV := Lib.hid hwv
  clear h hg hk hvv hbx hwv hvs hV hve HT HQ hr hlen hnq hy
  generalize L.drop (twidth d T) = L0 at HR
  go_enter Tryz.func17, Tryz.ntmps17
  go_wp2_with fail
  rw [HVV.out]
  refine HF.out.mono ?_
  rintro e1 w1 ⟨rfl, hb1⟩
  obtain ⟨⟨p0, p1, p2, p3, p4⟩, _⟩ := HBX.out w1 hb1
  have HK1 := Lib.hid (HK.out w1 hb1)
  clear HF HK
  go_wp2_with fail
  refine HK1.out.mono ?_
  rintro e2 w2 ⟨Q2, q2, rfl, hb2⟩
  have hk2 := nextB hb1 hb2
  clear p0 p1 p2 p3 p4 HK1 hb1 hb2
  obtain ⟨⟨p0, p1, p2, p3, p4⟩, _⟩ := HBX.out w2 hk2
  have HR2 := Lib.hid (HR.out w2 hk2)
  clear HR
  go_wp2_with fail
  refine HR2.out.mono ?_
  rintro e3 w3 ⟨B, m, q, Q3, n3, k3, rfl, hV3, _, hb3⟩
  have hk3 := nextB hk2 hb3
  obtain ⟨u, hu⟩ : ∃ u, w3.alloc (.cells #[.int .i64 V.i, .slice B m q] 27) = u := ⟨_, rfl⟩
  have h3u : Below w3.heap.size w3 u := hu ▸ allocB _ _
  have hku := nextB hk3 h3u
  have hbu : Box2 u w3.heap.size (.int .i64 V.i) (.slice B m q) := hu ▸ box2_new _ _ _ _
  have HV1 := Lib.hid (HVF.out u hku _ _ _ _ (hV3.below h3u))
  obtain ⟨y0, y1, _, _⟩ := hbu
  clear p0 p1 p2 p3 p4 HR2 hb3 hV3 HVF
  obtain ⟨⟨p0, p1, p2, p3, p4⟩, _⟩ := HBX.out u hku
  have HKU := Lib.hid hku
  clear hku h3u
  subst hu
  go_wp2_with fail
  refine HV1.out.mono ?_
  rintro e4 w4 ⟨rfl, hb4⟩
  have hk4 := nextB HKU.out hb4
  obtain ⟨_, r0, r1, f0, f1⟩ := HBX.out w4 hk4
  have HWB := Lib.hid (nextB HWV.out hk4)
  have HBB : Hid (∀ z0 z1, Below w.heap.size w ((w4.setCell ⟨w.heap.size + 1, 0, none⟩ z0).setCell ⟨w.heap.size + 1, 1, none⟩ z1)) := fun z0 z1 => (HWB.out.setCell (p := ⟨w.heap.size + 1, 0, none⟩) (by simp) z0).setCell (p := ⟨w.heap.size + 1, 1, none⟩) (by simp) z1
  clear p0 p1 p2 p3 p4 y0 y1 HV1 hb4 HKU hk4 hk3 hk2 HBX
  go_wp2
  refine bodyPost_ret (v := .tuple #[vlV (.mk 0 []) none 0 0, .int .i64 2]) (by simp [results, Tryz.results17, go_sem, r0, r1, Vl.i]) rfl ⟨rfl, ?_⟩
  first | exact HBB.out _ _ | exact HWB.out | exact HBB.out (.int .i64 0) (.slice none 0 0)

theorem Unflatten_e (S : Nat → Prop) (d : Nat) (hd : d ≤ 10) (T : Ty) (A : Option Addr) (n c : Nat) (w : World) (h : TyRd S w d T A n c) (Q : Option Addr) (nq qq : Nat) (L : List Int) (hr : IntRd w.heap.size w Q nq qq L) :
    Calls Tryz.prog 17 #[tyV T A n c, .slice Q nq qq] w (OutVl (uErr d T L) d (vval d T L) w) := by
  unfold uErr
  by_cases h0 : tyErr d T = 0
  · obtain ⟨hg, hk⟩ := tyErr_good h0 hd
    rw [if_neg (by simpa using h0)]
    by_cases h1 : L.length = twidth d T
    · rw [if_neg (by simpa using h1)]
      by_cases h2 : verr d T (vval d T L) = 0
      · rw [if_neg (by simpa using h2)]
        refine (Unflatten_x S d T A n c w h hg hk Q nq qq L hr h1 _ rfl h2 (Nat.le_trans (flat_small h hg h2) (by decide))).mono ?_
        rintro e w' (⟨h3, h4⟩ | ⟨h3, h4⟩)
        · rw [if_neg (by simpa using h3)]; exact OutVl.ok h4
        · rw [if_pos h3]; exact OutVl.bad (by decide) h4
      · rw [if_pos h2]
        exact (Unflatten_val S d T A n c w h hg hk Q nq qq L hr h1 h2).mono fun e w' h => OutVl.bad (by decide) h
    · rw [if_pos h1]
      exact (Unflatten_len S d T A n c w h hg hk Q nq qq (by rw [← hr.len]; exact h1)).mono fun e w' h => OutVl.bad (by decide) h
  · rw [if_pos h0]
    exact (Unflatten_ty S d hd T A n c w h Q nq qq h0).mono fun e w' h => OutVl.bad h0 h

/-- The error of two values of a type. -/
def cpErr (d : Nat) (T : Ty) (V V' : Vl) : Int := if ckErr d T V ≠ 0 then ckErr d T V else ckErr d T V'
set_option maxHeartbeats 4000000 in
theorem Compare_bad (S : Nat → Prop) (d : Nat) (hd : d ≤ 10) (T : Ty) (A : Option Addr) (n c : Nat) (w : World) (h : TyRd S w d T A n c)
    (S1 : Nat → Prop) (d1 : Nat) (V : Vl) (B : Option Addr) (m q : Nat) (hv : VlRd S1 w d1 V B m q)
    (S2 : Nat → Prop) (d2 : Nat) (V' : Vl) (B' : Option Addr) (m' q' : Nat) (hv' : VlRd S2 w d2 V' B' m' q') (hne : cpErr d T V V' ≠ 0) :
    Calls Tryz.prog 25 #[tyV T A n c, vlV V B m q, vlV V' B' m' q'] w fun e w' => e = .returned (.tuple #[.int .i64 0, .int .i64 (cpErr d T V V')]) ∧ Below w.heap.size w w' := by
  obtain ⟨v, hvv⟩ : ∃ v, (w.alloc (.cells #[.int .i64 T.k, .int .i64 T.lo, .int .i64 T.hi, .int .i64 T.mx, .slice A n c] 24)).alloc (.cells #[.int .i64 V.i, .slice B m q] 27) = v := ⟨_, rfl⟩
  obtain ⟨hvs, hwv, hbx⟩ := boxes_tv w _ _ _ _ _ _ _ _ _ v hvv
  obtain ⟨u, hu⟩ : ∃ u, v.alloc (.cells #[.int .i64 V'.i, .slice B' m' q'] 27) = u := ⟨_, rfl⟩
  have hvu : Below v.heap.size v u := hu ▸ allocB _ _
  have hb2 : Box2 u v.heap.size (.int .i64 V'.i) (.slice B' m' q') := hu ▸ box2_new _ _ _ _
  have hsu : v.heap.size < u.heap.size := World.block_lt_of_cell? u _ hb2.1
  have hwu := nextB hwv hvu
  rw [hvs] at hb2 hsu
  have HBX : Hid (∀ W, Below u.heap.size u W → Box5 W w.heap.size (.int .i64 T.k) (.int .i64 T.lo) (.int .i64 T.hi) (.int .i64 T.mx) (.slice A n c) ∧ Box2 W (w.heap.size + 1) (.int .i64 V.i) (.slice B m q) ∧ Box2 W (w.heap.size + 2) (.int .i64 V'.i) (.slice B' m' q')) :=
    fun W hW => ⟨(hbx W (nextB hvu hW)).1, (hbx W (nextB hvu hW)).2, hb2.below hW hsu⟩
  have HF : Hid (Calls Tryz.prog 16 #[tyV T A n c, vlV V B m q] u (OutInts (ckErr d T V) (vflat d T V) u)) := Flatten_e S d hd T A n c u (h.below hwu) S1 d1 V B m q (hv.below hwu)
  have HF2 : Hid (∀ W, Below u.heap.size u W → Calls Tryz.prog 16 #[tyV T A n c, vlV V' B' m' q'] W (OutInts (ckErr d T V') (vflat d T V') W)) := fun W hW => Flatten_e S d hd T A n c W (h.below (nextB hwu hW)) S2 d2 V' B' m' q' (hv'.below (nextB hwu hW))
  have HU : Hid (((w.alloc (.cells #[.int .i64 T.k, .int .i64 T.lo, .int .i64 T.hi, .int .i64 T.mx, .slice A n c] 24)).alloc (.cells #[.int .i64 V.i, .slice B m q] 27)).alloc (.cells #[.int .i64 V'.i, .slice B' m' q'] 27) = u) := by
    show _ = _
    rw [hvv]; exact hu
  have HWU := Lib.hid hwu
  have hdef : cpErr d T V V' = if ckErr d T V ≠ 0 then ckErr d T V else ckErr d T V' := rfl
  obtain ⟨x, hx⟩ : ∃ x, ckErr d T V = x := ⟨_, rfl⟩
  obtain ⟨y, hy⟩ : ∃ y, ckErr d T V' = y := ⟨_, rfl⟩
  obtain ⟨z, hz⟩ : ∃ z, cpErr d T V V' = z := ⟨_, rfl⟩
  rw [hx, hy, hz] at hdef
  rw [hx] at HF
  rw [hy] at HF2
  rw [hz] at hne ⊢
  have HD := Lib.hid hdef
  have HNE := Lib.hid hne
  clear h hv hv' hvv hu hbx hvu hb2 hsu hwu hvs hwv hdef hx hy hz hne
  generalize vflat d T V = L at *
  generalize vflat d T V' = M at *
  go_enter Tryz.func25, Tryz.ntmps25
  go_wp2_with fail
  rw [HU.out]
  refine HF.out.mono ?_
  rintro e1 w1 ⟨Q, nq, qq, rfl, hO, hb1⟩
  obtain ⟨⟨p0, p1, p2, p3, p4⟩, _, r0, r1, f0, f1⟩ := HBX.out w1 hb1
  have HC1 := Lib.hid (HF2.out w1 hb1)
  have HB1 := Lib.hid hb1
  clear HF HF2 hb1 hO
  have hD := HD.out
  by_cases hx0 : x = 0
  · subst hx0
    rw [if_neg (by decide)] at hD
    subst hD
    have by0 : (z != 0) = true := by simpa using HNE.out
    go_wp2_with fail
    refine HC1.out.mono ?_
    rintro e2 w2 ⟨Q2, n2, q2, rfl, hO2, hb2⟩
    have HB2 := Lib.hid (nextB HWU.out (nextB HB1.out hb2))
    clear hb2 hO2 HC1 HB1 p0 p1 p2 p3 p4 r0 r1 f0 f1
    go_wp2
    go_ret2
    exact ⟨rfl, HB2.out⟩
  · have bx : (x != 0) = true := by simpa using hx0
    rw [if_pos hx0] at hD
    have HZ := Lib.hid hD
    have HB2 := Lib.hid (nextB HWU.out HB1.out)
    clear hD HD hx0 HC1 HB1 p0 p1 p2 p3 p4 r0 r1 f0 f1
    go_wp2
    go_ret2
    exact ⟨by rw [HZ.out]; rfl, HB2.out⟩
theorem cpErr_zero {d : Nat} {T : Ty} {V V' : Vl} (h : cpErr d T V V' = 0) : ckErr d T V = 0 ∧ ckErr d T V' = 0 := by
  unfold cpErr at h
  by_cases h0 : ckErr d T V = 0
  · rw [if_neg (by simpa using h0)] at h; exact ⟨h0, h⟩
  · rw [if_pos h0] at h; exact absurd h h0
theorem Compare_e (S : Nat → Prop) (d : Nat) (hd : d ≤ 10) (T : Ty) (A : Option Addr) (n c : Nat) (w : World) (h : TyRd S w d T A n c)
    (S1 : Nat → Prop) (d1 : Nat) (V : Vl) (B : Option Addr) (m q : Nat) (hv : VlRd S1 w d1 V B m q)
    (S2 : Nat → Prop) (d2 : Nat) (V' : Vl) (B' : Option Addr) (m' q' : Nat) (hv' : VlRd S2 w d2 V' B' m' q') :
    Calls Tryz.prog 25 #[tyV T A n c, vlV V B m q, vlV V' B' m' q'] w (OutInt (cpErr d T V V') (vcmp (vflat d T V) (vflat d T V')) w) := by
  by_cases h0 : cpErr d T V V' = 0
  · rw [h0]
    obtain ⟨h1, h2⟩ := cpErr_zero h0
    obtain ⟨h3, h4⟩ := ckErr_zero h1
    obtain ⟨_, h5⟩ := ckErr_zero h2
    obtain ⟨hg, hk⟩ := tyErr_good h3 hd
    exact (Compare_x S d T A n c w h hg hk S1 d1 V B m q hv h4 (Nat.le_trans (flat_small h hg h4) (by decide)) S2 d2 V' B' m' q' hv' h5 (Nat.le_trans (flat_small h hg h5) (by decide))).mono fun e w' h => h
  · exact (Compare_bad S d hd T A n c w h S1 d1 V B m q hv S2 d2 V' B' m' q' hv' h0).mono fun e w' h => OutInt.bad h0 h

end Go.Proofs.YtklndjkblfncjaaGreatDoor
