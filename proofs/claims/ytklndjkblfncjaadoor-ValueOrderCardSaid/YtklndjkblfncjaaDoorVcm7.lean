/-
  value.Compare on values of valid types: the lexicographic order of their cells.
-/
import Derived.Test.YtklndjkblfncjaaDoorCmp7
import Derived.Test.YtklndjkblfncjaaDoorEq7
namespace Go.Proofs.YtklndjkblfncjaaDoor
open Go Go.RowKit
set_option maxRecDepth 20000

/-- The order of two values comes back. -/
def GivesCmp (x : Int) (w : World) (e : Ending) (w' : World) : Prop := e = .returned (.tuple #[.int .i64 x, .int .i64 0]) ∧ Below w.heap.size w w'
set_option maxHeartbeats 4000000 in
theorem Compare_x (S : Nat → Prop) (d : Nat) (T : Ty) (A : Option Addr) (n c : Nat) (w : World) (h : TyRd S w d T A n c) (hg : Good d T) (hk : T.k ≠ 4)
    (S1 : Nat → Prop) (d1 : Nat) (V : Vl) (B : Option Addr) (m q : Nat) (hv : VlRd S1 w d1 V B m q) (hve : verr d T V = 0) (hl : (vflat d T V).length ≤ 1000)
    (S2 : Nat → Prop) (d2 : Nat) (V' : Vl) (B' : Option Addr) (m' q' : Nat) (hv' : VlRd S2 w d2 V' B' m' q') (hve' : verr d T V' = 0) (hl' : (vflat d T V').length ≤ 1000) :
    Calls Tryd.prog 9 #[tyV T A n c, vlV V B m q, vlV V' B' m' q'] w (GivesCmp (vcmp (vflat d T V) (vflat d T V')) w) := by
  obtain ⟨v, hvv⟩ : ∃ v, (w.alloc (.cells #[.int .i64 T.k, .int .i64 T.lo, .int .i64 T.hi, .int .i64 T.mx, .slice A n c] 27)).alloc (.cells #[.int .i64 V.i, .slice B m q] 31) = v := ⟨_, rfl⟩
  obtain ⟨hvs, hwv, hbx⟩ := boxes_tv w _ _ _ _ _ _ _ _ _ v hvv
  obtain ⟨u, hu⟩ : ∃ u, v.alloc (.cells #[.int .i64 V'.i, .slice B' m' q'] 31) = u := ⟨_, rfl⟩
  have hvu : Below v.heap.size v u := hu ▸ allocB _ _
  have hb2 : Box2 u v.heap.size (.int .i64 V'.i) (.slice B' m' q') := hu ▸ box2_new _ _ _ _
  have hsu : v.heap.size < u.heap.size := World.block_lt_of_cell? u _ hb2.1
  have hwu := nextB hwv hvu
  rw [hvs] at hb2 hsu
  have HBX : Hid (∀ W, Below u.heap.size u W → Box5 W w.heap.size (.int .i64 T.k) (.int .i64 T.lo) (.int .i64 T.hi) (.int .i64 T.mx) (.slice A n c) ∧ Box2 W (w.heap.size + 1) (.int .i64 V.i) (.slice B m q) ∧ Box2 W (w.heap.size + 2) (.int .i64 V'.i) (.slice B' m' q')) :=
    fun W hW => ⟨(hbx W (nextB hvu hW)).1, (hbx W (nextB hvu hW)).2, hb2.below hW hsu⟩
  have HF : Hid (Calls Tryd.prog 17 #[tyV T A n c, vlV V B m q] u (GivesFlat (vflat d T V) u)) := Flatten_x S d T A n c u (h.below hwu) hg hk S1 d1 V B m q (hv.below hwu) hve hl
  have HF2 : Hid (∀ W, Below u.heap.size u W → Calls Tryd.prog 17 #[tyV T A n c, vlV V' B' m' q'] W (GivesFlat (vflat d T V') W)) := fun W hW => Flatten_x S d T A n c W (h.below (nextB hwu hW)) hg hk S2 d2 V' B' m' q' (hv'.below (nextB hwu hW)) hve' hl'
  have HU : Hid (((w.alloc (.cells #[.int .i64 T.k, .int .i64 T.lo, .int .i64 T.hi, .int .i64 T.mx, .slice A n c] 27)).alloc (.cells #[.int .i64 V.i, .slice B m q] 31)).alloc (.cells #[.int .i64 V'.i, .slice B' m' q'] 31) = u) := by
    show _ = _
    rw [hvv]; exact hu
  have HWU := Lib.hid hwu
  clear h hg hk hv hve hl hv' hve' hl' hvv hu hbx hvu hb2 hsu hwu hvs hwv
  generalize vflat d T V = L at *
  generalize vflat d T V' = M at *
  go_enter Tryd.func9, Tryd.ntmps9
  go_wp2_with fail
  rw [HU.out]
  refine HF.out.mono ?_
  rintro e1 w1 ⟨Q, nq, qq, rfl, hO, _, hb1⟩
  obtain ⟨⟨p0, p1, p2, p3, p4⟩, _, r0, r1, f0, f1⟩ := HBX.out w1 hb1
  have HC1 := Lib.hid (HF2.out w1 hb1)
  have HB1 := Lib.hid hb1
  have HO := Lib.hid hO
  clear HF HF2 hb1 hO
  go_wp2_with fail
  refine HC1.out.mono ?_
  rintro e2 w2 ⟨Q2, n2, q2, rfl, hO2, _, hb2⟩
  have HCM := Lib.hid (cmp_ints w2.heap.size Q Q2 nq qq n2 q2 L M w2 ((HO.out.below hb2).rd fun a ha => (row_lt (HO.out.below hb2).row a ha).2) (hO2.rd fun a ha => (row_lt hO2.row a ha).2))
  have HB2 := Lib.hid (nextB HWU.out (nextB HB1.out hb2))
  clear hb2 hO2 HC1 HO HB1 p0 p1 p2 p3 p4 r0 r1 f0 f1
  go_wp2_with fail
  refine HCM.out.mono ?_
  rintro e3 w3 ⟨rfl, rfl⟩
  generalize vcmp L M = x at *
  go_wp2
  go_ret2
  exact ⟨rfl, HB2.out⟩
end Go.Proofs.YtklndjkblfncjaaDoor
