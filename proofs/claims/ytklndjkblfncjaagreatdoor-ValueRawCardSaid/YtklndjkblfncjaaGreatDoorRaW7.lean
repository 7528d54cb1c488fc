/-
  exactppllaw07.ValueRaw: the walk.
-/
import Derived.Test.YtklndjkblfncjaaGreatDoorOpR7
namespace Go.Proofs.YtklndjkblfncjaaGreatDoor
open Go Go.RowKit
set_option maxRecDepth 20000

set_option maxHeartbeats 16000000 in
theorem valueRaw.core {S : Nat → Prop} {D : Nat} {T : Ty} {A : Option Addr} {n c : Nat} {w : World} (h : TyRd S w D T A n c)
    {S1 : Nat → Prop} {d1 : Nat} {V : Vl} {B : Option Addr} {m q : Nat} (hv : VlRd S1 w d1 V B m q)
    {S2 : Nat → Prop} {d2 : Nat} {U : Vl} {C : Option Addr} {m' q' : Nat} (hu : VlRd S2 w d2 U C m' q')
    {Q : Option Addr} {nq qq : Nat}
    (HAG : Hid (∀ W, Below w.heap.size w W → deepOk 5 T → Calls Tryz.prog 8 #[tyV T A n c, vlV V B m q, vlV U C m' q', .slice Q nq qq] W fun e w' => e = .returned (.bool true) ∧ Below W.heap.size W w'))
    (HAW : Hid (∀ W, Calls Tryz.prog 7 #[] W fun e w' => e = .returned (.bool true) ∧ Below W.heap.size W w')) :
    Calls Tryz.prog 3 #[tyV T A n c, vlV V B m q, vlV U C m' q', .slice Q nq qq] w fun e w' => e = .returned (.bool true) ∧ Below w.heap.size w w' := by
  obtain ⟨v, hvv⟩ : ∃ v, (w.alloc (.cells #[.int .i64 T.k, .int .i64 T.lo, .int .i64 T.hi, .int .i64 T.mx, .slice A n c] 24)).alloc (.cells #[.int .i64 V.i, .slice B m q] 27) = v := ⟨_, rfl⟩
  obtain ⟨hvs, hwv, hbx⟩ := boxes_tv w _ _ _ _ _ _ _ _ _ v hvv
  obtain ⟨u, huu⟩ : ∃ u, v.alloc (.cells #[.int .i64 U.i, .slice C m' q'] 27) = u := ⟨_, rfl⟩
  have hvu : Below v.heap.size v u := huu ▸ allocB _ _
  have hb2 : Box2 u v.heap.size (.int .i64 U.i) (.slice C m' q') := huu ▸ box2_new _ _ _ _
  have hsu : v.heap.size < u.heap.size := World.block_lt_of_cell? u _ hb2.1
  have hwu := nextB hwv hvu
  rw [hvs] at hb2 hsu
  have HB : Hid (∀ W, Below u.heap.size u W → Box5 W w.heap.size (.int .i64 T.k) (.int .i64 T.lo) (.int .i64 T.hi) (.int .i64 T.mx) (.slice A n c) ∧ Box2 W (w.heap.size + 1) (.int .i64 V.i) (.slice B m q) ∧ Box2 W (w.heap.size + 2) (.int .i64 U.i) (.slice C m' q')) :=
    fun W hW => ⟨(hbx W (nextB hvu hW)).1, (hbx W (nextB hvu hW)).2, hb2.below hW hsu⟩
  have HUU : Hid (((w.alloc (.cells #[.int .i64 T.k, .int .i64 T.lo, .int .i64 T.hi, .int .i64 T.mx, .slice A n c] 24)).alloc (.cells #[.int .i64 V.i, .slice B m q] 27)).alloc (.cells #[.int .i64 U.i, .slice C m' q'] 27) = u) := by
    show _ = _
    rw [hvv]; exact huu
  have HSM := Lib.hid (small_x 5 (by omega) D S T A n c u (h.below hwu))
  have HF1 : Hid (∀ W, Below u.heap.size u W → Calls Tryz.prog 6 #[vlV V B m q, .int .i64 (5 : Int)] W fun e w' => e = .returned (.bool (fewP 5 V)) ∧ Below W.heap.size W w') := fun W hW => few_x 5 (by omega) d1 S1 V B m q W (hv.below (nextB hwu hW))
  have HF2 : Hid (∀ W, Below u.heap.size u W → Calls Tryz.prog 6 #[vlV U C m' q', .int .i64 (5 : Int)] W fun e w' => e = .returned (.bool (fewP 5 U)) ∧ Below W.heap.size W w') := fun W hW => few_x 5 (by omega) d2 S2 U C m' q' W (hu.below (nextB hwu hW))
  have HAG2 : Hid (∀ W, Below u.heap.size u W → smallP 5 T = true → Calls Tryz.prog 8 #[tyV T A n c, vlV V B m q, vlV U C m' q', .slice Q nq qq] W fun e w' => e = .returned (.bool true) ∧ Below W.heap.size W w') := fun W hW hs => HAG.out W (nextB hwu hW) (smallP_deep hs)
  have HWU := Lib.hid hwu
  clear h hv hu hvv hbx hvu hb2 hsu hwu hvs hwv huu HAG
  generalize smallP 5 T = s at *
  generalize fewP 5 V = f1 at *
  generalize fewP 5 U = f2 at *
  obtain ⟨⟨p0, p1, p2, p3, p4⟩, ⟨q0, q1, _, _⟩, r0, r1, _, _⟩ := HB.out u (Below.refl _ _)
  go_enter Tryz.func3, Tryz.ntmps3
  go_wp2_with fail
  rw [HUU.out]
  refine HSM.out.mono ?_
  rintro e1 w1 ⟨rfl, hb1⟩
  have HK1 := Lib.hid hb1
  clear hb1 HSM p0 p1 p2 p3 p4 q0 q1 r0 r1 HUU
  obtain ⟨⟨p0, p1, p2, p3, p4⟩, ⟨q0, q1, _, _⟩, r0, r1, _, _⟩ := HB.out w1 HK1.out
  cases s with
  | false =>
    have HA := Lib.hid (HAW.out w1)
    go_wp2_with fail
    refine HA.out.mono ?_
    rintro e9 w9 ⟨rfl, hb9⟩
    have HE := Lib.hid (nextB HWU.out (nextB HK1.out hb9))
    clear hb9
    go_wp2
    go_ret
    exact ⟨rfl, HE.out⟩
  | true =>
    have HF := Lib.hid (HF1.out w1 HK1.out)
    go_wp2_with fail
    refine HF.out.mono ?_
    rintro e2 w2 ⟨rfl, hb2⟩
    have HK2 := Lib.hid (nextB HK1.out hb2)
    clear hb2 HF p0 p1 p2 p3 p4 q0 q1 r0 r1
    obtain ⟨⟨p0, p1, p2, p3, p4⟩, ⟨q0, q1, _, _⟩, r0, r1, _, _⟩ := HB.out w2 HK2.out
    cases f1 with
    | false =>
      have HA := Lib.hid (HAW.out w2)
      go_wp2_with fail
      refine HA.out.mono ?_
      rintro e9 w9 ⟨rfl, hb9⟩
      have HE := Lib.hid (nextB HWU.out (nextB HK2.out hb9))
      clear hb9
      go_wp2
      go_ret
      exact ⟨rfl, HE.out⟩
    | true =>
      have HF := Lib.hid (HF2.out w2 HK2.out)
      go_wp2_with fail
      refine HF.out.mono ?_
      rintro e3 w3 ⟨rfl, hb3⟩
      have HK3 := Lib.hid (nextB HK2.out hb3)
      clear hb3 HF p0 p1 p2 p3 p4 q0 q1 r0 r1
      obtain ⟨⟨p0, p1, p2, p3, p4⟩, ⟨q0, q1, _, _⟩, r0, r1, _, _⟩ := HB.out w3 HK3.out
      cases f2 with
      | false =>
        have HA := Lib.hid (HAW.out w3)
        go_wp2_with fail
        refine HA.out.mono ?_
        rintro e9 w9 ⟨rfl, hb9⟩
        have HE := Lib.hid (nextB HWU.out (nextB HK3.out hb9))
        clear hb9
        go_wp2
        go_ret
        exact ⟨rfl, HE.out⟩
      | true =>
        by_cases h40 : 40 < nq
        · have h40i : (40 : Int) < (nq : Int) := by omega
          have HA := Lib.hid (HAW.out w3)
          go_wp2_with fail
          refine HA.out.mono ?_
          rintro e9 w9 ⟨rfl, hb9⟩
          have HE := Lib.hid (nextB HWU.out (nextB HK3.out hb9))
          clear hb9
          go_wp2
          go_ret
          exact ⟨rfl, HE.out⟩
        · have h40i : ¬ (40 : Int) < (nq : Int) := by omega
          have HG := Lib.hid (HAG2.out w3 HK3.out (by trivial))
          go_wp2_with fail
          refine HG.out.mono ?_
          rintro e4 w4 ⟨rfl, hb4⟩
          have HK4 := Lib.hid (nextB HK3.out hb4)
          clear hb4 HG p0 p1 p2 p3 p4 q0 q1 r0 r1
          have HA := Lib.hid (HAW.out w4)
          go_wp2_with fail
          refine HA.out.mono ?_
          rintro e9 w9 ⟨rfl, hb9⟩
          have HE := Lib.hid (nextB HWU.out (nextB HK4.out hb9))
          clear hb9
          go_wp2
          go_ret
          exact ⟨rfl, HE.out⟩
end Go.Proofs.YtklndjkblfncjaaGreatDoor
