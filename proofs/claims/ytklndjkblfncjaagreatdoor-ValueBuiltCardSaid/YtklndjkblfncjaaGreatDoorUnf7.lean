/-
  value.Unflatten on valid types, and as many cells as the type has.
-/
import Derived.Test.YtklndjkblfncjaaGreatDoorRd7
import Derived.Test.YtklndjkblfncjaaGreatDoorEq7
import Derived.Test.YtklndjkblfncjaaGreatDoorTyC
namespace Go.Proofs.YtklndjkblfncjaaGreatDoor
open Go Go.RowKit
set_option maxRecDepth 20000

def GivesUnf (d : Nat) (V : Vl) (l L : List Int) (w : World) (e : Ending) (w' : World) : Prop :=
  (l = L ∧ GivesVlOk d V w e w') ∨ (l ≠ L ∧ e = .returned (.tuple #[vlV (.mk 0 []) none 0 0, .int .i64 2]) ∧ Below w.heap.size w w')


set_option maxHeartbeats 8000000 in
theorem Unflatten_x (S : Nat → Prop) (d : Nat) (T : Ty) (A : Option Addr) (n c : Nat) (w : World) (h : TyRd S w d T A n c) (hg : Good d T) (hk : T.k ≠ 4) (Q : Option Addr) (nq qq : Nat) (L : List Int) (hr : IntRd w.heap.size w Q nq qq L) (hlen : L.length = twidth d T) (V : Vl) (hV : vval d T L = V) (hve : verr d T V = 0) (hvl : (vflat d T V).length ≤ 1000) :
    Calls Tryz.prog 17 #[tyV T A n c, .slice Q nq qq] w (GivesUnf d V (vflat d T V) L w) := by
  obtain ⟨v, hvv⟩ : ∃ v, (w.alloc (.cells #[.int .i64 T.k, .int .i64 T.lo, .int .i64 T.hi, .int .i64 T.mx, .slice A n c] 24)).alloc (.cells #[.int .i64 0, .slice none 0 0] 27) = v := ⟨_, rfl⟩
  obtain ⟨hvs, hwv, hbx⟩ := boxes_tv w _ _ _ _ _ _ _ _ _ v hvv
  have hnq : twidth d T = nq := by rw [← hlen]; exact hr.len
  have HF := Lib.hid (typeFault_x S d T A n c v (h.below hwv) hg hk)
  have HT : ∀ W, Below v.heap.size v W → TyRd S W d T A n c := fun W hW => h.below (nextB hwv hW)
  have HQ : ∀ W, Below v.heap.size v W → IntRd w.heap.size W Q nq qq L := fun W hW => hr.below (nextB hwv hW) (Nat.le_refl _)
  have HK : Hid (∀ W, Below v.heap.size v W → Calls Tryz.prog 34 #[tyV T A n c] W (GivesKinds nq W)) := fun W hW => by
    have := Cells_x S d T A n c W (HT W hW) hg
    rwa [hnq] at this
  have HR : Hid (∀ W, Below v.heap.size v W → Calls Tryz.prog 35 #[tyV T A n c, .slice Q nq qq] W (GivesRead w.heap.size d V (L.drop (twidth d T)) W)) := fun W hW => by
    have := read_x d w.heap.size S T A n c Q nq qq L W (HT W hW) hg.ok (nextB hwv hW).size (HQ W hW) (by omega)
    rwa [hV] at this
  have HVF : Hid (∀ W, Below v.heap.size v W → ∀ B m q (S' : Nat → Prop), VlRd S' W d V B m q → Calls Tryz.prog 36 #[tyV T A n c, vlV V B m q] W (FaultIs 0 W)) := fun W hW B m q S' hv => by
    have := vfault_x d S T A n c W (HT W hW) hg.ok S' d V B m q hv
    rwa [hve] at this
  have HC : Hid (∀ W, Below v.heap.size v W → ∀ B m q (S' : Nat → Prop), VlRd S' W d V B m q → Calls Tryz.prog 32 #[.slice none 0 0, tyV T A n c, vlV V B m q] W (GivesInts (vflat d T V) none W)) := fun W hW B m q S' hv => by
    have := cells_x d S T A n c S' d V B m q none 0 0 [] W (HT W hW) hg.ok hv hve (fun b _ a ha => by cases ha) (fun b _ a ha => by cases ha) (IntOwn.nil W) (by simpa using hvl)
    simpa using this
  have HE : Hid (∀ W, Below v.heap.size v W → ∀ Q' n' q', IntOwn W Q' n' q' (vflat d T V) → Calls Tryz.prog 37 #[.slice Q' n' q', .slice Q nq qq] W fun e w' => e = .returned (.bool (decide (vflat d T V = L))) ∧ Below W.heap.size W w') := fun W hW Q' n' q' hO =>
    equal_ints W.heap.size Q' Q n' q' nq qq _ _ W (Nat.le_refl _) (hO.rd fun a ha => (row_lt hO.row a ha).2) (by
      have h1 := HQ W hW
      exact ⟨h1.len, h1.cap, h1.top, fun hn => by
        obtain ⟨g, o, e, hg, hat⟩ := h1.at_ hn
        exact ⟨g, o, e, Nat.lt_of_lt_of_le hg (nextB hwv hW).size, hat⟩⟩)
  have HBX := Lib.hid hbx
  have HVV := Lib.hid hvv
  have HWV := Lib.hid hwv
  have HVS := Lib.hid hvs
  clear h hg hk hvv hbx hwv hvs hV hve hvl HT HQ hr hlen hnq
  generalize L.drop (twidth d T) = L0 at HR
  generalize vflat d T V = l at *
  go_enter Tryz.func17, Tryz.ntmps17
  go_wp2_with fail
  rw [HVV.out]
  refine HF.out.mono ?_
  rintro e1 w1 ⟨rfl, hb1⟩
  obtain ⟨⟨p0, p1, p2, p3, p4⟩, _⟩ := HBX.out w1 hb1
  have HK1 := Lib.hid (HK.out w1 hb1)
  clear HF HK
  go_wp2_with fail
  refine HK1.out.mono ?_
  rintro e2 w2 ⟨Q2, q2, rfl, hb2⟩
  have hk2 := nextB hb1 hb2
  clear p0 p1 p2 p3 p4 HK1 hb1 hb2
  obtain ⟨⟨p0, p1, p2, p3, p4⟩, _⟩ := HBX.out w2 hk2
  have HR2 := Lib.hid (HR.out w2 hk2)
  clear HR
  go_wp2_with fail
  refine HR2.out.mono ?_
  rintro e3 w3 ⟨B, m, q, Q3, n3, k3, rfl, hV3, _, hb3⟩
  have hk3 := nextB hk2 hb3
  obtain ⟨u, hu⟩ : ∃ u, w3.alloc (.cells #[.int .i64 V.i, .slice B m q] 27) = u := ⟨_, rfl⟩
  have h3u : Below w3.heap.size w3 u := hu ▸ allocB _ _
  have hku := nextB hk3 h3u
  have hbu : Box2 u w3.heap.size (.int .i64 V.i) (.slice B m q) := hu ▸ box2_new _ _ _ _
  have hsu : w3.heap.size < u.heap.size := World.block_lt_of_cell? u _ hbu.1
  have HVU := Lib.hid (hV3.below h3u)
  have HBU := Lib.hid hbu
  have HV1 := Lib.hid (HVF.out u hku _ _ _ _ HVU.out)
  have hs2 := hk2.size
  have hs3 := hb3.size
  obtain ⟨y0, y1, _, _⟩ := hbu
  clear p0 p1 p2 p3 p4 HR2 hb3 hV3 HVF
  obtain ⟨⟨p0, p1, p2, p3, p4⟩, _⟩ := HBX.out u hku
  have HKU := Lib.hid hku
  have HSU := Lib.hid hsu
  clear hku hsu h3u
  subst hu
  go_wp2_with fail
  refine HV1.out.mono ?_
  rintro e4 w4 ⟨rfl, hb4⟩
  have hk4 := nextB HKU.out hb4
  have HV4 := Lib.hid (HVU.out.below hb4)
  have hB4 := HBU.out.below hb4 HSU.out
  have HC4 := Lib.hid (HC.out w4 hk4 _ _ _ _ HV4.out)
  have hs4 : w3.heap.size < w4.heap.size := Nat.lt_of_lt_of_le HSU.out hb4.size
  have HB4 := Lib.hid hB4
  obtain ⟨y0, y1, _, _⟩ := hB4
  clear p0 p1 p2 p3 p4 HV1 hb4 HC HVU HBU HSU HKU
  obtain ⟨⟨p0, p1, p2, p3, p4⟩, _⟩ := HBX.out w4 hk4
  go_wp2_with fail
  refine HC4.out.mono ?_
  rintro e5 w5 ⟨Q5, n5, q5, rfl, hO5, _, hK5⟩
  have hb5 : Below w4.heap.size w4 w5 := hK5.below rfl
  have hk5 := nextB hk4 hb5
  have HV5 := Lib.hid (HV4.out.below hb5)
  have HB5 := Lib.hid (HB4.out.below hb5 hs4)
  have hs5 : w3.heap.size < w5.heap.size := Nat.lt_of_lt_of_le hs4 hb5.size
  have HE5 := Lib.hid (HE.out w5 hk5 _ _ _ hO5)
  clear p0 p1 p2 p3 p4 y0 y1 HC4 hb5 hK5 hO5 HV4 HB4 HE hs4
  go_wp2_with fail
  refine HE5.out.mono ?_
  rintro e6 w6 ⟨rfl, hb6⟩
  have hk6 := nextB hk5 hb6
  have HV6 := Lib.hid (HV5.out.below hb6)
  have hB6 := HB5.out.below hb6 hs5
  obtain ⟨_, r0, r1, f0, f1⟩ := HBX.out w6 hk6
  obtain ⟨y0, y1, _, _⟩ := hB6
  have hvs6 := hk6.size
  have HWB := Lib.hid (nextB HWV.out hk6)
  have HBB : Hid (∀ z0 z1, Below w.heap.size w ((w6.setCell ⟨w.heap.size + 1, 0, none⟩ z0).setCell ⟨w.heap.size + 1, 1, none⟩ z1)) := fun z0 z1 => (HWB.out.setCell (p := ⟨w.heap.size + 1, 0, none⟩) (by simp) z0).setCell (p := ⟨w.heap.size + 1, 1, none⟩) (by simp) z1
  have HVE : Hid (∀ z0 z1, VlRd (fun b => w.heap.size ≤ b) ((w6.setCell ⟨w.heap.size + 1, 0, none⟩ z0).setCell ⟨w.heap.size + 1, 1, none⟩ z1) d V B m q) := fun z0 z1 => ((HV6.out.set (fun z hz => by have := HVS.out; omega)).set (fun z hz => by have := HVS.out; omega)).in fun b hb => by have := HVS.out; omega
  clear HE5 HB5 HV5 hb6 hk5 hk4 hk3 hk2
  by_cases hlL : l = L
  · have hd : decide (l = L) = true := by simpa using hlL
    rw [hd]
    clear hd
    go_wp2
    refine bodyPost_ret (v := .tuple #[vlV V B m q, .int .i64 0]) (by simp [results, Tryz.results17, go_sem, r0, r1]) rfl (Or.inl ⟨hlL, B, m, q, rfl, HVE.out _ _, HBB.out _ _⟩)
  · have hd : decide (l = L) = false := by simpa using hlL
    rw [hd]
    clear hd
    go_wp2
    refine bodyPost_ret (v := .tuple #[vlV (.mk 0 []) none 0 0, .int .i64 2]) (by simp [results, Tryz.results17, go_sem, r0, r1, Vl.i]) rfl (Or.inr ⟨hlL, rfl, ?_⟩)
    first | exact HBB.out _ _ | exact HWB.out | exact HBB.out (.int .i64 0) (.slice none 0 0)
end Go.Proofs.YtklndjkblfncjaaGreatDoor
