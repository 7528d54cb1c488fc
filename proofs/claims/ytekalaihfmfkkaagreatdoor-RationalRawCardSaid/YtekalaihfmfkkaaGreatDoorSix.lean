/-
  A fraction among a call's arguments: what it looks like.
  Six arguments of a call, taken apart.
-/
import Derived.Test.YtekalaihfmfkkaaGreatDoorLid
import Derived.Lib.SmallJoins
namespace Go.Proofs.YtekalaihfmfkkaaGreatDoor
open Go.RowKit Go.Joins Go.WideShapes Go.ChangeShapes
set_option maxRecDepth 20000

theorem limbs_of {H : Type} {enc : TypeId × Value → H} {W : World} {v : Value} {fuel : Nat} {y : DataW H × List MemPlace} (hf : DataW.trod enc Tryz.prog W 0 (fun _ => true) true fuel 22 [v] = some y) : ∃ A n c x, v = .slice A n c ∧ Num W A n c x := by
  rcases open_ints Tryz.underlying22 Tryz.underlying92 (by kernel_rfl) hf with ⟨hcs, _⟩ | ⟨ad, n', c', zs, hcs, _, hl, hm, hz, _, hcell, hwz⟩
  · injection hcs with hcs _
    subst hcs
    exact ⟨_, _, _, _, rfl, [], Rd.nil W, rfl⟩
  · injection hcs with hcs _
    subst hcs
    simp at hz
    refine ⟨_, _, _, _, rfl, zs.take n', ⟨?_, ?_, hl, hm, fun hn => ⟨ad, rfl, ?_, fun i hi => ?_⟩⟩, rfl⟩
    · rw [List.length_take]; omega
    · intro x hx
      have := bounds_u32 (hwz x (List.mem_of_mem_take hx))
      omega
    · have h0 := World.block_lt_of_cell? W _ (hcell 0 (by omega))
      rwa [addr_block] at h0
    · rw [hcell i (by omega), List.getD_eq_getElem?_getD, List.getD_eq_getElem?_getD, List.getElem?_take_of_lt hi]

theorem open_rat {H : Type} {enc : TypeId × Value → H} {W : World} {base : Nat} {v : Value} {d : DataW H} {p : List MemPlace} (ok : Value.okWide Tryz.prog W .any base 24 v)
    (h : DataW.Trod enc Tryz.prog W 0 (fun _ => true) true 24 v d p) : ∃ s A n c B m e x y, v = .agg #[.bool s, .slice A n c, .slice B m e] ∧ Num W A n c x ∧ Num W B m e y := by
  obtain ⟨v0, v1, v2, y0, y1, y2, k, rfl, _, _, h0, h1, h2⟩ := open_agg3 Tryz.underlying24 (by kernel_rfl) (by kernel_rfl) ok h
  have h1' : DataW.trod enc Tryz.prog W 0 (fun _ => true) true k 22 [v1] = some y1 := h1
  have h2' : DataW.trod enc Tryz.prog W 0 (fun _ => true) true k 22 [v2] = some y2 := h2
  have h0' : DataW.trod enc Tryz.prog W 0 (fun _ => true) true k 4 [v0] = some y0 := h0
  obtain ⟨A, n, c, x, rfl, hx⟩ := limbs_of h1'
  obtain ⟨B, m, e, y, rfl, hy⟩ := limbs_of h2'
  obtain ⟨s, hs, _⟩ := DataW.trod_bool Tryz.underlying4 h0'
  injection hs with hs _
  subst hs
  exact ⟨_, _, _, _, _, _, _, _, _, rfl, hx, hy⟩
end Go.Proofs.YtekalaihfmfkkaaGreatDoor

namespace Go.Proofs.YtekalaihfmfkkaaGreatDoor
open Go Go.ChangeShapes Go.WideShapes Go.ChangeAt Go.RowKit

theorem trodAll_six {H : Type} {enc : TypeId × Value → H} {P : Program} {w : World} {base : Nat} {spare : Nat → Bool} {held : Bool} {t0 t1 t2 t3 t4 t5 : TypeId} {args : Array Value} {ds : List (DataW H)} {ps : List MemPlace} (h : DataW.TrodAll enc P w base spare held [t0, t1, t2, t3, t4, t5] args.toList ds ps) :
    ∃ v0 v1 v2 v3 v4 v5 d0 d1 d2 d3 d4 d5 p0 p1 p2 p3 p4 p5, args = #[v0, v1, v2, v3, v4, v5] ∧ ds = [d0, d1, d2, d3, d4, d5] ∧ ps = p0 ++ p1 ++ p2 ++ p3 ++ p4 ++ p5 ∧
      DataW.Trod enc P w base spare held t0 v0 d0 p0 ∧ DataW.Trod enc P w base spare held t1 v1 d1 p1 ∧ DataW.Trod enc P w base spare held t2 v2 d2 p2 ∧ DataW.Trod enc P w base spare held t3 v3 d3 p3 ∧ DataW.Trod enc P w base spare held t4 v4 d4 p4 ∧ DataW.Trod enc P w base spare held t5 v5 d5 p5 := by
  obtain ⟨v0, vs0, d0, ds0, p0, q0, hargs, rfl, rfl, h0, r0⟩ := trodAll_cons h
  obtain ⟨v1, vs1, d1, ds1, p1, q1, rfl, rfl, rfl, h1, r1⟩ := trodAll_cons r0
  obtain ⟨v2, vs2, d2, ds2, p2, q2, rfl, rfl, rfl, h2, r2⟩ := trodAll_cons r1
  obtain ⟨v3, vs3, d3, ds3, p3, q3, rfl, rfl, rfl, h3, r3⟩ := trodAll_cons r2
  obtain ⟨v4, vs4, d4, ds4, p4, q4, rfl, rfl, rfl, h4, r4⟩ := trodAll_cons r3
  obtain ⟨v5, vs5, d5, ds5, p5, q5, rfl, rfl, rfl, h5, r5⟩ := trodAll_cons r4
  obtain ⟨rfl, rfl, rfl⟩ := trodAll_nil r5
  exact ⟨v0, v1, v2, v3, v4, v5, d0, d1, d2, d3, d4, d5, p0, p1, p2, p3, p4, p5, by cases args; simp_all, rfl, by simp, h0, h1, h2, h3, h4, h5⟩
end Go.Proofs.YtekalaihfmfkkaaGreatDoor
