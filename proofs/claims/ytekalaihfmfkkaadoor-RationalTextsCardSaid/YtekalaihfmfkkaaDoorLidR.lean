/-
  A fraction among a call's arguments: what it looks like.
-/
import Derived.Test.YtekalaihfmfkkaaDoorLid
import Derived.Lib.SmallJoins
namespace Go.Proofs.YtekalaihfmfkkaaDoor
open Go.RowKit Go.Joins Go.WideShapes Go.ChangeShapes
set_option maxRecDepth 20000

theorem limbs_of {H : Type} {enc : TypeId × Value → H} {W : World} {v : Value} {fuel : Nat} {y : DataW H × List MemPlace} (hf : DataW.trod enc Tryd.prog W 0 (fun _ => true) true fuel 22 [v] = some y) : ∃ A n c x, v = .slice A n c ∧ Num W A n c x := by
  rcases open_ints Tryd.underlying22 Tryd.underlying45 (by kernel_rfl) hf with ⟨hcs, _⟩ | ⟨ad, n', c', zs, hcs, _, hl, hm, hz, _, hcell, hwz⟩
  · injection hcs with hcs _
    subst hcs
    exact ⟨_, _, _, _, rfl, [], Rd.nil W, rfl⟩
  · injection hcs with hcs _
    subst hcs
    simp at hz
    refine ⟨_, _, _, _, rfl, zs.take n', ⟨?_, ?_, hl, hm, fun hn => ⟨ad, rfl, ?_, fun i hi => ?_⟩⟩, rfl⟩
    · rw [List.length_take]; omega
    · intro x hx
      have := bounds_u32 (hwz x (List.mem_of_mem_take hx))
      omega
    · have h0 := World.block_lt_of_cell? W _ (hcell 0 (by omega))
      rwa [addr_block] at h0
    · rw [hcell i (by omega), List.getD_eq_getElem?_getD, List.getD_eq_getElem?_getD, List.getElem?_take_of_lt hi]

theorem open_rat {H : Type} {enc : TypeId × Value → H} {W : World} {base : Nat} {v : Value} {d : DataW H} {p : List MemPlace} (ok : Value.okWide Tryd.prog W .any base 24 v)
    (h : DataW.Trod enc Tryd.prog W 0 (fun _ => true) true 24 v d p) : ∃ s A n c B m e x y, v = .agg #[.bool s, .slice A n c, .slice B m e] ∧ Num W A n c x ∧ Num W B m e y := by
  obtain ⟨v0, v1, v2, y0, y1, y2, k, rfl, _, _, h0, h1, h2⟩ := open_agg3 Tryd.underlying24 (by kernel_rfl) (by kernel_rfl) ok h
  have h1' : DataW.trod enc Tryd.prog W 0 (fun _ => true) true k 22 [v1] = some y1 := h1
  have h2' : DataW.trod enc Tryd.prog W 0 (fun _ => true) true k 22 [v2] = some y2 := h2
  have h0' : DataW.trod enc Tryd.prog W 0 (fun _ => true) true k 4 [v0] = some y0 := h0
  obtain ⟨A, n, c, x, rfl, hx⟩ := limbs_of h1'
  obtain ⟨B, m, e, y, rfl, hy⟩ := limbs_of h2'
  obtain ⟨s, hs, _⟩ := DataW.trod_bool Tryd.underlying4 h0'
  injection hs with hs _
  subst hs
  exact ⟨_, _, _, _, _, _, _, _, _, rfl, hx, hy⟩
end Go.Proofs.YtekalaihfmfkkaaDoor
