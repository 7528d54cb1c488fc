/-
  A slice of limbs that comes in as an argument: what it stands for.
-/
import Derived.Test.YtekalaihfmfkkaaGreatDoorSame
import Derived.Test.YtekalaihfmfkkaaGreatDoorRow
import Derived.ShutString
import Derived.ChangeOld
namespace Go.Proofs.YtekalaihfmfkkaaGreatDoor
open Go.ChangeShapes Go.WideShapes Go.ChangeAt Go.RowKit
set_option maxRecDepth 20000

theorem laidOut : laidOutB Tryz.prog = true := by kernel_rfl

theorem open_limbs {H : Type} {enc : TypeId × Value → H} {W : World} {base : Nat} {v : Value} {d : DataW H} {p : List MemPlace} (ok : Value.okWide Tryz.prog W .any base 22 v)
    (h : DataW.Trod enc Tryz.prog W 0 (fun _ => true) true 22 v d p) : ∃ A n c x, v = .slice A n c ∧ Num W A n c x := by
  obtain ⟨A, n, c, rfl⟩ := okWide_slice Tryz.underlying22 ok
  obtain ⟨fuel, hf⟩ := h
  rcases open_ints Tryz.underlying22 Tryz.underlying92 (by kernel_rfl) hf with ⟨hcs, _⟩ | ⟨ad, n', c', zs, hcs, _, hl, hm, hz, _, hcell, hwz⟩
  · simp [Value.cells] at hcs
    obtain ⟨rfl, rfl, rfl⟩ := hcs
    exact ⟨_, _, _, _, rfl, [], Rd.nil W, rfl⟩
  · simp [Value.cells] at hcs
    obtain ⟨rfl, rfl, rfl⟩ := hcs
    simp at hz
    refine ⟨_, _, _, _, rfl, zs.take n, ⟨?_, ?_, hl, hm, fun hn => ⟨ad, rfl, ?_, fun i hi => ?_⟩⟩, rfl⟩
    · rw [List.length_take]; omega
    · intro x hx
      have := bounds_u32 (hwz x (List.mem_of_mem_take hx))
      omega
    · have h0 := World.block_lt_of_cell? W _ (hcell 0 (by omega))
      rwa [addr_block] at h0
    · rw [hcell i (by omega), List.getD_eq_getElem?_getD, List.getD_eq_getElem?_getD, List.getElem?_take_of_lt hi]

theorem trod_old {H : Type} {enc : TypeId × Value → H} {W : World} {t : TypeId} {v : Value} {d : DataW H} {p : List MemPlace} (h : DataW.Trod enc Tryz.prog W 0 (fun _ => true) true t v d p) : ∀ x ∈ p, x.block < W.heap.size := by
  obtain ⟨m, hm⟩ := h
  exact DataW.trod_lt m _ _ _ hm

end Go.Proofs.YtekalaihfmfkkaaGreatDoor
