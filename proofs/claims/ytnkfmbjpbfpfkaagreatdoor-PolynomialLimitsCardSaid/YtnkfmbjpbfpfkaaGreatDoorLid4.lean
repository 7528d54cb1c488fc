/-
  What the proofs of layer 3's tied cards share: the four listed variables at the door, and what natural.noStep says of memory.
-/
import Derived.Test.YtnkfmbjpbfpfkaaGreatDoorOpen
import Derived.Test.YtnkfmbjpbfpfkaaGreatDoorGcdN
import Derived.Test.YtnkfmbjpbfpfkaaGreatDoorSrc
import Derived.Test.YtnkfmbjpbfpfkaaGreatDoorCards
import Derived.Test.YtnkfmbjpbfpfkaaGreatDoorTie
import Derived.LaidMore
import Derived.MakeChecks
import Derived.Stop.Joined
import Derived.SevenTiedAt
import Derived.Lib.SmallJoins
namespace Go.Proofs.YtnkfmbjpbfpfkaaGreatDoor
open Go Go.ChangeShapes Go.WideShapes Go.ChangeAt Go.RowKit
set_option maxRecDepth 20000

abbrev laidNo : List (String × DataW Unit) := [("math/bits.deBruijn32tab", Rows.laid_math_bits_deBruijn32tab), ("math/bits.deBruijn64tab", Rows.laid_math_bits_deBruijn64tab), ("internal/strconv.uint64pow10", Rows.laid_internal_strconv_uint64pow10), ("exactppl/natural.noStep", Rows.laid_exactppl_natural_noStep)]

theorem gNo : Tryz.prog.globalNamed "exactppl/natural.noStep" = some 0 := by kernel_rfl
theorem tNo : (Tryz.prog.globals[0]?).map (·.type) = some 180 := by kernel_rfl

theorem door_met (os : Os) (args : Array Value) : laidMetH Tryz.prog laidNo ((World.doorLaid Tryz.prog 400 os).forCall (fun _ _ => 0) ⟨#[], args, []⟩).memory :=
  laidMetH_of_parts3 (fuel := 8) (laidMet_of_run' 8 (by kernel_rfl) (by kernel_rfl)) (by kernel_rfl) (by kernel_rfl)

theorem of_laid {W : World} (h : laidMetH Tryz.prog laidNo W) : Laid W := by
  rw [MakeChecks.laidMetH_plain _ _ _ (by kernel_rfl)] at h
  obtain ⟨ps, ⟨_, _, _, _, _, _, _, _, _, _, ⟨_, _, _, _, _, _, _, _, _, _, ⟨_, _, _, _, _, _, _, _, _, _, ⟨g0, t0, cs0, f0, p0, q0, hg0, ht0, hv0, hd0, _, _⟩, _⟩, _⟩, _⟩, _, _⟩ := h
  obtain rfl := Option.some.inj (gNo.symm.trans hg0)
  obtain rfl := Option.some.inj (tNo.symm.trans ht0)
  obtain ⟨xs, m1, rfl, hx1, hlen, hn4, hel⟩ := DataW.trod_struct Tryz.underlying180 hd0
  have c4 : Tryz.prog.cellsOf 180 = 4 := by kernel_rfl
  have c1 : Tryz.prog.cellsOf 2 = 1 := by kernel_rfl
  rw [c4] at hlen
  have hn4' : xs.length = 4 := hn4
  have h0 := hel 0 _ rfl
  have h1 := hel 1 _ rfl
  have h2 := hel 2 _ rfl
  have h3 := hel 3 _ rfl
  obtain ⟨l⟩ := cs0
  have hc0 := World.var?_cell hg0 hv0 0
  have hc1 := World.var?_cell hg0 hv0 1
  have hc2 := World.var?_cell hg0 hv0 2
  have hc3 := World.var?_cell hg0 hv0 3
  simp only [Rows.laid_exactppl_natural_noStep, Prod.mk.injEq, DataW.agg.injEq] at hx1
  match l, hlen, xs, hn4', hx1, h0, h1, h2, h3, hc0, hc1, hc2, hc3 with
  | [a0, a1, a2, a3], _, [x0, x1, x2, x3], _, hx1, h0, h1, h2, h3, hc0, hc1, hc2, hc3 =>
    replace h0 : DataW.trod (fun _ => ()) Tryz.prog W 0 (fun _ => true) false m1 2 (List.take (Tryz.prog.cellsOf 2) (List.drop 0 [a0, a1, a2, a3])) = some x0 := h0
    replace h1 : DataW.trod (fun _ => ()) Tryz.prog W 0 (fun _ => true) false m1 2 (List.take (Tryz.prog.cellsOf 2) (List.drop 1 [a0, a1, a2, a3])) = some x1 := h1
    replace h2 : DataW.trod (fun _ => ()) Tryz.prog W 0 (fun _ => true) false m1 2 (List.take (Tryz.prog.cellsOf 2) (List.drop 2 [a0, a1, a2, a3])) = some x2 := h2
    replace h3 : DataW.trod (fun _ => ()) Tryz.prog W 0 (fun _ => true) false m1 2 (List.take (Tryz.prog.cellsOf 2) (List.drop 3 [a0, a1, a2, a3])) = some x3 := h3
    rw [c1] at h0 h1 h2 h3
    obtain ⟨k0, e0, f0, _⟩ := DataW.trod_int Tryz.underlying2 h0
    obtain ⟨k1, e1, f1, _⟩ := DataW.trod_int Tryz.underlying2 h1
    obtain ⟨k2, e2, f2, _⟩ := DataW.trod_int Tryz.underlying2 h2
    obtain ⟨k3, e3, f3, _⟩ := DataW.trod_int Tryz.underlying2 h3
    subst f0 f1 f2 f3
    simp at e0 e1 e2 e3
    subst e0 e1 e2 e3
    simp at hx1
    obtain ⟨⟨r0, r1, r2, r3⟩, _⟩ := hx1
    subst r0 r1 r2 r3
    exact ⟨World.block_lt_of_cell? W ⟨0, 0, none⟩ hc0, hc0, hc1, hc2, hc3⟩

theorem open_intlist {H : Type} {enc : TypeId × Value → H} {W : World} {base : Nat} {v : Value} {d : DataW H} {p : List MemPlace} (ok : Value.okWide Tryz.prog W .any base 22 v)
    (h : DataW.Trod enc Tryz.prog W 0 (fun _ => true) true 22 v d p) :
    ∃ A n c, v = .slice A n c ∧ n ≤ c ∧ c ≤ maxLen ∧ (0 < n → ∃ ad, A = some ad ∧ IntsAt W ad n (-9223372036854775808) 9223372036854775807) := by
  obtain ⟨A, n, c, rfl⟩ := okWide_slice Tryz.underlying22 ok
  obtain ⟨fuel, hf⟩ := h
  rcases open_ints Tryz.underlying22 Tryz.underlying3 (by kernel_rfl) hf with ⟨hcs, _⟩ | ⟨ad, n', c', zs, hcs, _, hl, hm, hz, _, hcell, hwz⟩
  · simp [Value.cells] at hcs
    obtain ⟨rfl, rfl, rfl⟩ := hcs
    exact ⟨_, _, _, rfl, Nat.le_refl _, Nat.zero_le _, fun h => absurd h (by omega)⟩
  · simp [Value.cells] at hcs
    obtain ⟨rfl, rfl, rfl⟩ := hcs
    simp at hz
    refine ⟨_, _, _, rfl, hl, hm, fun hn => ⟨ad, rfl, ?_, fun i hi => ⟨zs.getD i 0, hcell i (by omega), ?_⟩⟩⟩
    · have h0 := World.block_lt_of_cell? W _ (hcell 0 (by omega))
      rwa [addr_block] at h0
    · have hmem : zs.getD i 0 ∈ zs := by
        rw [List.getD_eq_getElem?_getD, List.getElem?_eq_getElem (by omega)]; exact List.getElem_mem _
      have := bounds_i64 (hwz _ hmem)
      omega
end Go.Proofs.YtnkfmbjpbfpfkaaGreatDoor
