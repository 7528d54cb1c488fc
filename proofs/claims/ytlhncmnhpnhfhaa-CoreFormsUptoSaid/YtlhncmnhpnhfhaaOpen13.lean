/-
  The last step of a statement's proof: from a walk that leaves all old memory as it was to what the row asks of the memory behind the call.
  A list of ints that comes in as an argument.
-/
import Derived.Test.YtlhncmnhpnhfhaaRows
import Derived.WalkKit
import Derived.ProofKit
import Derived.OpenShut
import Derived.Test.YtlhncmnhpnhfhaaSrc13
import Derived.ShutString
import Derived.ChangeOld
import Derived.Lib.SmallJoins
namespace Go.Proofs.Ytlhncmnhpnhfhaa
open Go.ChangeShapes Go.WideShapes Go.ChangeAt Go.RowKit
set_option maxRecDepth 20000

theorem ownKnob_none : ownKnob Try.prog.godebug = none := by kernel_rfl

/-- All that a row without 'again' asks, if nothing old has turned. -/
theorem post_kept {H : Type} {enc : TypeId × Value → H} {P : Program} {f : Func} {s : ChangeSpec} {apart fresh handsOn : Bool} {W W' : World} {args : Array Value} {v : Value} {ds gs : List (DataW H)} {before pa pv : List MemPlace}
    (whole : DataW.Whole enc P f.params.toList s.vars apart W args.toList ds gs before) (kept : Below W.heap.size W W')
    (result : ∀ (b : Nat) (sp : Nat → Bool) (hd : Bool), DataW.TrodAll enc P W' b sp hd f.resultTypes.toList (v.resultList f.resultTypes.size) (s.fn H (ds ++ gs)).results [])
    (inputs : DataW.TrodAll enc P W' 0 (fun b => decide (b < W.heap.size)) true f.params.toList args.toList (s.fn H (ds ++ gs)).args pa)
    (vars : DataW.TrodVars enc P W' (fun b => decide (b < W.heap.size)) s.vars (s.fn H (ds ++ gs)).vars pv) (places : before = pa ++ pv) :
    s.post enc P f apart fresh handsOn false W args v W' := by
  refine ⟨ds, gs, before, [], pa, pv, whole, result _ _ _, inputs, vars, World.keptBut_mono ?_ (kept.frame (· ∈ before)), ?_⟩
  · intro p hp
    refine ⟨hp, .inr ?_⟩
    rw [places] at hp
    exact List.mem_append.1 hp
  · intro h
    cases h

end Go.Proofs.Ytlhncmnhpnhfhaa

namespace Go.Proofs.Ytlhncmnhpnhfhaa
open Go.ChangeShapes Go.WideShapes Go.ChangeAt Go.RowKit
set_option maxRecDepth 20000

theorem laidOut : laidOutB Try.prog = true := by kernel_rfl

theorem trod_old {H : Type} {enc : TypeId × Value → H} {W : World} {t : TypeId} {v : Value} {d : DataW H} {p : List MemPlace} (h : DataW.Trod enc Try.prog W 0 (fun _ => true) true t v d p) : ∀ x ∈ p, x.block < W.heap.size := by
  obtain ⟨m, hm⟩ := h
  exact DataW.trod_lt m _ _ _ hm

theorem open_intlist {H : Type} {enc : TypeId × Value → H} {W : World} {base : Nat} {v : Value} {d : DataW H} {p : List MemPlace} (ok : Value.okWide Try.prog W .any base 28 v)
    (h : DataW.Trod enc Try.prog W 0 (fun _ => true) true 28 v d p) :
    ∃ A n c, v = .slice A n c ∧ n ≤ c ∧ c ≤ maxLen ∧ (0 < n → ∃ ad, A = some ad ∧ IntsAt W ad n (-9223372036854775808) 9223372036854775807) := by
  obtain ⟨A, n, c, rfl⟩ := okWide_slice Try.underlying28 ok
  obtain ⟨fuel, hf⟩ := h
  rcases open_ints Try.underlying28 Try.underlying3 (by kernel_rfl) hf with ⟨hcs, _⟩ | ⟨ad, n', c', zs, hcs, _, hl, hm, hz, _, hcell, hwz⟩
  · simp [Value.cells] at hcs
    obtain ⟨rfl, rfl, rfl⟩ := hcs
    exact ⟨_, _, _, rfl, Nat.le_refl _, Nat.zero_le _, fun h => absurd h (by omega)⟩
  · simp [Value.cells] at hcs
    obtain ⟨rfl, rfl, rfl⟩ := hcs
    simp at hz
    refine ⟨_, _, _, rfl, hl, hm, fun hn => ⟨ad, rfl, ?_, fun i hi => ⟨zs.getD i 0, hcell i (by omega), ?_⟩⟩⟩
    · have h0 := World.block_lt_of_cell? W _ (hcell 0 (by omega))
      rwa [addr_block] at h0
    · have hmem : zs.getD i 0 ∈ zs := by
        rw [List.getD_eq_getElem?_getD, List.getElem?_eq_getElem (by omega)]; exact List.getElem_mem _
      have := bounds_i64 (hwz _ hmem)
      omega

end Go.Proofs.Ytlhncmnhpnhfhaa
