/-
  The last step of a statement's proof: from a walk that leaves all old memory as it was to what the row asks of the memory behind the call.
-/
import Derived.Test.YtekalaihfmfkkaaGreatDoorRows
import Derived.WalkKit
import Derived.ProofKit
import Derived.OpenShut
namespace Go.Proofs.YtekalaihfmfkkaaGreatDoor
open Go.ChangeShapes Go.WideShapes Go.ChangeAt Go.RowKit
set_option maxRecDepth 20000

theorem ownKnob_none : ownKnob Tryz.prog.godebug = none := by kernel_rfl

/-- All that a row without 'again' asks, if nothing old has turned. -/
theorem post_kept {H : Type} {enc : TypeId × Value → H} {P : Program} {f : Func} {s : ChangeSpec} {apart fresh handsOn : Bool} {W W' : World} {args : Array Value} {v : Value} {ds gs : List (DataW H)} {before pa pv : List MemPlace}
    (whole : DataW.Whole enc P f.params.toList s.vars apart W args.toList ds gs before) (kept : Below W.heap.size W W')
    (result : ∀ (b : Nat) (sp : Nat → Bool) (hd : Bool), DataW.TrodAll enc P W' b sp hd f.resultTypes.toList (v.resultList f.resultTypes.size) (s.fn H (ds ++ gs)).results [])
    (inputs : DataW.TrodAll enc P W' 0 (fun b => decide (b < W.heap.size)) true f.params.toList args.toList (s.fn H (ds ++ gs)).args pa)
    (vars : DataW.TrodVars enc P W' (fun b => decide (b < W.heap.size)) s.vars (s.fn H (ds ++ gs)).vars pv) (places : before = pa ++ pv) :
    s.post enc P f apart fresh handsOn false W args v W' := by
  refine ⟨ds, gs, before, [], pa, pv, whole, result _ _ _, inputs, vars, World.keptBut_mono ?_ (kept.frame (· ∈ before)), ?_⟩
  · intro p hp
    refine ⟨hp, .inr ?_⟩
    rw [places] at hp
    exact List.mem_append.1 hp
  · intro h
    cases h

end Go.Proofs.YtekalaihfmfkkaaGreatDoor
