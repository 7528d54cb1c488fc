/-
  The last step of a statement's proof, and what the proofs of layer 9's tied cards share: the six listed variables at the door, and what natural.noStep and strconv.ErrRange say of memory.
-/
import Derived.Test.YtggdhgppclnckaaGreatDoorRows
import Derived.WalkKit
import Derived.ProofKit
import Derived.OpenShut
import Derived.ShutString
import Derived.ChangeOld
import Derived.Test.YtggdhgppclnckaaGreatDoorAw9
import Derived.Test.YtggdhgppclnckaaGreatDoorCards
import Derived.Test.YtggdhgppclnckaaGreatDoorTie
import Derived.LaidMore
import Derived.MakeChecks
import Derived.Stop.Joined
import Derived.SevenTiedAt
import Derived.Lib.SmallJoins
import Derived.Stop.LaidErr
namespace Go.Proofs.YtggdhgppclnckaaGreatDoor
open Go.ChangeShapes Go.WideShapes Go.ChangeAt Go.RowKit
set_option maxRecDepth 20000

theorem ownKnob_none : ownKnob Tryz.prog.godebug = none := by kernel_rfl

/-- All that a row without 'again' asks, if nothing old has turned. -/
theorem post_kept {H : Type} {enc : TypeId × Value → H} {P : Program} {f : Func} {s : ChangeSpec} {apart fresh handsOn : Bool} {W W' : World} {args : Array Value} {v : Value} {ds gs : List (DataW H)} {before pa pv : List MemPlace}
    (whole : DataW.Whole enc P f.params.toList s.vars apart W args.toList ds gs before) (kept : Below W.heap.size W W')
    (result : ∀ (b : Nat) (sp : Nat → Bool) (hd : Bool), DataW.TrodAll enc P W' b sp hd f.resultTypes.toList (v.resultList f.resultTypes.size) (s.fn H (ds ++ gs)).results [])
    (inputs : DataW.TrodAll enc P W' 0 (fun b => decide (b < W.heap.size)) true f.params.toList args.toList (s.fn H (ds ++ gs)).args pa)
    (vars : DataW.TrodVars enc P W' (fun b => decide (b < W.heap.size)) s.vars (s.fn H (ds ++ gs)).vars pv) (places : before = pa ++ pv) :
    s.post enc P f apart fresh handsOn false W args v W' := by
  refine ⟨ds, gs, before, [], pa, pv, whole, result _ _ _, inputs, vars, World.keptBut_mono ?_ (kept.frame (· ∈ before)), ?_⟩
  · intro p hp
    refine ⟨hp, .inr ?_⟩
    rw [places] at hp
    exact List.mem_append.1 hp
  · intro h
    cases h

end Go.Proofs.YtggdhgppclnckaaGreatDoor

namespace Go.Proofs.YtggdhgppclnckaaGreatDoor
open Go.ChangeShapes Go.WideShapes Go.ChangeAt Go.RowKit
set_option maxRecDepth 20000

end Go.Proofs.YtggdhgppclnckaaGreatDoor

namespace Go.Proofs.YtggdhgppclnckaaGreatDoor
open Go Go.ChangeShapes Go.WideShapes Go.ChangeAt Go.RowKit
set_option maxRecDepth 20000

abbrev laidNo : List (String × DataW Unit) := [("math/bits.deBruijn32tab", Rows.laid_math_bits_deBruijn32tab), ("math/bits.deBruijn64tab", Rows.laid_math_bits_deBruijn64tab), ("internal/strconv.uint64pow10", Rows.laid_internal_strconv_uint64pow10), ("exactppl/natural.noStep", Rows.laid_exactppl_natural_noStep), ("strconv.ErrRange", Rows.laid_strconv_ErrRange), ("strconv.ErrSyntax", Rows.laid_strconv_ErrSyntax)]

theorem gNo : Tryz.prog.globalNamed "exactppl/natural.noStep" = some 4 := by kernel_rfl
theorem tNo : (Tryz.prog.globals[4]?).map (·.type) = some 265 := by kernel_rfl

theorem door_met (os : Os) (args : Array Value) : laidMetH Tryz.prog laidNo ((World.doorLaid Tryz.prog 400 os).forCall (fun _ _ => 0) ⟨#[], args, []⟩).memory :=
  laidMetH_of_parts3 (fuel := 8) (laidMet_of_run' 8 (by kernel_rfl) (by kernel_rfl)) (by kernel_rfl) (by kernel_rfl)

theorem of_laid0 {W : World} (h : laidMetH Tryz.prog laidNo W) : Q.Laid W := by
  rw [MakeChecks.laidMetH_plain _ _ _ (by kernel_rfl)] at h
  obtain ⟨ps, ⟨_, _, _, _, _, _, _, _, _, _, ⟨_, _, _, _, _, _, _, _, _, _, ⟨_, _, _, _, _, _, _, _, _, _, ⟨g0, t0, cs0, f0, p0, q0, hg0, ht0, hv0, hd0, _, _⟩, _⟩, _⟩, _⟩, _, _⟩ := h
  obtain rfl := Option.some.inj (gNo.symm.trans hg0)
  obtain rfl := Option.some.inj (tNo.symm.trans ht0)
  obtain ⟨xs, m1, rfl, hx1, hlen, hn4, hel⟩ := DataW.trod_struct Tryz.underlying265 hd0
  have c4 : Tryz.prog.cellsOf 265 = 4 := by kernel_rfl
  have c1 : Tryz.prog.cellsOf 2 = 1 := by kernel_rfl
  rw [c4] at hlen
  have hn4' : xs.length = 4 := hn4
  have h0 := hel 0 _ rfl
  have h1 := hel 1 _ rfl
  have h2 := hel 2 _ rfl
  have h3 := hel 3 _ rfl
  obtain ⟨l⟩ := cs0
  have hc0 := World.var?_cell hg0 hv0 0
  have hc1 := World.var?_cell hg0 hv0 1
  have hc2 := World.var?_cell hg0 hv0 2
  have hc3 := World.var?_cell hg0 hv0 3
  simp only [Rows.laid_exactppl_natural_noStep, Prod.mk.injEq, DataW.agg.injEq] at hx1
  match l, hlen, xs, hn4', hx1, h0, h1, h2, h3, hc0, hc1, hc2, hc3 with
  | [a0, a1, a2, a3], _, [x0, x1, x2, x3], _, hx1, h0, h1, h2, h3, hc0, hc1, hc2, hc3 =>
    replace h0 : DataW.trod (fun _ => ()) Tryz.prog W 0 (fun _ => true) false m1 2 (List.take (Tryz.prog.cellsOf 2) (List.drop 0 [a0, a1, a2, a3])) = some x0 := h0
    replace h1 : DataW.trod (fun _ => ()) Tryz.prog W 0 (fun _ => true) false m1 2 (List.take (Tryz.prog.cellsOf 2) (List.drop 1 [a0, a1, a2, a3])) = some x1 := h1
    replace h2 : DataW.trod (fun _ => ()) Tryz.prog W 0 (fun _ => true) false m1 2 (List.take (Tryz.prog.cellsOf 2) (List.drop 2 [a0, a1, a2, a3])) = some x2 := h2
    replace h3 : DataW.trod (fun _ => ()) Tryz.prog W 0 (fun _ => true) false m1 2 (List.take (Tryz.prog.cellsOf 2) (List.drop 3 [a0, a1, a2, a3])) = some x3 := h3
    rw [c1] at h0 h1 h2 h3
    obtain ⟨k0, e0, f0, _⟩ := DataW.trod_int Tryz.underlying2 h0
    obtain ⟨k1, e1, f1, _⟩ := DataW.trod_int Tryz.underlying2 h1
    obtain ⟨k2, e2, f2, _⟩ := DataW.trod_int Tryz.underlying2 h2
    obtain ⟨k3, e3, f3, _⟩ := DataW.trod_int Tryz.underlying2 h3
    subst f0 f1 f2 f3
    simp at e0 e1 e2 e3
    subst e0 e1 e2 e3
    simp at hx1
    obtain ⟨⟨r0, r1, r2, r3⟩, _⟩ := hx1
    subst r0 r1 r2 r3
    exact ⟨World.block_lt_of_cell? W ⟨4, 0, none⟩ hc0, hc0, hc1, hc2, hc3⟩

theorem gErr : Tryz.prog.globalNamed "strconv.ErrRange" = some 1 := by kernel_rfl
theorem tErr : (Tryz.prog.globals[1]?).map (·.type) = some 197 := by kernel_rfl
theorem starErr : "*" ++ "errors.errorString" = "*errors.errorString" := by decide
theorem rowErr (u : TypeId) (h : Tryz.prog.typeName? 3 u = some "*errors.errorString") : u = 228 :=
  Go.typeName_ptr_named (nm := "errors.errorString") (by rw [starErr]; kernel_rfl) (by kernel_rfl) (by decide) u (by rw [starErr]; exact h)
theorem of_laid {W : World} (h : laidMetH Tryz.prog laidNo W) : Ps.Gl W ∧ 5 ≤ W.heap.size := by
  obtain ⟨hs, c0, c1, c2, c3⟩ := of_laid0 h
  refine ⟨⟨?_, c0, c1, c2, c3⟩, hs⟩
  rw [MakeChecks.laidMetH_plain _ _ _ (by kernel_rfl)] at h
  obtain ⟨a, s, hv, _⟩ := laid_sentinel h.tail.tail.tail.tail gErr tErr Tryz.underlying197 rowErr Tryz.underlying228 Tryz.underlying230 rfl rfl Tryz.underlying9 (by kernel_rfl) (by kernel_rfl)
  exact ⟨_, World.var?_cell gErr hv 0, .inr ⟨_, _, rfl⟩⟩
end Go.Proofs.YtggdhgppclnckaaGreatDoor
