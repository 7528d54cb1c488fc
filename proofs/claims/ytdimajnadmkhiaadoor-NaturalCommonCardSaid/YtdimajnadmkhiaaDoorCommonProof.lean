/-
  NaturalCommon is proved: for every three lists of limbs, in whatever memory in which the package-level variable natural.noStep holds what the program's text gives it, exactppllaw01.NaturalCommon returns true, and its arguments read behind the call as they did before.
  Conditions: the listed variable noStep reads as laid (the card ties that to the program's text).
-/
import Derived.Test.YtdimajnadmkhiaaDoorCommon
import Derived.Test.YtdimajnadmkhiaaDoorOpen
import Derived.Test.YtdimajnadmkhiaaDoorCards
import Derived.Test.YtdimajnadmkhiaaDoorTie
import Derived.LaidMore
import Derived.MakeChecks
import Derived.Stop.Joined
import Derived.SevenTiedAt
namespace Go.Proofs.YtdimajnadmkhiaaDoor.naturalCommon
open Go Go.ChangeShapes Go.WideShapes Go.ChangeAt Go.RowKit

abbrev laidNo : List (String × DataW Unit) := [("exactppl/natural.noStep", Rows.laid_exactppl_natural_noStep)]

theorem gNo : Tryd.prog.globalNamed "exactppl/natural.noStep" = some 0 := by kernel_rfl
theorem tNo : (Tryd.prog.globals[0]?).map (·.type) = some 75 := by kernel_rfl

theorem door_met (os : Os) (args : Array Value) : laidMetH Tryd.prog laidNo ((World.doorLaid Tryd.prog 400 os).forCall (fun _ _ => 0) ⟨#[], args, []⟩).memory :=
  laidMetH_of_parts3 (fuel := 8) (laidMet_of_run' 8 (by kernel_rfl) (by kernel_rfl)) (by kernel_rfl) (by kernel_rfl)

theorem of_laid {W : World} (h : laidMetH Tryd.prog laidNo W) : Laid W := by
  rw [MakeChecks.laidMetH_plain _ _ _ (by kernel_rfl)] at h
  obtain ⟨ps, ⟨g0, t0, cs0, f0, p0, q0, hg0, ht0, hv0, hd0, _, _⟩, _, _⟩ := h
  obtain rfl := Option.some.inj (gNo.symm.trans hg0)
  obtain rfl := Option.some.inj (tNo.symm.trans ht0)
  obtain ⟨xs, m1, rfl, hx1, hlen, hn4, hel⟩ := DataW.trod_struct Tryd.underlying75 hd0
  have c4 : Tryd.prog.cellsOf 75 = 4 := by kernel_rfl
  have c1 : Tryd.prog.cellsOf 2 = 1 := by kernel_rfl
  rw [c4] at hlen
  have hn4' : xs.length = 4 := hn4
  have h0 := hel 0 _ rfl
  have h1 := hel 1 _ rfl
  have h2 := hel 2 _ rfl
  have h3 := hel 3 _ rfl
  obtain ⟨l⟩ := cs0
  have hc0 := World.var?_cell hg0 hv0 0
  have hc1 := World.var?_cell hg0 hv0 1
  have hc2 := World.var?_cell hg0 hv0 2
  have hc3 := World.var?_cell hg0 hv0 3
  simp only [Rows.laid_exactppl_natural_noStep, Prod.mk.injEq, DataW.agg.injEq] at hx1
  match l, hlen, xs, hn4', hx1, h0, h1, h2, h3, hc0, hc1, hc2, hc3 with
  | [a0, a1, a2, a3], _, [x0, x1, x2, x3], _, hx1, h0, h1, h2, h3, hc0, hc1, hc2, hc3 =>
    replace h0 : DataW.trod (fun _ => ()) Tryd.prog W 0 (fun _ => true) false m1 2 (List.take (Tryd.prog.cellsOf 2) (List.drop 0 [a0, a1, a2, a3])) = some x0 := h0
    replace h1 : DataW.trod (fun _ => ()) Tryd.prog W 0 (fun _ => true) false m1 2 (List.take (Tryd.prog.cellsOf 2) (List.drop 1 [a0, a1, a2, a3])) = some x1 := h1
    replace h2 : DataW.trod (fun _ => ()) Tryd.prog W 0 (fun _ => true) false m1 2 (List.take (Tryd.prog.cellsOf 2) (List.drop 2 [a0, a1, a2, a3])) = some x2 := h2
    replace h3 : DataW.trod (fun _ => ()) Tryd.prog W 0 (fun _ => true) false m1 2 (List.take (Tryd.prog.cellsOf 2) (List.drop 3 [a0, a1, a2, a3])) = some x3 := h3
    rw [c1] at h0 h1 h2 h3
    obtain ⟨k0, e0, f0, _⟩ := DataW.trod_int Tryd.underlying2 h0
    obtain ⟨k1, e1, f1, _⟩ := DataW.trod_int Tryd.underlying2 h1
    obtain ⟨k2, e2, f2, _⟩ := DataW.trod_int Tryd.underlying2 h2
    obtain ⟨k3, e3, f3, _⟩ := DataW.trod_int Tryd.underlying2 h3
    subst f0 f1 f2 f3
    simp at e0 e1 e2 e3
    subst e0 e1 e2 e3
    simp at hx1
    obtain ⟨⟨r0, r1, r2, r3⟩, _⟩ := hx1
    subst r0 r1 r2 r3
    exact ⟨World.block_lt_of_cell? W ⟨0, 0, none⟩ hc0, hc0, hc1, hc2, hc3⟩

set_option maxRecDepth 100000 in
theorem lifted (os : Os) (started : os.Started) (H : Type) (enc : TypeId × Value → H) :
    ReturnsInHanded {} Tryd.checked os 5 .any (fun w args => (Rows.naturalCommonSpec.pre enc Tryd.prog Tryd.f5 [] false w args ∧ laidMetH Tryd.prog laidNo w) ∧ sizedMet enc Tryd.prog Tryd.f5 (OpenSpec.ofChange Rows.naturalCommonSpec) false w args)
      (Rows.naturalCommonSpec.post enc Tryd.prog Tryd.f5 false true false false) := by
  refine returnsInHanded_of_change_and (C := Tryd.checked) (X := fun w _ => laidMetH Tryd.prog laidNo w) (fun _ _ _ hh h => h.of_heap hh) ownKnob_none started (by kernel_rfl) Tryd.func5
    (ChangeSpec.witness_shaped (enc := enc) (C := Tryd.checked) (os := os) (X := fun w _ => laidMetH Tryd.prog laidNo w) false (World.doorLaid Tryd.prog 400 os) #[.slice none 0 0, .slice none 0 0, .slice none 0 0] 8 rfl (World.shaped_of_RefB (by kernel_rfl) (by kernel_rfl)) (by kernel_rfl) (by kernel_rfl) (by kernel_rfl) (door_met os _)) ?_
  intro W base args ds gs before hval0 hW _ _ hL _
  have hval : ∀ (j : Nat) t v, Tryd.f5.params[j]? = some t → args[j]? = some v → Value.okWide Tryd.prog W .any base t v := hval0
  have hW' := hW
  obtain ⟨p, q, hA0, hV, rfl, _, _⟩ := hW
  have hA : DataW.TrodAll enc Tryd.prog W 0 (fun _ => true) true Tryd.f5.params.toList args.toList ds p := hA0
  rw [Tryd.params5] at hA hval
  obtain ⟨v0, v1, v2, d0, d1, d2, p0, p1, p2, rfl, rfl, rfl, h0, h1, h2⟩ := trodAll_three hA
  obtain ⟨rfl, rfl⟩ := trodVars_none hV
  have k0 := h0
  obtain ⟨A0, n0, c0, x0, rfl, g0⟩ := open_limbs (hval 0 22 v0 rfl rfl) h0
  have k1 := h1
  obtain ⟨A1, n1, c1, x1, rfl, g1⟩ := open_limbs (hval 1 22 v1 rfl rfl) h1
  have k2 := h2
  obtain ⟨A2, n2, c2, x2, rfl, g2⟩ := open_limbs (hval 2 22 v2 rfl rfl) h2
  clear hA0 hval0
  simp only [List.append_nil] at hW'
  refine (walk (of_laid hL) g0 g1 g2).mono fun e W' ⟨he, hb⟩ => ?_
  subst he
  exact ⟨_, rfl, post_kept hW' hb (fun _ _ _ => trodAll_cons_mk (shut_bool Tryd.underlying4 _) trodAll_mk0) (trodAll_cons_mk (Below.trod laidOut (by kernel_rfl) (of_decide_eq_true (by kernel_rfl)) k0 hb (trod_old k0)) (trodAll_cons_mk (Below.trod laidOut (by kernel_rfl) (of_decide_eq_true (by kernel_rfl)) k1 hb (trod_old k1)) (trodAll_cons_mk (Below.trod laidOut (by kernel_rfl) (of_decide_eq_true (by kernel_rfl)) k2 hb (trod_old k2)) trodAll_mk0))) rfl (by simp)⟩

theorem row_proved : Rows.NaturalCommonSaid :=
  OpenClaim.holds_of_wide 5 Tryd.f5 rfl rfl rfl rfl rfl rfl rfl ⟨rfl, rfl, rfl, rfl, rfl⟩ rfl rfl rfl rfl rfl (by kernel_rfl) Tryd.func5 (by kernel_rfl)
    (of_decide_eq_true (by kernel_rfl)) (by unfold Func.isWrapper; first | (rw [if_pos (by decide +kernel)]; kernel_rfl) | (rw [if_neg (by decide +kernel)]; exact ⟨rfl, rfl⟩))
    (fun os started H enc _ => lifted os started H enc)

theorem proved : Rows.NaturalCommonCardSaid :=
  Claim7.holds_tied_plain_at .later [] [.data] true (true, "dbe5cff488568b93c9f3c0e448f0d395bd651d57bd6223762ff78a07f8056ee9") false
    row_proved (fun _ h => by cases h) (by kernel_rfl) (fun _ h => by cases h) naturalCommon_row_tie rfl ⟨rfl, rfl⟩ (by kernel_rfl) rfl
    (fun f fn hf hfn => by
      obtain rfl : f = 5 := Option.some.inj ((show Tryd.prog.funcNamed "exactppl/exactppllaw01.NaturalCommon" = some 5 by kernel_rfl).symm.trans hf) |>.symm
      obtain rfl : fn = Tryd.f5 := (Option.some.inj (Tryd.func5.symm.trans hfn)).symm
      exact ⟨by kernel_rfl, fun j t ht => by
        rw [Tryd.params5] at ht
        have hm : t ∈ [22, 22, 22] := by simpa using Array.mem_of_getElem? ht
        have hall : ([22, 22, 22].all fun u => !Tryd.prog.wantsStandIn u) = true := by kernel_rfl
        exact (show Tryd.prog.wantsStandIn t = false by simpa using List.all_eq_true.1 hall t hm)⟩)
    (by kernel_rfl)
#print axioms proved
end Go.Proofs.YtdimajnadmkhiaaDoor.naturalCommon
