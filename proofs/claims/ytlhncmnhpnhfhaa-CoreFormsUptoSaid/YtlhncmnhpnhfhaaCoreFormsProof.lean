/-
  CoreForms is proved where what it reads is of bulk at most 1048576: for every form and every two lists of ints, in whatever memory, exactppllaw13.CoreForms returns true, and its arguments read behind the call as they did before.
  Conditions: the bulk that the row names.
-/
import Derived.Test.YtlhncmnhpnhfhaaFxF
import Derived.Test.YtlhncmnhpnhfhaaOpen13
import Derived.JoinedCond
namespace Go.Proofs.Ytlhncmnhpnhfhaa.coreForms
open Go.ChangeShapes Go.WideShapes Go.ChangeAt Go.RowKit
set_option maxRecDepth 20000

theorem contract (H : Type) (enc : TypeId × Value → H) (W : World) (base : Nat) (args : Array Value) (ds gs : List (DataW H)) (before : List MemPlace)
    (hval0 : ∀ (j : Nat) t v, Try.f3.params[j]? = some t → args[j]? = some v → Value.okWide Try.prog W .any base t v)
    (hW : DataW.Whole enc Try.prog Try.f3.params.toList Rows.coreFormsSpec.vars false W args.toList ds gs before) (hk : Rows.uptoSmall H (ds ++ gs) = true) :
    Calls Try.prog 3 args W fun e W' => ∃ v, e = .returned v ∧ Rows.coreFormsSpec.post enc Try.prog Try.f3 false true false false W args v W' := by
  have hval : ∀ (j : Nat) t v, Try.f3.params[j]? = some t → args[j]? = some v → Value.okWide Try.prog W .any base t v := hval0
  have hW' := hW
  obtain ⟨p, q, hA0, hV, rfl, _, _⟩ := hW
  have hA : DataW.TrodAll enc Try.prog W 0 (fun _ => true) true Try.f3.params.toList args.toList ds p := hA0
  rw [Try.params3] at hA hval
  obtain ⟨v0, v1, v2, d0, d1, d2, p0, p1, p2, rfl, rfl, rfl, h0, h1, h2⟩ := trodAll_three hA
  obtain ⟨rfl, rfl⟩ := trodVars_none hV
  have k0 := h0
  have k1 := h1
  have k2 := h2
  obtain ⟨f, fv, rfl, hf, hb⟩ := Fx.open_form (hval 0 27 v0 rfl rfl) h0
  obtain ⟨A1, n1, c1, rfl, gc1, gt1, gi1⟩ := open_intlist (hval 1 28 v1 rfl rfl) h1
  obtain ⟨A2, n2, c2, rfl, gc2, gt2, gi2⟩ := open_intlist (hval 2 28 v2 rfl rfl) h2
  obtain ⟨s, hs⟩ := Fx.st_open gi1
  clear hA0 hval0
  have hbk := of_decide_eq_true hk
  simp only [List.append_nil, Rows.uptoBulkAll] at hbk
  simp only [List.append_nil] at hW'
  refine (Fx.forms_walk A1 n1 c1 A2 n2 c2 W hf (by omega) hs gc2 gt2 gi2).mono fun e W' ⟨he, hb'⟩ => ?_
  subst he
  have old : ∀ {t v d p}, DataW.Trod enc Try.prog W 0 (fun _ => true) true t v d p → laidOutB Try.prog = true → True := fun _ _ => trivial
  clear old
  exact ⟨_, rfl, post_kept hW' hb' (fun _ _ _ => trodAll_cons_mk (shut_bool Try.underlying4 _) trodAll_mk0)
    (trodAll_cons_mk (Below.trod laidOut (by kernel_rfl) (of_decide_eq_true (by kernel_rfl)) k0 hb' (trod_old k0)) (trodAll_cons_mk (Below.trod laidOut (by kernel_rfl) (of_decide_eq_true (by kernel_rfl)) k1 hb' (trod_old k1)) (trodAll_cons_mk (Below.trod laidOut (by kernel_rfl) (of_decide_eq_true (by kernel_rfl)) k2 hb' (trod_old k2)) trodAll_mk0))) rfl (by simp)⟩

set_option maxRecDepth 100000 in
theorem lifted (os : Os) (started : os.Started) (H : Type) (enc : TypeId × Value → H) (F : Stop.Interp) :
    ReturnsInHanded {} Try.checked os 3 .any ((Rows.OpenSpec.upto Rows.coreFormsSpec).pre6 enc Try.prog Try.f3 Rows.coreFormsUptoRow.domain false)
      (((Rows.OpenSpec.upto Rows.coreFormsSpec).at F).post enc Try.prog Try.f3 false true false false) := by
  refine returnsInHanded_of_cond (C := Try.checked) (s := Rows.OpenSpec.upto Rows.coreFormsSpec) (k := Rows.uptoSmall) rfl ownKnob_none started (by kernel_rfl) Try.func3
    (OpenSpec.witness (enc := enc) (C := Try.checked) (s := Rows.OpenSpec.upto Rows.coreFormsSpec) (k := Rows.uptoSmall) rfl false ⟨#[], #[.agg #[.int .i64 0, .int .i64 0, .bool false, .slice none 0 0, .slice none 0 0, .slice none 0 0], .slice none 0 0, .slice none 0 0], []⟩ 8 (by kernel_rfl) (by kernel_rfl) (by kernel_rfl)
      (x := ([.agg [.lit (.int .i64 0), .lit (.int .i64 0), .agg [.lit (.bool false), .nil, .nil], .nil], .nil, .nil], [], [])) (by kernel_rfl) rfl (by kernel_rfl)) ?_
  intro W base args ds gs before hval hW _ hk _
  exact contract H enc W base args ds gs before hval hW hk

theorem over : Rows.coreFormsUptoRow.holds Try.pinned (Rows.OpenSpec.upto Rows.coreFormsSpec) :=
  OpenClaim.holds_of_cond 3 Try.f3 rfl rfl rfl rfl rfl rfl rfl ⟨rfl, rfl, rfl, rfl, rfl⟩ rfl rfl rfl rfl rfl (by kernel_rfl) Try.func3 (by kernel_rfl)
    (of_decide_eq_true (by kernel_rfl)) (by unfold Func.isWrapper; first | (rw [if_pos (by decide +kernel)]; kernel_rfl) | (rw [if_neg (by decide +kernel)]; exact ⟨rfl, rfl⟩))
    (fun os started H enc _ F => lifted os started H enc F)

theorem proved : Rows.CoreFormsUptoSaid :=
  over
#print axioms proved
end Go.Proofs.Ytlhncmnhpnhfhaa.coreForms
