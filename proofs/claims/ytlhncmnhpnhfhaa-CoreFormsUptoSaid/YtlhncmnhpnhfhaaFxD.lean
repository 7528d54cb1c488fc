/-
  slices.AppendSeq, Collect over such an iterator of numbers.
-/
import Derived.Maps.AppendAt
import Derived.Test.YtlhncmnhpnhfhaaFxW
namespace Go.Proofs.Ytlhncmnhpnhfhaa
open Go Go.RowKit Go.Shelf
set_option maxRecDepth 20000
attribute [local go_sem] Oper.semAt_some
namespace Fx

abbrev ei (z : Int) : Value := .int .i64 z
theorem infoInt : (Try.prog.info? 3).map (fun i => (i.zero, i.size, i.bytes)) = some (some (.int .i64 0), 1, 8) := by kernel_rfl
theorem box_other {W W' : World} {n₀ B k : Nat} {T t e : TypeId} {v v' u : Value} {tmp : Obj} {m : Nat} {xs : List Value} (hT : T ≠ e) (ht : T ≠ t) (hb : Boxed W k T u) (hv : Boxed W B t v) (hrow : W.ownsRow n₀ e 1 v m xs) (hgrow : (W.alloc tmp).grownBy W' v.ownBlock) : Boxed (W'.setCell ⟨B, 0, none⟩ v') k T u := by
  have h1 : Boxed W' k T u := (hb.alloc tmp).kept hgrow (hb.not_row hT hrow)
  refine h1.other (fun e => ?_) _
  subst e
  have h2 : W.heap[k]? = _ := hb
  have h3 : W.heap[k]? = _ := hv
  rw [h2] at h3
  simp at h3
  exact ht h3.2

set_option maxHeartbeats 2000000 in
theorem appendSeq_in {g n₀ N : Nat} {lb : Array Value} {S Sp : List Int → Prop} {w : World} (eg : ∀ args w, (callFunc g args).run Try.prog w = .ok (.enter g args) w) (hN : N ≤ 1000000) (hn : n₀ ≤ w.heap.size) (hseq : SeqS 73 Try.prog g lb (fun z : Int => #[.int .i64 z]) n₀ S Sp N w) (n : Nat) :
    CallsIn Fence.wide n Try.prog 48 #[.slice none 0 0, .func (.func g) #[] lb] w fun e w' => ∃ (v : Value) (ss : List Int), e = .returned v ∧ S ss ∧ w'.ownsRow w.heap.size 3 1 v ss.length (ss.map ei) ∧ (v = .slice none 0 0 ↔ ss = []) ∧ Below w.heap.size w w' := by
  obtain ⟨i0, hi, hz0, hz1, hz2⟩ := info_parts infoInt
  refine callsIn_of_wp_marks Try.func48 rfl trivial ?_ rfl
  simp only [Try.ntmps48, List.size_toArray, List.length_cons, List.length_nil, Nat.reduceAdd, Nat.reduceSub, Array.replicate_succ, Array.replicate_zero, List.push_toArray, List.append_toArray, List.nil_append, List.cons_append]
  gi_wp2
  have x0 := Boxed.new w 28 (.slice none 0 0)
  have hB0 := allocB w (.cells #[.slice none 0 0] 28)
  refine range_s (T := 73) (gf := g) (lb := lb) (n₀ := n₀) rfl eg hseq hB0 (by simp; omega) (fun _ => rfl)
    (fun pre W => (∃ v, Boxed W w.heap.size 28 v ∧ W.ownsRow w.heap.size 3 1 v pre.length (pre.map ei) ∧ (v = .slice none 0 0 ↔ pre = [])) ∧ Below w.heap.size w W)
    (fun _ _ _ => False)
    (OwnFrom.and (Own.from (holdsRow_own w.heap.size w.heap.size 28 3 1 (fun pre => pre.length) (fun pre => pre.map ei) (fun pre v => (v = .slice none 0 0 ↔ pre = []))) _) (ownFrom_below (Nat.le_refl _) (by simp)))
    (fun _ _ _ _ _ hs _ _ => hs)
    ⟨⟨_, x0, World.ownsRow_nil _ _ _ _, by simp⟩, hB0⟩
    (fun x => { tmps := #[.slice none 0 0, .func (.func g) #[] lb, .pointer (some ⟨w.heap.size, 0, none⟩), undef, .slice none 0 0, .int .i64 x, .func (.func g) #[] lb, .int .i64 x, undef, undef, undef, undef, undef], defers := [] }) ?assign ?body ?done ?stop
  case assign =>
    intro m l x W K hK
    gi_wp2
    exact hK
  case body =>
    clear x0
    rintro m l pre x W ⟨⟨v, hv, hrow, hnil⟩, hB⟩ hlen
    have hle : w.heap.size ≤ w.heap.size := Nat.le_refl _
    have hc := hv.cell
    have hf := hv.frozen
    gi_wp2_with (gi_at_builtin; refine wpListIn_append_own _ rfl _ _ 28 rfl w.heap.size 3 i0 (.int .i64 0) 1 8 Try.underlying28 hi hz0 hz1 hz2 rfl (by decide) _ _ _ rfl (hrow.alloc _) ⟨W.heap.size, 0, none⟩ 1 1 [ei x] rfl rfl (cell_one_new _ _ _) (by simp [Value.oneCell']) (by unfold maxLen; omega) (by omega) (by have := hB.size; simp; omega) ?_; intro v' w1 hown' hgrow _; obtain ⟨g', cap', rfl⟩ := ownsRow_succ hown'; obtain ⟨hv1, hv2, hr2, hk2, hb2⟩ := hv.appended (by decide) hrow hB.size hle hown' hgrow; have hc1 := hv1.cell; have hf1 := hv1.frozen)
    exact ⟨⟨hb2.mono hn, hk2.from _, fun k u hb => box_other (by decide) (by decide) hb hv hrow hgrow⟩, ⟨_, hv2, by simpa using hr2, by simp⟩, hB.trans hb2⟩
  case done =>
    rintro D xs W hD hS ⟨⟨v, hv, hrow, hnil⟩, hB⟩ hK
    have hc := hv.cell
    have hD' : w.heap.size ≤ D := by simp at hD; omega
    clear hD
    have hrow' := ownsRow_putObj hrow (.deferred none) hK rfl
    have hB' := hB.trans (belowK_b (w := w) (Nat.le_refl _) W D (.deferred (some [])) (.deferred none) hD' hK rfl rfl)
    gi_wp2
    refine ⟨by simp, .inl ⟨_, _, rfl, run_takeDeferred hK, ?_⟩⟩
    exact ⟨_, results_tmp rfl _ _ _, v, xs, rfl, hS, hrow', hnil, hB'⟩
  case stop =>
    rintro D c pre W _ _ h _
    exact h.elim

theorem collect_in {g n₀ N : Nat} {lb : Array Value} {S Sp : List Int → Prop} {w : World} (eg : ∀ args w, (callFunc g args).run Try.prog w = .ok (.enter g args) w) (hN : N ≤ 1000000) (hn : n₀ ≤ w.heap.size) (hseq : SeqS 73 Try.prog g lb (fun z : Int => #[.int .i64 z]) n₀ S Sp N w) :
    Calls Try.prog 46 #[.func (.func g) #[] lb] w fun e w' => ∃ (v : Value) (ss : List Int), e = .returned v ∧ S ss ∧ w'.ownsRow w.heap.size 3 1 v ss.length (ss.map ei) ∧ (v = .slice none 0 0 ↔ ss = []) ∧ Below w.heap.size w w' := by
  have h := callsIn_wide.1 (appendSeq_in eg hN hn hseq 0)
  go_enter Try.func46, Try.ntmps46
  go_wp2_with (refine h.mono ?_; clear h; rintro e w' ⟨v, ss, rfl, hS, hrow, hnil, hb⟩)
  go_ret
  exact ⟨v, ss, rfl, hS, hrow, hnil, hb⟩
end Fx
end Go.Proofs.Ytlhncmnhpnhfhaa
