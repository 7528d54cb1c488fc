/-
  slices.Sorted, ascending, Reads: the variables of a form in ascending order, each one once.
-/
import Derived.Sort.OwnSortedInts
import Derived.Test.YtlhncmnhpnhfhaaShelf
import Derived.Test.YtlhncmnhpnhfhaaFxD
import Derived.Test.YtlhncmnhpnhfhaaFxQ
import Derived.Test.YtlhncmnhpnhfhaaFxL
namespace Go.Proofs.Ytlhncmnhpnhfhaa
open Go Go.RowKit Go.Shelf Go.Sort
set_option maxRecDepth 20000
namespace Fx

/-- Numbers in a row that the call has laid: at address A, from block base on. -/
def IR (w : World) (base : Nat) (A : Option Addr) (l : List Int) : Prop := ∀ (i : Nat) (z : Int), l[i]? = some z → ∃ b, A = some ⟨b, 0, none⟩ ∧ base ≤ b ∧ w.cell? ⟨b, i, none⟩ = some (.int .i64 z)
theorem IR.below {w w' : World} {base : Nat} {A : Option Addr} {l : List Int} (h : IR w base A l) (hb : Below w.heap.size w w') : IR w' base A l := fun i z hz => by
  obtain ⟨b, e, h1, h2⟩ := h i z hz
  exact ⟨b, e, h1, (hb.cell (World.block_lt_of_cell? w _ h2)).trans h2⟩
theorem asc_nil : asc [] = [] := by simp [asc, Lib.compact, Lib.compactUpTo]
theorem grow_nil (w : World) : grow w #[] = w := by simp [grow]

theorem sorted_x {g n₀ N : Nat} {lb : Array Value} {S Sp : List Int → Prop} {w : World} (eg : ∀ args w, (callFunc g args).run Try.prog w = .ok (.enter g args) w) (hN : N ≤ 1000000) (hS : ∀ ss, S ss → ss.length ≤ N) (hn : n₀ ≤ w.heap.size) (hseq : SeqS 73 Try.prog g lb (fun z : Int => #[.int .i64 z]) n₀ S Sp N w) :
    Calls Try.prog 41 #[.func (.func g) #[] lb] w fun e w' => ∃ (v : Value) (ss : List Int), e = .returned v ∧ S ss ∧
      ((v = .slice none 0 0 ∧ ss = []) ∨ ∃ b c cur, v = .slice (some ⟨b, 0, none⟩) ss.length c ∧ w.heap.size ≤ b ∧ ss.length ≤ c ∧ c ≤ maxLen ∧ w'.heap[b]? = some (.cells cur 3 (0, 0)) ∧ cur.size = c ∧ cur.toList.take ss.length = (ss.mergeSort fun x y => decide (x ≤ y)).map (Value.int .i64)) ∧ Below w.heap.size w w' := by
  have h := collect_in eg hN hn hseq
  have HSN := Lib.hid hS
  clear hS
  go_enter Try.func41, Try.ntmps41
  go_wp2_with (refine h.mono ?_; clear h; rintro e W ⟨v, ss, rfl, hS, hrow, hnil, hb⟩)
  rcases hrow.2 with ⟨rfl, hz⟩ | ⟨gb, cap, cur, rfl, hbase, hgb, r1, r2, r3, r4⟩
  · have hss : ss = [] := hnil.1 rfl
    clear hz hnil hrow
    go_wp2_with (refine (Try.slices_Sort_int_none none 0 W).mono ?_; rintro e w' ⟨rfl, rfl⟩)
    go_ret
    exact ⟨_, ss, rfl, hS, .inl ⟨rfl, hss⟩, hb⟩
  · have r4' : cur.toList.take ss.length = ss.map (Value.int .i64) := by simpa using r4
    have hH := holds_of_blockI hgb r4'
    have hgl : gb < W.heap.size := (Array.getElem?_eq_some_iff.1 hgb).1
    unfold maxLen at r2
    have hsz : ss.length < 4611686018427387904 := by
      have := HSN.out ss hS
      omega
    have cS := Try.slices_Sort_int gb 0 cap ss W hH hgl hsz
    have HS := Lib.hid cS
    clear cS hnil r4 r4'
    go_wp2_with (refine HS.out.mono ?_; rintro e w' ⟨rfl, nn, os, rfl⟩)
    go_ret
    have hl : (ss.mergeSort fun x y => decide (x ≤ y)).length = ss.length := List.length_mergeSort _
    have r3' : cur.size = cap := by simpa using r3
    refine ⟨_, ss, rfl, hS, .inr ⟨gb, cap, putCells (Value.int .i64) 0 (ss.mergeSort fun x y => decide (x ≤ y)).toArray cur, rfl, hbase, r1, r2, ?_, by simp [putCells, r3'], ?_⟩, ?_⟩
    · exact heap_sortedI _ hgb
    · rw [← hl]; exact take_putCellsI cur _ (by omega)
    · exact hb.grown (grownBy_sortedI _) hb.size (fun j hj => by cases hj; exact hbase)

theorem ascending_x {g n₀ N : Nat} {lb : Array Value} {S Sp : List Int → Prop} {w : World} (eg : ∀ args w, (callFunc g args).run Try.prog w = .ok (.enter g args) w) (hN : N ≤ 1000000) (hS : ∀ ss, S ss → ss.length ≤ N) (hn : n₀ ≤ w.heap.size) (hseq : SeqS 73 Try.prog g lb (fun z : Int => #[.int .i64 z]) n₀ S Sp N w) :
    Calls Try.prog 27 #[.func (.func g) #[] lb] w fun e w' => ∃ (A : Option Addr) (c : Nat) (ss : List Int), e = .returned (.slice A (asc ss).length c) ∧ S ss ∧ (asc ss).length ≤ c ∧ c ≤ maxLen ∧ IR w' w.heap.size A (asc ss) ∧ Below w.heap.size w w' := by
  have h := sorted_x eg hN hS hn hseq
  have HSN := Lib.hid hS
  clear hS
  go_enter Try.func27, Try.ntmps27
  go_wp2_with (refine h.mono ?_; clear h; rintro e W ⟨v, ss, rfl, hS, hv, hb⟩)
  rcases hv with ⟨rfl, rfl⟩ | ⟨gb, cap, cur, rfl, hbase, r1, r2, hgb, r3, r4⟩
  · go_wp2_with (refine (Try.slices_Compact_int_empty none 0 W).mono ?_; rintro e w' ⟨rfl, rfl⟩)
    go_ret
    exact ⟨none, 0, [], by rw [asc_nil]; rfl, hS, by rw [asc_nil]; exact Nat.le_refl _, Nat.zero_le _, fun i z hz => by rw [asc_nil] at hz; simp at hz, hb⟩
  · have hl : (ss.mergeSort fun x y => decide (x ≤ y)).length = ss.length := List.length_mergeSort _
    have hle := Lib.compact_length_le (ss.mergeSort fun x y => decide (x ≤ y))
    have hasc : Lib.compact (ss.mergeSort fun x y => decide (x ≤ y)) = asc ss := rfl
    obtain ⟨ys, hys⟩ : ∃ ys, (ss.mergeSort fun x y => decide (x ≤ y)) = ys := ⟨_, rfl⟩
    rw [hys] at hl hle hasc r4
    have hH : Holds (Value.int .i64) W gb 0 ys.toArray := holds_of_blockI hgb (by rw [hl]; exact r4)
    have hsz := HSN.out ss hS
    have cC := Try.slices_Compact_int gb 0 cap ys W hH (by omega) (by omega)
    rw [hl] at cC
    have HC := Lib.hid cC
    have HL := Lib.hid hl
    have HA := Lib.hid hasc
    have R4 := Lib.hid r4
    clear cC hl hasc r4 hys
    go_wp2_with (refine HC.out.mono ?_; rintro e w' ⟨rfl, q, rfl⟩)
    go_ret
    rw [HA.out] at hle ⊢
    have hts : (asc ss ++ List.replicate (ss.length - (asc ss).length) 0).length = ss.length := by
      have := HL.out
      simp; omega
    refine ⟨some ⟨gb, 0, none⟩, cap, ss, rfl, hS, by have := HL.out; omega, r2, fun i z hz => ⟨gb, rfl, hbase, ?_⟩, ?_⟩
    · rw [← grow_nil (putRow _ _ _ _ _)]
      have hb2 := heap_sortedI (n := q) (os := #[]) (asc ss ++ List.replicate (ss.length - (asc ss).length) 0).toArray hgb
      have ht := take_putCellsI cur (asc ss ++ List.replicate (ss.length - (asc ss).length) 0) (by omega)
      have hH2 := holds_of_blockI hb2 ht
      have hi : i < (asc ss).length := (List.getElem?_eq_some_iff.1 hz).1
      have := (hH2 i (by simp; omega)).1
      rw [Nat.zero_add] at this
      rw [this]
      have e2 : (asc ss ++ List.replicate (ss.length - (asc ss).length) 0).toArray[i]! = z := by
        rw [getElem!_pos _ i (by simp; omega)]
        simp only [List.getElem_toArray]
        rw [List.getElem_append_left hi]
        exact Option.some.inj ((List.getElem?_eq_getElem hi).symm.trans hz)
      rw [e2]
    · rw [← grow_nil (putRow _ _ _ _ _)]; exact hb.grown (grownBy_sortedI _) hb.size (fun j hj => by cases hj; exact hbase)

theorem variables_x (p : Option Addr) (w : World) : Calls Try.prog 28 #[.pointer p] w fun e w' =>
    e = .returned (.func (.func 42) #[] #[.pointer (some ⟨w.heap.size, 0, none⟩)]) ∧ w' = w.alloc (.cells #[.pointer p] 53) := by
  go_enter Try.func28, Try.ntmps28
  go_wp2
  go_ret
  exact ⟨rfl, rfl⟩
theorem vars_len (f : Fm) : (vars f).length ≤ (parts 200 1 f).length := by
  rw [vars, List.length_map]; exact List.length_filter_le _ _

/-- Reads gives the variables in ascending order, each one once. -/
def GivesVars (f : Fm) (w : World) (e : Ending) (w' : World) : Prop := ∃ A c, e = .returned (.slice A (asc (vars f)).length c) ∧ (asc (vars f)).length ≤ c ∧ c ≤ maxLen ∧ IR w' w.heap.size A (asc (vars f)) ∧ Below w.heap.size w w'
theorem reads_x {w : World} {f : Fm} {v : Array Value} (hf : FV (Lo w.heap.size) w f v) (hN : (parts 200 1 f).length ≤ 1000000) : Calls Try.prog 15 #[.agg v] w (GivesVars f w) := by
  have hb := hf.box 27
  obtain ⟨W1, hW1⟩ : ∃ W1, w.alloc (.cells v 27) = W1 := ⟨_, rfl⟩
  have s1 : W1.heap.size = w.heap.size + 1 := by rw [← hW1]; simp
  have b1 : Below w.heap.size w W1 := by rw [← hW1]; exact allocB w _
  rw [hW1, ← s1] at hb
  obtain ⟨W2, hW2⟩ : ∃ W2, W1.alloc (.cells #[.pointer (some ⟨w.heap.size, 0, none⟩)] 53) = W2 := ⟨_, rfl⟩
  have s2 : W2.heap.size = W1.heap.size + 1 := by rw [← hW2]; simp
  have b2 : Below W1.heap.size W1 W2 := by rw [← hW2]; exact allocB W1 _
  have x2 : Boxed W2 W1.heap.size 53 (.pointer (some ⟨w.heap.size, 0, none⟩)) := by rw [← hW2]; exact Boxed.new' rfl
  have hA := ascending_x (enters_of Try.func42 (by kernel_rfl) rfl) hN (fun ss e => by rw [e]; exact vars_len f) (by omega) (vars_seq hb b2 (by omega) (by omega) x2.cell)
  have hV := variables_x (some ⟨w.heap.size, 0, none⟩) W1
  rw [hW2] at hV
  obtain ⟨va, vb, vc, B, d, rfl, _⟩ := hf
  have H1 := Lib.hid s1
  have H2 := Lib.hid s2
  have B2 := Lib.hid b2
  clear hb b2 x2 s1 s2 hW2
  go_enter Try.func15, Try.ntmps15
  go_wp2_with (first
    | ((try rw [hW1]); refine hV.mono ?_; clear hV; rintro e w' ⟨rfl, rfl⟩)
    | (refine hA.mono ?_; clear hA; rintro e w' ⟨A, c, ss, rfl, rfl, h1, h2, hr, hb3⟩))
  go_ret
  have e1 := H1.out
  have e2 := H2.out
  refine ⟨A, c, rfl, h1, h2, fun i z hz => ?_, ?_⟩
  · obtain ⟨b, e, h3, h4⟩ := hr i z hz
    exact ⟨b, e, by omega, h4⟩
  · exact nextB (nextB b1 B2.out) hb3
end Fx
end Go.Proofs.Ytlhncmnhpnhfhaa
