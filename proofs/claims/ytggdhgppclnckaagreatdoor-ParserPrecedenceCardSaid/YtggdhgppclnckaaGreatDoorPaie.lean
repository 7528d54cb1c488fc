/-
  The deferred closure that recovers; read.
-/
import Derived.Test.YtggdhgppclnckaaGreatDoorPaid
import Derived.Recover
namespace Go.Proofs.YtggdhgppclnckaaGreatDoor
open Go Go.RowKit Lx
set_option maxRecDepth 20000

namespace Ps
variable {w : World} {g b n c : Nat} {L : List Tok} {i : Nat} {o : Int}
theorem ta_hit (a b c : Value) (w : World) : (Instr.typeAssert (.iface 91 (.agg #[a, b, c])) 20 91 true).run Tryz.prog w = .ok (.tuple #[.agg #[a, b, c], .bool true]) w := by kernel_rfl
theorem ta_nil (w : World) : (Instr.typeAssert .nilIface 20 91 true).run Tryz.prog w = .ok (.tuple #[.agg #[.int .i64 0, .int .i64 0, .int .i64 0], .bool false]) w := by kernel_rfl
theorem six_of {α : Type} {P : Array α} (h : P.size = 6) : ∃ a b c d e f, P = #[a, b, c, d, e, f] := by
  obtain ⟨l⟩ := P
  match l, h with
  | [a, b, c, d, e, f], _ => exact ⟨a, b, c, d, e, f, rfl⟩
theorem three_of {α : Type} {P : Array α} (h : P.size = 3) : ∃ a b c, P = #[a, b, c] := by
  obtain ⟨l⟩ := P
  match l, h with
  | [a, b, c], _ => exact ⟨a, b, c, rfl⟩
set_option maxHeartbeats 2000000 in
theorem catch_panicking (p q : Nat) (ln co er : Int) (P : Array Value) (F : Array Value) (w : World) (hp : Box w p 32 P) (hP : P.size = 6) (hq : Box w q 91 F) (hF : F.size = 3) (hpq : p ≠ q) :
    CallsD Tryz.prog 66 #[.pointer (some ⟨p, 0, none⟩), .pointer (some ⟨q, 0, none⟩)] (.panicking [{ v := .iface 91 (.agg #[.int .i64 ln, .int .i64 co, .int .i64 er]), recovered := false }]) w fun e u' w' =>
      e = .returned (.tuple #[]) ∧ u' = .panicking [{ v := .iface 91 (.agg #[.int .i64 ln, .int .i64 co, .int .i64 er]), recovered := true }] ∧
      Box w' p 32 #[.slice none 0 0, .slice none 0 0, .slice none 0 0, .slice none 0 0, .slice none 0 0, .string ⟨#[]⟩] ∧ Box w' q 91 #[.int .i64 ln, .int .i64 co, .int .i64 er] ∧
      w'.os = w.os ∧ w'.tape = w.tape ∧ w'.output = w.output ∧ w.heap.size ≤ w'.heap.size ∧ ∀ k, k < w.heap.size → k ≠ p → k ≠ q → w'.heap[k]? = w.heap[k]? := by
  refine callsD_of_wpS Tryz.func66 rfl fun c₀ cs hu => ?_
  apply wpS_seq
  apply wpS_region
  simp [wpOpsS, go_sem, recoverD, hu, Tryz.ntmps66, Exit.thenS, ta_hit]
  apply wpS_seq
  apply wpS_region
  simp [wpOpsS, go_sem, Exit.thenS]
  refine wpS_cond (t := true) (by simp [Act.eval, Array.replicate]) ?_
  simp only [if_true]
  refine wpS_of_wp ?_
  simp [Array.replicate]
  have bz := allocB w (.cells #[.int .i64 ln, .int .i64 co, .int .i64 er] 91)
  have bp := hp.lt
  have bq := hq.lt
  have xb : Box (w.alloc (.cells #[.int .i64 ln, .int .i64 co, .int .i64 er] 91)).drew w.heap.size 91 #[.int .i64 ln, .int .i64 co, .int .i64 er] := (box_alloc w 91 #[.int .i64 ln, .int .i64 co, .int .i64 er]).drew
  have xp : Box (w.alloc (.cells #[.int .i64 ln, .int .i64 co, .int .i64 er] 91)).drew p 32 P := (hp.new bz).drew
  have xq0 : Box (w.alloc (.cells #[.int .i64 ln, .int .i64 co, .int .i64 er] 91)).drew q 91 F := (hq.new bz).drew
  have xq := xq0.other (j := p) #[.slice none 0 0, .slice none 0 0, .slice none 0 0, .slice none 0 0, .slice none 0 0, .string ⟨#[]⟩] (Ne.symm hpq)
  obtain ⟨P0, P1, P2, P3, P4, P5, rfl⟩ : ∃ P0 P1 P2 P3 P4 P5, P = #[P0, P1, P2, P3, P4, P5] := six_of hP
  obtain ⟨F0, F1, F2, rfl⟩ : ∃ F0 F1 F2, F = #[F0, F1, F2] := three_of hF
  refine wp_region_held_drew (S := fun W => Box W w.heap.size 91 #[.int .i64 ln, .int .i64 co, .int .i64 er]) (by kernel_rfl) ?_ (fun hHeld => ?_)
  · exact xb
  refine tkH (i := 0) (oi := ⟨some 10, _, _, _, _, _⟩) (v := ?_) ?_ ?_
  rotate_left
  · intro W hSw
    go_simp
    try with_reducible rfl
  try simp only [Act.put, List.setIfInBounds_toArray, List.set_cons_zero, List.set_cons_succ]
  refine tkH (i := 1) (oi := ⟨some 11, _, _, _, _, _⟩) (v := .agg #[.int .i64 ln, .int .i64 co, .int .i64 er]) (fun W hSw => Box.yield rfl rfl (hSw) rfl (by kernel_rfl)) ?_
  try simp only [Act.put, List.setIfInBounds_toArray, List.set_cons_zero, List.set_cons_succ]
  refine wpAnyH_ready (rs := [2]) (by kernel_rfl) (by simp) ?_
  refine AllReadyH.cons (o := ⟨none, _, _, _, _, _⟩) rfl (fun K hK => ?_) AllReadyH.nil
  rw [if_pos (by rfl)]
  refine wp_store_row 32 (.tmp 0) (.tmp 10) rfl (p) _ rfl rfl 32 _ (xp) (by kernel_rfl) rfl (by simp [Value.oneCell']) ?_
  refine hK.out _ _ (xb.other _ (by omega)) (fun hHeld => ?_)
  clear hK K
  try simp only [Act.put]
  refine wpAnyH_ready (rs := [3]) (by kernel_rfl) (by simp) ?_
  refine AllReadyH.cons (o := ⟨none, _, _, _, _, _⟩) rfl (fun K hK => ?_) AllReadyH.nil
  rw [if_pos (by rfl)]
  refine wp_store_row 91 (.tmp 1) (.tmp 11) rfl (q) _ rfl rfl 91 _ (xq) (by kernel_rfl) rfl (by simp [Value.oneCell']) ?_
  refine hK.out _ _ ((xb.other _ (by omega)).other _ (by omega)) (fun hHeld => ?_)
  clear hK K
  try simp only [Act.put]
  refine wpAnyH_done (by kernel_rfl) ?_ _
  refine ⟨rfl, _, rfl, .tuple #[], by simp [results, Tryz.results66], rfl, rfl, (xp.set _).other _ hpq, xq.set _, rfl, rfl, rfl, ?_, fun k hk h1 h2 => ?_⟩
  · rw [size_row, size_row]; exact bz.size
  · rw [setRow_other _ _ _ _ h2, setRow_other _ _ _ _ h1]; exact bz.block k hk
end Ps
end Go.Proofs.YtggdhgppclnckaaGreatDoor
