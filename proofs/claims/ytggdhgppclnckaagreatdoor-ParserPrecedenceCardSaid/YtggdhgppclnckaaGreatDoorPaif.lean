/-
  read: the parser with its deferred recover.
-/
import Derived.Test.YtggdhgppclnckaaGreatDoorPaie
namespace Go.Proofs.YtggdhgppclnckaaGreatDoor
open Go Go.RowKit Lx
set_option maxRecDepth 20000

namespace Ps
theorem catch_idle (p q : Nat) (w : World) : CallsD Tryz.prog 66 #[.pointer (some ⟨p, 0, none⟩), .pointer (some ⟨q, 0, none⟩)] .returning w fun e u' w' => e = .returned (.tuple #[]) ∧ u' = .returning ∧ Below w.heap.size w w' := by
  refine callsD_of_wpS Tryz.func66 rfl fun c₀ cs hu => ?_
  apply wpS_seq
  apply wpS_region
  simp [wpOpsS, go_sem, recoverD, hu, Tryz.ntmps66, Exit.thenS, ta_nil]
  apply wpS_seq
  apply wpS_region
  simp [wpOpsS, go_sem, Exit.thenS]
  refine wpS_cond (t := false) (by simp [Act.eval, Array.replicate]) ?_
  simp only [Bool.false_eq_true, if_false]
  refine wpS_of_wp (wp_skip ?_)
  have bz := allocB w (.cells #[.int .i64 0, .int .i64 0, .int .i64 0] 91)
  cases c₀
  simp_all [bodyPostS, results, Tryz.results66]
/-- What read returns. -/
def GivesRead (L : List Tok) (w : World) (e : Ending) (w' : World) : Prop :=
  (∃ pr j o a0 a1 a2 a3 a4 a5, program L 0 0 = .ok pr j o ∧ e = .returned (.tuple #[.agg #[a0, a1, a2, a3, a4, a5], .agg #[.int .i64 0, .int .i64 0, .int .i64 0]]) ∧ Rds (Fr w.heap.size) w' pr.d [a0, a1, a2, a3, a4, a5] ∧ Below w.heap.size w w') ∨
  (∃ j er, program L 0 0 = .no j er ∧ j < L.length ∧ e = .returned (.tuple #[.agg #[.slice none 0 0, .slice none 0 0, .slice none 0 0, .slice none 0 0, .slice none 0 0, .string ⟨#[]⟩], .agg #[.int .i64 (tkn L j).ln, .int .i64 (tkn L j).co, .int .i64 er]]) ∧ Below w.heap.size w w')
set_option maxHeartbeats 4000000 in
theorem read_x (L : List Tok) (b n c : Nat) (w : World) (hb : b < w.heap.size) (htk : ∀ (j : Nat) (t : Tok), L[j]? = some t → TkC w b j t) (hn : L.length = n) (hg : Good L) (hgl : Gl w) (h8 : 5 ≤ w.heap.size) (hb8 : 5 ≤ b) (hfr : ∀ g, FrOk g b n c L) :
    Calls Tryz.prog 40 #[.slice (some ⟨b, 0, none⟩) n c] w (GivesRead L w) := by
  have hmf : ∀ (fn : Fn) (first cap : Array Value) (w : World), (Instr.makeFunc fn first cap).run Tryz.prog w = .ok (.func fn first cap) w := fun _ _ _ _ => rfl
  go_enter_defers Tryz.func40, Tryz.ntmps40
  go_wp2_with fail
  have e1 : (w.alloc (.cells #[.slice none 0 0, .slice none 0 0, .slice none 0 0, .slice none 0 0, .slice none 0 0, .string ⟨#[]⟩] 32)).heap.size = w.heap.size + 1 := by simp
  have e2 : ((w.alloc (.cells #[.slice none 0 0, .slice none 0 0, .slice none 0 0, .slice none 0 0, .slice none 0 0, .string ⟨#[]⟩] 32)).alloc (.cells #[.int .i64 0, .int .i64 0, .int .i64 0] 91)).heap.size = w.heap.size + 1 + 1 := by simp
  have b1 := allocB w (.cells #[.slice none 0 0, .slice none 0 0, .slice none 0 0, .slice none 0 0, .slice none 0 0, .string ⟨#[]⟩] 32)
  have b2 := b1.trans ((allocB (w.alloc (.cells #[.slice none 0 0, .slice none 0 0, .slice none 0 0, .slice none 0 0, .slice none 0 0, .string ⟨#[]⟩] 32)) (.cells #[.int .i64 0, .int .i64 0, .int .i64 0] 91)).mono b1.size)
  have b3 := b2.trans ((allocB ((w.alloc (.cells #[.slice none 0 0, .slice none 0 0, .slice none 0 0, .slice none 0 0, .slice none 0 0, .string ⟨#[]⟩] 32)).alloc (.cells #[.int .i64 0, .int .i64 0, .int .i64 0] 91)) (.cells #[.slice (some ⟨b, 0, none⟩) n c, .int .i64 0, .int .i64 0] 121)).mono b2.size)
  have xp := ((box_alloc w 32 #[.slice none 0 0, .slice none 0 0, .slice none 0 0, .slice none 0 0, .slice none 0 0, .string ⟨#[]⟩]).new (allocB _ (.cells #[.int .i64 0, .int .i64 0, .int .i64 0] 91))).new (allocB _ (.cells #[.slice (some ⟨b, 0, none⟩) n c, .int .i64 0, .int .i64 0] 121))
  have xq := (box_alloc (w.alloc (.cells #[.slice none 0 0, .slice none 0 0, .slice none 0 0, .slice none 0 0, .slice none 0 0, .string ⟨#[]⟩] 32)) 91 #[.int .i64 0, .int .i64 0, .int .i64 0]).new (allocB _ (.cells #[.slice (some ⟨b, 0, none⟩) n c, .int .i64 0, .int .i64 0] 121))
  have xg := box_alloc ((w.alloc (.cells #[.slice none 0 0, .slice none 0 0, .slice none 0 0, .slice none 0 0, .slice none 0 0, .string ⟨#[]⟩] 32)).alloc (.cells #[.int .i64 0, .int .i64 0, .int .i64 0] 91)) 121 #[.slice (some ⟨b, 0, none⟩) n c, .int .i64 0, .int .i64 0]
  rw [e1] at xq
  rw [e2] at xg
  have h0 := hg.pos
  have hat : At (((w.alloc (.cells #[.slice none 0 0, .slice none 0 0, .slice none 0 0, .slice none 0 0, .slice none 0 0, .string ⟨#[]⟩] 32)).alloc (.cells #[.int .i64 0, .int .i64 0, .int .i64 0] 91)).alloc (.cells #[.slice (some ⟨b, 0, none⟩) n c, .int .i64 0, .int .i64 0] 121)) (w.heap.size + 1 + 1) b n c L 0 0 := by
    refine ⟨⟨xg.lt, box_cell xg 0 _ rfl, box_cell xg 1 _ rfl, box_cell xg 2 _ rfl, fun i => Box.fr xg i⟩, by omega, Nat.lt_of_lt_of_le hb b3.size, fun j t ht => (htk j t ht).keep (b3.block b hb), hn, by omega, by omega, hg, hgl.keep fun k hk => b3.block k (by omega), by omega, hb8⟩
  have s3 := b3.size
  clear e1 e2 b1 b2 xg hgl htk
  generalize (((w.alloc (.cells #[.slice none 0 0, .slice none 0 0, .slice none 0 0, .slice none 0 0, .slice none 0 0, .string ⟨#[]⟩] 32)).alloc (.cells #[.int .i64 0, .int .i64 0, .int .i64 0] 91)).alloc (.cells #[.slice (some ⟨b, 0, none⟩) n c, .int .i64 0, .int .i64 0] 121)) = w3 at *
  have l1 := xp.lt
  have l2 := xq.lt
  refine (program_x (hfr _) w3 0 0 hat (by omega)).mono ?_
  rintro en w4 (⟨pr, j, q, v, hm, rfl, ⟨a0, a1, a2, a3, a4, a5, rfl, hv⟩, hat4, hle, hb4⟩ | ⟨j, er, hm, rfl, hj, hb4⟩)
  · have yp := xp.but hb4 (by omega)
    have yq := xq.but hb4 (by omega)
    have onesP : (#[a0, a1, a2, a3, a4, a5] : Array Value).all (·.oneCell') = true := hv.all
    have yq' := yq.other (j := w.heap.size) #[a0, a1, a2, a3, a4, a5] (by omega)
    go_wp2_with (first | (refine wpList_store_row rfl 32 (.tmp 2) (.tmp 10) rfl w.heap.size _ rfl rfl 32 _ yp (by kernel_rfl) rfl onesP ?_) | (refine wpList_store_row rfl 91 (.tmp 3) (.tmp 11) rfl (w.heap.size + 1) _ rfl rfl 91 _ yq' (by kernel_rfl) rfl (by simp [Value.oneCell']) ?_))
    refine leaves_cons (f := 66) (args := #[.pointer (some ⟨w.heap.size, 0, none⟩), .pointer (some ⟨w.heap.size + 1, 0, none⟩)]) (by simp) (by simp [go_sem]) ?_
    have zp := (yp.set #[a0, a1, a2, a3, a4, a5]).other (j := w.heap.size + 1) #[.int .i64 0, .int .i64 0, .int .i64 0] (by omega)
    have zq := yq'.set #[.int .i64 0, .int .i64 0, .int .i64 0]
    have hB : Below w.heap.size w ((w4.setRow w.heap.size #[a0, a1, a2, a3, a4, a5]).setRow (w.heap.size + 1) #[.int .i64 0, .int .i64 0, .int .i64 0]) := below_row (below_row (b3.trans (hb4.below (by omega) b3.size)) (Nat.le_refl _) _) (by omega) _
    have hd : Rds (Fr w3.heap.size) ((w4.setRow w.heap.size #[a0, a1, a2, a3, a4, a5]).setRow (w.heap.size + 1) #[.int .i64 0, .int .i64 0, .int .i64 0]) pr.d [a0, a1, a2, a3, a4, a5] := (hv.row (by simp [Fr]; omega) _).row (by simp [Fr]; omega) _
    generalize (w4.setRow w.heap.size #[a0, a1, a2, a3, a4, a5]).setRow (w.heap.size + 1) #[.int .i64 0, .int .i64 0, .int .i64 0] = w5 at *
    refine (catch_idle _ _ w5).mono ?_
    rintro e u w6 ⟨rfl, rfl, hb6⟩
    refine ⟨_, results_two rfl _ _ rfl rfl (zp.new hb6) (zq.new hb6) rfl rfl (by kernel_rfl) (by kernel_rfl), ?_⟩
    exact Or.inl ⟨pr, j, q, _, _, _, _, _, _, hm, rfl, (hd.new hb6).in fun k hk => by simp [Fr] at hk ⊢; omega, hB.trans (hb6.mono hB.size)⟩
  · have yp := xp.but hb4 (by omega)
    have yq := xq.but hb4 (by omega)
    go_wp2
    have hB : Below w.heap.size w w4 := b3.trans (hb4.below (by omega) b3.size)
    refine leaves_cons (f := 66) (args := #[.pointer (some ⟨w.heap.size, 0, none⟩), .pointer (some ⟨w.heap.size + 1, 0, none⟩)]) (by simp) (by simp [go_sem]) ?_
    refine (catch_panicking _ _ (tkn L j).ln (tkn L j).co er _ _ w4 yp rfl yq rfl (by omega)).mono ?_
    rintro e u w6 ⟨rfl, rfl, zp, zq, ho, ht, hou, hz, hbk⟩
    refine ⟨_, results_two rfl _ _ rfl rfl zp zq rfl rfl (by kernel_rfl) (by kernel_rfl), ?_⟩
    have hB2 : Below w.heap.size w w6 := ⟨ho.trans hB.os, ht.trans hB.tape, hou.trans hB.output, Nat.le_trans hB.size hz, fun k hk => (hbk k (by have := hB.size; omega) (by omega) (by omega)).trans (hB.block k hk)⟩
    exact Or.inr ⟨j, er, hm, by omega, rfl, hB2⟩
end Ps
end Go.Proofs.YtggdhgppclnckaaGreatDoor
