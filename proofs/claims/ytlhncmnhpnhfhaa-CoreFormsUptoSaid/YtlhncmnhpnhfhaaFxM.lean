/-
  The builder of forms.
-/
import Derived.Laws.Rows
import Derived.Laws.Tables
import Derived.Test.YtlhncmnhpnhfhaaSrc13
import Derived.Test.YtlhncmnhpnhfhaaFxC
namespace Go.Proofs.Ytlhncmnhpnhfhaa
open Go Go.RowKit Go.Shelf
set_option maxRecDepth 20000
namespace Fx

/-- Block k holds a variable of type t with these cells. -/
def Bx (w : World) (k : Nat) (t : TypeId) (cs : Array Value) : Prop := w.heap[k]? = some (.cells cs t (0, 0))
section
variable {w w' : World} {k g : Nat} {t : TypeId} {cs ds : Array Value}
theorem Bx.lt (h : Bx w k t cs) : k < w.heap.size := (Array.getElem?_eq_some_iff.1 h).1
theorem Bx.but (h : Bx w k t cs) (hb : But g w w') (hk : k ≠ g) : Bx w' k t cs := (hb.block k h.lt hk).trans h
theorem bx_alloc (w : World) (t : TypeId) (cs : Array Value) : Bx (w.alloc (.cells cs t)) w.heap.size t cs := by
  have : (w.heap.push (.cells cs t))[w.heap.size]? = some (.cells cs t) := by simp
  exact this
theorem Bx.alloc (h : Bx w k t cs) (o : Obj) : Bx (w.alloc o) k t cs := ((allocB w o).block k h.lt).trans h
theorem Bx.set (h : Bx w k t cs) (ds : Array Value) : Bx (w.setRow k ds) k t ds := setRow_heap w k cs ds t (0, 0) h
theorem but_setRow {w0 : World} (h : But g w0 w) (hk : w0.heap.size ≤ k) (ds : Array Value) : But g w0 (w.setRow k ds) :=
  ⟨h.os, h.tape, h.output, by have := h.size; simp [World.setRow]; omega, fun j hj hg => (setRow_other w k j ds (by omega)).trans (h.block j hj hg)⟩
theorem src_setRow (h : Src w g) (hk : g < k) (ds : Array Value) : Src (w.setRow k ds) g :=
  h.belowB (B := k) ⟨rfl, rfl, rfl, by simp [World.setRow], fun j hj => setRow_other w k j ds (by omega)⟩ hk
theorem rd_setRow {b : Nat} {d : D} {v : Value} (h : Rd (Fr b) w d v) (hk : k < b) (ds : Array Value) : Rd (Fr b) (w.setRow k ds) d v :=
  h.keep (by simp [World.setRow]) (fun j hj _ => setRow_other w k j ds (by simp [Fr] at hj; omega)) fun _ h _ => h
end
theorem IntsAt.but {w w' : World} {ad : Addr} {m g : Nat} {lo hi : Int} (h : IntsAt w ad m lo hi) (hb : But g w w') (hne : ad.block ≠ g) : IntsAt w' ad m lo hi :=
  ⟨Nat.lt_of_lt_of_le h.1 hb.size, fun i hi => by
    obtain ⟨z, hz, hr⟩ := h.2 i hi
    exact ⟨z, (hb.cell (p := ad.add i) (by rw [addr_block]; exact h.1) (by rw [addr_block]; exact hne)).trans hz, hr⟩⟩

/-- The cells of a form that was built. -/
abbrev fv6 (o n : Int) (B : Option Addr) (l d : Nat) : Array Value := #[.int .i64 o, .int .i64 n, .bool false, .slice none 0 0, .slice none 0 0, .slice B l d]
/-- A form is built, in blocks from b on: fine for nv variables, d deep; but for block g nothing old has turned. -/
def GivesF (nv d b g : Nat) (w : World) (e : Ending) (w' : World) : Prop := ∃ (f : Fm) (B : Option Addr) (c : Nat), e = .returned (.agg (fv6 f.op f.num B f.args.length c)) ∧ Rd (Fr b) w' (.l 6 (fds f.args)) (.slice B f.args.length c) ∧ Fine nv f ∧ Deep d f ∧ Src w' g ∧ But g w w'
theorem fv_rds {S : Nat → Prop} {w : World} {f : Fm} {B : Option Addr} {c : Nat} (h : Rd S w (.l 6 (fds f.args)) (.slice B f.args.length c)) : Rds S w (fd f) [.int .i64 f.op, .int .i64 f.num, .bool false, .slice none 0 0, .slice none 0 0, .slice B f.args.length c] := by
  rw [fd_eq]
  exact .cons (.n _ _) (.cons (.n _ _) (.cons (.u _) (.cons (.u _) (.cons (.u _) (.cons h .nil)))))
theorem gives_node {nv d g : Nat} {w X : World} (op : Int) (fs : List Fm) (vs : List Value) (t : TypeId) (cells : Array Value) (hc : cells = fv6 op 0 (some ⟨X.heap.size, 0, none⟩) fs.length fs.length) (hr : Rds (Fr (w.heap.size + 1)) X (fds fs) vs) (hfs : ∀ f ∈ fs, Fine nv f ∧ Deep d f) (har : (fs.length : Int) = arity op) (h2 : op ≠ 2) (h3 : op ≠ 3)
    (hs : Src X g) (hb : But g w X) (hg : g < w.heap.size) (hl : fs.length ≤ 10) (hX : w.heap.size + 1 ≤ X.heap.size) : GivesF nv (d + 1) w.heap.size g w (.returned (.agg cells)) ((X.alloc (.cells vs.toArray t)).setRow w.heap.size cells) := by
  subst hc
  refine ⟨.mk op 0 fs, some ⟨X.heap.size, 0, none⟩, fs.length, rfl, ?_, .mk _ _ _ har h2 (fun h => absurd h h3) (fun a ha => (hfs a ha).1), Deep.of fun a ha => (hfs a ha).2, src_setRow (hs.below (allocB X _)) hg _, but_setRow (hb.alloc _) (Nat.le_refl _) _⟩
  refine (rd_setRow (b := w.heap.size + 1) ?_ (Nat.lt_succ_self _) _).in fun k hk => Nat.le_of_succ_le hk
  exact Rds.laidS (n := fs.length) t hr (fds_len fs) (fun _ h _ => h) hX (by unfold maxLen; omega)

set_option maxHeartbeats 4000000 in
theorem form_base (nv : Nat) (g m c : Nat) (ad : Addr) (w : World) (hs : Src w g) (hI : IntsAt w ad m 0 (nv - 1)) (hne : ad.block ≠ g) (hm : 0 < m) (hm1 : m ≤ 1000) :
    Calls Try.prog 9 #[.pointer (some ⟨g, 0, none⟩), .slice (some ad) m c, .int .i64 1] w (GivesF nv 1 w.heap.size g w) := by
  have hgs := hs.size
  obtain ⟨W, hW⟩ : ∃ W, w.alloc (.cells #[.int .i64 0, .int .i64 0, .bool false, .slice none 0 0, .slice none 0 0, .slice none 0 0] 27) = W := ⟨_, rfl⟩
  have hsW : W.heap.size = w.heap.size + 1 := by rw [← hW]; simp
  have x0 : Bx W w.heap.size 27 #[.int .i64 0, .int .i64 0, .bool false, .slice none 0 0, .slice none 0 0, .slice none 0 0] := by rw [← hW]; exact bx_alloc _ _ _
  have b0 : But g w W := by rw [← hW]; exact (But.refl g w).alloc _
  have s0 : Src W g := by rw [← hW]; exact hs.below (allocB w _)
  have HSW := Lib.hid hsW
  clear hsW hs
  go_enter Try.func9, Try.ntmps9
  have hgw : w.heap.size ≠ g := by omega
  have hmz : ((m : Int) == 0) = false := by simp; omega
  go_wp2_with (first | ((try rw [hW]); (with_reducible refine (N_any g W 14 s0 (by omega) (by omega)).mono ?_); rintro e W1 ⟨k_, rfl, ⟨k0_, k1_⟩, s1_, b1_⟩) | ((with_reducible refine (N_any g W1 4 s1_ (by omega) (by omega)).mono ?_); rintro e W2 ⟨k, rfl, ⟨k0, k1⟩, s1, b1_2⟩; (have b1 := b1_.trans b1_2); clear b1_ b1_2 s1_; (rcases (show k = 0 ∨ (1 ≤ k ∧ k < 4) by omega) with rfl | ⟨q1, q2⟩)))
  · have x1 := x0.but b1 hgw
    go_wp2_with (first | ((with_reducible refine (range_any g W2 (-1) 3 s1 (by omega) (by omega) (by omega)).mono ?_); rintro e W3 ⟨z, rfl, hz, s3, b3⟩; (have x3 := x1.but b3 hgw)) | (refine wpList_store_row rfl 27 (.tmp 6) (.tmp 28) rfl w.heap.size (fv6 1 z none 0 0) rfl rfl 27 _ x3 (by kernel_rfl) (by rfl) (by simp [Value.oneCell']) ?_))
    refine bodyPost_ret (results_cell_row rfl _ _ w.heap.size _ _ _ (.struct _) rfl (x3.set _) rfl rfl (by kernel_rfl)) rfl ?_
    have hsz := HSW.out
    exact ⟨.mk 1 z [], none, 0, rfl, .nil 6, .mk _ _ _ rfl (by omega) (fun h => by omega) (by simp), Deep.of (by simp [Fm.args]), src_setRow s3 hgs _, but_setRow ((b0.trans b1).trans b3) (Nat.le_refl _) _⟩
  · have x1 := x0.but b1 hgw
    have hI1 := IntsAt.but hI (b0.trans b1) hne
    have qk : (k == 0) = false := by simp; omega
    go_wp2_with (first | ((with_reducible refine (pick_any g W2 ad m c 0 (nv - 1) s1 hm hm1 hI1 hne).mono ?_); rintro e W3 ⟨z, rfl, hz, s3, b3⟩; (have x3 := x1.but b3 hgw)) | (refine wpList_store_row rfl 27 (.tmp 6) (.tmp 35) rfl w.heap.size (fv6 3 z none 0 0) rfl rfl 27 _ x3 (by kernel_rfl) (by rfl) (by simp [Value.oneCell']) ?_))
    refine bodyPost_ret (results_cell_row rfl _ _ w.heap.size _ _ _ (.struct _) rfl (x3.set _) rfl rfl (by kernel_rfl)) rfl ?_
    exact ⟨.mk 3 z [], none, 0, rfl, .nil 6, .mk _ _ _ rfl (by omega) (fun _ => by omega) (by simp), Deep.of (by simp [Fm.args]), src_setRow s3 hgs _, but_setRow ((b0.trans b1).trans b3) (Nat.le_refl _) _⟩

set_option maxHeartbeats 4000000 in
theorem form_step (nv d : Nat) (dd : Int) (h2 : 2 ≤ dd) (h10 : dd ≤ 10)
    (ih : ∀ (g m c : Nat) (ad : Addr) (w : World), Src w g → IntsAt w ad m 0 (nv - 1) → ad.block ≠ g → 0 < m → m ≤ 1000 → Calls Try.prog 9 #[.pointer (some ⟨g, 0, none⟩), .slice (some ad) m c, .int .i64 (dd - 1)] w (GivesF nv d w.heap.size g w))
    (g m c : Nat) (ad : Addr) (w : World) (hs : Src w g) (hI : IntsAt w ad m 0 (nv - 1)) (hne : ad.block ≠ g) (hm : 0 < m) (hm1 : m ≤ 1000) :
    Calls Try.prog 9 #[.pointer (some ⟨g, 0, none⟩), .slice (some ad) m c, .int .i64 dd] w (GivesF nv (d + 1) w.heap.size g w) := by
  have hgs := hs.size
  obtain ⟨W, hW⟩ : ∃ W, w.alloc (.cells #[.int .i64 0, .int .i64 0, .bool false, .slice none 0 0, .slice none 0 0, .slice none 0 0] 27) = W := ⟨_, rfl⟩
  have hsW : W.heap.size = w.heap.size + 1 := by rw [← hW]; simp
  have x0 : Bx W w.heap.size 27 #[.int .i64 0, .int .i64 0, .bool false, .slice none 0 0, .slice none 0 0, .slice none 0 0] := by rw [← hW]; exact bx_alloc _ _ _
  have b0 : But g w W := by rw [← hW]; exact (But.refl g w).alloc _
  have s0 : Src W g := by rw [← hW]; exact hs.below (allocB w _)
  have HSW := Lib.hid hsW
  clear hsW hs
  go_enter Try.func9, Try.ntmps9
  have hgw : w.heap.size ≠ g := by omega
  have hmz : ((m : Int) == 0) = false := by simp; omega
  go_wp2_with (first | ((try rw [hW]); (with_reducible refine (N_any g W 14 s0 (by omega) (by omega)).mono ?_); rintro e W1 ⟨k, rfl, ⟨k0, k1⟩, s1, b1⟩; (rcases (show k = 0 ∨ (1 ≤ k ∧ k < 4) ∨ k = 4 ∨ k = 5 ∨ 6 ≤ k by omega) with rfl | ⟨q1, q2⟩ | rfl | rfl | q6)))
  · have x1 := x0.but b1 hgw
    go_wp2_with (first | ((with_reducible refine (range_any g W1 (-1) 3 s1 (by omega) (by omega) (by omega)).mono ?_); rintro e W3 ⟨z, rfl, hz, s3, b3⟩; (have x3 := x1.but b3 hgw)) | (refine wpList_store_row rfl 27 (.tmp 6) (.tmp 28) rfl w.heap.size (fv6 1 z none 0 0) rfl rfl 27 _ x3 (by kernel_rfl) (by rfl) (by simp [Value.oneCell']) ?_))
    refine bodyPost_ret (results_cell_row rfl _ _ w.heap.size _ _ _ (.struct _) rfl (x3.set _) rfl rfl (by kernel_rfl)) rfl ?_
    have hsz := HSW.out
    exact ⟨.mk 1 z [], none, 0, rfl, .nil 6, .mk _ _ _ rfl (by omega) (fun h => by omega) (by simp), Deep.of (by simp [Fm.args]), src_setRow s3 hgs _, but_setRow ((b0.trans b1).trans b3) (Nat.le_refl _) _⟩
  · have x1 := x0.but b1 hgw
    have hI1 := IntsAt.but hI (b0.trans b1) hne
    have qk : (k == 0) = false := by simp; omega
    go_wp2_with (first | ((with_reducible refine (pick_any g W1 ad m c 0 (nv - 1) s1 hm hm1 hI1 hne).mono ?_); rintro e W3 ⟨z, rfl, hz, s3, b3⟩; (have x3 := x1.but b3 hgw)) | (refine wpList_store_row rfl 27 (.tmp 6) (.tmp 35) rfl w.heap.size (fv6 3 z none 0 0) rfl rfl 27 _ x3 (by kernel_rfl) (by rfl) (by simp [Value.oneCell']) ?_))
    refine bodyPost_ret (results_cell_row rfl _ _ w.heap.size _ _ _ (.struct _) rfl (x3.set _) rfl rfl (by kernel_rfl)) rfl ?_
    exact ⟨.mk 3 z [], none, 0, rfl, .nil 6, .mk _ _ _ rfl (by omega) (fun _ => by omega) (by simp), Deep.of (by simp [Fm.args]), src_setRow s3 hgs _, but_setRow ((b0.trans b1).trans b3) (Nat.le_refl _) _⟩
  · have bt0 := b0.trans b1
    have x1 := x0.but b1 hgw
    go_wp2_with (first | ((with_reducible refine (ih g m c ad W1 s1 (IntsAt.but hI bt0 hne) hne hm hm1).mono ?_); rintro e X1 ⟨f1, B1, c1, rfl, r1, fn1, dp1, sx1, bx1⟩; (have bt1 := bt0.trans bx1); (have y1 := x1.but bx1 hgw)) | (refine wpList_store_row rfl 27 (.tmp 6) (.tmp 45) rfl w.heap.size (fv6 4 0 (some ⟨X1.heap.size, 0, none⟩) 1 1) rfl rfl 27 _ (y1.alloc _) (by kernel_rfl) (by rfl) (by simp [Value.oneCell']) ?_))
    refine bodyPost_ret (results_cell_row rfl _ _ w.heap.size _ _ _ (.struct _) rfl ((y1.alloc _).set _) rfl rfl (by kernel_rfl)) rfl ?_
    have hsz := HSW.out
    have q1 := b1.size
    have qx1 := bx1.size
    refine gives_node 4 [f1] _ _ _ rfl (Rds.app ((fv_rds r1).in fun q hq => Nat.le_trans (by omega) hq) .nil) ?_ rfl (by omega) (by omega) sx1 bt1 hgs (by simp) (by omega)
    intro f hf
    simp only [List.mem_cons, List.not_mem_nil, or_false] at hf
    rcases hf with rfl
    · exact ⟨fn1, dp1⟩
  · have bt0 := b0.trans b1
    have x1 := x0.but b1 hgw
    go_wp2_with (first | ((with_reducible refine (ih g m c ad W1 s1 (IntsAt.but hI bt0 hne) hne hm hm1).mono ?_); rintro e X1 ⟨f1, B1, c1, rfl, r1, fn1, dp1, sx1, bx1⟩; (have bt1 := bt0.trans bx1); (have y1 := x1.but bx1 hgw)) | ((with_reducible refine (ih g m c ad X1 sx1 (IntsAt.but hI bt1 hne) hne hm hm1).mono ?_); rintro e X2 ⟨f2, B2, c2, rfl, r2, fn2, dp2, sx2, bx2⟩; (have bt2 := bt1.trans bx2); (have y2 := y1.but bx2 hgw)) | ((with_reducible refine (ih g m c ad X2 sx2 (IntsAt.but hI bt2 hne) hne hm hm1).mono ?_); rintro e X3 ⟨f3, B3, c3, rfl, r3, fn3, dp3, sx3, bx3⟩; (have bt3 := bt2.trans bx3); (have y3 := y2.but bx3 hgw)) | (refine wpList_store_row rfl 27 (.tmp 6) (.tmp 65) rfl w.heap.size (fv6 13 0 (some ⟨X3.heap.size, 0, none⟩) 3 3) rfl rfl 27 _ (y3.alloc _) (by kernel_rfl) (by rfl) (by simp [Value.oneCell']) ?_))
    refine bodyPost_ret (results_cell_row rfl _ _ w.heap.size _ _ _ (.struct _) rfl ((y3.alloc _).set _) rfl rfl (by kernel_rfl)) rfl ?_
    have hsz := HSW.out
    have q1 := b1.size
    have qx1 := bx1.size
    have qx2 := bx2.size
    have qx3 := bx3.size
    refine gives_node 13 [f1, f2, f3] _ _ _ rfl (Rds.app ((fv_rds r1).lift (bx2.trans bx3) (by omega) (by omega)) (Rds.app ((fv_rds r2).lift bx3 (by omega) (by omega)) (Rds.app ((fv_rds r3).in fun q hq => Nat.le_trans (by omega) hq) .nil))) ?_ rfl (by omega) (by omega) sx3 bt3 hgs (by simp) (by omega)
    intro f hf
    simp only [List.mem_cons, List.not_mem_nil, or_false] at hf
    rcases hf with rfl | rfl | rfl
    · exact ⟨fn1, dp1⟩
    · exact ⟨fn2, dp2⟩
    · exact ⟨fn3, dp3⟩
  · have bt0 := b0.trans b1
    have x1 := x0.but b1 hgw
    have qk0 : (k == 0) = false := by simp; omega
    have qk1 : ¬ k < 4 := by omega
    have qk2 : (k == 4) = false := by simp; omega
    have qk3 : (k == 5) = false := by simp; omega
    go_wp2_with (first | ((with_reducible refine (ih g m c ad W1 s1 (IntsAt.but hI bt0 hne) hne hm hm1).mono ?_); rintro e X1 ⟨f1, B1, c1, rfl, r1, fn1, dp1, sx1, bx1⟩; (have bt1 := bt0.trans bx1); (have y1 := x1.but bx1 hgw)) | ((with_reducible refine (ih g m c ad X1 sx1 (IntsAt.but hI bt1 hne) hne hm hm1).mono ?_); rintro e X2 ⟨f2, B2, c2, rfl, r2, fn2, dp2, sx2, bx2⟩; (have bt2 := bt1.trans bx2); (have y2 := y1.but bx2 hgw)) | (refine wpList_store_row rfl 27 (.tmp 6) (.tmp 81) rfl w.heap.size (fv6 (5 + (k - 6) % 8) 0 (some ⟨X2.heap.size, 0, none⟩) 2 2) rfl rfl 27 _ (y2.alloc _) (by kernel_rfl) (by rfl) (by simp [Value.oneCell']) ?_))
    refine bodyPost_ret (results_cell_row rfl _ _ w.heap.size _ _ _ (.struct _) rfl ((y2.alloc _).set _) rfl rfl (by kernel_rfl)) rfl ?_
    have hsz := HSW.out
    have q1 := b1.size
    have qx1 := bx1.size
    have qx2 := bx2.size
    refine gives_node (5 + (k - 6) % 8) [f1, f2] _ _ _ rfl (Rds.app ((fv_rds r1).lift bx2 (by omega) (by omega)) (Rds.app ((fv_rds r2).in fun q hq => Nat.le_trans (by omega) hq) .nil)) ?_ (by unfold arity; simp; omega) (by omega) (by omega) sx2 bt2 hgs (by simp) (by omega)
    intro f hf
    simp only [List.mem_cons, List.not_mem_nil, or_false] at hf
    rcases hf with rfl | rfl
    · exact ⟨fn1, dp1⟩
    · exact ⟨fn2, dp2⟩
end Fx
end Go.Proofs.Ytlhncmnhpnhfhaa
