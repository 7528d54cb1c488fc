/-
  The inside of functions and queries.
-/
import Derived.Test.YtggdhgppclnckaaGreatDoorPasZ
namespace Go.Proofs.YtggdhgppclnckaaGreatDoor
open Go Go.RowKit Lx
set_option maxRecDepth 20000

namespace Ps
variable {w : World} {g b n c : Nat} {L : List Tok} {i : Nat} {o : Int}
def rdFu (b : Nat) (w : World) (f : Fu) (v : Value) : Prop := ∃ a0 a1 a2 a3 a4, v = .agg #[a0, a1, a2, a3, a4] ∧ Rds (Fr b) w f.d [a0, a1, a2, a3, a4]
theorem fu_rds {Q : Nat → Prop} {w : World} (s : Bs) (args vars : List De) (bdy : List St) (res : Bs) {x y z : Value} (ha : Rd Q w (.l 6 (args.flatMap De.d)) x) (hv : Rd Q w (.l 6 (vars.flatMap De.d)) y) (hb : Rd Q w (.l 25 (dsS bdy)) z) :
    Rds Q w (Fu.mk s args vars bdy res).d [.string (bt s), x, y, z, .string (bt res)] :=
  .cons (.s s) (.cons ha (.cons hv (.cons hb (.cons (.s res) .nil))))
set_option maxHeartbeats 8000000 in
theorem inner_x (hfr : FrOk g b n c L) (h : At w g b n c L i o) (B : Nat) (hgB : g < B) (hbB : b < B) (hB : B ≤ w.heap.size) (s : Bs) (args : List De) {A : Option Addr} {m q : Nat} (ha : Rd (Fr B) w (.l 6 (args.flatMap De.d)) (.slice A m q)) :
    Calls Tryz.prog 101 #[.pointer (some ⟨g, 0, none⟩), .agg #[.string (bt s), .slice A m q, .slice none 0 0, .slice none 0 0, .string ⟨#[]⟩]] w (Giv g b n c L (rdFu B) w i 1 (inner L s args i o)) := by
  have HB := Lib.hid (block_x (g := g) (b := b) (n := n) (c := c) (L := L) hfr)
  have HW := HW_ (g := g) (b := b) (n := n) (c := c) (L := L)
  generalize hr : inner L s args i o = r
  unfold inner at hr
  have b0 : Below w.heap.size w ((w.alloc (.cells #[.string (bt s), .slice A m q, .slice none 0 0, .slice none 0 0, .string ⟨#[]⟩] 71)).alloc (.cells #[.string ⟨#[]⟩, .slice none 0 0, .slice none 0 0, .slice none 0 0, .string ⟨#[]⟩] 71)) := (allocB w _).trans ((allocB _ _).mono (by simp))
  have xf := (box_alloc w 71 #[.string (bt s), .slice A m q, .slice none 0 0, .slice none 0 0, .string ⟨#[]⟩]).new (allocB (w.alloc (.cells #[.string (bt s), .slice A m q, .slice none 0 0, .slice none 0 0, .string ⟨#[]⟩] 71)) (.cells #[.string ⟨#[]⟩, .slice none 0 0, .slice none 0 0, .slice none 0 0, .string ⟨#[]⟩] 71))
  have x0 := box_alloc (w.alloc (.cells #[.string (bt s), .slice A m q, .slice none 0 0, .slice none 0 0, .string ⟨#[]⟩] 71)) 71 #[.string ⟨#[]⟩, .slice none 0 0, .slice none 0 0, .slice none 0 0, .string ⟨#[]⟩]
  rw [show (w.alloc (.cells #[.string (bt s), .slice A m q, .slice none 0 0, .slice none 0 0, .string ⟨#[]⟩] 71)).heap.size = w.heap.size + 1 by simp] at x0
  have at0 := h.new b0
  have hs0 : w.heap.size + 2 ≤ ((w.alloc (.cells #[.string (bt s), .slice A m q, .slice none 0 0, .slice none 0 0, .string ⟨#[]⟩] 71)).alloc (.cells #[.string ⟨#[]⟩, .slice none 0 0, .slice none 0 0, .slice none 0 0, .string ⟨#[]⟩] 71)).heap.size := by simp
  have hB0 : But g w ((w.alloc (.cells #[.string (bt s), .slice A m q, .slice none 0 0, .slice none 0 0, .string ⟨#[]⟩] 71)).alloc (.cells #[.string ⟨#[]⟩, .slice none 0 0, .slice none 0 0, .slice none 0 0, .string ⟨#[]⟩] 71)) := But.of_below b0
  have da : Rd (Ob3 B w.heap.size) ((w.alloc (.cells #[.string (bt s), .slice A m q, .slice none 0 0, .slice none 0 0, .string ⟨#[]⟩] 71)).alloc (.cells #[.string ⟨#[]⟩, .slice none 0 0, .slice none 0 0, .slice none 0 0, .string ⟨#[]⟩] 71)) (.l 6 (args.flatMap De.d)) (.slice A m q) :=
    ha.keep b0.size (fun k _ hk => b0.block k hk) fun k hk hlt => by simp [Fr] at hk; simp [Ob3]; omega
  clear ha h b0
  go_enter Tryz.func101, Tryz.ntmps101
  go_wp2_with fail
  generalize (w.alloc (.cells #[.string (bt s), .slice A m q, .slice none 0 0, .slice none 0 0, .string ⟨#[]⟩] 71)).alloc (.cells #[.string ⟨#[]⟩, .slice none 0 0, .slice none 0 0, .slice none 0 0, .string ⟨#[]⟩] 71) = W0 at *
  refine (HW.out _ _ _ [123] (by decide) at0).mono ?_
  rintro en w1 (⟨⟨⟩, j, q1, v, hm, rfl, rfl, hat, hle, hb⟩ | ⟨j, er, hm, rfl, hj, hb⟩)
  rotate_left
  · rw [bd_no hm] at hr
    go_wp2
    exact post_panic (fn := Tryz.f101) rfl (Or.inr ⟨j, er, hr.symm, rfl, hj, hB0.trans hb⟩)
  rw [bd_ok hm] at hr
  have xf1 := xf.but hb (by omega)
  have x1 := x0.but hb (by omega)
  have da1 := da.but hb (by simp [Ob3]; omega)
  have hB1 := hB0.trans hb
  have hs1 := hb.size
  clear hm xf x0 da hB0 at0
  go_wp2_with fail
  refine (HB.out _ _ _ hat (by omega)).mono ?_
  rintro en w2 (⟨⟨vs, bdy, res⟩, j2, q2, v, hm, rfl, ⟨C, cm, cc, E, em, ec, rfl, hv1, hv2⟩, hat2, hle2, hb2⟩ | ⟨j2, er, hm, rfl, hj2, hb2⟩)
  rotate_left
  · rw [bd_no hm] at hr
    go_wp2
    exact post_panic (fn := Tryz.f101) rfl (Or.inr ⟨j2, er, hr.symm, rfl, hj2, hB1.trans hb2⟩)
  rw [bd_ok hm] at hr
  have xf2 := xf1.but hb2 (by omega)
  have x2 := x1.but hb2 (by omega)
  have da2 := da1.but hb2 (by simp [Ob3]; omega)
  have hB2 := hB1.trans hb2
  have hs2 := hb2.size
  have dv2 : Rd (Ob3 B w.heap.size) w2 (.l 6 (vs.flatMap De.d)) (.slice C cm cc) := hv1.in fun k hk => by simp [Fr] at hk; simp [Ob3]; omega
  have db2 : Rd (Ob3 B w.heap.size) w2 (.l 25 (dsS bdy)) (.slice E em ec) := hv2.in fun k hk => by simp [Fr] at hk; simp [Ob3]; omega
  clear hm xf1 x1 da1 hB1 hat hv1 hv2
  have p2 := box_cell xf2 2 (.slice none 0 0) rfl
  have p3 := box_cell xf2 3 (.slice none 0 0) rfl
  have p4 := box_cell xf2 4 (.string ⟨#[]⟩) rfl
  have f2 := Box.fr xf2 2
  have f3 := Box.fr xf2 3
  have f4 := Box.fr xf2 4
  go_wp2_with fail
  clear p2 p3 p4 f2 f3 f4
  have e1 : w2.setCell ⟨w.heap.size, 2, none⟩ (.slice C cm cc) = w2.setRow w.heap.size #[.string (bt s), .slice A m q, .slice C cm cc, .slice none 0 0, .string ⟨#[]⟩] := Box.cell_row xf2 2 _
  rw [e1]
  have xf3 := xf2.set #[.string (bt s), .slice A m q, .slice C cm cc, .slice none 0 0, .string ⟨#[]⟩]
  have e2 : (w2.setRow w.heap.size #[.string (bt s), .slice A m q, .slice C cm cc, .slice none 0 0, .string ⟨#[]⟩]).setCell ⟨w.heap.size, 3, none⟩ (.slice E em ec) = (w2.setRow w.heap.size #[.string (bt s), .slice A m q, .slice C cm cc, .slice none 0 0, .string ⟨#[]⟩]).setRow w.heap.size #[.string (bt s), .slice A m q, .slice C cm cc, .slice E em ec, .string ⟨#[]⟩] := Box.cell_row xf3 3 _
  rw [e2]
  have xf4 := xf3.set #[.string (bt s), .slice A m q, .slice C cm cc, .slice E em ec, .string ⟨#[]⟩]
  have e3 : ((w2.setRow w.heap.size #[.string (bt s), .slice A m q, .slice C cm cc, .slice none 0 0, .string ⟨#[]⟩]).setRow w.heap.size #[.string (bt s), .slice A m q, .slice C cm cc, .slice E em ec, .string ⟨#[]⟩]).setCell ⟨w.heap.size, 4, none⟩ (.string (bt res)) = ((w2.setRow w.heap.size #[.string (bt s), .slice A m q, .slice C cm cc, .slice none 0 0, .string ⟨#[]⟩]).setRow w.heap.size #[.string (bt s), .slice A m q, .slice C cm cc, .slice E em ec, .string ⟨#[]⟩]).setRow w.heap.size #[.string (bt s), .slice A m q, .slice C cm cc, .slice E em ec, .string (bt res)] := Box.cell_row xf4 4 _
  rw [e3]
  have xf5 := xf4.set #[.string (bt s), .slice A m q, .slice C cm cc, .slice E em ec, .string (bt res)]
  have x5 := ((x2.other (j := w.heap.size) #[.string (bt s), .slice A m q, .slice C cm cc, .slice none 0 0, .string ⟨#[]⟩] (by omega)).other (j := w.heap.size) #[.string (bt s), .slice A m q, .slice C cm cc, .slice E em ec, .string ⟨#[]⟩] (by omega)).other (j := w.heap.size) #[.string (bt s), .slice A m q, .slice C cm cc, .slice E em ec, .string (bt res)] (by omega)
  have hn : ¬ Ob3 B w.heap.size w.heap.size := by simp [Ob3]
  have d5 := (((fu_rds s args vs bdy res da2 dv2 db2).row hn #[.string (bt s), .slice A m q, .slice C cm cc, .slice none 0 0, .string ⟨#[]⟩]).row hn #[.string (bt s), .slice A m q, .slice C cm cc, .slice E em ec, .string ⟨#[]⟩]).row hn #[.string (bt s), .slice A m q, .slice C cm cc, .slice E em ec, .string (bt res)]
  have hBel : Below B w2 (((w2.setRow w.heap.size #[.string (bt s), .slice A m q, .slice C cm cc, .slice none 0 0, .string ⟨#[]⟩]).setRow w.heap.size #[.string (bt s), .slice A m q, .slice C cm cc, .slice E em ec, .string ⟨#[]⟩]).setRow w.heap.size #[.string (bt s), .slice A m q, .slice C cm cc, .slice E em ec, .string (bt res)]) := below_row (below_row (below_row (Below.refl _ _) hB _) hB _) hB _
  have at5 := hat2.below hBel hgB hbB
  have hB5 : But g w (((w2.setRow w.heap.size #[.string (bt s), .slice A m q, .slice C cm cc, .slice none 0 0, .string ⟨#[]⟩]).setRow w.heap.size #[.string (bt s), .slice A m q, .slice C cm cc, .slice E em ec, .string ⟨#[]⟩]).setRow w.heap.size #[.string (bt s), .slice A m q, .slice C cm cc, .slice E em ec, .string (bt res)]) := But.row (But.row (But.row hB2 (Nat.le_refl _) _) (Nat.le_refl _) _) (Nat.le_refl _) _
  clear e1 e2 e3 xf2 xf3 xf4 x2 da2 dv2 db2 hBel hat2 hB2
  generalize ((w2.setRow w.heap.size #[.string (bt s), .slice A m q, .slice C cm cc, .slice none 0 0, .string ⟨#[]⟩]).setRow w.heap.size #[.string (bt s), .slice A m q, .slice C cm cc, .slice E em ec, .string ⟨#[]⟩]).setRow w.heap.size #[.string (bt s), .slice A m q, .slice C cm cc, .slice E em ec, .string (bt res)] = W5 at *
  refine (HW.out _ _ _ [125] (by decide) at5).mono ?_
  rintro en w6 (⟨⟨⟩, j6, q6, v, hm, rfl, rfl, hat6, hle6, hb6⟩ | ⟨j6, er, hm, rfl, hj6, hb6⟩)
  rotate_left
  · rw [bd_no hm] at hr
    go_wp2
    exact post_panic (fn := Tryz.f101) rfl (Or.inr ⟨j6, er, hr.symm, rfl, hj6, hB5.trans hb6⟩)
  rw [bd_ok hm] at hr
  have xf6 := xf5.but hb6 (by omega)
  have x6 := x5.but hb6 (by omega)
  have d6 := d5.but hb6 (by simp [Ob3]; omega)
  have ones := d6.all
  go_wp2_with (first | (refine wpList_load_row rfl 71 (.tmp 3) rfl w.heap.size rfl 71 _ (0, 0) (.struct _) xf6 rfl rfl (by kernel_rfl) ?_) | (refine wpList_store_row rfl 71 (.tmp 4) (.tmp 18) rfl (w.heap.size + 1) _ rfl rfl 71 _ x6 (by kernel_rfl) rfl ones ?_))
  refine bodyPost_ret (results_cell_row rfl _ _ (w.heap.size + 1) _ _ _ (.struct _) rfl (x6.set _) rfl rfl (by kernel_rfl)) rfl ?_
  exact Or.inl ⟨⟨s, args, vs, bdy, res⟩, j6, q6, _, hr.symm, rfl, ⟨_, _, _, _, _, rfl, (d6.row (by simp [Ob3]) _).in fun k hk => hk.1⟩, hat6.row _ (by omega) (by omega), by omega, But.row (hB5.trans hb6) (by omega) _⟩
end Ps
end Go.Proofs.YtggdhgppclnckaaGreatDoor
