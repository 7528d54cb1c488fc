/-
  Functions.
-/
import Derived.Test.YtggdhgppclnckaaGreatDoorPaia
namespace Go.Proofs.YtggdhgppclnckaaGreatDoor
open Go Go.RowKit Lx
set_option maxRecDepth 20000

namespace Ps
variable {w : World} {g b n c : Nat} {L : List Tok} {i : Nat} {o : Int}
theorem en_decl : Enters 127 := fun args W => by simp [go_sem]
set_option maxHeartbeats 8000000 in
theorem func_x (hfr : FrOk g b n c L) : Does1 g b n c L 100 rdFu (func L) n := by
  intro w i o h hq
  have HI := Lib.hid (fun W j p (hW : At W g b n c L j p) => inner_x hfr hW)
  have HW := HW_ (g := g) (b := b) (n := n) (c := c) (L := L)
  have HNM : Hid (∀ W j q, At W g b n c L j q → Calls Tryz.prog 98 #[.pointer (some ⟨g, 0, none⟩)] W (Giv g b n c L rdS W j 1 (name L j q))) := fun W j q hW => name_x hW
  have HU : Hid (∀ W j p, At W g b n c L j p → Calls Tryz.prog 126 #[.pointer (some ⟨g, 0, none⟩), .string ⟨#[41]⟩, .func (.func 127) #[.pointer (some ⟨g, 0, none⟩)] #[]] W (Giv g b n c L (rdL 6 De.d W.heap.size) W j 0 (listU L [41] (decl L) j p))) := fun W j p hW => untilDecl_x decl_x en_decl hW (by omega) [41] (by decide)
  generalize hr : func L i o = r
  unfold func at hr
  have hsz := h.cs.size
  have hbz := h.hb
  have b0 := allocB w (.cells #[.string ⟨#[]⟩, .slice none 0 0, .slice none 0 0, .slice none 0 0, .string ⟨#[]⟩] 71)
  have x0 := box_alloc w 71 #[.string ⟨#[]⟩, .slice none 0 0, .slice none 0 0, .slice none 0 0, .string ⟨#[]⟩]
  have at0 := h.new b0
  have hs0 : w.heap.size + 1 ≤ (w.alloc (.cells #[.string ⟨#[]⟩, .slice none 0 0, .slice none 0 0, .slice none 0 0, .string ⟨#[]⟩] 71)).heap.size := by simp
  have hB0 : But g w (w.alloc (.cells #[.string ⟨#[]⟩, .slice none 0 0, .slice none 0 0, .slice none 0 0, .string ⟨#[]⟩] 71)) := But.of_below b0
  clear h b0
  go_enter Tryz.func100, Tryz.ntmps100
  go_wp2_with fail
  generalize w.alloc (.cells #[.string ⟨#[]⟩, .slice none 0 0, .slice none 0 0, .slice none 0 0, .string ⟨#[]⟩] 71) = W0 at *
  refine (HNM.out _ _ _ at0).mono ?_
  rintro en w1 (⟨s, j, q1, v, hm, rfl, rfl, hat, hle, hb⟩ | ⟨j, er, hm, rfl, hj, hb⟩)
  rotate_left
  · rw [bd_no hm] at hr
    go_wp2
    exact post_panic (fn := Tryz.f100) rfl (Or.inr ⟨j, er, hr.symm, rfl, hj, hB0.trans hb⟩)
  rw [bd_ok hm] at hr
  have b1 := allocB w1 (.cells #[.string (bt s), .slice none 0 0, .slice none 0 0, .slice none 0 0, .string ⟨#[]⟩] 71)
  have xf1 := box_alloc w1 71 #[.string (bt s), .slice none 0 0, .slice none 0 0, .slice none 0 0, .string ⟨#[]⟩]
  have x1 := (x0.but hb (by omega)).new b1
  have at1 := hat.new b1
  have hB1 := (hB0.trans hb).trans (But.of_below b1)
  have hs1 := hb.size
  have hs1' := xf1.lt
  clear hm x0 at0 hB0 hat b1
  go_wp2_with fail
  generalize w1.alloc (.cells #[.string (bt s), .slice none 0 0, .slice none 0 0, .slice none 0 0, .string ⟨#[]⟩] 71) = W1 at *
  refine (HW.out _ _ _ [40] (by decide) at1).mono ?_
  rintro en w2 (⟨⟨⟩, j2, q2, v, hm, rfl, rfl, hat2, hle2, hb2⟩ | ⟨j2, er, hm, rfl, hj2, hb2⟩)
  rotate_left
  · rw [bd_no hm] at hr
    go_wp2
    exact post_panic (fn := Tryz.f100) rfl (Or.inr ⟨j2, er, hr.symm, rfl, hj2, hB1.trans hb2⟩)
  rw [bd_ok hm] at hr
  have xf2 := xf1.but hb2 (by omega)
  have x2 := x1.but hb2 (by omega)
  have hB2 := hB1.trans hb2
  have hs2 := hb2.size
  clear hm xf1 x1 at1 hB1
  go_wp2_with fail
  refine (HU.out _ _ _ hat2).mono ?_
  rintro en w3 (⟨l, j3, q3, v, hm, rfl, ⟨A, m, cc, rfl, hv⟩, hat3, hle3, hb3⟩ | ⟨j3, er, hm, rfl, hj3, hb3⟩)
  rotate_left
  · rw [bd_no hm] at hr
    go_wp2
    exact post_panic (fn := Tryz.f100) rfl (Or.inr ⟨j3, er, hr.symm, rfl, hj3, hB2.trans hb3⟩)
  rw [bd_ok hm] at hr
  have xf3 := xf2.but hb3 (by omega)
  have x3 := x2.but hb3 (by omega)
  have hB3 := hB2.trans hb3
  have hs3 := hb3.size
  have p1 := box_cell xf3 1 (.slice none 0 0) rfl
  have f1 := Box.fr xf3 1
  have e1 : w3.setCell ⟨w1.heap.size, 1, none⟩ (.slice A m cc) = w3.setRow w1.heap.size #[.string (bt s), .slice A m cc, .slice none 0 0, .slice none 0 0, .string ⟨#[]⟩] := Box.cell_row xf3 1 _
  have xf4 : Box (w3.setCell ⟨w1.heap.size, 1, none⟩ (.slice A m cc)) w1.heap.size 71 #[.string (bt s), .slice A m cc, .slice none 0 0, .slice none 0 0, .string ⟨#[]⟩] := by rw [e1]; exact xf3.set _
  have E1 := Lib.hid e1
  clear hm xf2 x2 hat2 hB2 e1
  go_wp2_with (refine wpList_load_row rfl 71 (.tmp 3) rfl w1.heap.size rfl 71 _ (0, 0) (.struct _) xf4 rfl rfl (by kernel_rfl) ?_)
  rw [E1.out]
  clear p1 f1 E1 xf4
  have x4 := x3.other (j := w1.heap.size) #[.string (bt s), .slice A m cc, .slice none 0 0, .slice none 0 0, .string ⟨#[]⟩] (by omega)
  have at4 := hat3.row (k := w1.heap.size) #[.string (bt s), .slice A m cc, .slice none 0 0, .slice none 0 0, .string ⟨#[]⟩] (by omega) (by omega)
  have hB4 : But g w (w3.setRow w1.heap.size #[.string (bt s), .slice A m cc, .slice none 0 0, .slice none 0 0, .string ⟨#[]⟩]) := But.row hB3 (by omega) _
  have d4 : Rd (Fr (w.heap.size + 1)) (w3.setRow w1.heap.size #[.string (bt s), .slice A m cc, .slice none 0 0, .slice none 0 0, .string ⟨#[]⟩]) (.l 6 (l.flatMap De.d)) (.slice A m cc) := (hv.row (by simp [Fr]; omega) _).in fun k hk => by simp [Fr] at hk ⊢; omega
  have s4 := size_row w3 w1.heap.size #[.string (bt s), .slice A m cc, .slice none 0 0, .slice none 0 0, .string ⟨#[]⟩]
  have s4' : w.heap.size + 1 ≤ (w3.setRow w1.heap.size #[.string (bt s), .slice A m cc, .slice none 0 0, .slice none 0 0, .string ⟨#[]⟩]).heap.size := by rw [s4]; omega
  clear s4 xf3 x3 hat3 hB3 hv
  generalize w3.setRow w1.heap.size #[.string (bt s), .slice A m cc, .slice none 0 0, .slice none 0 0, .string ⟨#[]⟩] = W4 at *
  refine (HI.out _ _ _ at4 (w.heap.size + 1) (by omega) (by omega) s4' s l d4).mono ?_
  rintro en w5 (⟨f, j5, q5, v, hm, rfl, ⟨a0, a1, a2, a3, a4, rfl, hv⟩, hat5, hle5, hb5⟩ | ⟨j5, er, hm, rfl, hj5, hb5⟩)
  rotate_left
  · rw [hm] at hr
    go_wp2
    exact post_panic (fn := Tryz.f100) rfl (Or.inr ⟨j5, er, hr.symm, rfl, hj5, hB4.trans hb5⟩)
  rw [hm] at hr
  have x5 := x4.but hb5 (by omega)
  have ones := hv.all
  go_wp2_with (refine wpList_store_row rfl 71 (.tmp 2) (.tmp 16) rfl w.heap.size _ rfl rfl 71 _ x5 (by kernel_rfl) rfl ones ?_)
  refine bodyPost_ret (results_cell_row rfl _ _ w.heap.size _ _ _ (.struct _) rfl (x5.set _) rfl rfl (by kernel_rfl)) rfl ?_
  exact Or.inl ⟨f, j5, q5, _, hr.symm, rfl, ⟨_, _, _, _, _, rfl, (hv.row (by simp [Fr]) _).in fun k hk => by simp [Fr] at hk ⊢; omega⟩, hat5.row _ hsz hbz, by omega, But.row (hB4.trans hb5) (Nat.le_refl _) _⟩
end Ps
end Go.Proofs.YtggdhgppclnckaaGreatDoor
