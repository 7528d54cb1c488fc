/-
  exactppllaw09: awake.
-/
import Derived.Test.YtggdhgppclnckaaGreatDoorPo9
namespace Go.Proofs.YtggdhgppclnckaaGreatDoor
open Go Go.RowKit Lx
set_option maxRecDepth 20000

namespace Ps
def PO.awake : PO → Bool
  | .ok pr => decide (pr.vars.length = 1) && (match pr.body with | [.mk k _ _ _ _ _ _ _ _] => decide (k = 2) | _ => false)
  | .bad _ _ _ => false
theorem awake_one : (parse [118, 97, 114, 32, 120, 58, 32, 98, 111, 111, 108, 59, 32, 120, 32, 126, 32, 102, 108, 105, 112, 40, 49, 47, 51, 41, 59, 32, 114, 101, 116, 117, 114, 110, 32, 120, 59]).awake = true := by decide +kernel
theorem awake_two : (parse [114, 101, 116, 117, 114, 110, 32, 120]).err = (1, 9, 4) := by decide +kernel
theorem awake_ok {r : PO} (h : r.awake = true) : ∃ pr nm fn i ex ags dr th el, r = .ok pr ∧ pr.vars.length = 1 ∧ pr.body = [St.mk 2 nm fn i ex ags dr th el] := by
  unfold PO.awake at h
  cases r with
  | bad l c e => cases h
  | ok pr =>
    simp only [Bool.and_eq_true, decide_eq_true_eq] at h
    obtain ⟨h1, h2⟩ := h
    cases hb : pr.body with
    | nil => rw [hb] at h2; cases h2
    | cons s l =>
      cases l with
      | cons _ _ => rw [hb] at h2; cases s; cases h2
      | nil =>
        obtain ⟨k, nm, fn, i, ex, ags, dr, th, el⟩ := s
        rw [hb] at h2
        simp only [decide_eq_true_eq] at h2
        subst h2
        exact ⟨pr, nm, fn, i, ex, ags, dr, th, el, rfl, h1, hb⟩
set_option maxHeartbeats 8000000 in
theorem awake_x (w : World) (hgl : Gl w) (h8 : 5 ≤ w.heap.size) : Calls Tryz.prog 11 #[] w (SaysTrue w) := by
  have HP := Lib.hid (po_x ⟨#[118, 97, 114, 32, 120, 58, 32, 98, 111, 111, 108, 59, 32, 120, 32, 126, 32, 102, 108, 105, 112, 40, 49, 47, 51, 41, 59, 32, 114, 101, 116, 117, 114, 110, 32, 120, 59]⟩ w (by unfold maxLen; decide) hgl h8)
  have HQ : Hid (∀ W, Below w.heap.size w W → Calls Tryz.prog 20 #[.string ⟨#[114, 101, 116, 117, 114, 110, 32, 120]⟩] W (GivesPO (.bad 1 9 4) W)) := fun W hW => by
    have := po_x ⟨#[114, 101, 116, 117, 114, 110, 32, 120]⟩ W (by unfold maxLen; decide) (hgl.new hW h8) (by have := hW.size; omega)
    rw [po_parse (by decide)] at this
    have he : (parse (⟨#[114, 101, 116, 117, 114, 110, 32, 120]⟩ : ByteArray).data.toList).err = (1, 9, 4) := awake_two
    generalize parse (⟨#[114, 101, 116, 117, 114, 110, 32, 120]⟩ : ByteArray).data.toList = r at *
    cases r with
    | ok p => cases he
    | bad l c e => cases he; exact this
  rw [po_parse (by decide)] at HP
  have hr : (parse (⟨#[118, 97, 114, 32, 120, 58, 32, 98, 111, 111, 108, 59, 32, 120, 32, 126, 32, 102, 108, 105, 112, 40, 49, 47, 51, 41, 59, 32, 114, 101, 116, 117, 114, 110, 32, 120, 59]⟩ : ByteArray).data.toList).awake = true := awake_one
  generalize parse (⟨#[118, 97, 114, 32, 120, 58, 32, 98, 111, 111, 108, 59, 32, 120, 32, 126, 32, 102, 108, 105, 112, 40, 49, 47, 51, 41, 59, 32, 114, 101, 116, 117, 114, 110, 32, 120, 59]⟩ : ByteArray).data.toList = r at *
  obtain ⟨pr, nm, fn, ii, ex, ags, dr, th, el, rfl, hv1, hbd⟩ := awake_ok hr
  clear hr hgl h8
  go_enter Tryz.func11, Tryz.ntmps11
  go_wp2_with fail
  refine HP.out.mono ?_
  clear HP
  rintro en w1 ⟨a0, a1, a2, a3, a4, a5, rfl, hv, hb1⟩
  obtain ⟨A1, m1, c1, A2, m2, c2, A3, m3, c3, A4, m4, c4, A5, m5, c5, hcs, _, _, _, hv4, hv5⟩ := pr_form hv
  injection hcs with q0 hcs
  injection hcs with q1 hcs
  injection hcs with q2 hcs
  injection hcs with q3 hcs
  injection hcs with q4 hcs
  injection hcs with q5 hcs
  subst q0 q1 q2 q3 q4 q5
  have os1 := hv.all
  obtain ⟨n4, _, _⟩ := hv4.elem De.d_len (by decide)
  rw [hv1] at n4
  rw [hbd, dsS_flat] at hv5
  obtain ⟨n5, _, he5⟩ := hv5.elem St.d_len (by decide)
  obtain rfl : m4 = 1 := n4
  obtain rfl : m5 = 1 := n5
  obtain ⟨g5, o5, vs, rfl, z5, r5, t5⟩ := he5 0 _ rfl
  obtain ⟨_, _, _, _, _, _, _, _, _, _, _, _, _, _, _, _, _, _, _, _, _, _, _, _, _, _, _, rfl, _⟩ := st_form t5
  have k5 := r5 0 _ rfl
  simp only [Nat.zero_mul, Nat.add_zero] at k5
  generalize bt pr.res = x at *
  clear hv hv4 hv5 he5 r5 t5 hv1 hbd
  have x0 := (box_alloc w1 32 #[.slice none 0 0, .slice none 0 0, .slice none 0 0, .slice none 0 0, .slice none 0 0, .string ⟨#[]⟩]).new (allocB (w1.alloc (.cells #[.slice none 0 0, .slice none 0 0, .slice none 0 0, .slice none 0 0, .slice none 0 0, .string ⟨#[]⟩] 32)) (.cells #[.int .i64 0, .int .i64 0] 38))
  have y0 := box_alloc (w1.alloc (.cells #[.slice none 0 0, .slice none 0 0, .slice none 0 0, .slice none 0 0, .slice none 0 0, .string ⟨#[]⟩] 32)) 38 #[.int .i64 0, .int .i64 0]
  rw [show (w1.alloc (.cells #[.slice none 0 0, .slice none 0 0, .slice none 0 0, .slice none 0 0, .slice none 0 0, .string ⟨#[]⟩] 32)).heap.size = w1.heap.size + 1 by simp] at y0
  have xa := (x0.set #[.slice A1 m1 c1, .slice A2 m2 c2, .slice A3 m3 c3, .slice A4 1 c4, .slice (some ⟨g5, o5, none⟩) 1 c5, .string x]).other (j := w1.heap.size + 1) #[.int .i64 0, .int .i64 0] (by omega)
  have y1 := y0.other (j := w1.heap.size) #[.slice A1 m1 c1, .slice A2 m2 c2, .slice A3 m3 c3, .slice A4 1 c4, .slice (some ⟨g5, o5, none⟩) 1 c5, .string x] (by omega)
  have ya := y1.set #[.int .i64 0, .int .i64 0]
  have bla : Below w1.heap.size w1 ((((w1.alloc (.cells #[.slice none 0 0, .slice none 0 0, .slice none 0 0, .slice none 0 0, .slice none 0 0, .string ⟨#[]⟩] 32)).alloc (.cells #[.int .i64 0, .int .i64 0] 38)).setRow w1.heap.size #[.slice A1 m1 c1, .slice A2 m2 c2, .slice A3 m3 c3, .slice A4 1 c4, .slice (some ⟨g5, o5, none⟩) 1 c5, .string x]).setRow (w1.heap.size + 1) #[.int .i64 0, .int .i64 0]) := below_row (below_row ((allocB w1 _).trans ((allocB _ _).mono (by simp))) (Nat.le_refl _) _) (Nat.le_succ _) _
  go_wp2_with (first | (refine wpList_store_row rfl 32 (.tmp 1) (.tmp 9) rfl (w1.heap.size) _ rfl rfl 32 _ x0 (by kernel_rfl) rfl os1 ?_) | (refine wpList_store_row rfl 38 (.tmp 2) (.tmp 10) rfl (w1.heap.size + 1) _ rfl rfl 38 _ y1 (by kernel_rfl) rfl (by simp [Value.oneCell']) ?_))
  generalize (((w1.alloc (.cells #[.slice none 0 0, .slice none 0 0, .slice none 0 0, .slice none 0 0, .slice none 0 0, .string ⟨#[]⟩] 32)).alloc (.cells #[.int .i64 0, .int .i64 0] 38)).setRow w1.heap.size #[.slice A1 m1 c1, .slice A2 m2 c2, .slice A3 m3 c3, .slice A4 1 c4, .slice (some ⟨g5, o5, none⟩) 1 c5, .string x]).setRow (w1.heap.size + 1) #[.int .i64 0, .int .i64 0] = Va at *
  clear x0 y0 y1
  have bA := hb1.trans (bla.mono hb1.size)
  replace k5 := below_cell bla k5 z5
  replace z5 := Nat.lt_of_lt_of_le z5 bla.size
  refine (HQ.out Va bA).mono ?_
  rintro en w2 ⟨rfl, hb2⟩
  replace xa := xa.new hb2
  replace k5 := below_cell hb2 k5 z5
  replace z5 := Nat.lt_of_lt_of_le z5 hb2.size
  have bB := bA.trans (hb2.mono bA.size)
  have x0 := (box_alloc w2 32 #[.slice none 0 0, .slice none 0 0, .slice none 0 0, .slice none 0 0, .slice none 0 0, .string ⟨#[]⟩]).new (allocB (w2.alloc (.cells #[.slice none 0 0, .slice none 0 0, .slice none 0 0, .slice none 0 0, .slice none 0 0, .string ⟨#[]⟩] 32)) (.cells #[.int .i64 0, .int .i64 0] 38))
  have y0 := box_alloc (w2.alloc (.cells #[.slice none 0 0, .slice none 0 0, .slice none 0 0, .slice none 0 0, .slice none 0 0, .string ⟨#[]⟩] 32)) 38 #[.int .i64 0, .int .i64 0]
  rw [show (w2.alloc (.cells #[.slice none 0 0, .slice none 0 0, .slice none 0 0, .slice none 0 0, .slice none 0 0, .string ⟨#[]⟩] 32)).heap.size = w2.heap.size + 1 by simp] at y0
  have xb := (x0.set #[.slice none 0 0, .slice none 0 0, .slice none 0 0, .slice none 0 0, .slice none 0 0, .string ⟨#[]⟩]).other (j := w2.heap.size + 1) #[.int .i64 1, .int .i64 9] (by omega)
  have y1 := y0.other (j := w2.heap.size) #[.slice none 0 0, .slice none 0 0, .slice none 0 0, .slice none 0 0, .slice none 0 0, .string ⟨#[]⟩] (by omega)
  have yb := y1.set #[.int .i64 1, .int .i64 9]
  have blb : Below w2.heap.size w2 ((((w2.alloc (.cells #[.slice none 0 0, .slice none 0 0, .slice none 0 0, .slice none 0 0, .slice none 0 0, .string ⟨#[]⟩] 32)).alloc (.cells #[.int .i64 0, .int .i64 0] 38)).setRow w2.heap.size #[.slice none 0 0, .slice none 0 0, .slice none 0 0, .slice none 0 0, .slice none 0 0, .string ⟨#[]⟩]).setRow (w2.heap.size + 1) #[.int .i64 1, .int .i64 9]) := below_row (below_row ((allocB w2 _).trans ((allocB _ _).mono (by simp))) (Nat.le_refl _) _) (Nat.le_succ _) _
  have bC := bB.trans (blb.mono bB.size)
  replace k5 := below_cell blb k5 z5
  replace xa := xa.new blb
  have p3 := box_cell xa 3 _ rfl
  have p4 := box_cell xa 4 _ rfl
  have pc := box_cell yb 0 _ rfl
  have pd := box_cell yb 1 _ rfl
  clear xa ya xb yb bB
  go_wp2_with (first | (refine wpList_store_row rfl 32 (.tmp 4) (.tmp 14) rfl (w2.heap.size) _ rfl rfl 32 _ x0 (by kernel_rfl) rfl (by simp [Value.oneCell']) ?_) | (refine wpList_store_row rfl 38 (.tmp 5) (.tmp 15) rfl (w2.heap.size + 1) _ rfl rfl 38 _ y1 (by kernel_rfl) rfl (by simp [Value.oneCell']) ?_))
  go_ret
  exact ⟨rfl, bC⟩
end Ps
end Go.Proofs.YtggdhgppclnckaaGreatDoor
