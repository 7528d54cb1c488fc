/-
  exactppllaw07.awake.
-/
import Derived.Test.YtklndjkblfncjaaGreatDoorUnf7
import Derived.Test.YtklndjkblfncjaaGreatDoorSm27
namespace Go.Proofs.YtklndjkblfncjaaGreatDoor
open Go Go.RowKit
set_option maxRecDepth 20000

def boolT : Ty := .mk 1 0 0 0 []
def listT : Ty := .mk 6 0 0 2 [boolT]
def oneV : Vl := .mk 0 [.mk 1 []]
theorem listT_good : Good 2 listT := ⟨by unfold TyOk; decide +kernel, by decide +kernel, by omega⟩
theorem oneV_fits : verr 2 listT oneV = 0 := by decide +kernel
theorem oneV_flat : vflat 2 listT oneV = [1, 1, 0] := by decide +kernel
theorem val_111 : vval 2 listT [1, 1, 1] = oneV := by rfl
theorem listT_width : twidth 2 listT = 3 := by decide +kernel

theorem ty_one (w : World) (t : TypeId) : TyRd (fun b => w.heap.size ≤ b) (w.alloc (.cells #[.int .i64 1, .int .i64 0, .int .i64 0, .int .i64 0, .slice none 0 0] t)) 2 listT (some ⟨w.heap.size, 0, none⟩) 1 1 := by
  refine ⟨⟨rfl, Nat.le_refl _, by unfold maxLen; omega⟩, fun i e he => ?_⟩
  match i, he with
  | 0, he =>
    obtain rfl : boolT = e := by simpa [listT, Ty.es] using he
    refine ⟨w.heap.size, 0, none, 0, 0, rfl, Nat.le_refl _, by simp, ?_, TyRd.nil _ _ rfl⟩
    have h := box5_new w (.int .i64 1) (.int .i64 0) (.int .i64 0) (.int .i64 0) (.slice none 0 0) t
    exact ⟨h.1, h.2.1, h.2.2.1, h.2.2.2.1, h.2.2.2.2⟩
  | i + 1, he => simp [listT, Ty.es] at he
theorem vl_one (w : World) (t : TypeId) : VlRd (fun b => w.heap.size ≤ b) (w.alloc (.cells #[.int .i64 1, .slice none 0 0] t)) 2 oneV (some ⟨w.heap.size, 0, none⟩) 1 1 := by
  refine ⟨⟨rfl, Nat.le_refl _, by unfold maxLen; omega⟩, fun i e he => ?_⟩
  match i, he with
  | 0, he =>
    obtain rfl : (.mk 1 [] : Vl) = e := by simpa [oneV, Vl.es] using he
    refine ⟨w.heap.size, 0, none, 0, 0, rfl, Nat.le_refl _, by simp, ?_, VlRd.nil _ _ rfl⟩
    have h := box2_new w (.int .i64 1) (.slice none 0 0) t
    exact ⟨h.1, h.2.1⟩
  | i + 1, he => simp [oneV, Vl.es] at he
theorem ints3 (w : World) (a b c : Int) (t : TypeId) (bd : Nat) (hb : w.heap.size < bd) : IntRd bd (w.alloc (.cells #[.int .i64 a, .int .i64 b, .int .i64 c] t)) (some ⟨w.heap.size, 0, none⟩) 3 3 [a, b, c] := by
  refine ⟨rfl, Nat.le_refl _, by omega, fun _ => ⟨w.heap.size, 0, rfl, hb, fun i x hx => ?_⟩⟩
  match i, hx with
  | 0, hx => simp only [World.cell?_alloc_new]; simp at hx; subst hx; rfl
  | 1, hx => simp only [World.cell?_alloc_new]; simp at hx; subst hx; rfl
  | 2, hx => simp only [World.cell?_alloc_new]; simp at hx; subst hx; rfl
  | i + 3, hx => simp at hx

set_option maxHeartbeats 8000000 in
theorem awake_x (w : World) : Calls Tryz.prog 7 #[] w (SaysTrue w) := by
  obtain ⟨u1, hu1⟩ : ∃ u1, w.alloc (.cells #[.int .i64 1, .int .i64 0, .int .i64 0, .int .i64 0, .slice none 0 0] 24) = u1 := ⟨_, rfl⟩
  obtain ⟨u2, hu2⟩ : ∃ u2, u1.alloc (.cells #[.int .i64 6, .int .i64 0, .int .i64 0, .int .i64 2, .slice (some ⟨w.heap.size, 0, none⟩) 1 1] 24) = u2 := ⟨_, rfl⟩
  obtain ⟨u3, hu3⟩ : ∃ u3, u2.alloc (.cells #[.int .i64 1, .slice none 0 0] 27) = u3 := ⟨_, rfl⟩
  have hs1 : u1.heap.size = w.heap.size + 1 := by rw [← hu1]; simp
  have hs2 : u2.heap.size = w.heap.size + 1 + 1 := by rw [← hu2]; simp [hs1]
  have b1 : Below w.heap.size w u1 := hu1 ▸ allocB _ _
  have b2 : Below u1.heap.size u1 u2 := hu2 ▸ allocB _ _
  have b3 : Below u2.heap.size u2 u3 := hu3 ▸ allocB _ _
  have hT : TyRd (fun b => w.heap.size ≤ b) u3 2 listT (some ⟨w.heap.size, 0, none⟩) 1 1 := (((hu1 ▸ ty_one w _ : TyRd (fun b => w.heap.size ≤ b) u1 2 listT (some ⟨w.heap.size, 0, none⟩) 1 1).below b2).below b3)
  have hV : VlRd (fun b => u2.heap.size ≤ b) u3 2 oneV (some ⟨u2.heap.size, 0, none⟩) 1 1 := hu3 ▸ vl_one u2 _
  rw [hs2] at hV
  have hB : Box5 u3 (w.heap.size + 1) (.int .i64 6) (.int .i64 0) (.int .i64 0) (.int .i64 2) (.slice (some ⟨w.heap.size, 0, none⟩) 1 1) := by
    have := (box5_new u1 (.int .i64 6) (.int .i64 0) (.int .i64 0) (.int .i64 2) (.slice (some ⟨w.heap.size, 0, none⟩) 1 1) 24)
    rw [hu2, hs1] at this
    exact this.below b3 (by omega)
  have hw3 : Below w.heap.size w u3 := nextB (nextB b1 b2) b3
  have hs3 : w.heap.size + 1 < u3.heap.size := World.block_lt_of_cell? u3 _ hB.1
  have HF := Flatten_x _ 2 listT _ 1 1 u3 hT listT_good (by decide) _ 2 oneV _ 1 1 hV oneV_fits (by decide +kernel)
  rw [oneV_flat] at HF
  have HF := Lib.hid HF
  have HT := Lib.hid hT
  have HB := Lib.hid hB
  have HW := Lib.hid hw3
  have HS3 := Lib.hid hs3
  clear hT hV hB hw3 hs1 hs2 hs3 b1 b2 b3
  subst hu3 hu2 hu1
  go_enter Tryz.func7, Tryz.ntmps7
  go_wp2_with fail
  refine HF.out.mono ?_
  rintro e1 w1 ⟨Q, n, q, rfl, hO, _, hb1⟩
  obtain rfl : 3 = n := hO.len
  have hB1 := HB.out.below hb1 HS3.out
  have hT1 := HT.out.below hb1
  have hw1 := nextB HW.out hb1
  have hs1 : w.heap.size + 1 < w1.heap.size := Nat.lt_of_lt_of_le HS3.out hb1.size
  obtain ⟨u4, hu4⟩ : ∃ u4, w1.alloc (.cells #[.int .i64 1, .int .i64 1, .int .i64 1] 3) = u4 := ⟨_, rfl⟩
  have b4 : Below w1.heap.size w1 u4 := hu4 ▸ allocB _ _
  have hs4 : u4.heap.size = w1.heap.size + 1 := by rw [← hu4]; simp
  have hI : IntRd u4.heap.size u4 (some ⟨w1.heap.size, 0, none⟩) 3 3 [1, 1, 1] := hu4 ▸ ints3 w1 1 1 1 _ _ (by simp)
  have HU := Unflatten_x _ 2 listT _ 1 1 u4 (hT1.below b4) listT_good (by decide) _ 3 3 [1, 1, 1] hI (by rw [listT_width]; rfl) oneV val_111 oneV_fits (by decide +kernel)
  rw [oneV_flat] at HU
  have HU := Lib.hid HU
  have HO := Lib.hid hO
  have HW1 := Lib.hid (nextB hw1 b4)
  have HB14 := Lib.hid b4
  obtain ⟨p0, p1, p2, p3, p4⟩ := hB1
  clear hI hT1 hw1 hs1 hs4 hb1 b4 HF HT HB HW HS3 hO
  subst hu4
  go_wp2_with fail
  refine HU.out.mono ?_
  rintro e2 w2 (⟨hx, _⟩ | ⟨_, rfl, hb2⟩)
  · exact absurd hx (by decide)
  obtain ⟨u5, hu5⟩ : ∃ u5, w2.alloc (.cells #[.int .i64 0, .slice none 0 0] 27) = u5 := ⟨_, rfl⟩
  obtain ⟨u6, hu6⟩ : ∃ u6, u5.alloc (.cells #[.int .i64 1, .int .i64 1, .int .i64 0] 3) = u6 := ⟨_, rfl⟩
  have b5 : Below w2.heap.size w2 u5 := hu5 ▸ allocB _ _
  have b6 : Below u5.heap.size u5 u6 := hu6 ▸ allocB _ _
  have hs5 : u5.heap.size = w2.heap.size + 1 := by rw [← hu5]; simp
  have hI : IntRd u6.heap.size u6 (some ⟨u5.heap.size, 0, none⟩) 3 3 [1, 1, 0] := hu6 ▸ ints3 u5 1 1 0 _ _ (by simp)
  rw [hs5] at hI
  have hO6 := (((HO.out.below HB14.out).below hb2).below b5).below b6
  have HS := Lib.hid (same_ints u6.heap.size Q _ 3 q 3 [1, 1, 0] u6 (Nat.le_refl _) (hO6.rd fun a ha => (row_lt hO6.row a ha).2) hI)
  have HW6 := Lib.hid (nextB (nextB (nextB HW1.out hb2) b5) b6)
  clear p0 p1 p2 p3 p4 hI hO6 hs5 b5 b6 hb2 HU HO HW1 HB14
  subst hu6 hu5
  go_wp2_with fail
  refine HS.out.mono ?_
  rintro e3 w3 ⟨rfl, hb3⟩
  have HF := Lib.hid (nextB HW6.out hb3)
  clear HW6 hb3 HS
  go_wp2
  go_ret
  exact ⟨rfl, HF.out⟩
end Go.Proofs.YtklndjkblfncjaaGreatDoor
