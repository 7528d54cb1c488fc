/-
  What the rows of numbers and fractions of the reference need, part C.
-/
import Derived.Test.YtggdhgppclnckaaGreatDoorQB
import Derived.Deep.CutBlock
import Derived.Deep.DeepCutAuto
import Derived.Deep.LoopGhost
namespace Go.Proofs.YtggdhgppclnckaaGreatDoor.Q
open Go.RowKit
set_option maxRecDepth 20000

/-- The sign of a number: -1, 0 or 1. -/
def sgnR (q : Rat) : Int := cmpR q 0
theorem RN.far3 {w : World} {s : Bool} {A B : Option Addr} {n c m d k g : Nat} {q : Rat} (h : RN w s A n c B m d q k) (hA : 0 < n → ∀ a, A = some a → a.block ≠ g) (hB : 0 < m → ∀ a, B = some a → a.block ≠ g) (i j l : Nat) (u v z : Value) :
    RN (((w.setCell ⟨g, i, none⟩ u).setCell ⟨g, j, none⟩ v).setCell ⟨g, l, none⟩ z) s A n c B m d q k :=
  ⟨h.1, h.2.1.far3 hA _ _ _ _ _ _, h.2.2.1.far3 hB _ _ _ _ _ _, h.2.2.2⟩
/-- A normal form has been stored into the result's box, which is older than its slices. -/
theorem store_end {w wp w' : World} {s : Bool} {A B : Option Addr} {n c m d k g : Nat} {q : Rat} (h : RN w' s A n c B m d q k) (oA : Off wp.heap.size A) (oB : Off wp.heap.size B) (hg : g < wp.heap.size) (hw : w.heap.size ≤ g) (hk : Below w.heap.size w w') (u v z : Value) :
    RN (((w'.setCell ⟨g, 0, none⟩ u).setCell ⟨g, 1, none⟩ v).setCell ⟨g, 2, none⟩ z) s A n c B m d q k ∧ Off w.heap.size A ∧ Off w.heap.size B ∧
      Below w.heap.size w (((w'.setCell ⟨g, 0, none⟩ u).setCell ⟨g, 1, none⟩ v).setCell ⟨g, 2, none⟩ z) :=
  ⟨h.far3 (fun _ a e => by have := oA a e; omega) (fun _ a e => by have := oB a e; omega) _ _ _ _ _ _, oA.mono (by omega), oB.mono (by omega), ((hk.setCell hw _).setCell hw _).setCell hw _⟩

end Go.Proofs.YtggdhgppclnckaaGreatDoor.Q

namespace Go.Proofs.YtggdhgppclnckaaGreatDoor.Q
open Go.RowKit
set_option maxRecDepth 20000


/-- A box for the result alone. -/
theorem boxes0 (w : World) (z0 z1 z2 : Value) (T3 : TypeId) (v : World) (hv : w.alloc (.cells #[z0, z1, z2] T3) = v) :
    ∃ g, g = w.heap.size ∧ v.heap.size = g + 1 ∧ Below w.heap.size w v ∧
      (∀ W, Below v.heap.size v W → W.cell? ⟨g, 0, none⟩ = some z0 ∧ W.cell? ⟨g, 1, none⟩ = some z1 ∧ W.cell? ⟨g, 2, none⟩ = some z2) ∧
      (∀ W, Below v.heap.size v W → W.frozen? ⟨g, 0, none⟩ = false ∧ W.frozen? ⟨g, 1, none⟩ = false ∧ W.frozen? ⟨g, 2, none⟩ = false) := by
  subst hv
  have hs : (w.alloc (.cells #[z0, z1, z2] T3)).heap.size = w.heap.size + 1 := by rw [World.size_alloc]
  refine ⟨w.heap.size, rfl, hs, (Below.refl _ _).alloc (Nat.le_refl _) _, ?_, ?_⟩
  · exact three_cells (by rw [hs]; omega) ((World.cell?_alloc_new ..).trans rfl) ((World.cell?_alloc_new ..).trans rfl) ((World.cell?_alloc_new ..).trans rfl)
  · exact three_free (by rw [hs]; omega) (fun i => World.frozen?_alloc_new ..)

end Go.Proofs.YtggdhgppclnckaaGreatDoor.Q

namespace Go.Proofs.YtggdhgppclnckaaGreatDoor.Q
open Go.RowKit
set_option maxRecDepth 20000

/-- A normal form and no error. -/
def GivesROk (w : World) (q : Rat) (k : Nat) (e : Ending) (w' : World) : Prop :=
  ∃ s A n c B m d, e = .returned (.tuple #[.agg #[.bool s, .slice A n c, .slice B m d], .int .i64 0]) ∧ RN w' s A n c B m d q k ∧ Off w.heap.size A ∧ Off w.heap.size B ∧ Below w.heap.size w w'
/-- The empty fraction and ErrDivide. -/
def DivErr (w : World) (e : Ending) (w' : World) : Prop := e = .returned (.tuple #[.agg #[.bool false, .slice none 0 0, .slice none 0 0], .int .i64 3]) ∧ Below w.heap.size w w'

set_option maxHeartbeats 1000000 in
theorem make_r {w : World} {s : Bool} {A B : Option Addr} {n c m d k : Nat} {q : Rat} (hl : Laid w) (h : Frac w s A n c B m d q k) (hk8 : k ≤ 800000) :
    Calls Tryz.prog 225 #[.bool s, .slice A n c, .slice B m d] w (GivesROk w q k) := by
  obtain ⟨v1, hv1⟩ : ∃ v1, w.alloc (.cells #[.bool false, .slice none 0 0, .slice none 0 0] 50) = v1 := ⟨_, rfl⟩
  obtain ⟨g, hg, hsz, hb1, hZ, hF⟩ := boxes0 w _ _ _ _ v1 hv1
  have HG := Lib.hid hg
  have HSZ := Lib.hid hsz
  have HZ := Lib.hid hZ
  have HF := Lib.hid hF
  have HV := Lib.hid hv1
  clear hZ hF hv1 hsz hg
  have hl1 := hl.below hb1
  have h1 := h.below hb1
  have hz : ∃ y, Num v1 B m d y ∧ decide (y = 0) = false := by
    obtain ⟨x, y, hx, hy, y0, _⟩ := h1
    exact ⟨y, hy, decide_eq_false (by omega)⟩
  obtain ⟨y, hy, hy0⟩ := hz
  have HI := isZero_b hy
  rw [hy0] at HI
  have HI' := Lib.hid HI
  clear HI hy hy0 h
  go_enter Tryz.func225, Tryz.ntmps225
  go_wp2_with fail
  rw [HV.out, ← HG.out]
  refine HI'.out.mono ?_
  rintro e w5 ⟨rfl, b5⟩
  have HN := Lib.hid (normal_any (hl1.below b5) (h1.below b5) hk8)
  clear HI'
  go_wp2_with fail
  refine HN.out.mono ?_
  rintro e w' ⟨t9, A9, n9, c9, B9, m9, d9, rfl, r9, oA9, oB9, b9⟩
  have hz9 := b5.size
  have hk := nextB b5 b9
  obtain ⟨o0, o1, o2⟩ := HZ.out _ hk
  obtain ⟨f0, f1, f2⟩ := HF.out _ hk
  go_wp2
  exact bodyPost_ret (v := .tuple #[.agg #[.bool t9, .slice A9 n9 c9, .slice B9 m9 d9], .int .i64 0]) (by simp [results, Tryz.results225, go_sem, o0, o1, o2]) rfl ⟨_, _, _, _, _, _, _, rfl,
    store_end r9 oA9 oB9 (by have := HSZ.out; omega) (by rw [HG.out]; omega) (nextB hb1 hk) _ _ _⟩

theorem make_zero {w : World} {s : Bool} {A B : Option Addr} {n c m d : Nat} (h : Num w B m d 0) :
    Calls Tryz.prog 225 #[.bool s, .slice A n c, .slice B m d] w (DivErr w) := by
  have hb1 := (Below.refl w.heap.size w).alloc (Nat.le_refl _) (.cells #[.bool false, .slice none 0 0, .slice none 0 0] 50)
  have HI := Lib.hid (isZero_any (h.below hb1))
  clear h
  go_enter Tryz.func225, Tryz.ntmps225
  go_wp2_with fail
  refine HI.out.mono ?_
  rintro e w5 ⟨rfl, kk, rfl⟩
  have hb2 := drewN_below hb1 kk
  go_wp2
  refine bodyPost_ret (v := .tuple #[.agg #[.bool false, .slice none 0 0, .slice none 0 0], .int .i64 3]) (by simp [results, Tryz.results225, go_sem]) rfl ⟨rfl, ?_⟩
  exact ((hb2.setCell (p := ⟨w.heap.size, 0, none⟩) (by simp) _).setCell (p := ⟨w.heap.size, 1, none⟩) (by simp) _).setCell (p := ⟨w.heap.size, 2, none⟩) (by simp) _

end Go.Proofs.YtggdhgppclnckaaGreatDoor.Q

namespace Go.Proofs.YtggdhgppclnckaaGreatDoor.Q
open Go.RowKit
set_option maxRecDepth 20000

theorem sgnR_zero : sgnR 0 = 0 := cmpR_eq rfl
end Go.Proofs.YtggdhgppclnckaaGreatDoor.Q
namespace Go.Proofs.YtggdhgppclnckaaGreatDoor.Q
open Go.RowKit
set_option maxRecDepth 20000

end Go.Proofs.YtggdhgppclnckaaGreatDoor.Q
namespace Go.Proofs.YtggdhgppclnckaaGreatDoor.Q
open Go.RowKit
set_option maxRecDepth 20000

end Go.Proofs.YtggdhgppclnckaaGreatDoor.Q
namespace Go.Proofs.YtggdhgppclnckaaGreatDoor.Q
open Go.RowKit
set_option maxRecDepth 20000

end Go.Proofs.YtggdhgppclnckaaGreatDoor.Q

namespace Go.Proofs.YtggdhgppclnckaaGreatDoor.Q
open Go.RowKit
set_option maxRecDepth 20000

end Go.Proofs.YtggdhgppclnckaaGreatDoor.Q
namespace Go.Proofs.YtggdhgppclnckaaGreatDoor.Q
open Go.RowKit
set_option maxRecDepth 20000

end Go.Proofs.YtggdhgppclnckaaGreatDoor.Q
namespace Go.Proofs.YtggdhgppclnckaaGreatDoor.Q
open Go.RowKit
set_option maxRecDepth 20000

end Go.Proofs.YtggdhgppclnckaaGreatDoor.Q

namespace Go.Proofs.YtggdhgppclnckaaGreatDoor.Q
open Go.RowKit
set_option maxRecDepth 20000

end Go.Proofs.YtggdhgppclnckaaGreatDoor.Q
namespace Go.Proofs.YtggdhgppclnckaaGreatDoor.Q
open Go.RowKit
set_option maxRecDepth 20000

end Go.Proofs.YtggdhgppclnckaaGreatDoor.Q
