/-
  exactppllaw07.some on valid types: a value that is nearly one of the type.
-/
import Derived.Test.YtklndjkblfncjaaGreatDoorMk7
namespace Go.Proofs.YtklndjkblfncjaaGreatDoor
open Go Go.RowKit
set_option maxRecDepth 20000

theorem three : ∀ i, (hi' : i < (#[.int .i64 (-1), .int .i64 1, .int .i64 1000] : Array Value).size) → ∃ z, (#[.int .i64 (-1), .int .i64 1, .int .i64 1000] : Array Value)[i] = .int .i64 z ∧ -1 ≤ z ∧ z ≤ 1000 := by
  intro i hi
  match i, hi with
  | 0, _ | 1, _ | 2, _ => exact ⟨_, rfl, by decide, by decide⟩
  | k + 3, h => simp at h; omega
theorem vl_oneCell (l : List VlAt) : ∀ u ∈ vlRow l, u.oneCell' = true := by
  intro u hu
  obtain ⟨r, hr, hu⟩ := List.mem_flatten.1 hu
  obtain ⟨x, _, rfl⟩ := List.mem_map.1 hr
  exact x.oneCell u hu
/-- The elements once more, in a new row. -/
theorem VInv.copied {g p d n q g1 c1 gq : Nat} {v W w1 : World} {S4 : Value} {l : List VlAt} {x0 : Int} (h : VInv g p d v W S4 (some ⟨gq, 0, none⟩) n q l x0)
    (hown : w1.ownsRow (p + 1) 27 2 (.slice (some ⟨g1, 0, none⟩) n c1) n (vlRow l)) (hgrow : W.grownBy w1 none) (hg1 : g1 = W.heap.size) :
    VInv g p d v w1 S4 (some ⟨g1, 0, none⟩) n c1 l x0 := by
  have hB : Below W.heap.size W w1 := below_of_grown hgrow
  have h1 := h.gp
  have h2 := h.vs
  have h3 := h.size
  refine ⟨h.box.keep (hB.block p (by omega)), ⟨hown, fun y hy => ?_⟩, h.good, h.src.below hB, h.but.trans (But.of_below hB), Nat.le_trans h3 hB.size, h2, h1⟩
  refine ((h.own.els y hy).bound.below hB).in fun b hb => ⟨hb.1.1, fun a ha => ?_⟩
  injection ha with ha
  subst ha
  show g1 ≠ b
  have := hb.2; omega
/-- A value comes back, in memory of its own; at most the source's block has changed. -/
def GivesSome (d g : Nat) (w : World) (e : Ending) (w' : World) : Prop := ∃ V B m q, e = .returned (vlV V B m q) ∧ VlRd (fun b => w.heap.size ≤ b) w' (d + 1) V B m q ∧ (-1002 ≤ V.i ∧ V.i ≤ 2001) ∧ Src w' g ∧ But g w w'
/-- A type whose fields are small, whatever its errors. -/
def Tame : Nat → Ty → Prop
  | 0, _ => False
  | d + 1, T => (-1001 ≤ T.lo ∧ T.lo ≤ 1001 ∧ -1001 ≤ T.hi ∧ T.hi ≤ 1001 ∧ 0 ≤ T.mx ∧ T.mx ≤ 5 ∧ T.es.length ≤ 5) ∧ ∀ e ∈ T.es, Tame d e
theorem tame_of : ∀ {d : Nat} {T : Ty}, deepOk d T → TyOk d T → Tame d T
  | 0, _, h, _ => h.elim
  | d + 1, T, hd, hok => by
    rcases hok.kinds with hk | hk | hk | hk | hk | hk
    · obtain ⟨h1, h2, h3, h4⟩ := hok.leaf (by omega)
      exact ⟨by rw [h4]; simp; omega, fun e he => by rw [h4] at he; cases he⟩
    · obtain ⟨⟨h1, h2, h3⟩, h5, h4⟩ := hok.int hk
      exact ⟨by rw [h4]; simp; omega, fun e he => by rw [h4] at he; cases he⟩
    · obtain ⟨h1, h2, h3, h4⟩ := hok.leaf (by omega)
      exact ⟨by rw [h4]; simp; omega, fun e he => by rw [h4] at he; cases he⟩
    · obtain ⟨h1, h2, h3, h4⟩ := hok.leaf (by omega)
      exact ⟨by rw [h4]; simp; omega, fun e he => by rw [h4] at he; cases he⟩
    · obtain ⟨hz, h2, h4, hels⟩ := hok.tuple hk
      exact ⟨by omega, fun e he => tame_of (hd e he) (hels e he).1⟩
    · obtain ⟨hz, h1, h4, x, hx, hox, _⟩ := hok.list hk
      refine ⟨by rw [hx]; simp; omega, fun e he => ?_⟩
      have hex : e = x := by rw [hx] at he; simpa using he
      exact tame_of (hd e he) (by rw [hex]; exact hox)
theorem N_none (g : Nat) (w : World) (m : Int) (h : Src w g) (m0 : m < 1) : Calls Tryz.prog 11 #[.pointer (some ⟨g, 0, none⟩), .int .i64 m] w (Drawn g 0 0 w) := by
  have H := Lib.hid h
  clear h
  go_enter Tryz.func11, Tryz.ntmps11
  go_wp2
  go_ret
  exact ⟨0, rfl, by omega, H.out, But.refl _ _⟩
theorem srcRange_e (g : Nat) (w : World) (a b : Int) (h : Src w g) (a0 : -2000 ≤ a) (a1 : a ≤ 2000) (b0 : -2000 ≤ b) (b1 : b ≤ 2000) : Calls Tryz.prog 15 #[.pointer (some ⟨g, 0, none⟩), .int .i64 a, .int .i64 b] w (Drawn g a (max a b) w) := by
  by_cases hab : a ≤ b
  · have HN := Lib.hid (N_any g w (b - a + 1) h (by omega) (by omega))
    clear h
    go_enter Tryz.func15, Tryz.ntmps15
    go_wp2_with fail
    refine HN.out.mono ?_
    rintro e w' ⟨z, rfl, ⟨z0, z1⟩, hs, hB⟩
    go_wp2
    go_ret
    exact ⟨a + z, rfl, by omega, hs, hB⟩
  · have HN := Lib.hid (N_none g w (b - a + 1) h (by omega))
    clear h
    go_enter Tryz.func15, Tryz.ntmps15
    go_wp2_with fail
    refine HN.out.mono ?_
    rintro e w' ⟨z, rfl, ⟨z0, z1⟩, hs, hB⟩
    go_wp2
    go_ret
    exact ⟨a + z, rfl, by omega, hs, hB⟩
def SomeAt (d : Nat) : Prop := ∀ (S : Nat → Prop) (T : Ty) (A : Option Addr) (n c g : Nat) (w : World), TyRd S w d T A n c → (∀ b, S b → b ≠ g) → Tame d T → Src w g → Calls Tryz.prog 13 #[.pointer (some ⟨g, 0, none⟩), tyV T A n c] w (GivesSome d g w)
/-- The boxes of a type, of the result and of the value that is built. -/
theorem boxes_some (w : World) (x0 x1 x2 x3 x4 : Value) (t u : TypeId) (v : World) (hv : (w.alloc (.cells #[x0, x1, x2, x3, x4] t)).alloc (.cells #[.int .i64 0, .slice none 0 0] u) = v) (g : Nat) (hs : Src w g) :
    v.heap.size = w.heap.size + 2 ∧ Below w.heap.size w v ∧ (∀ W, But g v W → Box5 W w.heap.size x0 x1 x2 x3 x4 ∧ Box2 W (w.heap.size + 1) (.int .i64 0) (.slice none 0 0)) ∧
    ∀ d, VInv g v.heap.size d v (v.alloc (.cells #[.int .i64 0, .slice none 0 0] u)) (.slice none 0 0) none 0 0 [] 0 := by
  obtain ⟨h1, h2, h3⟩ := boxes_tv w x0 x1 x2 x3 x4 (.int .i64 0) (.slice none 0 0) t u v hv
  have hgs := hs.size
  refine ⟨h1, h2, fun W hb => ?_, fun d => ?_⟩
  · obtain ⟨a, b⟩ := h3 v (Below.refl _ _)
    exact ⟨a.keep (hb.block _ (by omega) (by omega)), b.keep (hb.block _ (by omega) (by omega))⟩
  · exact ⟨box2_new _ _ _ _, VlOwn.nil _ _ _, (fun x hx => by cases hx), (hs.below h2).below (allocB _ _), But.of_below (allocB _ _), by simp, Nat.le_refl _, by omega⟩

end Go.Proofs.YtklndjkblfncjaaGreatDoor
