/-
  rational's negated, inverse, sign, magnitude.
-/
import Derived.Test.YtekalaihfmfkkaaDoorRatOps
namespace Go.Proofs.YtekalaihfmfkkaaDoor
open Go.RowKit
set_option maxRecDepth 20000

/-- The sign of a number: -1, 0 or 1. -/
def sgnR (q : Rat) : Int := cmpR q 0
def IntB (w : World) (z : Int) (e : Ending) (w' : World) : Prop := e = .returned (.int .i64 z) ∧ Below w.heap.size w w'
/-- The two limbs of an int's absolute value, in a block of their own. -/
def MagPost (x : Int) (w : World) (e : Ending) (w' : World) : Prop := ∃ A, e = .returned (.slice A 2 2) ∧ Num w' A 2 2 x ∧ Off w.heap.size A ∧ Below w.heap.size w w'
theorem mag_end (w : World) (x : Int) (x0 : 0 ≤ x) (x1 : x < 18446744073709551616) : MagPost x w (.returned (.slice (some ⟨w.heap.size, 0, none⟩) 2 2)) (w.alloc (.cells #[.int .u32 (x % 4294967296), .int .u32 (x / 4294967296)] 45)) :=
  ⟨_, rfl, ⟨[x % 4294967296, x / 4294967296], lit2 w _ _ (by omega) (by omega) (by omega) (by omega), by simp [val]; omega⟩, fun a e => by injection e with e; rw [← e]; exact Nat.le_refl _, (Below.refl _ _).alloc (Nat.le_refl _) _⟩
theorem magnitude_any (n : Int) (w : World) (n0 : -9223372036854775808 ≤ n) (n1 : n ≤ 9223372036854775807) :
    Calls Tryd.prog 23 #[.int .i64 n] w (MagPost (n.natAbs : Int) w) := by
  by_cases h : n < 0
  · have e0 : (n.natAbs : Int) = -n := by omega
    rw [e0]
    have H := Lib.hid (mag_end w (-n) (by omega) (by omega))
    have e1 : IntKind.u64.wrap n = n + 18446744073709551616 := by rw [IntKind.wrap_u64]; omega
    have e2 : IntKind.u64.wrap (-(n + 18446744073709551616)) = -n := by rw [IntKind.wrap_u64]; omega
    clear e0
    go_enter Tryd.func23, Tryd.ntmps23
    go_wp2
    go_ret
    exact H.out
  · have e0 : (n.natAbs : Int) = n := by omega
    rw [e0]
    have H := Lib.hid (mag_end w n (by omega) (by omega))
    clear e0
    go_enter Tryd.func23, Tryd.ntmps23
    go_wp2
    go_ret
    exact H.out

theorem RN.far3 {w : World} {s : Bool} {A B : Option Addr} {n c m d k g : Nat} {q : Rat} (h : RN w s A n c B m d q k) (hA : 0 < n → ∀ a, A = some a → a.block ≠ g) (hB : 0 < m → ∀ a, B = some a → a.block ≠ g) (i j l : Nat) (u v z : Value) :
    RN (((w.setCell ⟨g, i, none⟩ u).setCell ⟨g, j, none⟩ v).setCell ⟨g, l, none⟩ z) s A n c B m d q k :=
  ⟨h.1, h.2.1.far3 hA _ _ _ _ _ _, h.2.2.1.far3 hB _ _ _ _ _ _, h.2.2.2⟩
/-- A normal form has been stored into the result's box, which is older than its slices. -/
theorem store_end {w wp w' : World} {s : Bool} {A B : Option Addr} {n c m d k g : Nat} {q : Rat} (h : RN w' s A n c B m d q k) (oA : Off wp.heap.size A) (oB : Off wp.heap.size B) (hg : g < wp.heap.size) (hw : w.heap.size ≤ g) (hk : Below w.heap.size w w') (u v z : Value) :
    RN (((w'.setCell ⟨g, 0, none⟩ u).setCell ⟨g, 1, none⟩ v).setCell ⟨g, 2, none⟩ z) s A n c B m d q k ∧ Off w.heap.size A ∧ Off w.heap.size B ∧
      Below w.heap.size w (((w'.setCell ⟨g, 0, none⟩ u).setCell ⟨g, 1, none⟩ v).setCell ⟨g, 2, none⟩ z) :=
  ⟨h.far3 (fun _ a e => by have := oA a e; omega) (fun _ a e => by have := oB a e; omega) _ _ _ _ _ _, oA.mono (by omega), oB.mono (by omega), ((hk.setCell hw _).setCell hw _).setCell hw _⟩

end Go.Proofs.YtekalaihfmfkkaaDoor
