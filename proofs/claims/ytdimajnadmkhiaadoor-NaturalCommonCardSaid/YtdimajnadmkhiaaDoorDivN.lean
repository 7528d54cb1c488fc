/-
  natural.DivMod and Cmp, said of the numbers alone.
-/
import Derived.Test.YtdimajnadmkhiaaDoorLong3
import Derived.Test.YtdimajnadmkhiaaDoorCmp
import Derived.Test.YtdimajnadmkhiaaDoorRefTrim
namespace Go.Proofs.YtdimajnadmkhiaaDoor
open Go.RowKit

def Gives2N (w : World) (q r : Int) (e : Ending) (w' : World) : Prop :=
  ∃ A n c B m d, e = .returned (.tuple #[.slice A n c, .slice B m d, .int .i64 0]) ∧ Nrm w' A n c q ∧ Nrm w' B m d r ∧ Below w.heap.size w w'
theorem divMod_n {w : World} {A B : Option Addr} {n c m d : Nat} {x y : Int} (hx : Num w A n c x) (hy : Num w B m d y) (hn : n ≤ 900000) (h0 : y ≠ 0) :
    Calls Tryd.prog 24 #[.slice A n c, .slice B m d] w (Gives2N w (x / y) (x % y)) := by
  obtain ⟨L, h1, rfl⟩ := hx
  obtain ⟨M, h2, rfl⟩ := hy
  refine (divMod_any A B n c m d L M w h1 h2 hn h0).mono fun e w' h => ?_
  obtain ⟨A, n, c, Q, B, m, d, R, he, hQ, iQ, hR, iR, hB⟩ := h
  exact ⟨A, n, c, B, m, d, he, Nrm.of_mine hQ iQ, Nrm.of_mine hR iR, hB⟩
theorem divMod_zero_n {w : World} {A B : Option Addr} {n c m d : Nat} {x y : Int} (hx : Num w A n c x) (hy : Num w B m d y) (h0 : y = 0) :
    Calls Tryd.prog 24 #[.slice A n c, .slice B m d] w fun e w' => e = .returned (.tuple #[.slice none 0 0, .slice none 0 0, .int .i64 3]) ∧ w = w' := by
  obtain ⟨L, h1, rfl⟩ := hx
  obtain ⟨M, h2, rfl⟩ := hy
  exact divMod_zero A B n c m d L M w h1 h2 h0
theorem cmp_n {w : World} {A B : Option Addr} {n c m d : Nat} {x y : Int} (hx : Num w A n c x) (hy : Num w B m d y) :
    Calls Tryd.prog 34 #[.slice A n c, .slice B m d] w (SameNum w x y) := by
  obtain ⟨L, h1, rfl⟩ := hx
  obtain ⟨M, h2, rfl⟩ := hy
  exact cmp_any A B n c m d L M w h1 h2
theorem cmp_less {w : World} {A B : Option Addr} {n c m d : Nat} {x y : Int} (hx : Num w A n c x) (hy : Num w B m d y) (h : x < y) :
    Calls Tryd.prog 34 #[.slice A n c, .slice B m d] w fun e w' => e = .returned (.int .i64 (-1)) ∧ ∃ k, w' = w.drewN k := by
  have hc := cmp_n hx hy
  unfold SameNum at hc
  rwa [cmpZ_lt h] at hc
theorem Nrm.zero_len {w : World} {A : Option Addr} {n c : Nat} (h : Nrm w A n c 0) : n = 0 := by
  have := h.short (k := 0) (by decide)
  omega
theorem Nrm.pos_len {w : World} {A : Option Addr} {n c : Nat} {x : Int} (h : Nrm w A n c x) (h0 : x ≠ 0) : 0 < n := by
  rcases Nat.eq_zero_or_pos n with hn | hn
  · exfalso
    have h1 := h.num.lt
    have h2 := h.num.nonneg
    rw [hn] at h1
    rw [pw_zero] at h1
    omega
  · exact hn

end Go.Proofs.YtdimajnadmkhiaaDoor
