/-
  exactpplref01.Same and exactppllaw01.short; and the contracts of natural once more, said of the numbers alone: what a slice of limbs stands for, and whether it is in normal form.
-/
import Derived.Test.YtdimajnadmkhiaaDoorAwake
import Derived.Test.YtdimajnadmkhiaaDoorAdd
import Derived.Test.YtdimajnadmkhiaaDoorSub
import Derived.Test.YtdimajnadmkhiaaDoorMul
namespace Go.Proofs.YtdimajnadmkhiaaDoor
open Go.RowKit

def Yes (w : World) (e : Ending) (w' : World) : Prop := e = .returned (.bool true) ∧ ∃ k, w' = w.drewN k

theorem same_true (A B : Option Addr) (n c d : Nat) (L : List Int) (w : World) (hr : Rd w A n c L) (hs : Rd w B n d L) :
    Calls Tryd.prog 12 #[.slice A n c, .slice B n d] w (Yes w) := by
  have hcap := hr.cap
  have htop := hr.top
  unfold maxLen at htop
  go_enter Tryd.func12, Tryd.ntmps12
  go_wp2
  go_loopw [5] (fun iv wr => ∃ k q : Nat, k ≤ n ∧ iv = .int .i64 k ∧ wr = w.drewN q) (fun iv _ => n - (intOf iv).toNat)
  case atStart => exact ⟨0, 0, Nat.zero_le _, rfl, rfl⟩
  case round =>
    obtain ⟨k, q, hk, rfl, rfl⟩ := hrel
    by_cases hkn : k < n
    · obtain ⟨ad, rfl, _, hc⟩ := hr.at_ (by omega)
      obtain ⟨ad', rfl, _, hc'⟩ := hs.at_ (by omega)
      have h1 := hc k hkn
      have h2 := hc' k hkn
      clear hc hc'
      obtain ⟨x, hx⟩ : ∃ x, L.getD k 0 = x := ⟨_, rfl⟩
      rw [hx] at h1 h2
      clear hx
      go_wp2_with fail
      go_quiet (fail)
      go_wp2
      go_roundw
      case rel => exact ⟨k + 1, _, by omega, by go_num, rfl⟩
      case measure => simp [intOf] <;> omega
    · obtain rfl : k = n := by omega
      go_wp2
      go_ret
      exact ⟨rfl, q, rfl⟩

theorem short_yes (A : Option Addr) (n c : Nat) (w : World) (h : n ≤ 24) :
    Calls Tryd.prog 6 #[.slice A n c] w fun e w' => e = .returned (.bool true) ∧ w = w' := by
  go_enter Tryd.func6, Tryd.ntmps6
  go_wp2
  go_ret
  exact ⟨congrArg (fun b => Ending.returned (.bool b)) (decide_eq_true (by omega)), rfl⟩
theorem short_no (A : Option Addr) (n c : Nat) (w : World) (h : 24 < n) :
    Calls Tryd.prog 6 #[.slice A n c] w fun e w' => e = .returned (.bool false) ∧ w = w' := by
  go_enter Tryd.func6, Tryd.ntmps6
  go_wp2
  go_ret
  exact ⟨congrArg (fun b => Ending.returned (.bool b)) (decide_eq_false (by omega)), rfl⟩

/-- The slice stands for x. -/
def Num (w : World) (A : Option Addr) (n c : Nat) (x : Int) : Prop := ∃ L, Rd w A n c L ∧ val L = x
/-- The slice stands for x, without zeros at its end. -/
def Nrm (w : World) (A : Option Addr) (n c : Nat) (x : Int) : Prop := ∃ L, Rd w A n c L ∧ Is L x
section
variable {w w' : World} {A B : Option Addr} {n c m d : Nat} {x y : Int}
theorem Nrm.num (h : Nrm w A n c x) : Num w A n c x := by obtain ⟨L, h1, h2⟩ := h; exact ⟨L, h1, h2.eq⟩
theorem Num.below (h : Num w A n c x) (hb : Below w.heap.size w w') : Num w' A n c x := by obtain ⟨L, h1, h2⟩ := h; exact ⟨L, h1.below hb, h2⟩
theorem Nrm.below (h : Nrm w A n c x) (hb : Below w.heap.size w w') : Nrm w' A n c x := by obtain ⟨L, h1, h2⟩ := h; exact ⟨L, h1.below hb, h2⟩
theorem Num.drewN (h : Num w A n c x) (k : Nat) : Num (w.drewN k) A n c x := by obtain ⟨L, h1, h2⟩ := h; exact ⟨L, h1.drewN k, h2⟩
theorem Nrm.drewN (h : Nrm w A n c x) (k : Nat) : Nrm (w.drewN k) A n c x := by obtain ⟨L, h1, h2⟩ := h; exact ⟨L, h1.drewN k, h2⟩
theorem Num.nonneg (h : Num w A n c x) : 0 ≤ x := by obtain ⟨L, h1, rfl⟩ := h; exact val_nonneg h1.lims
theorem Num.lt (h : Num w A n c x) : x < pw n := by obtain ⟨L, h1, rfl⟩ := h; have := val_lt h1.lims; rwa [h1.len] at this
theorem Nrm.short (h : Nrm w A n c x) {k : Nat} (hx : x < pw k) : n ≤ k := by
  obtain ⟨L, h1, h2⟩ := h
  rcases Nat.lt_or_ge k n with h3 | h3
  · exfalso
    have hl := h1.len
    obtain ⟨j, hj⟩ : ∃ j, L.length = j + 1 := ⟨L.length - 1, by omega⟩
    have h4 := h2.ge hj
    have h5 := pw_mono (m := k) (n := j) (by omega)
    omega
  · exact h3
theorem Nrm.of_mine {base : Nat} {L : List Int} (h : Mine w base A n c L) (hI : Is L x) : Nrm w A n c x := ⟨L, h.rd, hI⟩
theorem Nrm.cast (h : Nrm w A n c x) (e : x = y) : Nrm w A n c y := by subst e; exact h
end
theorem pw_up {x : Int} {i j : Nat} (h : x < pw i) (hij : i ≤ j) : x < pw j := Int.lt_of_lt_of_le h (pw_mono hij)
theorem pw_sum {x y : Int} {k : Nat} (hx : x < pw k) (hy : y < pw k) : x + y < pw (k + 1) := by have := pw_pos k; rw [pw_succ]; omega
theorem pw_prod {x y : Int} {i j : Nat} (_x0 : 0 ≤ x) (y0 : 0 ≤ y) (hx : x < pw i) (hy : y < pw j) : x * y < pw (i + j) := by
  rw [pw_add]
  have h1 : x * y ≤ pw i * y := Int.mul_le_mul_of_nonneg_right (by omega) y0
  have h2 : pw i * (y + 1) ≤ pw i * pw j := Int.mul_le_mul_of_nonneg_left (by omega) (Int.le_of_lt (pw_pos i))
  have h3 := pw_pos i
  rw [Int.mul_add] at h2
  omega

/-- A slice that stands for x, in normal form, comes back; what was there before is as it was. -/
def GivesN (w : World) (x : Int) (e : Ending) (w' : World) : Prop := ∃ A n c, e = .returned (.slice A n c) ∧ Nrm w' A n c x ∧ Below w.heap.size w w'
def GivesNOk (w : World) (x : Int) (e : Ending) (w' : World) : Prop := ∃ A n c, e = .returned (.tuple #[.slice A n c, .int .i64 0]) ∧ Nrm w' A n c x ∧ Below w.heap.size w w'
theorem Gives.n {w : World} {x : Int} {e : Ending} {w' : World} (h : Gives w x e w') : GivesN w x e w' := by
  obtain ⟨A, n, c, L, h1, h2, h3, h4⟩ := h
  exact ⟨A, n, c, h1, Nrm.of_mine h2 h3, h4⟩
theorem GivesOk.n {w : World} {x : Int} {e : Ending} {w' : World} (h : GivesOk w x e w') : GivesNOk w x e w' := by
  obtain ⟨A, n, c, L, h1, h2, h3, h4⟩ := h
  exact ⟨A, n, c, h1, Nrm.of_mine h2 h3, h4⟩
section
variable {w : World} {A B : Option Addr} {n c m d : Nat} {x y : Int}
theorem add_n (hx : Num w A n c x) (hy : Num w B m d y) (hn : n ≤ 1000000) (hm : m ≤ 1000000) : Calls Tryd.prog 36 #[.slice A n c, .slice B m d] w (GivesN w (x + y)) := by
  obtain ⟨L, h1, rfl⟩ := hx
  obtain ⟨M, h2, rfl⟩ := hy
  exact (add_any A B n c m d L M w h1 h2 hn hm).mono fun _ _ h => h.n
theorem mul_n (hx : Num w A n c x) (hy : Num w B m d y) (hn : n ≤ 1000000) (hm : m ≤ 1000000) : Calls Tryd.prog 22 #[.slice A n c, .slice B m d] w (GivesN w (x * y)) := by
  obtain ⟨L, h1, rfl⟩ := hx
  obtain ⟨M, h2, rfl⟩ := hy
  exact (mul_any A B n c m d L M w h1 h2 hn hm).mono fun _ _ h => h.n
theorem sub_n (hx : Num w A n c x) (hy : Num w B m d y) (hn : n ≤ 1000000) (hle : y ≤ x) : Calls Tryd.prog 29 #[.slice A n c, .slice B m d] w (GivesNOk w (x - y)) := by
  obtain ⟨L, h1, rfl⟩ := hx
  obtain ⟨M, h2, rfl⟩ := hy
  exact (sub_any A B n c m d L M w h1 h2 hn hle).mono fun _ _ h => h.n
theorem trim_n (hx : Num w A n c x) (hn : n ≤ 1000000) : Calls Tryd.prog 33 #[.slice A n c] w (GivesN w x) := by
  obtain ⟨L, h1, rfl⟩ := hx
  exact (trim_any A n c L w h1 hn).mono fun _ _ h => h.n
theorem same_n (hx : Nrm w A n c x) (hy : Nrm w B m d y) (e : x = y) : Calls Tryd.prog 12 #[.slice A n c, .slice B m d] w (Yes w) := by
  subst e
  obtain ⟨L, h1, h2⟩ := hx
  obtain ⟨M, h3, h4⟩ := hy
  obtain rfl := h2.unique h4
  obtain rfl : n = m := h1.len.symm.trans h3.len
  exact same_true A B n c d L w h1 h3
end

end Go.Proofs.YtdimajnadmkhiaaDoor
