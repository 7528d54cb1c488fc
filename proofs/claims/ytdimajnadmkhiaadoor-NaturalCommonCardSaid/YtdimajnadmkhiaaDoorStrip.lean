/-
  natural.strip: for every list of limbs it returns the part without the zeros at its end, in the same memory, and nil if nothing is left; the world is as it was.
-/
import Derived.Test.YtdimajnadmkhiaaDoorMem
import Derived.Test.YtdimajnadmkhiaaDoorChecked
import Derived.WalkKit
import Derived.Handy
import Derived.Outline
namespace Go.Proofs.YtdimajnadmkhiaaDoor
open Go.RowKit

/-- What strip hands back for the slice (A, n, c) that reads as L. -/
def Stripped (A : Option Addr) (c : Nat) (L : List Int) (A' : Option Addr) (n' c' : Nat) : Prop :=
  n' = (trim L).length ∧ ((n' = 0 ∧ A' = none ∧ c' = 0) ∨ (0 < n' ∧ A' = A ∧ c' = c))
def StripPost (A : Option Addr) (c : Nat) (L : List Int) (w : World) (e : Ending) (w' : World) : Prop :=
  ∃ A' n' c', e = .returned (.slice A' n' c') ∧ Stripped A c L A' n' c' ∧ w = w'
theorem Stripped.rd {w : World} {A A' : Option Addr} {n c n' c' : Nat} {L : List Int} (h : Stripped A c L A' n' c') (hr : Rd w A n c L) : Rd w A' n' c' (trim L) := by
  obtain ⟨hn, ⟨h0, rfl, rfl⟩ | ⟨h0, rfl, rfl⟩⟩ := h
  · subst h0
    have : trim L = [] := List.eq_nil_of_length_eq_zero hn.symm
    rw [this]; exact Rd.nil w
  · have hle := trim_length_le L
    have := hr.len
    exact (hr.take (k := n') (by omega)).cast rfl (by rw [hn, ← trim_take])

theorem Stripped.mine {w : World} {base : Nat} {A A' : Option Addr} {n c n' c' : Nat} {L : List Int} (h : Stripped A c L A' n' c') (hr : Mine w base A n c L) : Mine w base A' n' c' (trim L) := by
  obtain ⟨hn, ⟨h0, rfl, rfl⟩ | ⟨h0, rfl, rfl⟩⟩ := h
  · subst h0
    have : trim L = [] := List.eq_nil_of_length_eq_zero hn.symm
    rw [this]; exact Mine.nil w base
  · have hle := trim_length_le L
    have := hr.len
    exact (hr.take (k := n') (by omega) (by omega)).cast rfl (by rw [hn, ← trim_take])

theorem trim_take_succ (L : List Int) (k : Nat) (hk : k < L.length) (h : L.getD k 0 = 0) : trim (L.take (k + 1)) = trim (L.take k) := by
  rw [List.take_succ_eq_append_getElem hk]
  have : L[k] = 0 := by rw [List.getD_eq_getElem?_getD, List.getElem?_eq_getElem hk] at h; exact h
  rw [this, trim_snoc_zero]
theorem trim_take_ne (L : List Int) (k : Nat) (hk : k < L.length) (h : L.getD k 0 ≠ 0) : trim (L.take (k + 1)) = L.take (k + 1) := by
  rw [List.take_succ_eq_append_getElem hk]
  have : L[k] ≠ 0 := by rw [List.getD_eq_getElem?_getD, List.getElem?_eq_getElem hk] at h; exact h
  rw [trim_snoc_ne _ _ this]

set_option maxHeartbeats 400000 in
theorem strip_any (A : Option Addr) (n c : Nat) (L : List Int) (w : World) (hr : Rd w A n c L) :
    Calls Tryd.prog 42 #[.slice A n c] w (StripPost A c L w) := by
  have hlen := hr.len
  have hcap := hr.cap
  have htop := hr.top
  unfold maxLen at htop
  go_enter Tryd.func42, Tryd.ntmps42
  go_wp2
  go_loop [3] (fun i => ∃ k : Nat, k ≤ n ∧ i = .int .i64 k ∧ Hid (trim (L.take k) = trim L)) (fun i => (intOf i).toNat)
  case atStart => exact ⟨n, Nat.le_refl _, rfl, by show trim _ = _; rw [List.take_of_length_le (by omega)]⟩
  case round =>
    obtain ⟨k, hk, rfl, hT⟩ := hrel
    clear hlen
    by_cases h0 : 0 < k
    · obtain ⟨j, rfl⟩ : ∃ j, k = j + 1 := ⟨k - 1, by omega⟩
      obtain ⟨ad, rfl, hb, hc⟩ := hr.at_ (by omega)
      have hcj := hc j (by omega)
      clear hc
      by_cases hz : L.getD j 0 = 0
      · rw [hz] at hcj
        go_wp2
        go_round
        case rel => exact ⟨j, by omega, rfl, (congrArg (· = trim L) (trim_take_succ L j (by have := hr.len; omega) hz)).mp hT⟩
        case measure => simp [intOf] <;> omega
      · have hz' : (L.getD j 0 == 0) = false := by simpa using hz
        have HZ : Hid (L.getD j 0 ≠ 0) := hz
        clear hz
        obtain ⟨x, hx⟩ : ∃ x, L.getD j 0 = x := ⟨_, rfl⟩
        rw [hx] at hcj hz'
        clear hx
        go_wp2
        go_ret
        refine ⟨_, _, _, rfl, ⟨?_, .inr ⟨Nat.succ_pos _, rfl, rfl⟩⟩, rfl⟩
        rw [← hT, trim_take_ne L j (by have := hr.len; omega) HZ, List.length_take]
        have := hr.len
        omega
    · obtain rfl : k = 0 := by omega
      clear h0
      go_wp2
      go_ret
      refine ⟨_, _, _, rfl, ⟨?_, .inl ⟨rfl, rfl, rfl⟩⟩, rfl⟩
      rw [← hT]; rfl

end Go.Proofs.YtdimajnadmkhiaaDoor
