/-
  natural.Parse of what is no number: ErrSyntax.
-/
import Derived.Test.YtekalaihfmfkkaaGreatDoorParse
namespace Go.Proofs.YtekalaihfmfkkaaGreatDoor
open Go.RowKit
set_option maxRecDepth 20000

/-- The first byte that is no digit stands at j. -/
def BadAt (s : ByteArray) (j : Nat) : Prop := ∃ h : j < s.size, (∀ i (hi : i < s.size), i < j → 48 ≤ s[i].toNat ∧ s[i].toNat ≤ 57) ∧ (s[j].toNat < 48 ∨ 57 < s[j].toNat)

theorem digs_or_bad (s : ByteArray) : Digs s ∨ ∃ j, BadAt s j := by
  by_cases h : ∃ j, ∃ hj : j < s.size, s[j].toNat < 48 ∨ 57 < s[j].toNat
  · right
    obtain ⟨j, hj⟩ := h
    induction j using Nat.strongRecOn with
    | _ j ih =>
      by_cases h2 : ∃ i, i < j ∧ ∃ hi : i < s.size, s[i].toNat < 48 ∨ 57 < s[i].toNat
      · obtain ⟨i, hij, hi⟩ := h2
        exact ih i hij hi
      · obtain ⟨hj1, hj2⟩ := hj
        refine ⟨j, hj1, fun i hi hij => ?_, hj2⟩
        have h3 : ¬ (s[i].toNat < 48 ∨ 57 < s[i].toNat) := fun h4 => h2 ⟨i, hij, hi, h4⟩
        omega
  · left
    intro i hi
    have h3 : ¬ (s[i].toNat < 48 ∨ 57 < s[i].toNat) := fun h4 => h ⟨i, hi, h4⟩
    omega

theorem parse_empty (s : ByteArray) (w : World) (h : s.size = 0) :
    Calls Tryz.prog 73 #[.string s] w fun e w' => e = .returned (.tuple #[.slice none 0 0, .int .i64 4]) ∧ w = w' := by
  obtain rfl : s = ByteArray.empty := by
    apply ByteArray.ext
    apply Array.eq_empty_of_size_eq_zero
    exact h
  go_enter Tryz.func73, Tryz.ntmps73
  go_wp2
  go_ret2
  exact ⟨rfl, rfl⟩

theorem parse_bad (s : ByteArray) (j : Nat) (w : World) (hb : BadAt s j) (h2 : s.size ≤ 1000000) :
    Calls Tryz.prog 73 #[.string s] w fun e w' => e = .returned (.tuple #[.slice none 0 0, .int .i64 4]) ∧ w = w' := by
  obtain ⟨hj, hlow, hbad⟩ := hb
  have hne := not_empty s (by omega)
  go_enter Tryz.func73, Tryz.ntmps73
  go_wp2
  go_loop [11] (fun i => ∃ k : Nat, k ≤ j ∧ i = .int .i64 k) (fun i => s.size - (intOf i).toNat)
  case atStart => exact ⟨0, Nat.zero_le _, rfl⟩
  case round =>
    obtain ⟨k, hk, rfl⟩ := hrel
    by_cases hlt : k < j
    · have hks : k < s.size := by omega
      obtain ⟨b0, b1⟩ := hlow k hks hlt
      clear hbad hlow
      go_wp2
      go_round
      case rel => exact ⟨k + 1, by omega, by go_num⟩
      case measure => simp [intOf] <;> omega
    · obtain rfl : k = j := by omega
      clear hlow hlt
      rcases hbad with hbad | hbad
      · go_wp2
        all_goals
          go_ret2
          exact ⟨rfl, rfl⟩
      · go_wp2
        all_goals
          go_ret2
          exact ⟨rfl, rfl⟩

end Go.Proofs.YtekalaihfmfkkaaGreatDoor
