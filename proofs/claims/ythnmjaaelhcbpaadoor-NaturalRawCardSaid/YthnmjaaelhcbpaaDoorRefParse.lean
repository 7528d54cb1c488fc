/-
  exactpplref01.Parse of what is no number, or has too many digits.
-/
import Derived.Test.YthnmjaaelhcbpaaDoorParseBad
namespace Go.Proofs.YthnmjaaelhcbpaaDoor
open Go.RowKit
set_option maxRecDepth 20000

theorem refParse_empty (s : ByteArray) (w : World) (h : s.size = 0) :
    Calls Tryd.prog 15 #[.string s] w fun e w' => e = .returned (.tuple #[.slice none 0 0, .int .i64 4]) ∧ w = w' := by
  obtain rfl : s = ByteArray.empty := by
    apply ByteArray.ext
    apply Array.eq_empty_of_size_eq_zero
    exact h
  go_enter Tryd.func15, Tryd.ntmps15
  go_wp2
  go_ret2
  exact ⟨rfl, rfl⟩

theorem refParse_bad (s : ByteArray) (j : Nat) (w : World) (hb : BadAt s j) (h2 : s.size ≤ 1000000) :
    Calls Tryd.prog 15 #[.string s] w fun e w' => e = .returned (.tuple #[.slice none 0 0, .int .i64 4]) ∧ w = w' := by
  obtain ⟨hj, hlow, hbad⟩ := hb
  have hne := not_empty s (by omega)
  go_enter Tryd.func15, Tryd.ntmps15
  go_wp2
  go_loop [4] (fun i => ∃ k : Nat, k ≤ j ∧ i = .int .i64 k) (fun i => s.size - (intOf i).toNat)
  case atStart => exact ⟨0, Nat.zero_le _, rfl⟩
  case round =>
    obtain ⟨k, hk, rfl⟩ := hrel
    by_cases hlt : k < j
    · have hks : k < s.size := by omega
      obtain ⟨b0, b1⟩ := hlow k hks hlt
      clear hbad hlow
      go_wp2
      go_round
      case rel => exact ⟨k + 1, by omega, by go_num⟩
      case measure => simp [intOf] <;> omega
    · obtain rfl : k = j := by omega
      clear hlow hlt
      rcases hbad with hbad | hbad
      · go_wp2
        all_goals
          go_ret2
          exact ⟨rfl, rfl⟩
      · go_wp2
        all_goals
          go_ret2
          exact ⟨rfl, rfl⟩

theorem refParse_long (s : ByteArray) (w : World) (hd : Digs s) (h1 : 60 < s.size) (h2 : s.size ≤ 1000000) :
    Calls Tryd.prog 15 #[.string s] w fun e w' => e = .returned (.tuple #[.slice none 0 0, .int .i64 9]) ∧ w = w' := by
  have hne := not_empty s (by omega)
  go_enter Tryd.func15, Tryd.ntmps15
  go_wp2
  go_loop [4] (fun i => ∃ k : Nat, k ≤ s.size ∧ i = .int .i64 k) (fun i => s.size - (intOf i).toNat)
  case atStart => exact ⟨0, Nat.zero_le _, rfl⟩
  case round =>
    obtain ⟨k, hk, rfl⟩ := hrel
    by_cases hlt : k < s.size
    · obtain ⟨b0, b1⟩ := hd k hlt
      go_wp2
      go_round
      case rel => exact ⟨k + 1, by omega, by go_num⟩
      case measure => simp [intOf] <;> omega
    · obtain rfl : k = s.size := by omega
      clear hlt hk
      go_wp2
      go_ret2
      exact ⟨rfl, rfl⟩

end Go.Proofs.YthnmjaaelhcbpaaDoor
