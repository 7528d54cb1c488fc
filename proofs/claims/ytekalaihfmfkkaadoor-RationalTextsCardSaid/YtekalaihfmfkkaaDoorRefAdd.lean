/-
  exactpplref01.Add: the limbs of the sum, in memory of its own.
-/
import Derived.Test.YtekalaihfmfkkaaDoorDivN
namespace Go.Proofs.YtekalaihfmfkkaaDoor
open Go.RowKit
set_option maxRecDepth 20000

theorem refAdd_last {S L M : List Int} {p : Nat} {cr : Int} (hS : Lims S) (hl : S.length = p + 1) (hL : Lims L) (hM : Lims M) (h1 : L.length ≤ p) (h2 : M.length ≤ p) (c0 : 0 ≤ cr)
    (h : val (S.take (p + 1)) + pw (p + 1) * cr = val (L.take (p + 1)) + val (M.take (p + 1))) : val S = val L + val M := by
  rw [List.take_of_length_le (by omega), List.take_of_length_le (by omega), List.take_of_length_le (by omega)] at h
  have a := val_lt hL
  have b := val_lt hM
  have a' := pw_mono h1
  have b' := pw_mono h2
  have s := val_nonneg hS
  have p0 := pw_pos p
  rw [pw_succ] at h
  rcases Int.lt_or_le 0 cr with hc | hc
  · exfalso
    have h3 : 4294967296 * pw p * 1 ≤ 4294967296 * pw p * cr := Int.mul_le_mul_of_nonneg_left (by omega) (by omega)
    omega
  · have : cr = 0 := by omega
    rw [this] at h
    omega

end Go.Proofs.YtekalaihfmfkkaaDoor
