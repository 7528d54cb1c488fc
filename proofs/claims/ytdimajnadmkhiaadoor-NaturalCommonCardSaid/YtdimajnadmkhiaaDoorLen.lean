/-
  math/bits.Len32, LeadingZeros32, and Len of numbers below 256: how many binary digits.
-/
import Derived.Test.YtdimajnadmkhiaaDoorMem
import Derived.Test.YtdimajnadmkhiaaDoorChecked
import Derived.WalkKit
import Derived.Handy
import Derived.Outline
import Derived.Lib.BitFns
namespace Go.Proofs.YtdimajnadmkhiaaDoor
open Go.RowKit

theorem wrap_len (b k : Int) (h0 : 0 ≤ b) (h1 : b ≤ 255) (k0 : 0 ≤ k) (k1 : k ≤ 64) : wrap64 (k + wrap64 (Lib.len8 b)) = k + (Lib.bitLen b.toNat : Int) := by
  have l := Lib.bitLen_le8' b h0 h1
  rw [Lib.len8_of b h0 h1]
  unfold wrap64
  omega
theorem wrap_len0 (b : Int) (h0 : 0 ≤ b) (h1 : b ≤ 255) : wrap64 (wrap64 (Lib.len8 b)) = (Lib.bitLen b.toNat : Int) := by
  have l := Lib.bitLen_le8' b h0 h1
  rw [Lib.len8_of b h0 h1]
  unfold wrap64
  omega

theorem len64_small (x : Int) (w : World) (h0 : 0 ≤ x) (h1 : x ≤ 255) :
    Calls Tryd.prog 59 #[.int .u64 x] w fun e w' => e = .returned (.int .i64 (Lib.bitLen x.toNat)) ∧ w = w' := by
  have l := wrap_len0 x h0 h1
  have HL := Lib.hid l
  clear l
  go_enter Tryd.func59, Tryd.ntmps59
  go_wp2
  go_ret
  exact ⟨congrArg Ending.returned (congrArg (Value.int IntKind.i64) HL.out), rfl⟩

theorem len_small (x : Int) (w : World) (h0 : 0 ≤ x) (h1 : x ≤ 255) :
    Calls Tryd.prog 39 #[.int .u64 x] w fun e w' => e = .returned (.int .i64 (Lib.bitLen x.toNat)) ∧ w = w' := by
  go_enter Tryd.func39, Tryd.ntmps39
  go_wp2_with (go_at_call 59; refine (len64_small _ _ h0 h1).mono ?_; rintro e w' ⟨rfl, rfl⟩)
  go_ret
  exact ⟨rfl, rfl⟩

set_option maxHeartbeats 1000000 in
theorem len32_any (x : Int) (w : World) (h0 : 0 ≤ x) (h1 : x < 4294967296) :
    Calls Tryd.prog 58 #[.int .u32 x] w fun e w' => e = .returned (.int .i64 (Lib.bitLen x.toNat)) ∧ w = w' := by
  by_cases a : 65536 ≤ x
  · by_cases b : 256 ≤ x / 65536
    · have c0 : 0 ≤ x / 65536 / 256 := by omega
      have c1 : x / 65536 / 256 ≤ 255 := by omega
      have HL := Lib.hid (wrap_len _ 24 c0 c1 (by decide) (by decide))
      go_enter Tryd.func58, Tryd.ntmps58
      go_wp2
      go_ret
      refine ⟨congrArg Ending.returned (congrArg (Value.int IntKind.i64) (HL.out.trans ?_)), rfl⟩
      have s := Lib.bitLen_shift24 x.toNat (by omega) (by omega)
      have e : (x / 65536 / 256).toNat = x.toNat / 16777216 := by omega
      rw [e]
      omega
    · have c0 : 0 ≤ x / 65536 := by omega
      have c1 : x / 65536 ≤ 255 := by omega
      have HL := Lib.hid (wrap_len _ 16 c0 c1 (by decide) (by decide))
      go_enter Tryd.func58, Tryd.ntmps58
      go_wp2
      go_ret
      refine ⟨congrArg Ending.returned (congrArg (Value.int IntKind.i64) (HL.out.trans ?_)), rfl⟩
      have s := Lib.bitLen_shift16 x.toNat (by omega) (by omega)
      have e : (x / 65536).toNat = x.toNat / 65536 := by omega
      rw [e]
      omega
  · by_cases b : 256 ≤ x
    · have c0 : 0 ≤ x / 256 := by omega
      have c1 : x / 256 ≤ 255 := by omega
      have HL := Lib.hid (wrap_len _ 8 c0 c1 (by decide) (by decide))
      go_enter Tryd.func58, Tryd.ntmps58
      go_wp2
      go_ret
      refine ⟨congrArg Ending.returned (congrArg (Value.int IntKind.i64) (HL.out.trans ?_)), rfl⟩
      have s := Lib.bitLen_shift8 x.toNat (by omega) (by omega)
      have e : (x / 256).toNat = x.toNat / 256 := by omega
      rw [e]
      omega
    · have HL := Lib.hid (wrap_len0 x h0 (by omega))
      have c1 : x ≤ 255 := by omega
      go_enter Tryd.func58, Tryd.ntmps58
      go_wp2
      go_ret
      exact ⟨congrArg Ending.returned (congrArg (Value.int IntKind.i64) HL.out), rfl⟩

theorem leading_any (x : Int) (w : World) (h0 : 0 ≤ x) (h1 : x < 4294967296) :
    Calls Tryd.prog 65 #[.int .u32 x] w fun e w' => e = .returned (.int .i64 (32 - (Lib.bitLen x.toNat : Int))) ∧ w = w' := by
  have l : Lib.bitLen x.toNat ≤ 32 := Lib.bitLen_le x.toNat 32 (by decide) (by omega)
  go_enter Tryd.func65, Tryd.ntmps65
  go_wp2_with (go_at_call 58; refine (len32_any _ _ h0 h1).mono ?_; rintro e w' ⟨rfl, rfl⟩)
  go_ret
  exact ⟨rfl, rfl⟩

end Go.Proofs.YtdimajnadmkhiaaDoor
