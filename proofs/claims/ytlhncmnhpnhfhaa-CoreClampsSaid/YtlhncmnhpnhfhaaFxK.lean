/-
  CoreClamps, walked.
-/
import Derived.Test.YtlhncmnhpnhfhaaFxC
import Derived.Laws.BitsLemmas
namespace Go.Proofs.Ytlhncmnhpnhfhaa
open Go Go.RowKit Go.Shelf
set_option maxRecDepth 20000
namespace Fx

theorem and_range (x : Int) (m : Nat) (hm : m < 9223372036854775808) : 0 ≤ bits BinOp.and IntKind.i64 x (m : Int) ∧ bits BinOp.and IntKind.i64 x (m : Int) ≤ m := by
  have hb : m % 2 ^ 64 = m := Nat.mod_eq_of_lt (by omega)
  have e : (BitVec.ofInt 64 x &&& BitVec.ofNat 64 m : BitVec 64).toNat = (BitVec.ofInt 64 x).toNat &&& m := by rw [BitVec.toNat_and, BitVec.toNat_ofNat, hb]
  have h2 : ((BitVec.ofInt 64 x).toNat &&& m) ≤ m := Nat.and_le_right
  simp only [bits, BitVec.ofInt_natCast]
  show 0 ≤ IntKind.i64.wrap (((BitVec.ofInt 64 x &&& BitVec.ofNat 64 m : BitVec 64).toNat : Nat) : Int) ∧ IntKind.i64.wrap (((BitVec.ofInt 64 x &&& BitVec.ofNat 64 m : BitVec 64).toNat : Nat) : Int) ≤ m
  rw [e]
  generalize (BitVec.ofInt 64 x).toNat &&& m = y at h2 ⊢
  rw [IntKind.wrap_i64]
  omega

/-- Three cells of a box. -/
structure Cl3 (W : World) (b : Nat) (x y z : Value) : Prop where
  c0 : W.cell? ⟨b, 0, none⟩ = some x
  c1 : W.cell? ⟨b, 1, none⟩ = some y
  c2 : W.cell? ⟨b, 2, none⟩ = some z
theorem Cl3.below {W V : World} {b : Nat} {x y z : Value} (h : Cl3 W b x y z) (hb : Below W.heap.size W V) : Cl3 V b x y z :=
  have hl := World.block_lt_of_cell? W _ h.c0
  ⟨(hb.cell (p := ⟨b, 0, none⟩) hl).trans h.c0, (hb.cell (p := ⟨b, 1, none⟩) hl).trans h.c1, (hb.cell (p := ⟨b, 2, none⟩) hl).trans h.c2⟩
theorem Cl3.new (w : World) (x y z : Value) (t : TypeId) : Cl3 (w.alloc (.cells #[x, y, z] t)) w.heap.size x y z := ⟨by simp, by simp, by simp⟩

theorem clamp_twice (k lo hi n : Int) (h : lo ≤ hi) : clamp k lo hi (clamp k lo hi n) = clamp k lo hi n := by
  unfold clamp
  repeat' split
  all_goals omega

theorem clamps_walk (k lo hi n : Int) (_hk : (Lit.int .i64 k).wf = true) (_hlo : (Lit.int .i64 lo).wf = true) (_hhi : (Lit.int .i64 hi).wf = true) (_hn : (Lit.int .i64 n).wf = true) (w : World) :
    Calls Try.prog 5 #[.int .i64 k, .int .i64 lo, .int .i64 hi, .int .i64 n] w (SaysTrue w) := by
  have h1 := and_range k 3 (by omega)
  have h2 := and_range hi 255 (by omega)
  simp only [show ((3 : Nat) : Int) = 3 from rfl] at h1
  simp only [show ((255 : Nat) : Int) = 255 from rfl] at h2
  obtain ⟨p, hp⟩ : ∃ p, bits BinOp.and IntKind.i64 k 3 = p := ⟨_, rfl⟩
  obtain ⟨q, hq⟩ : ∃ q, bits BinOp.and IntKind.i64 hi 255 = q := ⟨_, rfl⟩
  rw [hp] at h1
  rw [hq] at h2
  have h3 : -1000 < lo.tmod 1000 ∧ lo.tmod 1000 < 1000 := by
    have h4 := Int.tmod_lt_of_pos lo (show (0 : Int) < 1000 by omega)
    have h5 := Int.tmod_lt_of_pos (-lo) (show (0 : Int) < 1000 by omega)
    rw [Int.neg_tmod] at h5
    omega
  obtain ⟨r, hr⟩ : ∃ r, lo.tmod 1000 = r := ⟨_, rfl⟩
  rw [hr] at h3
  have e1 : wrap64 (1 + p) = 1 + p := by simp only [wrap64]; omega
  have e2 : wrap64 (r + q) = r + q := by simp only [wrap64]; omega
  have HT := Lib.hid (clamp_twice (1 + p) r (r + q) n (by omega))
  have hC := fun w => clamp_x (1 + p) r (r + q) n w
  have hD := fun w => clamp_x (1 + p) r (r + q) (clamp (1 + p) r (r + q) n) w
  rw [HT.out] at hD
  have hR := fun w => rclamp_x (1 + p) r (r + q) n w
  have hC0 := fun w => clamp_x k 0 0 n w
  have hR0 := fun w => rclamp_x k 0 0 n w
  generalize clamp (1 + p) r (r + q) n = x at *
  generalize clamp k 0 0 n = y at *
  clear _hk _hlo _hhi _hn
  have hW := Cl3.new w (.int .i64 (1 + p)) (.int .i64 r) (.int .i64 (r + q)) 46
  go_enter Try.func5, Try.ntmps5
  go_wp2_with (first
    | (with_reducible refine (hC _).mono ?_; rintro e w1 ⟨rfl, hb1⟩; (have hW1 := hW.below hb1); clear hW; (have d0 := hW1.c0); (have d1 := hW1.c1); (have d2 := hW1.c2))
    | (with_reducible refine (hR _).mono ?_; rintro e w2 ⟨rfl, hb2⟩; (have hW2 := hW1.below hb2); clear hW1 d0 d1 d2; (have d0 := hW2.c0); (have d1 := hW2.c1); (have d2 := hW2.c2))
    | (with_reducible refine (hD _).mono ?_; rintro e w3 ⟨rfl, hb3⟩; clear d0 d1 d2 hW2)
    | (with_reducible refine (hC0 _).mono ?_; rintro e w4 ⟨rfl, hb4⟩)
    | (with_reducible refine (hR0 _).mono ?_; rintro e w5 ⟨rfl, hb5⟩)
    | (refine (awake_x _).mono ?_; rintro e w6 ⟨rfl, hb6⟩))
  go_ret
  exact ⟨rfl, nextB (nextB (nextB (nextB (nextB (nextB (allocB w _) hb1) hb2) hb3) hb4) hb5) hb6⟩
end Fx
end Go.Proofs.Ytlhncmnhpnhfhaa
