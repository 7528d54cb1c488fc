/-
  The lexer's reading of signs; a token.
-/
import Derived.Test.YtenobkhiekhohaaLexK
namespace Go.Proofs.Ytenobkhiekhohaa
open Go.RowKit Lx
set_option maxRecDepth 20000

set_option maxHeartbeats 1000000 in
theorem cont_sign (g : Nat) (s : ByteArray) (b : Nat) : Cont 22 g s b (qS (sgn (s.data.toList.drop b))) := by
  intro w n p h hr
  unfold qS
  have c0 := hr.cs.c0
  have c1 := hr.cs.c1
  have c2 := hr.cs.c2
  have hb := hr.hb
  have hs := hr.hs
  have e1 : (s.extract b s.size).toList = s.data.toList.drop b := by rw [extract_list, List.take_of_length_le (by simp)]
  have HS : Hid (∀ w : World, Calls Try.prog 31 #[.string (s.extract b s.size)] w fun e w' => e = .returned (.int .i64 (sgn (s.data.toList.drop b))) ∧ w' = w) := fun w => by
    have := signLength_x (s.extract b s.size) w (by simp; omega)
    rw [e1] at this
    exact this.mono fun _ _ ⟨h1, h2⟩ => ⟨h1, h2.symm⟩
  clear e1 hr
  generalize sgn (s.data.toList.drop b) = R at *
  have z1 : (b : Int) ≤ (n : Int) := by omega
  have z2 : (n : Int) ≤ (s.size : Int) := by omega
  have z3 : (b : Int) ≤ (s.size : Int) := by omega
  have z4 : (0 : Int) ≤ (b : Int) := by omega
  have hd : decide (n - b < R) = decide ((n : Int) - b < R) := by rw [decide_eq_decide]; omega
  rw [hd]
  have hw : IntKind.i64.wrap ((n : Int) - b) = (n : Int) - b := by rw [IntKind.wrap_i64]; omega
  clear hd
  generalize (s[n].toNat : Int) = x
  go_enter Try.func22, Try.ntmps22
  go_wp2_with fail
  go_quiet ((exact Calls.quiet_of_same (HS.out _)))
  go_wp2
  go_ret
  first | exact ⟨rfl, _, rfl⟩ | exact ⟨by rw [hw], _, rfl⟩

/-- The kind of a token with this text. -/
def kd (k : Int) (t : Bs) : Int := if kwB t then 3 else k
def tkV (k : Int) (t : ByteArray) (ln co : Int) : Value := .agg #[.int .i64 k, .string t, .int .i64 ln, .int .i64 co]
theorem token_x (k : Int) (t : ByteArray) (ln co : Int) (w : World) : Calls Try.prog 24 #[.int .i64 k, .string t, .agg #[.int .i64 ln, .int .i64 co]] w fun e w' =>
    e = .returned (tkV (kd k t.toList) t ln co) ∧ Below w.heap.size w w' := by
  have HK : Hid (∀ w : World, Calls Try.prog 33 #[.string t] w fun e w' => e = .returned (.bool (kwB t.toList)) ∧ w = w') := fun w => isKeyword_x t w
  unfold kd
  generalize kwB t.toList = d at *
  unfold tkV
  cases d
  · go_enter Try.func24, Try.ntmps24
    go_wp2_with fail
    refine (HK.out _).mono ?_
    rintro e w' ⟨rfl, rfl⟩
    go_wp2
    exact bodyPost_ret (v := .agg #[.int .i64 k, .string t, .int .i64 ln, .int .i64 co]) (by simp [results, Try.results24, go_sem]) rfl ⟨rfl, ((Below.refl _ _).alloc (Nat.le_refl _) _).alloc (by simp) _⟩
  · go_enter Try.func24, Try.ntmps24
    go_wp2_with fail
    refine (HK.out _).mono ?_
    rintro e w' ⟨rfl, rfl⟩
    go_wp2
    exact bodyPost_ret (v := .agg #[.int .i64 3, .string t, .int .i64 ln, .int .i64 co]) (by simp [results, Try.results24, go_sem]) rfl ⟨rfl, ((Below.refl _ _).alloc (Nat.le_refl _) _).alloc (by simp) _⟩
end Go.Proofs.Ytenobkhiekhohaa
