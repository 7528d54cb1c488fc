/-
  lexer.Tokens: the tokens of a text, or the first error.
-/
import Derived.Test.YtenobkhiekhohaaLexQ
import Derived.Test.YtenobkhiekhohaaShelf
import Derived.Maps.AppendAt
namespace Go.Proofs.Ytenobkhiekhohaa
open Go Go.RowKit Lx
set_option maxRecDepth 100000

/-- What Tokens returns. -/
def GivesOut (o : Out) (w : World) (e : Ending) (w' : World) : Prop :=
  (∃ T A n c, o = .ok T ∧ e = .returned (.tuple #[.slice A n c, .agg #[.int .i64 0, .int .i64 0], .int .i64 0]) ∧ T.length = n ∧ w'.ownsRow w.heap.size 37 4 (.slice A n c) n (rowT T) ∧ Below w.heap.size w w') ∨
  (∃ l c er, o = .bad l c er ∧ er ≠ 0 ∧ e = .returned (.tuple #[.slice none 0 0, .agg #[.int .i64 l, .int .i64 c], .int .i64 er]) ∧ Below w.heap.size w w')

theorem tokens_long (s : ByteArray) (w : World) (hs : 8192 < s.size) (hm : s.size ≤ maxLen) : Calls Try.prog 14 #[.string s] w (GivesOut (.bad 1 1 9) w) := by
  unfold maxLen at hm
  have h1 : (8192 : Int) < (s.size : Int) := by omega
  go_enter Try.func14, Try.ntmps14
  go_wp2
  go_step3
  go_wp2
  go_region
  go_wp2
  rw [Exit.noGoto_ret]
  exact bodyPost_ret (v := .tuple #[.slice none 0 0, .agg #[.int .i64 1, .int .i64 1], .int .i64 9]) (by simp [results, Try.results14, go_sem]) rfl
    (Or.inr ⟨1, 1, 9, rfl, by decide, rfl, drewN_below (((Below.refl w.heap.size w).alloc (Nat.le_refl _) _).alloc (by simp) _) 1⟩)

theorem clone_x (s : ByteArray) (w : World) (hs : s.size ≤ 8192) : Calls Try.prog 17 #[.string s] w fun e w' => e = .returned (.string s) ∧ Below w.heap.size w w' := by
  have H := Lib.hid (Try.stringslite_Clone s w (by omega))
  go_enter Try.func17, Try.ntmps17
  go_wp2_with fail
  refine H.out.mono ?_
  rintro e w' ⟨rfl, hB⟩
  go_wp2
  go_ret
  exact ⟨rfl, hB⟩
end Go.Proofs.Ytenobkhiekhohaa
