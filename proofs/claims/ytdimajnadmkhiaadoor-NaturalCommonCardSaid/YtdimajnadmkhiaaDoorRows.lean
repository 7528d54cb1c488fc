/-
  NARROWER THAN 'FOR EVERY INPUT', by the rows' own cells (each row's printed sentence says how): NaturalRaw: laid · NaturalBuilt: laid · NaturalCommon: laid.
  DERIVED. THE GIVEN ROWS OF THIS SEAT. 3 by the template 'for every input the law returns true; each argument reads behind the call as it read before'; 0 by the template 'total and deterministic' (their statements: YtdimajnadmkhiaaDoorTotals.lean).
  GIVEN WITH THE SEED: the statements are not yours to turn. If you find one false, say at which input.
  Laid BY PROGRAM, IN A SANDBOX (cutbox-rows.mjs): the forced cells as the released guide's own fill.sh prints them over the translation 3aecd40620167d3a… (all of the seat's roots in one cut). By AI agents, Wed Nov 11 2026. No macro, syntax, notation, axiom, sorry.
-/
import Derived.Test.YtdimajnadmkhiaaDoorChecked
import GoSem.Claim
import GoSem.ClaimJoined
import GoSem.ClaimMapViews
import Derived.JoinedTies
import Derived.KernelRfl
namespace Go.Proofs.YtdimajnadmkhiaaDoor
/- THE CELL 'sum', in the pinned program and in every row, IS THE sha256 OF THE DUMP (.gsa) THAT YtdimajnadmkhiaaDoorProg.lean LOADS. Nothing in Lean hashes anything: it is a label: what it is worth is what the hold of that sum in a sandbox is worth. -/
noncomputable def Tryd.pinned : Pinned := { name := "ytdimajnadmkhiaadoor", sum := "3aecd40620167d3a3613e7081ad4faeb47960459319f87f7ad3a6bbbf859fd6f", checked := Tryd.checked }
namespace Rows
def none {H : Type} : Left H := { results := [], args := [] }

/- WHAT THE LISTED PACKAGE-LEVEL VARIABLES READ AS WHEN THE CALL BEGINS. Each datum BY PROGRAM (the guide's laid-datum.mjs) off the statement by which the dump's own 'gosem.cut.vars' lays the variable. In a bare row this is a premise. The card (YtdimajnadmkhiaaDoorCards.lean) ties it to the program's text. -/
def laid_exactppl_natural_noStep {H : Type} : DataW H := .agg [.lit (.int .i64 1), .lit (.int .i64 0), .lit (.int .i64 0), .lit (.int .i64 1)]

/-- 'exactppllaw01.NaturalRaw': WHATEVER THE INPUT: true; the input reads as it did. -/
def naturalRawSpec : ChangeSpec := { name := "naturalRaw", fn := fun _ => fun
  | [d1, d2, d3, d4] => { results := [.lit (.bool true)], args := [d1, d2, d3, d4] }
  | _ => none }
def naturalRawRow : OpenClaim := { program := "ytdimajnadmkhiaadoor", sum := "3aecd40620167d3a3613e7081ad4faeb47960459319f87f7ad3a6bbbf859fd6f", func := "exactppl/exactppllaw01.NaturalRaw", spec := "naturalRaw", named := ["math/bits.overflowError", "exactppl/natural.noStep"], apart := false, laid := [("exactppl/natural.noStep", laid_exactppl_natural_noStep)] }
def NaturalRawSaid : Prop := naturalRawRow.holds Tryd.pinned (OpenSpec.ofChange naturalRawSpec)

/-- ITS FALSE NEIGHBOUR: 'it returns false'. Refute it at one input. -/
def naturalRawWrong : ChangeSpec := { name := "naturalRaw", fn := fun _ => fun
  | [d1, d2, d3, d4] => { results := [.lit (.bool false)], args := [d1, d2, d3, d4] }
  | _ => none }
def NaturalRawWrongFalsely : Prop := naturalRawRow.holds Tryd.pinned (OpenSpec.ofChange naturalRawWrong)

/-- 'exactppllaw01.NaturalBuilt': WHATEVER THE INPUT: true; the input reads as it did. -/
def naturalBuiltSpec : ChangeSpec := { name := "naturalBuilt", fn := fun _ => fun
  | [d] => { results := [.lit (.bool true)], args := [d] }
  | _ => none }
def naturalBuiltRow : OpenClaim := { program := "ytdimajnadmkhiaadoor", sum := "3aecd40620167d3a3613e7081ad4faeb47960459319f87f7ad3a6bbbf859fd6f", func := "exactppl/exactppllaw01.NaturalBuilt", spec := "naturalBuilt", named := ["math/bits.overflowError", "exactppl/natural.noStep"], apart := false, laid := [("exactppl/natural.noStep", laid_exactppl_natural_noStep)] }
def NaturalBuiltSaid : Prop := naturalBuiltRow.holds Tryd.pinned (OpenSpec.ofChange naturalBuiltSpec)

/-- ITS FALSE NEIGHBOUR: 'it returns false'. Refute it at one input. -/
def naturalBuiltWrong : ChangeSpec := { name := "naturalBuilt", fn := fun _ => fun
  | [d] => { results := [.lit (.bool false)], args := [d] }
  | _ => none }
def NaturalBuiltWrongFalsely : Prop := naturalBuiltRow.holds Tryd.pinned (OpenSpec.ofChange naturalBuiltWrong)

/-- 'exactppllaw01.NaturalCommon': WHATEVER THE INPUT: true; the input reads as it did. -/
def naturalCommonSpec : ChangeSpec := { name := "naturalCommon", fn := fun _ => fun
  | [d1, d2, d3] => { results := [.lit (.bool true)], args := [d1, d2, d3] }
  | _ => none }
def naturalCommonRow : OpenClaim := { program := "ytdimajnadmkhiaadoor", sum := "3aecd40620167d3a3613e7081ad4faeb47960459319f87f7ad3a6bbbf859fd6f", func := "exactppl/exactppllaw01.NaturalCommon", spec := "naturalCommon", named := ["math/bits.overflowError", "exactppl/natural.noStep"], apart := false, laid := [("exactppl/natural.noStep", laid_exactppl_natural_noStep)] }
def NaturalCommonSaid : Prop := naturalCommonRow.holds Tryd.pinned (OpenSpec.ofChange naturalCommonSpec)

/-- ITS FALSE NEIGHBOUR: 'it returns false'. Refute it at one input. -/
def naturalCommonWrong : ChangeSpec := { name := "naturalCommon", fn := fun _ => fun
  | [d1, d2, d3] => { results := [.lit (.bool false)], args := [d1, d2, d3] }
  | _ => none }
def NaturalCommonWrongFalsely : Prop := naturalCommonRow.holds Tryd.pinned (OpenSpec.ofChange naturalCommonWrong)

/- THE SECOND FORM. 'bulk': how many values and letters a reading holds, each counted each time it is reached (what is shared counts as often as it is met; a slice's spare places count too). A statement '..UptoSaid' is the law's where the arguments, and the package variables that the reading takes, are together of bulk at most 1048576: NARROWER than '..Said'. Prove '..Said' where nothing that the law and all that it calls make is longer than what came in: it says more and counts as full. Else prove '..UptoSaid'. A law counts once. -/
mutual
def uptoBulk {H : Type} : DataW H → Nat
  | .lit (.string bytes) => bytes.length + 1
  | .lit _ => 1
  | .nil => 1
  | .ptr d => uptoBulk d + 1
  | .slice elems spare => uptoBulkAll elems + uptoBulkAll spare + 1
  | .agg parts => uptoBulkAll parts + 1
  | .iface _ d => uptoBulk d + 1
  | .map entries => uptoBulkEntries entries + 1
  | .held _ => 1
def uptoBulkAll {H : Type} : List (DataW H) → Nat
  | [] => 0
  | d :: r => uptoBulk d + uptoBulkAll r
def uptoBulkEntries {H : Type} : List (Lit × DataW H) → Nat
  | [] => 0
  | x :: r => uptoBulkEntry x + uptoBulkEntries r
def uptoBulkEntry {H : Type} : Lit × DataW H → Nat
  | (.string bytes, d) => bytes.length + uptoBulk d + 1
  | (_, d) => uptoBulk d + 1
 end
def uptoSmall : (H : Type) → List (DataW H) → Bool := fun _ ds => decide (uptoBulkAll ds ≤ 1048576)
def OpenSpec.upto (s : _root_.Go.ChangeSpec) : _root_.Go.OpenSpec := { _root_.Go.OpenSpec.ofChange s with cond := some uptoSmall }

/-- 'exactppllaw01.NaturalRaw', WHERE WHAT IT READS IS OF BULK AT MOST 1048576: true; the input reads as it did. -/
def naturalRawUptoRow : OpenClaim := { program := "ytdimajnadmkhiaadoor", sum := "3aecd40620167d3a3613e7081ad4faeb47960459319f87f7ad3a6bbbf859fd6f", func := "exactppl/exactppllaw01.NaturalRaw", spec := "naturalRaw", named := ["math/bits.overflowError", "exactppl/natural.noStep"], apart := false, laid := [("exactppl/natural.noStep", laid_exactppl_natural_noStep)], narrowed := true }
def NaturalRawUptoSaid : Prop := naturalRawUptoRow.holds Tryd.pinned (OpenSpec.upto naturalRawSpec)

/-- 'exactppllaw01.NaturalBuilt', WHERE WHAT IT READS IS OF BULK AT MOST 1048576: true; the input reads as it did. -/
def naturalBuiltUptoRow : OpenClaim := { program := "ytdimajnadmkhiaadoor", sum := "3aecd40620167d3a3613e7081ad4faeb47960459319f87f7ad3a6bbbf859fd6f", func := "exactppl/exactppllaw01.NaturalBuilt", spec := "naturalBuilt", named := ["math/bits.overflowError", "exactppl/natural.noStep"], apart := false, laid := [("exactppl/natural.noStep", laid_exactppl_natural_noStep)], narrowed := true }
def NaturalBuiltUptoSaid : Prop := naturalBuiltUptoRow.holds Tryd.pinned (OpenSpec.upto naturalBuiltSpec)

/-- 'exactppllaw01.NaturalCommon', WHERE WHAT IT READS IS OF BULK AT MOST 1048576: true; the input reads as it did. -/
def naturalCommonUptoRow : OpenClaim := { program := "ytdimajnadmkhiaadoor", sum := "3aecd40620167d3a3613e7081ad4faeb47960459319f87f7ad3a6bbbf859fd6f", func := "exactppl/exactppllaw01.NaturalCommon", spec := "naturalCommon", named := ["math/bits.overflowError", "exactppl/natural.noStep"], apart := false, laid := [("exactppl/natural.noStep", laid_exactppl_natural_noStep)], narrowed := true }
def NaturalCommonUptoSaid : Prop := naturalCommonUptoRow.holds Tryd.pinned (OpenSpec.upto naturalCommonSpec)

end Rows
end Go.Proofs.YtdimajnadmkhiaaDoor
