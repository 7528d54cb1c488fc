/-
  NARROWER THAN 'FOR EVERY INPUT', by the rows' own cells (each row's printed sentence says how): NaturalRaw: laid · NaturalBuilt: laid · RationalNormal: laid · RationalField: laid · RationalOrder: laid · RationalTexts: laid · RationalDenotes: laid.
  DERIVED. THE GIVEN ROWS OF THIS SEAT. 7 by the template 'for every input the law returns true; each argument reads behind the call as it read before'; 0 by the template 'total and deterministic' (their statements: YthnmjaaelhcbpaaDoorTotals.lean).
  GIVEN WITH THE SEED: the statements are not yours to turn. If you find one false, say at which input.
  Laid BY PROGRAM, IN A SANDBOX (cutbox-rows.mjs): the forced cells as the released guide's own fill.sh prints them over the translation 943553d7239f4163… (all of the seat's roots in one cut). By AI agents, Wed Nov 11 2026. No macro, syntax, notation, axiom, sorry.
-/
import Derived.Test.YthnmjaaelhcbpaaDoorChecked
import GoSem.Claim
import GoSem.ClaimJoined
import GoSem.ClaimMapViews
import Derived.JoinedTies
import Derived.KernelRfl
namespace Go.Proofs.YthnmjaaelhcbpaaDoor
/- THE CELL 'sum', in the pinned program and in every row, IS THE sha256 OF THE DUMP (.gsa) THAT YthnmjaaelhcbpaaDoorProg.lean LOADS. Nothing in Lean hashes anything: it is a label: what it is worth is what the hold of that sum in a sandbox is worth. -/
noncomputable def Tryd.pinned : Pinned := { name := "ythnmjaaelhcbpaadoor", sum := "943553d7239f4163462e4cabd783571974b1a6a447ec7f5d886e910e43f9382f", checked := Tryd.checked }
namespace Rows
def none {H : Type} : Left H := { results := [], args := [] }

/- WHAT THE LISTED PACKAGE-LEVEL VARIABLES READ AS WHEN THE CALL BEGINS. Each datum BY PROGRAM (the guide's laid-datum.mjs) off the statement by which the dump's own 'gosem.cut.vars' lays the variable. In a bare row this is a premise. The card (YthnmjaaelhcbpaaDoorCards.lean) ties it to the program's text. -/
def laid_exactppl_natural_noStep {H : Type} : DataW H := .agg [.lit (.int .i64 1), .lit (.int .i64 0), .lit (.int .i64 0), .lit (.int .i64 1)]

/-- 'exactppllaw01.NaturalRaw': WHATEVER THE INPUT: true; the input reads as it did. -/
def naturalRawSpec : ChangeSpec := { name := "naturalRaw", fn := fun _ => fun
  | [d1, d2, d3, d4] => { results := [.lit (.bool true)], args := [d1, d2, d3, d4] }
  | _ => none }
def naturalRawRow : OpenClaim := { program := "ythnmjaaelhcbpaadoor", sum := "943553d7239f4163462e4cabd783571974b1a6a447ec7f5d886e910e43f9382f", func := "exactppl/exactppllaw01.NaturalRaw", spec := "naturalRaw", named := ["math/bits.overflowError", "exactppl/natural.noStep"], apart := false, laid := [("exactppl/natural.noStep", laid_exactppl_natural_noStep)] }
def NaturalRawSaid : Prop := naturalRawRow.holds Tryd.pinned (OpenSpec.ofChange naturalRawSpec)

/-- ITS FALSE NEIGHBOUR: 'it returns false'. Refute it at one input. -/
def naturalRawWrong : ChangeSpec := { name := "naturalRaw", fn := fun _ => fun
  | [d1, d2, d3, d4] => { results := [.lit (.bool false)], args := [d1, d2, d3, d4] }
  | _ => none }
def NaturalRawWrongFalsely : Prop := naturalRawRow.holds Tryd.pinned (OpenSpec.ofChange naturalRawWrong)

/-- 'exactppllaw01.NaturalBuilt': WHATEVER THE INPUT: true; the input reads as it did. -/
def naturalBuiltSpec : ChangeSpec := { name := "naturalBuilt", fn := fun _ => fun
  | [d] => { results := [.lit (.bool true)], args := [d] }
  | _ => none }
def naturalBuiltRow : OpenClaim := { program := "ythnmjaaelhcbpaadoor", sum := "943553d7239f4163462e4cabd783571974b1a6a447ec7f5d886e910e43f9382f", func := "exactppl/exactppllaw01.NaturalBuilt", spec := "naturalBuilt", named := ["math/bits.overflowError", "exactppl/natural.noStep"], apart := false, laid := [("exactppl/natural.noStep", laid_exactppl_natural_noStep)] }
def NaturalBuiltSaid : Prop := naturalBuiltRow.holds Tryd.pinned (OpenSpec.ofChange naturalBuiltSpec)

/-- ITS FALSE NEIGHBOUR: 'it returns false'. Refute it at one input. -/
def naturalBuiltWrong : ChangeSpec := { name := "naturalBuilt", fn := fun _ => fun
  | [d] => { results := [.lit (.bool false)], args := [d] }
  | _ => none }
def NaturalBuiltWrongFalsely : Prop := naturalBuiltRow.holds Tryd.pinned (OpenSpec.ofChange naturalBuiltWrong)

/-- 'exactppllaw02.RationalNormal': WHATEVER THE INPUT: true; the input reads as it did. -/
def rationalNormalSpec : ChangeSpec := { name := "rationalNormal", fn := fun _ => fun
  | [d1, d2] => { results := [.lit (.bool true)], args := [d1, d2] }
  | _ => none }
def rationalNormalRow : OpenClaim := { program := "ythnmjaaelhcbpaadoor", sum := "943553d7239f4163462e4cabd783571974b1a6a447ec7f5d886e910e43f9382f", func := "exactppl/exactppllaw02.RationalNormal", spec := "rationalNormal", named := ["exactppl/natural.noStep", "math/bits.overflowError"], apart := false, laid := [("exactppl/natural.noStep", laid_exactppl_natural_noStep)] }
def RationalNormalSaid : Prop := rationalNormalRow.holds Tryd.pinned (OpenSpec.ofChange rationalNormalSpec)

/-- ITS FALSE NEIGHBOUR: 'it returns false'. Refute it at one input. -/
def rationalNormalWrong : ChangeSpec := { name := "rationalNormal", fn := fun _ => fun
  | [d1, d2] => { results := [.lit (.bool false)], args := [d1, d2] }
  | _ => none }
def RationalNormalWrongFalsely : Prop := rationalNormalRow.holds Tryd.pinned (OpenSpec.ofChange rationalNormalWrong)

/-- 'exactppllaw02.RationalField': WHATEVER THE INPUT: true; the input reads as it did. -/
def rationalFieldSpec : ChangeSpec := { name := "rationalField", fn := fun _ => fun
  | [d] => { results := [.lit (.bool true)], args := [d] }
  | _ => none }
def rationalFieldRow : OpenClaim := { program := "ythnmjaaelhcbpaadoor", sum := "943553d7239f4163462e4cabd783571974b1a6a447ec7f5d886e910e43f9382f", func := "exactppl/exactppllaw02.RationalField", spec := "rationalField", named := ["exactppl/natural.noStep", "math/bits.overflowError"], apart := false, laid := [("exactppl/natural.noStep", laid_exactppl_natural_noStep)] }
def RationalFieldSaid : Prop := rationalFieldRow.holds Tryd.pinned (OpenSpec.ofChange rationalFieldSpec)

/-- ITS FALSE NEIGHBOUR: 'it returns false'. Refute it at one input. -/
def rationalFieldWrong : ChangeSpec := { name := "rationalField", fn := fun _ => fun
  | [d] => { results := [.lit (.bool false)], args := [d] }
  | _ => none }
def RationalFieldWrongFalsely : Prop := rationalFieldRow.holds Tryd.pinned (OpenSpec.ofChange rationalFieldWrong)

/-- 'exactppllaw02.RationalOrder': WHATEVER THE INPUT: true; the input reads as it did. -/
def rationalOrderSpec : ChangeSpec := { name := "rationalOrder", fn := fun _ => fun
  | [d] => { results := [.lit (.bool true)], args := [d] }
  | _ => none }
def rationalOrderRow : OpenClaim := { program := "ythnmjaaelhcbpaadoor", sum := "943553d7239f4163462e4cabd783571974b1a6a447ec7f5d886e910e43f9382f", func := "exactppl/exactppllaw02.RationalOrder", spec := "rationalOrder", named := ["exactppl/natural.noStep", "math/bits.overflowError"], apart := false, laid := [("exactppl/natural.noStep", laid_exactppl_natural_noStep)] }
def RationalOrderSaid : Prop := rationalOrderRow.holds Tryd.pinned (OpenSpec.ofChange rationalOrderSpec)

/-- ITS FALSE NEIGHBOUR: 'it returns false'. Refute it at one input. -/
def rationalOrderWrong : ChangeSpec := { name := "rationalOrder", fn := fun _ => fun
  | [d] => { results := [.lit (.bool false)], args := [d] }
  | _ => none }
def RationalOrderWrongFalsely : Prop := rationalOrderRow.holds Tryd.pinned (OpenSpec.ofChange rationalOrderWrong)

/-- 'exactppllaw02.RationalTexts': WHATEVER THE INPUT: true; the input reads as it did. -/
def rationalTextsSpec : ChangeSpec := { name := "rationalTexts", fn := fun _ => fun
  | [d] => { results := [.lit (.bool true)], args := [d] }
  | _ => none }
def rationalTextsRow : OpenClaim := { program := "ythnmjaaelhcbpaadoor", sum := "943553d7239f4163462e4cabd783571974b1a6a447ec7f5d886e910e43f9382f", func := "exactppl/exactppllaw02.RationalTexts", spec := "rationalTexts", inPlace := ["internal/bytealg.IndexByteString", "internal/bytealg.IndexString"], named := ["exactppl/natural.noStep", "math/bits.overflowError", "internal/bytealg.MaxLen"], apart := false, laid := [("exactppl/natural.noStep", laid_exactppl_natural_noStep)] }
def RationalTextsSaid : Prop := rationalTextsRow.holds Tryd.pinned (OpenSpec.ofChange rationalTextsSpec)

/-- ITS FALSE NEIGHBOUR: 'it returns false'. Refute it at one input. -/
def rationalTextsWrong : ChangeSpec := { name := "rationalTexts", fn := fun _ => fun
  | [d] => { results := [.lit (.bool false)], args := [d] }
  | _ => none }
def RationalTextsWrongFalsely : Prop := rationalTextsRow.holds Tryd.pinned (OpenSpec.ofChange rationalTextsWrong)

/-- 'exactppllaw02.RationalDenotes': WHATEVER THE INPUT: true; the input reads as it did. -/
def rationalDenotesSpec : ChangeSpec := { name := "rationalDenotes", fn := fun _ => fun
  | [d1, d2, d3] => { results := [.lit (.bool true)], args := [d1, d2, d3] }
  | _ => none }
def rationalDenotesRow : OpenClaim := { program := "ythnmjaaelhcbpaadoor", sum := "943553d7239f4163462e4cabd783571974b1a6a447ec7f5d886e910e43f9382f", func := "exactppl/exactppllaw02.RationalDenotes", spec := "rationalDenotes", named := ["exactppl/natural.noStep", "math/bits.overflowError"], apart := false, laid := [("exactppl/natural.noStep", laid_exactppl_natural_noStep)] }
def RationalDenotesSaid : Prop := rationalDenotesRow.holds Tryd.pinned (OpenSpec.ofChange rationalDenotesSpec)

/-- ITS FALSE NEIGHBOUR: 'it returns false'. Refute it at one input. -/
def rationalDenotesWrong : ChangeSpec := { name := "rationalDenotes", fn := fun _ => fun
  | [d1, d2, d3] => { results := [.lit (.bool false)], args := [d1, d2, d3] }
  | _ => none }
def RationalDenotesWrongFalsely : Prop := rationalDenotesRow.holds Tryd.pinned (OpenSpec.ofChange rationalDenotesWrong)

/- THE SECOND FORM. 'bulk': how many values and letters a reading holds, each counted each time it is reached (what is shared counts as often as it is met; a slice's spare places count too). A statement '..UptoSaid' is the law's where the arguments, and the package variables that the reading takes, are together of bulk at most 1048576: NARROWER than '..Said'. Prove '..Said' where nothing that the law and all that it calls make is longer than what came in: it says more and counts as full. Else prove '..UptoSaid'. A law counts once. -/
mutual
def uptoBulk {H : Type} : DataW H → Nat
  | .lit (.string bytes) => bytes.length + 1
  | .lit _ => 1
  | .nil => 1
  | .ptr d => uptoBulk d + 1
  | .slice elems spare => uptoBulkAll elems + uptoBulkAll spare + 1
  | .agg parts => uptoBulkAll parts + 1
  | .iface _ d => uptoBulk d + 1
  | .map entries => uptoBulkEntries entries + 1
  | .held _ => 1
def uptoBulkAll {H : Type} : List (DataW H) → Nat
  | [] => 0
  | d :: r => uptoBulk d + uptoBulkAll r
def uptoBulkEntries {H : Type} : List (Lit × DataW H) → Nat
  | [] => 0
  | x :: r => uptoBulkEntry x + uptoBulkEntries r
def uptoBulkEntry {H : Type} : Lit × DataW H → Nat
  | (.string bytes, d) => bytes.length + uptoBulk d + 1
  | (_, d) => uptoBulk d + 1
 end
def uptoSmall : (H : Type) → List (DataW H) → Bool := fun _ ds => decide (uptoBulkAll ds ≤ 1048576)
def OpenSpec.upto (s : _root_.Go.ChangeSpec) : _root_.Go.OpenSpec := { _root_.Go.OpenSpec.ofChange s with cond := some uptoSmall }

/-- 'exactppllaw01.NaturalRaw', WHERE WHAT IT READS IS OF BULK AT MOST 1048576: true; the input reads as it did. -/
def naturalRawUptoRow : OpenClaim := { program := "ythnmjaaelhcbpaadoor", sum := "943553d7239f4163462e4cabd783571974b1a6a447ec7f5d886e910e43f9382f", func := "exactppl/exactppllaw01.NaturalRaw", spec := "naturalRaw", named := ["math/bits.overflowError", "exactppl/natural.noStep"], apart := false, laid := [("exactppl/natural.noStep", laid_exactppl_natural_noStep)], narrowed := true }
def NaturalRawUptoSaid : Prop := naturalRawUptoRow.holds Tryd.pinned (OpenSpec.upto naturalRawSpec)

/-- 'exactppllaw01.NaturalBuilt', WHERE WHAT IT READS IS OF BULK AT MOST 1048576: true; the input reads as it did. -/
def naturalBuiltUptoRow : OpenClaim := { program := "ythnmjaaelhcbpaadoor", sum := "943553d7239f4163462e4cabd783571974b1a6a447ec7f5d886e910e43f9382f", func := "exactppl/exactppllaw01.NaturalBuilt", spec := "naturalBuilt", named := ["math/bits.overflowError", "exactppl/natural.noStep"], apart := false, laid := [("exactppl/natural.noStep", laid_exactppl_natural_noStep)], narrowed := true }
def NaturalBuiltUptoSaid : Prop := naturalBuiltUptoRow.holds Tryd.pinned (OpenSpec.upto naturalBuiltSpec)

/-- 'exactppllaw02.RationalNormal', WHERE WHAT IT READS IS OF BULK AT MOST 1048576: true; the input reads as it did. -/
def rationalNormalUptoRow : OpenClaim := { program := "ythnmjaaelhcbpaadoor", sum := "943553d7239f4163462e4cabd783571974b1a6a447ec7f5d886e910e43f9382f", func := "exactppl/exactppllaw02.RationalNormal", spec := "rationalNormal", named := ["exactppl/natural.noStep", "math/bits.overflowError"], apart := false, laid := [("exactppl/natural.noStep", laid_exactppl_natural_noStep)], narrowed := true }
def RationalNormalUptoSaid : Prop := rationalNormalUptoRow.holds Tryd.pinned (OpenSpec.upto rationalNormalSpec)

/-- 'exactppllaw02.RationalField', WHERE WHAT IT READS IS OF BULK AT MOST 1048576: true; the input reads as it did. -/
def rationalFieldUptoRow : OpenClaim := { program := "ythnmjaaelhcbpaadoor", sum := "943553d7239f4163462e4cabd783571974b1a6a447ec7f5d886e910e43f9382f", func := "exactppl/exactppllaw02.RationalField", spec := "rationalField", named := ["exactppl/natural.noStep", "math/bits.overflowError"], apart := false, laid := [("exactppl/natural.noStep", laid_exactppl_natural_noStep)], narrowed := true }
def RationalFieldUptoSaid : Prop := rationalFieldUptoRow.holds Tryd.pinned (OpenSpec.upto rationalFieldSpec)

/-- 'exactppllaw02.RationalOrder', WHERE WHAT IT READS IS OF BULK AT MOST 1048576: true; the input reads as it did. -/
def rationalOrderUptoRow : OpenClaim := { program := "ythnmjaaelhcbpaadoor", sum := "943553d7239f4163462e4cabd783571974b1a6a447ec7f5d886e910e43f9382f", func := "exactppl/exactppllaw02.RationalOrder", spec := "rationalOrder", named := ["exactppl/natural.noStep", "math/bits.overflowError"], apart := false, laid := [("exactppl/natural.noStep", laid_exactppl_natural_noStep)], narrowed := true }
def RationalOrderUptoSaid : Prop := rationalOrderUptoRow.holds Tryd.pinned (OpenSpec.upto rationalOrderSpec)

/-- 'exactppllaw02.RationalTexts', WHERE WHAT IT READS IS OF BULK AT MOST 1048576: true; the input reads as it did. -/
def rationalTextsUptoRow : OpenClaim := { program := "ythnmjaaelhcbpaadoor", sum := "943553d7239f4163462e4cabd783571974b1a6a447ec7f5d886e910e43f9382f", func := "exactppl/exactppllaw02.RationalTexts", spec := "rationalTexts", inPlace := ["internal/bytealg.IndexByteString", "internal/bytealg.IndexString"], named := ["exactppl/natural.noStep", "math/bits.overflowError", "internal/bytealg.MaxLen"], apart := false, laid := [("exactppl/natural.noStep", laid_exactppl_natural_noStep)], narrowed := true }
def RationalTextsUptoSaid : Prop := rationalTextsUptoRow.holds Tryd.pinned (OpenSpec.upto rationalTextsSpec)

/-- 'exactppllaw02.RationalDenotes', WHERE WHAT IT READS IS OF BULK AT MOST 1048576: true; the input reads as it did. -/
def rationalDenotesUptoRow : OpenClaim := { program := "ythnmjaaelhcbpaadoor", sum := "943553d7239f4163462e4cabd783571974b1a6a447ec7f5d886e910e43f9382f", func := "exactppl/exactppllaw02.RationalDenotes", spec := "rationalDenotes", named := ["exactppl/natural.noStep", "math/bits.overflowError"], apart := false, laid := [("exactppl/natural.noStep", laid_exactppl_natural_noStep)], narrowed := true }
def RationalDenotesUptoSaid : Prop := rationalDenotesUptoRow.holds Tryd.pinned (OpenSpec.upto rationalDenotesSpec)

end Rows
end Go.Proofs.YthnmjaaelhcbpaaDoor
