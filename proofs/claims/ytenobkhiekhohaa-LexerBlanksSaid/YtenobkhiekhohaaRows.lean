/-
  No cell of these rows narrows 'for every input' (looked for: loops, veiled, ifaces, maps, wideKeys, modest, calm, conditions, laid).
  DERIVED. THE GIVEN ROWS OF THIS SEAT. 5 by the template 'for every input the law returns true; each argument reads behind the call as it read before'; 0 by the template 'total and deterministic' (their statements: YtenobkhiekhohaaTotals.lean).
  GIVEN WITH THE SEED: the statements are not yours to turn. If you find one false, say at which input.
  Laid BY PROGRAM, IN A SANDBOX (cutbox-rows.mjs): the forced cells as the released guide's own fill.sh prints them over the translation 1bb5a9e08b583ae1… (all of the seat's roots in one cut). By AI agents, Wed Nov 11 2026. No macro, syntax, notation, axiom, sorry.
-/
import Derived.Test.YtenobkhiekhohaaChecked
import GoSem.Claim
import GoSem.ClaimJoined
import GoSem.ClaimMapViews
import Derived.JoinedTies
import Derived.KernelRfl
namespace Go.Proofs.Ytenobkhiekhohaa
/- THE CELL 'sum', in the pinned program and in every row, IS THE sha256 OF THE DUMP (.gsa) THAT YtenobkhiekhohaaProg.lean LOADS. Nothing in Lean hashes anything: it is a label: what it is worth is what the hold of that sum in a sandbox is worth. -/
noncomputable def Try.pinned : Pinned := { name := "ytenobkhiekhohaa", sum := "1bb5a9e08b583ae13e9a951d38112c6e801a0f832bf20208f20ed7e9dd688730", checked := Try.checked }
namespace Rows
def none {H : Type} : Left H := { results := [], args := [] }

/-- 'exactppllaw08.LexerRaw': WHATEVER THE INPUT: true; the input reads as it did. -/
def lexerRawSpec : ChangeSpec := { name := "lexerRaw", fn := fun _ => fun
  | [d] => { results := [.lit (.bool true)], args := [d] }
  | _ => none }
def lexerRawRow : OpenClaim := { program := "ytenobkhiekhohaa", sum := "1bb5a9e08b583ae13e9a951d38112c6e801a0f832bf20208f20ed7e9dd688730", func := "exactppl/exactppllaw08.LexerRaw", spec := "lexerRaw", unfollowed := true, recurses := true, apart := false }
def LexerRawSaid : Prop := lexerRawRow.holds Try.pinned (OpenSpec.ofChange lexerRawSpec)

/-- ITS FALSE NEIGHBOUR: 'it returns false'. Refute it at one input. -/
def lexerRawWrong : ChangeSpec := { name := "lexerRaw", fn := fun _ => fun
  | [d] => { results := [.lit (.bool false)], args := [d] }
  | _ => none }
def LexerRawWrongFalsely : Prop := lexerRawRow.holds Try.pinned (OpenSpec.ofChange lexerRawWrong)

/-- 'exactppllaw08.LexerBuilt': WHATEVER THE INPUT: true; the input reads as it did. -/
def lexerBuiltSpec : ChangeSpec := { name := "lexerBuilt", fn := fun _ => fun
  | [d] => { results := [.lit (.bool true)], args := [d] }
  | _ => none }
def lexerBuiltRow : OpenClaim := { program := "ytenobkhiekhohaa", sum := "1bb5a9e08b583ae13e9a951d38112c6e801a0f832bf20208f20ed7e9dd688730", func := "exactppl/exactppllaw08.LexerBuilt", spec := "lexerBuilt", unfollowed := true, recurses := true, apart := false }
def LexerBuiltSaid : Prop := lexerBuiltRow.holds Try.pinned (OpenSpec.ofChange lexerBuiltSpec)

/-- ITS FALSE NEIGHBOUR: 'it returns false'. Refute it at one input. -/
def lexerBuiltWrong : ChangeSpec := { name := "lexerBuilt", fn := fun _ => fun
  | [d] => { results := [.lit (.bool false)], args := [d] }
  | _ => none }
def LexerBuiltWrongFalsely : Prop := lexerBuiltRow.holds Try.pinned (OpenSpec.ofChange lexerBuiltWrong)

/-- 'exactppllaw08.LexerPlaces': WHATEVER THE INPUT: true; the input reads as it did. -/
def lexerPlacesSpec : ChangeSpec := { name := "lexerPlaces", fn := fun _ => fun
  | [d] => { results := [.lit (.bool true)], args := [d] }
  | _ => none }
def lexerPlacesRow : OpenClaim := { program := "ytenobkhiekhohaa", sum := "1bb5a9e08b583ae13e9a951d38112c6e801a0f832bf20208f20ed7e9dd688730", func := "exactppl/exactppllaw08.LexerPlaces", spec := "lexerPlaces", unfollowed := true, recurses := true, apart := false }
def LexerPlacesSaid : Prop := lexerPlacesRow.holds Try.pinned (OpenSpec.ofChange lexerPlacesSpec)

/-- ITS FALSE NEIGHBOUR: 'it returns false'. Refute it at one input. -/
def lexerPlacesWrong : ChangeSpec := { name := "lexerPlaces", fn := fun _ => fun
  | [d] => { results := [.lit (.bool false)], args := [d] }
  | _ => none }
def LexerPlacesWrongFalsely : Prop := lexerPlacesRow.holds Try.pinned (OpenSpec.ofChange lexerPlacesWrong)

/-- 'exactppllaw08.LexerBlanks': WHATEVER THE INPUT: true; the input reads as it did. -/
def lexerBlanksSpec : ChangeSpec := { name := "lexerBlanks", fn := fun _ => fun
  | [d1, d2] => { results := [.lit (.bool true)], args := [d1, d2] }
  | _ => none }
def lexerBlanksRow : OpenClaim := { program := "ytenobkhiekhohaa", sum := "1bb5a9e08b583ae13e9a951d38112c6e801a0f832bf20208f20ed7e9dd688730", func := "exactppl/exactppllaw08.LexerBlanks", spec := "lexerBlanks", unfollowed := true, recurses := true, apart := false }
def LexerBlanksSaid : Prop := lexerBlanksRow.holds Try.pinned (OpenSpec.ofChange lexerBlanksSpec)

/-- ITS FALSE NEIGHBOUR: 'it returns false'. Refute it at one input. -/
def lexerBlanksWrong : ChangeSpec := { name := "lexerBlanks", fn := fun _ => fun
  | [d1, d2] => { results := [.lit (.bool false)], args := [d1, d2] }
  | _ => none }
def LexerBlanksWrongFalsely : Prop := lexerBlanksRow.holds Try.pinned (OpenSpec.ofChange lexerBlanksWrong)

/-- 'exactppllaw08.LexerLimits': WHATEVER THE INPUT: true; the input reads as it did. -/
def lexerLimitsSpec : ChangeSpec := { name := "lexerLimits", fn := fun _ => fun
  | [d1, d2] => { results := [.lit (.bool true)], args := [d1, d2] }
  | _ => none }
def lexerLimitsRow : OpenClaim := { program := "ytenobkhiekhohaa", sum := "1bb5a9e08b583ae13e9a951d38112c6e801a0f832bf20208f20ed7e9dd688730", func := "exactppl/exactppllaw08.LexerLimits", spec := "lexerLimits", unfollowed := true, recurses := true, apart := false }
def LexerLimitsSaid : Prop := lexerLimitsRow.holds Try.pinned (OpenSpec.ofChange lexerLimitsSpec)

/-- ITS FALSE NEIGHBOUR: 'it returns false'. Refute it at one input. -/
def lexerLimitsWrong : ChangeSpec := { name := "lexerLimits", fn := fun _ => fun
  | [d1, d2] => { results := [.lit (.bool false)], args := [d1, d2] }
  | _ => none }
def LexerLimitsWrongFalsely : Prop := lexerLimitsRow.holds Try.pinned (OpenSpec.ofChange lexerLimitsWrong)

/- THE SECOND FORM. 'bulk': how many values and letters a reading holds, each counted each time it is reached (what is shared counts as often as it is met; a slice's spare places count too). A statement '..UptoSaid' is the law's where the arguments, and the package variables that the reading takes, are together of bulk at most 1048576: NARROWER than '..Said'. Prove '..Said' where nothing that the law and all that it calls make is longer than what came in: it says more and counts as full. Else prove '..UptoSaid'. A law counts once. -/
mutual
def uptoBulk {H : Type} : DataW H → Nat
  | .lit (.string bytes) => bytes.length + 1
  | .lit _ => 1
  | .nil => 1
  | .ptr d => uptoBulk d + 1
  | .slice elems spare => uptoBulkAll elems + uptoBulkAll spare + 1
  | .agg parts => uptoBulkAll parts + 1
  | .iface _ d => uptoBulk d + 1
  | .map entries => uptoBulkEntries entries + 1
  | .held _ => 1
def uptoBulkAll {H : Type} : List (DataW H) → Nat
  | [] => 0
  | d :: r => uptoBulk d + uptoBulkAll r
def uptoBulkEntries {H : Type} : List (Lit × DataW H) → Nat
  | [] => 0
  | x :: r => uptoBulkEntry x + uptoBulkEntries r
def uptoBulkEntry {H : Type} : Lit × DataW H → Nat
  | (.string bytes, d) => bytes.length + uptoBulk d + 1
  | (_, d) => uptoBulk d + 1
 end
def uptoSmall : (H : Type) → List (DataW H) → Bool := fun _ ds => decide (uptoBulkAll ds ≤ 1048576)
def OpenSpec.upto (s : _root_.Go.ChangeSpec) : _root_.Go.OpenSpec := { _root_.Go.OpenSpec.ofChange s with cond := some uptoSmall }

/-- 'exactppllaw08.LexerRaw', WHERE WHAT IT READS IS OF BULK AT MOST 1048576: true; the input reads as it did. -/
def lexerRawUptoRow : OpenClaim := { program := "ytenobkhiekhohaa", sum := "1bb5a9e08b583ae13e9a951d38112c6e801a0f832bf20208f20ed7e9dd688730", func := "exactppl/exactppllaw08.LexerRaw", spec := "lexerRaw", unfollowed := true, recurses := true, apart := false, narrowed := true }
def LexerRawUptoSaid : Prop := lexerRawUptoRow.holds Try.pinned (OpenSpec.upto lexerRawSpec)

/-- 'exactppllaw08.LexerBuilt', WHERE WHAT IT READS IS OF BULK AT MOST 1048576: true; the input reads as it did. -/
def lexerBuiltUptoRow : OpenClaim := { program := "ytenobkhiekhohaa", sum := "1bb5a9e08b583ae13e9a951d38112c6e801a0f832bf20208f20ed7e9dd688730", func := "exactppl/exactppllaw08.LexerBuilt", spec := "lexerBuilt", unfollowed := true, recurses := true, apart := false, narrowed := true }
def LexerBuiltUptoSaid : Prop := lexerBuiltUptoRow.holds Try.pinned (OpenSpec.upto lexerBuiltSpec)

/-- 'exactppllaw08.LexerPlaces', WHERE WHAT IT READS IS OF BULK AT MOST 1048576: true; the input reads as it did. -/
def lexerPlacesUptoRow : OpenClaim := { program := "ytenobkhiekhohaa", sum := "1bb5a9e08b583ae13e9a951d38112c6e801a0f832bf20208f20ed7e9dd688730", func := "exactppl/exactppllaw08.LexerPlaces", spec := "lexerPlaces", unfollowed := true, recurses := true, apart := false, narrowed := true }
def LexerPlacesUptoSaid : Prop := lexerPlacesUptoRow.holds Try.pinned (OpenSpec.upto lexerPlacesSpec)

/-- 'exactppllaw08.LexerBlanks', WHERE WHAT IT READS IS OF BULK AT MOST 1048576: true; the input reads as it did. -/
def lexerBlanksUptoRow : OpenClaim := { program := "ytenobkhiekhohaa", sum := "1bb5a9e08b583ae13e9a951d38112c6e801a0f832bf20208f20ed7e9dd688730", func := "exactppl/exactppllaw08.LexerBlanks", spec := "lexerBlanks", unfollowed := true, recurses := true, apart := false, narrowed := true }
def LexerBlanksUptoSaid : Prop := lexerBlanksUptoRow.holds Try.pinned (OpenSpec.upto lexerBlanksSpec)

/-- 'exactppllaw08.LexerLimits', WHERE WHAT IT READS IS OF BULK AT MOST 1048576: true; the input reads as it did. -/
def lexerLimitsUptoRow : OpenClaim := { program := "ytenobkhiekhohaa", sum := "1bb5a9e08b583ae13e9a951d38112c6e801a0f832bf20208f20ed7e9dd688730", func := "exactppl/exactppllaw08.LexerLimits", spec := "lexerLimits", unfollowed := true, recurses := true, apart := false, narrowed := true }
def LexerLimitsUptoSaid : Prop := lexerLimitsUptoRow.holds Try.pinned (OpenSpec.upto lexerLimitsSpec)

end Rows
end Go.Proofs.Ytenobkhiekhohaa
