/-
  NARROWER THAN 'FOR EVERY INPUT', by the rows' own cells (each row's printed sentence says how): RationalRaw: laid · RationalBuilt: laid · PolynomialRaw: laid · PolynomialBuilt: laid · PolynomialRing: laid · PolynomialEvaluates: laid · PolynomialDerives: laid · PolynomialCoefs: laid · PolynomialDivides: laid · PolynomialLimits: laid.
  DERIVED. THE GIVEN ROWS OF THIS SEAT. 10 by the template 'for every input the law returns true; each argument reads behind the call as it read before'; 0 by the template 'total and deterministic' (their statements: YtekalaihfmfkkaaGreatDoorTotals.lean).
  GIVEN WITH THE SEED: the statements are not yours to turn. If you find one false, say at which input.
  Laid BY PROGRAM, IN A SANDBOX (cutbox-rows.mjs): the forced cells as the released guide's own fill.sh prints them over the translation 14352a6b52cb4176… (all of the seat's roots in one cut). By AI agents, Wed Nov 11 2026. No macro, syntax, notation, axiom, sorry.
-/
import Derived.Test.YtekalaihfmfkkaaGreatDoorChecked
import GoSem.Claim
import GoSem.ClaimJoined
import GoSem.ClaimMapViews
import Derived.JoinedTies
import Derived.KernelRfl
namespace Go.Proofs.YtekalaihfmfkkaaGreatDoor
/- THE CELL 'sum', in the pinned program and in every row, IS THE sha256 OF THE DUMP (.gsa) THAT YtekalaihfmfkkaaGreatDoorProg.lean LOADS. Nothing in Lean hashes anything: it is a label: what it is worth is what the hold of that sum in a sandbox is worth. -/
noncomputable def Tryz.pinned : Pinned := { name := "ytekalaihfmfkkaagreatdoor", sum := "14352a6b52cb41769ee1737e87f2200211ceedfcc27d94d982f7d85508ad8652", checked := Tryz.checked }
namespace Rows
def none {H : Type} : Left H := { results := [], args := [] }

/- WHAT THE LISTED PACKAGE-LEVEL VARIABLES READ AS WHEN THE CALL BEGINS. Each datum BY PROGRAM (the guide's laid-datum.mjs) off the statement by which the dump's own 'gosem.cut.vars' lays the variable. In a bare row this is a premise. The card (YtekalaihfmfkkaaGreatDoorCards.lean) ties it to the program's text. -/
def laid_exactppl_natural_noStep {H : Type} : DataW H := .agg [.lit (.int .i64 1), .lit (.int .i64 0), .lit (.int .i64 0), .lit (.int .i64 1)]
def laid_math_bits_deBruijn32tab {H : Type} : DataW H := .agg [.lit (.int .u8 0), .lit (.int .u8 1), .lit (.int .u8 28), .lit (.int .u8 2), .lit (.int .u8 29), .lit (.int .u8 14), .lit (.int .u8 24), .lit (.int .u8 3), .lit (.int .u8 30), .lit (.int .u8 22), .lit (.int .u8 20), .lit (.int .u8 15), .lit (.int .u8 25), .lit (.int .u8 17), .lit (.int .u8 4), .lit (.int .u8 8), .lit (.int .u8 31), .lit (.int .u8 27), .lit (.int .u8 13), .lit (.int .u8 23), .lit (.int .u8 21), .lit (.int .u8 19), .lit (.int .u8 16), .lit (.int .u8 7), .lit (.int .u8 26), .lit (.int .u8 12), .lit (.int .u8 18), .lit (.int .u8 6), .lit (.int .u8 11), .lit (.int .u8 5), .lit (.int .u8 10), .lit (.int .u8 9)]
def laid_math_bits_deBruijn64tab {H : Type} : DataW H := .agg [.lit (.int .u8 0), .lit (.int .u8 1), .lit (.int .u8 56), .lit (.int .u8 2), .lit (.int .u8 57), .lit (.int .u8 49), .lit (.int .u8 28), .lit (.int .u8 3), .lit (.int .u8 61), .lit (.int .u8 58), .lit (.int .u8 42), .lit (.int .u8 50), .lit (.int .u8 38), .lit (.int .u8 29), .lit (.int .u8 17), .lit (.int .u8 4), .lit (.int .u8 62), .lit (.int .u8 47), .lit (.int .u8 59), .lit (.int .u8 36), .lit (.int .u8 45), .lit (.int .u8 43), .lit (.int .u8 51), .lit (.int .u8 22), .lit (.int .u8 53), .lit (.int .u8 39), .lit (.int .u8 33), .lit (.int .u8 30), .lit (.int .u8 24), .lit (.int .u8 18), .lit (.int .u8 12), .lit (.int .u8 5), .lit (.int .u8 63), .lit (.int .u8 55), .lit (.int .u8 48), .lit (.int .u8 27), .lit (.int .u8 60), .lit (.int .u8 41), .lit (.int .u8 37), .lit (.int .u8 16), .lit (.int .u8 46), .lit (.int .u8 35), .lit (.int .u8 44), .lit (.int .u8 21), .lit (.int .u8 52), .lit (.int .u8 32), .lit (.int .u8 23), .lit (.int .u8 11), .lit (.int .u8 54), .lit (.int .u8 26), .lit (.int .u8 40), .lit (.int .u8 15), .lit (.int .u8 34), .lit (.int .u8 20), .lit (.int .u8 31), .lit (.int .u8 10), .lit (.int .u8 25), .lit (.int .u8 14), .lit (.int .u8 19), .lit (.int .u8 9), .lit (.int .u8 13), .lit (.int .u8 8), .lit (.int .u8 7), .lit (.int .u8 6)]
def laid_internal_strconv_uint64pow10 {H : Type} : DataW H := .agg [.lit (.int .u64 1), .lit (.int .u64 10), .lit (.int .u64 100), .lit (.int .u64 1000), .lit (.int .u64 10000), .lit (.int .u64 100000), .lit (.int .u64 1000000), .lit (.int .u64 10000000), .lit (.int .u64 100000000), .lit (.int .u64 1000000000), .lit (.int .u64 10000000000), .lit (.int .u64 100000000000), .lit (.int .u64 1000000000000), .lit (.int .u64 10000000000000), .lit (.int .u64 100000000000000), .lit (.int .u64 1000000000000000), .lit (.int .u64 10000000000000000), .lit (.int .u64 100000000000000000), .lit (.int .u64 1000000000000000000), .lit (.int .u64 10000000000000000000)]

/-- 'exactppllaw02.RationalRaw': WHATEVER THE INPUT: true; the input reads as it did. -/
def rationalRawSpec : ChangeSpec := { name := "rationalRaw", fn := fun _ => fun
  | [d1, d2, d3, d4, d5, d6] => { results := [.lit (.bool true)], args := [d1, d2, d3, d4, d5, d6] }
  | _ => none }
def rationalRawRow : OpenClaim := { program := "ytekalaihfmfkkaagreatdoor", sum := "14352a6b52cb41769ee1737e87f2200211ceedfcc27d94d982f7d85508ad8652", func := "exactppl/exactppllaw02.RationalRaw", spec := "rationalRaw", inPlace := ["internal/bytealg.IndexByteString", "internal/bytealg.IndexString"], named := ["exactppl/natural.noStep", "math/bits.overflowError", "internal/bytealg.MaxLen"], plainKeys := false, apart := false, laid := [("exactppl/natural.noStep", laid_exactppl_natural_noStep)] }
def RationalRawSaid : Prop := rationalRawRow.holds Tryz.pinned (OpenSpec.ofChange rationalRawSpec)

/-- ITS FALSE NEIGHBOUR: 'it returns false'. Refute it at one input. -/
def rationalRawWrong : ChangeSpec := { name := "rationalRaw", fn := fun _ => fun
  | [d1, d2, d3, d4, d5, d6] => { results := [.lit (.bool false)], args := [d1, d2, d3, d4, d5, d6] }
  | _ => none }
def RationalRawWrongFalsely : Prop := rationalRawRow.holds Tryz.pinned (OpenSpec.ofChange rationalRawWrong)

/-- 'exactppllaw02.RationalBuilt': WHATEVER THE INPUT: true; the input reads as it did. -/
def rationalBuiltSpec : ChangeSpec := { name := "rationalBuilt", fn := fun _ => fun
  | [d1, d2, d3] => { results := [.lit (.bool true)], args := [d1, d2, d3] }
  | _ => none }
def rationalBuiltRow : OpenClaim := { program := "ytekalaihfmfkkaagreatdoor", sum := "14352a6b52cb41769ee1737e87f2200211ceedfcc27d94d982f7d85508ad8652", func := "exactppl/exactppllaw02.RationalBuilt", spec := "rationalBuilt", inPlace := ["internal/bytealg.IndexByteString", "internal/bytealg.IndexString"], named := ["exactppl/natural.noStep", "math/bits.overflowError", "internal/bytealg.MaxLen"], plainKeys := false, apart := false, laid := [("exactppl/natural.noStep", laid_exactppl_natural_noStep)] }
def RationalBuiltSaid : Prop := rationalBuiltRow.holds Tryz.pinned (OpenSpec.ofChange rationalBuiltSpec)

/-- ITS FALSE NEIGHBOUR: 'it returns false'. Refute it at one input. -/
def rationalBuiltWrong : ChangeSpec := { name := "rationalBuilt", fn := fun _ => fun
  | [d1, d2, d3] => { results := [.lit (.bool false)], args := [d1, d2, d3] }
  | _ => none }
def RationalBuiltWrongFalsely : Prop := rationalBuiltRow.holds Tryz.pinned (OpenSpec.ofChange rationalBuiltWrong)

/-- 'exactppllaw03.PolynomialRaw': WHATEVER THE INPUT: true; the input reads as it did. -/
def polynomialRawSpec : ChangeSpec := { name := "polynomialRaw", fn := fun _ => fun
  | [d1, d2, d3, d4, d5, d6] => { results := [.lit (.bool true)], args := [d1, d2, d3, d4, d5, d6] }
  | _ => none }
def polynomialRawRow : OpenClaim := { program := "ytekalaihfmfkkaagreatdoor", sum := "14352a6b52cb41769ee1737e87f2200211ceedfcc27d94d982f7d85508ad8652", func := "exactppl/exactppllaw03.PolynomialRaw", spec := "polynomialRaw", inPlace := ["slices.overlaps[string]", "internal/abi.NoEscape", "internal/bytealg.MakeNoZero"], unfollowed := true, recurses := true, named := ["exactppl/natural.noStep", "math/bits.overflowError", "internal/strconv.uint64pow10", "math/bits.deBruijn32tab", "math/bits.deBruijn64tab"], plainKeys := false, apart := false, laid := [("math/bits.deBruijn32tab", laid_math_bits_deBruijn32tab), ("math/bits.deBruijn64tab", laid_math_bits_deBruijn64tab), ("internal/strconv.uint64pow10", laid_internal_strconv_uint64pow10), ("exactppl/natural.noStep", laid_exactppl_natural_noStep)] }
def PolynomialRawSaid : Prop := polynomialRawRow.holds Tryz.pinned (OpenSpec.ofChange polynomialRawSpec)

/-- ITS FALSE NEIGHBOUR: 'it returns false'. Refute it at one input. -/
def polynomialRawWrong : ChangeSpec := { name := "polynomialRaw", fn := fun _ => fun
  | [d1, d2, d3, d4, d5, d6] => { results := [.lit (.bool false)], args := [d1, d2, d3, d4, d5, d6] }
  | _ => none }
def PolynomialRawWrongFalsely : Prop := polynomialRawRow.holds Tryz.pinned (OpenSpec.ofChange polynomialRawWrong)

/-- 'exactppllaw03.PolynomialBuilt': WHATEVER THE INPUT: true; the input reads as it did. -/
def polynomialBuiltSpec : ChangeSpec := { name := "polynomialBuilt", fn := fun _ => fun
  | [d] => { results := [.lit (.bool true)], args := [d] }
  | _ => none }
def polynomialBuiltRow : OpenClaim := { program := "ytekalaihfmfkkaagreatdoor", sum := "14352a6b52cb41769ee1737e87f2200211ceedfcc27d94d982f7d85508ad8652", func := "exactppl/exactppllaw03.PolynomialBuilt", spec := "polynomialBuilt", inPlace := ["slices.overlaps[string]", "internal/abi.NoEscape", "internal/bytealg.MakeNoZero"], unfollowed := true, recurses := true, named := ["exactppl/natural.noStep", "math/bits.overflowError", "internal/strconv.uint64pow10", "math/bits.deBruijn32tab", "math/bits.deBruijn64tab"], plainKeys := false, apart := false, laid := [("math/bits.deBruijn32tab", laid_math_bits_deBruijn32tab), ("math/bits.deBruijn64tab", laid_math_bits_deBruijn64tab), ("internal/strconv.uint64pow10", laid_internal_strconv_uint64pow10), ("exactppl/natural.noStep", laid_exactppl_natural_noStep)] }
def PolynomialBuiltSaid : Prop := polynomialBuiltRow.holds Tryz.pinned (OpenSpec.ofChange polynomialBuiltSpec)

/-- ITS FALSE NEIGHBOUR: 'it returns false'. Refute it at one input. -/
def polynomialBuiltWrong : ChangeSpec := { name := "polynomialBuilt", fn := fun _ => fun
  | [d] => { results := [.lit (.bool false)], args := [d] }
  | _ => none }
def PolynomialBuiltWrongFalsely : Prop := polynomialBuiltRow.holds Tryz.pinned (OpenSpec.ofChange polynomialBuiltWrong)

/-- 'exactppllaw03.PolynomialRing': WHATEVER THE INPUT: true; the input reads as it did. -/
def polynomialRingSpec : ChangeSpec := { name := "polynomialRing", fn := fun _ => fun
  | [d] => { results := [.lit (.bool true)], args := [d] }
  | _ => none }
def polynomialRingRow : OpenClaim := { program := "ytekalaihfmfkkaagreatdoor", sum := "14352a6b52cb41769ee1737e87f2200211ceedfcc27d94d982f7d85508ad8652", func := "exactppl/exactppllaw03.PolynomialRing", spec := "polynomialRing", inPlace := ["slices.overlaps[string]", "internal/abi.NoEscape", "internal/bytealg.MakeNoZero"], unfollowed := true, recurses := true, named := ["exactppl/natural.noStep", "math/bits.overflowError", "internal/strconv.uint64pow10", "math/bits.deBruijn32tab", "math/bits.deBruijn64tab"], plainKeys := false, apart := false, laid := [("math/bits.deBruijn32tab", laid_math_bits_deBruijn32tab), ("math/bits.deBruijn64tab", laid_math_bits_deBruijn64tab), ("internal/strconv.uint64pow10", laid_internal_strconv_uint64pow10), ("exactppl/natural.noStep", laid_exactppl_natural_noStep)] }
def PolynomialRingSaid : Prop := polynomialRingRow.holds Tryz.pinned (OpenSpec.ofChange polynomialRingSpec)

/-- ITS FALSE NEIGHBOUR: 'it returns false'. Refute it at one input. -/
def polynomialRingWrong : ChangeSpec := { name := "polynomialRing", fn := fun _ => fun
  | [d] => { results := [.lit (.bool false)], args := [d] }
  | _ => none }
def PolynomialRingWrongFalsely : Prop := polynomialRingRow.holds Tryz.pinned (OpenSpec.ofChange polynomialRingWrong)

/-- 'exactppllaw03.PolynomialEvaluates': WHATEVER THE INPUT: true; the input reads as it did. -/
def polynomialEvaluatesSpec : ChangeSpec := { name := "polynomialEvaluates", fn := fun _ => fun
  | [d1, d2] => { results := [.lit (.bool true)], args := [d1, d2] }
  | _ => none }
def polynomialEvaluatesRow : OpenClaim := { program := "ytekalaihfmfkkaagreatdoor", sum := "14352a6b52cb41769ee1737e87f2200211ceedfcc27d94d982f7d85508ad8652", func := "exactppl/exactppllaw03.PolynomialEvaluates", spec := "polynomialEvaluates", inPlace := ["slices.overlaps[string]", "internal/abi.NoEscape", "internal/bytealg.MakeNoZero"], unfollowed := true, recurses := true, named := ["exactppl/natural.noStep", "math/bits.overflowError", "internal/strconv.uint64pow10", "math/bits.deBruijn32tab", "math/bits.deBruijn64tab"], plainKeys := false, apart := false, laid := [("math/bits.deBruijn32tab", laid_math_bits_deBruijn32tab), ("math/bits.deBruijn64tab", laid_math_bits_deBruijn64tab), ("internal/strconv.uint64pow10", laid_internal_strconv_uint64pow10), ("exactppl/natural.noStep", laid_exactppl_natural_noStep)] }
def PolynomialEvaluatesSaid : Prop := polynomialEvaluatesRow.holds Tryz.pinned (OpenSpec.ofChange polynomialEvaluatesSpec)

/-- ITS FALSE NEIGHBOUR: 'it returns false'. Refute it at one input. -/
def polynomialEvaluatesWrong : ChangeSpec := { name := "polynomialEvaluates", fn := fun _ => fun
  | [d1, d2] => { results := [.lit (.bool false)], args := [d1, d2] }
  | _ => none }
def PolynomialEvaluatesWrongFalsely : Prop := polynomialEvaluatesRow.holds Tryz.pinned (OpenSpec.ofChange polynomialEvaluatesWrong)

/-- 'exactppllaw03.PolynomialDerives': WHATEVER THE INPUT: true; the input reads as it did. -/
def polynomialDerivesSpec : ChangeSpec := { name := "polynomialDerives", fn := fun _ => fun
  | [d1, d2, d3] => { results := [.lit (.bool true)], args := [d1, d2, d3] }
  | _ => none }
def polynomialDerivesRow : OpenClaim := { program := "ytekalaihfmfkkaagreatdoor", sum := "14352a6b52cb41769ee1737e87f2200211ceedfcc27d94d982f7d85508ad8652", func := "exactppl/exactppllaw03.PolynomialDerives", spec := "polynomialDerives", inPlace := ["slices.overlaps[string]", "internal/abi.NoEscape", "internal/bytealg.MakeNoZero"], unfollowed := true, recurses := true, named := ["exactppl/natural.noStep", "math/bits.overflowError", "internal/strconv.uint64pow10", "math/bits.deBruijn32tab", "math/bits.deBruijn64tab"], plainKeys := false, apart := false, laid := [("math/bits.deBruijn32tab", laid_math_bits_deBruijn32tab), ("math/bits.deBruijn64tab", laid_math_bits_deBruijn64tab), ("internal/strconv.uint64pow10", laid_internal_strconv_uint64pow10), ("exactppl/natural.noStep", laid_exactppl_natural_noStep)] }
def PolynomialDerivesSaid : Prop := polynomialDerivesRow.holds Tryz.pinned (OpenSpec.ofChange polynomialDerivesSpec)

/-- ITS FALSE NEIGHBOUR: 'it returns false'. Refute it at one input. -/
def polynomialDerivesWrong : ChangeSpec := { name := "polynomialDerives", fn := fun _ => fun
  | [d1, d2, d3] => { results := [.lit (.bool false)], args := [d1, d2, d3] }
  | _ => none }
def PolynomialDerivesWrongFalsely : Prop := polynomialDerivesRow.holds Tryz.pinned (OpenSpec.ofChange polynomialDerivesWrong)

/-- 'exactppllaw03.PolynomialCoefs': WHATEVER THE INPUT: true; the input reads as it did. -/
def polynomialCoefsSpec : ChangeSpec := { name := "polynomialCoefs", fn := fun _ => fun
  | [d1, d2] => { results := [.lit (.bool true)], args := [d1, d2] }
  | _ => none }
def polynomialCoefsRow : OpenClaim := { program := "ytekalaihfmfkkaagreatdoor", sum := "14352a6b52cb41769ee1737e87f2200211ceedfcc27d94d982f7d85508ad8652", func := "exactppl/exactppllaw03.PolynomialCoefs", spec := "polynomialCoefs", inPlace := ["slices.overlaps[string]", "internal/abi.NoEscape", "internal/bytealg.MakeNoZero"], unfollowed := true, recurses := true, named := ["exactppl/natural.noStep", "math/bits.overflowError", "internal/strconv.uint64pow10", "math/bits.deBruijn32tab", "math/bits.deBruijn64tab"], plainKeys := false, apart := false, laid := [("math/bits.deBruijn32tab", laid_math_bits_deBruijn32tab), ("math/bits.deBruijn64tab", laid_math_bits_deBruijn64tab), ("internal/strconv.uint64pow10", laid_internal_strconv_uint64pow10), ("exactppl/natural.noStep", laid_exactppl_natural_noStep)] }
def PolynomialCoefsSaid : Prop := polynomialCoefsRow.holds Tryz.pinned (OpenSpec.ofChange polynomialCoefsSpec)

/-- ITS FALSE NEIGHBOUR: 'it returns false'. Refute it at one input. -/
def polynomialCoefsWrong : ChangeSpec := { name := "polynomialCoefs", fn := fun _ => fun
  | [d1, d2] => { results := [.lit (.bool false)], args := [d1, d2] }
  | _ => none }
def PolynomialCoefsWrongFalsely : Prop := polynomialCoefsRow.holds Tryz.pinned (OpenSpec.ofChange polynomialCoefsWrong)

/-- 'exactppllaw03.PolynomialDivides': WHATEVER THE INPUT: true; the input reads as it did. -/
def polynomialDividesSpec : ChangeSpec := { name := "polynomialDivides", fn := fun _ => fun
  | [d] => { results := [.lit (.bool true)], args := [d] }
  | _ => none }
def polynomialDividesRow : OpenClaim := { program := "ytekalaihfmfkkaagreatdoor", sum := "14352a6b52cb41769ee1737e87f2200211ceedfcc27d94d982f7d85508ad8652", func := "exactppl/exactppllaw03.PolynomialDivides", spec := "polynomialDivides", inPlace := ["slices.overlaps[string]", "internal/abi.NoEscape", "internal/bytealg.MakeNoZero"], unfollowed := true, recurses := true, named := ["exactppl/natural.noStep", "math/bits.overflowError", "internal/strconv.uint64pow10", "math/bits.deBruijn32tab", "math/bits.deBruijn64tab"], plainKeys := false, apart := false, laid := [("math/bits.deBruijn32tab", laid_math_bits_deBruijn32tab), ("math/bits.deBruijn64tab", laid_math_bits_deBruijn64tab), ("internal/strconv.uint64pow10", laid_internal_strconv_uint64pow10), ("exactppl/natural.noStep", laid_exactppl_natural_noStep)] }
def PolynomialDividesSaid : Prop := polynomialDividesRow.holds Tryz.pinned (OpenSpec.ofChange polynomialDividesSpec)

/-- ITS FALSE NEIGHBOUR: 'it returns false'. Refute it at one input. -/
def polynomialDividesWrong : ChangeSpec := { name := "polynomialDivides", fn := fun _ => fun
  | [d] => { results := [.lit (.bool false)], args := [d] }
  | _ => none }
def PolynomialDividesWrongFalsely : Prop := polynomialDividesRow.holds Tryz.pinned (OpenSpec.ofChange polynomialDividesWrong)

/-- 'exactppllaw03.PolynomialLimits': WHATEVER THE INPUT: true; the input reads as it did. -/
def polynomialLimitsSpec : ChangeSpec := { name := "polynomialLimits", fn := fun _ => fun
  | [d] => { results := [.lit (.bool true)], args := [d] }
  | _ => none }
def polynomialLimitsRow : OpenClaim := { program := "ytekalaihfmfkkaagreatdoor", sum := "14352a6b52cb41769ee1737e87f2200211ceedfcc27d94d982f7d85508ad8652", func := "exactppl/exactppllaw03.PolynomialLimits", spec := "polynomialLimits", inPlace := ["slices.overlaps[string]", "internal/abi.NoEscape", "internal/bytealg.MakeNoZero"], unfollowed := true, recurses := true, named := ["exactppl/natural.noStep", "math/bits.overflowError", "internal/strconv.uint64pow10", "math/bits.deBruijn32tab", "math/bits.deBruijn64tab"], plainKeys := false, apart := false, laid := [("math/bits.deBruijn32tab", laid_math_bits_deBruijn32tab), ("math/bits.deBruijn64tab", laid_math_bits_deBruijn64tab), ("internal/strconv.uint64pow10", laid_internal_strconv_uint64pow10), ("exactppl/natural.noStep", laid_exactppl_natural_noStep)] }
def PolynomialLimitsSaid : Prop := polynomialLimitsRow.holds Tryz.pinned (OpenSpec.ofChange polynomialLimitsSpec)

/-- ITS FALSE NEIGHBOUR: 'it returns false'. Refute it at one input. -/
def polynomialLimitsWrong : ChangeSpec := { name := "polynomialLimits", fn := fun _ => fun
  | [d] => { results := [.lit (.bool false)], args := [d] }
  | _ => none }
def PolynomialLimitsWrongFalsely : Prop := polynomialLimitsRow.holds Tryz.pinned (OpenSpec.ofChange polynomialLimitsWrong)

/- THE SECOND FORM. 'bulk': how many values and letters a reading holds, each counted each time it is reached (what is shared counts as often as it is met; a slice's spare places count too). A statement '..UptoSaid' is the law's where the arguments, and the package variables that the reading takes, are together of bulk at most 1048576: NARROWER than '..Said'. Prove '..Said' where nothing that the law and all that it calls make is longer than what came in: it says more and counts as full. Else prove '..UptoSaid'. A law counts once. -/
mutual
def uptoBulk {H : Type} : DataW H → Nat
  | .lit (.string bytes) => bytes.length + 1
  | .lit _ => 1
  | .nil => 1
  | .ptr d => uptoBulk d + 1
  | .slice elems spare => uptoBulkAll elems + uptoBulkAll spare + 1
  | .agg parts => uptoBulkAll parts + 1
  | .iface _ d => uptoBulk d + 1
  | .map entries => uptoBulkEntries entries + 1
  | .held _ => 1
def uptoBulkAll {H : Type} : List (DataW H) → Nat
  | [] => 0
  | d :: r => uptoBulk d + uptoBulkAll r
def uptoBulkEntries {H : Type} : List (Lit × DataW H) → Nat
  | [] => 0
  | x :: r => uptoBulkEntry x + uptoBulkEntries r
def uptoBulkEntry {H : Type} : Lit × DataW H → Nat
  | (.string bytes, d) => bytes.length + uptoBulk d + 1
  | (_, d) => uptoBulk d + 1
 end
def uptoSmall : (H : Type) → List (DataW H) → Bool := fun _ ds => decide (uptoBulkAll ds ≤ 1048576)
def OpenSpec.upto (s : _root_.Go.ChangeSpec) : _root_.Go.OpenSpec := { _root_.Go.OpenSpec.ofChange s with cond := some uptoSmall }

/-- 'exactppllaw02.RationalRaw', WHERE WHAT IT READS IS OF BULK AT MOST 1048576: true; the input reads as it did. -/
def rationalRawUptoRow : OpenClaim := { program := "ytekalaihfmfkkaagreatdoor", sum := "14352a6b52cb41769ee1737e87f2200211ceedfcc27d94d982f7d85508ad8652", func := "exactppl/exactppllaw02.RationalRaw", spec := "rationalRaw", inPlace := ["internal/bytealg.IndexByteString", "internal/bytealg.IndexString"], named := ["exactppl/natural.noStep", "math/bits.overflowError", "internal/bytealg.MaxLen"], plainKeys := false, apart := false, laid := [("exactppl/natural.noStep", laid_exactppl_natural_noStep)], narrowed := true }
def RationalRawUptoSaid : Prop := rationalRawUptoRow.holds Tryz.pinned (OpenSpec.upto rationalRawSpec)

/-- 'exactppllaw02.RationalBuilt', WHERE WHAT IT READS IS OF BULK AT MOST 1048576: true; the input reads as it did. -/
def rationalBuiltUptoRow : OpenClaim := { program := "ytekalaihfmfkkaagreatdoor", sum := "14352a6b52cb41769ee1737e87f2200211ceedfcc27d94d982f7d85508ad8652", func := "exactppl/exactppllaw02.RationalBuilt", spec := "rationalBuilt", inPlace := ["internal/bytealg.IndexByteString", "internal/bytealg.IndexString"], named := ["exactppl/natural.noStep", "math/bits.overflowError", "internal/bytealg.MaxLen"], plainKeys := false, apart := false, laid := [("exactppl/natural.noStep", laid_exactppl_natural_noStep)], narrowed := true }
def RationalBuiltUptoSaid : Prop := rationalBuiltUptoRow.holds Tryz.pinned (OpenSpec.upto rationalBuiltSpec)

/-- 'exactppllaw03.PolynomialRaw', WHERE WHAT IT READS IS OF BULK AT MOST 1048576: true; the input reads as it did. -/
def polynomialRawUptoRow : OpenClaim := { program := "ytekalaihfmfkkaagreatdoor", sum := "14352a6b52cb41769ee1737e87f2200211ceedfcc27d94d982f7d85508ad8652", func := "exactppl/exactppllaw03.PolynomialRaw", spec := "polynomialRaw", inPlace := ["slices.overlaps[string]", "internal/abi.NoEscape", "internal/bytealg.MakeNoZero"], unfollowed := true, recurses := true, named := ["exactppl/natural.noStep", "math/bits.overflowError", "internal/strconv.uint64pow10", "math/bits.deBruijn32tab", "math/bits.deBruijn64tab"], plainKeys := false, apart := false, laid := [("math/bits.deBruijn32tab", laid_math_bits_deBruijn32tab), ("math/bits.deBruijn64tab", laid_math_bits_deBruijn64tab), ("internal/strconv.uint64pow10", laid_internal_strconv_uint64pow10), ("exactppl/natural.noStep", laid_exactppl_natural_noStep)], narrowed := true }
def PolynomialRawUptoSaid : Prop := polynomialRawUptoRow.holds Tryz.pinned (OpenSpec.upto polynomialRawSpec)

/-- 'exactppllaw03.PolynomialBuilt', WHERE WHAT IT READS IS OF BULK AT MOST 1048576: true; the input reads as it did. -/
def polynomialBuiltUptoRow : OpenClaim := { program := "ytekalaihfmfkkaagreatdoor", sum := "14352a6b52cb41769ee1737e87f2200211ceedfcc27d94d982f7d85508ad8652", func := "exactppl/exactppllaw03.PolynomialBuilt", spec := "polynomialBuilt", inPlace := ["slices.overlaps[string]", "internal/abi.NoEscape", "internal/bytealg.MakeNoZero"], unfollowed := true, recurses := true, named := ["exactppl/natural.noStep", "math/bits.overflowError", "internal/strconv.uint64pow10", "math/bits.deBruijn32tab", "math/bits.deBruijn64tab"], plainKeys := false, apart := false, laid := [("math/bits.deBruijn32tab", laid_math_bits_deBruijn32tab), ("math/bits.deBruijn64tab", laid_math_bits_deBruijn64tab), ("internal/strconv.uint64pow10", laid_internal_strconv_uint64pow10), ("exactppl/natural.noStep", laid_exactppl_natural_noStep)], narrowed := true }
def PolynomialBuiltUptoSaid : Prop := polynomialBuiltUptoRow.holds Tryz.pinned (OpenSpec.upto polynomialBuiltSpec)

/-- 'exactppllaw03.PolynomialRing', WHERE WHAT IT READS IS OF BULK AT MOST 1048576: true; the input reads as it did. -/
def polynomialRingUptoRow : OpenClaim := { program := "ytekalaihfmfkkaagreatdoor", sum := "14352a6b52cb41769ee1737e87f2200211ceedfcc27d94d982f7d85508ad8652", func := "exactppl/exactppllaw03.PolynomialRing", spec := "polynomialRing", inPlace := ["slices.overlaps[string]", "internal/abi.NoEscape", "internal/bytealg.MakeNoZero"], unfollowed := true, recurses := true, named := ["exactppl/natural.noStep", "math/bits.overflowError", "internal/strconv.uint64pow10", "math/bits.deBruijn32tab", "math/bits.deBruijn64tab"], plainKeys := false, apart := false, laid := [("math/bits.deBruijn32tab", laid_math_bits_deBruijn32tab), ("math/bits.deBruijn64tab", laid_math_bits_deBruijn64tab), ("internal/strconv.uint64pow10", laid_internal_strconv_uint64pow10), ("exactppl/natural.noStep", laid_exactppl_natural_noStep)], narrowed := true }
def PolynomialRingUptoSaid : Prop := polynomialRingUptoRow.holds Tryz.pinned (OpenSpec.upto polynomialRingSpec)

/-- 'exactppllaw03.PolynomialEvaluates', WHERE WHAT IT READS IS OF BULK AT MOST 1048576: true; the input reads as it did. -/
def polynomialEvaluatesUptoRow : OpenClaim := { program := "ytekalaihfmfkkaagreatdoor", sum := "14352a6b52cb41769ee1737e87f2200211ceedfcc27d94d982f7d85508ad8652", func := "exactppl/exactppllaw03.PolynomialEvaluates", spec := "polynomialEvaluates", inPlace := ["slices.overlaps[string]", "internal/abi.NoEscape", "internal/bytealg.MakeNoZero"], unfollowed := true, recurses := true, named := ["exactppl/natural.noStep", "math/bits.overflowError", "internal/strconv.uint64pow10", "math/bits.deBruijn32tab", "math/bits.deBruijn64tab"], plainKeys := false, apart := false, laid := [("math/bits.deBruijn32tab", laid_math_bits_deBruijn32tab), ("math/bits.deBruijn64tab", laid_math_bits_deBruijn64tab), ("internal/strconv.uint64pow10", laid_internal_strconv_uint64pow10), ("exactppl/natural.noStep", laid_exactppl_natural_noStep)], narrowed := true }
def PolynomialEvaluatesUptoSaid : Prop := polynomialEvaluatesUptoRow.holds Tryz.pinned (OpenSpec.upto polynomialEvaluatesSpec)

/-- 'exactppllaw03.PolynomialDerives', WHERE WHAT IT READS IS OF BULK AT MOST 1048576: true; the input reads as it did. -/
def polynomialDerivesUptoRow : OpenClaim := { program := "ytekalaihfmfkkaagreatdoor", sum := "14352a6b52cb41769ee1737e87f2200211ceedfcc27d94d982f7d85508ad8652", func := "exactppl/exactppllaw03.PolynomialDerives", spec := "polynomialDerives", inPlace := ["slices.overlaps[string]", "internal/abi.NoEscape", "internal/bytealg.MakeNoZero"], unfollowed := true, recurses := true, named := ["exactppl/natural.noStep", "math/bits.overflowError", "internal/strconv.uint64pow10", "math/bits.deBruijn32tab", "math/bits.deBruijn64tab"], plainKeys := false, apart := false, laid := [("math/bits.deBruijn32tab", laid_math_bits_deBruijn32tab), ("math/bits.deBruijn64tab", laid_math_bits_deBruijn64tab), ("internal/strconv.uint64pow10", laid_internal_strconv_uint64pow10), ("exactppl/natural.noStep", laid_exactppl_natural_noStep)], narrowed := true }
def PolynomialDerivesUptoSaid : Prop := polynomialDerivesUptoRow.holds Tryz.pinned (OpenSpec.upto polynomialDerivesSpec)

/-- 'exactppllaw03.PolynomialCoefs', WHERE WHAT IT READS IS OF BULK AT MOST 1048576: true; the input reads as it did. -/
def polynomialCoefsUptoRow : OpenClaim := { program := "ytekalaihfmfkkaagreatdoor", sum := "14352a6b52cb41769ee1737e87f2200211ceedfcc27d94d982f7d85508ad8652", func := "exactppl/exactppllaw03.PolynomialCoefs", spec := "polynomialCoefs", inPlace := ["slices.overlaps[string]", "internal/abi.NoEscape", "internal/bytealg.MakeNoZero"], unfollowed := true, recurses := true, named := ["exactppl/natural.noStep", "math/bits.overflowError", "internal/strconv.uint64pow10", "math/bits.deBruijn32tab", "math/bits.deBruijn64tab"], plainKeys := false, apart := false, laid := [("math/bits.deBruijn32tab", laid_math_bits_deBruijn32tab), ("math/bits.deBruijn64tab", laid_math_bits_deBruijn64tab), ("internal/strconv.uint64pow10", laid_internal_strconv_uint64pow10), ("exactppl/natural.noStep", laid_exactppl_natural_noStep)], narrowed := true }
def PolynomialCoefsUptoSaid : Prop := polynomialCoefsUptoRow.holds Tryz.pinned (OpenSpec.upto polynomialCoefsSpec)

/-- 'exactppllaw03.PolynomialDivides', WHERE WHAT IT READS IS OF BULK AT MOST 1048576: true; the input reads as it did. -/
def polynomialDividesUptoRow : OpenClaim := { program := "ytekalaihfmfkkaagreatdoor", sum := "14352a6b52cb41769ee1737e87f2200211ceedfcc27d94d982f7d85508ad8652", func := "exactppl/exactppllaw03.PolynomialDivides", spec := "polynomialDivides", inPlace := ["slices.overlaps[string]", "internal/abi.NoEscape", "internal/bytealg.MakeNoZero"], unfollowed := true, recurses := true, named := ["exactppl/natural.noStep", "math/bits.overflowError", "internal/strconv.uint64pow10", "math/bits.deBruijn32tab", "math/bits.deBruijn64tab"], plainKeys := false, apart := false, laid := [("math/bits.deBruijn32tab", laid_math_bits_deBruijn32tab), ("math/bits.deBruijn64tab", laid_math_bits_deBruijn64tab), ("internal/strconv.uint64pow10", laid_internal_strconv_uint64pow10), ("exactppl/natural.noStep", laid_exactppl_natural_noStep)], narrowed := true }
def PolynomialDividesUptoSaid : Prop := polynomialDividesUptoRow.holds Tryz.pinned (OpenSpec.upto polynomialDividesSpec)

/-- 'exactppllaw03.PolynomialLimits', WHERE WHAT IT READS IS OF BULK AT MOST 1048576: true; the input reads as it did. -/
def polynomialLimitsUptoRow : OpenClaim := { program := "ytekalaihfmfkkaagreatdoor", sum := "14352a6b52cb41769ee1737e87f2200211ceedfcc27d94d982f7d85508ad8652", func := "exactppl/exactppllaw03.PolynomialLimits", spec := "polynomialLimits", inPlace := ["slices.overlaps[string]", "internal/abi.NoEscape", "internal/bytealg.MakeNoZero"], unfollowed := true, recurses := true, named := ["exactppl/natural.noStep", "math/bits.overflowError", "internal/strconv.uint64pow10", "math/bits.deBruijn32tab", "math/bits.deBruijn64tab"], plainKeys := false, apart := false, laid := [("math/bits.deBruijn32tab", laid_math_bits_deBruijn32tab), ("math/bits.deBruijn64tab", laid_math_bits_deBruijn64tab), ("internal/strconv.uint64pow10", laid_internal_strconv_uint64pow10), ("exactppl/natural.noStep", laid_exactppl_natural_noStep)], narrowed := true }
def PolynomialLimitsUptoSaid : Prop := polynomialLimitsUptoRow.holds Tryz.pinned (OpenSpec.upto polynomialLimitsSpec)

end Rows
end Go.Proofs.YtekalaihfmfkkaaGreatDoor
