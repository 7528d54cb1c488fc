/-
  DERIVED. GIVEN WITH THE SEED: THE CARDS: each row of YthnmjaaelhcbpaaDoorRows.lean that lists a variable, with what it lists TIED to the program's text (the seventh form; the later family's looks); each row that meets fmt, with fmt's text TOLD by the authors' own Lean function (tested against real Go, not proved from fmt's source: count such statements apart). THE CARD IS WHAT COUNTS. Prove the row's statement (the work); the ties are given (YthnmjaaelhcbpaaDoorTie.lean); close each card by the builder's one call (the guide's Derived/Test/ToyasCard.lean, 'card_holds'). Laid BY PROGRAM, IN A SANDBOX (cutbox-door.mjs). By AI agents, Wed Nov 11 2026. No macro, syntax, notation, axiom, sorry.
-/
import Derived.Test.YthnmjaaelhcbpaaDoorRows
import GoSem.ClaimSeven
namespace Go.Proofs.YthnmjaaelhcbpaaDoor
namespace Rows

/-- THE TIED CARD OF 'exactppllaw01.NaturalRaw'. -/
def naturalRawCard : Claim7 := { stood := { row := naturalRawRow, standIns := [], harness := (true, "f8c1254585824f6120bb1df0b6ea4762e6a17c8d33d5d3aaa7834147d1e26e00"), looks := false }, kinds := [], alts := [], laidByText := true, laidKinds := [.data], laidTests := true, laidLooks := .later }
def NaturalRawCardSaid : Prop := Claim7.holds Tryd.pinned (.plain (OpenSpec.ofChange naturalRawSpec)) naturalRawCard

/-- THE TIED CARD OF 'exactppllaw01.NaturalBuilt'. -/
def naturalBuiltCard : Claim7 := { stood := { row := naturalBuiltRow, standIns := [], harness := (true, "f8c1254585824f6120bb1df0b6ea4762e6a17c8d33d5d3aaa7834147d1e26e00"), looks := false }, kinds := [], alts := [], laidByText := true, laidKinds := [.data], laidTests := true, laidLooks := .later }
def NaturalBuiltCardSaid : Prop := Claim7.holds Tryd.pinned (.plain (OpenSpec.ofChange naturalBuiltSpec)) naturalBuiltCard

/-- THE TIED CARD OF 'exactppllaw02.RationalNormal'. -/
def rationalNormalCard : Claim7 := { stood := { row := rationalNormalRow, standIns := [], harness := (true, "f8c1254585824f6120bb1df0b6ea4762e6a17c8d33d5d3aaa7834147d1e26e00"), looks := false }, kinds := [], alts := [], laidByText := true, laidKinds := [.data], laidTests := true, laidLooks := .later }
def RationalNormalCardSaid : Prop := Claim7.holds Tryd.pinned (.plain (OpenSpec.ofChange rationalNormalSpec)) rationalNormalCard

/-- THE TIED CARD OF 'exactppllaw02.RationalField'. -/
def rationalFieldCard : Claim7 := { stood := { row := rationalFieldRow, standIns := [], harness := (true, "f8c1254585824f6120bb1df0b6ea4762e6a17c8d33d5d3aaa7834147d1e26e00"), looks := false }, kinds := [], alts := [], laidByText := true, laidKinds := [.data], laidTests := true, laidLooks := .later }
def RationalFieldCardSaid : Prop := Claim7.holds Tryd.pinned (.plain (OpenSpec.ofChange rationalFieldSpec)) rationalFieldCard

/-- THE TIED CARD OF 'exactppllaw02.RationalOrder'. -/
def rationalOrderCard : Claim7 := { stood := { row := rationalOrderRow, standIns := [], harness := (true, "f8c1254585824f6120bb1df0b6ea4762e6a17c8d33d5d3aaa7834147d1e26e00"), looks := false }, kinds := [], alts := [], laidByText := true, laidKinds := [.data], laidTests := true, laidLooks := .later }
def RationalOrderCardSaid : Prop := Claim7.holds Tryd.pinned (.plain (OpenSpec.ofChange rationalOrderSpec)) rationalOrderCard

/-- THE TIED CARD OF 'exactppllaw02.RationalTexts'. -/
def rationalTextsCard : Claim7 := { stood := { row := rationalTextsRow, standIns := [], harness := (true, "f8c1254585824f6120bb1df0b6ea4762e6a17c8d33d5d3aaa7834147d1e26e00"), looks := false }, kinds := [], alts := [], laidByText := true, laidKinds := [.data], laidTests := true, laidLooks := .later }
def RationalTextsCardSaid : Prop := Claim7.holds Tryd.pinned (.plain (OpenSpec.ofChange rationalTextsSpec)) rationalTextsCard

/-- THE TIED CARD OF 'exactppllaw02.RationalDenotes'. -/
def rationalDenotesCard : Claim7 := { stood := { row := rationalDenotesRow, standIns := [], harness := (true, "f8c1254585824f6120bb1df0b6ea4762e6a17c8d33d5d3aaa7834147d1e26e00"), looks := false }, kinds := [], alts := [], laidByText := true, laidKinds := [.data], laidTests := true, laidLooks := .later }
def RationalDenotesCardSaid : Prop := Claim7.holds Tryd.pinned (.plain (OpenSpec.ofChange rationalDenotesSpec)) rationalDenotesCard

/-- THE SECOND FORM's CARD OF 'exactppllaw01.NaturalRaw'. -/
def naturalRawUptoCard : Claim7 := { stood := { row := naturalRawUptoRow, standIns := [], harness := (true, "f8c1254585824f6120bb1df0b6ea4762e6a17c8d33d5d3aaa7834147d1e26e00"), looks := false }, kinds := [], alts := [], laidByText := true, laidKinds := [.data], laidTests := true, laidLooks := .later }
def NaturalRawUptoCardSaid : Prop := Claim7.holds Tryd.pinned (.plain (OpenSpec.upto naturalRawSpec)) naturalRawUptoCard

/-- THE SECOND FORM's CARD OF 'exactppllaw01.NaturalBuilt'. -/
def naturalBuiltUptoCard : Claim7 := { stood := { row := naturalBuiltUptoRow, standIns := [], harness := (true, "f8c1254585824f6120bb1df0b6ea4762e6a17c8d33d5d3aaa7834147d1e26e00"), looks := false }, kinds := [], alts := [], laidByText := true, laidKinds := [.data], laidTests := true, laidLooks := .later }
def NaturalBuiltUptoCardSaid : Prop := Claim7.holds Tryd.pinned (.plain (OpenSpec.upto naturalBuiltSpec)) naturalBuiltUptoCard

/-- THE SECOND FORM's CARD OF 'exactppllaw02.RationalNormal'. -/
def rationalNormalUptoCard : Claim7 := { stood := { row := rationalNormalUptoRow, standIns := [], harness := (true, "f8c1254585824f6120bb1df0b6ea4762e6a17c8d33d5d3aaa7834147d1e26e00"), looks := false }, kinds := [], alts := [], laidByText := true, laidKinds := [.data], laidTests := true, laidLooks := .later }
def RationalNormalUptoCardSaid : Prop := Claim7.holds Tryd.pinned (.plain (OpenSpec.upto rationalNormalSpec)) rationalNormalUptoCard

/-- THE SECOND FORM's CARD OF 'exactppllaw02.RationalField'. -/
def rationalFieldUptoCard : Claim7 := { stood := { row := rationalFieldUptoRow, standIns := [], harness := (true, "f8c1254585824f6120bb1df0b6ea4762e6a17c8d33d5d3aaa7834147d1e26e00"), looks := false }, kinds := [], alts := [], laidByText := true, laidKinds := [.data], laidTests := true, laidLooks := .later }
def RationalFieldUptoCardSaid : Prop := Claim7.holds Tryd.pinned (.plain (OpenSpec.upto rationalFieldSpec)) rationalFieldUptoCard

/-- THE SECOND FORM's CARD OF 'exactppllaw02.RationalOrder'. -/
def rationalOrderUptoCard : Claim7 := { stood := { row := rationalOrderUptoRow, standIns := [], harness := (true, "f8c1254585824f6120bb1df0b6ea4762e6a17c8d33d5d3aaa7834147d1e26e00"), looks := false }, kinds := [], alts := [], laidByText := true, laidKinds := [.data], laidTests := true, laidLooks := .later }
def RationalOrderUptoCardSaid : Prop := Claim7.holds Tryd.pinned (.plain (OpenSpec.upto rationalOrderSpec)) rationalOrderUptoCard

/-- THE SECOND FORM's CARD OF 'exactppllaw02.RationalTexts'. -/
def rationalTextsUptoCard : Claim7 := { stood := { row := rationalTextsUptoRow, standIns := [], harness := (true, "f8c1254585824f6120bb1df0b6ea4762e6a17c8d33d5d3aaa7834147d1e26e00"), looks := false }, kinds := [], alts := [], laidByText := true, laidKinds := [.data], laidTests := true, laidLooks := .later }
def RationalTextsUptoCardSaid : Prop := Claim7.holds Tryd.pinned (.plain (OpenSpec.upto rationalTextsSpec)) rationalTextsUptoCard

/-- THE SECOND FORM's CARD OF 'exactppllaw02.RationalDenotes'. -/
def rationalDenotesUptoCard : Claim7 := { stood := { row := rationalDenotesUptoRow, standIns := [], harness := (true, "f8c1254585824f6120bb1df0b6ea4762e6a17c8d33d5d3aaa7834147d1e26e00"), looks := false }, kinds := [], alts := [], laidByText := true, laidKinds := [.data], laidTests := true, laidLooks := .later }
def RationalDenotesUptoCardSaid : Prop := Claim7.holds Tryd.pinned (.plain (OpenSpec.upto rationalDenotesSpec)) rationalDenotesUptoCard
end Rows
end Go.Proofs.YthnmjaaelhcbpaaDoor
