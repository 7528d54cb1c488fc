/-
  DERIVED. GIVEN WITH THE SEED: THE CARDS: each row of YtdimajnadmkhiaaDoorRows.lean that lists a variable, with what it lists TIED to the program's text (the seventh form; the later family's looks); each row that meets fmt, with fmt's text TOLD by the authors' own Lean function (tested against real Go, not proved from fmt's source: count such statements apart). THE CARD IS WHAT COUNTS. Prove the row's statement (the work); the ties are given (YtdimajnadmkhiaaDoorTie.lean); close each card by the builder's one call (the guide's Derived/Test/ToyasCard.lean, 'card_holds'). Laid BY PROGRAM, IN A SANDBOX (cutbox-door.mjs). By AI agents, Wed Nov 11 2026. No macro, syntax, notation, axiom, sorry.
-/
import Derived.Test.YtdimajnadmkhiaaDoorRows
import GoSem.ClaimSeven
namespace Go.Proofs.YtdimajnadmkhiaaDoor
namespace Rows

/-- THE TIED CARD OF 'exactppllaw01.NaturalRaw'. -/
def naturalRawCard : Claim7 := { stood := { row := naturalRawRow, standIns := [], harness := (true, "dbe5cff488568b93c9f3c0e448f0d395bd651d57bd6223762ff78a07f8056ee9"), looks := false }, kinds := [], alts := [], laidByText := true, laidKinds := [.data], laidTests := true, laidLooks := .later }
def NaturalRawCardSaid : Prop := Claim7.holds Tryd.pinned (.plain (OpenSpec.ofChange naturalRawSpec)) naturalRawCard

/-- THE TIED CARD OF 'exactppllaw01.NaturalBuilt'. -/
def naturalBuiltCard : Claim7 := { stood := { row := naturalBuiltRow, standIns := [], harness := (true, "dbe5cff488568b93c9f3c0e448f0d395bd651d57bd6223762ff78a07f8056ee9"), looks := false }, kinds := [], alts := [], laidByText := true, laidKinds := [.data], laidTests := true, laidLooks := .later }
def NaturalBuiltCardSaid : Prop := Claim7.holds Tryd.pinned (.plain (OpenSpec.ofChange naturalBuiltSpec)) naturalBuiltCard

/-- THE TIED CARD OF 'exactppllaw01.NaturalCommon'. -/
def naturalCommonCard : Claim7 := { stood := { row := naturalCommonRow, standIns := [], harness := (true, "dbe5cff488568b93c9f3c0e448f0d395bd651d57bd6223762ff78a07f8056ee9"), looks := false }, kinds := [], alts := [], laidByText := true, laidKinds := [.data], laidTests := true, laidLooks := .later }
def NaturalCommonCardSaid : Prop := Claim7.holds Tryd.pinned (.plain (OpenSpec.ofChange naturalCommonSpec)) naturalCommonCard

/-- THE SECOND FORM's CARD OF 'exactppllaw01.NaturalRaw'. -/
def naturalRawUptoCard : Claim7 := { stood := { row := naturalRawUptoRow, standIns := [], harness := (true, "dbe5cff488568b93c9f3c0e448f0d395bd651d57bd6223762ff78a07f8056ee9"), looks := false }, kinds := [], alts := [], laidByText := true, laidKinds := [.data], laidTests := true, laidLooks := .later }
def NaturalRawUptoCardSaid : Prop := Claim7.holds Tryd.pinned (.plain (OpenSpec.upto naturalRawSpec)) naturalRawUptoCard

/-- THE SECOND FORM's CARD OF 'exactppllaw01.NaturalBuilt'. -/
def naturalBuiltUptoCard : Claim7 := { stood := { row := naturalBuiltUptoRow, standIns := [], harness := (true, "dbe5cff488568b93c9f3c0e448f0d395bd651d57bd6223762ff78a07f8056ee9"), looks := false }, kinds := [], alts := [], laidByText := true, laidKinds := [.data], laidTests := true, laidLooks := .later }
def NaturalBuiltUptoCardSaid : Prop := Claim7.holds Tryd.pinned (.plain (OpenSpec.upto naturalBuiltSpec)) naturalBuiltUptoCard

/-- THE SECOND FORM's CARD OF 'exactppllaw01.NaturalCommon'. -/
def naturalCommonUptoCard : Claim7 := { stood := { row := naturalCommonUptoRow, standIns := [], harness := (true, "dbe5cff488568b93c9f3c0e448f0d395bd651d57bd6223762ff78a07f8056ee9"), looks := false }, kinds := [], alts := [], laidByText := true, laidKinds := [.data], laidTests := true, laidLooks := .later }
def NaturalCommonUptoCardSaid : Prop := Claim7.holds Tryd.pinned (.plain (OpenSpec.upto naturalCommonSpec)) naturalCommonUptoCard
end Rows
end Go.Proofs.YtdimajnadmkhiaaDoor
