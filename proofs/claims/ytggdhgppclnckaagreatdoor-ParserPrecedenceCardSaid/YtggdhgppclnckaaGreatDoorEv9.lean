/-
  The pure reader at texts: what comes of a text, and the texts with many brackets. No program is named here.
-/
import Derived.Test.YtggdhgppclnckaaGreatDoorPsP
namespace Go.Proofs.YtggdhgppclnckaaGreatDoor
open Go.RowKit Lx

namespace Ps
inductive PO where
  | ok (p : Pr)
  | bad (ln co e : Int)
def parseT (T : List Tok) : PO := match program T 0 0 with
  | .ok p _ _ => .ok p
  | .no i e => .bad (tkn T i).ln (tkn T i).co e
def parse (s : Bs) : PO := match lex s (1, 1) with
  | .ok T => parseT T
  | .bad l c e => .bad l c e
def PO.err : PO → Int × Int × Int
  | .ok _ => (0, 0, 0)
  | .bad l c e => (l, c, e)
def opens (q : Nat) : Bs := if q = 0 then [40] else if q = 1 then [91] else [108, 101, 110, 40]
/-- No fraction can stand in these tokens. -/
def plain (T : List Tok) : Bool := T.all fun t => decide (t.t ≠ [47]) && decide (t.t ≠ [103, 101, 111, 109, 101, 116, 114, 105, 99]) && decide (t.t ≠ [105, 110, 116, 101, 114, 118, 97, 108])
end Ps
end Go.Proofs.YtggdhgppclnckaaGreatDoor
