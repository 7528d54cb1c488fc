/-
  What the program's Parse gives, told by the pure reader.
-/
import Derived.Test.YtggdhgppclnckaaGreatDoorPaig
import Derived.Test.YtggdhgppclnckaaGreatDoorFrW
import Derived.Test.YtggdhgppclnckaaGreatDoorEv9
import Derived.Test.YtggdhgppclnckaaGreatDoorFoD
namespace Go.Proofs.YtggdhgppclnckaaGreatDoor
open Go Go.RowKit Lx
set_option maxRecDepth 20000

namespace Ps
/-- What comes of the lexer's outcome. -/
def po : Out → PO
  | .ok T => parseT T
  | .bad l c e => .bad l c e
def GivesPO (r : PO) (w : World) (e : Ending) (w' : World) : Prop := match r with
  | .ok pr => ∃ a0 a1 a2 a3 a4 a5, e = .returned (.tuple #[.agg #[a0, a1, a2, a3, a4, a5], .agg #[.int .i64 0, .int .i64 0], .int .i64 0]) ∧ Rds (Fr w.heap.size) w' pr.d [a0, a1, a2, a3, a4, a5] ∧ Below w.heap.size w w'
  | .bad l co er => e = .returned (.tuple #[.agg #[.slice none 0 0, .slice none 0 0, .slice none 0 0, .slice none 0 0, .slice none 0 0, .string ⟨#[]⟩], .agg #[.int .i64 l, .int .i64 co], .int .i64 er]) ∧ Below w.heap.size w w'
theorem po_gives {O : Out} {w w' : World} {e : Ending} (h : GivesParse O w e w') : GivesPO (po O) w e w' := by
  rcases h with ⟨pr, a0, a1, a2, a3, a4, a5, ⟨T, j, q, rfl, hp⟩, h1, h2, h3⟩ | ⟨l, co, er, (⟨T, j, rfl, hp, hj, rfl, rfl⟩ | rfl), h1, h2⟩
  · have : po (.ok T) = .ok pr := by show parseT T = _; unfold parseT; rw [hp]
    rw [this]; exact ⟨a0, a1, a2, a3, a4, a5, h1, h2, h3⟩
  · have : po (.ok T) = .bad (tkn T j).ln (tkn T j).co er := by show parseT T = _; unfold parseT; rw [hp]
    rw [this]; exact ⟨h1, h2⟩
  · exact ⟨h1, h2⟩
theorem po_x (s : ByteArray) (w : World) (hm : s.size ≤ maxLen) (hgl : Gl w) (h8 : 5 ≤ w.heap.size) : Calls Tryz.prog 20 #[.string s] w (GivesPO (po (lexOut s)) w) :=
  (parse_x s w hm hgl h8 (fun T _ g b n c => fr_ok g b n c T)).mono fun _ _ h => po_gives h
theorem po_parse {s : ByteArray} (h : s.size ≤ 8192) : po (lexOut s) = parse s.data.toList := by
  unfold lexOut
  rw [if_pos h, Lib.toList_data]
  unfold parse po
  cases lex s.data.toList (1, 1) <;> rfl
theorem Gl.new {w w' : World} (h : Gl w) (hb : Below w.heap.size w w') (h8 : 5 ≤ w.heap.size) : Gl w' := h.keep fun k hk => hb.block k (by omega)
def Pr.zero : Pr := ⟨[], [], [], [], [], []⟩
end Ps
end Go.Proofs.YtggdhgppclnckaaGreatDoor
