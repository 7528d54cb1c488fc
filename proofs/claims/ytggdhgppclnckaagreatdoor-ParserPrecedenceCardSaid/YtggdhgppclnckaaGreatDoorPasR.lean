/-
  Data of types, declarations, draws, statements, functions.
  Draws as data; cells of a variable.
-/
import Derived.Test.YtggdhgppclnckaaGreatDoorPasJ
namespace Go.Proofs.YtggdhgppclnckaaGreatDoor
open Go Go.RowKit Lx
set_option maxRecDepth 20000

namespace Ps
mutual
def Ty.d : Ty → List D
  | .mk k lo hi mx es => [.n .i64 k, .n .i64 lo, .n .i64 hi, .n .i64 mx, .l 5 (dsT es)]
def dsT : List Ty → List D
  | [] => []
  | e :: l => e.d ++ dsT l
end
theorem Ty.d_len (e : Ty) : e.d.length = 5 := by cases e; simp [Ty.d]
theorem dsT_flat (l : List Ty) : dsT l = l.flatMap Ty.d := by
  induction l with
  | nil => rfl
  | cons e l ih => simp [dsT, ih]
def rdT (b : Nat) (w : World) (e : Ty) (v : Value) : Prop := ∃ a0 a1 a2 a3 a4, v = .agg #[a0, a1, a2, a3, a4] ∧ Rds (Fr b) w e.d [a0, a1, a2, a3, a4]
theorem ty_rds {Q : Nat → Prop} {w : World} (k lo hi mx : Int) (es : List Ty) {v : Value} (h : Rd Q w (.l 5 (dsT es)) v) : Rds Q w (Ty.mk k lo hi mx es).d [.int .i64 k, .int .i64 lo, .int .i64 hi, .int .i64 mx, v] := by
  simp only [Ty.d]
  exact .cons (.n _ _) (.cons (.n _ _) (.cons (.n _ _) (.cons (.n _ _) (.cons h .nil))))
def De.d (x : De) : List D := .s x.nm :: x.ty.d
theorem De.d_len (e : De) : e.d.length = 6 := by simp [De.d, Ty.d_len]
def rdDe (b : Nat) (w : World) (e : De) (v : Value) : Prop := ∃ a0 a1 a2 a3 a4 a5, v = .agg #[a0, a1, a2, a3, a4, a5] ∧ Rds (Fr b) w e.d [a0, a1, a2, a3, a4, a5]
def Dr.d (x : Dr) : List D := [.n .i64 x.k, .n .i64 x.lo, .n .i64 x.hi] ++ (x.fr.d ++ (x.to.d ++ [.l 7 (dsE x.ps), .s x.nm]))
theorem Dr.d_len (e : Dr) : e.d.length = 11 := by simp [Dr.d, Rv.d]
mutual
def St.d : St → List D
  | .mk k nm fn i ex xs dr th el => [.n .i64 k, .s nm, .s fn, .n .i64 i] ++ (ex.d ++ (.l 7 (dsE xs) :: (dr.d ++ [.l 25 (dsS th), .l 25 (dsS el)])))
def dsS : List St → List D
  | [] => []
  | e :: l => e.d ++ dsS l
end
theorem St.d_len (e : St) : e.d.length = 25 := by cases e; simp [St.d, Ex.d_len, Dr.d_len]
theorem dsS_flat (l : List St) : dsS l = l.flatMap St.d := by
  induction l with
  | nil => rfl
  | cons e l ih => simp [dsS, ih]
def Fu.d (x : Fu) : List D := [.s x.nm, .l 6 (x.args.flatMap De.d), .l 6 (x.vars.flatMap De.d), .l 25 (dsS x.body), .s x.res]
def Pr.d (x : Pr) : List D := [.l 1 (x.params.map .s), .l 5 (x.funcs.flatMap Fu.d), .l 5 (x.queries.flatMap Fu.d), .l 6 (x.vars.flatMap De.d), .l 25 (dsS x.body), .s x.res]
end Ps
end Go.Proofs.YtggdhgppclnckaaGreatDoor

namespace Go.Proofs.YtggdhgppclnckaaGreatDoor
open Go Go.RowKit Lx
set_option maxRecDepth 20000

namespace Ps
variable {w : World} {g b n c : Nat} {L : List Tok} {i : Nat} {o : Int}
theorem Box.fr {w : World} {k : Nat} {t : TypeId} {cs : Array Value} (h : Box w k t cs) (j : Nat) : w.frozen? ⟨k, j, none⟩ = false := by
  simp [World.frozen?, show w.heap[k]? = some (.cells cs t (0, 0)) from h]
theorem Box.cell_row {w : World} {k : Nat} {t : TypeId} {cs : Array Value} (h : Box w k t cs) (j : Nat) (v : Value) : w.setCell ⟨k, j, none⟩ v = w.setRow k (cs.setIfInBounds j v) := by
  have h' : w.heap[k]? = some (.cells cs t (0, 0)) := h
  unfold World.setCell World.setRow
  congr 1
  apply Array.ext_getElem?
  intro m
  simp only [Array.getElem?_modify]
  by_cases hk : k = m
  · subst hk; simp [h']
  · simp [hk]
theorem opn_tok {s : Bs} {i j : Nat} {o q : Int} (h : opn L s i o = .ok true j q) : (tkn L i).t = s := by
  unfold opn at h
  cases ha : acc L s i o with
  | no j' e' => rw [bd_no ha] at h; cases h
  | ok a j' q' =>
    rw [bd_ok ha] at h
    cases a
    · cases h
    · exact (acc_yes ha).2
def rdDr (b : Nat) (w : World) (e : Dr) (v : Value) : Prop := ∃ a0 a1 a2 a3 a4 a5 a6 a7 a8 a9 a10, v = .agg #[a0, a1, a2, a3, a4, a5, a6, a7, a8, a9, a10] ∧ Rds (Fr b) w e.d [a0, a1, a2, a3, a4, a5, a6, a7, a8, a9, a10]
theorem dr_rds {Q : Nat → Prop} {w : World} (k lo hi : Int) {fr tt : Rv} {f0 f1 f2 t0 t1 t2 v : Value} (ps : List Ex) (nm : Bs) (hf : Rds Q w fr.d [f0, f1, f2]) (ht : Rds Q w tt.d [t0, t1, t2]) (hp : Rd Q w (.l 7 (dsE ps)) v) :
    Rds Q w (Dr.mk k lo hi fr tt ps nm).d [.int .i64 k, .int .i64 lo, .int .i64 hi, f0, f1, f2, t0, t1, t2, v, .string (bt nm)] :=
  .cons (.n _ _) (.cons (.n _ _) (.cons (.n _ _) (hf.app (ht.app (.cons hp (.cons (.s nm) .nil))))))
theorem Rd.isSlice {Q : Nat → Prop} {w : World} {d : D} {v : Value} (h : Rd Q w d v) {k : Nat} {cs : List D} (hd : d = .l k cs) : ∃ A n c, v = .slice A n c := by
  cases h with
  | n => cases hd
  | b => cases hd
  | s => cases hd
  | nil => exact ⟨_, _, _, rfl⟩
  | l => exact ⟨_, _, _, rfl⟩
theorem rv_cases {Q : Nat → Prop} {w : World} {r : Rv} {a0 a1 a2 : Value} (h : Rds Q w r.d [a0, a1, a2]) : ∃ A1 n1 c1 A2 n2 c2, a0 = .bool r.neg ∧ a1 = .slice A1 n1 c1 ∧ a2 = .slice A2 n2 c2 := by
  unfold Rv.d at h
  cases h with
  | cons h0 h => cases h with
    | cons h1 h => cases h with
      | cons h2 _ =>
        cases h0
        obtain ⟨A1, n1, c1, rfl⟩ := h1.isSlice rfl
        obtain ⟨A2, n2, c2, rfl⟩ := h2.isSlice rfl
        exact ⟨_, _, _, _, _, _, rfl, rfl, rfl⟩
theorem en_integer : Enters 163 := fun args W => by simp [go_sem]
theorem en_number : Enters 164 := fun args W => by simp [go_sem]
theorem en_fraction : Enters 195 := fun args W => by simp [go_sem]
end Ps
end Go.Proofs.YtggdhgppclnckaaGreatDoor
