/-
  Two rows that grow in turn; an append as an operation of a drawn region. No walk.
-/
import Derived.Test.YtggdhgppclnckaaGreatDoorPaib
namespace Go.Proofs.YtggdhgppclnckaaGreatDoor
open Go Go.RowKit Lx
set_option maxRecDepth 20000

namespace Ps
/-- Blocks from s on, but not those of two slices. -/
abbrev Zt (s : Nat) (A B : Option Addr) : Nat → Prop := fun b => s ≤ b ∧ offA A b ∧ offA B b
/-- Two rows of one type, and data beside them. -/
def TwoOwn (w : World) (base : Nat) (t : TypeId) (sz : Nat) (A : Option Addr) (n c : Nat) (ds : List D) (B : Option Addr) (m e : Nat) (es : List D) (p : D) (v : Value) : Prop :=
  ∃ vs us, w.ownsRow base t sz (.slice A n c) n vs ∧ w.ownsRow base t sz (.slice B m e) m us ∧ Rds (Zt base A B) w ds vs ∧ Rds (Zt base A B) w es us ∧ Rd (Zt base A B) w p v ∧ ∀ a, A = some a → offA B a.block
section
variable {w w' : World} {base sz n c m e : Nat} {t : TypeId} {A B : Option Addr} {ds es : List D} {p : D} {v : Value}
theorem zt_swap {s b : Nat} {A B : Option Addr} (h : Zt s A B b) : Zt s B A b := ⟨h.1, h.2.2, h.2.1⟩
theorem TwoOwn.swap (h : TwoOwn w base t sz A n c ds B m e es p v) : TwoOwn w base t sz B m e es A n c ds p v := by
  obtain ⟨vs, us, h1, h2, h3, h4, h5, h6⟩ := h
  exact ⟨us, vs, h2, h1, h4.in fun _ => zt_swap, h3.in fun _ => zt_swap, h5.in fun _ => zt_swap, fun a ha b hb e => h6 b hb a ha e.symm⟩
theorem TwoOwn.keep (h : TwoOwn w base t sz A n c ds B m e es p v) (hs : w.heap.size ≤ w'.heap.size) (hb : ∀ b, base ≤ b → b < w.heap.size → w'.heap[b]? = w.heap[b]?) : TwoOwn w' base t sz A n c ds B m e es p v := by
  obtain ⟨vs, us, h1, h2, h3, h4, h5, h6⟩ := h
  have l1 : ∀ a, A = some a → base ≤ a.block ∧ a.block < w.heap.size := by rintro a rfl; exact h1.lt a.block rfl
  have l2 : ∀ a, B = some a → base ≤ a.block ∧ a.block < w.heap.size := by rintro a rfl; exact h2.lt a.block rfl
  exact ⟨vs, us, own_row h1 fun a ha => hb _ (l1 a ha).1 (l1 a ha).2, own_row h2 fun a ha => hb _ (l2 a ha).1 (l2 a ha).2, h3.keep hs (fun b hS hl => hb b hS.1 hl) fun _ h _ => h, h4.keep hs (fun b hS hl => hb b hS.1 hl) fun _ h _ => h, h5.keep hs (fun b hS hl => hb b hS.1 hl) fun _ h _ => h, h6⟩
theorem TwoOwn.but {g : Nat} (h : TwoOwn w base t sz A n c ds B m e es p v) (hb : But g w w') (hg : g < base) : TwoOwn w' base t sz A n c ds B m e es p v := h.keep hb.size fun b h1 h2 => hb.block b h2 (by omega)
theorem TwoOwn.new (h : TwoOwn w base t sz A n c ds B m e es p v) (hb : Below w.heap.size w w') : TwoOwn w' base t sz A n c ds B m e es p v := h.keep hb.size fun b _ h2 => hb.block b h2
theorem TwoOwn.row (h : TwoOwn w base t sz A n c ds B m e es p v) {k : Nat} (hk : k < base) (cs : Array Value) : TwoOwn (w.setRow k cs) base t sz A n c ds B m e es p v := h.keep (by rw [size_row]; exact Nat.le_refl _) fun b h1 _ => setRow_other w k b cs (by omega)
theorem TwoOwn.drew (h : TwoOwn w base t sz A n c ds B m e es p v) : TwoOwn w.drew base t sz A n c ds B m e es p v := h.keep (Nat.le_refl _) fun _ _ _ => rfl
theorem TwoOwn.len (h : TwoOwn w base t sz A n c ds B m e es p v) : n ≤ c ∧ c ≤ maxLen := by
  obtain ⟨vs, us, h1, _⟩ := h
  rcases h1.2 with ⟨e, h0⟩ | ⟨g, cap, cur, e, _, _, h1, h2, _⟩
  · injection e with _ e1 e2; subst e1; subst e2; exact ⟨Nat.le_refl _, Nat.zero_le _⟩
  · injection e with _ _ e; subst e; exact ⟨h1, h2⟩
/-- The first row grows. -/
theorem TwoOwn.snoc {k : Nat} {v' : Value} {xs vs us : List Value} {fs : List D} (hr : w.ownsRow base t sz (.slice A n c) n vs) (hq : w.ownsRow base t sz (.slice B m e) m us) (h3 : Rds (Zt base A B) w ds vs) (h4 : Rds (Zt base A B) w es us) (h5 : Rd (Zt base A B) w p v) (h6 : ∀ a, A = some a → offA B a.block)
    (hx : Rds (Zt base A B) w fs xs) (hown : w'.ownsRow base t sz v' (n + k) (vs ++ xs)) (hk : 0 < k) (hgrow : w.grownBy w' (Value.ownBlock (.slice A n c))) (hnew : ∀ k, v'.ownBlock = some k → Value.ownBlock (.slice A n c) = some k ∨ w.heap.size ≤ k) :
    ∃ A' c', v' = .slice A' (n + k) c' ∧ TwoOwn w' base t sz A' (n + k) c' (ds ++ fs) B m e es p v := by
  rcases hown.2 with ⟨_, h0⟩ | ⟨g, cap, cur, eq, _⟩
  · omega
  · subst eq
    have hor : (∃ a0, A = some a0 ∧ a0.block = g) ∨ w.heap.size ≤ g := by
      rcases hnew g rfl with h1 | h1
      · cases A with
        | none => simp [Value.ownBlock] at h1
        | some a0 => exact .inl ⟨a0, rfl, by simpa [Value.ownBlock] using h1⟩
      · exact .inr h1
    have hA' : ∀ b, Zt base A B b → b < w.heap.size → Zt base (some ⟨g, 0, none⟩) B b := by
      intro b hb hlt
      refine ⟨hb.1, fun a ha => ?_, hb.2.2⟩
      injection ha with ha
      subst ha
      rcases hor with ⟨a0, h0, h1⟩ | h1
      · have := hb.2.1 a0 h0
        simp; omega
      · simp; omega
    have hkeep : ∀ b, Zt base A B b → b < w.heap.size → w'.heap[b]? = w.heap[b]? := by
      intro b hb hlt
      refine hgrow.block b hlt ?_
      cases A with
      | none => simp [Value.ownBlock]
      | some a0 =>
        have := hb.2.1 a0 rfl
        simp [Value.ownBlock]; omega
    have l2 : ∀ a, B = some a → base ≤ a.block ∧ a.block < w.heap.size := by rintro a rfl; exact hq.lt a.block rfl
    refine ⟨some ⟨g, 0, none⟩, cap, rfl, vs ++ xs, us, hown, own_row hq fun b hb => ?_, (h3.keep hgrow.size hkeep hA').app (hx.keep hgrow.size hkeep hA'), h4.keep hgrow.size hkeep hA', h5.keep hgrow.size hkeep hA', fun a ha b hb => ?_⟩
    · refine hgrow.block _ (l2 b hb).2 ?_
      cases A with
      | none => simp [Value.ownBlock]
      | some a0 =>
        have := h6 a0 rfl b hb
        simp [Value.ownBlock]; omega
    · injection ha with ha
      subst ha
      rcases hor with ⟨a0, h0, h1⟩ | h1
      · have := h6 a0 h0 b hb
        simp; omega
      · have := (l2 b hb).2
        simp; omega
end
/-- An append as an operation. -/
theorem wp_append_at {P : Program} {o : Oper} {a : Act} {w : World} {K : Act → World → Prop} {Q : Exit → Act → World → Prop} (s x : Operand) (t : TypeId)
    (ho : o.op = .call { callee := .builtin .append, args := #[s, x], argTypes := #[t, t] })
    (base : Nat) (e : TypeId) (i : TypeInfo) (z : Value) (size bytes : Nat) (ht : P.underlying t = some (.slice e)) (hi : P.info? e = some i) (hz : i.zero = some z)
    (hsize : i.size = size) (hby : i.bytes = bytes) (hzs : z.cells.size = size) (hsz : 0 < size)
    (v : Value) (n : Nat) (xs : List Value) (hs : a.eval s = v) (hown : w.ownsRow base e size v n xs)
    (ad : Addr) (m c : Nat) (news : List Value) (hx : a.eval x = .slice (some ad) m c) (hl : news.length = m * size) (hnews : ∀ j u, news[j]? = some u → w.cell? (ad.add j) = some u) (h1 : ∀ u ∈ news, u.oneCell' = true)
    (h63 : n + m ≤ maxLen) (hbytes : (n + m) * bytes ≤ 140737488355328) (hbase : base ≤ w.heap.size)
    (h : ∀ v' w', w'.ownsRow base e size v' (n + m) (xs ++ news) → w.grownBy w' v.ownBlock → (v'.ownBlock = v.ownBlock ∨ v'.ownBlock = some w.heap.size) → K (a.put o.dst v') w') : o.wp P a w K Q := by
  obtain ⟨v', w', hr, h2, h3, h4, h5⟩ := run_append_own_at (P := P) w base t o.type e i z size bytes ht hi hz hsize hby hzs hsz v n xs hown ad m c news hl hnews h1 h63 hbytes hbase
  unfold Oper.wp execOp
  simp only [ho, Go.resolve, Go.invoke, Go.builtin, Sem.run_bind, Sem.run_pure, Result.andThen_ok, List.map_toArray, List.map_cons, List.map_nil, hs, hx, hr]
  exact h v' w' h2 h3 h5
end Ps
end Go.Proofs.YtggdhgppclnckaaGreatDoor
