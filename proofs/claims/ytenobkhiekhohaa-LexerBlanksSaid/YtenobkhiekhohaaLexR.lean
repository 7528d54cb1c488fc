/-
  The lexer's reader: its block, a step over a byte, and what continues a token.
-/
import Derived.Test.YtenobkhiekhohaaLexC
namespace Go.Proofs.Ytenobkhiekhohaa
open Go.RowKit Lx
set_option maxRecDepth 20000

/-- The five cells of the reader. -/
structure RdC (w : World) (g : Nat) (s : ByteArray) (b n l c : Int) : Prop where
  size : g < w.heap.size
  c0 : w.cell? ⟨g, 0, none⟩ = some (.string s)
  c1 : w.cell? ⟨g, 1, none⟩ = some (.int .i64 b)
  c2 : w.cell? ⟨g, 2, none⟩ = some (.int .i64 n)
  c3 : w.cell? ⟨g, 3, none⟩ = some (.int .i64 l)
  c4 : w.cell? ⟨g, 4, none⟩ = some (.int .i64 c)
  fr : ∀ i, w.frozen? ⟨g, i, none⟩ = false
theorem RdC.keep {w w' : World} {g : Nat} {s : ByteArray} {b n l c : Int} (h : RdC w g s b n l c) (hz : w.heap.size ≤ w'.heap.size) (hb : w'.heap[g]? = w.heap[g]?) : RdC w' g s b n l c := by
  refine ⟨Nat.lt_of_lt_of_le h.size hz, ?_, ?_, ?_, ?_, ?_, fun i => ?_⟩
  · rw [World.cell?_of_block (a := ⟨g, 0, none⟩) hb]; exact h.c0
  · rw [World.cell?_of_block (a := ⟨g, 1, none⟩) hb]; exact h.c1
  · rw [World.cell?_of_block (a := ⟨g, 2, none⟩) hb]; exact h.c2
  · rw [World.cell?_of_block (a := ⟨g, 3, none⟩) hb]; exact h.c3
  · rw [World.cell?_of_block (a := ⟨g, 4, none⟩) hb]; exact h.c4
  · rw [World.frozen?_of_block (a := ⟨g, i, none⟩) hb]; exact h.fr i
theorem RdC.drewN {w : World} {g : Nat} {s : ByteArray} {b n l c : Int} (h : RdC w g s b n l c) (k : Nat) : RdC (w.drewN k) g s b n l c := h.keep (Nat.le_refl _) rfl
theorem RdC.set1 {w : World} {g : Nat} {s : ByteArray} {b n l c : Int} (h : RdC w g s b n l c) (x : Int) : RdC (w.setCell ⟨g, 1, none⟩ (.int .i64 x)) g s x n l c :=
  ⟨by simp [World.setCell]; exact h.size, by rw [World.cell?_setCell_other _ _ _ _ (by simp)]; exact h.c0, World.cell?_setCell_same _ _ _ h.c1, by rw [World.cell?_setCell_other _ _ _ _ (by simp)]; exact h.c2,
    by rw [World.cell?_setCell_other _ _ _ _ (by simp)]; exact h.c3, by rw [World.cell?_setCell_other _ _ _ _ (by simp)]; exact h.c4, fun i => by rw [World.frozen?_setCell]; exact h.fr i⟩
theorem RdC.set2 {w : World} {g : Nat} {s : ByteArray} {b n l c : Int} (h : RdC w g s b n l c) (x : Int) : RdC (w.setCell ⟨g, 2, none⟩ (.int .i64 x)) g s b x l c :=
  ⟨by simp [World.setCell]; exact h.size, by rw [World.cell?_setCell_other _ _ _ _ (by simp)]; exact h.c0, by rw [World.cell?_setCell_other _ _ _ _ (by simp)]; exact h.c1, World.cell?_setCell_same _ _ _ h.c2,
    by rw [World.cell?_setCell_other _ _ _ _ (by simp)]; exact h.c3, by rw [World.cell?_setCell_other _ _ _ _ (by simp)]; exact h.c4, fun i => by rw [World.frozen?_setCell]; exact h.fr i⟩
theorem RdC.set3 {w : World} {g : Nat} {s : ByteArray} {b n l c : Int} (h : RdC w g s b n l c) (x : Int) : RdC (w.setCell ⟨g, 3, none⟩ (.int .i64 x)) g s b n x c :=
  ⟨by simp [World.setCell]; exact h.size, by rw [World.cell?_setCell_other _ _ _ _ (by simp)]; exact h.c0, by rw [World.cell?_setCell_other _ _ _ _ (by simp)]; exact h.c1, by rw [World.cell?_setCell_other _ _ _ _ (by simp)]; exact h.c2,
    World.cell?_setCell_same _ _ _ h.c3, by rw [World.cell?_setCell_other _ _ _ _ (by simp)]; exact h.c4, fun i => by rw [World.frozen?_setCell]; exact h.fr i⟩
theorem RdC.set4 {w : World} {g : Nat} {s : ByteArray} {b n l c : Int} (h : RdC w g s b n l c) (x : Int) : RdC (w.setCell ⟨g, 4, none⟩ (.int .i64 x)) g s b n l x :=
  ⟨by simp [World.setCell]; exact h.size, by rw [World.cell?_setCell_other _ _ _ _ (by simp)]; exact h.c0, by rw [World.cell?_setCell_other _ _ _ _ (by simp)]; exact h.c1, by rw [World.cell?_setCell_other _ _ _ _ (by simp)]; exact h.c2,
    by rw [World.cell?_setCell_other _ _ _ _ (by simp)]; exact h.c3, World.cell?_setCell_same _ _ _ h.c4, fun i => by rw [World.frozen?_setCell]; exact h.fr i⟩
/-- The reader lies in block g: the text, where the token begins, the next byte, and its position. -/
structure RdAt (w : World) (g : Nat) (s : ByteArray) (b n : Nat) (p : Int × Int) : Prop where
  cs : RdC w g s b n p.1 p.2
  hb : b ≤ n
  hn : n ≤ s.size
  hs : s.size ≤ 8192
  bd : (0 ≤ p.1 ∧ p.1 ≤ n + 1) ∧ (0 ≤ p.2 ∧ p.2 ≤ n + 1)
theorem RdAt.keep {w w' : World} {g : Nat} {s : ByteArray} {b n : Nat} {p : Int × Int} (h : RdAt w g s b n p) (hz : w.heap.size ≤ w'.heap.size) (hb : w'.heap[g]? = w.heap[g]?) : RdAt w' g s b n p :=
  ⟨h.cs.keep hz hb, h.hb, h.hn, h.hs, h.bd⟩
theorem RdAt.drewN {w : World} {g : Nat} {s : ByteArray} {b n : Nat} {p : Int × Int} (h : RdAt w g s b n p) (k : Nat) : RdAt (w.drewN k) g s b n p := h.keep (Nat.le_refl _) rfl
theorem RdAt.below {w w' : World} {g : Nat} {s : ByteArray} {b n : Nat} {p : Int × Int} (h : RdAt w g s b n p) {B : Nat} (hB : Below B w w') (hg : g < B) : RdAt w' g s b n p := h.keep hB.size (hB.block g hg)
theorem mv_bd {p : Int × Int} {n : Nat} (h : (0 ≤ p.1 ∧ p.1 ≤ n + 1) ∧ (0 ≤ p.2 ∧ p.2 ≤ n + 1)) (c : UInt8) : (0 ≤ (mv p c).1 ∧ (mv p c).1 ≤ ((n + 1 : Nat) : Int) + 1) ∧ (0 ≤ (mv p c).2 ∧ (mv p c).2 ≤ ((n + 1 : Nat) : Int) + 1) := by
  unfold mv; split <;> simp <;> omega

theorem begun_x {w : World} {g : Nat} {s : ByteArray} {b n : Nat} {p : Int × Int} (h : RdAt w g s b n p) :
    Calls Try.prog 29 #[.pointer (some ⟨g, 0, none⟩)] w fun e w' => e = .returned (.bool (decide (0 < n - b))) ∧ ∃ k, w' = w.drewN k := by
  have c1 := h.cs.c1
  have c2 := h.cs.c2
  have hb := h.hb
  by_cases hlt : b < n
  · have hd : decide (0 < n - b) = true := by simp; omega
    rw [hd]
    go_enter Try.func29, Try.ntmps29
    go_wp2_with fail
    go_quiet (fail)
    go_wp2
    go_ret
    exact ⟨rfl, _, rfl⟩
  · have hd : decide (0 < n - b) = false := by simp; omega
    rw [hd]
    go_enter Try.func29, Try.ntmps29
    go_wp2_with fail
    go_quiet (fail)
    go_wp2
    go_ret
    exact ⟨rfl, _, rfl⟩

theorem mv_nl {p : Int × Int} {c : UInt8} (h : ((c.toNat : Int) == 10) = true) : mv p c = (p.1 + 1, 1) := by unfold mv; rw [if_pos (by simpa using h)]
theorem mv_no {p : Int × Int} {c : UInt8} (h : ((c.toNat : Int) == 10) = false) : mv p c = (p.1, p.2 + 1) := by unfold mv; rw [if_neg (by simpa using h)]
set_option maxHeartbeats 1000000 in
theorem step_x {w : World} {g : Nat} {s : ByteArray} {b n : Nat} {p : Int × Int} (h : RdAt w g s b n p) (hn : n < s.size) :
    Calls Try.prog 32 #[.pointer (some ⟨g, 0, none⟩)] w fun e w' => e = .returned (.tuple #[]) ∧ RdAt w' g s b (n + 1) (mv p s[n]) ∧ But g w w' := by
  obtain ⟨p1, p2⟩ := p
  have hn8 := h.hs
  have hbd := mv_bd h.bd s[n]
  obtain ⟨⟨b0, b1⟩, b2, b3⟩ := h.bd
  have hb := h.hb
  have c0 := h.cs.c0
  have c2 := h.cs.c2
  have c3 := h.cs.c3
  have c4 := h.cs.c4
  have f2 := h.cs.fr 2
  have f3 := h.cs.fr 3
  have f4 := h.cs.fr 4
  have hcs := h.cs
  simp only at b0 b1 b2 b3 c3 c4 hcs
  clear h
  by_cases hc : ((s[n].toNat : Int) == 10) = true
  · rw [mv_nl hc] at hbd ⊢
    have HB := Lib.hid hbd
    clear hbd
    go_enter Try.func32, Try.ntmps32
    go_wp2_with fail
    go_quiet (fail)
    go_wp2
    go_end0
    exact ⟨rfl, ⟨((((hcs.set4 (p2 + 1)).drewN nq).set3 (p1 + 1)).set4 1).set2 ((n : Int) + 1), by omega, by omega, hn8, HB.out⟩, (((((But.refl g w).set 4 _).drewN nq).set 3 _).set 4 _).set 2 _⟩
  · have hc' : ((s[n].toNat : Int) == 10) = false := by simpa using hc
    rw [mv_no hc'] at hbd ⊢
    have HB := Lib.hid hbd
    clear hbd hc
    go_enter Try.func32, Try.ntmps32
    go_wp2_with fail
    go_quiet (fail)
    go_wp2
    go_end0
    exact ⟨rfl, ⟨((hcs.set4 (p2 + 1)).drewN nq).set2 ((n : Int) + 1), by omega, by omega, hn8, HB.out⟩, (((But.refl g w).set 4 _).drewN nq).set 2 _⟩
end Go.Proofs.Ytenobkhiekhohaa
