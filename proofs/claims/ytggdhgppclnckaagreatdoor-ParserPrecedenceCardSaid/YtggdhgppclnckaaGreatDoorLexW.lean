/-
  The lexer's small functions: letters, digits, blanks.
  The lexer's reader: its block, a step over a byte, and what continues a token.
  The lexer's continuations: name, comment, number, blank; read.
  The lexer's signs and keywords.
  The lexer's reading of signs; a token.
  The lexer's rules in their order (plain lists), and rows of tokens.
  lexer.Tokens: the tokens of a text, or the first error.
-/
import Derived.Test.YtggdhgppclnckaaGreatDoorMem8
import Derived.Test.YtggdhgppclnckaaGreatDoorShelf
import Derived.Maps.AppendAt
namespace Go.Proofs.YtggdhgppclnckaaGreatDoor
open Go.RowKit Lx
set_option maxRecDepth 20000

theorem isLetter_x (x : Int) (w : World) : Calls Tryz.prog 93 #[.int .u8 x] w fun e w' => e = .returned (.bool (isL x)) ∧ w = w' := by
  go_enter Tryz.func93, Tryz.ntmps93
  go_wp2
  all_goals
    go_ret
    exact ⟨ret_bool (by unfold isL; first | (symm; rw [decide_eq_true_eq]; omega) | (rw [Bool.eq_iff_iff]; simp; omega)), rfl⟩
theorem inBlank_x (a : Value) (x : Int) (w : World) : Calls Tryz.prog 59 #[a, .int .u8 x] w fun e w' => e = .returned (.bool (isB x)) ∧ w = w' := by
  go_enter Tryz.func59, Tryz.ntmps59
  go_wp2
  all_goals
    go_ret
    exact ⟨ret_bool (by unfold isB; first | (symm; rw [decide_eq_true_eq]; omega) | (rw [Bool.eq_iff_iff]; simp; omega) | (rw [Bool.eq_iff_iff]; simp [or_assoc])), rfl⟩
theorem inNumber_x (a : Value) (x : Int) (w : World) : Calls Tryz.prog 62 #[a, .int .u8 x] w fun e w' => e = .returned (.bool (isD x)) ∧ w = w' := by
  go_enter Tryz.func62, Tryz.ntmps62
  go_wp2
  all_goals
    go_ret
    exact ⟨ret_bool (by unfold isD; first | (symm; rw [decide_eq_true_eq]; omega) | (rw [Bool.eq_iff_iff]; simp; omega)), rfl⟩
end Go.Proofs.YtggdhgppclnckaaGreatDoor

namespace Go.Proofs.YtggdhgppclnckaaGreatDoor
open Go.RowKit Lx
set_option maxRecDepth 20000

/-- The five cells of the reader. -/
structure RdC (w : World) (g : Nat) (s : ByteArray) (b n l c : Int) : Prop where
  size : g < w.heap.size
  c0 : w.cell? ⟨g, 0, none⟩ = some (.string s)
  c1 : w.cell? ⟨g, 1, none⟩ = some (.int .i64 b)
  c2 : w.cell? ⟨g, 2, none⟩ = some (.int .i64 n)
  c3 : w.cell? ⟨g, 3, none⟩ = some (.int .i64 l)
  c4 : w.cell? ⟨g, 4, none⟩ = some (.int .i64 c)
  fr : ∀ i, w.frozen? ⟨g, i, none⟩ = false
theorem RdC.keep {w w' : World} {g : Nat} {s : ByteArray} {b n l c : Int} (h : RdC w g s b n l c) (hz : w.heap.size ≤ w'.heap.size) (hb : w'.heap[g]? = w.heap[g]?) : RdC w' g s b n l c := by
  refine ⟨Nat.lt_of_lt_of_le h.size hz, ?_, ?_, ?_, ?_, ?_, fun i => ?_⟩
  · rw [World.cell?_of_block (a := ⟨g, 0, none⟩) hb]; exact h.c0
  · rw [World.cell?_of_block (a := ⟨g, 1, none⟩) hb]; exact h.c1
  · rw [World.cell?_of_block (a := ⟨g, 2, none⟩) hb]; exact h.c2
  · rw [World.cell?_of_block (a := ⟨g, 3, none⟩) hb]; exact h.c3
  · rw [World.cell?_of_block (a := ⟨g, 4, none⟩) hb]; exact h.c4
  · rw [World.frozen?_of_block (a := ⟨g, i, none⟩) hb]; exact h.fr i
theorem RdC.drewN {w : World} {g : Nat} {s : ByteArray} {b n l c : Int} (h : RdC w g s b n l c) (k : Nat) : RdC (w.drewN k) g s b n l c := h.keep (Nat.le_refl _) rfl
theorem RdC.set1 {w : World} {g : Nat} {s : ByteArray} {b n l c : Int} (h : RdC w g s b n l c) (x : Int) : RdC (w.setCell ⟨g, 1, none⟩ (.int .i64 x)) g s x n l c :=
  ⟨by simp [World.setCell]; exact h.size, by rw [World.cell?_setCell_other _ _ _ _ (by simp)]; exact h.c0, World.cell?_setCell_same _ _ _ h.c1, by rw [World.cell?_setCell_other _ _ _ _ (by simp)]; exact h.c2,
    by rw [World.cell?_setCell_other _ _ _ _ (by simp)]; exact h.c3, by rw [World.cell?_setCell_other _ _ _ _ (by simp)]; exact h.c4, fun i => by rw [World.frozen?_setCell]; exact h.fr i⟩
theorem RdC.set2 {w : World} {g : Nat} {s : ByteArray} {b n l c : Int} (h : RdC w g s b n l c) (x : Int) : RdC (w.setCell ⟨g, 2, none⟩ (.int .i64 x)) g s b x l c :=
  ⟨by simp [World.setCell]; exact h.size, by rw [World.cell?_setCell_other _ _ _ _ (by simp)]; exact h.c0, by rw [World.cell?_setCell_other _ _ _ _ (by simp)]; exact h.c1, World.cell?_setCell_same _ _ _ h.c2,
    by rw [World.cell?_setCell_other _ _ _ _ (by simp)]; exact h.c3, by rw [World.cell?_setCell_other _ _ _ _ (by simp)]; exact h.c4, fun i => by rw [World.frozen?_setCell]; exact h.fr i⟩
theorem RdC.set3 {w : World} {g : Nat} {s : ByteArray} {b n l c : Int} (h : RdC w g s b n l c) (x : Int) : RdC (w.setCell ⟨g, 3, none⟩ (.int .i64 x)) g s b n x c :=
  ⟨by simp [World.setCell]; exact h.size, by rw [World.cell?_setCell_other _ _ _ _ (by simp)]; exact h.c0, by rw [World.cell?_setCell_other _ _ _ _ (by simp)]; exact h.c1, by rw [World.cell?_setCell_other _ _ _ _ (by simp)]; exact h.c2,
    World.cell?_setCell_same _ _ _ h.c3, by rw [World.cell?_setCell_other _ _ _ _ (by simp)]; exact h.c4, fun i => by rw [World.frozen?_setCell]; exact h.fr i⟩
theorem RdC.set4 {w : World} {g : Nat} {s : ByteArray} {b n l c : Int} (h : RdC w g s b n l c) (x : Int) : RdC (w.setCell ⟨g, 4, none⟩ (.int .i64 x)) g s b n l x :=
  ⟨by simp [World.setCell]; exact h.size, by rw [World.cell?_setCell_other _ _ _ _ (by simp)]; exact h.c0, by rw [World.cell?_setCell_other _ _ _ _ (by simp)]; exact h.c1, by rw [World.cell?_setCell_other _ _ _ _ (by simp)]; exact h.c2,
    by rw [World.cell?_setCell_other _ _ _ _ (by simp)]; exact h.c3, World.cell?_setCell_same _ _ _ h.c4, fun i => by rw [World.frozen?_setCell]; exact h.fr i⟩
/-- The reader lies in block g: the text, where the token begins, the next byte, and its position. -/
structure RdAt (w : World) (g : Nat) (s : ByteArray) (b n : Nat) (p : Int × Int) : Prop where
  cs : RdC w g s b n p.1 p.2
  hb : b ≤ n
  hn : n ≤ s.size
  hs : s.size ≤ 8192
  bd : (0 ≤ p.1 ∧ p.1 ≤ n + 1) ∧ (0 ≤ p.2 ∧ p.2 ≤ n + 1)
theorem RdAt.keep {w w' : World} {g : Nat} {s : ByteArray} {b n : Nat} {p : Int × Int} (h : RdAt w g s b n p) (hz : w.heap.size ≤ w'.heap.size) (hb : w'.heap[g]? = w.heap[g]?) : RdAt w' g s b n p :=
  ⟨h.cs.keep hz hb, h.hb, h.hn, h.hs, h.bd⟩
theorem RdAt.drewN {w : World} {g : Nat} {s : ByteArray} {b n : Nat} {p : Int × Int} (h : RdAt w g s b n p) (k : Nat) : RdAt (w.drewN k) g s b n p := h.keep (Nat.le_refl _) rfl
theorem RdAt.below {w w' : World} {g : Nat} {s : ByteArray} {b n : Nat} {p : Int × Int} (h : RdAt w g s b n p) {B : Nat} (hB : Below B w w') (hg : g < B) : RdAt w' g s b n p := h.keep hB.size (hB.block g hg)
theorem mv_bd {p : Int × Int} {n : Nat} (h : (0 ≤ p.1 ∧ p.1 ≤ n + 1) ∧ (0 ≤ p.2 ∧ p.2 ≤ n + 1)) (c : UInt8) : (0 ≤ (mv p c).1 ∧ (mv p c).1 ≤ ((n + 1 : Nat) : Int) + 1) ∧ (0 ≤ (mv p c).2 ∧ (mv p c).2 ≤ ((n + 1 : Nat) : Int) + 1) := by
  unfold mv; split <;> simp <;> omega

theorem begun_x {w : World} {g : Nat} {s : ByteArray} {b n : Nat} {p : Int × Int} (h : RdAt w g s b n p) :
    Calls Tryz.prog 92 #[.pointer (some ⟨g, 0, none⟩)] w fun e w' => e = .returned (.bool (decide (0 < n - b))) ∧ ∃ k, w' = w.drewN k := by
  have c1 := h.cs.c1
  have c2 := h.cs.c2
  have hb := h.hb
  by_cases hlt : b < n
  · have hd : decide (0 < n - b) = true := by simp; omega
    rw [hd]
    go_enter Tryz.func92, Tryz.ntmps92
    go_wp2_with fail
    go_quiet (fail)
    go_wp2
    go_ret
    exact ⟨rfl, _, rfl⟩
  · have hd : decide (0 < n - b) = false := by simp; omega
    rw [hd]
    go_enter Tryz.func92, Tryz.ntmps92
    go_wp2_with fail
    go_quiet (fail)
    go_wp2
    go_ret
    exact ⟨rfl, _, rfl⟩

theorem mv_nl {p : Int × Int} {c : UInt8} (h : ((c.toNat : Int) == 10) = true) : mv p c = (p.1 + 1, 1) := by unfold mv; rw [if_pos (by simpa using h)]
theorem mv_no {p : Int × Int} {c : UInt8} (h : ((c.toNat : Int) == 10) = false) : mv p c = (p.1, p.2 + 1) := by unfold mv; rw [if_neg (by simpa using h)]
set_option maxHeartbeats 1000000 in
theorem step_x {w : World} {g : Nat} {s : ByteArray} {b n : Nat} {p : Int × Int} (h : RdAt w g s b n p) (hn : n < s.size) :
    Calls Tryz.prog 95 #[.pointer (some ⟨g, 0, none⟩)] w fun e w' => e = .returned (.tuple #[]) ∧ RdAt w' g s b (n + 1) (mv p s[n]) ∧ But g w w' := by
  obtain ⟨p1, p2⟩ := p
  have hn8 := h.hs
  have hbd := mv_bd h.bd s[n]
  obtain ⟨⟨b0, b1⟩, b2, b3⟩ := h.bd
  have hb := h.hb
  have c0 := h.cs.c0
  have c2 := h.cs.c2
  have c3 := h.cs.c3
  have c4 := h.cs.c4
  have f2 := h.cs.fr 2
  have f3 := h.cs.fr 3
  have f4 := h.cs.fr 4
  have hcs := h.cs
  simp only at b0 b1 b2 b3 c3 c4 hcs
  clear h
  by_cases hc : ((s[n].toNat : Int) == 10) = true
  · rw [mv_nl hc] at hbd ⊢
    have HB := Lib.hid hbd
    clear hbd
    go_enter Tryz.func95, Tryz.ntmps95
    go_wp2_with fail
    go_quiet (fail)
    go_wp2
    go_end0
    exact ⟨rfl, ⟨((((hcs.set4 (p2 + 1)).drewN nq).set3 (p1 + 1)).set4 1).set2 ((n : Int) + 1), by omega, by omega, hn8, HB.out⟩, (((((But.refl g w).set 4 _).drewN nq).set 3 _).set 4 _).set 2 _⟩
  · have hc' : ((s[n].toNat : Int) == 10) = false := by simpa using hc
    rw [mv_no hc'] at hbd ⊢
    have HB := Lib.hid hbd
    clear hbd hc
    go_enter Tryz.func95, Tryz.ntmps95
    go_wp2_with fail
    go_quiet (fail)
    go_wp2
    go_end0
    exact ⟨rfl, ⟨((hcs.set4 (p2 + 1)).drewN nq).set2 ((n : Int) + 1), by omega, by omega, hn8, HB.out⟩, (((But.refl g w).set 4 _).drewN nq).set 2 _⟩
end Go.Proofs.YtggdhgppclnckaaGreatDoor

namespace Go.Proofs.YtggdhgppclnckaaGreatDoor
open Go.RowKit Lx
set_option maxRecDepth 20000

/-- The method with number k tells, of the reader in block g whose token begins at b, whether the next byte continues. -/
def Cont (k : FuncId) (g : Nat) (s : ByteArray) (b : Nat) (q : Nat → UInt8 → Bool) : Prop :=
  ∀ (w : World) (n : Nat) (p : Int × Int) (h : n < s.size), RdAt w g s b n p → Calls Tryz.prog k #[.pointer (some ⟨g, 0, none⟩), .int .u8 s[n].toNat] w fun e w' => e = .returned (.bool (q (n - b) s[n])) ∧ ∃ m, w' = w.drewN m

theorem cont_blank (g : Nat) (s : ByteArray) (b : Nat) : Cont 59 g s b qB := fun w _ _ _ _ =>
  (inBlank_x _ _ w).mono fun _ _ ⟨he, hw⟩ => ⟨he, 0, hw.symm⟩
theorem cont_number (g : Nat) (s : ByteArray) (b : Nat) : Cont 62 g s b qD := fun w _ _ _ _ =>
  (inNumber_x _ _ w).mono fun _ _ ⟨he, hw⟩ => ⟨he, 0, hw.symm⟩
theorem cont_comment (g : Nat) (s : ByteArray) (b : Nat) : Cont 60 g s b qC := by
  intro w n p h hr
  have hq : qC (n - b) s[n] = if decide (0 < n - b) = true then ((s[n].toNat : Int) != 10) else ((s[n].toNat : Int) == 35) := by
    unfold qC
    by_cases h0 : n - b = 0
    · simp [h0]; rfl
    · rw [if_neg h0, if_pos (by simp; omega), Bool.eq_iff_iff]; simp
  rw [hq]
  have HC := Lib.hid (begun_x hr)
  clear hq hr
  generalize (s[n].toNat : Int) = x
  generalize decide (0 < n - b) = d at *
  cases d
  all_goals
    go_enter Tryz.func60, Tryz.ntmps60
    go_wp2_with fail
    refine HC.out.mono ?_
    rintro e w' ⟨rfl, k, rfl⟩
    go_wp2
    go_ret
    exact ⟨rfl, _, rfl⟩
set_option maxHeartbeats 1000000 in
theorem cont_name (g : Nat) (s : ByteArray) (b : Nat) : Cont 61 g s b qN := by
  intro w n p h hr
  unfold qN
  have HB : Hid (∀ m, Calls Tryz.prog 92 #[.pointer (some ⟨g, 0, none⟩)] (w.drewN m) fun e w' => e = .returned (.bool (decide (0 < n - b))) ∧ ∃ k, w' = (w.drewN m).drewN k) := fun m => begun_x (hr.drewN m)
  clear hr
  generalize (s[n].toNat : Int) = x
  generalize decide (0 < n - b) = d at *
  have HL : Hid (∀ w : World, Calls Tryz.prog 93 #[.int .u8 x] w fun e w' => e = .returned (.bool (isL x)) ∧ w = w') := fun w => isLetter_x x w
  have HD : Hid (∀ w : World, Calls Tryz.prog 62 #[.pointer (some ⟨g, 0, none⟩), .int .u8 x] w fun e w' => e = .returned (.bool (isD x)) ∧ w = w') := fun w => inNumber_x _ x w
  generalize isL x = y at *
  generalize isD x = z at *
  cases y <;> cases d
  case true.false | true.true =>
    go_enter Tryz.func61, Tryz.ntmps61
    go_wp2_with fail
    refine (HL.out _).mono ?_
    rintro e w' ⟨rfl, rfl⟩
    go_wp2
    go_ret
    exact ⟨rfl, 0, rfl⟩
  case false.false =>
    go_enter Tryz.func61, Tryz.ntmps61
    go_wp2_with fail
    refine (HL.out _).mono ?_
    rintro e w' ⟨rfl, rfl⟩
    go_wp2_with fail
    refine (HB.out 0).mono ?_
    rintro e w' ⟨rfl, k, rfl⟩
    go_wp2
    go_ret
    exact ⟨rfl, k, rfl⟩
  case false.true =>
    go_enter Tryz.func61, Tryz.ntmps61
    go_wp2_with fail
    refine (HL.out _).mono ?_
    rintro e w' ⟨rfl, rfl⟩
    go_wp2_with fail
    refine (HB.out 0).mono ?_
    rintro e w' ⟨rfl, k, rfl⟩
    go_wp2_with fail
    refine (HD.out _).mono ?_
    rintro e w' ⟨rfl, rfl⟩
    go_wp2
    go_ret
    exact ⟨ret_bool (by simp), k, rfl⟩

/-- The bytes of s from k to e. -/
theorem run_step {s : ByteArray} {k m : Nat} (hm : k + m < s.size) : (s.data.toList.drop k).take (m + 1) = (s.data.toList.drop k).take m ++ [s[k + m]] := by
  rw [List.take_succ_eq_append_getElem (by simp; omega)]
  congr 1
  simp
  rfl
def GivesRun (g : Nat) (s : ByteArray) (k : Nat) (p : Int × Int) (m : Nat) (w : World) (e : Ending) (w' : World) : Prop :=
  e = .returned (.string (s.extract k (k + m))) ∧ RdAt w' g s k (k + m) (mvs p ((s.data.toList.drop k).take m)) ∧ But g w w'
set_option maxHeartbeats 2000000 in
theorem read_x {w : World} {g : Nat} {s : ByteArray} {b k : Nat} {p : Int × Int} (h : RdAt w g s b k p) (f : FuncId) (q : Nat → UInt8 → Bool) (hc : Cont f g s k q) (he : ∀ (args : Array Value) (W : World), (callFunc f args).run Tryz.prog W = .ok (.enter f args) W) :
    Calls Tryz.prog 64 #[.pointer (some ⟨g, 0, none⟩), .func (.func f) #[.pointer (some ⟨g, 0, none⟩)] #[]] w (GivesRun g s k p (gRun q 0 (s.data.toList.drop k)) w) := by
  obtain ⟨M, hM⟩ : ∃ M, gRun q 0 (s.data.toList.drop k) = M := ⟨_, rfl⟩
  have hlen : (s.data.toList.drop k).length = s.size - k := by simp
  have hML : M ≤ s.size - k := by rw [← hM, ← hlen]; exact gRun_le ..
  have HIN : Hid (∀ m, m < M → (h : k + m < s.size) → q (k + m - k) s[k + m] = true) := fun m hm h => by
    have := gRun_at q (s.data.toList.drop k) 0 m (by rw [hlen]; omega) (by rw [hM]; exact hm)
    simp only [Nat.zero_add, List.getElem_drop] at this
    rw [Nat.add_sub_cancel_left]
    exact this
  have HST : Hid ((h : k + M < s.size) → q (k + M - k) s[k + M] = false) := fun h => by
    have := gRun_stop q (s.data.toList.drop k) 0 (by rw [hlen, hM]; omega)
    simp only [Nat.zero_add, List.getElem_drop, hM] at this
    rw [Nat.add_sub_cancel_left]
    exact this
  rw [hM]
  clear hM hlen
  have c1 := h.cs.c1
  have c2 := h.cs.c2
  have f1 := h.cs.fr 1
  have hs8 := h.hs
  have hkn := h.hn
  have h1 : RdAt (w.setCell ⟨g, 1, none⟩ (.int .i64 (k : Int))) g s k k p := ⟨h.cs.set1 k, Nat.le_refl _, h.hn, h.hs, h.bd⟩
  have hb1 := (But.refl g w).set 1 (.int .i64 (k : Int))
  have HC := Lib.hid hc
  clear h hc
  go_enter Tryz.func64, Tryz.ntmps64
  go_wp2_with fail
  generalize w.setCell ⟨g, 1, none⟩ (.int .i64 (k : Int)) = w1 at *
  go_loopg [34] M (fun r tv wr => ∃ (m n : Nat), (tv = undef ∨ tv ≠ undef) ∧ Hid (k + m = n) ∧ Hid (m + r = M) ∧ RdAt wr g s k n (mvs p ((s.data.toList.drop k).take m)) ∧ But g w wr)
  case atStart => exact ⟨0, k, Classical.em _, rfl, by show _ = _; omega, h1, hb1⟩
  case round =>
    obtain ⟨m, n, _, hmn, hmr, hr, hB⟩ := hrel
    have c0 := hr.cs.c0
    have c1' := hr.cs.c1
    have c2' := hr.cs.c2
    have hmle : m ≤ M := by have := hmr.out; omega
    clear c2 c1 f1
    have z0 : (0 : Int) ≤ (n : Int) := by omega
    by_cases hlt : n < s.size
    · have hdt : decide ((n : Int) < (s.size : Int)) = true := by simpa using hlt
      by_cases hmM : m < M
      · have hq : q (n - k) s[n] = true := by
          have := HIN.out m hmM (by rw [hmn.out]; exact hlt)
          simp only [hmn.out] at this; exact this
        have HQ : Hid (∀ a, Calls Tryz.prog f #[.pointer (some ⟨g, 0, none⟩), .int .u8 (s[n]).toNat] (wr.drewN a) fun e w' => e = .returned (.bool true) ∧ ∃ j, w' = wr.drewN j) := fun a =>
          (HC.out _ _ _ hlt (hr.drewN a)).mono fun _ _ ⟨he, j, hj⟩ => ⟨by rw [he, hq], a + j, by rw [hj, World.drewN_drewN]⟩
        clear hq
        go_wp2_with fail
        go_quiet ((exact HQ.out _))
        have hr2 := hr.drewN nq
        have hB2 := hB.drewN nq
        clear c0 c1' c2' hr hB HQ
        generalize wr.drewN nq = w2 at *
        go_wp2_with fail
        refine (step_x hr2 hlt).mono ?_
        rintro e w3 ⟨rfl, hr3, hB3⟩
        have hlt' : k + m < s.size := by rw [hmn.out]; exact hlt
        have hrs := run_step hlt'
        have hsn : s[k + m] = s[n] := by simp only [hmn.out]
        have HRS : Hid ((s.data.toList.drop k).take (m + 1) = (s.data.toList.drop k).take m ++ [s[n]]) := by show _ = _; rw [hrs, hsn]
        clear hrs hsn
        go_wp2
        go_roundg (gk - 1)
        case measure => have := hmr.out; omega
        case rel => exact ⟨m + 1, n + 1, Classical.em _, by show _ = _; have := hmn.out; omega, by show _ = _; have := hmr.out; omega, by rw [HRS.out, mvs_append]; exact hr3, hB2.trans hB3⟩
      · obtain rfl : m = M := by omega
        have hq : q (n - k) s[n] = false := by
          have := HST.out (by rw [hmn.out]; exact hlt)
          simp only [hmn.out] at this; exact this
        have HQ : Hid (∀ a, Calls Tryz.prog f #[.pointer (some ⟨g, 0, none⟩), .int .u8 (s[n]).toNat] (wr.drewN a) fun e w' => e = .returned (.bool false) ∧ ∃ j, w' = wr.drewN j) := fun a =>
          (HC.out _ _ _ hlt (hr.drewN a)).mono fun _ _ ⟨he, j, hj⟩ => ⟨by rw [he, hq], a + j, by rw [hj, World.drewN_drewN]⟩
        clear hq
        have y1 : (k : Int) ≤ (n : Int) := by have := hmn.out; omega
        have y2 : (n : Int) ≤ (s.size : Int) := by omega
        have y3 : (0 : Int) ≤ (k : Int) := by omega
        go_wp2_with fail
        go_quiet ((exact HQ.out _))
        have hr2 := hr.drewN nq
        have hB2 := hB.drewN nq
        clear c0 c1' c2' hr hB HQ
        generalize wr.drewN nq = w2 at *
        have c0 := hr2.cs.c0
        have c1' := hr2.cs.c1
        have c2' := hr2.cs.c2
        go_wp2_with fail
        go_quiet (fail)
        go_wp2
        go_ret
        have e0 := hmn.out
        subst e0
        exact ⟨rfl, hr2.drewN _, hB2.drewN _⟩
    · have hdt : decide ((n : Int) < (s.size : Int)) = false := by simpa using hlt
      have hnn := hr.hn
      have hmM : m = M := by have := hmn.out; omega
      have y1 : (k : Int) ≤ (n : Int) := by have := hmn.out; omega
      have y2 : (n : Int) ≤ (s.size : Int) := by omega
      have y3 : (0 : Int) ≤ (k : Int) := by omega
      clear HC HIN HST
      subst hmM
      go_wp2_with fail
      go_quiet (fail)
      have hr2 := hr.drewN nq
      have hB2 := hB.drewN nq
      clear c0 c1' c2' hr hB
      generalize wr.drewN nq = w2 at *
      have c0 := hr2.cs.c0
      have c1' := hr2.cs.c1
      have c2' := hr2.cs.c2
      go_wp2_with fail
      go_quiet (fail)
      go_wp2
      go_ret
      have e0 := hmn.out
      subst e0
      exact ⟨rfl, hr2.drewN _, hB2.drewN _⟩
theorem enter_blank (args : Array Value) (W : World) : (callFunc 59 args).run Tryz.prog W = .ok (.enter 59 args) W := by go_simp
theorem enter_comment (args : Array Value) (W : World) : (callFunc 60 args).run Tryz.prog W = .ok (.enter 60 args) W := by go_simp
theorem enter_name (args : Array Value) (W : World) : (callFunc 61 args).run Tryz.prog W = .ok (.enter 61 args) W := by go_simp
theorem enter_number (args : Array Value) (W : World) : (callFunc 62 args).run Tryz.prog W = .ok (.enter 62 args) W := by go_simp
theorem enter_sign (args : Array Value) (W : World) : (callFunc 63 args).run Tryz.prog W = .ok (.enter 63 args) W := by go_simp
end Go.Proofs.YtggdhgppclnckaaGreatDoor

namespace Go.Proofs.YtggdhgppclnckaaGreatDoor
open Go.RowKit Lx
set_option maxRecDepth 20000

theorem extract_list (s : ByteArray) (a b : Nat) : (s.extract a b).toList = (s.data.toList.drop a).take (b - a) := by
  rw [Lib.toList_data]
  simp

theorem isSign_x (s : ByteArray) (w : World) : Calls Tryz.prog 122 #[.string s] w fun e w' => e = .returned (.bool (sgB s.toList)) ∧ w = w' := by
  go_enter Tryz.func122, Tryz.ntmps122
  go_wp2
  all_goals
    go_ret
    refine ⟨ret_bool ?_, rfl⟩
    first
      | (simp only [sgB, signs2, signs1, List.contains_cons, List.contains_nil, Bool.or_false, Bool.false_or, *]; done)
      | (simp_all; done)
      | (simp_all; decide)
set_option maxHeartbeats 1000000 in
theorem isKeyword_x (s : ByteArray) (w : World) : Calls Tryz.prog 96 #[.string s] w fun e w' => e = .returned (.bool (kwB s.toList)) ∧ w = w' := by
  go_enter Tryz.func96, Tryz.ntmps96
  go_wp2
  all_goals
    go_ret
    refine ⟨ret_bool ?_, rfl⟩
    first
      | (simp only [kwB, kws, List.contains_cons, List.contains_nil, Bool.or_false, Bool.false_or, *]; done)
      | (simp_all; done)
      | (simp_all; decide)

/-- The longest sign of at most n bytes at the front. -/
def sgT : Nat → Bs → Nat
  | 0, _ => 0
  | n + 1, l => if sgB (l.take (n + 1)) then n + 1 else sgT n l
theorem sgT_eq (l : Bs) : sgT (min 2 l.length) l = sgn l := by
  match l with
  | [] => rfl
  | [a] => simp [sgT, sgn, sgB, signs1, signs2]
  | a :: b :: r => 
    have : min 2 (a :: b :: r).length = 2 := by simp
    rw [this]
    simp [sgT, sgn, sgB, signs1, signs2]
theorem signLength_x (s : ByteArray) (w : World) (hs : s.size ≤ 8192) : Calls Tryz.prog 94 #[.string s] w fun e w' => e = .returned (.int .i64 (sgn s.toList)) ∧ w = w' := by
  have hl : s.toList.length = s.size := by rw [Lib.toList_data]; simp
  have HM := Lib.hid (sgT_eq s.toList)
  rw [hl] at HM
  clear hl
  generalize hR : sgn s.toList = R at *
  clear hR
  rcases (show s.size = 0 ∨ s.size = 1 ∨ 2 ≤ s.size by omega) with h | h | h
  · have HZ : Hid (sgT 0 s.toList = R) := by show _ = _; rw [← HM.out, h]; rfl
    have z : ((s.size : Nat) : Int) = 0 := by omega
    clear HM
    go_enter Tryz.func94, Tryz.ntmps94
    go_wp2
    go_loop [3] (fun v => ∃ n : Nat, (n ≤ 2 ∧ n ≤ s.size) ∧ v = .int .i64 n ∧ Hid (sgT n s.toList = R)) (fun v => (intOf v).toNat)
    case atStart => exact ⟨0, by omega, by go_num, HZ.out⟩
    case round =>
      obtain ⟨n, ⟨hn2, hns⟩, rfl, hT⟩ := hrel
      rcases n with _ | j
      · have hR0 : (R : Int) = 0 := by have := hT.out; simp [sgT] at this; omega
        go_wp2
        go_ret
        first | exact ⟨rfl, rfl⟩ | exact ⟨ret_int hR0.symm, rfl⟩
      · have e1 : (s.extract 0 (j + 1)).toList = s.toList.take (j + 1) := by rw [extract_list, Lib.toList_data]; simp
        have HI := Lib.hid (isSign_x (s.extract 0 (j + 1)) w)
        rw [e1] at HI
        have y1 : ((j + 1 : Nat) : Int) ≤ (s.size : Int) := by omega
        have y2 : ((j + 1 : Nat) : Int).toNat = j + 1 := by omega
        have hT' : Hid (sgB (s.toList.take (j + 1)) = true → R = j + 1) := fun hb => by have := hT.out; rw [sgT, if_pos hb] at this; exact this.symm
        have hT2 : Hid (sgB (s.toList.take (j + 1)) = false → sgT j s.toList = R) := fun hb => by have := hT.out; rw [sgT, if_neg (by simp [hb])] at this; exact this
        clear e1 hT
        generalize sgB (s.toList.take (j + 1)) = bb at *
        cases bb
        · have hT3 : Hid (sgT j s.toList = R) := hT2.out rfl
          go_wp2_with fail
          refine HI.out.mono ?_
          rintro e w' ⟨rfl, rfl⟩
          go_wp2
          go_round
          case rel => exact ⟨j, by omega, by go_num, hT3⟩
          case measure => simp [intOf] <;> omega
        · have hR0 : (R : Int) = (j : Int) + 1 := by have := hT'.out rfl; omega
          go_wp2_with fail
          refine HI.out.mono ?_
          rintro e w' ⟨rfl, rfl⟩
          go_wp2
          go_ret
          first | exact ⟨rfl, rfl⟩ | exact ⟨ret_int hR0.symm, rfl⟩
  · have HZ : Hid (sgT 1 s.toList = R) := by show _ = _; rw [← HM.out, h]; rfl
    have z : ((s.size : Nat) : Int) = 1 := by omega
    clear HM
    go_enter Tryz.func94, Tryz.ntmps94
    go_wp2
    go_loop [3] (fun v => ∃ n : Nat, (n ≤ 2 ∧ n ≤ s.size) ∧ v = .int .i64 n ∧ Hid (sgT n s.toList = R)) (fun v => (intOf v).toNat)
    case atStart => exact ⟨1, by omega, by go_num, HZ.out⟩
    case round =>
      obtain ⟨n, ⟨hn2, hns⟩, rfl, hT⟩ := hrel
      rcases n with _ | j
      · have hR0 : (R : Int) = 0 := by have := hT.out; simp [sgT] at this; omega
        go_wp2
        go_ret
        first | exact ⟨rfl, rfl⟩ | exact ⟨ret_int hR0.symm, rfl⟩
      · have e1 : (s.extract 0 (j + 1)).toList = s.toList.take (j + 1) := by rw [extract_list, Lib.toList_data]; simp
        have HI := Lib.hid (isSign_x (s.extract 0 (j + 1)) w)
        rw [e1] at HI
        have y1 : ((j + 1 : Nat) : Int) ≤ (s.size : Int) := by omega
        have y2 : ((j + 1 : Nat) : Int).toNat = j + 1 := by omega
        have hT' : Hid (sgB (s.toList.take (j + 1)) = true → R = j + 1) := fun hb => by have := hT.out; rw [sgT, if_pos hb] at this; exact this.symm
        have hT2 : Hid (sgB (s.toList.take (j + 1)) = false → sgT j s.toList = R) := fun hb => by have := hT.out; rw [sgT, if_neg (by simp [hb])] at this; exact this
        clear e1 hT
        generalize sgB (s.toList.take (j + 1)) = bb at *
        cases bb
        · have hT3 : Hid (sgT j s.toList = R) := hT2.out rfl
          go_wp2_with fail
          refine HI.out.mono ?_
          rintro e w' ⟨rfl, rfl⟩
          go_wp2
          go_round
          case rel => exact ⟨j, by omega, by go_num, hT3⟩
          case measure => simp [intOf] <;> omega
        · have hR0 : (R : Int) = (j : Int) + 1 := by have := hT'.out rfl; omega
          go_wp2_with fail
          refine HI.out.mono ?_
          rintro e w' ⟨rfl, rfl⟩
          go_wp2
          go_ret
          first | exact ⟨rfl, rfl⟩ | exact ⟨ret_int hR0.symm, rfl⟩
  · have HZ : Hid (sgT 2 s.toList = R) := by show _ = _; rw [← HM.out, Nat.min_eq_left h]
    have z : ¬ ((s.size : Nat) : Int) < 2 := by omega
    clear HM
    go_enter Tryz.func94, Tryz.ntmps94
    go_wp2
    go_loop [3] (fun v => ∃ n : Nat, (n ≤ 2 ∧ n ≤ s.size) ∧ v = .int .i64 n ∧ Hid (sgT n s.toList = R)) (fun v => (intOf v).toNat)
    case atStart => exact ⟨2, by omega, by go_num, HZ.out⟩
    case round =>
      obtain ⟨n, ⟨hn2, hns⟩, rfl, hT⟩ := hrel
      rcases n with _ | j
      · have hR0 : (R : Int) = 0 := by have := hT.out; simp [sgT] at this; omega
        go_wp2
        go_ret
        first | exact ⟨rfl, rfl⟩ | exact ⟨ret_int hR0.symm, rfl⟩
      · have e1 : (s.extract 0 (j + 1)).toList = s.toList.take (j + 1) := by rw [extract_list, Lib.toList_data]; simp
        have HI := Lib.hid (isSign_x (s.extract 0 (j + 1)) w)
        rw [e1] at HI
        have y1 : ((j + 1 : Nat) : Int) ≤ (s.size : Int) := by omega
        have y2 : ((j + 1 : Nat) : Int).toNat = j + 1 := by omega
        have hT' : Hid (sgB (s.toList.take (j + 1)) = true → R = j + 1) := fun hb => by have := hT.out; rw [sgT, if_pos hb] at this; exact this.symm
        have hT2 : Hid (sgB (s.toList.take (j + 1)) = false → sgT j s.toList = R) := fun hb => by have := hT.out; rw [sgT, if_neg (by simp [hb])] at this; exact this
        clear e1 hT
        generalize sgB (s.toList.take (j + 1)) = bb at *
        cases bb
        · have hT3 : Hid (sgT j s.toList = R) := hT2.out rfl
          go_wp2_with fail
          refine HI.out.mono ?_
          rintro e w' ⟨rfl, rfl⟩
          go_wp2
          go_round
          case rel => exact ⟨j, by omega, by go_num, hT3⟩
          case measure => simp [intOf] <;> omega
        · have hR0 : (R : Int) = (j : Int) + 1 := by have := hT'.out rfl; omega
          go_wp2_with fail
          refine HI.out.mono ?_
          rintro e w' ⟨rfl, rfl⟩
          go_wp2
          go_ret
          first | exact ⟨rfl, rfl⟩ | exact ⟨ret_int hR0.symm, rfl⟩
end Go.Proofs.YtggdhgppclnckaaGreatDoor

namespace Go.Proofs.YtggdhgppclnckaaGreatDoor
open Go.RowKit Lx
set_option maxRecDepth 20000

set_option maxHeartbeats 1000000 in
theorem cont_sign (g : Nat) (s : ByteArray) (b : Nat) : Cont 63 g s b (qS (sgn (s.data.toList.drop b))) := by
  intro w n p h hr
  unfold qS
  have c0 := hr.cs.c0
  have c1 := hr.cs.c1
  have c2 := hr.cs.c2
  have hb := hr.hb
  have hs := hr.hs
  have e1 : (s.extract b s.size).toList = s.data.toList.drop b := by rw [extract_list, List.take_of_length_le (by simp)]
  have HS : Hid (∀ w : World, Calls Tryz.prog 94 #[.string (s.extract b s.size)] w fun e w' => e = .returned (.int .i64 (sgn (s.data.toList.drop b))) ∧ w' = w) := fun w => by
    have := signLength_x (s.extract b s.size) w (by simp; omega)
    rw [e1] at this
    exact this.mono fun _ _ ⟨h1, h2⟩ => ⟨h1, h2.symm⟩
  clear e1 hr
  generalize sgn (s.data.toList.drop b) = R at *
  have z1 : (b : Int) ≤ (n : Int) := by omega
  have z2 : (n : Int) ≤ (s.size : Int) := by omega
  have z3 : (b : Int) ≤ (s.size : Int) := by omega
  have z4 : (0 : Int) ≤ (b : Int) := by omega
  have hd : decide (n - b < R) = decide ((n : Int) - b < R) := by rw [decide_eq_decide]; omega
  rw [hd]
  have hw : IntKind.i64.wrap ((n : Int) - b) = (n : Int) - b := by rw [IntKind.wrap_i64]; omega
  clear hd
  generalize (s[n].toNat : Int) = x
  go_enter Tryz.func63, Tryz.ntmps63
  go_wp2_with fail
  go_quiet ((exact Calls.quiet_of_same (HS.out _)))
  go_wp2
  go_ret
  first | exact ⟨rfl, _, rfl⟩ | exact ⟨by rw [hw], _, rfl⟩

/-- The kind of a token with this text. -/
def kd (k : Int) (t : Bs) : Int := if kwB t then 3 else k
def tkV (k : Int) (t : ByteArray) (ln co : Int) : Value := .agg #[.int .i64 k, .string t, .int .i64 ln, .int .i64 co]
theorem token_x (k : Int) (t : ByteArray) (ln co : Int) (w : World) : Calls Tryz.prog 65 #[.int .i64 k, .string t, .agg #[.int .i64 ln, .int .i64 co]] w fun e w' =>
    e = .returned (tkV (kd k t.toList) t ln co) ∧ Below w.heap.size w w' := by
  have HK : Hid (∀ w : World, Calls Tryz.prog 96 #[.string t] w fun e w' => e = .returned (.bool (kwB t.toList)) ∧ w = w') := fun w => isKeyword_x t w
  unfold kd
  generalize kwB t.toList = d at *
  unfold tkV
  cases d
  · go_enter Tryz.func65, Tryz.ntmps65
    go_wp2_with fail
    refine (HK.out _).mono ?_
    rintro e w' ⟨rfl, rfl⟩
    go_wp2
    exact bodyPost_ret (v := .agg #[.int .i64 k, .string t, .int .i64 ln, .int .i64 co]) (by simp [results, Tryz.results65, go_sem]) rfl ⟨rfl, ((Below.refl _ _).alloc (Nat.le_refl _) _).alloc (by simp) _⟩
  · go_enter Tryz.func65, Tryz.ntmps65
    go_wp2_with fail
    refine (HK.out _).mono ?_
    rintro e w' ⟨rfl, rfl⟩
    go_wp2
    exact bodyPost_ret (v := .agg #[.int .i64 3, .string t, .int .i64 ln, .int .i64 co]) (by simp [results, Tryz.results65, go_sem]) rfl ⟨rfl, ((Below.refl _ _).alloc (Nat.le_refl _) _).alloc (by simp) _⟩
end Go.Proofs.YtggdhgppclnckaaGreatDoor

namespace Go.Proofs.YtggdhgppclnckaaGreatDoor
open Go Go.RowKit Lx
set_option maxRecDepth 20000

/-- The five rules: kind, limit, and what continues. -/
def rKind : Nat → Int | 2 => 1 | 3 => 2 | 4 => 4 | _ => 0
def rLim : Nat → Nat | 2 => 12 | 3 => 60 | 4 => 2 | _ => 8192
def rQ (l : Bs) : Nat → Nat → UInt8 → Bool | 0 => qB | 1 => qC | 2 => qN | 3 => qD | _ => qS (sgn l)
def rRun (l : Bs) (i : Nat) : Nat := gRun (rQ l i) 0 l

theorem first_letter {c : UInt8} {r : Bs} {m : Nat} (h : isL c.toNat = false) : kwB ((c :: r).take (m + 1)) = false := by
  rw [List.take_succ_cons]
  cases hk : kwB (c :: r.take m) with
  | false => rfl
  | true => rw [kwB_first hk] at h; cases h
theorem sgn_two (l : Bs) : sgn l ≤ 2 := by unfold sgn; split; omega; split <;> omega
theorem sgn_first {c : UInt8} {r : Bs} (h : 0 < sgn (c :: r)) : isL c.toNat = false := by
  have k2 : ∀ t ∈ signs2, (match t with | [] => false | c :: _ => !isL c.toNat) = true := by decide
  have k1 : ∀ t ∈ signs1, (match t with | [] => false | c :: _ => !isL c.toNat) = true := by decide
  unfold sgn at h
  split at h
  · next hm =>
    have hm : List.take 2 (c :: r) ∈ signs2 := by simpa using hm
    have := k2 _ hm
    simpa using this
  · split at h
    · next hm =>
      have hm : List.take 1 (c :: r) ∈ signs1 := by simpa using hm
      have := k1 _ hm
      simpa using this
    · omega

/-- What a rule does at the front of a text, if the rules before it take nothing. -/
def RuleDoes (l : Bs) (p : Int × Int) (i n : Nat) : Prop :=
  (rLim i < n → lex l p = .bad p.1 p.2 9) ∧
  (n ≤ rLim i → (i ≤ 1 → lex l p = lex (l.drop n) (mvs p (l.take n))) ∧ (2 ≤ i → lex l p = (lex (l.drop n) (mvs p (l.take n))).cons ⟨kd (rKind i) (l.take n), l.take n, p.1, p.2⟩))
theorem rule_does (l : Bs) (p : Int × Int) (hl : l.length ≤ 8192) (i : Nat) (hi : i < 5) (h0 : ∀ j, j < i → rRun l j = 0) (hn : 0 < rRun l i) : RuleDoes l p i (rRun l i) := by
  cases l with
  | nil => simp [rRun, gRun] at hn
  | cons c r =>
    have hle : rRun (c :: r) i ≤ (c :: r).length := gRun_le ..
    match i, hi with
    | 0, _ => exact ⟨fun h => absurd h (by simp only [rLim]; omega), fun _ => ⟨fun _ => lex_blanks _ 0 p, fun h => absurd h (by omega)⟩⟩
    | 1, _ => exact ⟨fun h => absurd h (by simp only [rLim]; omega), fun _ => ⟨fun _ => lex_com (com_some hn) p, fun h => absurd h (by omega)⟩⟩
    | 2, _ =>
      have b1 := blank_zero (h0 0 (by omega))
      have b2 := com_zero (h0 1 (by omega))
      obtain ⟨m, hm⟩ : ∃ m, rRun (c :: r) 2 = m := ⟨_, rfl⟩
      rw [hm] at hn ⊢
      have hm' : gRun qN 0 (c :: r) = m := hm
      refine ⟨fun h => ?_, fun h => ⟨fun h1 => absurd h1 (by omega), fun _ => ?_⟩⟩
      · simp only [rLim] at h
        refine lex_no b1 b2 ?_ p
        unfold tokAt
        rw [hm', if_pos hn, if_pos h]
        cases hk : kwB ((c :: r).take m) with
        | true =>
          have := kwB_short hk
          rw [List.length_take, Nat.min_eq_left (by rw [← hm]; exact hle)] at this
          omega
        | false => rfl
      · simp only [rLim] at h
        unfold kd
        refine lex_yes b1 b2 ?_ p
        unfold tokAt
        rw [hm', if_pos hn, if_neg (by omega : ¬ 12 < m)]
        cases hk : kwB ((c :: r).take m) <;> rfl
    | 3, _ =>
      have b1 := blank_zero (h0 0 (by omega))
      have b2 := com_zero (h0 1 (by omega))
      have b3 : gRun qN 0 (c :: r) = 0 := h0 2 (by omega)
      have b4 := not_name b3
      obtain ⟨m, hm⟩ : ∃ m, rRun (c :: r) 3 = m := ⟨_, rfl⟩
      rw [hm] at hn ⊢
      have hm' : gRun qD 0 (c :: r) = m := hm
      refine ⟨fun h => ?_, fun h => ⟨fun h1 => absurd h1 (by omega), fun _ => ?_⟩⟩
      · simp only [rLim] at h
        refine lex_no b1 b2 ?_ p
        unfold tokAt
        rw [b3, hm', if_neg (by omega), if_pos hn, if_pos h]
      · simp only [rLim] at h
        obtain ⟨j, rfl⟩ : ∃ j, m = j + 1 := ⟨m - 1, by omega⟩
        unfold kd
        rw [first_letter b4]
        refine lex_yes b1 b2 ?_ p
        unfold tokAt
        rw [b3, hm', if_neg (by omega), if_pos hn, if_neg (by omega)]
        rfl
    | 4, _ =>
      have b1 := blank_zero (h0 0 (by omega))
      have b2 := com_zero (h0 1 (by omega))
      have b3 : gRun qN 0 (c :: r) = 0 := h0 2 (by omega)
      have b5 : gRun qD 0 (c :: r) = 0 := h0 3 (by omega)
      obtain ⟨m, hm⟩ : ∃ m, rRun (c :: r) 4 = m := ⟨_, rfl⟩
      have hm' : sgn (c :: r) = m := by rw [← hm]; exact (sgn_run _).symm
      rw [hm] at hn ⊢
      have hm2 : m ≤ 2 := by rw [← hm']; exact sgn_two _
      have b4 := sgn_first (c := c) (r := r) (by rw [hm']; exact hn)
      refine ⟨fun h => absurd h (by simp only [rLim]; omega), fun h => ⟨fun h1 => absurd h1 (by omega), fun _ => ?_⟩⟩
      obtain ⟨j, rfl⟩ : ∃ j, m = j + 1 := ⟨m - 1, by omega⟩
      unfold kd
      rw [first_letter b4]
      refine lex_yes b1 b2 ?_ p
      unfold tokAt
      rw [b3, b5, hm', if_neg (by omega), if_neg (by omega), if_pos hn]
      rfl
theorem rule_none (l : Bs) (p : Int × Int) (hl : 0 < l.length) (h0 : ∀ j, j < 5 → rRun l j = 0) : lex l p = .bad p.1 p.2 4 := by
  cases l with
  | nil => simp at hl
  | cons c r =>
    have b1 := blank_zero (h0 0 (by omega))
    have b2 := com_zero (h0 1 (by omega))
    have b3 : gRun qN 0 (c :: r) = 0 := h0 2 (by omega)
    have b5 : gRun qD 0 (c :: r) = 0 := h0 3 (by omega)
    have b6 : sgn (c :: r) = 0 := by rw [← sgn_run]; exact h0 4 (by omega)
    refine lex_no b1 b2 ?_ p
    unfold tokAt
    rw [b3, b5, b6]; rfl

/-- A text out of its bytes. -/
def bs (l : Bs) : ByteArray := ⟨l.toArray⟩
theorem bs_extract (s : ByteArray) (k m : Nat) : s.extract k (k + m) = bs ((s.data.toList.drop k).take m) := by
  have h := extract_list s k (k + m)
  rw [Nat.add_sub_cancel_left, Lib.toList_data] at h
  rw [← h]; rfl
/-- The four cells of a token. -/
def Lx.Tok.cells (t : Tok) : List Value := [.int .i64 t.k, .string (bs t.t), .int .i64 t.ln, .int .i64 t.co]
def rowT (T : List Tok) : List Value := T.flatMap Tok.cells
theorem rowT_append (A B : List Tok) : rowT (A ++ B) = rowT A ++ rowT B := List.flatMap_append ..
theorem rowT_one (t : Tok) : rowT [t] = t.cells := by simp [rowT]
theorem rowT_get (T : List Tok) (i j : Nat) (t : Tok) (hj : j < 4) (h : T[i]? = some t) : (rowT T)[i * 4 + j]? = t.cells[j]? := by
  induction T generalizing i with
  | nil => simp at h
  | cons u T ih =>
    rw [show u :: T = [u] ++ T from rfl, rowT_append, rowT_one]
    cases i with
    | zero =>
      simp at h; subst h
      rw [Nat.zero_mul, Nat.zero_add, List.getElem?_append_left (by simpa [Tok.cells] using hj)]
    | succ i =>
      simp at h
      rw [List.getElem?_append_right (by simp [Tok.cells]; omega)]
      rw [show (i + 1) * 4 + j - u.cells.length = i * 4 + j by simp [Tok.cells]; omega]
      exact ih i h
end Go.Proofs.YtggdhgppclnckaaGreatDoor

namespace Go.Proofs.YtggdhgppclnckaaGreatDoor
open Go Go.RowKit Lx
set_option maxRecDepth 100000

/-- What Tokens returns. -/
def GivesOut (o : Out) (w : World) (e : Ending) (w' : World) : Prop :=
  (∃ T A n c, o = .ok T ∧ e = .returned (.tuple #[.slice A n c, .agg #[.int .i64 0, .int .i64 0], .int .i64 0]) ∧ T.length = n ∧ w'.ownsRow w.heap.size 44 4 (.slice A n c) n (rowT T) ∧ Below w.heap.size w w') ∨
  (∃ l c er, o = .bad l c er ∧ er ≠ 0 ∧ e = .returned (.tuple #[.slice none 0 0, .agg #[.int .i64 l, .int .i64 c], .int .i64 er]) ∧ Below w.heap.size w w')

theorem tokens_long (s : ByteArray) (w : World) (hs : 8192 < s.size) (hm : s.size ≤ maxLen) : Calls Tryz.prog 39 #[.string s] w (GivesOut (.bad 1 1 9) w) := by
  unfold maxLen at hm
  have h1 : (8192 : Int) < (s.size : Int) := by omega
  go_enter Tryz.func39, Tryz.ntmps39
  go_wp2
  go_step3
  go_wp2
  go_region
  go_wp2
  rw [Exit.noGoto_ret]
  exact bodyPost_ret (v := .tuple #[.slice none 0 0, .agg #[.int .i64 1, .int .i64 1], .int .i64 9]) (by simp [results, Tryz.results39, go_sem]) rfl
    (Or.inr ⟨1, 1, 9, rfl, by decide, rfl, drewN_below (((Below.refl w.heap.size w).alloc (Nat.le_refl _) _).alloc (by simp) _) 1⟩)

theorem clone_x (s : ByteArray) (w : World) (hs : s.size ≤ 8192) : Calls Tryz.prog 58 #[.string s] w fun e w' => e = .returned (.string s) ∧ Below w.heap.size w w' := by
  have H := Lib.hid (Tryz.stringslite_Clone s w (by omega))
  go_enter Tryz.func58, Tryz.ntmps58
  go_wp2_with fail
  refine H.out.mono ?_
  rintro e w' ⟨rfl, hB⟩
  go_wp2
  go_ret
  exact ⟨rfl, hB⟩
end Go.Proofs.YtggdhgppclnckaaGreatDoor
