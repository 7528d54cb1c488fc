/-
  natural.abs, findStep, window, leadingBits, apply, gcdWords: the parts of the greatest common divisor.
-/
import Derived.Test.YtdimajnadmkhiaaDoorLeh
import Derived.Test.YtdimajnadmkhiaaDoorDivN
namespace Go.Proofs.YtdimajnadmkhiaaDoor
open Go.RowKit

/-- The package-level variable noStep reads as the program's text lays it. -/
structure Laid (w : World) : Prop where
  size : 0 < w.heap.size
  c0 : w.cell? ⟨0, 0, none⟩ = some (.int .i64 1)
  c1 : w.cell? ⟨0, 1, none⟩ = some (.int .i64 0)
  c2 : w.cell? ⟨0, 2, none⟩ = some (.int .i64 0)
  c3 : w.cell? ⟨0, 3, none⟩ = some (.int .i64 1)
theorem Laid.below {w w' : World} (h : Laid w) (hb : Below w.heap.size w w') : Laid w' :=
  ⟨Nat.lt_of_lt_of_le h.size hb.size, (hb.cell (p := ⟨_, 0, none⟩) h.size).trans h.c0, (hb.cell (p := ⟨_, 1, none⟩) h.size).trans h.c1, (hb.cell (p := ⟨_, 2, none⟩) h.size).trans h.c2, (hb.cell (p := ⟨_, 3, none⟩) h.size).trans h.c3⟩
theorem Laid.drewN {w : World} (h : Laid w) (k : Nat) : Laid (w.drewN k) := ⟨h.size, h.c0, h.c1, h.c2, h.c3⟩

theorem abs_any (x : Int) (w : World) (h0 : -9223372036854775808 < x) (h1 : x ≤ 9223372036854775807) :
    Calls Tryd.prog 71 #[.int .i64 x] w fun e w' => e = .returned (.int .i64 (x.natAbs : Int)) ∧ w = w' := by
  go_enter Tryd.func71, Tryd.ntmps71
  go_wp2
  all_goals
    go_ret
    exact ⟨ret_int (by omega), rfl⟩

/-- Block g holds a step with these four numbers. -/
structure S4 (w : World) (g : Nat) (a b c d : Int) : Prop where
  lt : g < w.heap.size
  c0 : w.cell? ⟨g, 0, none⟩ = some (.int .i64 a)
  c1 : w.cell? ⟨g, 1, none⟩ = some (.int .i64 b)
  c2 : w.cell? ⟨g, 2, none⟩ = some (.int .i64 c)
  c3 : w.cell? ⟨g, 3, none⟩ = some (.int .i64 d)
  fz : ∀ i, w.frozen? ⟨g, i, none⟩ = false
theorem S4.keep {w w' : World} {g : Nat} {a b c d : Int} (h : S4 w g a b c d) (hs : w.heap.size ≤ w'.heap.size) (hk : w'.heap[g]? = w.heap[g]?) : S4 w' g a b c d :=
  ⟨by have := h.lt; omega, (World.cell?_of_block (a := ⟨g, 0, none⟩) hk).trans h.c0, (World.cell?_of_block (a := ⟨g, 1, none⟩) hk).trans h.c1, (World.cell?_of_block (a := ⟨g, 2, none⟩) hk).trans h.c2, (World.cell?_of_block (a := ⟨g, 3, none⟩) hk).trans h.c3,
    fun i => (World.frozen?_of_block (a := ⟨g, i, none⟩) hk).trans (h.fz i)⟩
theorem S4.alloc {w : World} {g : Nat} {a b c d : Int} (h : S4 w g a b c d) (o : Obj) : S4 (w.alloc o) g a b c d := h.keep (by simp) (Below.heap_alloc w o g h.lt)
theorem S4.drew {w : World} {g : Nat} {a b c d : Int} (h : S4 w g a b c d) : S4 w.drew g a b c d := h.keep (Nat.le_refl _) rfl
theorem S4.drewN {w : World} {g : Nat} {a b c d : Int} (h : S4 w g a b c d) (k : Nat) : S4 (w.drewN k) g a b c d := h.keep (Nat.le_refl _) rfl
theorem S4.far {w : World} {g : Nat} {a b c d : Int} (h : S4 w g a b c d) {p : Addr} (hp : g ≠ p.block) (u : Value) : S4 (w.setCell p u) g a b c d := h.keep (by simp [World.setCell]) (Below.heap_setCell w p u g hp)
theorem S4.new (w : World) (a b c d : Int) (t : TypeId) : S4 (w.alloc (.cells #[.int .i64 a, .int .i64 b, .int .i64 c, .int .i64 d] t)) w.heap.size a b c d :=
  ⟨by simp, by rw [World.cell?_alloc_mark]; rfl, by rw [World.cell?_alloc_mark]; rfl, by rw [World.cell?_alloc_mark]; rfl, by rw [World.cell?_alloc_mark]; rfl,
    fun i => by rw [World.frozen?_alloc_mark]; simp⟩

theorem S4.set0 {w : World} {g : Nat} {a b c d : Int} (h : S4 w g a b c d) (x : Int) : S4 (w.setCell ⟨g, 0, none⟩ (.int .i64 x)) g x b c d :=
  ⟨by simpa [World.setCell] using h.lt, World.cell?_setCell_same w _ _ h.c0, (World.cell?_setCell_other w _ _ _ (by simp)).trans h.c1, (World.cell?_setCell_other w _ _ _ (by simp)).trans h.c2, (World.cell?_setCell_other w _ _ _ (by simp)).trans h.c3, fun i => by rw [World.frozen?_setCell]; exact h.fz i⟩
theorem S4.set1 {w : World} {g : Nat} {a b c d : Int} (h : S4 w g a b c d) (x : Int) : S4 (w.setCell ⟨g, 1, none⟩ (.int .i64 x)) g a x c d :=
  ⟨by simpa [World.setCell] using h.lt, (World.cell?_setCell_other w _ _ _ (by simp)).trans h.c0, World.cell?_setCell_same w _ _ h.c1, (World.cell?_setCell_other w _ _ _ (by simp)).trans h.c2, (World.cell?_setCell_other w _ _ _ (by simp)).trans h.c3, fun i => by rw [World.frozen?_setCell]; exact h.fz i⟩
theorem S4.set2 {w : World} {g : Nat} {a b c d : Int} (h : S4 w g a b c d) (x : Int) : S4 (w.setCell ⟨g, 2, none⟩ (.int .i64 x)) g a b x d :=
  ⟨by simpa [World.setCell] using h.lt, (World.cell?_setCell_other w _ _ _ (by simp)).trans h.c0, (World.cell?_setCell_other w _ _ _ (by simp)).trans h.c1, World.cell?_setCell_same w _ _ h.c2, (World.cell?_setCell_other w _ _ _ (by simp)).trans h.c3, fun i => by rw [World.frozen?_setCell]; exact h.fz i⟩
theorem S4.set3 {w : World} {g : Nat} {a b c d : Int} (h : S4 w g a b c d) (x : Int) : S4 (w.setCell ⟨g, 3, none⟩ (.int .i64 x)) g a b c x :=
  ⟨by simpa [World.setCell] using h.lt, (World.cell?_setCell_other w _ _ _ (by simp)).trans h.c0, (World.cell?_setCell_other w _ _ _ (by simp)).trans h.c1, (World.cell?_setCell_other w _ _ _ (by simp)).trans h.c2, World.cell?_setCell_same w _ _ h.c3, fun i => by rw [World.frozen?_setCell]; exact h.fz i⟩

def StepPost (A B : Int) (w : World) (e : Ending) (w' : World) : Prop :=
  ∃ u0 v0 u1 v1 σ p0 m0 p1 m1, e = .returned (.agg #[.int .i64 u0, .int .i64 v0, .int .i64 u1, .int .i64 v1]) ∧ Lem A B σ p0 m0 p1 m1 ∧ u0 = σ * p0 ∧ v0 = -(σ * m0) ∧ u1 = -(σ * p1) ∧ v1 = σ * m1 ∧ Below w.heap.size w w'

set_option maxHeartbeats 2000000 in
theorem findStep_any (A B : Int) (w : World) (hl : Laid w) (hB : 0 ≤ B) (hBA : B ≤ A) (hA : A < 4611686018427387904) :
    Calls Tryd.prog 60 #[.int .i64 A, .int .i64 B] w (StepPost A B w) := by
  obtain ⟨l0, l1, l2, l3, l4⟩ := hl
  go_enter Tryd.func60, Tryd.ntmps60
  go_wp2
  have hs0 := S4.new w 0 0 0 0 75
  have hs1 := S4.new (w.alloc (.cells #[.int .i64 0, .int .i64 0, .int .i64 0, .int .i64 0] 75)) 1 0 0 1 75
  have hs0' := hs0.alloc (.cells #[.int .i64 1, .int .i64 0, .int .i64 0, .int .i64 1] 75)
  rw [World.size_alloc] at hs1
  have hB0 := ((Below.refl w.heap.size w).alloc (Nat.le_refl _) (.cells #[.int .i64 0, .int .i64 0, .int .i64 0, .int .i64 0] 75)).alloc (by simp) (.cells #[.int .i64 1, .int .i64 0, .int .i64 0, .int .i64 1] 75)
  go_loopw [0, 1] (fun av bv wr => ∃ a b σ p0 m0 p1 m1 u0 v0 u1 v1 : Int, av = .int .i64 a ∧ bv = .int .i64 b ∧ Hid (LemAt A B σ p0 m0 p1 m1 a b) ∧ Hid (u0 = σ * p0 ∧ v0 = -(σ * m0) ∧ u1 = -(σ * p1) ∧ v1 = σ * m1) ∧
      (0 ≤ b ∧ b ≤ a ∧ a < 4611686018427387904) ∧ S4 wr w.heap.size 0 0 0 0 ∧ S4 wr (w.heap.size + 1) u0 v0 u1 v1 ∧ Below w.heap.size w wr) (fun _ bv _ => (intOf bv).toNat)
  case atStart => exact ⟨A, B, 1, 1, 0, 0, 1, 1, 0, 0, 1, rfl, rfl, LemAt.start A B hB hBA, ⟨by omega, by omega, by omega, by omega⟩, ⟨hB, hBA, hA⟩, hs0', hs1, hB0⟩
  case round =>
    obtain ⟨a, b, σ, p0, m0, p1, m1, u0, v0, u1, v1, rfl, rfl, hL, hE, ⟨b0, b1, b2⟩, hr0, hr1, hBw⟩ := hrel
    clear hs0 hs1 hs0' hB0 l0 l1 l2 l3 l4
    by_cases hz : b = 0
    · subst hz
      obtain ⟨x0, y0, y1, y2, y3, yf⟩ := hr1
      obtain ⟨z0, r0, r1, r2, r3, rf⟩ := hr0
      have f0 := yf 0
      have f1 := yf 1
      have f2 := yf 2
      have f3 := yf 3
      have g0 := rf 0
      have g1 := rf 1
      have g2 := rf 2
      have g3 := rf 3
      have YF := Lib.hid yf
      have RF := Lib.hid rf
      clear yf rf
      go_wp2
      refine bodyPost_ret (v := .agg #[.int .i64 u0, .int .i64 v0, .int .i64 u1, .int .i64 v1]) (by simp [results, Tryd.results60, go_sem, r0, r1, r2, r3]) rfl ?_
      exact ⟨u0, v0, u1, v1, σ, p0, m0, p1, m1, rfl, hL.out.lem, hE.out.1, hE.out.2.1, hE.out.2.2.1, hE.out.2.2.2,
        (((hBw.setCell (Nat.le_refl _) _).setCell (Nat.le_refl _) _).setCell (Nat.le_refl _) _).setCell (Nat.le_refl _) _⟩
    · have b1' : 1 ≤ b := by omega
      obtain ⟨hl, ha, hb, _, _, aA, room⟩ := hL.out
      obtain ⟨e1, e2, e3, e4⟩ := hE.out
      have hm1b := room hz
      have q1 : 1 ≤ a / b := Int.le_ediv_of_mul_le (by omega) (by omega)
      have r0' := Int.emod_nonneg a hz
      have r1' := Int.emod_lt_of_pos a (show 0 < b by omega)
      have hqr := Int.mul_ediv_add_emod a b
      have hqb : a / b * b ≤ a := by rw [Int.mul_comm]; omega
      have l3 := hl.p1n
      have l4 := hl.m1n
      have l5 := hl.p1m
      have l2 := hl.m0n
      have l1 := hl.p0n
      have l6 := hl.m0m
      have l7 := hl.p0m
      have ltop := hl.top
      have k1 : a / b * m1 ≤ a / b * b := le_mul' hm1b (by omega)
      have k2 : a / b * p1 ≤ a / b * m1 := le_mul' l5 (by omega)
      have k3 : 0 ≤ a / b * p1 := Int.mul_nonneg (by omega) l3
      have k4 : 1 * m1 ≤ a / b * m1 := le_mul q1 (by omega)
      have w1 : a / b * u1 = -(σ * (a / b * p1)) := by rw [e3]; grind
      have w2 : a / b * v1 = σ * (a / b * m1) := by rw [e4]; grind
      obtain ⟨m2, hm2⟩ : ∃ m2, m2 = m0 + a / b * m1 := ⟨_, rfl⟩
      have hbd : (-4611686018427387904 ≤ a / b * u1 ∧ a / b * u1 ≤ 4611686018427387904) ∧ (-4611686018427387904 ≤ a / b * v1 ∧ a / b * v1 ≤ 4611686018427387904) ∧ (-2147483648 ≤ u0 ∧ u0 ≤ 2147483648) ∧ (-2147483648 ≤ v0 ∧ v0 ≤ 2147483648) ∧
          (-2147483648 ≤ v1 ∧ v1 ≤ 2147483648) ∧ ((v0 - a / b * v1).natAbs : Int) = m2 ∧ ((v1 - (v0 - a / b * v1)).natAbs : Int) = m1 + m2 := by
        rw [w1, w2, e1, e2, e4]
        rcases hl.sg with s1 | s1 <;> rw [s1] <;> refine ⟨by omega, by omega, by omega, by omega, by omega, by omega, by omega⟩
      obtain ⟨⟨c1, c2⟩, ⟨c3, c4⟩, ⟨c5, c6⟩, ⟨c7, c8⟩, ⟨c9, c10⟩, n1, n2⟩ := hbd
      have HNX := Lib.hid (fun (acc1 : m0 + a / b * m1 ≤ a % b) (acc2 : m1 + (m0 + a / b * m1) ≤ b - a % b) => hL.out.next hA (by omega) q1 r0' r1' acc1 acc2)
      have HE2 : Hid (u1 = -σ * p1 ∧ v1 = -(-σ * m1) ∧ u0 - a / b * u1 = -(-σ * (p0 + a / b * p1)) ∧ v0 - a / b * v1 = -σ * (m0 + a / b * m1)) := by
        show _ ∧ _ ∧ _ ∧ _
        rw [w1, w2, e1, e2, e3, e4]
        refine ⟨by grind, by grind, by grind, by grind⟩
      have HM2 := Lib.hid hm2
      clear w1 w2 k1 k2 k3 k4 hqr hqb hm2 e1 e2 e3 e4 room ha hb hl l1 l2 l3 l4 l5 l6 l7
      generalize hq : a / b = q at *
      generalize hr : a % b = r at *
      go_wp2_with fail
      go_quiet (fail)
      have hr0q := hr0.drewN nq
      have hr1q := hr1.drewN nq
      have hBq := drewN_below hBw nq
      clear hr0 hr1 hBw
      generalize wr.drewN nq = wq at *
      have hr0a := hr0q.alloc (.cells #[.int .i64 u1, .int .i64 v1, .int .i64 (u0 - q * u1), .int .i64 (v0 - q * v1)] 75)
      have hr1a := hr1q.alloc (.cells #[.int .i64 u1, .int .i64 v1, .int .i64 (u0 - q * u1), .int .i64 (v0 - q * v1)] 75)
      have hr2a := S4.new wq u1 v1 (u0 - q * u1) (v0 - q * v1) 75
      have hBa := hBq.alloc hBq.size (.cells #[.int .i64 u1, .int .i64 v1, .int .i64 (u0 - q * u1), .int .i64 (v0 - q * v1)] 75)
      subst hq hr
      have hq' : True := trivial
      obtain ⟨x0, y0, y1, y2, y3, yf⟩ := hr2a
      obtain ⟨v0', z0, z1, z2, z3, zf⟩ := hr1q
      have YF := Lib.hid yf
      have ZF := Lib.hid zf
      clear yf zf
      go_wp2_with fail
      refine (abs_any (v0 - a / b * v1) _ (by omega) (by omega)).mono ?_
      rintro _ _ ⟨rfl, rfl⟩
      have hm2 := HM2.out
      by_cases hc1 : a % b < m2
      · have hc1' : a % b < ((v0 - a / b * v1).natAbs : Int) := by omega
        obtain ⟨x0, Y0, Y1, Y2, Y3, Yf⟩ := hr1a
        obtain ⟨X0, r0, r1, r2, r3, rf⟩ := hr0a
        have f0 := Yf 0
        have f1 := Yf 1
        have f2 := Yf 2
        have f3 := Yf 3
        have g0 := rf 0
        have g1 := rf 1
        have g2 := rf 2
        have g3 := rf 3
        clear Yf rf
        clear HNX HE2 n2
        go_wp2_with fail
        refine bodyPost_ret (v := .agg #[.int .i64 u0, .int .i64 v0, .int .i64 u1, .int .i64 v1]) (by simp [results, Tryd.results60, go_sem, r0, r1, r2, r3]) rfl ?_
        exact ⟨u0, v0, u1, v1, σ, p0, m0, p1, m1, rfl, hL.out.lem, hE.out.1, hE.out.2.1, hE.out.2.2.1, hE.out.2.2.2,
          (((hBa.setCell (Nat.le_refl _) _).setCell (Nat.le_refl _) _).setCell (Nat.le_refl _) _).setCell (Nat.le_refl _) _⟩
      · have hc1' : ¬ a % b < ((v0 - a / b * v1).natAbs : Int) := by omega
        go_wp2_with fail
        refine (abs_any (v1 - (v0 - a / b * v1)) _ (by omega) (by omega)).mono ?_
        rintro _ _ ⟨rfl, rfl⟩
        by_cases hc2 : b - a % b < m1 + m2
        · have hc2' : b - a % b < ((v1 - (v0 - a / b * v1)).natAbs : Int) := by omega
          obtain ⟨x0, Y0, Y1, Y2, Y3, Yf⟩ := hr1a
          obtain ⟨X0, r0, r1, r2, r3, rf⟩ := hr0a
          have f0 := Yf 0
          have f1 := Yf 1
          have f2 := Yf 2
          have f3 := Yf 3
          have g0 := rf 0
          have g1 := rf 1
          have g2 := rf 2
          have g3 := rf 3
          clear Yf rf
          clear HNX HE2 n2
          go_wp2_with fail
          refine bodyPost_ret (v := .agg #[.int .i64 u0, .int .i64 v0, .int .i64 u1, .int .i64 v1]) (by simp [results, Tryd.results60, go_sem, r0, r1, r2, r3]) rfl ?_
          exact ⟨u0, v0, u1, v1, σ, p0, m0, p1, m1, rfl, hL.out.lem, hE.out.1, hE.out.2.1, hE.out.2.2.1, hE.out.2.2.2,
            (((hBa.setCell (Nat.le_refl _) _).setCell (Nat.le_refl _) _).setCell (Nat.le_refl _) _).setCell (Nat.le_refl _) _⟩
        · have hc2' : ¬ b - a % b < ((v1 - (v0 - a / b * v1)).natAbs : Int) := by omega
          have hnx := HNX.out (by omega) (by omega)
          have HN := Lib.hid hnx
          clear hnx HNX
          have hr1k := hr1a
          obtain ⟨x1, Y0, Y1, Y2, Y3, Yf⟩ := hr1a
          have f0 := Yf 0
          have f1 := Yf 1
          have f2 := Yf 2
          have f3 := Yf 3
          have hr1b := Lib.hid hr1k
          have hr0b := Lib.hid hr0a
          clear Yf hr1k hr0a
          go_wp2_with fail
          generalize wq.alloc (.cells #[.int .i64 u1, .int .i64 v1, .int .i64 (u0 - a / b * u1), .int .i64 (v0 - a / b * v1)] 75) = wz at *
          go_region
          have hs1 := ((((hr1b.out.set0 u1).set1 v1).set2 (u0 - a / b * u1)).set3 (v0 - a / b * v1)).drew
          have hs0 := ((((hr0b.out.far (p := ⟨w.heap.size + 1, 0, none⟩) (by show _ ≠ _ + 1; omega) (.int .i64 u1)).far (p := ⟨w.heap.size + 1, 1, none⟩) (by show _ ≠ _ + 1; omega) (.int .i64 v1)).far (p := ⟨w.heap.size + 1, 2, none⟩) (by show _ ≠ _ + 1; omega) (.int .i64 (u0 - a / b * u1))).far (p := ⟨w.heap.size + 1, 3, none⟩) (by show _ ≠ _ + 1; omega) (.int .i64 (v0 - a / b * v1))).drew
          have hbb := drewN_below ((((hBa.setCell (p := ⟨w.heap.size + 1, 0, none⟩) (by show _ ≤ _ + 1; omega) (.int .i64 u1)).setCell (p := ⟨w.heap.size + 1, 1, none⟩) (by show _ ≤ _ + 1; omega) (.int .i64 v1)).setCell (p := ⟨w.heap.size + 1, 2, none⟩) (by show _ ≤ _ + 1; omega) (.int .i64 (u0 - a / b * u1))).setCell (p := ⟨w.heap.size + 1, 3, none⟩) (by show _ ≤ _ + 1; omega) (.int .i64 (v0 - a / b * v1))) 1
          go_wp2
          go_roundw
          case rel =>
            exact ⟨b, a % b, -σ, p1, m1, p0 + a / b * p1, m0 + a / b * m1, u1, v1, u0 - a / b * u1, v0 - a / b * v1, rfl, rfl, HN, HE2, ⟨r0', by omega, by omega⟩, hs0, hs1, hbb⟩
          case measure => simp [intOf] <;> omega

end Go.Proofs.YtdimajnadmkhiaaDoor
