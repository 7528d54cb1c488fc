/-
  exactppllaw08: agrees, awake.
-/
import Derived.Test.YtenobkhiekhohaaLexZ
import Derived.Laws.StructEq
namespace Go.Proofs.Ytenobkhiekhohaa
open Go Go.RowKit Lx
set_option maxRecDepth 20000

theorem eq_pos (W : World) (a b : Int) : (Op.equalIn 10000 32 (.agg #[.int .i64 a, .int .i64 b]) (.agg #[.int .i64 a, .int .i64 b])).run Try.prog W = .ok true W := by
  rw [run_equalIn_struct W 9999 32 _ _ (by kernel_rfl) (by kernel_rfl)]
  go_simp
theorem eq_tok (W : World) (k l c : Int) (t : ByteArray) : (Op.equalIn 10000 37 (.agg #[.int .i64 k, .string t, .int .i64 l, .int .i64 c]) (.agg #[.int .i64 k, .string t, .int .i64 l, .int .i64 c])).run Try.prog W = .ok true W := by
  rw [run_equalIn_struct W 9999 37 _ _ (by kernel_rfl) (by kernel_rfl)]
  go_simp
theorem row_below {B : Nat} {w w' : World} {e : TypeId} {size : Nat} {v : Value} {n : Nat} {xs : List Value} (h : w.ownsRow B e size v n xs) (hb : Below w.heap.size w w') : w'.ownsRow B e size v n xs := by
  obtain ⟨h1, h2⟩ := h
  refine ⟨h1, ?_⟩
  rcases h2 with h2 | ⟨g', cap, cur, e1, e2, e3, e4⟩
  · exact Or.inl h2
  · refine Or.inr ⟨g', cap, cur, e1, e2, ?_, e4⟩
    have hlt : g' < w.heap.size := by
      rcases Nat.lt_or_ge g' w.heap.size with h | h
      · exact h
      · rw [Array.getElem?_eq_none h] at e3; cases e3
    rw [hb.block g' hlt]; exact e3
theorem row_cap {B : Nat} {w : World} {e : TypeId} {size : Nat} {A : Option Addr} {n c : Nat} {xs : List Value} (h : w.ownsRow B e size (.slice A n c) n xs) : n ≤ 9223372036854775807 := by
  obtain ⟨h1, h2⟩ := h
  rcases h2 with h2 | ⟨g', cap, cur, e1, e2, e3, e4, e5, _⟩
  · have := h2.2; omega
  · unfold maxLen at e5; omega
/-- The four cells of token i. -/
structure TkCells (w : World) (g i : Nat) (t : Tok) : Prop where
  c0 : w.cell? ⟨g, i * 4, none⟩ = some (.int .i64 t.k)
  c1 : w.cell? ⟨g, i * 4 + 1, none⟩ = some (.string (bs t.t))
  c2 : w.cell? ⟨g, i * 4 + 2, none⟩ = some (.int .i64 t.ln)
  c3 : w.cell? ⟨g, i * 4 + 3, none⟩ = some (.int .i64 t.co)
theorem row_tok {w : World} {B : Nat} {A : Option Addr} {n c : Nat} {T : List Tok} (h : w.ownsRow B 37 4 (.slice A n c) n (rowT T)) (hT : T.length = n) (hn : 0 < n) :
    ∃ g, A = some ⟨g, 0, none⟩ ∧ B ≤ g ∧ g < w.heap.size ∧ ∀ i t, T[i]? = some t → TkCells w g i t := by
  obtain ⟨g, cap, e, hb, hg⟩ := h.form hn
  injection e with e1 e2 e3
  subst e1 e3
  refine ⟨g, rfl, hb, hg, fun i t ht => ?_⟩
  have hi : i < n := by rw [← hT]; exact (List.getElem?_eq_some_iff.1 ht).1
  have key : ∀ j, j < 4 → w.cell? ⟨g, i * 4 + j, none⟩ = t.cells[j]? := fun j hj => by
    rw [h.cellAt (i * 4 + j) (by omega), rowT_get T i j t hj ht]
  exact ⟨key 0 (by omega), key 1 (by omega), key 2 (by omega), key 3 (by omega)⟩
theorem TkCells.keep {w w' : World} {g i : Nat} {t : Tok} (h : TkCells w g i t) (hb : w'.heap[g]? = w.heap[g]?) : TkCells w' g i t :=
  ⟨(World.cell?_of_block (a := ⟨g, i * 4, none⟩) hb).trans h.c0, (World.cell?_of_block (a := ⟨g, i * 4 + 1, none⟩) hb).trans h.c1, (World.cell?_of_block (a := ⟨g, i * 4 + 2, none⟩) hb).trans h.c2, (World.cell?_of_block (a := ⟨g, i * 4 + 3, none⟩) hb).trans h.c3⟩

set_option maxHeartbeats 4000000 in
theorem agrees_x (s : ByteArray) (w : World) (hm : s.size ≤ maxLen) : Calls Try.prog 9 #[.string s] w (SaysTrue w) := by
  obtain ⟨o, ho⟩ : ∃ o, (if s.size ≤ 8192 then lex s.toList (1, 1) else .bad 1 1 9) = o := ⟨_, rfl⟩
  have H1 : Hid (Calls Try.prog 14 #[.string s] w (GivesOut o w)) := by rw [← ho]; exact tokens_x s w hm
  have H2 : Hid (∀ W, Calls Try.prog 15 #[.string s] W (GivesOut o W)) := fun W => by rw [← ho]; exact ref_x s W hm
  clear ho
  go_enter Try.func9, Try.ntmps9
  go_wp2_with fail
  refine H1.out.mono ?_
  rintro e w1 (⟨T, A, n, c, rfl, rfl, hTn, hown, hb1⟩ | ⟨l, co, er, rfl, her, rfl, hb1⟩)
  · obtain ⟨w2, hw2⟩ : ∃ w2, w1.alloc (.cells #[.int .i64 0, .int .i64 0] 32) = w2 := ⟨_, rfl⟩
    obtain ⟨g2, hg2⟩ : ∃ g2, w1.heap.size = g2 := ⟨_, rfl⟩
    have hb2 : Below w1.heap.size w1 w2 := hw2 ▸ allocB _ _
    have H22 : Hid (Two w2 g2 0 0) := by show Two _ _ _ _; rw [← hw2, ← hg2]; exact ⟨by simp, by simp, by simp, by simp⟩
    have HOW := Lib.hid (row_below hown hb2)
    have HW2 := Lib.hid hw2
    have HG2 := Lib.hid hg2
    have HB2 := Lib.hid (nextB hb1 hb2)
    clear hw2 hg2 hb2 hb1 hown
    go_wp2_with fail
    rw [HW2.out, HG2.out]
    refine (H2.out w2).mono ?_
    rintro e w3 (⟨T', A', n', c', hT', rfl, hTn', hown', hb3⟩ | ⟨l, co, er, hT', _, _, _⟩)
    · injection hT' with hT'
      subst hT'
      obtain rfl : n' = n := by omega
      obtain ⟨w4, hw4⟩ : ∃ w4, w3.alloc (.cells #[.int .i64 0, .int .i64 0] 32) = w4 := ⟨_, rfl⟩
      obtain ⟨g4, hg4⟩ : ∃ g4, w3.heap.size = g4 := ⟨_, rfl⟩
      have hb4 : Below w3.heap.size w3 w4 := hw4 ▸ allocB _ _
      have h44 : Two w4 g4 0 0 := by rw [← hw4, ← hg4]; exact ⟨by simp, by simp, by simp, by simp⟩
      have h24 : Two w4 g2 0 0 := (H22.out.below hb3 H22.out.size).below hb4 (Nat.lt_of_lt_of_le H22.out.size hb3.size)
      have HOA := Lib.hid (row_below (row_below HOW.out hb3) hb4)
      have HOB := Lib.hid (row_below hown' hb4)
      have HB4 := Lib.hid (nextB (nextB HB2.out hb3) hb4)
      clear hb3 hb4 hown' HOW HW2 HG2 H22 HB2
      have HTN := Lib.hid hTn
      clear hTn hTn'
      obtain ⟨_, p0, p1, _⟩ := h24
      obtain ⟨_, q0, q1, _⟩ := h44
      subst hw4 hg4
      go_upto_block 0 with (fail)
      clear p0 p1 q0 q1
      obtain ⟨w4, hw4⟩ : ∃ w4, w3.alloc (.cells #[.int .i64 0, .int .i64 0] 32) = w4 := ⟨_, rfl⟩
      rw [hw4] at HOA HOB HB4 ⊢
      clear hw4 H1 H2
      have hcap := row_cap HOA.out
      go_wp2_with fail
      go_loopw [9] (fun v wq => ∃ (i a : Nat), i ≤ n' ∧ v = .int .i64 i ∧ Hid (wq = w4.drewN a)) (fun v _ => n' - (intOf v).toNat)
      case atStart => exact ⟨0, 0, Nat.zero_le _, rfl, rfl⟩
      case round =>
        obtain ⟨i, a, hi, rfl, hwq⟩ := hrel
        obtain rfl := hwq.out
        clear hwq
        by_cases hlt : i < n'
        · obtain ⟨gA, rfl, _, _, hA⟩ := row_tok HOA.out HTN.out (by omega)
          obtain ⟨gB, rfl, _, _, hB⟩ := row_tok HOB.out HTN.out (by omega)
          obtain ⟨t, ht⟩ : ∃ t, T[i]? = some t := ⟨_, List.getElem?_eq_getElem (by rw [HTN.out]; exact hlt)⟩
          obtain ⟨a0, a1, a2, a3⟩ := hA i t ht
          obtain ⟨b0, b1, b2, b3⟩ := hB i t ht
          have hi0 : (0 : Int) ≤ (i : Int) := by omega
          have hin : (i : Int) < (n' : Int) := by omega
          clear hA hB ht
          go_wp2_with fail
          go_quiet (fail)
          go_wp2
          go_roundw
          case rel => exact ⟨i + 1, a + nq, by omega, by go_num, by show _ = _; first | rfl | rw [World.drewN_drewN]⟩
          case measure => simp [intOf] <;> omega
        · obtain rfl : i = n' := by omega
          go_wp2
          go_ret
          exact ⟨rfl, drewN_below HB4.out _⟩
    · cases hT'
  · obtain ⟨w2, hw2⟩ : ∃ w2, w1.alloc (.cells #[.int .i64 l, .int .i64 co] 32) = w2 := ⟨_, rfl⟩
    obtain ⟨g2, hg2⟩ : ∃ g2, w1.heap.size = g2 := ⟨_, rfl⟩
    have hb2 : Below w1.heap.size w1 w2 := hw2 ▸ allocB _ _
    have H22 : Hid (Two w2 g2 l co) := by show Two _ _ _ _; rw [← hw2, ← hg2]; exact ⟨by simp, by simp, by simp, by simp⟩
    have HW2 := Lib.hid hw2
    have HG2 := Lib.hid hg2
    have HB2 := Lib.hid (nextB hb1 hb2)
    clear hw2 hg2 hb2 hb1
    go_wp2_with fail
    rw [HW2.out, HG2.out]
    refine (H2.out w2).mono ?_
    rintro e w3 (⟨T', A', n', c', hT', _, _, _, _⟩ | ⟨l', co', er', hT', _, rfl, hb3⟩)
    · cases hT'
    · injection hT' with hT1 hT2 hT3
      subst hT1 hT2 hT3
      obtain ⟨w4, hw4⟩ : ∃ w4, w3.alloc (.cells #[.int .i64 l, .int .i64 co] 32) = w4 := ⟨_, rfl⟩
      obtain ⟨g4, hg4⟩ : ∃ g4, w3.heap.size = g4 := ⟨_, rfl⟩
      have hb4 : Below w3.heap.size w3 w4 := hw4 ▸ allocB _ _
      have h44 : Two w4 g4 l co := by rw [← hw4, ← hg4]; exact ⟨by simp, by simp, by simp, by simp⟩
      have h24 : Two w4 g2 l co := (H22.out.below hb3 H22.out.size).below hb4 (Nat.lt_of_lt_of_le H22.out.size hb3.size)
      have HB4 := Lib.hid (nextB (nextB HB2.out hb3) hb4)
      clear hb3 hb4 HW2 HG2 H22 HB2
      obtain ⟨_, p0, p1, _⟩ := h24
      obtain ⟨_, q0, q1, _⟩ := h44
      subst hw4 hg4
      go_upto_block 0 with (fail)
      clear p0 p1 q0 q1
      obtain ⟨w4, hw4⟩ : ∃ w4, w3.alloc (.cells #[.int .i64 l, .int .i64 co] 32) = w4 := ⟨_, rfl⟩
      rw [hw4] at HB4 ⊢
      clear hw4 H1 H2
      go_wp2_with fail
      go_loop [9] (fun v => v = .int .i64 0) (fun _ => 0)
      case atStart => rfl
      case round =>
        obtain rfl := hrel
        go_wp2
        go_ret
        exact ⟨rfl, HB4.out⟩

theorem awake_toks : lex [120, 49, 32, 58, 61, 32, 51, 59] (1, 1) = .ok [⟨1, [120, 49], 1, 1⟩, ⟨4, [58, 61], 1, 4⟩, ⟨2, [51], 1, 7⟩, ⟨4, [59], 1, 8⟩, ⟨5, [], 1, 9⟩] := by rfl
set_option maxHeartbeats 2000000 in
theorem awake_x (w : World) : Calls Try.prog 8 #[] w (SaysTrue w) := by
  have H1 : Hid (Calls Try.prog 14 #[.string ⟨#[120, 49, 32, 58, 61, 32, 51, 59]⟩] w (GivesOut (.ok [⟨1, [120, 49], 1, 1⟩, ⟨4, [58, 61], 1, 4⟩, ⟨2, [51], 1, 7⟩, ⟨4, [59], 1, 8⟩, ⟨5, [], 1, 9⟩]) w)) := by
    have := tokens_x ⟨#[120, 49, 32, 58, 61, 32, 51, 59]⟩ w (by unfold maxLen; decide)
    rw [if_pos (by decide), Lib.toList_data] at this
    rw [← awake_toks]; exact this
  go_enter Try.func8, Try.ntmps8
  go_wp2_with fail
  refine H1.out.mono ?_
  rintro e w1 (⟨T, A, n, c, hT, rfl, hTn, hown, hb1⟩ | ⟨l, co, er, hT, _, _, _⟩)
  · injection hT with hT
    subst hT
    obtain rfl : 5 = n := hTn
    obtain ⟨g, rfl, _, hg, hc⟩ := row_tok hown rfl (by omega)
    have k0 := (hc 0 _ rfl).keep (w' := w1.alloc (.cells #[.int .i64 0, .int .i64 0] 32)) (Below.heap_alloc w1 _ g hg)
    have k4 := (hc 4 _ rfl).keep (w' := w1.alloc (.cells #[.int .i64 0, .int .i64 0] 32)) (Below.heap_alloc w1 _ g hg)
    obtain ⟨a0, a1, a2, a3⟩ := k0
    obtain ⟨b0, b1, b2, b3⟩ := k4
    have HB := Lib.hid (nextB hb1 (allocB w1 (.cells #[.int .i64 0, .int .i64 0] 32)))
    simp only [Nat.zero_mul, Nat.zero_add, Nat.reduceMul, Nat.reduceAdd] at a0 a1 a2 a3 b0 b1 b2 b3
    clear hc hown hb1 H1
    have e1 := bs_list [120, 49]
    have e2 := bs_list []
    go_wp2
    go_ret
    exact ⟨rfl, HB.out⟩
  · cases hT
theorem lexerRaw.walk {s : ByteArray} {w : World} (hm : s.size ≤ maxLen) : Calls Try.prog 3 #[.string s] w (SaysTrue w) := by
  have HA := Lib.hid (agrees_x s w hm)
  unfold maxLen at hm
  by_cases h : (400 : Int) < (s.size : Int)
  · go_enter Try.func3, Try.ntmps3
    go_wp2_with fail
    refine (awake_x _).mono ?_
    rintro e w' ⟨rfl, hB⟩
    go_wp2
    go_ret
    exact ⟨rfl, hB⟩
  · go_enter Try.func3, Try.ntmps3
    go_wp2_with fail
    refine HA.out.mono ?_
    rintro e w1 ⟨rfl, hB1⟩
    go_wp2_with fail
    refine (awake_x _).mono ?_
    rintro e w' ⟨rfl, hB⟩
    go_wp2
    go_ret
    exact ⟨rfl, nextB hB1 hB⟩
end Go.Proofs.Ytenobkhiekhohaa
