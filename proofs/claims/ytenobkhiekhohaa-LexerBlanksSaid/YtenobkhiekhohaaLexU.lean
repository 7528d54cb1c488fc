/-
  The reference of layer 8: blanks; the position behind a text.
-/
import Derived.Test.YtenobkhiekhohaaLexY
namespace Go.Proofs.Ytenobkhiekhohaa
open Go Go.RowKit Lx
set_option maxRecDepth 20000

theorem mvs_bd {p : Int × Int} {a : Nat} (h : (0 ≤ p.1 ∧ p.1 ≤ a) ∧ (0 ≤ p.2 ∧ p.2 ≤ a)) (l : Bs) : (0 ≤ (mvs p l).1 ∧ (mvs p l).1 ≤ ((a + l.length : Nat) : Int)) ∧ (0 ≤ (mvs p l).2 ∧ (mvs p l).2 ≤ ((a + l.length : Nat) : Int)) := by
  induction l generalizing p a with
  | nil => simpa [mvs] using h
  | cons c r ih =>
    rw [mvs_cons]
    have := ih (p := mv p c) (a := a + 1) (by unfold mv; split <;> simp <;> omega)
    rw [List.length_cons]
    rw [show a + (r.length + 1) = a + 1 + r.length by omega]
    exact this
/-- A position lies in block g. -/
structure Two (w : World) (g : Nat) (a b : Int) : Prop where
  size : g < w.heap.size
  c0 : w.cell? ⟨g, 0, none⟩ = some (.int .i64 a)
  c1 : w.cell? ⟨g, 1, none⟩ = some (.int .i64 b)
  fr : ∀ i, w.frozen? ⟨g, i, none⟩ = false
theorem Two.keep {w w' : World} {g : Nat} {a b : Int} (h : Two w g a b) (hz : w.heap.size ≤ w'.heap.size) (hb : w'.heap[g]? = w.heap[g]?) : Two w' g a b :=
  ⟨Nat.lt_of_lt_of_le h.size hz, (World.cell?_of_block (a := ⟨g, 0, none⟩) hb).trans h.c0, (World.cell?_of_block (a := ⟨g, 1, none⟩) hb).trans h.c1, fun i => (World.frozen?_of_block (a := ⟨g, i, none⟩) hb).trans (h.fr i)⟩
theorem Two.set0 {w : World} {g : Nat} {a b : Int} (h : Two w g a b) (x : Int) : Two (w.setCell ⟨g, 0, none⟩ (.int .i64 x)) g x b :=
  ⟨by simp [World.setCell]; exact h.size, World.cell?_setCell_same _ _ _ h.c0, by rw [World.cell?_setCell_other _ _ _ _ (by simp)]; exact h.c1, fun i => by rw [World.frozen?_setCell]; exact h.fr i⟩
theorem Two.set1 {w : World} {g : Nat} {a b : Int} (h : Two w g a b) (x : Int) : Two (w.setCell ⟨g, 1, none⟩ (.int .i64 x)) g a x :=
  ⟨by simp [World.setCell]; exact h.size, by rw [World.cell?_setCell_other _ _ _ _ (by simp)]; exact h.c0, World.cell?_setCell_same _ _ _ h.c1, fun i => by rw [World.frozen?_setCell]; exact h.fr i⟩
theorem Two.far {w : World} {g g' : Nat} {a b : Int} (h : Two w g a b) (hne : g ≠ g') (i : Nat) (x : Value) : Two (w.setCell ⟨g', i, none⟩ x) g a b :=
  h.keep (by simp [World.setCell]) (Below.heap_setCell w ⟨g', i, none⟩ x g hne)
theorem Two.below {w w' : World} {g : Nat} {a b : Int} (h : Two w g a b) {B : Nat} (hB : Below B w w') (hg : g < B) : Two w' g a b := h.keep hB.size (hB.block g hg)
theorem take_byte (s : ByteArray) (k : Nat) (h : k < s.size) : s.data.toList.take (k + 1) = s.data.toList.take k ++ [s[k]] := by
  rw [List.take_succ_eq_append_getElem (by simpa using h)]; rfl

set_option maxHeartbeats 2000000 in
theorem move_x (p : Int × Int) (s : ByteArray) (w : World) (hs : s.size ≤ 8192) (hp : (0 ≤ p.1 ∧ p.1 ≤ (20000 : Nat)) ∧ (0 ≤ p.2 ∧ p.2 ≤ (20000 : Nat))) :
    Calls Try.prog 26 #[.agg #[.int .i64 p.1, .int .i64 p.2], .string s] w fun e w' => e = .returned (.agg #[.int .i64 (mvs p s.toList).1, .int .i64 (mvs p s.toList).2]) ∧ Below w.heap.size w w' := by
  rw [Lib.toList_data]
  obtain ⟨⟨r1, r2⟩, hR⟩ : ∃ R, mvs p s.data.toList = R := ⟨_, rfl⟩
  rw [hR]
  have HR := Lib.hid hR
  clear hR
  obtain ⟨g, hg⟩ : ∃ g, w.heap.size = g := ⟨_, rfl⟩
  obtain ⟨w2, hw2⟩ : ∃ w2, (w.alloc (.cells #[.int .i64 p.1, .int .i64 p.2] 32)).alloc (.cells #[.int .i64 0, .int .i64 0] 32) = w2 := ⟨_, rfl⟩
  have h1 : Two w2 g p.1 p.2 := by rw [← hw2, ← hg]; exact ⟨by simp; omega, by simp, by simp, by simp⟩
  have h2 : Two w2 (g + 1) 0 0 := by rw [← hw2, ← hg]; exact ⟨by simp, by simp, by simp, by simp⟩
  have hB : Below g w w2 := by rw [← hw2, ← hg]; exact ((Below.refl w.heap.size w).alloc (Nat.le_refl _) _).alloc (by simp) _
  have HW2 := Lib.hid hw2
  have HG := Lib.hid hg
  clear hw2 hg
  go_enter Try.func26, Try.ntmps26
  go_wp2
  rw [HW2.out, HG.out]
  go_loopw [5] (fun v wr => ∃ i : Nat, i ≤ s.size ∧ v = .int .i64 i ∧ Two wr g (mvs p (s.data.toList.take i)).1 (mvs p (s.data.toList.take i)).2 ∧ Two wr (g + 1) 0 0 ∧ Below g w wr) (fun v _ => s.size - (intOf v).toNat)
  case atStart => exact ⟨0, Nat.zero_le _, rfl, h1, h2, hB⟩
  case round =>
    obtain ⟨i, hi, rfl, k1, k2, hBr⟩ := hrel
    clear h1 h2 hB
    have hbd := mvs_bd hp (s.data.toList.take i)
    rw [List.length_take, Nat.min_eq_left (by simpa using hi)] at hbd
    by_cases hlt : i < s.size
    · have hT := take_byte s i hlt
      have hM : mvs p (s.data.toList.take (i + 1)) = mv (mvs p (s.data.toList.take i)) s[i] := by rw [hT, mvs_append]; rfl
      have HM := Lib.hid hM
      clear hT hM
      obtain ⟨q, hq⟩ : ∃ q, mvs p (s.data.toList.take i) = q := ⟨_, rfl⟩
      rw [hq] at k1 hbd HM
      clear hq
      obtain ⟨q1, q2⟩ := q
      simp only at k1 hbd
      have HK1 := Lib.hid k1
      have HK2 := Lib.hid k2
      have HBR := Lib.hid hBr
      obtain ⟨_, c0, c1, fr⟩ := k1
      have f0 := fr 0
      have f1 := fr 1
      clear fr k2 hBr
      obtain ⟨⟨b0, b1⟩, b2, b3⟩ := hbd
      by_cases hc : ((s[i].toNat : Int) == 10) = true
      · have hm : Hid (mvs p (s.data.toList.take (i + 1)) = (q1 + 1, 1)) := by show _ = _; rw [HM.out, mv_nl hc]
        go_wp2
        go_roundw
        case rel => exact ⟨i + 1, by omega, by go_num, by rw [hm.out]; exact ((HK1.out.set1 _).set0 _).set1 _, ((HK2.out.far (by omega) _ _).far (by omega) _ _).far (by omega) _ _, ((HBR.out.setCell (p := ⟨g, 1, none⟩) (Nat.le_refl _) _).setCell (p := ⟨g, 0, none⟩) (Nat.le_refl _) _).setCell (p := ⟨g, 1, none⟩) (Nat.le_refl _) _⟩
        case measure => simp [intOf] <;> omega
      · have hc' : ((s[i].toNat : Int) == 10) = false := by simpa using hc
        have hm : Hid (mvs p (s.data.toList.take (i + 1)) = (q1, q2 + 1)) := by show _ = _; rw [HM.out, mv_no hc']
        clear hc
        go_wp2
        go_roundw
        case rel => exact ⟨i + 1, by omega, by go_num, by rw [hm.out]; exact HK1.out.set1 _, HK2.out.far (by omega) _ _, HBR.out.setCell (p := ⟨g, 1, none⟩) (Nat.le_refl _) _⟩
        case measure => simp [intOf] <;> omega
    · obtain rfl : i = s.size := by omega
      have hT : s.data.toList.take s.size = s.data.toList := List.take_of_length_le (by simp)
      rw [hT, HR.out] at k1
      clear hT hbd
      obtain ⟨_, c0, c1, _⟩ := k1
      obtain ⟨_, d0, d1, fr⟩ := k2
      have f0 := fr 0
      have f1 := fr 1
      clear fr
      simp only at c0 c1
      have HBR := Lib.hid hBr
      clear hBr
      go_wp2
      exact bodyPost_ret (v := .agg #[.int .i64 r1, .int .i64 r2]) (by simp [results, Try.results26, go_sem, d0, d1]) rfl ⟨rfl, by rw [HG.out]; exact (HBR.out.setCell (p := ⟨g + 1, 0, none⟩) (by simp) _).setCell (p := ⟨g + 1, 1, none⟩) (by simp) _⟩

/-- Blanks are taken, and no more. -/
def BlankEnd (l : Bs) (n : Nat) : Prop := n ≤ l.length ∧ (∀ p, lex l p = lex (l.drop n) (mvs p (l.take n))) ∧ (∀ c r, l.drop n = c :: r → isB c.toNat = false ∧ (c.toNat : Int) ≠ 35)
def GivesBlanks (l : Bs) (w : World) (e : Ending) (w' : World) : Prop := ∃ n : Nat, e = .returned (.int .i64 n) ∧ BlankEnd l n ∧ w = w'
theorem drop_byte (s : ByteArray) (k : Nat) (h : k < s.size) : s.data.toList.drop k = s[k] :: s.data.toList.drop (k + 1) := by
  rw [List.drop_eq_getElem_cons (by simpa using h)]; rfl
theorem blank_step {s : ByteArray} {n : Nat} (h : n < s.size) (hb : isB s[n].toNat = true) (hl : ∀ p, lex s.data.toList p = lex (s.data.toList.drop n) (mvs p (s.data.toList.take n))) (p : Int × Int) :
    lex s.data.toList p = lex (s.data.toList.drop (n + 1)) (mvs p (s.data.toList.take (n + 1))) := by
  rw [hl p, drop_byte s n h, lex_blank hb, take_byte s n h, mvs_append]; rfl
theorem com_step {s : ByteArray} {n j : Nat} (h : n < s.size) (hnj : n ≤ j) (hj : j ≤ s.size) (hc : (s[n].toNat : Int) = 35) (hin : ∀ i (hi : i < s.size), n ≤ i → i < j → qC (i - n) s[i] = true) (hst : ∀ (hi : j < s.size), qC (j - n) s[j] = false)
    (hl : ∀ p, lex s.data.toList p = lex (s.data.toList.drop n) (mvs p (s.data.toList.take n))) (p : Int × Int) :
    lex s.data.toList p = lex (s.data.toList.drop j) (mvs p (s.data.toList.take j)) := by
  have hrun : gRun qC 0 (s.data.toList.drop n) = j - n := by
    refine gRun_eq _ _ _ _ (by simp; omega) (fun i hi hij => ?_) (fun hi => ?_)
    · have h1 : n + i < s.size := by simp at hi; omega
      have := hin (n + i) h1 (by omega) (by omega)
      rw [Nat.add_sub_cancel_left] at this
      rw [Nat.zero_add, List.getElem_drop]; exact this
    · have h1 : j < s.size := by simp at hi; omega
      have := hst h1
      have e : n + (j - n) = j := by omega
      rw [Nat.zero_add, List.getElem_drop]
      simp only [e]; exact this
  have h2 := drop_byte s n h
  rw [hl p]
  have h3 := lex_com (c := s[n]) (r := s.data.toList.drop (n + 1)) hc (mvs p (s.data.toList.take n))
  rw [← h2, hrun, List.drop_drop, ← mvs_append, ← List.take_add] at h3
  rw [show n + (j - n) = j by omega] at h3
  exact h3
theorem qC_true {n i : Nat} {c : UInt8} (h : n < i) (hc : (c.toNat : Int) ≠ 10) : qC (i - n) c = true := by
  unfold qC; rw [if_neg (by omega)]; simpa using hc
theorem qC_false {n i : Nat} {c : UInt8} (h : n < i) (hc : (c.toNat : Int) = 10) : qC (i - n) c = false := by
  unfold qC; rw [if_neg (by omega)]; simpa using hc
set_option maxHeartbeats 4000000 in
theorem blanks_x (s : ByteArray) (w : World) (hs : s.size ≤ 8192) : Calls Try.prog 25 #[.string s] w (GivesBlanks s.data.toList w) := by
  go_enter Try.func25, Try.ntmps25
  go_wp2
  go_loop [3] (fun v => ∃ n : Nat, n ≤ s.size ∧ v = .int .i64 n ∧ Hid (∀ p, lex s.data.toList p = lex (s.data.toList.drop n) (mvs p (s.data.toList.take n)))) (fun v => s.size - (intOf v).toNat)
  case atStart => exact ⟨0, Nat.zero_le _, rfl, fun p => by rw [List.drop_zero]; rfl⟩
  case round =>
    obtain ⟨n, hn, rfl, hl⟩ := hrel
    by_cases hlt : n < s.size
    · obtain ⟨x, hx⟩ : ∃ x : Int, (s[n].toNat : Int) = x := ⟨_, rfl⟩
      have HX := Lib.hid hx
      by_cases hb : isB x = true
      · have HL : Hid (∀ p, lex s.data.toList p = lex (s.data.toList.drop (n + 1)) (mvs p (s.data.toList.take (n + 1)))) := blank_step hlt (by rw [hx]; exact hb) hl.out
        have h3 : x = 32 ∨ x = 9 ∨ x = 10 := by unfold isB at hb; simpa using hb
        rcases h3 with h3 | h3 | h3
        all_goals
          rw [h3] at hx
          clear h3 hb hl HX
          have k1 : ((s[n].toNat : Int) == 32) = decide ((s[n].toNat : Int) = 32) := rfl
          have k2 : ((s[n].toNat : Int) == 9) = decide ((s[n].toNat : Int) = 9) := rfl
          have k3 : ((s[n].toNat : Int) == 10) = decide ((s[n].toNat : Int) = 10) := rfl
          rw [hx] at k1 k2 k3
          go_wp2
          go_round
          case rel => exact ⟨n + 1, by omega, by go_num, HL⟩
          case measure => simp [intOf] <;> omega
      · have hb' : isB (s[n].toNat : Int) = false := by rw [hx]; simpa using hb
        have h3 : x ≠ 32 ∧ x ≠ 9 ∧ x ≠ 10 := by
          unfold isB at hb; simp at hb; omega
        have k1 : ((s[n].toNat : Int) == 32) = false := by rw [hx]; simpa using h3.1
        have k2 : ((s[n].toNat : Int) == 9) = false := by rw [hx]; simpa using h3.2.1
        have k3 : ((s[n].toNat : Int) == 10) = false := by rw [hx]; simpa using h3.2.2
        have hn10 : (s[n].toNat : Int) ≠ 10 := by rw [hx]; exact h3.2.2
        by_cases h35 : x = 35
        · have hc35 : (s[n].toNat : Int) = 35 := by rw [hx]; exact h35
          have k4 : ((s[n].toNat : Int) != 35) = false := by rw [hc35]; rfl
          have HC := Lib.hid hc35
          have HN10 := Lib.hid hn10
          clear hc35 h35 h3 hb hb' hx HX hn10
          go_wp2
          go_loop [3] (fun v => ∃ j : Nat, n ≤ j ∧ j ≤ s.size ∧ v = .int .i64 j ∧ Hid (∀ i (hi : i < s.size), n ≤ i → i < j → qC (i - n) s[i] = true)) (fun v => s.size - (intOf v).toNat)
          case atStart => exact ⟨n, Nat.le_refl _, by omega, rfl, fun i _ h1 h2 => by omega⟩
          case round =>
            obtain ⟨j, hnj, hj, rfl, hin⟩ := hrel
            clear k1 k2 k3 k4
            by_cases hjl : j < s.size
            · have hjd : decide ((j : Int) < (s.size : Int)) = true := by simpa using hjl
              by_cases h10 : (s[j].toNat : Int) = 10
              · have hne : n < j := by
                  rcases Nat.lt_or_ge n j with h | h
                  · exact h
                  · have : j = n := by omega
                    subst this
                    exact absurd h10 HN10.out
                have HL := Lib.hid (com_step hlt hnj hj HC.out hin.out (fun _ => qC_false hne h10) hl.out)
                have k5 : ((s[j].toNat : Int) != 10) = false := by rw [h10]; rfl
                clear h10 hin hl
                go_wp2
                go_round
                case rel => exact ⟨j, by omega, rfl, HL⟩
                case measure => simp [intOf] <;> omega
              · have HL : Hid (∀ i (hi : i < s.size), n ≤ i → i < j + 1 → qC (i - n) s[i] = true) := fun i hi h1 h2 => by
                  rcases Nat.lt_or_ge i j with h | h
                  · exact hin.out i hi h1 h
                  · have : i = j := by omega
                    subst this
                    rcases Nat.lt_or_ge n i with h4 | h4
                    · exact qC_true h4 h10
                    · have : i = n := by omega
                      subst this
                      unfold qC; rw [Nat.sub_self, if_pos rfl]; simpa using HC.out
                have k5 : ((s[j].toNat : Int) != 10) = true := by simpa using h10
                clear h10 hin
                go_wp2
                go_round
                case rel => exact ⟨j + 1, by omega, by omega, by go_num, HL⟩
                case measure => simp [intOf] <;> omega
            · obtain rfl : j = s.size := by omega
              have HL := Lib.hid (com_step hlt hnj hj HC.out hin.out (fun h => absurd h (by omega)) hl.out)
              have hjd : decide ((s.size : Int) < (s.size : Int)) = false := by simp
              clear hin hl
              go_wp2
              go_round
              case rel => exact ⟨s.size, by omega, rfl, HL⟩
              case measure => simp [intOf] <;> omega
        · have k4 : ((s[n].toNat : Int) != 35) = true := by rw [hx]; simpa using h35
          have HE : Hid (BlankEnd s.data.toList n) := ⟨by simpa using hn, hl.out, fun c r hcr => by
            rw [drop_byte s n hlt] at hcr
            injection hcr with e1 e2
            rw [← e1]
            exact ⟨hb', by rw [hx]; exact h35⟩⟩
          clear h35 h3 hb hb' hx HX hn10 hl
          go_wp2
          go_ret
          exact ⟨n, rfl, HE.out, rfl⟩
    · obtain rfl : n = s.size := by omega
      have HE : Hid (BlankEnd s.data.toList s.size) := ⟨by simp, hl.out, fun c r hcr => by
        rw [List.drop_of_length_le (by simp)] at hcr; cases hcr⟩
      clear hl
      go_wp2
      go_ret
      exact ⟨s.size, rfl, HE.out, rfl⟩
end Go.Proofs.Ytenobkhiekhohaa
