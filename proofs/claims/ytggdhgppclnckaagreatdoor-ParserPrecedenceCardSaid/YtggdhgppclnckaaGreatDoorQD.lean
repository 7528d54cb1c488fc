/-
  What the rows of numbers and fractions of the reference need, part D.
-/
import Derived.Test.YtggdhgppclnckaaGreatDoorQC
import Derived.Deep.DeepCutAuto
namespace Go.Proofs.YtggdhgppclnckaaGreatDoor.Q
open Go.RowKit
set_option maxRecDepth 20000

theorem Frac.far3 {w : World} {s : Bool} {A B : Option Addr} {n c m d k g : Nat} {q : Rat} (h : Frac w s A n c B m d q k) (hA : 0 < n → ∀ a, A = some a → a.block ≠ g) (hB : 0 < m → ∀ a, B = some a → a.block ≠ g) (i j l : Nat) (u v z : Value) :
    Frac (((w.setCell ⟨g, i, none⟩ u).setCell ⟨g, j, none⟩ v).setCell ⟨g, l, none⟩ z) s A n c B m d q k := by
  obtain ⟨x, y, hx, hy, h3⟩ := h
  exact ⟨x, y, hx.far3 hA _ _ _ _ _ _, hy.far3 hB _ _ _ _ _ _, h3⟩
/-- Three stores: what the block holds. -/
theorem set3 {w : World} {g : Nat} {a b c x y z : Value} (H : w.cell? ⟨g, 0, none⟩ = some a ∧ w.cell? ⟨g, 1, none⟩ = some b ∧ w.cell? ⟨g, 2, none⟩ = some c) :
    (((w.setCell ⟨g, 0, none⟩ x).setCell ⟨g, 1, none⟩ y).setCell ⟨g, 2, none⟩ z).cell? ⟨g, 0, none⟩ = some x ∧ (((w.setCell ⟨g, 0, none⟩ x).setCell ⟨g, 1, none⟩ y).setCell ⟨g, 2, none⟩ z).cell? ⟨g, 1, none⟩ = some y ∧
      (((w.setCell ⟨g, 0, none⟩ x).setCell ⟨g, 1, none⟩ y).setCell ⟨g, 2, none⟩ z).cell? ⟨g, 2, none⟩ = some z := by
  refine ⟨?_, ?_, ?_⟩
  · rw [World.cell?_setCell_other _ _ _ _ (by simp), World.cell?_setCell_other _ _ _ _ (by simp)]
    exact World.cell?_setCell_same _ _ _ H.1
  · rw [World.cell?_setCell_other _ _ _ _ (by simp)]
    refine World.cell?_setCell_same _ _ _ (u := b) ?_
    rw [World.cell?_setCell_other _ _ _ _ (by simp)]; exact H.2.1
  · refine World.cell?_setCell_same _ _ _ (u := c) ?_
    rw [World.cell?_setCell_other _ _ _ _ (by simp), World.cell?_setCell_other _ _ _ _ (by simp)]; exact H.2.2

theorem sgnR_cases (q : Rat) : (q < 0 ∧ sgnR q = -1) ∨ (q = 0 ∧ sgnR q = 0) ∨ (0 < q ∧ sgnR q = 1) := by
  rcases (Rat.le_total (a := q) (b := 0)) with h | h
  · by_cases h0 : q = 0
    · exact .inr (.inl ⟨h0, by rw [h0]; exact sgnR_zero⟩)
    · have h1 := Rat.lt_of_le_of_ne h h0
      exact .inl ⟨h1, cmpR_lt h1⟩
  · by_cases h0 : q = 0
    · exact .inr (.inl ⟨h0, by rw [h0]; exact sgnR_zero⟩)
    · have h1 := Rat.lt_of_le_of_ne h (fun e => h0 e.symm)
      exact .inr (.inr ⟨h1, cmpR_gt h1⟩)
end Go.Proofs.YtggdhgppclnckaaGreatDoor.Q
namespace Go.Proofs.YtggdhgppclnckaaGreatDoor.Q
open Go.RowKit
set_option maxRecDepth 20000

theorem blank_end {w v1 w' : World} {g : Nat} (hg : g = w.heap.size) (hb1 : Below w.heap.size w v1) (hk : Below v1.heap.size v1 w') (u v z : Value) :
    Below w.heap.size w (((w'.setCell ⟨g, 0, none⟩ u).setCell ⟨g, 1, none⟩ v).setCell ⟨g, 2, none⟩ z) := by
  subst hg
  exact (((nextB hb1 hk).setCell (Nat.le_refl _) _).setCell (Nat.le_refl _) _).setCell (Nat.le_refl _) _
theorem rat_back (q : Rat) : rat (decide (q.num < 0)) (q.num.natAbs : Int) (q.den : Int) = q := by
  unfold rat
  have e : sg (decide (q.num < 0)) (q.num.natAbs : Int) = q.num := by
    by_cases h : q.num < 0
    · rw [decide_eq_true h]; simp [sg]; omega
    · rw [decide_eq_false h]; simp [sg]; omega
  rw [e]
  exact Rat.num_divInt_den q
end Go.Proofs.YtggdhgppclnckaaGreatDoor.Q

namespace Go.Proofs.YtggdhgppclnckaaGreatDoor.Q
open Go.RowKit
set_option maxRecDepth 20000

theorem RN.sgn {w : World} {s : Bool} {A B : Option Addr} {n c m d k : Nat} {q : Rat} (h : RN w s A n c B m d q k) :
    (n = 0 ∧ sgnR q = 0 ∧ s = false) ∨ (n ≠ 0 ∧ s = true ∧ sgnR q = -1) ∨ (n ≠ 0 ∧ s = false ∧ sgnR q = 1) := by
  obtain ⟨hs, hn, _⟩ := h
  have hz := hn.len_iff
  rcases sgnR_cases q with ⟨h1, h2⟩ | ⟨h1, h2⟩ | ⟨h1, h2⟩
  · have hneg : q.num < 0 := of_decide_eq_true ((rat_neg_iff (decide (q.num < 0)) (x := (q.num.natAbs : Int)) (y := (q.den : Int)) (by omega) (by have := q.den_pos; omega)).1 (by rw [rat_back]; exact h1)).1
    exact .inr (.inl ⟨fun h0 => by have := hz.1 h0; omega, by rw [hs, decide_eq_true hneg], h2⟩)
  · subst h1
    exact .inl ⟨hz.2 rfl, h2, hs⟩
  · have hpos := (rat_pos_iff (decide (q.num < 0)) (x := (q.num.natAbs : Int)) (y := (q.den : Int)) (by omega) (by have := q.den_pos; omega)).1 (by rw [rat_back]; exact h1)
    have hp2 := of_decide_eq_false hpos.1
    exact .inr (.inr ⟨fun h0 => by have := hz.1 h0; omega, by rw [hs, decide_eq_false (by omega)], h2⟩)

end Go.Proofs.YtggdhgppclnckaaGreatDoor.Q

namespace Go.Proofs.YtggdhgppclnckaaGreatDoor.Q
open Go.RowKit
set_option maxRecDepth 20000

end Go.Proofs.YtggdhgppclnckaaGreatDoor.Q

namespace Go.Proofs.YtggdhgppclnckaaGreatDoor.Q
open Go.RowKit
set_option maxRecDepth 20000

section
variable {w : World} {s s' : Bool} {A B A' B' : Option Addr} {n c m d n' c' m' d' k k' : Nat} {q q' : Rat}
end
end Go.Proofs.YtggdhgppclnckaaGreatDoor.Q

namespace Go.Proofs.YtggdhgppclnckaaGreatDoor.Q
open Go.RowKit
set_option maxRecDepth 20000

end Go.Proofs.YtggdhgppclnckaaGreatDoor.Q
namespace Go.Proofs.YtggdhgppclnckaaGreatDoor.Q
open Go.RowKit
set_option maxRecDepth 20000

/-- What the two functions that read a natural number give of a text: a value and an error code. -/
def ReadsAs (s : ByteArray) (v er : Int) : Prop :=
  (er = 0 ∧ Digs s ∧ 0 < s.size ∧ s.size ≤ 60 ∧ v = dv s.data.toList) ∨ (er = 9 ∧ Digs s ∧ 60 < s.size ∧ v = 0) ∨ (er = 4 ∧ v = 0 ∧ (s.size = 0 ∨ ∃ j, BadAt s j))
theorem ReadsAs.code {s : ByteArray} {v er : Int} (h : ReadsAs s v er) : er = 0 ∨ er = 9 ∨ er = 4 := by
  rcases h with h | h | h
  · exact .inl h.1
  · exact .inr (.inl h.1)
  · exact .inr (.inr h.1)
theorem ReadsAs.lt {s : ByteArray} {v er : Int} (h : ReadsAs s v er) : v < pw 60 := by
  rcases h with h | h | h
  · obtain ⟨_, hd, _, h1, rfl⟩ := h
    have h2 := (dv_lt s hd s.size (Nat.le_refl _)).2
    rw [List.take_of_length_le (by rw [← Lib.size_eq]; exact Nat.le_refl _)] at h2
    exact Int.lt_of_lt_of_le h2 (pw_mono h1)
  · rw [h.2.2.2]; decide
  · rw [h.2.1]; decide
/-- A number and an error code, of at most 60 limbs. -/
def GivesPE (w : World) (x er : Int) (e : Ending) (w' : World) : Prop := ∃ A n c, e = .returned (.tuple #[.slice A n c, .int .i64 er]) ∧ Nrm w' A n c x ∧ n ≤ 60 ∧ Below w.heap.size w w'
theorem nrm_nil (w : World) : Nrm w none 0 0 0 := ⟨[], Rd.nil w, Is.zero⟩
theorem natParse_e {s : ByteArray} {v er : Int} (h : ReadsAs s v er) (hs : s.size ≤ 1000000) (w : World) :
    Calls Tryz.prog 224 #[.string s] w (GivesPE w v er) := by
  have none_of : ∀ {er : Int} {e : Ending} {w' : World}, (e = .returned (.tuple #[.slice none 0 0, .int .i64 er]) ∧ w = w') → GivesPE w 0 er e w' := fun h => by
    obtain ⟨he, rfl⟩ := h
    exact ⟨_, _, _, he, nrm_nil _, Nat.zero_le _, Below.refl _ _⟩
  have hlt := h.lt
  rcases h with ⟨rfl, hd, h0, h1, rfl⟩ | ⟨rfl, hd, h1, rfl⟩ | ⟨rfl, rfl, h0 | ⟨j, hb⟩⟩
  · refine (parse_ok s w hd h0 h1).mono fun e w' h => ?_
    obtain ⟨A, n, c, he, hn, hb⟩ := h
    exact ⟨A, n, c, he, hn, hn.short hlt, hb⟩
  · exact (parse_long s w hd h1 hs).mono fun e w' h => none_of h
  · exact (parse_empty s w h0).mono fun e w' h => none_of h
  · exact (parse_bad s j w hb hs).mono fun e w' h => none_of h

/-- The empty fraction and an error code. -/
def BlankE (w : World) (er : Int) (e : Ending) (w' : World) : Prop := e = .returned (.tuple #[.agg #[.bool false, .slice none 0 0, .slice none 0 0], .int .i64 er]) ∧ Below w.heap.size w w'
/-- What the reading of a fraction gives by what the readings of its parts give. -/
def GivesQ (w : World) (neg : Bool) (v1 e1 v2 e2 : Int) (e : Ending) (w' : World) : Prop :=
  (e1 = 4 ∨ e2 = 4 → BlankE w 4 e w') ∧ (e1 ≠ 4 → e2 ≠ 4 → e1 = 9 ∨ e2 = 9 → BlankE w 9 e w') ∧ (e1 = 0 → e2 = 0 → v2 = 0 → BlankE w 3 e w') ∧ (e1 = 0 → e2 = 0 → v2 ≠ 0 → GivesROk w (rat neg v1 v2) 60 e w')
/-- The second part of a text that is cut at place i. -/
def second (b : ByteArray) (i : Nat) : ByteArray := if i < b.size then b.extract (i + 1) b.size else ⟨#[49]⟩
theorem extract_size_le (b : ByteArray) (i j : Nat) : (b.extract i j).size ≤ b.size := by simp; omega

section
variable {w w' : World} {ng : Bool} {v1 e1 v2 e2 : Int} {e : Ending}
theorem gq4 (h : e1 = 4 ∨ e2 = 4) (hb : BlankE w 4 e w') : GivesQ w ng v1 e1 v2 e2 e w' :=
  ⟨fun _ => hb, fun a b _ => by omega, fun a b => by omega, fun a b => by omega⟩
theorem gq9 (h : e1 = 9 ∨ e2 = 9) (h1 : e1 ≠ 4) (h2 : e2 ≠ 4) (hb : BlankE w 9 e w') : GivesQ w ng v1 e1 v2 e2 e w' :=
  ⟨fun a => by omega, fun _ _ _ => hb, fun a b => by omega, fun a b => by omega⟩
theorem gq3 (hb : BlankE w 3 e w') : GivesQ w ng v1 0 0 0 e w' :=
  ⟨fun a => by omega, fun _ _ a => by omega, fun _ _ _ => hb, fun _ _ a => absurd rfl a⟩
theorem gq0 (h : v2 ≠ 0) (hb : GivesROk w (rat ng v1 v2) 60 e w') : GivesQ w ng v1 0 v2 0 e w' :=
  ⟨fun a => by omega, fun _ _ a => by omega, fun _ _ a => absurd a h, fun _ _ _ => hb⟩
end
set_option maxHeartbeats 4000000 in
theorem ratParse_g (s : ByteArray) (i : Nat) (w : World) (hl : Laid w) (hs : s.size ≤ 1000000) (hc : CutAt (unsigned s) i) {v1 e1 v2 e2 : Int} (h1 : ReadsAs ((unsigned s).extract 0 i) v1 e1) (h2 : ReadsAs (second (unsigned s) i) v2 e2) :
    Calls Tryz.prog 216 #[.string s] w (GivesQ w (signed s) v1 e1 v2 e2) := by
  obtain ⟨b, hb⟩ : ∃ b, unsigned s = b := ⟨_, rfl⟩
  obtain ⟨ng, hng⟩ : ∃ ng, signed s = ng := ⟨_, rfl⟩
  obtain ⟨x1, hv1⟩ : ∃ v1, w.alloc (.cells #[.bool false, .slice none 0 0, .slice none 0 0] 50) = v1 := ⟨_, rfl⟩
  have hbs : b.size ≤ 1000000 := by rw [← hb]; exact Nat.le_trans (unsigned_size s) hs
  have HCP := Lib.hid (cutPrefix_b s x1)
  rw [hb] at hc h1 h2 HCP
  rw [hng] at HCP ⊢
  clear hng hb hs
  obtain ⟨g, hg, hsz, hb1, hZ, hF⟩ := boxes0 w _ _ _ _ x1 hv1
  have HG := Lib.hid hg
  have HSZ := Lib.hid hsz
  have HZ := Lib.hid hZ
  have HF := Lib.hid hF
  have HV := Lib.hid hv1
  clear hZ hF hv1 hsz hg
  have hl1 := hl.below hb1
  have P1 : Hid (∀ W, Calls Tryz.prog 224 #[.string (b.extract 0 i)] W (GivesPE W v1 e1)) := fun W => natParse_e h1 (Nat.le_trans (extract_size_le _ _ _) hbs) W
  have P2 : Hid (∀ W, Calls Tryz.prog 224 #[.string (second b i)] W (GivesPE W v2 e2)) := fun W => natParse_e h2 (by unfold second; split; exact Nat.le_trans (extract_size_le _ _ _) hbs; show 1 ≤ _; omega) W
  have C1 := Lib.hid h1.code
  have C2 := Lib.hid h2.code
  have ix0 : ∀ w, (Instr.index 235 (.agg #[.int .i64 4, .int .i64 9]) (.int .i64 0)).run Tryz.prog w = .ok (.int .i64 4) w := fun w => by kernel_rfl
  have ix1 : ∀ w, (Instr.index 235 (.agg #[.int .i64 4, .int .i64 9]) (.int .i64 1)).run Tryz.prog w = .ok (.int .i64 9) w := fun w => by kernel_rfl
  clear h1 h2
  go_enter Tryz.func216, Tryz.ntmps216
  go_wp2_with fail
  rw [HV.out, ← HG.out]
  refine HCP.out.mono ?_
  rintro e w' ⟨rfl, rfl⟩
  by_cases hi : i < b.size
  · have HC := Lib.hid (cut_hit b i w' hc hi hbs)
    have e2' : second b i = b.extract (i + 1) b.size := if_pos hi
    rw [e2'] at P2
    clear e2' hc
    go_wp2_with fail
    refine HC.out.mono ?_
    rintro e w3 ⟨rfl, b3⟩
    go_wp2_with fail
    refine (P1.out w3).mono ?_
    rintro e w4 ⟨A4, n4, c4, rfl, h4, l4, b4⟩
    go_wp2_with fail
    refine (P2.out w4).mono ?_
    rintro e w5 ⟨A5, n5, c5, rfl, h5, l5, b5⟩
    have hk := nextB b3 (nextB b4 b5)
    obtain ⟨o0, o1, o2⟩ := HZ.out _ hk
    obtain ⟨f0, f1, f2⟩ := HF.out _ hk
    have HX := Lib.hid (h4.num.below b5)
    have HY := Lib.hid h5.num
    have HK := Lib.hid hk
    clear h4 h5 b3 b4 b5 hk HCP HC P1 P2
    rcases C1.out with rfl | rfl | rfl <;> rcases C2.out with rfl | rfl | rfl
    · go_wp2_with fail
      refine wp_loop_rounds 3 ?_
      rw [rounds_succ]
      go_wp2_with fail
      rw [rounds_succ]
      go_wp2_with fail
      rw [rounds_succ]
      go_wp2_with fail
      by_cases h0 : v2 = 0
      · subst h0
        have HM := Lib.hid (make_zero (s := ng) (A := A4) (n := n4) (c := c4) HY.out)
        clear HX HY C1 C2
        refine HM.out.mono ?_
        rintro e w6 ⟨rfl, b6⟩
        have hk := nextB HK.out b6
        obtain ⟨o0, o1, o2⟩ := HZ.out _ hk
        obtain ⟨f0, f1, f2⟩ := HF.out _ hk
        go_wp2
        exact bodyPost_ret (v := .tuple #[.agg #[.bool false, .slice none 0 0, .slice none 0 0], .int .i64 3]) (by simp [results, Tryz.results216, go_sem, o0, o1, o2]) rfl (gq3 ⟨rfl, blank_end HG.out hb1 hk _ _ _⟩)
      · have HN : Hid (v2 ≠ 0) := h0
        have hfr : Frac w5 ng A4 n4 c4 A5 n5 c5 (rat ng v1 v2) 60 := ⟨v1, v2, HX.out, HY.out, by have := HY.out.nonneg; omega, rfl, l4, l5⟩
        have HM := Lib.hid (make_r (hl1.below HK.out) hfr (by omega))
        clear HX HY C1 C2 hfr h0
        refine HM.out.mono ?_
        rintro e w6 ⟨t9, A9, n9, c9, B9, m9, d9, rfl, r9, oA9, oB9, b9⟩
        have hz9 := HK.out.size
        have hk := nextB HK.out b9
        obtain ⟨o0, o1, o2⟩ := HZ.out _ hk
        obtain ⟨f0, f1, f2⟩ := HF.out _ hk
        go_wp2
        exact bodyPost_ret (v := .tuple #[.agg #[.bool t9, .slice A9 n9 c9, .slice B9 m9 d9], .int .i64 0]) (by simp [results, Tryz.results216, go_sem, o0, o1, o2]) rfl (gq0 HN.out ⟨_, _, _, _, _, _, _, rfl,
          store_end r9 oA9 oB9 (by have := HSZ.out; omega) (by rw [HG.out]; omega) (nextB hb1 hk) _ _ _⟩)
    · go_wp2_with fail
      refine wp_loop_rounds 3 ?_
      rw [rounds_succ]
      go_wp2_with fail
      rw [rounds_succ]
      go_wp2_with fail
      exact bodyPost_ret (v := .tuple #[.agg #[.bool false, .slice none 0 0, .slice none 0 0], .int .i64 9]) (by simp [results, Tryz.results216, go_sem, o0, o1, o2]) rfl (gq9 (by decide) (by decide) (by decide) ⟨rfl, blank_end HG.out hb1 HK.out _ _ _⟩)
    · go_wp2_with fail
      refine wp_loop_rounds 3 ?_
      rw [rounds_succ]
      go_wp2_with fail
      exact bodyPost_ret (v := .tuple #[.agg #[.bool false, .slice none 0 0, .slice none 0 0], .int .i64 4]) (by simp [results, Tryz.results216, go_sem, o0, o1, o2]) rfl (gq4 (by decide) ⟨rfl, blank_end HG.out hb1 HK.out _ _ _⟩)
    · go_wp2_with fail
      refine wp_loop_rounds 3 ?_
      rw [rounds_succ]
      go_wp2_with fail
      rw [rounds_succ]
      go_wp2_with fail
      exact bodyPost_ret (v := .tuple #[.agg #[.bool false, .slice none 0 0, .slice none 0 0], .int .i64 9]) (by simp [results, Tryz.results216, go_sem, o0, o1, o2]) rfl (gq9 (by decide) (by decide) (by decide) ⟨rfl, blank_end HG.out hb1 HK.out _ _ _⟩)
    · go_wp2_with fail
      refine wp_loop_rounds 3 ?_
      rw [rounds_succ]
      go_wp2_with fail
      rw [rounds_succ]
      go_wp2_with fail
      exact bodyPost_ret (v := .tuple #[.agg #[.bool false, .slice none 0 0, .slice none 0 0], .int .i64 9]) (by simp [results, Tryz.results216, go_sem, o0, o1, o2]) rfl (gq9 (by decide) (by decide) (by decide) ⟨rfl, blank_end HG.out hb1 HK.out _ _ _⟩)
    · go_wp2_with fail
      refine wp_loop_rounds 3 ?_
      rw [rounds_succ]
      go_wp2_with fail
      exact bodyPost_ret (v := .tuple #[.agg #[.bool false, .slice none 0 0, .slice none 0 0], .int .i64 4]) (by simp [results, Tryz.results216, go_sem, o0, o1, o2]) rfl (gq4 (by decide) ⟨rfl, blank_end HG.out hb1 HK.out _ _ _⟩)
    · go_wp2_with fail
      refine wp_loop_rounds 3 ?_
      rw [rounds_succ]
      go_wp2_with fail
      exact bodyPost_ret (v := .tuple #[.agg #[.bool false, .slice none 0 0, .slice none 0 0], .int .i64 4]) (by simp [results, Tryz.results216, go_sem, o0, o1, o2]) rfl (gq4 (by decide) ⟨rfl, blank_end HG.out hb1 HK.out _ _ _⟩)
    · go_wp2_with fail
      refine wp_loop_rounds 3 ?_
      rw [rounds_succ]
      go_wp2_with fail
      exact bodyPost_ret (v := .tuple #[.agg #[.bool false, .slice none 0 0, .slice none 0 0], .int .i64 4]) (by simp [results, Tryz.results216, go_sem, o0, o1, o2]) rfl (gq4 (by decide) ⟨rfl, blank_end HG.out hb1 HK.out _ _ _⟩)
    · go_wp2_with fail
      refine wp_loop_rounds 3 ?_
      rw [rounds_succ]
      go_wp2_with fail
      exact bodyPost_ret (v := .tuple #[.agg #[.bool false, .slice none 0 0, .slice none 0 0], .int .i64 4]) (by simp [results, Tryz.results216, go_sem, o0, o1, o2]) rfl (gq4 (by decide) ⟨rfl, blank_end HG.out hb1 HK.out _ _ _⟩)
  · obtain rfl : i = b.size := by have := hc.1; omega
    have HC := Lib.hid (cut_miss b w' hc)
    have e2' : second b b.size = ⟨#[49]⟩ := if_neg (Nat.lt_irrefl _)
    have e1' : b.extract 0 b.size = b := by simp
    rw [e2'] at P2
    rw [e1'] at P1
    clear e2' e1' hc
    go_wp2_with fail
    refine HC.out.mono ?_
    rintro e w3 ⟨rfl, b3⟩
    go_wp2_with fail
    refine (P1.out w3).mono ?_
    rintro e w4 ⟨A4, n4, c4, rfl, h4, l4, b4⟩
    go_wp2_with fail
    refine (P2.out w4).mono ?_
    rintro e w5 ⟨A5, n5, c5, rfl, h5, l5, b5⟩
    have hk := nextB b3 (nextB b4 b5)
    obtain ⟨o0, o1, o2⟩ := HZ.out _ hk
    obtain ⟨f0, f1, f2⟩ := HF.out _ hk
    have HX := Lib.hid (h4.num.below b5)
    have HY := Lib.hid h5.num
    have HK := Lib.hid hk
    clear h4 h5 b3 b4 b5 hk HCP HC P1 P2
    rcases C1.out with rfl | rfl | rfl <;> rcases C2.out with rfl | rfl | rfl
    · go_wp2_with fail
      refine wp_loop_rounds 3 ?_
      rw [rounds_succ]
      go_wp2_with fail
      rw [rounds_succ]
      go_wp2_with fail
      rw [rounds_succ]
      go_wp2_with fail
      by_cases h0 : v2 = 0
      · subst h0
        have HM := Lib.hid (make_zero (s := ng) (A := A4) (n := n4) (c := c4) HY.out)
        clear HX HY C1 C2
        refine HM.out.mono ?_
        rintro e w6 ⟨rfl, b6⟩
        have hk := nextB HK.out b6
        obtain ⟨o0, o1, o2⟩ := HZ.out _ hk
        obtain ⟨f0, f1, f2⟩ := HF.out _ hk
        go_wp2
        exact bodyPost_ret (v := .tuple #[.agg #[.bool false, .slice none 0 0, .slice none 0 0], .int .i64 3]) (by simp [results, Tryz.results216, go_sem, o0, o1, o2]) rfl (gq3 ⟨rfl, blank_end HG.out hb1 hk _ _ _⟩)
      · have HN : Hid (v2 ≠ 0) := h0
        have hfr : Frac w5 ng A4 n4 c4 A5 n5 c5 (rat ng v1 v2) 60 := ⟨v1, v2, HX.out, HY.out, by have := HY.out.nonneg; omega, rfl, l4, l5⟩
        have HM := Lib.hid (make_r (hl1.below HK.out) hfr (by omega))
        clear HX HY C1 C2 hfr h0
        refine HM.out.mono ?_
        rintro e w6 ⟨t9, A9, n9, c9, B9, m9, d9, rfl, r9, oA9, oB9, b9⟩
        have hz9 := HK.out.size
        have hk := nextB HK.out b9
        obtain ⟨o0, o1, o2⟩ := HZ.out _ hk
        obtain ⟨f0, f1, f2⟩ := HF.out _ hk
        go_wp2
        exact bodyPost_ret (v := .tuple #[.agg #[.bool t9, .slice A9 n9 c9, .slice B9 m9 d9], .int .i64 0]) (by simp [results, Tryz.results216, go_sem, o0, o1, o2]) rfl (gq0 HN.out ⟨_, _, _, _, _, _, _, rfl,
          store_end r9 oA9 oB9 (by have := HSZ.out; omega) (by rw [HG.out]; omega) (nextB hb1 hk) _ _ _⟩)
    · go_wp2_with fail
      refine wp_loop_rounds 3 ?_
      rw [rounds_succ]
      go_wp2_with fail
      rw [rounds_succ]
      go_wp2_with fail
      exact bodyPost_ret (v := .tuple #[.agg #[.bool false, .slice none 0 0, .slice none 0 0], .int .i64 9]) (by simp [results, Tryz.results216, go_sem, o0, o1, o2]) rfl (gq9 (by decide) (by decide) (by decide) ⟨rfl, blank_end HG.out hb1 HK.out _ _ _⟩)
    · go_wp2_with fail
      refine wp_loop_rounds 3 ?_
      rw [rounds_succ]
      go_wp2_with fail
      exact bodyPost_ret (v := .tuple #[.agg #[.bool false, .slice none 0 0, .slice none 0 0], .int .i64 4]) (by simp [results, Tryz.results216, go_sem, o0, o1, o2]) rfl (gq4 (by decide) ⟨rfl, blank_end HG.out hb1 HK.out _ _ _⟩)
    · go_wp2_with fail
      refine wp_loop_rounds 3 ?_
      rw [rounds_succ]
      go_wp2_with fail
      rw [rounds_succ]
      go_wp2_with fail
      exact bodyPost_ret (v := .tuple #[.agg #[.bool false, .slice none 0 0, .slice none 0 0], .int .i64 9]) (by simp [results, Tryz.results216, go_sem, o0, o1, o2]) rfl (gq9 (by decide) (by decide) (by decide) ⟨rfl, blank_end HG.out hb1 HK.out _ _ _⟩)
    · go_wp2_with fail
      refine wp_loop_rounds 3 ?_
      rw [rounds_succ]
      go_wp2_with fail
      rw [rounds_succ]
      go_wp2_with fail
      exact bodyPost_ret (v := .tuple #[.agg #[.bool false, .slice none 0 0, .slice none 0 0], .int .i64 9]) (by simp [results, Tryz.results216, go_sem, o0, o1, o2]) rfl (gq9 (by decide) (by decide) (by decide) ⟨rfl, blank_end HG.out hb1 HK.out _ _ _⟩)
    · go_wp2_with fail
      refine wp_loop_rounds 3 ?_
      rw [rounds_succ]
      go_wp2_with fail
      exact bodyPost_ret (v := .tuple #[.agg #[.bool false, .slice none 0 0, .slice none 0 0], .int .i64 4]) (by simp [results, Tryz.results216, go_sem, o0, o1, o2]) rfl (gq4 (by decide) ⟨rfl, blank_end HG.out hb1 HK.out _ _ _⟩)
    · go_wp2_with fail
      refine wp_loop_rounds 3 ?_
      rw [rounds_succ]
      go_wp2_with fail
      exact bodyPost_ret (v := .tuple #[.agg #[.bool false, .slice none 0 0, .slice none 0 0], .int .i64 4]) (by simp [results, Tryz.results216, go_sem, o0, o1, o2]) rfl (gq4 (by decide) ⟨rfl, blank_end HG.out hb1 HK.out _ _ _⟩)
    · go_wp2_with fail
      refine wp_loop_rounds 3 ?_
      rw [rounds_succ]
      go_wp2_with fail
      exact bodyPost_ret (v := .tuple #[.agg #[.bool false, .slice none 0 0, .slice none 0 0], .int .i64 4]) (by simp [results, Tryz.results216, go_sem, o0, o1, o2]) rfl (gq4 (by decide) ⟨rfl, blank_end HG.out hb1 HK.out _ _ _⟩)
    · go_wp2_with fail
      refine wp_loop_rounds 3 ?_
      rw [rounds_succ]
      go_wp2_with fail
      exact bodyPost_ret (v := .tuple #[.agg #[.bool false, .slice none 0 0, .slice none 0 0], .int .i64 4]) (by simp [results, Tryz.results216, go_sem, o0, o1, o2]) rfl (gq4 (by decide) ⟨rfl, blank_end HG.out hb1 HK.out _ _ _⟩)
end Go.Proofs.YtggdhgppclnckaaGreatDoor.Q
namespace Go.Proofs.YtggdhgppclnckaaGreatDoor.Q
open Go.RowKit
set_option maxRecDepth 20000

end Go.Proofs.YtggdhgppclnckaaGreatDoor.Q

namespace Go.Proofs.YtggdhgppclnckaaGreatDoor.Q
open Go.RowKit
set_option maxRecDepth 20000

end Go.Proofs.YtggdhgppclnckaaGreatDoor.Q

namespace Go.Proofs.YtggdhgppclnckaaGreatDoor.Q
open Go.RowKit
set_option maxRecDepth 20000

/-- What the outer box of Power holds after j rounds. -/
def Out (v : World) (go : Nat) (q : Rat) (K : Nat) (wr : World) : Prop :=
  ∃ s A n c B m d, (wr.cell? ⟨go, 0, none⟩ = some (.bool s) ∧ wr.cell? ⟨go, 1, none⟩ = some (.slice A n c) ∧ wr.cell? ⟨go, 2, none⟩ = some (.slice B m d)) ∧
    (wr.frozen? ⟨go, 0, none⟩ = false ∧ wr.frozen? ⟨go, 1, none⟩ = false ∧ wr.frozen? ⟨go, 2, none⟩ = false) ∧ RN wr s A n c B m d q K ∧ Off v.heap.size A ∧ Off v.heap.size B ∧ go < wr.heap.size ∧ Below v.heap.size v wr

end Go.Proofs.YtggdhgppclnckaaGreatDoor.Q
