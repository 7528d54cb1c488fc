/-
  The text of a fraction, cut apart again: its sign, its numerator, its denominator.
-/
import Derived.Test.YtekalaihfmfkkaaGreatDoorRatP
namespace Go.Proofs.YtekalaihfmfkkaaGreatDoor
open Go.RowKit
set_option maxRecDepth 20000

theorem rev_range (N : Nat) : ∀ b ∈ revDig N, 48 ≤ (b.toNat : Int) ∧ (b.toNat : Int) ≤ 57 := by
  induction N using Nat.strongRecOn with
  | ind N ih =>
    intro b hb
    have hd := digit_byte N
    rcases Nat.lt_or_ge N 10 with h | h
    · rw [revDig_small h, List.mem_singleton] at hb
      rw [hb, hd]; omega
    · rw [revDig_big h, List.mem_cons] at hb
      rcases hb with rfl | hb
      · rw [hd]; omega
      · exact ih (N / 10) (by omega) b hb
theorem rev_dv (N : Nat) : dv (revDig N).reverse = (N : Int) := by
  induction N using Nat.strongRecOn with
  | ind N ih =>
    have hd := digit_byte N
    rcases Nat.lt_or_ge N 10 with h | h
    · rw [revDig_small h, List.reverse_singleton, ← List.nil_append [_], dv_snoc, hd]
      simp [dv]; omega
    · rw [revDig_big h, List.reverse_cons, dv_snoc, hd, ih (N / 10) (by omega)]
      omega
theorem dec_data (N : Nat) : (dec N).data.toList = (revDig N).reverse := by unfold dec; simp
theorem dec_byte (N : Nat) (k : Nat) (h : k < (dec N).size) : 48 ≤ ((dec N)[k].toNat : Int) ∧ ((dec N)[k].toNat : Int) ≤ 57 := by
  have h1 := at_getQ (dec N) k h
  rw [dec_data] at h1
  have h2 := List.mem_of_getElem? h1
  rw [List.mem_reverse] at h2
  exact rev_range N _ h2
theorem dec_digs (N : Nat) : Digs (dec N) := fun k h => dec_byte N k h
theorem dec_pos (N : Nat) : 0 < (dec N).size := by
  rw [Lib.size_eq, dec_data, List.length_reverse, revDig]
  simp
theorem dec_noslash (N : Nat) (k : Nat) (h : k < (dec N).size) : (dec N)[k] ≠ 47 := fun e => by
  have := dec_byte N k h
  rw [e] at this
  simp at this
theorem dec_reads_ok (N : Nat) (h : (dec N).size ≤ 60) : ReadsAs (dec N) N 0 := .inl ⟨rfl, dec_digs N, dec_pos N, h, by rw [dec_data, rev_dv]⟩
theorem dec_reads_long (N : Nat) (h : 60 < (dec N).size) : ReadsAs (dec N) 0 9 := .inr (.inl ⟨rfl, dec_digs N, h, rfl⟩)

/-- The text behind the sign. -/
def ratBody (q : Rat) : ByteArray := if q.den = 1 then dec q.num.natAbs else dec q.num.natAbs ++ (⟨#[47]⟩ ++ dec q.den)
theorem ratText_body (q : Rat) : ratText q = if q.num < 0 then ⟨#[45]⟩ ++ ratBody q else ratBody q := by
  unfold ratText ratBody
  by_cases h1 : q.num < 0
  · by_cases h2 : q.den = 1
    · rw [if_pos h1, if_pos h1, if_pos h2, if_pos h2]
    · rw [if_pos h1, if_pos h1, if_neg h2, if_neg h2, ByteArray.append_assoc]
  · by_cases h2 : q.den = 1
    · rw [if_neg h1, if_neg h1, if_pos h2]
    · rw [if_neg h1, if_neg h1, if_neg h2]
theorem ratBody_head (q : Rat) : ∃ (b : UInt8) (l : List UInt8), (ratBody q).data.toList = b :: l ∧ b ≠ 45 := by
  have h0 := dec_pos q.num.natAbs
  have hb := dec_byte q.num.natAbs 0 h0
  have hg := at_getQ (dec q.num.natAbs) 0 h0
  obtain ⟨b, l, hl⟩ : ∃ b l, (dec q.num.natAbs).data.toList = b :: l := by
    cases h : (dec q.num.natAbs).data.toList with
    | nil => rw [h] at hg; cases hg
    | cons b l => exact ⟨b, l, rfl⟩
  rw [hl] at hg
  injection hg with hg
  rw [← hg] at hb
  have hne : b ≠ 45 := fun e => by rw [e] at hb; simp at hb
  unfold ratBody
  by_cases h2 : q.den = 1
  · rw [if_pos h2]; exact ⟨b, l, hl, hne⟩
  · rw [if_neg h2]
    refine ⟨b, l ++ (47 :: (dec q.den).data.toList), ?_, hne⟩
    simp [hl]
theorem ratText_signed (q : Rat) : signed (ratText q) = decide (q.num < 0) := by
  rw [ratText_body]
  by_cases h : q.num < 0
  · rw [if_pos h, decide_eq_true h]
    unfold signed
    simp
  · rw [if_neg h, decide_eq_false h]
    obtain ⟨b, l, hl, hne⟩ := ratBody_head q
    unfold signed
    rw [hl]
    simp [hne]
theorem ratText_unsigned (q : Rat) : unsigned (ratText q) = ratBody q := by
  have hs := ratText_signed q
  unfold unsigned
  rw [hs]
  rw [ratText_body]
  by_cases h : q.num < 0
  · rw [if_pos h, if_pos (by rw [decide_eq_true h])]
    apply ByteArray.ext
    apply Array.ext'
    rw [Lib.extract_data]
    have hsz : (⟨#[45]⟩ ++ ratBody q : ByteArray).size = 1 + (ratBody q).size := by rw [ByteArray.size_append]; rfl
    have e : (⟨#[45]⟩ ++ ratBody q : ByteArray).data.toList = 45 :: (ratBody q).data.toList := by simp
    rw [e, hsz, List.drop_succ_cons, List.drop_zero]
    exact List.take_of_length_le (by rw [← Lib.size_eq]; omega)
  · rw [if_neg h, if_neg (by rw [decide_eq_false h]; decide)]
theorem ratBody_cut (q : Rat) : CutAt (ratBody q) (dec q.num.natAbs).size ∧ (ratBody q).extract 0 (dec q.num.natAbs).size = dec q.num.natAbs ∧ second (ratBody q) (dec q.num.natAbs).size = dec q.den := by
  unfold ratBody
  by_cases h2 : q.den = 1
  · rw [if_pos h2, h2]
    refine ⟨CutAt.whole _ (dec_noslash _), by simp, ?_⟩
    unfold second
    rw [if_neg (Nat.lt_irrefl _), dec_one]
  · rw [if_neg h2]
    refine ⟨CutAt.of_append _ _ (dec_noslash _), append_front _ _, ?_⟩
    unfold second
    have hsz : (dec q.num.natAbs).size < (dec q.num.natAbs ++ (⟨#[47]⟩ ++ dec q.den)).size := by rw [ByteArray.size_append, ByteArray.size_append]; have : (⟨#[47]⟩ : ByteArray).size = 1 := rfl; omega
    rw [if_pos hsz, append_back]
theorem rat_back (q : Rat) : rat (decide (q.num < 0)) (q.num.natAbs : Int) (q.den : Int) = q := by
  unfold rat
  have e : sg (decide (q.num < 0)) (q.num.natAbs : Int) = q.num := by
    by_cases h : q.num < 0
    · rw [decide_eq_true h]; simp [sg]; omega
    · rw [decide_eq_false h]; simp [sg]; omega
  rw [e]
  exact Rat.num_divInt_den q
end Go.Proofs.YtekalaihfmfkkaaGreatDoor
