/-
  exactppllaw01.NaturalDigits returns true for every list of limbs and every byte, whatever the memory.
-/
import Derived.Test.YtdimajnadmkhiaaParse
import Derived.OpenShut
import Derived.WalkLawsBesides
namespace Go.Proofs.Ytdimajnadmkhiaa
open Go.RowKit

theorem revDig_range (N : Nat) : ∀ b ∈ revDig N, 48 ≤ (b.toNat : Int) ∧ (b.toNat : Int) ≤ 57 := by
  induction N using Nat.strongRecOn with
  | ind N ih =>
    intro b hb
    have hd := digit_byte N
    rcases Nat.lt_or_ge N 10 with h | h
    · rw [revDig_small h, List.mem_singleton] at hb
      rw [hb, hd]; omega
    · rw [revDig_big h, List.mem_cons] at hb
      rcases hb with rfl | hb
      · rw [hd]; omega
      · exact ih (N / 10) (by omega) b hb
theorem revDig_dv (N : Nat) : dv (revDig N).reverse = (N : Int) := by
  induction N using Nat.strongRecOn with
  | ind N ih =>
    have hd := digit_byte N
    rcases Nat.lt_or_ge N 10 with h | h
    · rw [revDig_small h, List.reverse_singleton, ← List.nil_append [_], dv_snoc, hd]
      simp [dv]; omega
    · rw [revDig_big h, List.reverse_cons, dv_snoc, hd, ih (N / 10) (by omega)]
      omega
theorem revDig_last (N : Nat) (h0 : 0 < N) : ∀ b, (revDig N).getLast? = some b → (b.toNat : Int) ≠ 48 := by
  induction N using Nat.strongRecOn with
  | ind N ih =>
    intro b hb
    have hd := digit_byte N
    rcases Nat.lt_or_ge N 10 with h | h
    · rw [revDig_small h, List.getLast?_singleton] at hb
      injection hb with hb
      rw [← hb, hd]; omega
    · rw [revDig_big h] at hb
      refine ih (N / 10) (by omega) (by omega) b ?_
      rw [revDig] at hb ⊢
      simpa using hb
theorem dv_zeros (z : Nat) (l : List UInt8) : dv (List.replicate z 48 ++ l) = dv l := by
  induction z with
  | zero => rfl
  | succ z ih => rw [List.replicate_succ, List.cons_append]; exact ih

/-- The text of a number, and what the statement asks of it. -/
theorem text_facts (N : Nat) : ∃ s : ByteArray, (⟨(revDig N).reverse.toArray⟩ : ByteArray) = s ∧ s.data.toList = (revDig N).reverse ∧ ∃ h0 : 0 < s.size, ((s[0].toNat : Int) == 48) = false ∨ s = ⟨#[48]⟩ := by
  refine ⟨_, rfl, by simp, ?_⟩
  have hl : 0 < (revDig N).length := by rw [revDig]; simp
  have hsz : 0 < (⟨(revDig N).reverse.toArray⟩ : ByteArray).size := by simpa [ByteArray.size] using hl
  refine ⟨hsz, ?_⟩
  rcases Nat.eq_zero_or_pos N with h | h
  · right
    subst h
    rw [revDig_small (by decide)]; rfl
  · left
    have hlast := revDig_last N h ((⟨(revDig N).reverse.toArray⟩ : ByteArray)[0]) (by
      rw [← List.head?_reverse, List.head?_eq_getElem?]
      rw [List.getElem?_eq_getElem (by simpa using hl)]
      rfl)
    simpa using hlast

theorem zero_front (t : ByteArray) : (⟨#[48]⟩ ++ t : ByteArray).data.toList = 48 :: t.data.toList ∧ (⟨#[48]⟩ ++ t : ByteArray).size = t.size + 1 := by
  have h : (⟨#[48]⟩ ++ t : ByteArray).data.toList = 48 :: t.data.toList := by
    rw [ByteArray.data_append, Array.toList_append]; rfl
  refine ⟨h, ?_⟩
  have e : (⟨#[48]⟩ : ByteArray).size = 1 := rfl
  rw [ByteArray.size_append, e]
  omega
theorem digs_of {t : ByteArray} {z N : Nat} (h : t.data.toList = List.replicate z 48 ++ (revDig N).reverse) : Digs t := by
  intro i hi
  have hm : t[i] ∈ t.data.toList := by
    have : t[i] = t.data.toList[i]'(by simpa using hi) := by rfl
    rw [this]; exact List.getElem_mem _
  rw [h, List.mem_append] at hm
  rcases hm with hm | hm
  · rw [List.eq_of_mem_replicate hm]; decide
  · exact revDig_range N _ (List.mem_reverse.1 hm)

set_option maxHeartbeats 2000000 in
theorem digits_short (A : Option Addr) (a ca : Nat) (x z : Int) (w : World) (hx : Num w A a ca x) (h : a ≤ 24) (z0 : 0 ≤ z) (z1 : z ≤ 255) :
    Calls Try.prog 5 #[.slice A a ca, .int .u8 z] w (True1 w) := by
  obtain ⟨N, hN⟩ := Int.eq_ofNat_of_zero_le hx.nonneg
  obtain ⟨L, hr, hL⟩ := hx
  have hf := format_any A a ca L w N hr (by omega) (hL.trans hN)
  obtain ⟨s, hs, hsl, h0, hcase⟩ := text_facts N
  rw [hs] at hf
  have hlen : s.size ≤ 241 := by
    have h1 := revDig_limbs (x := x) (n := a) (N := N) (by rw [← hL]; have := val_lt hr.lims; rwa [hr.len] at this) hN
    have h2 : s.data.toList.length = s.size := by simp
    rw [hsl, List.length_reverse] at h2
    omega
  have HF := Lib.hid hf
  have hne := not_empty s h0
  obtain ⟨zz, hzz⟩ := Int.eq_ofNat_of_zero_le (show 0 ≤ z % 4 by omega)
  have hzz3 : zz ≤ 3 := by omega
  clear hf hs
  have HSL := Lib.hid hsl
  clear hsl
  go_enter Try.func5, Try.ntmps5
  go_wp2_with fail
  refine (short_yes _ _ _ _ h).mono ?_
  rintro e w' ⟨rfl, rfl⟩
  go_wp2_with fail
  refine HF.out.mono ?_
  rintro e w1 ⟨rfl, hB1⟩
  rcases hcase with h48 | rfl
  all_goals
    go_wp2
    go_loop [5, 6] (fun sv iv => ∃ (i : Nat) (t : ByteArray), i ≤ zz ∧ iv = .int .i64 i ∧ sv = .string t ∧ Hid (t.data.toList = List.replicate i 48 ++ (revDig N).reverse) ∧ t.size ≤ 241 + i) (fun _ iv => zz - (intOf iv).toNat)
    case atStart => exact ⟨0, _, Nat.zero_le _, rfl, rfl, HSL.out, hlen⟩
    case round =>
      obtain ⟨i, t, hi, rfl, rfl, ht, hts⟩ := hrel
      by_cases hiz : i < zz
      · have hc := zero_front t
        have HT : Hid ((⟨#[48]⟩ ++ t : ByteArray).data.toList = List.replicate (i + 1) 48 ++ (revDig N).reverse) := by
          show _ = _
          rw [hc.1, ht.out, List.replicate_succ]; rfl
        have HZ := Lib.hid hc.2
        clear hc
        go_wp2
        go_round
        case rel => exact ⟨i + 1, _, by omega, by go_num, rfl, HT.out, by have := HZ.out; omega⟩
        case measure => simp [intOf] <;> omega
      · obtain rfl : i = zz := by omega
        have hdig := digs_of ht.out
        have hdv : Hid (dv t.data.toList = x) := by
          show _ = _
          rw [ht.out, dv_zeros, revDig_dv, hN]
        have hpos : 0 < t.size := by
          have h2 : t.data.toList.length = t.size := by simp
          have h3 : 0 < (revDig N).length := by rw [revDig]; simp
          rw [ht.out, List.length_append, List.length_reverse] at h2
          omega
        have hxN : Num w1 A a ca x := ⟨L, hr.below hB1, hL⟩
        clear HF hN hL hr hiz
        by_cases h60 : t.size ≤ 60
        · have hp := parse_ok t w1 hdig hpos h60
          rw [hdv.out] at hp
          have HP := Lib.hid hp
          clear hp
          go_wp2_with fail
          refine HP.out.mono ?_
          rintro e w2 ⟨A2, n2, c2, rfl, hR, hB2⟩
          go_wp2_with fail
          refine (trim_n (hxN.below hB2) (by omega)).mono ?_
          rintro e w3 ⟨A3, n3, c3, rfl, hT, hB3⟩
          go_wp2_with fail
          refine (same_n (hR.below hB3) hT rfl).mono ?_
          rintro e w' ⟨rfl, k5, rfl⟩
          have hW := drewN_below (nextB (nextB hB1 hB2) hB3) k5
          go_wp2_with fail
          refine (awake_any _).mono ?_
          rintro e w5 ⟨rfl, hB5⟩
          go_wp2
          go_ret
          exact ⟨rfl, nextB hW hB5⟩
        · go_wp2_with fail
          refine (parse_long t w1 hdig (by omega) (by omega)).mono ?_
          rintro e w' ⟨rfl, rfl⟩
          go_wp2_with fail
          refine (awake_any _).mono ?_
          rintro e w5 ⟨rfl, hB5⟩
          go_wp2
          go_ret
          exact ⟨rfl, nextB hB1 hB5⟩

theorem digits_long (A : Option Addr) (a ca : Nat) (z : Int) (w : World) (h : 24 < a) :
    Calls Try.prog 5 #[.slice A a ca, .int .u8 z] w (True1 w) := by
  go_enter Try.func5, Try.ntmps5
  go_wp2_with fail
  refine (short_no _ _ _ _ h).mono ?_
  rintro e w' ⟨rfl, rfl⟩
  go_wp2_with fail
  refine (awake_any _).mono ?_
  rintro e w' ⟨rfl, hB⟩
  go_wp2
  go_ret
  exact ⟨rfl, hB⟩

theorem naturalDigits.walk {A : Option Addr} {a ca : Nat} {x z : Int} {w : World} (ha : Num w A a ca x) (hz : (Lit.int .u8 z).wf = true) :
    Calls Try.prog 5 #[.slice A a ca, .int .u8 z] w (True1 w) := by
  have b := bounds_u8 hz
  by_cases h : a ≤ 24
  · exact digits_short A a ca x z w ha h b.1 b.2
  · exact digits_long A a ca z w (by omega)

end Go.Proofs.Ytdimajnadmkhiaa
