/-
  strings.Cut at a slash, strings.CutPrefix at a minus sign; the text of a fraction cut apart again.
-/
import Derived.Test.YtekalaihfmfkkaaGreatDoorParseBad
import Derived.Test.YtekalaihfmfkkaaGreatDoorShelf
import Derived.Lib.CutLaws
import Derived.Lib.IndexBytes
import Derived.Lib.IndexLaws
namespace Go.Proofs.YtekalaihfmfkkaaGreatDoor
open Go.RowKit
set_option maxRecDepth 20000

/-- The first '/' of s is at place i; or there is none and i is the length. -/
def CutAt (s : ByteArray) (i : Nat) : Prop := i ≤ s.size ∧ (∀ k (_ : k < s.size), k < i → s[k] ≠ 47) ∧ (∀ _ : i < s.size, s[i] = 47)

theorem at_getQ (s : ByteArray) (k : Nat) (h : k < s.size) : s.data.toList[k]? = some s[k] := by
  have h1 : k < s.data.toList.length := by rw [← Lib.size_eq]; exact h
  rw [List.getElem?_eq_getElem h1]; rfl
theorem cutAt_ex (s : ByteArray) : ∃ i, CutAt s i := by
  have hge := Lib.indexByte_ge s.data.toList 47
  by_cases h : Lib.indexByte s.data.toList 47 = -1
  · refine ⟨s.size, Nat.le_refl _, fun k hk _ e => Lib.indexByte_none h k ?_, fun h => absurd h (Nat.lt_irrefl _)⟩
    rw [at_getQ s k hk, e]
  · obtain ⟨i, hi⟩ := Int.eq_ofNat_of_zero_le (show 0 ≤ Lib.indexByte s.data.toList 47 by omega)
    obtain ⟨h1, h2⟩ := Lib.indexByte_some hi
    have hlt : i < s.size := by
      rw [Lib.size_eq]
      exact (List.getElem?_eq_some_iff.1 h1).1
    refine ⟨i, Nat.le_of_lt hlt, fun k hk hki e => h2 k hki ?_, fun h => ?_⟩
    · rw [at_getQ s k hk, e]
    · rw [at_getQ s i h] at h1; injection h1
theorem CutAt.miss {s : ByteArray} {i : Nat} (h : CutAt s i) (hi : i = s.size) : Lib.indexB s ⟨#[47]⟩ = -1 := by
  show Lib.index s.data.toList [47] = -1
  rw [Lib.index_one]
  have hge := Lib.indexByte_ge s.data.toList 47
  rcases Int.lt_or_le (Lib.indexByte s.data.toList 47) 0 with h3 | h3
  · omega
  · exfalso
    obtain ⟨j, hj⟩ := Int.eq_ofNat_of_zero_le h3
    obtain ⟨h1, _⟩ := Lib.indexByte_some hj
    have hlt : j < s.size := by rw [Lib.size_eq]; exact (List.getElem?_eq_some_iff.1 h1).1
    rw [at_getQ s j hlt] at h1
    injection h1 with h1
    exact h.2.1 j hlt (by omega) h1
theorem CutAt.hit {s : ByteArray} {i : Nat} (h : CutAt s i) (hi : i < s.size) : Lib.indexB s ⟨#[47]⟩ = i := by
  show Lib.index s.data.toList [47] = i
  rw [Lib.index_one]
  have hge := Lib.indexByte_ge s.data.toList 47
  have hs := h.2.2 hi
  rcases Int.lt_or_le (Lib.indexByte s.data.toList 47) 0 with h3 | h3
  · exfalso
    exact Lib.indexByte_none (show Lib.indexByte s.data.toList 47 = -1 by omega) i (by rw [at_getQ s i hi, hs])
  · obtain ⟨j, hj⟩ := Int.eq_ofNat_of_zero_le h3
    obtain ⟨h1, h2⟩ := Lib.indexByte_some hj
    have hlt : j < s.size := by rw [Lib.size_eq]; exact (List.getElem?_eq_some_iff.1 h1).1
    rw [at_getQ s j hlt] at h1
    injection h1 with h1
    rw [hj]
    rcases Nat.lt_trichotomy i j with h4 | h4 | h4
    · exact absurd (by rw [at_getQ s i hi, hs]) (h2 i h4)
    · rw [h4]
    · exact absurd h1 (h.2.1 j hlt h4)
/-- Where no byte of t is '/', the first '/' of t/u is behind t. -/
theorem CutAt.of_append (t u : ByteArray) (h : ∀ k (_ : k < t.size), t[k] ≠ 47) : CutAt (t ++ (⟨#[47]⟩ ++ u)) t.size := by
  have hz : (t ++ (⟨#[47]⟩ ++ u)).size = t.size + (1 + u.size) := by rw [ByteArray.size_append, ByteArray.size_append]; rfl
  refine ⟨by omega, fun k hk hki => ?_, fun hk => ?_⟩
  · rw [ByteArray.getElem_append_left hki]; exact h k hki
  · rw [ByteArray.getElem_append_right (Nat.le_refl _)]
    simp only [Nat.sub_self]
    rfl
theorem CutAt.whole (t : ByteArray) (h : ∀ k (_ : k < t.size), t[k] ≠ 47) : CutAt t t.size :=
  ⟨Nat.le_refl _, fun k hk _ => h k hk, fun h => absurd h (Nat.lt_irrefl _)⟩
theorem append_front (t u : ByteArray) : (t ++ u).extract 0 t.size = t := by
  apply ByteArray.ext; simp
theorem append_back (t u : ByteArray) : (t ++ (⟨#[47]⟩ ++ u)).extract (t.size + 1) (t ++ (⟨#[47]⟩ ++ u)).size = u := by
  rw [Lib.extract_eq]
  apply ByteArray.ext
  apply Array.ext'
  have hl : t.size = t.data.toList.length := Lib.size_eq t
  have e : (t ++ (⟨#[47]⟩ ++ u)).data.toList = t.data.toList ++ ([47] ++ u.data.toList) := by simp
  have hs : (t ++ (⟨#[47]⟩ ++ u)).size = (t.data.toList ++ [47]).length + u.data.toList.length := by
    rw [Lib.size_eq, e, ← List.append_assoc, List.length_append]
  rw [e, ← List.append_assoc, hs, hl]
  have e2 : t.data.toList.length + 1 = (t.data.toList ++ [47]).length := by simp
  rw [e2, List.drop_left, Nat.add_sub_cancel_left]
  simp
  exact List.take_of_length_le (by rw [← Lib.size_eq]; exact Nat.le_refl _)

theorem index_slash (s : ByteArray) : Lib.indexByte s.data.toList 47 = Lib.indexB s ⟨#[47]⟩ := by
  show _ = Lib.index s.data.toList [47]
  rw [Lib.index_one]

set_option maxHeartbeats 1000000 in
theorem scut_miss (s : ByteArray) (w : World) (h : CutAt s s.size) :
    Calls Tryz.prog 142 #[.string s, .string ⟨#[47]⟩] w fun e w' => e = .returned (.tuple #[.string s, .string ByteArray.empty, .bool false]) ∧ Below w.heap.size w w' := by
  have HI := Lib.hid (h.miss rfl)
  go_enter Tryz.func142, Tryz.ntmps142
  go_wp2_with (go_at_call 198; refine (Tryz.stringslite_Index_one _ _ _).mono ?_; rintro e w' ⟨rfl, rfl⟩; rw [index_slash, HI.out])
  go_ret3
  exact ⟨rfl, Below.refl _ _⟩

set_option maxHeartbeats 1000000 in
theorem scut_hit (s : ByteArray) (i : Nat) (w : World) (h : CutAt s i) (hi : i < s.size) (hs : s.size ≤ 1000000) :
    Calls Tryz.prog 142 #[.string s, .string ⟨#[47]⟩] w fun e w' => e = .returned (.tuple #[.string (s.extract 0 i), .string (s.extract (i + 1) s.size), .bool true]) ∧ Below w.heap.size w w' := by
  have HI := Lib.hid (h.hit hi)
  have c1 : (0 : Int) ≤ ↑i := by omega
  have c2 : (↑i : Int) ≤ ↑s.size := by omega
  have c3 : (0 : Int) ≤ ↑i + 1 := by omega
  have c4 : (↑i + 1 : Int) ≤ ↑s.size := by omega
  have c5 : wrap64 ((i : Int) + 1) = i + 1 := by unfold wrap64; omega
  go_enter Tryz.func142, Tryz.ntmps142
  go_wp2_with (go_at_call 198; refine (Tryz.stringslite_Index_one _ _ _).mono ?_; rintro e w' ⟨rfl, rfl⟩; rw [index_slash, HI.out])
  go_region
  go_wp2
  go_ret3
  exact ⟨rfl, (Below.refl _ _).drew⟩

set_option maxHeartbeats 1000000 in
theorem cut_miss (s : ByteArray) (w : World) (h : CutAt s s.size) :
    Calls Tryz.prog 72 #[.string s, .string ⟨#[47]⟩] w fun e w' => e = .returned (.tuple #[.string s, .string ByteArray.empty, .bool false]) ∧ Below w.heap.size w w' := by
  go_enter Tryz.func72, Tryz.ntmps72
  go_wp2_with (go_at_call 142; refine (scut_miss _ _ h).mono ?_; rintro e w' ⟨rfl, hb⟩)
  go_ret3
  exact ⟨rfl, hb⟩

set_option maxHeartbeats 1000000 in
theorem cut_hit (s : ByteArray) (i : Nat) (w : World) (h : CutAt s i) (hi : i < s.size) (hs : s.size ≤ 1000000) :
    Calls Tryz.prog 72 #[.string s, .string ⟨#[47]⟩] w fun e w' => e = .returned (.tuple #[.string (s.extract 0 i), .string (s.extract (i + 1) s.size), .bool true]) ∧ Below w.heap.size w w' := by
  go_enter Tryz.func72, Tryz.ntmps72
  go_wp2_with (go_at_call 142; refine (scut_hit _ _ _ h hi hs).mono ?_; rintro e w' ⟨rfl, hb⟩)
  go_ret3
  exact ⟨rfl, hb⟩

/-- What stands behind a minus sign, and whether there is one. -/
def signed (s : ByteArray) : Bool := s.data.toList.head? == some 45
def unsigned (s : ByteArray) : ByteArray := if signed s then s.extract 1 s.size else s
theorem hasMinus (s : ByteArray) : Lib.hasPrefix s.data.toList [45] = signed s := by
  unfold Lib.hasPrefix signed
  cases s.data.toList with
  | nil => rfl
  | cons b l =>
    by_cases h : b = 45
    · subst h; simp [List.isPrefixOf]
    · simp [List.isPrefixOf, beq_eq_false_iff_ne.2 h, beq_eq_false_iff_ne.2 (fun e : (45 : UInt8) = b => h e.symm)]
theorem trimMinus (s : ByteArray) : (⟨(Lib.trimPrefix s.data.toList [45]).toArray⟩ : ByteArray) = unsigned s := by
  unfold Lib.trimPrefix unsigned
  rw [hasMinus]
  by_cases h : signed s
  · rw [if_pos h, if_pos h, Lib.extract_eq]
    have ht : List.take (s.size - 1) (List.drop 1 s.data.toList) = List.drop 1 s.data.toList := List.take_of_length_le (by rw [List.length_drop, ← Lib.size_eq]; exact Nat.le_refl _)
    rw [ht]; rfl
  · rw [if_neg h, if_neg h]
theorem unsigned_size (s : ByteArray) : (unsigned s).size ≤ s.size := by
  unfold unsigned
  split
  · simp
  · exact Nat.le_refl _
theorem cutPrefix_b (s : ByteArray) (w : World) :
    Calls Tryz.prog 71 #[.string s, .string ⟨#[45]⟩] w fun e w' => e = .returned (.tuple #[.string (unsigned s), .bool (signed s)]) ∧ w' = w := by
  refine (Tryz.strings_CutPrefix s ⟨#[45]⟩ w).mono fun e w' h => ?_
  rw [← hasMinus, ← trimMinus]
  exact h
end Go.Proofs.YtekalaihfmfkkaaGreatDoor
