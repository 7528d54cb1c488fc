/-
  slices.Compare of ints.
  value.Compare on values of valid types: the lexicographic order of their cells.
-/
import Derived.Test.YtklndjkblfncjaaGreatDoorRd7
import Derived.Test.YtklndjkblfncjaaGreatDoorZerP
import Derived.Test.YtklndjkblfncjaaGreatDoorEq7
namespace Go.Proofs.YtklndjkblfncjaaGreatDoor
open Go Go.RowKit
set_option maxRecDepth 20000

theorem isNaN_x (x : Int) (w : World) : Calls Tryz.prog 68 #[.int .i64 x] w fun e w' => e = .returned (.bool false) ∧ w = w' := by
  go_enter Tryz.func68, Tryz.ntmps68
  go_wp2
  go_ret
  exact ⟨by simp, rfl⟩
def icmp (x y : Int) : Int := if x < y then -1 else if y < x then 1 else 0
theorem cmpInt_x (x y : Int) (w : World) : Calls Tryz.prog 56 #[.int .i64 x, .int .i64 y] w fun e w' => e = .returned (.int .i64 (icmp x y)) ∧ w = w' := by
  have HN : Hid (∀ (x : Int) (w : World), Calls Tryz.prog 68 #[.int .i64 x] w fun e w' => e = .returned (.bool false) ∧ w = w') := isNaN_x
  unfold icmp
  by_cases h1 : x < y
  · rw [if_pos h1]
    go_enter Tryz.func56, Tryz.ntmps56
    go_wp2_with fail
    refine (HN.out _ _).mono ?_
    rintro e w' ⟨rfl, rfl⟩
    go_wp2_with fail
    refine (HN.out _ _).mono ?_
    rintro e w' ⟨rfl, rfl⟩
    go_wp2
    go_ret
    exact ⟨rfl, rfl⟩
  · rw [if_neg h1]
    by_cases h2 : y < x
    · rw [if_pos h2]
      go_enter Tryz.func56, Tryz.ntmps56
      go_wp2_with fail
      refine (HN.out _ _).mono ?_
      rintro e w' ⟨rfl, rfl⟩
      go_wp2_with fail
      refine (HN.out _ _).mono ?_
      rintro e w' ⟨rfl, rfl⟩
      go_wp2
      go_ret
      exact ⟨rfl, rfl⟩
    · rw [if_neg h2]
      go_enter Tryz.func56, Tryz.ntmps56
      go_wp2_with fail
      refine (HN.out _ _).mono ?_
      rintro e w' ⟨rfl, rfl⟩
      go_wp2_with fail
      refine (HN.out _ _).mono ?_
      rintro e w' ⟨rfl, rfl⟩
      go_wp2
      go_ret
      exact ⟨rfl, rfl⟩
theorem vcmp_drop {L M : List Int} {i : Nat} {x y : Int} (hx : L[i]? = some x) (hy : M[i]? = some y) : vcmp (L.drop i) (M.drop i) = if icmp x y ≠ 0 then icmp x y else vcmp (L.drop (i + 1)) (M.drop (i + 1)) := by
  obtain ⟨h1, rfl⟩ := List.getElem?_eq_some_iff.1 hx
  obtain ⟨h2, rfl⟩ := List.getElem?_eq_some_iff.1 hy
  rw [List.drop_eq_getElem_cons h1, List.drop_eq_getElem_cons h2]
  simp only [vcmp]
  unfold icmp
  split
  · simp
  · split <;> simp
theorem vcmp_left {L M : List Int} {i : Nat} (h1 : i < L.length) (h2 : M.length ≤ i) : vcmp (L.drop i) (M.drop i) = 1 := by
  rw [List.drop_eq_getElem_cons h1, List.drop_of_length_le h2]; rfl
theorem vcmp_end {L M : List Int} {i : Nat} (h1 : L.length ≤ i) : vcmp (L.drop i) (M.drop i) = if i < M.length then -1 else 0 := by
  rw [List.drop_of_length_le h1]
  split
  · next h => rw [List.drop_eq_getElem_cons h]; rfl
  · next h => rw [List.drop_of_length_le (by omega)]; rfl

set_option maxHeartbeats 4000000 in
theorem cmp_ints (bd : Nat) (A B : Option Addr) (n c m q : Nat) (L M : List Int) (w : World) (h1 : IntRd bd w A n c L) (h2 : IntRd bd w B m q M) :
    Calls Tryz.prog 44 #[.slice A n c, .slice B m q] w fun e w' => e = .returned (.int .i64 (vcmp L M)) ∧ w = w' := by
  have hc1 := h1.cap
  have ht1 := h1.top
  have hc2 := h2.cap
  have ht2 := h2.top
  obtain ⟨R, hR⟩ : ∃ R, vcmp L M = R := ⟨_, rfl⟩
  rw [hR]
  have HR := Lib.hid hR
  have HL := Lib.hid h1.len
  have HM := Lib.hid h2.len
  have H1 := Lib.hid h1
  have H2 := Lib.hid h2
  have HC : Hid (∀ (x y : Int) (w : World), Calls Tryz.prog 56 #[.int .i64 x, .int .i64 y] w fun e w' => e = .returned (.int .i64 (icmp x y)) ∧ w = w') := cmpInt_x
  clear h1 h2 hR
  go_enter Tryz.func44, Tryz.ntmps44
  go_wp2
  go_loop [11] (fun iv => ∃ i : Nat, (i ≤ n ∧ i ≤ m) ∧ iv = .int .i64 i ∧ Hid (vcmp (L.drop i) (M.drop i) = R)) (fun iv => n - (intOf iv).toNat)
  case atStart => exact ⟨0, ⟨Nat.zero_le _, Nat.zero_le _⟩, rfl, by show _ = _; rw [List.drop_zero, List.drop_zero]; exact HR.out⟩
  case round =>
    obtain ⟨i, ⟨hi, him⟩, rfl, hv⟩ := hrel
    have hi0 : (0 : Int) ≤ (i : Int) := by omega
    by_cases hlt : i < n
    · have hin : (i : Int) < (n : Int) := by omega
      obtain ⟨g, o, rfl, _, ha⟩ := H1.out.at_ (by omega)
      obtain ⟨x, hx⟩ : ∃ x, L[i]? = some x := ⟨_, List.getElem?_eq_getElem (by rw [HL.out]; exact hlt)⟩
      have ca := ha i x hx
      clear ha
      by_cases hm : i < m
      · have hmi : (i : Int) < (m : Int) := by omega
        have hmn : ¬ (m : Int) ≤ (i : Int) := by omega
        obtain ⟨g', o', rfl, _, hb⟩ := H2.out.at_ (by omega)
        obtain ⟨y, hy⟩ : ∃ y, M[i]? = some y := ⟨_, List.getElem?_eq_getElem (by rw [HM.out]; exact hm)⟩
        have cb := hb i y hy
        have hd := vcmp_drop hx hy
        obtain ⟨z, hz⟩ : ∃ z, icmp x y = z := ⟨_, rfl⟩
        have HCz : Hid (Calls Tryz.prog 56 #[.int .i64 x, .int .i64 y] w fun e w' => e = .returned (.int .i64 z) ∧ w = w') := by rw [← hz]; exact HC.out x y w
        rw [hz] at hd
        have HD := Lib.hid hd
        clear hb hx hy hz hd
        by_cases h0 : z = 0
        · have hz0 : (z != 0) = false := by simpa using h0
          have HV : Hid (vcmp (L.drop (i + 1)) (M.drop (i + 1)) = R) := by show _ = _; rw [← hv.out, HD.out, if_neg (by simpa using h0)]
          clear hv HD h0
          go_wp2_with fail
          refine HCz.out.mono ?_
          rintro e w' ⟨rfl, rfl⟩
          go_wp2
          go_round
          case rel => exact ⟨i + 1, ⟨by omega, by omega⟩, by go_num, HV⟩
          case measure => simp [intOf] <;> omega
        · have hz0 : (z != 0) = true := by simpa using h0
          have HV : Hid (z = R) := by show _ = _; rw [← hv.out, HD.out, if_pos h0]
          clear hv HD h0
          go_wp2_with fail
          refine HCz.out.mono ?_
          rintro e w' ⟨rfl, rfl⟩
          go_wp2
          go_ret
          exact ⟨by rw [HV.out]; rfl, rfl⟩
      · have hmn : (m : Int) ≤ (i : Int) := by omega
        have HV : Hid ((1 : Int) = R) := by show _ = _; rw [← hv.out, vcmp_left (by rw [HL.out]; exact hlt) (by rw [HM.out]; omega)]
        clear hv hx
        go_wp2
        go_ret
        exact ⟨by rw [← HV.out]; rfl, rfl⟩
    · obtain rfl : i = n := by omega
      have he : vcmp (L.drop i) (M.drop i) = if i < m then -1 else 0 := by rw [vcmp_end (by rw [HL.out]; exact Nat.le_refl _), HM.out]
      by_cases hm : i < m
      · have hmi : (i : Int) < (m : Int) := by omega
        have hmd : decide ((i : Int) < (m : Int)) = true := by simpa using hmi
        have HV : Hid ((-1 : Int) = R) := by show _ = _; rw [← hv.out, he, if_pos hm]
        clear hv he
        go_wp2
        go_ret
        exact ⟨by rw [← HV.out]; rfl, rfl⟩
      · have hmi : ¬ (i : Int) < (m : Int) := by omega
        have hmd : decide ((i : Int) < (m : Int)) = false := by simpa using hmi
        have HV : Hid ((0 : Int) = R) := by show _ = _; rw [← hv.out, he, if_neg hm]
        clear hv he
        go_wp2
        go_ret
        exact ⟨by rw [← HV.out]; rfl, rfl⟩
end Go.Proofs.YtklndjkblfncjaaGreatDoor

namespace Go.Proofs.YtklndjkblfncjaaGreatDoor
open Go Go.RowKit
set_option maxRecDepth 20000

/-- The order of two values comes back. -/
def GivesCmp (x : Int) (w : World) (e : Ending) (w' : World) : Prop := e = .returned (.tuple #[.int .i64 x, .int .i64 0]) ∧ Below w.heap.size w w'
set_option maxHeartbeats 4000000 in
theorem Compare_x (S : Nat → Prop) (d : Nat) (T : Ty) (A : Option Addr) (n c : Nat) (w : World) (h : TyRd S w d T A n c) (hg : Good d T) (hk : T.k ≠ 4)
    (S1 : Nat → Prop) (d1 : Nat) (V : Vl) (B : Option Addr) (m q : Nat) (hv : VlRd S1 w d1 V B m q) (hve : verr d T V = 0) (hl : (vflat d T V).length ≤ 1000)
    (S2 : Nat → Prop) (d2 : Nat) (V' : Vl) (B' : Option Addr) (m' q' : Nat) (hv' : VlRd S2 w d2 V' B' m' q') (hve' : verr d T V' = 0) (hl' : (vflat d T V').length ≤ 1000) :
    Calls Tryz.prog 25 #[tyV T A n c, vlV V B m q, vlV V' B' m' q'] w (GivesCmp (vcmp (vflat d T V) (vflat d T V')) w) := by
  obtain ⟨v, hvv⟩ : ∃ v, (w.alloc (.cells #[.int .i64 T.k, .int .i64 T.lo, .int .i64 T.hi, .int .i64 T.mx, .slice A n c] 24)).alloc (.cells #[.int .i64 V.i, .slice B m q] 27) = v := ⟨_, rfl⟩
  obtain ⟨hvs, hwv, hbx⟩ := boxes_tv w _ _ _ _ _ _ _ _ _ v hvv
  obtain ⟨u, hu⟩ : ∃ u, v.alloc (.cells #[.int .i64 V'.i, .slice B' m' q'] 27) = u := ⟨_, rfl⟩
  have hvu : Below v.heap.size v u := hu ▸ allocB _ _
  have hb2 : Box2 u v.heap.size (.int .i64 V'.i) (.slice B' m' q') := hu ▸ box2_new _ _ _ _
  have hsu : v.heap.size < u.heap.size := World.block_lt_of_cell? u _ hb2.1
  have hwu := nextB hwv hvu
  rw [hvs] at hb2 hsu
  have HBX : Hid (∀ W, Below u.heap.size u W → Box5 W w.heap.size (.int .i64 T.k) (.int .i64 T.lo) (.int .i64 T.hi) (.int .i64 T.mx) (.slice A n c) ∧ Box2 W (w.heap.size + 1) (.int .i64 V.i) (.slice B m q) ∧ Box2 W (w.heap.size + 2) (.int .i64 V'.i) (.slice B' m' q')) :=
    fun W hW => ⟨(hbx W (nextB hvu hW)).1, (hbx W (nextB hvu hW)).2, hb2.below hW hsu⟩
  have HF : Hid (Calls Tryz.prog 16 #[tyV T A n c, vlV V B m q] u (GivesFlat (vflat d T V) u)) := Flatten_x S d T A n c u (h.below hwu) hg hk S1 d1 V B m q (hv.below hwu) hve hl
  have HF2 : Hid (∀ W, Below u.heap.size u W → Calls Tryz.prog 16 #[tyV T A n c, vlV V' B' m' q'] W (GivesFlat (vflat d T V') W)) := fun W hW => Flatten_x S d T A n c W (h.below (nextB hwu hW)) hg hk S2 d2 V' B' m' q' (hv'.below (nextB hwu hW)) hve' hl'
  have HU : Hid (((w.alloc (.cells #[.int .i64 T.k, .int .i64 T.lo, .int .i64 T.hi, .int .i64 T.mx, .slice A n c] 24)).alloc (.cells #[.int .i64 V.i, .slice B m q] 27)).alloc (.cells #[.int .i64 V'.i, .slice B' m' q'] 27) = u) := by
    show _ = _
    rw [hvv]; exact hu
  have HWU := Lib.hid hwu
  clear h hg hk hv hve hl hv' hve' hl' hvv hu hbx hvu hb2 hsu hwu hvs hwv
  generalize vflat d T V = L at *
  generalize vflat d T V' = M at *
  go_enter Tryz.func25, Tryz.ntmps25
  go_wp2_with fail
  rw [HU.out]
  refine HF.out.mono ?_
  rintro e1 w1 ⟨Q, nq, qq, rfl, hO, _, hb1⟩
  obtain ⟨⟨p0, p1, p2, p3, p4⟩, _, r0, r1, f0, f1⟩ := HBX.out w1 hb1
  have HC1 := Lib.hid (HF2.out w1 hb1)
  have HB1 := Lib.hid hb1
  have HO := Lib.hid hO
  clear HF HF2 hb1 hO
  go_wp2_with fail
  refine HC1.out.mono ?_
  rintro e2 w2 ⟨Q2, n2, q2, rfl, hO2, _, hb2⟩
  have HCM := Lib.hid (cmp_ints w2.heap.size Q Q2 nq qq n2 q2 L M w2 ((HO.out.below hb2).rd fun a ha => (row_lt (HO.out.below hb2).row a ha).2) (hO2.rd fun a ha => (row_lt hO2.row a ha).2))
  have HB2 := Lib.hid (nextB HWU.out (nextB HB1.out hb2))
  clear hb2 hO2 HC1 HO HB1 p0 p1 p2 p3 p4 r0 r1 f0 f1
  go_wp2_with fail
  refine HCM.out.mono ?_
  rintro e3 w3 ⟨rfl, rfl⟩
  generalize vcmp L M = x at *
  go_wp2
  go_ret2
  exact ⟨rfl, HB2.out⟩
end Go.Proofs.YtklndjkblfncjaaGreatDoor
