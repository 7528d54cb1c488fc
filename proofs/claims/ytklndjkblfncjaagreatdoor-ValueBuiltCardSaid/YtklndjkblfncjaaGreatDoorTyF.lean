/-
  Package types: tupleFault, listFault, fault: the error of a type.
-/
import Derived.Test.YtklndjkblfncjaaGreatDoorTyV
namespace Go.Proofs.YtklndjkblfncjaaGreatDoor
open Go Go.RowKit
set_option maxRecDepth 20000

def FaultAtE (d : Nat) : Prop := ∀ (S : Nat → Prop) (T : Ty) (A : Option Addr) (n c : Nat) (w : World), TyRd S w d T A n c → Calls Tryz.prog 62 #[tyV T A n c] w (FaultIs (terr d T) w)
theorem firstE_one (x : Int) : firstE [x] = x := by
  unfold firstE
  by_cases h : x = 0
  · rw [if_neg (by simpa using h), h]; rfl
  · rw [if_pos h]

set_option maxHeartbeats 4000000 in
theorem tupleFault_e (d : Nat) (IH : FaultAtE d) (S : Nat → Prop) (T : Ty) (A : Option Addr) (n c : Nat) (w : World) (h : TyRd S w (d + 1) T A n c) :
    Calls Tryz.prog 78 #[tyV T A n c] w (FaultIs (if T.es.length < 2 ∨ 4 < T.es.length then 1 else firstE (T.es.map fun e => inTuple e.k (terr d e))) w) := by
  obtain ⟨hl, hcap, htop⟩ := h.len
  rw [hl]
  unfold maxLen at htop
  by_cases hn : n < 2 ∨ 4 < n
  · rw [if_pos hn]
    clear h hl IH
    rcases hn with hn | hn
    · go_enter Tryz.func78, Tryz.ntmps78
      go_wp2
      go_ret
      exact ⟨rfl, allocB _ _⟩
    · go_enter Tryz.func78, Tryz.ntmps78
      go_wp2
      go_ret
      exact ⟨rfl, allocB _ _⟩
  · rw [if_neg hn]
    obtain ⟨Z, hZ⟩ : ∃ Z, (T.es.map fun e => inTuple e.k (terr d e)) = Z := ⟨_, rfl⟩
    rw [hZ]
    have HZ := Lib.hid hZ
    have hn2 : 2 ≤ n := by omega
    have hn4 : n ≤ 4 := by omega
    have HZN : Hid (Z.length = n) := by show _ = _; rw [← hZ, List.length_map, hl]
    have H := Lib.hid h
    have HI := Lib.hid IH
    clear h IH hl hZ hn
    go_enter Tryz.func78, Tryz.ntmps78
    go_wp2
    go_loopw [19] (fun iv wr => ∃ i : Nat, i ≤ n ∧ iv = .int .i64 i ∧ Hid (firstE (Z.take i) = 0) ∧ Below w.heap.size w wr) (fun iv _ => n - (intOf iv).toNat)
    case atStart => exact ⟨0, Nat.zero_le _, rfl, by show _ = _; simp [firstE], allocB _ _⟩
    case round =>
      obtain ⟨i, hi, rfl, HZT, hB⟩ := hrel
      by_cases hlt : i < n
      · obtain ⟨e, g, o, A', n', c', he, rfl, _, hg, hc, hr⟩ := (H.out.below hB).get hlt
        obtain ⟨c0, c1, c2, c3, c4⟩ := hc
        have HF := Lib.hid (HI.out S e A' n' c' _ (hr.below (allocB wr (.cells #[.int .i64 e.k, .int .i64 e.lo, .int .i64 e.hi, .int .i64 e.mx, .slice A' n' c'] 24))))
        have hzi : Z[i]? = some (inTuple e.k (terr d e)) := by rw [← HZ.out, List.getElem?_map, he]; rfl
        obtain ⟨x, hx⟩ : ∃ x, terr d e = x := ⟨_, rfl⟩
        rw [hx] at HF hzi
        have HZI := Lib.hid hzi
        clear he hr hx hzi
        go_wp2_with fail
        refine HF.out.mono ?_
        rintro e1 w1 ⟨rfl, hb⟩
        have hbox := (box5_new wr (.int .i64 e.k) (.int .i64 e.lo) (.int .i64 e.hi) (.int .i64 e.mx) (.slice A' n' c') 24).below hb (by simp)
        obtain ⟨p0, _, _, _, _⟩ := hbox
        have hB2 : Below w.heap.size w w1 := nextB hB (nextB (allocB _ _) hb)
        clear hb hB HF c0 c1 c2 c3 c4
        by_cases hx0 : x = 0
        · subst hx0
          by_cases k3 : e.k = 3
          · have b3 : (e.k == 3) = true := by simpa using k3
            have hz8 : inTuple e.k 0 = 8 := by simp [inTuple, k3]
            have HFIN : Hid (firstE Z = 8) := by have h2 := HZI.out; rw [hz8] at h2; exact firstE_at HZT.out h2 (by decide)
            clear k3 hz8
            go_wp2
            go_ret
            exact ⟨by rw [HFIN.out]; rfl, hB2⟩
          · have b3 : (e.k == 3) = false := by simpa using k3
            by_cases k4 : e.k = 4
            · have b4 : (e.k == 4) = true := by simpa using k4
              have hz8 : inTuple e.k 0 = 8 := by simp [inTuple, k4]
              have HFIN : Hid (firstE Z = 8) := by have h2 := HZI.out; rw [hz8] at h2; exact firstE_at HZT.out h2 (by decide)
              clear k3 k4 hz8
              go_wp2
              go_ret
              exact ⟨by rw [HFIN.out]; rfl, hB2⟩
            · have b4 : (e.k == 4) = false := by simpa using k4
              have hz0 : inTuple e.k 0 = 0 := by simp [inTuple, k3, k4]
              have HN : Hid (firstE (Z.take (i + 1)) = 0) := by have h2 := HZI.out; rw [hz0] at h2; exact firstE_next HZT.out h2 rfl
              clear k3 k4 hz0
              go_wp2
              go_roundw
              case rel => exact ⟨i + 1, by omega, by go_num, HN, hB2⟩
              case measure => simp [intOf] <;> omega
        · have bx : (x != 0) = true := by simpa using hx0
          have HFIN : Hid (firstE Z = x) := by
            have h2 := HZI.out
            have hz : inTuple e.k x = x := by unfold inTuple; rw [if_pos hx0]
            rw [hz] at h2
            exact firstE_at HZT.out h2 hx0
          clear hx0
          go_wp2
          go_ret
          exact ⟨by rw [HFIN.out]; rfl, hB2⟩
      · obtain rfl : i = n := by omega
        have HFIN : Hid (firstE Z = 0) := by
          have := HZT.out
          rwa [List.take_of_length_le (by rw [HZN.out]; exact Nat.le_refl _)] at this
        go_wp2
        go_ret
        exact ⟨by rw [HFIN.out]; rfl, hB⟩

set_option maxHeartbeats 4000000 in
theorem listFault_e (d : Nat) (IH : FaultAtE d) (S : Nat → Prop) (T : Ty) (A : Option Addr) (n c : Nat) (w : World) (h : TyRd S w (d + 1) T A n c) :
    Calls Tryz.prog 79 #[tyV T A n c] w (FaultIs (if T.mx < 1 ∨ 4 < T.mx then 1 else if T.es.length ≠ 1 then 2 else firstE (T.es.map fun e => inList e.k (terr d e))) w) := by
  obtain ⟨hl, hcap, htop⟩ := h.len
  rw [hl]
  by_cases hm : T.mx < 1 ∨ 4 < T.mx
  · rw [if_pos hm]
    clear h hl IH
    rcases hm with hm | hm
    · go_enter Tryz.func79, Tryz.ntmps79
      go_wp2
      go_ret
      exact ⟨rfl, allocB _ _⟩
    · go_enter Tryz.func79, Tryz.ntmps79
      go_wp2
      go_ret
      exact ⟨rfl, allocB _ _⟩
  · rw [if_neg hm]
    have hm1 : 1 ≤ T.mx := by omega
    have hm4 : T.mx ≤ 4 := by omega
    by_cases hn : n = 1
    · subst hn
      rw [if_neg (by simp)]
      obtain ⟨e, g, o, A', n', c', he, rfl, _, hg, hc, hr⟩ := h.get (i := 0) (by omega)
      have hes : T.es = [e] := by
        obtain ⟨x, hx⟩ := List.length_eq_one_iff.1 hl
        rw [hx] at he ⊢
        simpa using he
      have hfe : firstE (T.es.map fun e => inList e.k (terr d e)) = inList e.k (terr d e) := by rw [hes]; exact firstE_one _
      rw [hfe]
      have hb1 : Below w.heap.size w (w.alloc (.cells #[.int .i64 T.k, .int .i64 T.lo, .int .i64 T.hi, .int .i64 T.mx, .slice (some ⟨g, o, none⟩) 1 c] 24)) := allocB _ _
      have hc1 := hc.keep (hb1.block g hg)
      obtain ⟨c0, c1, c2, c3, c4⟩ := hc1
      have HF := Lib.hid (IH S e A' n' c' _ (hr.below hb1))
      have hbx : Hid (∀ W, Below w.heap.size w W → W.cell? ⟨g, o, none⟩ = some (.int .i64 e.k)) := fun W hW => (hc.keep (hW.block g hg)).c0
      obtain ⟨x, hx⟩ : ∃ x, terr d e = x := ⟨_, rfl⟩
      rw [hx] at HF ⊢
      clear h hl IH he hr hc hb1 hes hfe hx hm
      simp only [Nat.zero_mul, Nat.add_zero] at c0 c1 c2 c3 c4
      go_enter Tryz.func79, Tryz.ntmps79
      go_wp2_with fail
      refine HF.out.mono ?_
      rintro e1 w1 ⟨rfl, hb⟩
      have hbox := (box5_new w (.int .i64 T.k) (.int .i64 T.lo) (.int .i64 T.hi) (.int .i64 T.mx) (.slice (some ⟨g, o, none⟩) 1 c) 24).below hb (by simp)
      have hB2 : Below w.heap.size w w1 := nextB (allocB _ _) hb
      have q0 := hbx.out w1 hB2
      obtain ⟨p0, p1, p2, p3, p4⟩ := hbox
      clear hb HF hbx c0 c1 c2 c3 c4
      by_cases hx0 : x = 0
      · subst hx0
        by_cases k1 : e.k = 1
        · have b1 : (e.k != 1) = false := by simpa using k1
          have hz : Hid (inList e.k 0 = 0) := by show _ = _; simp [inList, k1]
          clear k1
          go_wp2
          go_ret
          exact ⟨by rw [hz.out]; rfl, hB2⟩
        · have b1 : (e.k != 1) = true := by simpa using k1
          by_cases k2 : e.k = 2
          · have b2 : (e.k != 2) = false := by simpa using k2
            have hz : Hid (inList e.k 0 = 0) := by show _ = _; simp [inList, k2]
            clear k1 k2
            go_wp2
            go_ret
            exact ⟨by rw [hz.out]; rfl, hB2⟩
          · have b2 : (e.k != 2) = true := by simpa using k2
            have hz : Hid (inList e.k 0 = 8) := by show _ = _; simp [inList, k1, k2]
            clear k1 k2
            go_wp2
            go_ret
            exact ⟨by rw [hz.out]; rfl, hB2⟩
      · have bx : (x != 0) = true := by simpa using hx0
        have hz : Hid (inList e.k x = x) := by show _ = _; unfold inList; rw [if_pos hx0]
        clear hx0
        go_wp2
        go_ret
        exact ⟨by rw [hz.out]; rfl, hB2⟩
    · rw [if_pos hn]
      have bn : ((n : Int) != 1) = true := by simp; omega
      clear h hl IH
      go_enter Tryz.func79, Tryz.ntmps79
      go_wp2
      go_ret
      exact ⟨rfl, allocB _ _⟩

theorem terr_unused {d : Nat} {T : Ty} (h0 : tunused T = 0) : terr (d + 1) T = if T.k = 2 then (if -1000 ≤ T.lo ∧ T.lo ≤ T.hi ∧ T.hi ≤ 1000 then 0 else 1)
    else if T.k = 5 then (if T.es.length < 2 ∨ 4 < T.es.length then 1 else firstE (T.es.map fun e => inTuple e.k (terr d e)))
    else if T.k = 6 then (if T.mx < 1 ∨ 4 < T.mx then 1 else if T.es.length ≠ 1 then 2 else firstE (T.es.map fun e => inList e.k (terr d e)))
    else 0 := by
  show (if tunused T ≠ 0 then tunused T else _) = _
  rw [if_neg (by simpa using h0)]
theorem terr_used {d : Nat} {T : Ty} (h0 : tunused T ≠ 0) : terr (d + 1) T = tunused T := by
  show (if tunused T ≠ 0 then tunused T else _) = _
  rw [if_pos h0]

set_option maxHeartbeats 4000000 in
theorem fault_e : ∀ d, FaultAtE d
  | 0, _, _, _, _, _, _, h => h.elim
  | d + 1, S, T, A, n, c, w, h => by
    have IH := fault_e d
    have HU := Lib.hid (unused_e T A n c (w.alloc (.cells #[.int .i64 T.k, .int .i64 T.lo, .int .i64 T.hi, .int .i64 T.mx, .slice A n c] 24)) h.len.1)
    have HT : Hid (∀ w1, Below w.heap.size w w1 → Calls Tryz.prog 78 #[tyV T A n c] w1 (FaultIs (if T.es.length < 2 ∨ 4 < T.es.length then 1 else firstE (T.es.map fun e => inTuple e.k (terr d e))) w1)) := fun w1 hb => tupleFault_e d IH S T A n c w1 (h.below hb)
    have HL : Hid (∀ w1, Below w.heap.size w w1 → Calls Tryz.prog 79 #[tyV T A n c] w1 (FaultIs (if T.mx < 1 ∨ 4 < T.mx then 1 else if T.es.length ≠ 1 then 2 else firstE (T.es.map fun e => inList e.k (terr d e))) w1)) := fun w1 hb => listFault_e d IH S T A n c w1 (h.below hb)
    have HR : Hid (∀ w1, Calls Tryz.prog 77 #[tyV T A n c] w1 (FaultIs (if -1000 ≤ T.lo ∧ T.lo ≤ T.hi ∧ T.hi ≤ 1000 then 0 else 1) w1)) := fun w1 => range_e T A n c w1
    have hcase : (tunused T ≠ 0 ∧ terr (d + 1) T = tunused T) ∨ (tunused T = 0 ∧ terr (d + 1) T = if T.k = 2 then (if -1000 ≤ T.lo ∧ T.lo ≤ T.hi ∧ T.hi ≤ 1000 then 0 else 1)
        else if T.k = 5 then (if T.es.length < 2 ∨ 4 < T.es.length then 1 else firstE (T.es.map fun e => inTuple e.k (terr d e)))
        else if T.k = 6 then (if T.mx < 1 ∨ 4 < T.mx then 1 else if T.es.length ≠ 1 then 2 else firstE (T.es.map fun e => inList e.k (terr d e)))
        else 0) := by
      by_cases hu : tunused T = 0
      · exact .inr ⟨hu, terr_unused hu⟩
      · exact .inl ⟨hu, terr_used hu⟩
    obtain ⟨X, hX⟩ : ∃ X, (if T.es.length < 2 ∨ 4 < T.es.length then 1 else firstE (T.es.map fun e => inTuple e.k (terr d e))) = X := ⟨_, rfl⟩
    obtain ⟨Y, hY⟩ : ∃ Y, (if T.mx < 1 ∨ 4 < T.mx then 1 else if T.es.length ≠ 1 then 2 else firstE (T.es.map fun e => inList e.k (terr d e))) = Y := ⟨_, rfl⟩
    obtain ⟨Z, hZ⟩ : ∃ Z : Int, (if -1000 ≤ T.lo ∧ T.lo ≤ T.hi ∧ T.hi ≤ 1000 then 0 else 1) = Z := ⟨_, rfl⟩
    rw [hX] at HT hcase
    rw [hY] at HL hcase
    rw [hZ] at HR hcase
    obtain ⟨u, hu⟩ : ∃ u, tunused T = u := ⟨_, rfl⟩
    rw [hu] at HU hcase
    obtain ⟨R, hR⟩ : ∃ R, terr (d + 1) T = R := ⟨_, rfl⟩
    rw [hR] at hcase ⊢
    have HC := Lib.hid hcase
    clear h IH hcase hX hY hZ hu hR
    go_enter Tryz.func62, Tryz.ntmps62
    go_wp2_with fail
    refine HU.out.mono ?_
    rintro e1 w1 ⟨rfl, hb⟩
    obtain ⟨p0, p1, p2, p3, p4⟩ := (box5_new w (.int .i64 T.k) (.int .i64 T.lo) (.int .i64 T.hi) (.int .i64 T.mx) (.slice A n c) 24).below hb (by simp)
    have hB2 : Below w.heap.size w w1 := nextB (allocB _ _) hb
    clear hb HU
    rcases HC.out with ⟨hu0, hr⟩ | ⟨hu0, hr⟩
    · have bu : (u != 0) = true := by simpa using hu0
      have HR0 := Lib.hid hr
      clear hu0 hr HC HT HL HR
      go_wp2
      go_ret
      exact ⟨by rw [HR0.out]; rfl, hB2⟩
    · subst hu0
      clear HC
      by_cases k2 : T.k = 2
      · rw [if_pos k2] at hr
        have HR0 := Lib.hid hr
        have HR2 := Lib.hid (HR.out w1)
        have b2 : (T.k == 2) = true := by simpa using k2
        clear k2 HT HL HR hr
        go_wp2_with fail
        refine HR2.out.mono ?_
        rintro e2 w2 ⟨rfl, hb2⟩
        have hB3 := nextB hB2 hb2
        clear hB2 hb2 HR2 p0 p1 p2 p3 p4
        go_wp2
        go_ret
        exact ⟨by rw [HR0.out]; rfl, hB3⟩
      · have b2 : (T.k == 2) = false := by simpa using k2
        rw [if_neg k2] at hr
        by_cases k5 : T.k = 5
        · rw [if_pos k5] at hr
          have HR0 := Lib.hid hr
          have HT2 := Lib.hid (HT.out w1 hB2)
          have b5 : (T.k == 5) = true := by simpa using k5
          clear k2 k5 HT HL HR hr
          go_wp2_with fail
          refine HT2.out.mono ?_
          rintro e2 w2 ⟨rfl, hb2⟩
          have hB3 := nextB hB2 hb2
          clear hB2 hb2 HT2 p0 p1 p2 p3 p4
          go_wp2
          go_ret
          exact ⟨by rw [HR0.out]; rfl, hB3⟩
        · have b5 : (T.k == 5) = false := by simpa using k5
          rw [if_neg k5] at hr
          by_cases k6 : T.k = 6
          · rw [if_pos k6] at hr
            have HR0 := Lib.hid hr
            have HL2 := Lib.hid (HL.out w1 hB2)
            have b6 : (T.k == 6) = true := by simpa using k6
            clear k2 k5 k6 HT HL HR hr
            go_wp2_with fail
            refine HL2.out.mono ?_
            rintro e2 w2 ⟨rfl, hb2⟩
            have hB3 := nextB hB2 hb2
            clear hB2 hb2 HL2 p0 p1 p2 p3 p4
            go_wp2
            go_ret
            exact ⟨by rw [HR0.out]; rfl, hB3⟩
          · have b6 : (T.k == 6) = false := by simpa using k6
            rw [if_neg k6] at hr
            have HR0 := Lib.hid hr
            clear k2 k5 k6 HT HL HR hr
            go_wp2
            go_ret
            exact ⟨by rw [HR0.out]; rfl, hB2⟩
end Go.Proofs.YtklndjkblfncjaaGreatDoor
