/-
  The reference's wrong: the error of a type.
-/
import Derived.Test.YtklndjkblfncjaaGreatDoorDep7
namespace Go.Proofs.YtklndjkblfncjaaGreatDoor
open Go Go.RowKit
set_option maxRecDepth 20000

set_option maxHeartbeats 4000000 in
theorem wrongKind_e (k lo hi mx : Int) (A : Option Addr) (n c : Nat) (w : World) (hk : k < 1 ∨ 6 < k) :
    Calls Tryz.prog 67 #[.agg #[.int .i64 k, .int .i64 lo, .int .i64 hi, .int .i64 mx, .slice A n c]] w (FaultIs 14 w) := by
  rcases hk with hk | hk
  all_goals
    go_enter Tryz.func67, Tryz.ntmps67
    go_wp2
    go_ret
    exact ⟨rfl, allocB _ _⟩

set_option maxHeartbeats 4000000 in
theorem wrongForm_e (k lo hi mx : Int) (A : Option Addr) (n c : Nat) (w : World) (h1 : 1 ≤ k) (h6 : k ≤ 6) (hbad : (k ≠ 2 ∧ lo ≠ 0) ∨ (k ≠ 2 ∧ lo = 0 ∧ hi ≠ 0) ∨ (k = 2 ∧ mx ≠ 0) ∨ (k ≠ 2 ∧ k ≠ 6 ∧ lo = 0 ∧ hi = 0 ∧ mx ≠ 0) ∨ (k = 2 ∧ mx = 0 ∧ 0 < n) ∨ (k ≠ 2 ∧ k < 5 ∧ lo = 0 ∧ hi = 0 ∧ mx = 0 ∧ 0 < n)) :
    Calls Tryz.prog 67 #[.agg #[.int .i64 k, .int .i64 lo, .int .i64 hi, .int .i64 mx, .slice A n c]] w (FaultIs 2 w) := by
  rcases hbad with ⟨a1, a2⟩ | ⟨a1, rfl, a2⟩ | ⟨rfl, a2⟩ | ⟨a1, a2, rfl, rfl, a3⟩ | ⟨rfl, rfl, a2⟩ | ⟨a1, a2, rfl, rfl, rfl, a3⟩
  · have b1 : (k != 2) = true := by simpa using a1
    have b2 : (lo != 0) = true := by simpa using a2
    clear a1 a2
    go_enter Tryz.func67, Tryz.ntmps67
    go_wp2
    go_ret
    exact ⟨rfl, allocB _ _⟩
  · have b1 : (k != 2) = true := by simpa using a1
    have b2 : (hi != 0) = true := by simpa using a2
    clear a1 a2
    go_enter Tryz.func67, Tryz.ntmps67
    go_wp2
    go_ret
    exact ⟨rfl, allocB _ _⟩
  · have b2 : (mx != 0) = true := by simpa using a2
    clear a2
    go_enter Tryz.func67, Tryz.ntmps67
    go_wp2
    go_ret
    exact ⟨rfl, allocB _ _⟩
  · have b1 : (k != 2) = true := by simpa using a1
    have b2 : (k != 6) = true := by simpa using a2
    have b3 : (mx != 0) = true := by simpa using a3
    clear a1 a2 a3
    go_enter Tryz.func67, Tryz.ntmps67
    go_wp2
    go_ret
    exact ⟨rfl, allocB _ _⟩
  · go_enter Tryz.func67, Tryz.ntmps67
    go_wp2
    go_ret
    exact ⟨rfl, allocB _ _⟩
  · have b1 : (k != 2) = true := by simpa using a1
    have b2 : (k != 6) = true := by simp; omega
    clear a1
    go_enter Tryz.func67, Tryz.ntmps67
    go_wp2
    go_ret
    exact ⟨rfl, allocB _ _⟩

def WrongAtE (d : Nat) : Prop := ∀ (S : Nat → Prop) (T : Ty) (A : Option Addr) (n c : Nat) (w : World), TyRd S w d T A n c → Calls Tryz.prog 67 #[tyV T A n c] w (FaultIs (terr d T) w)
set_option maxHeartbeats 8000000 in
theorem wrong_e : ∀ d, WrongAtE d
  | 0, _, _, _, _, _, _, h => h.elim
  | d + 1, S, T, A, n, c, w, h => by
    have IH := wrong_e d
    obtain ⟨hl, hcap, htop⟩ := h.len
    unfold maxLen at htop
    by_cases hu : tunused T = 0
    · rw [terr_unused hu]
      have hkinds : T.k = 1 ∨ T.k = 2 ∨ T.k = 3 ∨ T.k = 4 ∨ T.k = 5 ∨ T.k = 6 := by
        unfold tunused at hu
        repeat' split at hu
        all_goals omega
      unfold tunused at hu
      by_cases k134 : T.k = 1 ∨ T.k = 3 ∨ T.k = 4
      · have hz : T.lo = 0 ∧ T.hi = 0 ∧ T.mx = 0 ∧ T.es.length = 0 := by
          rw [if_neg (by omega), if_neg (by omega), if_neg (by omega), if_pos k134] at hu
          split at hu
          · assumption
          · cases hu
        obtain ⟨h1, h2, h3, h4⟩ := hz
        rw [if_neg (by omega), if_neg (by omega), if_neg (by omega)]
        rw [h4] at hl
        subst hl
        rcases k134 with hk | hk | hk
        all_goals
          simp only [tyV, hk, h1, h2, h3]
          clear h IH hk h1 h2 h3 h4 hu hkinds
          go_enter Tryz.func67, Tryz.ntmps67
          go_wp2
          go_ret
          exact ⟨rfl, allocB _ _⟩
      · by_cases hk : T.k = 2
        · have hz : T.mx = 0 ∧ T.es.length = 0 := by
            rw [if_pos hk] at hu
            split at hu
            · assumption
            · cases hu
          obtain ⟨h3, h4⟩ := hz
          rw [if_pos hk]
          rw [h4] at hl
          subst hl
          simp only [tyV, hk, h3]
          clear h IH hk h3 h4 hu hkinds k134
          by_cases hc : -1000 ≤ T.lo ∧ T.lo ≤ T.hi ∧ T.hi ≤ 1000
          · rw [if_pos hc]
            obtain ⟨a1, a2, a3⟩ := hc
            go_enter Tryz.func67, Tryz.ntmps67
            go_wp2
            go_ret
            exact ⟨rfl, allocB _ _⟩
          · rw [if_neg hc]
            by_cases a1 : T.lo < -1000
            · clear hc
              go_enter Tryz.func67, Tryz.ntmps67
              go_wp2
              go_ret
              exact ⟨rfl, allocB _ _⟩
            · by_cases a2 : T.hi < T.lo
              · clear hc
                go_enter Tryz.func67, Tryz.ntmps67
                go_wp2
                go_ret
                exact ⟨rfl, allocB _ _⟩
              · have a3 : 1000 < T.hi := by omega
                clear hc
                go_enter Tryz.func67, Tryz.ntmps67
                go_wp2
                go_ret
                exact ⟨rfl, allocB _ _⟩
        · rw [if_neg hk]
          by_cases hk5 : T.k = 5
          · have hz : T.lo = 0 ∧ T.hi = 0 ∧ T.mx = 0 := by
              rw [if_neg hk, if_neg (by omega), if_pos hk5] at hu
              split at hu
              · assumption
              · cases hu
            obtain ⟨h1, h2, h3⟩ := hz
            rw [if_pos hk5, hl]
            simp only [tyV, hk5, h1, h2, h3]
            by_cases hn : n < 2 ∨ 4 < n
            · rw [if_pos hn]
              clear h IH hk h1 h2 h3 hu hkinds k134 hl hk5
              rcases hn with hn | hn
              all_goals
                go_enter Tryz.func67, Tryz.ntmps67
                go_wp2
                go_ret
                exact ⟨rfl, allocB _ _⟩
            · rw [if_neg hn]
              have hn2 : 2 ≤ n := by omega
              have hn4 : n ≤ 4 := by omega
              obtain ⟨Z, hZ⟩ : ∃ Z, (T.es.map fun e => inTuple e.k (terr d e)) = Z := ⟨_, rfl⟩
              rw [hZ]
              have HZ := Lib.hid hZ
              have HZN : Hid (Z.length = n) := by show _ = _; rw [← hZ, List.length_map, hl]
              have H := Lib.hid h
              have HI := Lib.hid IH
              obtain ⟨v, hv⟩ : ∃ v, w.alloc (.cells #[.int .i64 5, .int .i64 0, .int .i64 0, .int .i64 0, .slice A n c] 24) = v := ⟨_, rfl⟩
              obtain ⟨hvs, hwv, hbx⟩ := box_t w _ _ _ _ _ _ v hv
              have HBX := Lib.hid hbx
              have HVV := Lib.hid hv
              have HWV := Lib.hid hwv
              clear h IH hk h1 h2 h3 hl hv hbx hwv hvs hZ hu hkinds k134 hk5 hn
              go_enter Tryz.func67, Tryz.ntmps67
              go_wp2
              rw [HVV.out]
              go_loopw [4] (fun iv wr => ∃ i : Nat, i ≤ n ∧ iv = .int .i64 i ∧ Hid (firstE (Z.take i) = 0 ∧ Below v.heap.size v wr)) (fun iv _ => n - (intOf iv).toNat)
              case atStart => exact ⟨0, Nat.zero_le _, rfl, by simp [firstE], Below.refl _ _⟩
              case round =>
                obtain ⟨i, hi, rfl, HZB⟩ := hrel
                have HZT := Lib.hid HZB.out.1
                have HB := Lib.hid HZB.out.2
                clear HZB
                obtain ⟨p0, p1, p2, p3, p4⟩ := HBX.out wr HB.out
                by_cases hlt : i < n
                · obtain ⟨e, g, o, A', n', c', he, rfl, _, hg, hc, hr⟩ := (H.out.below (nextB HWV.out HB.out)).get hlt
                  have HC : Hid (∀ W, Below wr.heap.size wr W → W.cell? ⟨g, o + i * 5, none⟩ = some (.int .i64 e.k)) := fun W hW => (hc.keep (hW.block g hg)).c0
                  obtain ⟨c0, c1, c2, c3, c4⟩ := hc
                  have HF := Lib.hid (HI.out S e A' n' c' wr hr)
                  have hzi : Z[i]? = some (inTuple e.k (terr d e)) := by rw [← HZ.out, List.getElem?_map, he]; rfl
                  obtain ⟨x, hx⟩ : ∃ x, terr d e = x := ⟨_, rfl⟩
                  rw [hx] at HF hzi
                  have HZI := Lib.hid hzi
                  clear he hr hx hzi
                  go_wp2_with fail
                  refine HF.out.mono ?_
                  rintro e1 w1 ⟨rfl, hb⟩
                  have HB2 := Lib.hid (nextB HB.out hb)
                  have q0 := HC.out w1 hb
                  clear HF hb HB c0 c1 c2 c3 c4 p0 p1 p2 p3 p4 HC
                  obtain ⟨p0, p1, p2, p3, p4⟩ := HBX.out w1 HB2.out
                  by_cases hx0 : x = 0
                  · subst hx0
                    by_cases k3 : e.k = 3
                    · have b3 : (e.k == 3) = true := by simpa using k3
                      have hz8 : inTuple e.k 0 = 8 := by simp [inTuple, k3]
                      have HFIN : Hid (firstE Z = 8) := by have h2 := HZI.out; rw [hz8] at h2; exact firstE_at HZT.out h2 (by decide)
                      clear k3 hz8
                      go_wp2
                      go_ret
                      exact ⟨by rw [HFIN.out]; rfl, nextB HWV.out HB2.out⟩
                    · have b3 : (e.k == 3) = false := by simpa using k3
                      by_cases k4 : e.k = 4
                      · have b4 : (e.k == 4) = true := by simpa using k4
                        have hz8 : inTuple e.k 0 = 8 := by simp [inTuple, k4]
                        have HFIN : Hid (firstE Z = 8) := by have h2 := HZI.out; rw [hz8] at h2; exact firstE_at HZT.out h2 (by decide)
                        clear k3 k4 hz8
                        go_wp2
                        go_ret
                        exact ⟨by rw [HFIN.out]; rfl, nextB HWV.out HB2.out⟩
                      · have b4 : (e.k == 4) = false := by simpa using k4
                        have hz0 : inTuple e.k 0 = 0 := by simp [inTuple, k3, k4]
                        have HN : Hid (firstE (Z.take (i + 1)) = 0 ∧ Below v.heap.size v w1) := ⟨by have h2 := HZI.out; rw [hz0] at h2; exact firstE_next HZT.out h2 rfl, HB2.out⟩
                        clear k3 k4 hz0
                        go_wp2
                        go_roundw
                        case rel => exact ⟨i + 1, by omega, by go_num, HN⟩
                        case measure => simp [intOf] <;> omega
                  · have bx : (x != 0) = true := by simpa using hx0
                    have HFIN : Hid (firstE Z = x) := by
                      have h2 := HZI.out
                      have hz : inTuple e.k x = x := by unfold inTuple; rw [if_pos hx0]
                      rw [hz] at h2
                      exact firstE_at HZT.out h2 hx0
                    clear hx0
                    go_wp2
                    go_ret
                    exact ⟨by rw [HFIN.out]; rfl, nextB HWV.out HB2.out⟩
                · obtain rfl : i = n := by omega
                  have HFIN : Hid (firstE Z = 0) := by
                    have := HZT.out
                    rwa [List.take_of_length_le (by rw [HZN.out]; exact Nat.le_refl _)] at this
                  go_wp2
                  go_ret
                  exact ⟨by rw [HFIN.out]; rfl, nextB HWV.out HB.out⟩
          · rw [if_neg hk5]
            have hk6 : T.k = 6 := by omega
            have hz : T.lo = 0 ∧ T.hi = 0 := by
              rw [if_neg hk, if_pos hk6] at hu
              split at hu
              · assumption
              · cases hu
            obtain ⟨h1, h2⟩ := hz
            rw [if_pos hk6, hl]
            simp only [tyV, hk6, h1, h2]
            by_cases hm : T.mx < 1 ∨ 4 < T.mx
            · rw [if_pos hm]
              clear h IH hk h1 h2 hu hkinds k134 hl hk5 hk6
              rcases hm with hm | hm
              all_goals
                go_enter Tryz.func67, Tryz.ntmps67
                go_wp2
                go_ret
                exact ⟨rfl, allocB _ _⟩
            · rw [if_neg hm]
              have hm1 : 1 ≤ T.mx := by omega
              have hm4 : T.mx ≤ 4 := by omega
              by_cases hn : n = 1
              · subst hn
                rw [if_neg (by simp)]
                obtain ⟨e, g, o, A', n', c', he, rfl, _, hg, hc, hr⟩ := h.get (i := 0) (by omega)
                have hes : T.es = [e] := by
                  obtain ⟨x, hx⟩ := List.length_eq_one_iff.1 hl
                  rw [hx] at he ⊢
                  simpa using he
                have hfe : firstE (T.es.map fun e => inList e.k (terr d e)) = inList e.k (terr d e) := by rw [hes]; exact firstE_one _
                rw [hfe]
                obtain ⟨v, hv⟩ : ∃ v, w.alloc (.cells #[.int .i64 6, .int .i64 0, .int .i64 0, .int .i64 T.mx, .slice (some ⟨g, o, none⟩) 1 c] 24) = v := ⟨_, rfl⟩
                obtain ⟨hvs, hwv, hbx⟩ := box_t w _ _ _ _ _ _ v hv
                have HC : Hid (∀ W, Below w.heap.size w W → TyCells W g o e A' n' c') := fun W hW => by have := hc.keep (hW.block g hg); simpa using this
                have HF := Lib.hid (IH S e A' n' c' v (hr.below hwv))
                have HBX := Lib.hid hbx
                have HVV := Lib.hid hv
                have HWV := Lib.hid hwv
                obtain ⟨x, hx⟩ : ∃ x, terr d e = x := ⟨_, rfl⟩
                rw [hx] at HF ⊢
                obtain ⟨c0, c1, c2, c3, c4⟩ := HC.out _ (allocB w (.cells #[.int .i64 6, .int .i64 0, .int .i64 0, .int .i64 T.mx, .slice (some ⟨g, o, none⟩) 1 c] 24))
                clear h hk hl IH he hr hc hv hbx hwv hvs h1 h2 hes hfe hx hu hkinds k134 hk5 hk6 hm
                go_enter Tryz.func67, Tryz.ntmps67
                go_wp2_with fail
                rw [HVV.out]
                refine HF.out.mono ?_
                rintro e1 w1 ⟨rfl, hb⟩
                have hB := nextB HWV.out hb
                obtain ⟨q0, q1, q2, q3, q4⟩ := HC.out w1 hB
                clear c0 c1 c2 c3 c4 q1 q2 q3 q4 HF
                obtain ⟨p0, p1, p2, p3, p4⟩ := HBX.out w1 hb
                clear hb HC HBX
                by_cases hx0 : x = 0
                · subst hx0
                  by_cases k1 : e.k = 1
                  · have b1 : (e.k != 1) = false := by simpa using k1
                    have hz : Hid (inList e.k 0 = 0) := by show _ = _; simp [inList, k1]
                    clear k1
                    go_wp2
                    go_ret
                    exact ⟨by rw [hz.out]; rfl, hB⟩
                  · have b1 : (e.k != 1) = true := by simpa using k1
                    by_cases k2 : e.k = 2
                    · have b2 : (e.k != 2) = false := by simpa using k2
                      have hz : Hid (inList e.k 0 = 0) := by show _ = _; simp [inList, k2]
                      clear k1 k2
                      go_wp2
                      go_ret
                      exact ⟨by rw [hz.out]; rfl, hB⟩
                    · have b2 : (e.k != 2) = true := by simpa using k2
                      have hz : Hid (inList e.k 0 = 8) := by show _ = _; simp [inList, k1, k2]
                      clear k1 k2
                      go_wp2
                      go_ret
                      exact ⟨by rw [hz.out]; rfl, hB⟩
                · have bx : (x != 0) = true := by simpa using hx0
                  have hz : Hid (inList e.k x = x) := by show _ = _; unfold inList; rw [if_pos hx0]
                  clear hx0
                  go_wp2
                  go_ret
                  exact ⟨by rw [hz.out]; rfl, hB⟩
              · rw [if_pos hn]
                have bn : ((n : Int) != 1) = true := by simp; omega
                clear h IH hk h1 h2 hu hkinds k134 hl hk5 hk6 hm hn
                go_enter Tryz.func67, Tryz.ntmps67
                go_wp2
                go_ret
                exact ⟨rfl, allocB _ _⟩
    · rw [terr_used hu]
      unfold tunused at hu ⊢
      simp only [tyV]
      by_cases hk : T.k < 1 ∨ 6 < T.k
      · rw [if_neg (by omega), if_neg (by omega), if_neg (by omega), if_neg (by omega)]
        exact wrongKind_e _ _ _ _ _ _ _ _ hk
      · have hbad : (T.k ≠ 2 ∧ T.lo ≠ 0) ∨ (T.k ≠ 2 ∧ T.lo = 0 ∧ T.hi ≠ 0) ∨ (T.k = 2 ∧ T.mx ≠ 0) ∨ (T.k ≠ 2 ∧ T.k ≠ 6 ∧ T.lo = 0 ∧ T.hi = 0 ∧ T.mx ≠ 0) ∨ (T.k = 2 ∧ T.mx = 0 ∧ 0 < n) ∨ (T.k ≠ 2 ∧ T.k < 5 ∧ T.lo = 0 ∧ T.hi = 0 ∧ T.mx = 0 ∧ 0 < n) := by
          rw [hl] at hu
          repeat' split at hu
          all_goals omega
        have hx : (if T.k = 2 then (if T.mx = 0 ∧ T.es.length = 0 then 0 else 2)
  else if T.k = 6 then (if T.lo = 0 ∧ T.hi = 0 then 0 else 2)
  else if T.k = 5 then (if T.lo = 0 ∧ T.hi = 0 ∧ T.mx = 0 then 0 else 2)
  else if T.k = 1 ∨ T.k = 3 ∨ T.k = 4 then (if T.lo = 0 ∧ T.hi = 0 ∧ T.mx = 0 ∧ T.es.length = 0 then 0 else 2)
  else 14 : Int) = 2 := by
          clear hbad
          repeat' split at hu
          all_goals first | omega | (repeat' split) <;> omega
        rw [hx]
        exact wrongForm_e _ _ _ _ _ _ _ _ (by omega) (by omega) hbad
end Go.Proofs.YtklndjkblfncjaaGreatDoor
