/-
  LexerPlaces.
-/
import Derived.Test.YtenobkhiekhohaaLexPP
namespace Go.Proofs.Ytenobkhiekhohaa
open Go Go.RowKit Lx
set_option maxRecDepth 100000

set_option maxHeartbeats 16000000 in
theorem lexerPlaces.walk {A : Option Addr} {n c : Nat} {w : World} (hcap : n ≤ c) (htop : c ≤ maxLen) (hI : 0 < n → ∃ ad, A = some ad ∧ IntsAt w ad n (-9223372036854775808) 9223372036854775807) :
    Calls Try.prog 5 #[.slice A n c] w (SaysTrue w) := by
  have H1 := Lib.hid (new_any A n c w hcap htop hI)
  clear hcap htop hI
  go_enter Try.func5, Try.ntmps5
  go_wp2_with fail
  refine H1.out.mono ?_
  rintro e w1 ⟨g, rfl, hg, hs, hb1⟩
  have HG := Lib.hid hg
  clear H1 hg
  go_upto_block 0 with (fail)
  go_cut [4] (fun tv wx => ∃ TS : ByteArray, tv = .string TS ∧ TS.size ≤ 1900 ∧ Below w.heap.size w wx)
  case first =>
    go_wp2_with fail
    go_loopw [4, 5] (fun tv iv wr => ∃ (i : Nat) (TS : ByteArray), i ≤ 30 ∧ iv = .int .i64 i ∧ tv = .string TS ∧ TS.size ≤ 62 * i ∧ Src wr g ∧ Below w.heap.size w wr) (fun _ iv _ => 30 - (intOf iv).toNat)
    case atStart => exact ⟨0, _, by omega, rfl, rfl, Nat.le_refl _, hs, hb1⟩
    case round =>
      obtain ⟨i, TS, hi, rfl, rfl, hTS, hs, hB⟩ := hrel
      have HS := Lib.hid hs
      have HW := Lib.hid hB
      clear hs hB hb1
      by_cases hi30 : i < 30
      · have hi30' : (i : Int) < 30 := by omega
        by_cases hi2 : i < 2
        · have hi2' : (i : Int) < 2 := by omega
          have HS2 := HS
          have HW2 := HW
          clear HS HW
          go_wp2_with fail
          refine (piece_x g _ HS2.out).mono ?_
          rintro e w3 ⟨t, htm, rfl, hs3, hB3⟩
          have htl := pcs_short t htm
          obtain ⟨TB, hTB⟩ : ∃ TB, bs t = TB := ⟨_, rfl⟩
          have hTBs : TB.size ≤ 61 := by rw [← hTB, bs_size]; exact htl
          rw [hTB]
          have HS3 := Lib.hid hs3
          have HW3 : Hid (Below w.heap.size w w3) := HW2.out.trans (hB3.below HG.out HW2.out.size)
          have hcs := cat_size TS TB
          have HSZ : Hid ((TS ++ TB).size ≤ 62 * (i + 1)) := by show _ ≤ _; omega
          clear hs3 hB3 hTB htm htl HS2 HW2 hcs
          go_wp2
          go_roundw
          case rel => exact ⟨i + 1, _, by omega, by go_num, rfl, HSZ.out, HS3.out, HW3.out⟩
          case measure => simp [intOf] <;> omega
        · have hi2' : ¬ (i : Int) < 2 := by omega
          go_wp2_with fail
          refine (more_any g _ HS.out).mono ?_
          rintro e w2 ⟨b, a, rfl, rfl⟩
          have HS2 := Lib.hid (HS.out.drewN a)
          have HW2 := Lib.hid (drewN_below HW.out a)
          clear HS HW
          generalize wr.drewN a = w2 at *
          cases b with
          | true =>
            go_wp2_with fail
            refine (piece_x g _ HS2.out).mono ?_
            rintro e w3 ⟨t, htm, rfl, hs3, hB3⟩
            have htl := pcs_short t htm
            obtain ⟨TB, hTB⟩ : ∃ TB, bs t = TB := ⟨_, rfl⟩
            have hTBs : TB.size ≤ 61 := by rw [← hTB, bs_size]; exact htl
            rw [hTB]
            have HS3 := Lib.hid hs3
            have HW3 : Hid (Below w.heap.size w w3) := HW2.out.trans (hB3.below HG.out HW2.out.size)
            have hcs := cat_size TS TB
            have HSZ : Hid ((TS ++ TB).size ≤ 62 * (i + 1)) := by show _ ≤ _; omega
            clear hs3 hB3 hTB htm htl HS2 HW2 hcs
            go_wp2
            go_roundw
            case rel => exact ⟨i + 1, _, by omega, by go_num, rfl, HSZ.out, HS3.out, HW3.out⟩
            case measure => simp [intOf] <;> omega
          | false =>
            go_wp2
            go_meet
            exact ⟨TS, rfl, by omega, HW2.out⟩
      · obtain rfl : i = 30 := by omega
        go_wp2
        go_meet
        exact ⟨TS, rfl, by omega, HW.out⟩
  case rest =>
    obtain ⟨TS, rfl, hTS, hB⟩ := hcut
    clear hs hb1 HG
    have hTK := tokens_x TS wc (by unfold maxLen; omega)
    rw [if_pos (by omega)] at hTK
    have HTK := Lib.hid hTK
    have HW := Lib.hid hB
    clear hTK hB
    go_wp2_with fail
    refine HTK.out.mono ?_
    rintro e w1 (⟨T, A, n, c, hT, rfl, hTn, hown, hb1⟩ | ⟨l, co, er, hT, her, rfl, hb1⟩)
    · obtain ⟨w2, hw2⟩ : ∃ w2, w1.alloc (.cells #[.int .i64 0, .int .i64 0] 32) = w2 := ⟨_, rfl⟩
      have hb2 : Below w1.heap.size w1 w2 := hw2 ▸ allocB w1 _
      have HW2 : Hid (Below w.heap.size w w2) := HW.out.trans ((nextB hb1 hb2).mono HW.out.size)
      have hpos : 0 < n := by
        rcases Nat.eq_zero_or_pos n with h | h
        · have hT0 : T = [] := List.eq_nil_of_length_eq_zero (by omega)
          rw [hT0] at hT; exact absurd hT (lex_one _ _)
        · exact h
      obtain ⟨gA, rfl, _, _, hA⟩ := row_tok (row_below hown hb2) hTn hpos
      have hn19 := row_cap hown
      have HA := Lib.hid hA
      have HT := Lib.hid hT
      have HTN := Lib.hid hTn
      have HWW := Lib.hid hw2
      clear hw2 hb1 hb2 hown hA hT hTn HTK
      go_upto_block 2 with (fail)
      rw [HWW.out]
      have hTS9 := hTS
      obtain ⟨L, hL⟩ : ∃ L, TS.toList = L := ⟨_, rfl⟩
      have hLd : TS.data.toList = L := by rw [← hL, Lib.toList_data]
      have hLl : L.length = TS.size := by rw [← hLd]; simp
      rw [hL] at HT
      have HL := Lib.hid hLd
      have HLL := Lib.hid hLl
      clear hL hLd hLl
      go_wp2_with fail
      go_loopw [9, 10, 11, 12, 13] (fun lv cv av bv iv wq => ∃ (q1 q2 : Int) (k i a : Nat) (b : Bool), i ≤ n ∧ k ≤ TS.size ∧ lv = .int .i64 q1 ∧ cv = .int .i64 q2 ∧ av = .int .i64 k ∧ bv = .bool b ∧ iv = .int .i64 i ∧ Hid (wq = w2.drewN a) ∧
          ((0 ≤ q1 ∧ q1 ≤ 4000) ∧ (0 ≤ q2 ∧ q2 ≤ k + 1)) ∧ Hid (q1 ≤ k + 1) ∧ Hid (i < n → b = false ∧ lex (L.drop k) (q1, q2) = .ok (T.drop i)) ∧ Hid (i = n → k = TS.size)) (fun _ _ _ _ iv _ => n - (intOf iv).toNat)
      case atStart => exact ⟨1, 1, 0, 0, 0, false, Nat.zero_le _, Nat.zero_le _, rfl, rfl, rfl, rfl, rfl, rfl, by omega, by show (1 : Int) ≤ _; omega, fun _ => ⟨rfl, HT.out⟩, fun h => by omega⟩
      case round =>
        obtain ⟨q1, q2, k, i, a, b, hi, hk, rfl, rfl, rfl, rfl, rfl, hwq, ⟨⟨b0, b1⟩, b2, b3⟩, hq1, hmore, hend⟩ := hrel
        obtain rfl := hwq.out
        clear hwq
        by_cases hlt : i < n
        · obtain ⟨rfl, hlex⟩ := hmore.out hlt
          have hTi : i < T.length := by rw [HTN.out]; exact hlt
          have hdrop : T.drop i = T[i] :: T.drop (i + 1) := List.drop_eq_getElem_cons hTi
          obtain ⟨r, t, ts, e0, hcut⟩ := lex_cut _ (L.drop k) (q1, q2) false (T.drop i) (Nat.le_refl _) (fun h => by cases h) hlex
          rw [hdrop] at e0
          injection e0 with e1 e2
          have hat : T[i]? = some t := by rw [List.getElem?_eq_getElem hTi, e1]
          subst e2
          obtain ⟨a0, a1, a2, a3⟩ := HA.out i t hat
          have HC := Lib.hid hcut
          have hr : r + k ≤ TS.size := by have := hcut.le; rw [List.length_drop, HLL.out] at this; omega
          have hi' : (i : Int) < (n : Int) := by omega
          have hi0 : (0 : Int) ≤ (i : Int) := by omega
          have HTD := Lib.hid hdrop
          have hin : decide ((i : Int) < (n : Int)) = true := by simpa using hi'
          clear hlex hdrop hat e1 hcut hend hmore
          go_upto_block 4 with (fail)
          go_cut [9, 10, 11, 12] (fun lv cv av bv wx => lv = .int .i64 t.ln ∧ cv = .int .i64 t.co ∧ av = .int .i64 ((k + r : Nat) : Int) ∧ bv = .bool (cst false ((L.drop k).take r)) ∧ wx = w2.drewN a)
          case first =>
            go_wp2_with fail
            go_loop [9, 10, 11, 12] (fun lv cv av bv => ∃ (p1 p2 : Int) (j rr : Nat) (bb : Bool), Hid (j + rr = k + r) ∧ lv = .int .i64 p1 ∧ cv = .int .i64 p2 ∧ av = .int .i64 j ∧ bv = .bool bb ∧ ((0 ≤ p1 ∧ p1 ≤ j + 1) ∧ (0 ≤ p2 ∧ p2 ≤ j + 1)) ∧ j ≤ TS.size ∧ Hid (Fine bb (L.drop j) rr) ∧
                Hid (t.ln = (mvs (p1, p2) ((L.drop j).take rr)).1 ∧ t.co = (mvs (p1, p2) ((L.drop j).take rr)).2) ∧ Hid (cst bb ((L.drop j).take rr) = cst false ((L.drop k).take r))) (fun _ _ av _ => TS.size - (intOf av).toNat)
            case atStart => exact ⟨q1, q2, k, r, false, rfl, rfl, rfl, rfl, rfl, ⟨⟨b0, hq1.out⟩, b2, b3⟩, hk, HC.out.fine, ⟨HC.out.ln, HC.out.co⟩, rfl⟩
            case round =>
              obtain ⟨p1, p2, j, rr, bb, hjr, rfl, rfl, rfl, rfl, ⟨⟨d0, d1⟩, d2, d3⟩, hj, hfine, hpos, hcs⟩ := hrel
              clear b0 b1 b2 b3 hq1
              rcases rr with _ | rr
              · have hjk : j = k + r := by have := hjr.out; omega
                obtain ⟨e1, e2⟩ := hpos.out
                rw [List.take_zero] at e1 e2
                have e1 : t.ln = p1 := e1
                have e2 : t.co = p2 := e2
                have hc0 : bb = cst false ((L.drop k).take r) := by have := hcs.out; rw [List.take_zero] at this; exact this
                rw [e1] at a2
                rw [e2] at a3
                have E1 := Lib.hid e1
                have E2 := Lib.hid e2
                have HC0 := Lib.hid hc0
                have HJK := Lib.hid hjk
                clear e1 e2 hc0 hjk hfine hpos hcs hjr
                by_cases hjs : j < TS.size
                · have hjd : decide ((j : Int) < (TS.size : Int)) = true := by simpa using hjs
                  go_wp2
                  go_meet
                  exact ⟨by rw [E1.out], by rw [E2.out], by rw [HJK.out], by rw [HC0.out], rfl⟩
                · have hjd : decide ((j : Int) < (TS.size : Int)) = false := by simpa using hjs
                  go_wp2
                  go_meet
                  exact ⟨by rw [E1.out], by rw [E2.out], by rw [HJK.out], by rw [HC0.out], rfl⟩
              · have hjs : j < TS.size := by have := hjr.out; omega
                have hjd : decide ((j : Int) < (TS.size : Int)) = true := by simpa using hjs
                have hj0 : (0 : Int) ≤ (j : Int) := by omega
                have hji : (j : Int) < (TS.size : Int) := by omega
                have hdr : L.drop j = TS[j] :: L.drop (j + 1) := by rw [← HL.out]; exact drop_byte TS j hjs
                have hF := hfine.out
                have hP := hpos.out
                have hC := hcs.out
                rw [hdr] at hF hP hC
                rw [List.take_succ_cons] at hP hC
                obtain ⟨hF1, hF2⟩ := hF
                have hlt2 := mvs_lt (TS[j] :: (L.drop (j + 1)).take rr) (p1, p2) (by simp)
                rw [← hP.1, ← hP.2] at hlt2
                simp only at hlt2
                rw [mvs_cons] at hP
                rw [cst_cons] at hC
                have hbd := mv_bd (p := (p1, p2)) (n := j) ⟨⟨d0, d1⟩, d2, d3⟩ TS[j]
                clear hfine hpos hcs hdr
                have hJ : Hid (j + 1 + rr = k + r) := by show _ = _; have := hjr.out; omega
                have hj19 : j ≤ 1900 := by omega
                clear hjr
                obtain ⟨x, hx⟩ : ∃ x : Int, (TS[j].toNat : Int) = x := ⟨_, rfl⟩
                have key : (bb = true ∧ x ≠ 10 ∧ x ≠ 35 ∧ x ≠ 32 ∧ x ≠ 9) ∨ x = 10 ∨ x = 35 ∨ x = 32 ∨ x = 9 := by
                  unfold cstep isB at hF1
                  rw [hx] at hF1
                  cases bb <;> simp at hF1 ⊢ <;> omega
                clear hF1
                have hmv10 : x = 10 → mv (p1, p2) TS[j] = (p1 + 1, 1) := fun h => mv_nl (by rw [hx, h]; rfl)
                have hmvo : x ≠ 10 → mv (p1, p2) TS[j] = (p1, p2 + 1) := fun h => mv_no (by rw [hx]; simpa using h)
                have hcst : cstep bb TS[j] = ((bb || decide (x = 35)) && decide (x ≠ 10)) := by unfold cstep; rw [hx]
                rw [hcst] at hF2 hC
                have X35 : ((TS[j].toNat : Int) == 35) = (x == 35) := by rw [hx]
                have X10 : ((TS[j].toNat : Int) == 10) = (x == 10) := by rw [hx]
                have Y10 : ((TS[j].toNat : Int) != 10) = (x != 10) := by rw [hx]
                have Y32 : ((TS[j].toNat : Int) != 32) = (x != 32) := by rw [hx]
                have Y9 : ((TS[j].toNat : Int) != 9) = (x != 9) := by rw [hx]
                clear hx hcst
                have hl2 : p1 < t.ln ∨ p1 = t.ln := by omega
                rcases key with ⟨rfl, k10, k35, k32, k9⟩ | rfl | rfl | rfl | rfl
                · rw [hmvo k10] at hP hbd
                  have HP := Lib.hid hP
                  have HBD := Lib.hid hbd
                  have HF2 : Hid (Fine true (L.drop (j + 1)) rr) := Lib.hid (by have := hF2; simpa [k10] using this)
                  have HC2 : Hid (cst true ((L.drop (j + 1)).take rr) = cst false ((L.drop k).take r)) := Lib.hid (by have := hC; simpa [k10] using this)
                  clear hP hbd hF2 hC hmv10 hmvo
                  have z35 : (x == 35) = false := by simpa using k35
                  have z10 : (x == 10) = false := by simpa using k10
                  have w10 : (x != 10) = true := by simpa using k10
                  have w32 : (x != 32) = true := by simpa using k32
                  have w9 : (x != 9) = true := by simpa using k9
                  rw [z35] at X35
                  rw [z10] at X10
                  rw [w10] at Y10
                  rw [w32] at Y32
                  rw [w9] at Y9
                  clear z35 z10 w10 w32 w9
                  rcases hl2 with hl2 | hl2
                  · have N1 : (p1 != t.ln) = true := by simp; omega
                    clear hlt2 hl2
                    go_wp2
                    go_round
                    case rel => exact ⟨_, _, j + 1, rr, true, hJ, rfl, rfl, by go_num, rfl, HBD.out, by omega, HF2.out, HP.out, HC2.out⟩
                    case measure => simp [intOf] <;> omega
                  · have N2 : (p2 != t.co) = true := by simp; omega
                    rw [← hl2] at a2
                    clear hlt2 hl2
                    go_wp2
                    go_round
                    case rel => exact ⟨_, _, j + 1, rr, true, hJ, rfl, rfl, by go_num, rfl, HBD.out, by omega, HF2.out, HP.out, HC2.out⟩
                    case measure => simp [intOf] <;> omega
                · rw [hmv10 rfl] at hP hbd
                  have HP := Lib.hid hP
                  have HBD := Lib.hid hbd
                  have HF2 : Hid (Fine false (L.drop (j + 1)) rr) := Lib.hid (by have := hF2; simpa using this)
                  have HC2 : Hid (cst false ((L.drop (j + 1)).take rr) = cst false ((L.drop k).take r)) := Lib.hid (by have := hC; simpa using this)
                  clear hP hbd hF2 hC hmv10 hmvo
                  have z35 : (((10 : Int)) == 35) = false := rfl
                  have z10 : (((10 : Int)) == 10) = true := rfl
                  have w10 : (((10 : Int)) != 10) = false := rfl
                  have w32 : (((10 : Int)) != 32) = true := rfl
                  have w9 : (((10 : Int)) != 9) = true := rfl
                  rw [z35] at X35
                  rw [z10] at X10
                  rw [w10] at Y10
                  rw [w32] at Y32
                  rw [w9] at Y9
                  clear z35 z10 w10 w32 w9
                  cases bb
                  · rcases hl2 with hl2 | hl2
                    · have N1 : (p1 != t.ln) = true := by simp; omega
                      clear hlt2 hl2
                      go_wp2
                      go_round
                      case rel => exact ⟨_, _, j + 1, rr, false, hJ, rfl, rfl, by go_num, rfl, HBD.out, by omega, HF2.out, HP.out, HC2.out⟩
                      case measure => simp [intOf] <;> omega
                    · have N2 : (p2 != t.co) = true := by simp; omega
                      rw [← hl2] at a2
                      clear hlt2 hl2
                      go_wp2
                      go_round
                      case rel => exact ⟨_, _, j + 1, rr, false, hJ, rfl, rfl, by go_num, rfl, HBD.out, by omega, HF2.out, HP.out, HC2.out⟩
                      case measure => simp [intOf] <;> omega
                  · rcases hl2 with hl2 | hl2
                    · have N1 : (p1 != t.ln) = true := by simp; omega
                      clear hlt2 hl2
                      go_wp2
                      go_round
                      case rel => exact ⟨_, _, j + 1, rr, false, hJ, rfl, rfl, by go_num, rfl, HBD.out, by omega, HF2.out, HP.out, HC2.out⟩
                      case measure => simp [intOf] <;> omega
                    · have N2 : (p2 != t.co) = true := by simp; omega
                      rw [← hl2] at a2
                      clear hlt2 hl2
                      go_wp2
                      go_round
                      case rel => exact ⟨_, _, j + 1, rr, false, hJ, rfl, rfl, by go_num, rfl, HBD.out, by omega, HF2.out, HP.out, HC2.out⟩
                      case measure => simp [intOf] <;> omega
                · rw [hmvo (by decide)] at hP hbd
                  have HP := Lib.hid hP
                  have HBD := Lib.hid hbd
                  have HF2 : Hid (Fine true (L.drop (j + 1)) rr) := Lib.hid (by have := hF2; simpa using this)
                  have HC2 : Hid (cst true ((L.drop (j + 1)).take rr) = cst false ((L.drop k).take r)) := Lib.hid (by have := hC; simpa using this)
                  clear hP hbd hF2 hC hmv10 hmvo
                  have z35 : (((35 : Int)) == 35) = true := rfl
                  have z10 : (((35 : Int)) == 10) = false := rfl
                  have w10 : (((35 : Int)) != 10) = true := rfl
                  have w32 : (((35 : Int)) != 32) = true := rfl
                  have w9 : (((35 : Int)) != 9) = true := rfl
                  rw [z35] at X35
                  rw [z10] at X10
                  rw [w10] at Y10
                  rw [w32] at Y32
                  rw [w9] at Y9
                  clear z35 z10 w10 w32 w9
                  cases bb
                  · rcases hl2 with hl2 | hl2
                    · have N1 : (p1 != t.ln) = true := by simp; omega
                      clear hlt2 hl2
                      go_wp2
                      go_round
                      case rel => exact ⟨_, _, j + 1, rr, true, hJ, rfl, rfl, by go_num, rfl, HBD.out, by omega, HF2.out, HP.out, HC2.out⟩
                      case measure => simp [intOf] <;> omega
                    · have N2 : (p2 != t.co) = true := by simp; omega
                      rw [← hl2] at a2
                      clear hlt2 hl2
                      go_wp2
                      go_round
                      case rel => exact ⟨_, _, j + 1, rr, true, hJ, rfl, rfl, by go_num, rfl, HBD.out, by omega, HF2.out, HP.out, HC2.out⟩
                      case measure => simp [intOf] <;> omega
                  · rcases hl2 with hl2 | hl2
                    · have N1 : (p1 != t.ln) = true := by simp; omega
                      clear hlt2 hl2
                      go_wp2
                      go_round
                      case rel => exact ⟨_, _, j + 1, rr, true, hJ, rfl, rfl, by go_num, rfl, HBD.out, by omega, HF2.out, HP.out, HC2.out⟩
                      case measure => simp [intOf] <;> omega
                    · have N2 : (p2 != t.co) = true := by simp; omega
                      rw [← hl2] at a2
                      clear hlt2 hl2
                      go_wp2
                      go_round
                      case rel => exact ⟨_, _, j + 1, rr, true, hJ, rfl, rfl, by go_num, rfl, HBD.out, by omega, HF2.out, HP.out, HC2.out⟩
                      case measure => simp [intOf] <;> omega
                · rw [hmvo (by decide)] at hP hbd
                  have HP := Lib.hid hP
                  have HBD := Lib.hid hbd
                  have HF2 : Hid (Fine bb (L.drop (j + 1)) rr) := Lib.hid (by have := hF2; simpa using this)
                  have HC2 : Hid (cst bb ((L.drop (j + 1)).take rr) = cst false ((L.drop k).take r)) := Lib.hid (by have := hC; simpa using this)
                  clear hP hbd hF2 hC hmv10 hmvo
                  have z35 : (((32 : Int)) == 35) = false := rfl
                  have z10 : (((32 : Int)) == 10) = false := rfl
                  have w10 : (((32 : Int)) != 10) = true := rfl
                  have w32 : (((32 : Int)) != 32) = false := rfl
                  have w9 : (((32 : Int)) != 9) = true := rfl
                  rw [z35] at X35
                  rw [z10] at X10
                  rw [w10] at Y10
                  rw [w32] at Y32
                  rw [w9] at Y9
                  clear z35 z10 w10 w32 w9
                  cases bb
                  · rcases hl2 with hl2 | hl2
                    · have N1 : (p1 != t.ln) = true := by simp; omega
                      clear hlt2 hl2
                      go_wp2
                      go_round
                      case rel => exact ⟨_, _, j + 1, rr, false, hJ, rfl, rfl, by go_num, rfl, HBD.out, by omega, HF2.out, HP.out, HC2.out⟩
                      case measure => simp [intOf] <;> omega
                    · have N2 : (p2 != t.co) = true := by simp; omega
                      rw [← hl2] at a2
                      clear hlt2 hl2
                      go_wp2
                      go_round
                      case rel => exact ⟨_, _, j + 1, rr, false, hJ, rfl, rfl, by go_num, rfl, HBD.out, by omega, HF2.out, HP.out, HC2.out⟩
                      case measure => simp [intOf] <;> omega
                  · rcases hl2 with hl2 | hl2
                    · have N1 : (p1 != t.ln) = true := by simp; omega
                      clear hlt2 hl2
                      go_wp2
                      go_round
                      case rel => exact ⟨_, _, j + 1, rr, true, hJ, rfl, rfl, by go_num, rfl, HBD.out, by omega, HF2.out, HP.out, HC2.out⟩
                      case measure => simp [intOf] <;> omega
                    · have N2 : (p2 != t.co) = true := by simp; omega
                      rw [← hl2] at a2
                      clear hlt2 hl2
                      go_wp2
                      go_round
                      case rel => exact ⟨_, _, j + 1, rr, true, hJ, rfl, rfl, by go_num, rfl, HBD.out, by omega, HF2.out, HP.out, HC2.out⟩
                      case measure => simp [intOf] <;> omega
                · rw [hmvo (by decide)] at hP hbd
                  have HP := Lib.hid hP
                  have HBD := Lib.hid hbd
                  have HF2 : Hid (Fine bb (L.drop (j + 1)) rr) := Lib.hid (by have := hF2; simpa using this)
                  have HC2 : Hid (cst bb ((L.drop (j + 1)).take rr) = cst false ((L.drop k).take r)) := Lib.hid (by have := hC; simpa using this)
                  clear hP hbd hF2 hC hmv10 hmvo
                  have z35 : (((9 : Int)) == 35) = false := rfl
                  have z10 : (((9 : Int)) == 10) = false := rfl
                  have w10 : (((9 : Int)) != 10) = true := rfl
                  have w32 : (((9 : Int)) != 32) = true := rfl
                  have w9 : (((9 : Int)) != 9) = false := rfl
                  rw [z35] at X35
                  rw [z10] at X10
                  rw [w10] at Y10
                  rw [w32] at Y32
                  rw [w9] at Y9
                  clear z35 z10 w10 w32 w9
                  cases bb
                  · rcases hl2 with hl2 | hl2
                    · have N1 : (p1 != t.ln) = true := by simp; omega
                      clear hlt2 hl2
                      go_wp2
                      go_round
                      case rel => exact ⟨_, _, j + 1, rr, false, hJ, rfl, rfl, by go_num, rfl, HBD.out, by omega, HF2.out, HP.out, HC2.out⟩
                      case measure => simp [intOf] <;> omega
                    · have N2 : (p2 != t.co) = true := by simp; omega
                      rw [← hl2] at a2
                      clear hlt2 hl2
                      go_wp2
                      go_round
                      case rel => exact ⟨_, _, j + 1, rr, false, hJ, rfl, rfl, by go_num, rfl, HBD.out, by omega, HF2.out, HP.out, HC2.out⟩
                      case measure => simp [intOf] <;> omega
                  · rcases hl2 with hl2 | hl2
                    · have N1 : (p1 != t.ln) = true := by simp; omega
                      clear hlt2 hl2
                      go_wp2
                      go_round
                      case rel => exact ⟨_, _, j + 1, rr, true, hJ, rfl, rfl, by go_num, rfl, HBD.out, by omega, HF2.out, HP.out, HC2.out⟩
                      case measure => simp [intOf] <;> omega
                    · have N2 : (p2 != t.co) = true := by simp; omega
                      rw [← hl2] at a2
                      clear hlt2 hl2
                      go_wp2
                      go_round
                      case rel => exact ⟨_, _, j + 1, rr, true, hJ, rfl, rfl, by go_num, rfl, HBD.out, by omega, HF2.out, HP.out, HC2.out⟩
                      case measure => simp [intOf] <;> omega
          case rest =>
            obtain ⟨rfl, rfl, rfl, rfl, rfl⟩ := hcut
            have hbd := mvs_bd (p := (q1, q2)) (a := k + 1) (by simp only; have := hq1.out; omega) ((L.drop k).take r)
            rw [← HC.out.ln, ← HC.out.co, List.length_take, List.length_drop, HLL.out] at hbd
            have hbd : (0 ≤ t.ln ∧ t.ln ≤ ((k + 1 + r : Nat) : Int)) ∧ (0 ≤ t.co ∧ t.co ≤ ((k + 1 + r : Nat) : Int)) := by omega
            obtain ⟨z, hz⟩ : ∃ z, k + r = z := ⟨_, rfl⟩
            have hcl := HC.out.last
            have hcm := HC.out.more
            rw [List.drop_drop, hz] at hcl hcm
            have hl0 := HC.out.ln
            have hc0 := HC.out.co
            rw [hz]
            have hzs : z ≤ TS.size := by omega
            have hz0 : (0 : Int) ≤ (z : Int) := by omega
            have hzi : (z : Int) ≤ (TS.size : Int) := by omega
            have hi1 : (i : Int) + 1 ≤ (n : Int) := by omega
            have HZ := Lib.hid hz
            clear hr hz b0 b1 b2 b3 hq1 HA HT
            by_cases hd : L.drop z = []
            · obtain ⟨k5, t0, ts0⟩ := hcl hd
              have hzz : z = TS.size := by
                have := congrArg List.length hd
                rw [List.length_drop, HLL.out] at this
                simp at this; omega
              have hin1 : i + 1 = n := by
                have := congrArg List.length ts0
                rw [List.length_drop, HTN.out] at this
                simp at this; omega
              rw [k5] at a0
              rw [t0] at a1
              obtain ⟨TB, hTB⟩ : ∃ TB, bs [] = TB := ⟨_, rfl⟩
              have hTBs : TB.size = 0 := by rw [← hTB]; rfl
              have hTBl : TB.toList = [] := by rw [← hTB]; exact bs_list []
              rw [hTB] at a1
              have hnn : ¬ (i : Int) + 1 < (n : Int) := by omega
              have hnd : decide ((i : Int) + 1 < (n : Int)) = false := by simpa using hnn
              have hie : ((i : Int) == (n : Int) - 1) = true := by simp; omega
              have hk5 : ((5 : Int) == 5) = true := rfl
              have hzt : ¬ (TS.size : Int) < (z : Int) + (TB.size : Int) := by omega
              have hztd : decide ((TS.size : Int) < (z : Int) + (TB.size : Int)) = false := by simpa using hzt
              have hzt1 : (z : Int) + (TB.size : Int) ≤ (TS.size : Int) := by omega
              have hzt2 : (z : Int) ≤ (z : Int) + (TB.size : Int) := by omega
              have hzt3 : ((z : Int) + (TB.size : Int)).toNat = z + TB.size := by omega
              have hex : (TS.extract z (z + TB.size)).toList = TB.toList := by rw [extract_list, Nat.add_sub_cancel_left, hTBs, List.take_zero, hTBl]
              have hexb : ((TS.extract z (z + TB.size)).toList == TB.toList) = true := by rw [hex]; exact beq_self_eq_true _
              have hexn : ((TS.extract z (z + TB.size)).toList != TB.toList) = false := by rw [bne, hexb]; rfl
              have htb0 : ((TB.size : Int) == 0) = true := by rw [hTBs]; rfl
              have HB1 : Hid ((0 ≤ t.ln ∧ t.ln ≤ 4000) ∧ (0 ≤ t.co + (TB.size : Int) ∧ t.co + (TB.size : Int) ≤ ((z + TB.size : Nat) : Int) + 1)) := by show _ ∧ _; have := HZ.out; omega
              have HB2 : Hid (t.ln ≤ ((z + TB.size : Nat) : Int) + 1) := by show _ ≤ _; have := HZ.out; omega
              generalize cst false ((L.drop k).take r) = bb at *
              have HM1 : Hid (i + 1 < n → bb = false ∧ lex (L.drop (z + TB.size)) (t.ln, t.co + TB.size) = .ok (T.drop (i + 1))) := fun h => by omega
              have HM2 : Hid (i + 1 = n → z + TB.size = TS.size) := fun _ => by omega
              have htbz : TB.size ≤ 2000 := by omega
              clear hcl hcm hd k5 t0 ts0 hzz hin1 hTB hTBs hTBl hex hl0 hc0 hbd HC HZ
              cases bb
              · go_wp2_with fail
                go_quiet (fail)
                go_wp2
                go_roundw
                case rel => exact ⟨t.ln, t.co + TB.size, z + TB.size, i + 1, a + nq, false, by omega, by omega, rfl, rfl, by go_num, rfl, by go_num, by show _ = _; first | rfl | rw [World.drewN_drewN], HB1.out, HB2.out, fun h => ⟨rfl, (HM1.out h).2⟩, HM2.out⟩
                case measure => simp [intOf] <;> omega
              · go_wp2_with fail
                go_quiet (fail)
                go_wp2
                go_roundw
                case rel => exact ⟨t.ln, t.co + TB.size, z + TB.size, i + 1, a + nq, true, by omega, by omega, rfl, rfl, by go_num, rfl, by go_num, by show _ = _; first | rfl | rw [World.drewN_drewN], HB1.out, HB2.out, HM1.out, HM2.out⟩
                case measure => simp [intOf] <;> omega
            · have hd1 : 0 < (L.drop z).length := List.length_pos_iff.2 hd
              obtain ⟨m1, m2, m3, m4, m5, m6, m7, m8⟩ := hcm hd
              obtain ⟨TB, hTB⟩ : ∃ TB, bs t.t = TB := ⟨_, rfl⟩
              have hTBs : TB.size = t.t.length := by rw [← hTB]; rfl
              have hTBl : TB.toList = t.t := by rw [← hTB]; exact bs_list _
              rw [hTB] at a1
              rw [List.length_drop, HLL.out] at m3
              have hin1 : i + 1 < n := by
                rcases Nat.lt_or_ge (i + 1) n with h | h
                · exact h
                · exact absurd (List.drop_of_length_le (by rw [HTN.out]; exact h)) m7
              have hnn : (i : Int) + 1 < (n : Int) := by omega
              have hnd : decide ((i : Int) + 1 < (n : Int)) = true := by simpa using hnn
              have hie : ((i : Int) == (n : Int) - 1) = false := by simp; omega
              have hk5 : (t.k == 5) = false := by simpa using m1
              have hzt : ¬ (TS.size : Int) < (z : Int) + (TB.size : Int) := by omega
              have hztd : decide ((TS.size : Int) < (z : Int) + (TB.size : Int)) = false := by simpa using hzt
              have hzt1 : (z : Int) + (TB.size : Int) ≤ (TS.size : Int) := by omega
              have hzt2 : (z : Int) ≤ (z : Int) + (TB.size : Int) := by omega
              have hzt3 : ((z : Int) + (TB.size : Int)).toNat = z + TB.size := by omega
              have hex : (TS.extract z (z + TB.size)).toList = TB.toList := by rw [extract_list, Nat.add_sub_cancel_left, hTBl, hTBs, HL.out, ← m4]
              have hexb : ((TS.extract z (z + TB.size)).toList == TB.toList) = true := by rw [hex]; exact beq_self_eq_true _
              have hexn : ((TS.extract z (z + TB.size)).toList != TB.toList) = false := by rw [bne, hexb]; rfl
              have htb0 : ((TB.size : Int) == 0) = false := beq_eq_false_iff_ne.2 (by omega)
              have htb1 : 0 < TB.size := by omega
              have HB1 : Hid ((0 ≤ t.ln ∧ t.ln ≤ 4000) ∧ (0 ≤ t.co + (TB.size : Int) ∧ t.co + (TB.size : Int) ≤ ((z + TB.size : Nat) : Int) + 1)) := by show _ ∧ _; have := HZ.out; omega
              have HB2 : Hid (t.ln ≤ ((z + TB.size : Nat) : Int) + 1) := by show _ ≤ _; have := HZ.out; omega
              have hflat := mvs_flat t.t (mvs (q1, q2) ((L.drop k).take r)) m6
              rw [hflat, ← hl0, ← hc0, List.drop_drop, show k + (r + t.t.length) = z + TB.size by have := HZ.out; omega, ← hTBs] at m8
              rw [m5]
              have HM1 : Hid (i + 1 < n → false = false ∧ lex (L.drop (z + TB.size)) (t.ln, t.co + TB.size) = .ok (T.drop (i + 1))) := fun _ => ⟨rfl, m8⟩
              have HM2 : Hid (i + 1 = n → z + TB.size = TS.size) := fun h => by omega
              have htbz : TB.size ≤ 2000 := by omega
              clear hcl hcm hd m1 m2 m3 m4 m5 m6 m7 m8 hTB hTBs hTBl hex hl0 hc0 hbd HC HZ hflat hd1
              go_wp2_with fail
              go_quiet (fail)
              go_wp2
              go_roundw
              case rel => exact ⟨t.ln, t.co + TB.size, z + TB.size, i + 1, a + nq, false, by omega, by omega, rfl, rfl, by go_num, rfl, by go_num, by show _ = _; first | rfl | rw [World.drewN_drewN], HB1.out, HB2.out, fun h => ⟨rfl, (HM1.out h).2⟩, HM2.out⟩
              case measure => simp [intOf] <;> omega
        · obtain rfl : i = n := by omega
          have hke := hend.out rfl
          have hke2 : ((k : Int) == (TS.size : Int)) = true := by simp; omega
          clear hmore hend hke
          go_wp2_with fail
          refine (awake_x _).mono ?_
          rintro e w6 ⟨rfl, hB6⟩
          have HW6 : Hid (Below w.heap.size w w6) := (drewN_below HW2.out a).trans (hB6.mono HW2.out.size)
          clear hB6
          go_wp2
          go_ret
          exact ⟨rfl, HW6.out⟩
    · have hne : (er != 0) = true := by simpa using her
      obtain ⟨w2, hw2⟩ : ∃ w2, w1.alloc (.cells #[.int .i64 l, .int .i64 co] 32) = w2 := ⟨_, rfl⟩
      have HW2 : Hid (Below w.heap.size w w2) := HW.out.trans ((nextB hb1 (hw2 ▸ allocB w1 _)).mono HW.out.size)
      have HWW := Lib.hid hw2
      clear hw2 hb1 her HTK
      go_wp2_with fail
      rw [HWW.out]
      refine (agrees_x TS _ (by unfold maxLen; omega)).mono ?_
      rintro e w5 ⟨rfl, hB5⟩
      have HW5 : Hid (Below w.heap.size w w5) := HW2.out.trans (hB5.mono HW2.out.size)
      clear hB5
      go_wp2_with fail
      refine (awake_x _).mono ?_
      rintro e w6 ⟨rfl, hB6⟩
      have HW6 : Hid (Below w.heap.size w w6) := HW5.out.trans (hB6.mono HW5.out.size)
      clear hB6
      go_wp2
      go_ret
      exact ⟨rfl, HW6.out⟩
end Go.Proofs.Ytenobkhiekhohaa
