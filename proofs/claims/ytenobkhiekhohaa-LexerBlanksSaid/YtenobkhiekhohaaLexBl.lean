/-
  LexerBlanks.
-/
import Derived.Test.YtenobkhiekhohaaLexPK
import Derived.OpenShut
import Derived.ProofKit
namespace Go.Proofs.Ytenobkhiekhohaa
open Go Go.RowKit Lx
set_option maxRecDepth 100000

theorem joinT_snoc (s : Bs) (T : List Tok) (t : Tok) : joinT s (T ++ [t]) = joinT s T ++ (t.t ++ s) := by simp [joinT]
theorem cat_list (a b : ByteArray) : (a ++ b).toList = a.toList ++ b.toList := by
  rw [Lib.toList_data, Lib.toList_data, Lib.toList_data, ByteArray.data_append, Array.toList_append]
theorem take_snoc {T : List Tok} {i : Nat} {t : Tok} (h : T[i]? = some t) : T.take (i + 1) = T.take i ++ [t] := by
  obtain ⟨hi, rfl⟩ := List.getElem?_eq_some_iff.1 h
  exact List.take_succ_eq_append_getElem hi

set_option maxHeartbeats 16000000 in
theorem lexerBlanks.walk {A : Option Addr} {n c : Nat} {nz : Int} {w : World} (hcap : n ≤ c) (htop : c ≤ maxLen) (hI : 0 < n → ∃ ad, A = some ad ∧ IntsAt w ad n (-9223372036854775808) 9223372036854775807) (hz : (Lit.int .u8 nz).wf = true) :
    Calls Try.prog 6 #[.slice A n c, .int .u8 nz] w (SaysTrue w) := by
  have H1 := Lib.hid (new_any A n c w hcap htop hI)
  have bz := bounds_u8 hz
  obtain ⟨bz0, bz1⟩ := bz
  obtain ⟨u, hu⟩ := Int.eq_ofNat_of_zero_le (show 0 ≤ nz % 5 by omega)
  have hu4 : u < 5 := by omega
  have HU := Lib.hid hu
  clear hcap htop hI hz hu
  go_enter Try.func6, Try.ntmps6
  go_wp2_with fail
  refine H1.out.mono ?_
  rintro e w1 ⟨g, rfl, hg, hs, hb1⟩
  have HG := Lib.hid hg
  clear H1 hg
  go_upto_block 0 with (fail)
  go_cut [6] (fun tv wx => ∃ TS : ByteArray, tv = .string TS ∧ TS.size ≤ 1300 ∧ Hid (brk 0 TS.toList ≤ 80) ∧ Below w.heap.size w wx)
  case first =>
    go_wp2_with fail
    go_loopw [6, 7] (fun tv iv wr => ∃ (i : Nat) (TS : ByteArray), i ≤ 20 ∧ iv = .int .i64 i ∧ tv = .string TS ∧ TS.size ≤ 62 * i ∧ Hid (brk 0 TS.toList ≤ 4 * i) ∧ Src wr g ∧ Below w.heap.size w wr) (fun _ iv _ => 20 - (intOf iv).toNat)
    case atStart => exact ⟨0, _, by omega, rfl, rfl, Nat.le_refl _, by show _ ≤ _; rw [Lib.toList_data]; exact Nat.le_refl _, hs, hb1⟩
    case round =>
      obtain ⟨i, TS, hi, rfl, rfl, hTS, hbr, hs, hB⟩ := hrel
      have HS := Lib.hid hs
      have HW := Lib.hid hB
      clear hs hB hb1
      by_cases hi30 : i < 20
      · have hi30' : (i : Int) < 20 := by omega
        by_cases hi2 : i < 2
        · have hi2' : (i : Int) < 2 := by omega
          have HS2 := HS
          have HW2 := HW
          clear HS HW
          go_wp2_with fail
          refine (piece_x g _ HS2.out).mono ?_
          rintro e w3 ⟨t, htm, rfl, hs3, hB3⟩
          have htl := pcs_short t htm
          have htb := pcs_brk t htm
          obtain ⟨TB, hTB⟩ : ∃ TB, bs t = TB := ⟨_, rfl⟩
          have hTBs : TB.size ≤ 61 := by rw [← hTB, bs_size]; exact htl
          have hTBl : TB.toList = t := by rw [← hTB]; exact bs_list t
          rw [hTB]
          have HS3 := Lib.hid hs3
          have HW3 : Hid (Below w.heap.size w w3) := HW2.out.trans (hB3.below HG.out HW2.out.size)
          have hcs := cat_size TS TB
          have HSZ : Hid ((TS ++ TB).size ≤ 62 * (i + 1)) := by show _ ≤ _; omega
          have HBR : Hid (brk 0 (TS ++ TB).toList ≤ 4 * (i + 1)) := by
            show _ ≤ _
            rw [cat_list, hTBl]
            have := brk_cat TS.toList t
            have := hbr.out
            omega
          clear hs3 hB3 hTB htm htl HS2 HW2 hcs htb hTBl hbr
          go_wp2
          go_roundw
          case rel => exact ⟨i + 1, _, by omega, by go_num, rfl, HSZ.out, HBR.out, HS3.out, HW3.out⟩
          case measure => simp [intOf] <;> omega
        · have hi2' : ¬ (i : Int) < 2 := by omega
          go_wp2_with fail
          refine (more_any g _ HS.out).mono ?_
          rintro e w2 ⟨b, a, rfl, rfl⟩
          have HS2 := Lib.hid (HS.out.drewN a)
          have HW2 := Lib.hid (drewN_below HW.out a)
          clear HS HW
          generalize wr.drewN a = w2 at *
          cases b with
          | true =>
            go_wp2_with fail
            refine (piece_x g _ HS2.out).mono ?_
            rintro e w3 ⟨t, htm, rfl, hs3, hB3⟩
            have htl := pcs_short t htm
            have htb := pcs_brk t htm
            obtain ⟨TB, hTB⟩ : ∃ TB, bs t = TB := ⟨_, rfl⟩
            have hTBs : TB.size ≤ 61 := by rw [← hTB, bs_size]; exact htl
            have hTBl : TB.toList = t := by rw [← hTB]; exact bs_list t
            rw [hTB]
            have HS3 := Lib.hid hs3
            have HW3 : Hid (Below w.heap.size w w3) := HW2.out.trans (hB3.below HG.out HW2.out.size)
            have hcs := cat_size TS TB
            have HSZ : Hid ((TS ++ TB).size ≤ 62 * (i + 1)) := by show _ ≤ _; omega
            have HBR : Hid (brk 0 (TS ++ TB).toList ≤ 4 * (i + 1)) := by
              show _ ≤ _
              rw [cat_list, hTBl]
              have := brk_cat TS.toList t
              have := hbr.out
              omega
            clear hs3 hB3 hTB htm htl HS2 HW2 hcs htb hTBl hbr
            go_wp2
            go_roundw
            case rel => exact ⟨i + 1, _, by omega, by go_num, rfl, HSZ.out, HBR.out, HS3.out, HW3.out⟩
            case measure => simp [intOf] <;> omega
          | false =>
            have HBR : Hid (brk 0 TS.toList ≤ 80) := by show _ ≤ _; have := hbr.out; omega
            clear hbr
            go_wp2
            go_meet
            exact ⟨TS, rfl, by omega, HBR.out, HW2.out⟩
      · obtain rfl : i = 20 := by omega
        have HBR : Hid (brk 0 TS.toList ≤ 80) := by show _ ≤ _; have := hbr.out; omega
        clear hbr
        go_wp2
        go_meet
        exact ⟨TS, rfl, by omega, HBR.out, HW.out⟩
  case rest =>
    obtain ⟨TS, rfl, hTS, hbr, hB⟩ := hcut
    clear hs hb1 HG
    have hTK := tokens_x TS wc (by unfold maxLen; omega)
    rw [if_pos (by omega)] at hTK
    have HTK := Lib.hid hTK
    have HW := Lib.hid hB
    clear hTK hB
    go_wp2_with fail
    refine HTK.out.mono ?_
    rintro e w1 (⟨T, A, n, c, hT, rfl, hTn, hown, hb1⟩ | ⟨l, co, er, hT, her, rfl, hb1⟩)
    · obtain ⟨w2, hw2⟩ : ∃ w2, w1.alloc (.cells #[.int .i64 0, .int .i64 0] 32) = w2 := ⟨_, rfl⟩
      have hb2 : Below w1.heap.size w1 w2 := hw2 ▸ allocB w1 _
      have HW2 : Hid (Below w.heap.size w w2) := HW.out.trans ((nextB hb1 hb2).mono HW.out.size)
      obtain ⟨htoks, hcnt⟩ := lex_count _ _ _ 0 T (Nat.le_refl _) (bd_zero _) hT
      have hn81 : n ≤ 81 := by have := hbr.out; omega
      have hpos : 0 < n := by
        rcases Nat.eq_zero_or_pos n with h | h
        · have hT0 : T = [] := List.eq_nil_of_length_eq_zero (by omega)
          rw [hT0] at hT; exact absurd hT (lex_one _ _)
        · exact h
      have HOW := Lib.hid (row_below hown hb2)
      have HTO := Lib.hid htoks
      have HTN := Lib.hid hTn
      have HWW := Lib.hid hw2
      clear hw2 hb1 hb2 hown hT hTn HTK htoks hcnt hbr
      obtain ⟨s, hs⟩ : ∃ s, btws[u]? = some s := ⟨_, List.getElem?_eq_getElem (show u < btws.length from hu4)⟩
      have hsm := List.mem_of_getElem? hs
      obtain ⟨w3, hw3⟩ : ∃ w3, w2.alloc (.cells (strV btws).toArray 9) = w3 := ⟨_, rfl⟩
      have hb3 : Below w2.heap.size w2 w3 := hw3 ▸ allocB w2 _
      have HW3 : Hid (Below w.heap.size w w3) := HW2.out.trans (hb3.mono HW2.out.size)
      have HOW3 := Lib.hid (row_below HOW.out hb3)
      obtain ⟨SB, hSB⟩ : ∃ SB, bs s = SB := ⟨_, rfl⟩
      have hSBl : SB.toList = s := by rw [← hSB]; exact bs_list s
      have hSBs : SB.size ≤ 10 := by rw [← hSB, bs_size]; exact btws_short s hsm
      have c0 : (w2.alloc (.cells (strV btws).toArray 9)).cell? ⟨w2.heap.size, u, none⟩ = some (.string SB) := by rw [← hSB]; exact strs_new w2 btws _ u s hs
      have hgv : ∀ (h : u < ([Value.string ⟨#[32]⟩, .string ⟨#[10]⟩, .string ⟨#[9, 32]⟩, .string ⟨#[35, 120, 10]⟩, .string ⟨#[32, 35, 32, 121, 32, 35, 32, 122, 10, 10]⟩] : List Value).length), ([Value.string ⟨#[32]⟩, .string ⟨#[10]⟩, .string ⟨#[9, 32]⟩, .string ⟨#[35, 120, 10]⟩, .string ⟨#[32, 35, 32, 121, 32, 35, 32, 122, 10, 10]⟩] : List Value)[u]'h = .string SB := fun h => by
        have h1 : (strV btws)[u]? = some (.string SB) := by rw [strV, List.getElem?_map, hs, ← hSB]; rfl
        exact (List.getElem?_eq_some_iff.1 h1).2
      have HGV := Lib.hid hgv
      clear hgv
      have HSL := Lib.hid hSBl
      have HSM := Lib.hid hsm
      have HW3W := Lib.hid hw3
      have hu := HU.out
      have hui : (u : Int) < 5 := by omega
      have hu0 : (0 : Int) ≤ (u : Int) := by omega
      clear hs hsm hb3 hw3 hSB hSBl HOW HW2
      have hexp : (strV btws).toArray = #[.string ⟨#[32]⟩, .string ⟨#[10]⟩, .string ⟨#[9, 32]⟩, .string ⟨#[35, 120, 10]⟩, .string ⟨#[32, 35, 32, 121, 32, 35, 32, 122, 10, 10]⟩] := rfl
      rw [hexp] at c0 HW3W
      clear hexp
      have hw2e := HWW.out
      subst hw2e
      go_upto_block 2 with (fail)
      simp only [HGV.out]
      clear HGV
      rw [HW3W.out]
      clear c0 hu
      obtain ⟨gA, rfl, _, _, hA⟩ := row_tok HOW3.out HTN.out hpos
      have HA := Lib.hid hA
      clear hA
      go_wp2_with fail
      go_loop [12, 13] (fun jv iv => ∃ (i : Nat) (J : ByteArray), i ≤ n ∧ iv = .int .i64 i ∧ jv = .string J ∧ J.size ≤ 10 + 70 * i ∧ Hid (J.toList = s ++ joinT s (T.take i))) (fun _ iv => n - (intOf iv).toNat)
      case atStart => exact ⟨0, SB, Nat.zero_le _, rfl, rfl, by omega, by show _ = _; rw [HSL.out, List.take_zero]; simp [joinT]⟩
      case round =>
        obtain ⟨i, J, hi, rfl, rfl, hJs, hJ⟩ := hrel
        by_cases hlt : i < n
        · obtain ⟨t, ht⟩ : ∃ t, T[i]? = some t := ⟨_, List.getElem?_eq_getElem (by rw [HTN.out]; exact hlt)⟩
          obtain ⟨a0, a1, a2, a3⟩ := HA.out i t ht
          obtain ⟨TB, hTB⟩ : ∃ TB, bs t.t = TB := ⟨_, rfl⟩
          have hTBs : TB.size ≤ 60 := by rw [← hTB, bs_size]; exact toks_short HTO.out t (List.mem_of_getElem? ht)
          have hTBl : TB.toList = t.t := by rw [← hTB]; exact bs_list t.t
          rw [hTB] at a1
          have hcs1 := cat_size TB SB
          have hcs2 := cat_size J (TB ++ SB)
          have HSZ : Hid ((J ++ (TB ++ SB)).size ≤ 10 + 70 * (i + 1)) := by show _ ≤ _; omega
          have HJ : Hid ((J ++ (TB ++ SB)).toList = s ++ joinT s (T.take (i + 1))) := by
            show _ = _
            rw [cat_list, cat_list, hJ.out, hTBl, HSL.out, take_snoc ht, joinT_snoc, List.append_assoc]
          have hi0 : (0 : Int) ≤ (i : Int) := by omega
          have hin : (i : Int) < (n : Int) := by omega
          have hlim : (TB ++ SB).size ≤ 100 := by omega
          clear hcs1 hcs2 hJ hTB hTBl ht
          go_wp2
          go_round
          case rel => exact ⟨i + 1, _, by omega, by go_num, rfl, HSZ.out, HJ.out⟩
          case measure => simp [intOf] <;> omega
        · obtain rfl : i = n := by omega
          have hJl : J.toList = s ++ joinT s T := by
            have h1 := hJ.out
            rw [List.take_of_length_le (by rw [HTN.out]; exact Nat.le_refl _)] at h1
            exact h1
          obtain ⟨T', hl, hlen, hsame⟩ := relex HSM.out HTO.out (1, 1)
          have hTK := tokens_x J w3 (by unfold maxLen; omega)
          rw [if_pos (by omega), hJl, hl] at hTK
          have HTK := Lib.hid hTK
          have HLN := Lib.hid hlen
          have HSA := Lib.hid hsame
          clear hTK hJl hl hlen hsame hJ
          go_wp2_with fail
          refine HTK.out.mono ?_
          rintro e w5 (⟨T5, A5, n5, c5, hT5, rfl, hTn5, hown5, hb5⟩ | ⟨l5, co5, er5, hT5, _, _, _⟩)
          · injection hT5 with hT5
            subst hT5
            obtain rfl : n5 = i := by have := HLN.out; have := HTN.out; omega
            obtain ⟨w6, hw6⟩ : ∃ w6, w5.alloc (.cells #[.int .i64 0, .int .i64 0] 32) = w6 := ⟨_, rfl⟩
            have hb6 : Below w5.heap.size w5 w6 := hw6 ▸ allocB w5 _
            have HW6 : Hid (Below w.heap.size w w6) := HW3.out.trans ((nextB hb5 hb6).mono HW3.out.size)
            obtain ⟨gA', he', _, _, hA⟩ := row_tok (row_below (row_below HOW3.out hb5) hb6) HTN.out hpos
            injection he' with he'
            injection he' with he'
            subst he'
            obtain ⟨gB, rfl, _, _, hB⟩ := row_tok (row_below hown5 hb6) hTn5 hpos
            have HA6 := Lib.hid hA
            have HB6 := Lib.hid hB
            have HW6W := Lib.hid hw6
            have HTN5 := Lib.hid hTn5
            clear hw6 hb5 hb6 hown5 hA hB HTK HA HOW3 hTn5
            go_upto_block 4 with (fail)
            rw [HW6W.out]
            go_wp2_with fail
            go_loopw [17] (fun v wq => ∃ (i a : Nat), i ≤ n5 ∧ v = .int .i64 i ∧ Hid (wq = w6.drewN a)) (fun v _ => n5 - (intOf v).toNat)
            case atStart => exact ⟨0, 0, Nat.zero_le _, rfl, rfl⟩
            case round =>
              obtain ⟨i, a, hi, rfl, hwq⟩ := hrel
              obtain rfl := hwq.out
              clear hwq
              by_cases hlt : i < n5
              · obtain ⟨t, ht⟩ : ∃ t, T[i]? = some t := ⟨_, List.getElem?_eq_getElem (by rw [HTN.out]; exact hlt)⟩
                obtain ⟨t', ht'⟩ : ∃ t', T'[i]? = some t' := ⟨_, List.getElem?_eq_getElem (by rw [HTN5.out]; exact hlt)⟩
                obtain ⟨a0, a1, a2, a3⟩ := HA6.out i t ht
                obtain ⟨d0, d1, d2, d3⟩ := HB6.out i t' ht'
                obtain ⟨e1, e2⟩ := HSA.out i t t' ht ht'
                rw [e1] at d0
                rw [e2] at d1
                obtain ⟨TB, hTB⟩ : ∃ TB, bs t.t = TB := ⟨_, rfl⟩
                rw [hTB] at a1 d1
                have hi0 : (0 : Int) ≤ (i : Int) := by omega
                have hin : (i : Int) < (n5 : Int) := by omega
                have heq : (TB.toList == TB.toList) = true := beq_self_eq_true _
                have hne : (t.k != t.k) = false := by simp
                clear e1 e2 hTB ht ht'
                go_wp2_with fail
                go_quiet (fail)
                go_wp2
                go_roundw
                case rel => exact ⟨i + 1, a + nq, by omega, by go_num, by show _ = _; first | rfl | rw [World.drewN_drewN]⟩
                case measure => simp [intOf] <;> omega
              · obtain rfl : i = n5 := by omega
                go_wp2_with fail
                refine (awake_x _).mono ?_
                rintro e w8 ⟨rfl, hB8⟩
                have HW8 : Hid (Below w.heap.size w w8) := (drewN_below HW6.out a).trans (hB8.mono HW6.out.size)
                clear hB8
                go_wp2
                go_ret
                exact ⟨rfl, HW8.out⟩
          · cases hT5
    · have hne : (er != 0) = true := by simpa using her
      obtain ⟨w2, hw2⟩ : ∃ w2, w1.alloc (.cells #[.int .i64 l, .int .i64 co] 32) = w2 := ⟨_, rfl⟩
      have HW2 : Hid (Below w.heap.size w w2) := HW.out.trans ((nextB hb1 (hw2 ▸ allocB w1 _)).mono HW.out.size)
      have HWW := Lib.hid hw2
      clear hw2 hb1 her HTK
      go_wp2_with fail
      rw [HWW.out]
      refine (agrees_x TS _ (by unfold maxLen; omega)).mono ?_
      rintro e w5 ⟨rfl, hB5⟩
      have HW5 : Hid (Below w.heap.size w w5) := HW2.out.trans (hB5.mono HW2.out.size)
      clear hB5
      go_wp2_with fail
      refine (awake_x _).mono ?_
      rintro e w6 ⟨rfl, hB6⟩
      have HW6 : Hid (Below w.heap.size w w6) := HW5.out.trans (hB6.mono HW5.out.size)
      clear hB6
      go_wp2
      go_ret
      exact ⟨rfl, HW6.out⟩
end Go.Proofs.Ytenobkhiekhohaa
