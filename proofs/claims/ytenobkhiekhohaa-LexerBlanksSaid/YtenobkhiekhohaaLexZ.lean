/-
  The reference of layer 8: Tokens.
-/
import Derived.Test.YtenobkhiekhohaaLexN
namespace Go.Proofs.Ytenobkhiekhohaa
open Go Go.RowKit Lx
set_option maxRecDepth 100000

theorem ref_long (s : ByteArray) (w : World) (hs : 8192 < s.size) (hm : s.size ≤ maxLen) : Calls Try.prog 15 #[.string s] w (GivesOut (.bad 1 1 9) w) := by
  unfold maxLen at hm
  have h1 : (8192 : Int) < (s.size : Int) := by omega
  go_enter Try.func15, Try.ntmps15
  go_wp2
  go_region
  go_wp2
  exact bodyPost_ret (v := .tuple #[.slice none 0 0, .agg #[.int .i64 1, .int .i64 1], .int .i64 9]) (by simp [results, Try.results15, go_sem]) rfl
    (Or.inr ⟨1, 1, 9, rfl, by decide, rfl, drewN_below (((Below.refl w.heap.size w).alloc (Nat.le_refl _) _).alloc (by simp) _) 1⟩)

theorem Two.drewN {w : World} {g : Nat} {a b : Int} (h : Two w g a b) (n : Nat) : Two (w.drewN n) g a b := h.keep (Nat.le_refl _) rfl
theorem Two.but {w w' : World} {g : Nat} {a b : Int} (h : Two w g a b) {x : Nat} (hb : But x w w') (hne : g ≠ x) : Two w' g a b := h.keep hb.size (hb.block g h.size hne)
theorem tokAt_no {l : Bs} {er : Int} (h : tokAt l = .no er) : er = 9 ∨ er = 4 := by
  unfold tokAt at h
  split at h
  · split at h
    · cases h
    · split at h
      · injection h with h; exact Or.inl h.symm
      · cases h
  · split at h
    · split at h
      · injection h with h; exact Or.inl h.symm
      · cases h
    · split at h
      · cases h
      · injection h with h; exact Or.inr h.symm
theorem Four.but {w w' : World} {g : Nat} {k l c : Int} {t : ByteArray} (h : Four w g k t l c) {x : Nat} (hb : But x w w') (hne : g ≠ x) : Four w' g k t l c := h.keep hb.size (hb.block g h.size hne)
theorem Four.drewN {w : World} {g : Nat} {k l c : Int} {t : ByteArray} (h : Four w g k t l c) (n : Nat) : Four (w.drewN n) g k t l c := h.keep (Nat.le_refl _) rfl
theorem Four.set2 {w : World} {g : Nat} {k l c : Int} {t : ByteArray} (h : Four w g k t l c) (x : Int) : Four (w.setCell ⟨g, 2, none⟩ (.int .i64 x)) g k t x c :=
  ⟨by simp [World.setCell]; exact h.size, by rw [World.cell?_setCell_other _ _ _ _ (by simp)]; exact h.c0, by rw [World.cell?_setCell_other _ _ _ _ (by simp)]; exact h.c1, World.cell?_setCell_same _ _ _ h.c2, by rw [World.cell?_setCell_other _ _ _ _ (by simp)]; exact h.c3, fun i => by rw [World.frozen?_setCell]; exact h.fr i⟩
theorem Four.set3 {w : World} {g : Nat} {k l c : Int} {t : ByteArray} (h : Four w g k t l c) (x : Int) : Four (w.setCell ⟨g, 3, none⟩ (.int .i64 x)) g k t l x :=
  ⟨by simp [World.setCell]; exact h.size, by rw [World.cell?_setCell_other _ _ _ _ (by simp)]; exact h.c0, by rw [World.cell?_setCell_other _ _ _ _ (by simp)]; exact h.c1, by rw [World.cell?_setCell_other _ _ _ _ (by simp)]; exact h.c2, World.cell?_setCell_same _ _ _ h.c3, fun i => by rw [World.frozen?_setCell]; exact h.fr i⟩
def GivesMove (q : Int × Int) (w : World) (e : Ending) (w' : World) : Prop := e = .returned (.agg #[.int .i64 q.1, .int .i64 q.2]) ∧ Below w.heap.size w w'

set_option maxHeartbeats 8000000 in
theorem ref_short (s : ByteArray) (w : World) (hs : s.size ≤ 8192) (o : Out) (ho : lex s.data.toList (1, 1) = o) : Calls Try.prog 15 #[.string s] w (GivesOut o w) := by
  have h8 : ¬ (8192 : Int) < (s.size : Int) := by omega
  obtain ⟨w2, hw2⟩ : ∃ w2, (w.alloc (.cells #[.int .i64 0, .int .i64 0] 32)).alloc (.cells #[.int .i64 1, .int .i64 1] 32) = w2 := ⟨_, rfl⟩
  obtain ⟨g, hg⟩ : ∃ g, w.heap.size = g := ⟨_, rfl⟩
  have h1 : Two w2 g 0 0 := by rw [← hw2, ← hg]; exact ⟨by simp; omega, by simp, by simp, by simp⟩
  have h2 : Two w2 (g + 1) 1 1 := by rw [← hw2, ← hg]; exact ⟨by simp, by simp, by simp, by simp⟩
  have hB2 : Below w.heap.size w w2 := hw2 ▸ ((Below.refl w.heap.size w).alloc (Nat.le_refl _) _).alloc (by simp) _
  have hz2 : w2.heap.size = g + 2 := by rw [← hw2, ← hg]; simp
  have HO := Lib.hid ho
  have HW2 := Lib.hid hw2
  have HG := Lib.hid hg
  have HZ := Lib.hid hz2
  have H1 := Lib.hid h1
  have HB2 := Lib.hid hB2
  clear ho hw2 hg hz2 h1 hB2
  go_enter Try.func15, Try.ntmps15
  go_wp2
  rw [HW2.out, HG.out]
  go_loopg [0, 6] (s.size) (fun r sv ov wr => ∃ (A : Option Addr) (n c : Nat) (T : List Tok) (su : ByteArray) (k : Nat) (p : Int × Int), sv = .string su ∧ ov = .slice A n c ∧ n ≤ k ∧ Hid (T.length = n) ∧ Hid (k + su.size = s.size) ∧ Hid (su.size = r) ∧
      Two wr (g + 1) p.1 p.2 ∧ Hid ((0 ≤ p.1 ∧ p.1 ≤ ((k + 1 : Nat) : Int)) ∧ (0 ≤ p.2 ∧ p.2 ≤ ((k + 1 : Nat) : Int))) ∧ Hid (wr.ownsRow (g + 2) 37 4 (.slice A n c) n (rowT T)) ∧ Hid (o = (lex su.data.toList p).app T) ∧ But (g + 1) w2 wr)
  case atStart => exact ⟨none, 0, 0, [], s, 0, (1, 1), rfl, rfl, Nat.le_refl _, rfl, by show _ = _; omega, rfl, h2, by show _ ∧ _; simp, World.ownsRow_nil _ _ _ _, by show _ = _; rw [HO.out, Out.app_nil], But.refl _ _⟩
  case round =>
    obtain ⟨A, n, c, T, su, k, p, rfl, rfl, hnk, hTn, hks, hsr, hp, hpb, hown, hlex, hB⟩ := hrel
    clear h2 HO h8
    have hsu : su.size ≤ 8192 := by have := hks.out; omega
    have HBL := Lib.hid (blanks_x su wr hsu)
    go_wp2_with fail
    refine HBL.out.mono ?_
    rintro e w' ⟨m, rfl, hbe, rfl⟩
    obtain ⟨m1, m2, m3⟩ := hbe
    have hm : m ≤ su.size := by simpa using m1
    obtain ⟨q, hq⟩ : ∃ q, mvs p (su.data.toList.take m) = q := ⟨_, rfl⟩
    have HM : Hid (∀ W, Calls Try.prog 26 #[.agg #[.int .i64 p.1, .int .i64 p.2], .string (su.extract 0 m)] W (GivesMove q W)) := fun W => by
      have := move_x p (su.extract 0 m) W (by simp; omega) (by have := hpb.out; have := hks.out; omega)
      rw [extract_list, List.drop_zero, Nat.sub_zero, hq] at this
      exact this
    have hqb := mvs_bd hpb.out (su.data.toList.take m)
    rw [hq, List.length_take, Nat.min_eq_left (by simpa using hm)] at hqb
    have HQB := Lib.hid hqb
    have HL2 : Hid (o = (lex (su.data.toList.drop m) q).app T) := by show _ = _; rw [hlex.out, m2 p, hq]
    have HM3 := Lib.hid m3
    have hmi : (m : Int) ≤ (su.size : Int) := by omega
    have hmi0 : (0 : Int) ≤ (m : Int) := by omega
    have HP := Lib.hid hp
    obtain ⟨_, c0, c1, fr⟩ := hp
    have f0 := fr 0
    have f1 := fr 1
    clear m1 m2 m3 hq hqb HBL hlex fr
    go_wp2_with fail
    go_cut [21] (fun _ wx => Two wx (g + 1) q.1 q.2 ∧ But (g + 1) wr wx)
    case first =>
      have hgs : g + 1 < wr.heap.size := HP.out.size
      go_region_with ((go_at_call 26; refine (HM.out _).mono ?_; rintro e w3 ⟨rfl, hb⟩; have hp3 := (HP.out.drewN 1).below hb hgs; have e0 := hp3.c0; have e1 := hp3.c1; have y0 := hp3.fr 0; have y1 := hp3.fr 1))
      go_wp2
      go_meet
      exact ⟨(hp3.set0 _).set1 _, ((⟨hb.os, hb.tape, hb.output, hb.size, fun k hk _ => hb.block k hk⟩ : But (g + 1) wr w3).set 0 _).set 1 _⟩
    case rest =>
      obtain ⟨hq, hBq⟩ := hcut
      have HOW := Lib.hid (row_but hown.out hBq (by omega))
      have HBC := Lib.hid (hB.trans hBq)
      obtain ⟨s2, hs2⟩ : ∃ s2, su.extract m su.size = s2 := ⟨_, rfl⟩
      have hl2 : s2.toList = su.data.toList.drop m := by rw [← hs2, extract_list, List.take_of_length_le (by simp)]
      have hz2 : s2.size = su.size - m := by rw [← hs2]; simp
      have HS2 := Lib.hid hs2
      have HL2' := Lib.hid hl2
      have HZ2 := Lib.hid hz2
      have HQ2 := Lib.hid hq
      clear hs2 hl2 hz2 hown hB hBq c0 c1 f0 f1 HM HP hpb hq
      by_cases he : m = su.size
      · have hte : s2.toList = [] := by rw [HL2'.out, List.drop_of_length_le (by simp; omega)]
        have hte2 : s2.toList.isEmpty = true := by rw [hte]; rfl
        have HOF : Hid (o = .ok (T ++ [⟨5, [], q.1, q.2⟩])) := by
          show _ = _
          rw [HL2.out, ← HL2'.out, hte, lex_nil]; rfl
        obtain ⟨_, c0, c1, _⟩ := HQ2.out
        obtain ⟨ti, hti, hz1, hs1, hby1⟩ := info_three info_token
        obtain ⟨wa, hwa⟩ : ∃ wa, wc.alloc (.cells #[.int .i64 5, .string ⟨#[]⟩, .int .i64 q.1, .int .i64 q.2] 37) = wa := ⟨_, rfl⟩
        have hba : Below wc.heap.size wc wa := hwa ▸ allocB _ _
        have NEWS : ∀ j u, [Value.int .i64 5, .string ⟨#[]⟩, .int .i64 q.1, .int .i64 q.2][j]? = some u → wa.cell? ((⟨wc.heap.size, 0, none⟩ : Addr).add j) = some u := hwa ▸ cells_new wc [Value.int .i64 5, .string ⟨#[]⟩, .int .i64 q.1, .int .i64 q.2] 37
        have HOA : Hid (wa.ownsRow (g + 2) 37 4 (.slice A n c) n (rowT T)) := row_but HOW.out (But.of_below hba : But (g + 1) wc wa) (by omega)
        have HBA : Hid (But (g + 1) w2 wa) := HBC.out.trans (But.of_below hba)
        have hszA : g + 2 ≤ wa.heap.size := by have := HBA.out.size; have := HZ.out; omega
        have HWA := Lib.hid hwa
        have hrl := HOA.out
        have hn8 : n ≤ 8192 := by have := hks.out; omega
        clear hwa hba HL2 HL2' HZ2
        go_wp2_with (at_builtin; (rw [HWA.out]; refine wpList_append_own_at _ rfl (.tmp 27) (.tmp 33) 30 rfl (g + 2) 37 ti (.agg #[.int .i64 0, .string ⟨#[]⟩, .int .i64 0, .int .i64 0]) 4 40 Try.underlying30 hti hz1 hs1 hby1 rfl (by decide) (.slice A n c) n (rowT T) rfl hrl ⟨wc.heap.size, 0, none⟩ 1 1 [.int .i64 5, .string ⟨#[]⟩, .int .i64 q.1, .int .i64 q.2] rfl rfl NEWS (by simp [Value.oneCell']) (by unfold maxLen; omega) (by omega) hszA ?_))
        intro v' wz hownz hgrow _ _
        have hbz : Below (g + 2) wa wz := row_grown (Below.refl (g + 2) wa) hrl hgrow hszA (Nat.le_refl _)
        have HBZ : Hid (But (g + 1) w2 wz) := HBA.out.onB hbz (by have := HZ.out; omega)
        obtain ⟨A2, c2, rfl⟩ := row_slice hownz
        have HOZ : Hid (wz.ownsRow (g + 2) 37 4 (.slice A2 (n + 1) c2) (n + 1) (rowT (T ++ [⟨5, [], q.1, q.2⟩]))) := by
          rw [rowT_append, rowT_one]
          exact hownz
        have HLZ : Hid ((T ++ [(⟨5, [], q.1, q.2⟩ : Tok)]).length = n + 1) := by show _ = _; rw [List.length_append, hTn.out]; rfl
        obtain ⟨_, x0, x1, xf⟩ := H1.out.but HBZ.out (by omega)
        have y0 := xf 0
        have y1 := xf 1
        have HBW : Hid (∀ z0 z1, Below w.heap.size w ((wz.setCell ⟨g, 0, none⟩ z0).setCell ⟨g, 1, none⟩ z1)) := fun z0 z1 =>
          ((HB2.out.trans (HBZ.out.below (by have := HG.out; omega) HB2.out.size)).setCell (p := ⟨g, 0, none⟩) (by rw [HG.out]; exact Nat.le_refl _) z0).setCell (p := ⟨g, 1, none⟩) (by rw [HG.out]; exact Nat.le_refl _) z1
        clear hbz hownz hgrow hrl HOA HBA NEWS hszA HBZ xf c0 c1
        go_wp2
        exact bodyPost_ret (v := .tuple #[.slice A2 (n + 1) c2, .agg #[.int .i64 0, .int .i64 0], .int .i64 0]) (by simp [results, Try.results15, go_sem, x0, x1]) rfl
          (Or.inl ⟨_, A2, n + 1, c2, HOF.out, rfl, HLZ.out, row_low (row_but HOZ.out (((But.refl g wz).set 0 _).set 1 _) (by omega)) (by rw [HG.out]; omega), HBW.out _ _⟩)
      · have hte : s2.toList.isEmpty = false := by
          cases h : s2.toList with
          | nil =>
            have := congrArg List.length h
            rw [HL2'.out] at this
            simp at this; omega
          | cons => rfl
        have hte2 : (s2.toList == []) = false := by
          rw [List.isEmpty_eq_false_iff] at hte
          exact beq_eq_false_iff_ne.2 hte
        have hs0 : 0 < s2.size := by have := HZ2.out; omega
        have HNX := Lib.hid (next_x s2 wc hs0 (by have := HZ2.out; omega))
        have hte3 : (su.extract m su.size).toList.isEmpty = false := by rw [HS2.out]; exact hte
        have hte4 : ((su.extract m su.size).toList == []) = false := by rw [HS2.out]; exact hte2
        have hdl : s2.data.toList = su.data.toList.drop m := by rw [← Lib.toList_data]; exact HL2'.out
        obtain ⟨ch, rr, hcr⟩ : ∃ ch rr, s2.data.toList = ch :: rr := by
          cases h : s2.data.toList with
          | nil =>
            have h2 : s2.data.toList.length = s2.size := by simp
            rw [h] at h2
            have h3 : ([] : Bs).length = 0 := rfl
            omega
          | cons a b => exact ⟨a, b, rfl⟩
        have hbl := HM3.out ch rr (by rw [← hdl]; exact hcr)
        have HLX : Hid (o = (lex s2.data.toList q).app T) := by show _ = _; rw [HL2.out, hdl]
        have HBL2 := Lib.hid hbl
        have HCR := Lib.hid hcr
        clear hte hte2 hdl hbl hcr HL2 HL2' HM3
        cases htk : tokAt s2.data.toList with
        | no er =>
          have her := tokAt_no htk
          have HER : Hid (er ≠ 0) := by show er ≠ 0; omega
          have hne : (er != 0) = true := by rcases her with h | h <;> (rw [h]; rfl)
          have HOF : Hid (o = .bad q.1 q.2 er) := by
            have h1 := HLX.out
            rw [HCR.out] at h1 htk
            rw [lex_no HBL2.out.1 HBL2.out.2 htk] at h1
            exact h1
          rw [htk] at HNX
          clear htk her HLX HBL2 HCR
          go_wp2_with fail
          rw [HS2.out]
          refine HNX.out.mono ?_
          rintro e w6 ⟨he, hb6⟩
          have he : e = .returned (.tuple #[tkV 0 ⟨#[]⟩ 0 0, .int .i64 er]) := he
          subst he
          unfold tkV
          have hq6 := HQ2.out.below hb6 HQ2.out.size
          have HB6 : Hid (But (g + 1) w2 w6) := HBC.out.trans (But.of_below hb6)
          obtain ⟨wt, hwt⟩ : ∃ wt, w6.alloc (.cells #[.int .i64 0, .string ⟨#[]⟩, .int .i64 0, .int .i64 0] 37) = wt := ⟨_, rfl⟩
          have hbt : Below w6.heap.size w6 wt := hwt ▸ allocB _ _
          have hqt := hq6.below hbt hq6.size
          have HBT : Hid (But (g + 1) w2 wt) := HB6.out.trans (But.of_below hbt)
          obtain ⟨_, x0, x1, xf⟩ := H1.out.but HBT.out (by omega)
          have y0 := xf 0
          have y1 := xf 1
          obtain ⟨_, c0, c1, _⟩ := hqt
          have HBW : Hid (∀ z0 z1, Below w.heap.size w ((wt.setCell ⟨g, 0, none⟩ z0).setCell ⟨g, 1, none⟩ z1)) := fun z0 z1 =>
            ((HB2.out.trans (HBT.out.below (by have := HG.out; omega) HB2.out.size)).setCell (p := ⟨g, 0, none⟩) (by rw [HG.out]; exact Nat.le_refl _) z0).setCell (p := ⟨g, 1, none⟩) (by rw [HG.out]; exact Nat.le_refl _) z1
          have HWT := Lib.hid hwt
          clear hq6 HB6 hwt hbt HBT xf hb6 HNX HQ2
          go_upto_region 12 with (fail)
          rw [HWT.out]
          go_region
          go_wp2
          exact bodyPost_ret (v := .tuple #[.slice none 0 0, .agg #[.int .i64 q.1, .int .i64 q.2], .int .i64 er]) (by simp [results, Try.results15, go_sem, x0, x1]) rfl
            (Or.inr ⟨_, _, er, HOF.out, HER.out, rfl, drewN_below (HBW.out _ _) 1⟩)
        | yes kk m2 =>
          obtain ⟨hm0, hm2⟩ := tokAt_pos htk
          have hm2s : m2 ≤ s2.size := by simpa using hm2
          have HOF : Hid (o = (lex (s2.data.toList.drop m2) (mvs q (s2.data.toList.take m2))).app (T ++ [⟨kk, s2.data.toList.take m2, q.1, q.2⟩])) := by
            have h1 := HLX.out
            have htk2 := htk
            rw [HCR.out] at h1 htk2
            rw [lex_yes HBL2.out.1 HBL2.out.2 htk2, ← HCR.out, Out.app_cons] at h1
            exact h1
          obtain ⟨TX, hTX⟩ : ∃ TX, s2.extract 0 m2 = TX := ⟨_, rfl⟩
          have hTl : TX.toList = s2.data.toList.take m2 := by rw [← hTX, extract_list]; simp
          have hTs : TX.size = m2 := by rw [← hTX]; simp; omega
          have hTb : TX = bs (s2.data.toList.take m2) := by
            have := bs_extract s2 0 m2
            rw [Nat.zero_add, List.drop_zero] at this
            rw [← hTX]; exact this
          obtain ⟨q', hq'⟩ : ∃ q', mvs q (s2.data.toList.take m2) = q' := ⟨_, rfl⟩
          have HMV : Hid (∀ W, Calls Try.prog 26 #[.agg #[.int .i64 q.1, .int .i64 q.2], .string TX] W (GivesMove q' W)) := fun W => by
            have := move_x q TX W (by have := HZ2.out; omega) (by have := HQB.out; have := hks.out; omega)
            rw [hTl, hq'] at this
            exact this
          have hqb := mvs_bd HQB.out (s2.data.toList.take m2)
          rw [hq', List.length_take, Nat.min_eq_left hm2] at hqb
          have HQB2 := Lib.hid hqb
          rw [hq'] at HOF
          rw [htk] at HNX
          have HTB := Lib.hid hTb
          have HTS := Lib.hid hTs
          have HTX := Lib.hid hTX
          clear htk HLX HBL2 HCR hqb hq' hTl hTs hTb hTX HQB hm2
          go_wp2_with fail
          rw [HS2.out]
          refine HNX.out.mono ?_
          rintro e w6 ⟨he, hb6⟩
          have he : e = .returned (.tuple #[tkV kk (s2.extract 0 m2) 0 0, .int .i64 0]) := he
          rw [HTX.out] at he
          subst he
          unfold tkV
          have hq6 := HQ2.out.below hb6 HQ2.out.size
          have HB6 : Hid (But (g + 1) w2 w6) := HBC.out.trans (But.of_below hb6)
          have HO6 : Hid (w6.ownsRow (g + 2) 37 4 (.slice A n c) n (rowT T)) := row_but HOW.out (But.of_below hb6 : But (g + 1) wc w6) (by omega)
          obtain ⟨gt, hgt⟩ : ∃ gt, w6.heap.size = gt := ⟨_, rfl⟩
          obtain ⟨wt, hwt⟩ : ∃ wt, w6.alloc (.cells #[.int .i64 kk, .string TX, .int .i64 0, .int .i64 0] 37) = wt := ⟨_, rfl⟩
          have hbt : Below w6.heap.size w6 wt := hwt ▸ allocB _ _
          have hqt := hq6.below hbt hq6.size
          have hft : Four wt gt kk TX 0 0 := by rw [← hwt, ← hgt]; exact Four.new ..
          have HBT : Hid (But (g + 1) w2 wt) := HB6.out.trans (But.of_below hbt)
          have HOT : Hid (wt.ownsRow (g + 2) 37 4 (.slice A n c) n (rowT T)) := row_but HO6.out (But.of_below hbt : But (g + 1) w6 wt) (by omega)
          have HGT : Hid (g + 2 ≤ gt ∧ wt.heap.size = gt + 1) := ⟨by have := HB6.out.size; have := HZ.out; omega, by rw [← hwt, ← hgt]; simp⟩
          have H6W : Hid (Below gt w6 wt ∧ w6.heap.size = gt) := ⟨hgt ▸ hbt, hgt⟩
          have HWT := Lib.hid hwt
          have HFT := Lib.hid hft
          have HQT := Lib.hid hqt
          have HGW := Lib.hid hgt
          clear hq6 HB6 hwt hbt hb6 HNX HQ2 hft hqt hgt HOW HBC HOT
          go_upto_region 13 with (fail)
          rw [HWT.out, HGW.out]
          go_cut [49] (fun _ wx => Four wx gt kk TX q.1 q.2 ∧ But gt wt wx)
          case first =>
            obtain ⟨_, b0, b1, b2, b3, bf⟩ := HFT.out
            have z2 := bf 2
            have z3 := bf 3
            obtain ⟨_, c0, c1, _⟩ := HQT.out
            have hne : g + 1 ≠ gt := by have := HGT.out; omega
            clear bf
            go_region
            all_goals
              go_wp2
              go_meet
              exact ⟨((HFT.out.set2 _).set3 _).drewN 1, (((But.refl gt wt).set 2 _).set 3 _).drewN 1⟩
          case rest =>
            obtain ⟨hf, hBf⟩ := hcut
            have hgt2 := HGT.out
            have hbf : Below gt wt wc := hBf.below (Nat.le_refl _) (by omega)
            have h6c : Below w6.heap.size w6 wc := by rw [H6W.out.2]; exact H6W.out.1.trans hbf
            have HOC : Hid (wc.ownsRow (g + 2) 37 4 (.slice A n c) n (rowT T)) := row_but HO6.out (But.of_below h6c : But (g + 1) w6 wc) (by omega)
            have HQC := Lib.hid (HQT.out.but hBf (by omega))
            have HBC : Hid (But (g + 1) w2 wc) := HBT.out.onB hbf (by have := HZ.out; omega)
            have HFC := Lib.hid hf
            have HNE : Hid ((Value.slice A n c).ownBlock ≠ some gt) := fun h => by
              have := (HO6.out.lt gt h).2
              rw [H6W.out.2] at this; omega
            clear hf hBf hbf h6c HQT HBT HFT HO6 H6W HWT HGW
            obtain ⟨ti, hti, hz1, hs1, hby1⟩ := info_three info_token
            obtain ⟨wa, hwa⟩ : ∃ wa, wc.alloc (.cells #[.int .i64 kk, .string TX, .int .i64 q.1, .int .i64 q.2] 37) = wa := ⟨_, rfl⟩
            have hba : Below wc.heap.size wc wa := hwa ▸ allocB _ _
            have NEWS : ∀ j u, [Value.int .i64 kk, .string TX, .int .i64 q.1, .int .i64 q.2][j]? = some u → wa.cell? ((⟨wc.heap.size, 0, none⟩ : Addr).add j) = some u := hwa ▸ cells_new wc [Value.int .i64 kk, .string TX, .int .i64 q.1, .int .i64 q.2] 37
            have HOA : Hid (wa.ownsRow (g + 2) 37 4 (.slice A n c) n (rowT T)) := row_but HOC.out (But.of_below hba : But (g + 1) wc wa) (by omega)
            have HBA : Hid (But (g + 1) w2 wa) := HBC.out.trans (But.of_below hba)
            have HFA := Lib.hid (HFC.out.below hba HFC.out.size)
            have HQA := Lib.hid (HQC.out.below hba HQC.out.size)
            have hszA : g + 2 ≤ wa.heap.size := by have := HBA.out.size; have := HZ.out; omega
            have HWA := Lib.hid hwa
            have hrl := HOA.out
            have hn8 : n ≤ 8192 := by have := hks.out; omega
            obtain ⟨_, b0, b1, b2, b3, _⟩ := HFC.out
            clear hwa hba hgt2
            go_wp2_with (at_builtin; (rw [HWA.out]; refine wpList_append_own_at _ rfl (.tmp 51) (.tmp 53) 30 rfl (g + 2) 37 ti (.agg #[.int .i64 0, .string ⟨#[]⟩, .int .i64 0, .int .i64 0]) 4 40 Try.underlying30 hti hz1 hs1 hby1 rfl (by decide) (.slice A n c) n (rowT T) rfl hrl ⟨wc.heap.size, 0, none⟩ 1 1 [.int .i64 kk, .string TX, .int .i64 q.1, .int .i64 q.2] rfl rfl NEWS (by simp [Value.oneCell']) (by unfold maxLen; omega) (by omega) hszA ?_))
            intro v' wz hownz hgrow _ _
            have hbz : Below (g + 2) wa wz := row_grown (Below.refl (g + 2) wa) hrl hgrow hszA (Nat.le_refl _)
            have HBZ : Hid (But (g + 1) w2 wz) := HBA.out.onB hbz (by have := HZ.out; omega)
            have HFZ : Hid (Four wz gt kk TX q.1 q.2) := HFA.out.keep hgrow.size (hgrow.block gt HFA.out.size fun h => HNE.out h.symm)
            have HQZ := Lib.hid (HQA.out.below hbz (by omega))
            obtain ⟨A2, c2, rfl⟩ := row_slice hownz
            have HOZ : Hid (wz.ownsRow (g + 2) 37 4 (.slice A2 (n + 1) c2) (n + 1) (rowT (T ++ [⟨kk, s2.data.toList.take m2, q.1, q.2⟩]))) := by
              rw [rowT_append, rowT_one]
              show World.ownsRow _ _ _ _ _ _ (_ ++ [_, .string (bs _), _, _])
              rw [← HTB.out]; exact hownz
            have HLZ : Hid ((T ++ [(⟨kk, s2.data.toList.take m2, q.1, q.2⟩ : Tok)]).length = n + 1) := by show _ = _; rw [List.length_append, hTn.out]; rfl
            clear hbz hownz hgrow hrl HOA HBA NEWS hszA b0 b1 b2 b3 HFC HQC HFA HQA HOC HBC HNE
            obtain ⟨_, b0, b1, b2, b3, _⟩ := HFZ.out
            obtain ⟨_, c0, c1, _⟩ := HQZ.out
            go_wp2_with fail
            refine (HMV.out _).mono ?_
            rintro e w9 ⟨rfl, hb9⟩
            have HF9 := Lib.hid (HFZ.out.below hb9 HFZ.out.size)
            have HQ9 := Lib.hid (HQZ.out.below hb9 HQZ.out.size)
            have HB9 : Hid (But (g + 1) w2 w9) := HBZ.out.trans (But.of_below hb9)
            have HO9 : Hid (w9.ownsRow (g + 2) 37 4 (.slice A2 (n + 1) c2) (n + 1) (rowT (T ++ [⟨kk, s2.data.toList.take m2, q.1, q.2⟩]))) := row_but HOZ.out (But.of_below hb9 : But (g + 1) wz w9) (by omega)
            clear b0 b1 b2 b3 c0 c1 HFZ HQZ HBZ HOZ hb9
            obtain ⟨_, b0, b1, b2, b3, _⟩ := HF9.out
            obtain ⟨_, c0, c1, cf⟩ := HQ9.out
            have y0 := cf 0
            have y1 := cf 1
            have hne : g + 1 ≠ gt := by have := HGT.out; omega
            have hTi : (TX.size : Int) ≤ (s2.size : Int) := by rw [HTS.out]; omega
            clear cf
            go_wp2
            have hd3 : (s2.extract TX.size s2.size).data.toList = s2.data.toList.drop m2 := by
              rw [← Lib.toList_data, extract_list, HTS.out, List.take_of_length_le (by simp)]
            have HD3 := Lib.hid hd3
            clear hd3
            go_roundg (s2.size - m2)
            case measure => have := hsr.out; have := HZ2.out; omega
            case rel =>
              refine ⟨A2, n + 1, c2, _, _, k + m + m2, q', rfl, rfl, by omega, HLZ, ?_, ?_, (HQ9.out.set0 _).set1 _, ?_, row_but HO9.out (((But.refl (g + 1) w9).set 0 _).set 1 _) (by omega), ?_, (HB9.out.set 0 _).set 1 _⟩
              · show _ = _
                have := HTS.out; have := HZ2.out; have := hks.out
                simp; omega
              · show _ = _
                have := HTS.out
                simp; omega
              · have := HQB2.out
                rw [show k + m + m2 + 1 = k + 1 + m + m2 by omega]
                exact this
              · show _ = _
                rw [HD3.out]; exact HOF.out
theorem ref_x (s : ByteArray) (w : World) (hm : s.size ≤ maxLen) : Calls Try.prog 15 #[.string s] w (GivesOut (if s.size ≤ 8192 then lex s.toList (1, 1) else .bad 1 1 9) w) := by
  rw [Lib.toList_data]
  split
  · next h => exact ref_short s w h _ rfl
  · next h => exact ref_long s w (by omega) hm
end Go.Proofs.Ytenobkhiekhohaa
