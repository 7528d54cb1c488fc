/-
  LexerLimits.
-/
import Derived.Test.YtenobkhiekhohaaLexA
import Derived.Laws.MakeOwn
import Derived.OpenShut
import Derived.ProofKit
namespace Go.Proofs.Ytenobkhiekhohaa
open Go Go.RowKit Lx
set_option maxRecDepth 50000

theorem run_all (q : Nat → UInt8 → Bool) (c : UInt8) (m i : Nat) (h : ∀ j, q j c = true) : gRun q i (List.replicate m c) = m := by
  induction m generalizing i with
  | zero => rfl
  | succ m ih => rw [List.replicate_succ, gRun, if_pos (h i), ih]
theorem run_none (q : Nat → UInt8 → Bool) (c : UInt8) (m i : Nat) (h : q i c = false) : gRun q i (List.replicate m c) = 0 := by
  cases m with
  | zero => rfl
  | succ m => rw [List.replicate_succ, gRun, if_neg (by simp [h])]
theorem mvs_same (c : UInt8) (m : Nat) (p : Int × Int) (h : (c.toNat : Int) ≠ 10) : mvs p (List.replicate m c) = (p.1, p.2 + m) := by
  induction m generalizing p with
  | zero => simp [mvs]
  | succ m ih =>
    rw [List.replicate_succ, mvs_cons, ih]
    unfold mv
    rw [if_neg h]
    simp; omega
theorem lex_spaces (m : Nat) : lex (List.replicate m 32) (1, 1) = .ok [⟨5, [], 1, 1 + m⟩] := by
  have hb : isB (32 : UInt8).toNat = true := by decide
  have hr : gRun qB 0 (List.replicate m 32) = m := run_all _ _ _ _ (fun _ => hb)
  rw [lex_blanks _ 0, hr, List.drop_of_length_le (by simp), List.take_of_length_le (by simp), mvs_same _ _ _ (by decide), lex_nil]
theorem lex_word (c : UInt8) (k : Int) (m most : Nat) (hm : 10 ≤ m) (hc : isB c.toNat = false ∧ (c.toNat : Int) ≠ 35 ∧ (c.toNat : Int) ≠ 10)
    (ht : tokAt (List.replicate m c) = if m ≤ most then .yes k m else .no 9) :
    lex (32 :: List.replicate m c) (1, 1) = if m ≤ most then .ok [⟨k, List.replicate m c, 1, 2⟩, ⟨5, [], 1, 2 + m⟩] else .bad 1 2 9 := by
  rw [lex_blank (by decide)]
  have h1 : mv (1, 1) 32 = (1, 2) := by decide
  rw [h1]
  obtain ⟨j, rfl⟩ : ∃ j, m = j + 1 := ⟨m - 1, by omega⟩
  rw [List.replicate_succ] at ht ⊢
  split at ht
  · next h =>
    rw [if_pos h, lex_yes hc.1 hc.2.1 ht, ← List.replicate_succ, List.drop_of_length_le (by simp), List.take_of_length_le (by simp), mvs_same _ _ _ hc.2.2, lex_nil]; rfl
  · next h => rw [if_neg h, lex_no hc.1 hc.2.1 ht]
theorem tok_a (m : Nat) (hm : 10 ≤ m) : tokAt (List.replicate m 97) = if m ≤ 12 then .yes 1 m else .no 9 := by
  have hb : isL (97 : UInt8).toNat = true := by decide
  have h1 : gRun qN 0 (List.replicate m 97) = m := run_all _ _ _ _ (fun _ => by unfold qN; rw [hb]; rfl)
  have h2 : kwB (List.replicate m 97) = false := by
    cases h : kwB (List.replicate m 97) with
    | false => rfl
    | true => have := kwB_short h; simp at this; omega
  unfold tokAt
  rw [h1, if_pos (by omega), List.take_of_length_le (by simp), h2]
  simp only [Bool.false_eq_true, if_false]
  by_cases h : m ≤ 12
  · rw [if_pos h, if_neg (by omega)]
  · rw [if_neg h, if_pos (by omega)]
theorem tok_1 (m : Nat) (hm : 10 ≤ m) : tokAt (List.replicate m 49) = if m ≤ 60 then .yes 2 m else .no 9 := by
  have h1 : gRun qN 0 (List.replicate m 49) = 0 := run_none _ _ _ _ (by decide)
  have hb : isD (49 : UInt8).toNat = true := by decide
  have h2 : gRun qD 0 (List.replicate m 49) = m := run_all _ _ _ _ (fun _ => hb)
  unfold tokAt
  rw [h1, h2, if_neg (by omega), if_pos (by omega)]
  by_cases h : m ≤ 60
  · rw [if_pos h, if_neg (by omega)]
  · rw [if_neg h, if_pos (by omega)]

/-- Bytes in block g. -/
structure Byts (w : World) (g n : Nat) (f : Nat → Int) : Prop where
  size : g < w.heap.size
  c : ∀ j, j < n → w.cell? ⟨g, j, none⟩ = some (.int .u8 (f j))
  fr : ∀ j, w.frozen? ⟨g, j, none⟩ = false
theorem Byts.keep {w w' : World} {g n : Nat} {f : Nat → Int} (h : Byts w g n f) (hz : w.heap.size ≤ w'.heap.size) (hb : w'.heap[g]? = w.heap[g]?) : Byts w' g n f :=
  ⟨Nat.lt_of_lt_of_le h.size hz, fun j hj => (World.cell?_of_block (a := ⟨g, j, none⟩) hb).trans (h.c j hj), fun j => (World.frozen?_of_block (a := ⟨g, j, none⟩) hb).trans (h.fr j)⟩
theorem Byts.set {w : World} {g n : Nat} {f : Nat → Int} (h : Byts w g n f) (i : Nat) (hi : i < n) (x : Int) : Byts (w.setCell ⟨g, i, none⟩ (.int .u8 x)) g n (fun j => if j = i then x else f j) := by
  refine ⟨by simp [World.setCell]; exact h.size, fun j hj => ?_, fun j => by rw [World.frozen?_setCell]; exact h.fr j⟩
  by_cases hji : j = i
  · subst hji
    simp only
    exact World.cell?_setCell_same _ _ _ (h.c j hj)
  · simp only [if_neg hji]
    rw [World.cell?_setCell_other _ _ _ _ (fun e => by cases e; exact hji rfl)]; exact h.c j hj
theorem info_u8 : (Try.prog.info? 5).map (fun i => (i.zero, i.size, i.bytes)) = some (some (.int .u8 0), 1, 1) := by kernel_rfl
theorem byts_made (w : World) (n : Nat) (t : TypeId) : Byts (w.alloc (.cells (madeCells (Value.int .u8 0).cells n) t)) w.heap.size n (fun _ => 0) := by
  refine ⟨by simp, fun j hj => ?_, fun j => by simp⟩
  rw [World.cell?_alloc_new]
  simp [madeCells, Value.cells, hj, Nat.mod_one]

theorem space_cat (m : Nat) (c : UInt8) : ((⟨#[32]⟩ : ByteArray) ++ bs (List.replicate m c)).toList = 32 :: List.replicate m c := by
  rw [Lib.toList_data, ByteArray.data_append, Array.toList_append]; rfl
theorem rep_cat (m : Nat) (c : UInt8) : bs (List.replicate m c) ++ ⟨#[c]⟩ = bs (List.replicate (m + 1) c) := by
  apply ByteArray.ext
  rw [ByteArray.data_append]
  show (List.replicate m c).toArray ++ #[c] = (List.replicate (m + 1) c).toArray
  rw [List.replicate_succ']
  apply Array.ext'
  simp

set_option maxHeartbeats 8000000 in
theorem lexerLimits.walk {nz : Int} {d : Bool} {w : World} (hz : (Lit.int .u8 nz).wf = true) : Calls Try.prog 7 #[.int .u8 nz, .bool d] w (SaysTrue w) := by
  have b := bounds_u8 hz
  obtain ⟨b0, b1⟩ := b
  obtain ⟨r, hr⟩ := Int.eq_ofNat_of_zero_le (show 0 ≤ nz % 5 by omega)
  obtain ⟨u, hu⟩ := Int.eq_ofNat_of_zero_le (show 0 ≤ nz % 3 by omega)
  have hr4 : r ≤ 4 := by omega
  have hu2 : u ≤ 2 := by omega
  have HU := Lib.hid hu
  clear hz hu
  cases d with
  | false =>
    have HLX : Hid (∀ m, 10 ≤ m → lex (32 :: List.replicate m 97) (1, 1) = if m ≤ 12 then .ok [⟨1, List.replicate m 97, 1, 2⟩, ⟨5, [], 1, 2 + m⟩] else .bad 1 2 9) := fun m hm => lex_word 97 1 m 12 hm (by decide) (tok_a m hm)
    go_enter Try.func7, Try.ntmps7
    go_wp2_with fail
    go_loop [7, 8] (fun wv iv => ∃ (i : Nat) (W : ByteArray), i ≤ 10 + r ∧ iv = .int .i64 i ∧ wv = .string W ∧ Hid (W = bs (List.replicate i 97)) ∧ W.size ≤ 100) (fun _ iv => 10 + r - (intOf iv).toNat)
    case atStart => exact ⟨0, _, Nat.zero_le _, rfl, rfl, rfl, by decide⟩
    case round =>
      obtain ⟨i, W, hi, rfl, rfl, hW, hWs⟩ := hrel
      by_cases hlt : i < 10 + r
      · have hlt' : (i : Int) < 10 + (r : Int) := by omega
        have HW : Hid (W ++ ⟨#[97]⟩ = bs (List.replicate (i + 1) 97)) := by show _ = _; rw [hW.out, rep_cat]
        have HWS : Hid ((W ++ ⟨#[97]⟩ : ByteArray).size ≤ 100) := by rw [HW.out]; show (bs _).size ≤ 100; show (List.replicate (i + 1) (97 : UInt8)).length ≤ 100; rw [List.length_replicate]; omega
        clear hW
        go_wp2
        go_round
        case rel => exact ⟨i + 1, _, by omega, by go_num, rfl, HW.out, HWS.out⟩
        case measure => simp [intOf] <;> omega
      · obtain rfl : i = 10 + r := by omega
        have hTK := tokens_x ((⟨#[32]⟩ : ByteArray) ++ W) w (by rw [ByteArray.size_append]; unfold maxLen; have : (⟨#[32]⟩ : ByteArray).size = 1 := rfl; omega)
        rw [if_pos (by rw [ByteArray.size_append]; have : (⟨#[32]⟩ : ByteArray).size = 1 := rfl; omega)] at hTK
        have hWl : ((⟨#[32]⟩ : ByteArray) ++ W).toList = 32 :: List.replicate (10 + r) 97 := by rw [hW.out, space_cat]
        rw [hWl, HLX.out _ (by omega)] at hTK
        have hWsz : W.size = 10 + r := by rw [hW.out]; show (List.replicate _ _).length = _; rw [List.length_replicate]
        have HTK := Lib.hid hTK
        have HWZ := Lib.hid hWsz
        clear hTK hWl hWsz HLX
        by_cases hr2 : 10 + r ≤ 12
        · rw [if_pos hr2] at HTK
          go_wp2_with fail
          refine HTK.out.mono ?_
          rintro e w1 (⟨T, A, n, c, hT, rfl, hTn, hown, hb1⟩ | ⟨l, co, er, hT, _, _, _⟩)
          · injection hT with hT
            subst hT
            obtain rfl : 2 = n := hTn
            obtain ⟨w2, hw2⟩ : ∃ w2, w1.alloc (.cells #[.int .i64 0, .int .i64 0] 32) = w2 := ⟨_, rfl⟩
            obtain ⟨g2, hg2⟩ : ∃ g2, w1.heap.size = g2 := ⟨_, rfl⟩
            have hb2 : Below w1.heap.size w1 w2 := hw2 ▸ allocB _ _
            have h22 : Two w2 g2 0 0 := by rw [← hw2, ← hg2]; exact ⟨by simp, by simp, by simp, by simp⟩
            obtain ⟨g, rfl, _, hg, hc⟩ := row_tok (row_below hown hb2) rfl (by omega)
            have k0 := hc 0 _ rfl
            have HB2 := Lib.hid (nextB hb1 hb2)
            have HGW : Hid (w.heap.size ≤ w1.heap.size) := hb1.size
            have H22 := Lib.hid h22
            obtain ⟨_, a1, _, _⟩ := k0
            simp only [Nat.zero_mul, Nat.zero_add] at a1
            have hbw : bs (List.replicate (10 + r) 97) = W := hW.out.symm
            rw [hbw] at a1
            have hWn : ¬ (12 : Int) < (W.size : Int) := by have := HWZ.out; omega
            have hWm : (W.size : Int) ≤ 12 := by have := HWZ.out; omega
            clear hc hown hb1 hb2 h22 hbw hW HTK
            subst hw2 hg2
            go_upto_region 16 with (fail)
            clear a1 hWn hWm
            obtain ⟨w2, hw2⟩ : ∃ w2, w1.alloc (.cells #[.int .i64 0, .int .i64 0] 32) = w2 := ⟨_, rfl⟩
            obtain ⟨g2, hg2⟩ : ∃ g2, w1.heap.size = g2 := ⟨_, rfl⟩
            rw [hw2] at HB2
            rw [hw2, hg2] at H22
            rw [hg2] at HGW
            rw [hw2, hg2]
            clear hw2 hg2
            have hu := HU.out
            obtain ⟨i0, hi0, hz0, hz1, hz2⟩ := info_three info_u8
            have hmk : ∀ W : World, (Instr.makeSlice 40 (.int .i64 (8191 + (u : Int))) (.int .i64 (8191 + (u : Int)))).run Try.prog W = .ok (.slice (some ⟨W.heap.size, 0, none⟩) (8191 + u) (8191 + u)) (W.alloc (.cells (madeCells (Value.int .u8 0).cells (8191 + u)) 5)) := fun W => by
              have h := run_make (P := Try.prog) W 40 5 i0 (.int .u8 0) Try.underlying40 hi0 hz0 .i64 .i64 (8191 + (u : Int)) (8191 + (u : Int)) (by omega) (by omega) (by rw [hz2]; omega) (by omega)
              rw [hz1, Nat.mul_one, show (8191 + (u : Int)).toNat = 8191 + u by omega] at h
              exact h
            clear hi0 hz0 hz1 hz2
            go_upto_block 2 with (fail)
            obtain ⟨w3, hw3⟩ : ∃ w3, w2.alloc (.cells (madeCells #[.int .u8 0] (8191 + u)) 5) = w3 := ⟨_, rfl⟩
            obtain ⟨gt, hgt⟩ : ∃ gt, w2.heap.size = gt := ⟨_, rfl⟩
            have h3 : Byts w3 gt (8191 + u) (fun _ => 0) := by rw [← hw3, ← hgt]; exact byts_made w2 (8191 + u) _
            have hb3 : Below w2.heap.size w2 w3 := hw3 ▸ allocB _ _
            have h23 := H22.out.below hb3 H22.out.size
            have hB3 : Below w.heap.size w w3 := nextB HB2.out hb3
            have HGT : Hid (g2 < gt ∧ w.heap.size ≤ g2) := ⟨by rw [← hgt]; exact H22.out.size, HGW.out⟩
            rw [hw3, hgt]
            have HN : Hid ((8191 : Int) + u = ((8191 + u : Nat) : Int)) := by show _ = _; omega
            clear hw3 hgt hb3 hmk hu H22 HB2
            go_wp2_with fail
            go_loopw [13] (fun iv wr => ∃ (i : Nat) (f : Nat → Int), i ≤ 8191 + u ∧ iv = .int .i64 i ∧ Byts wr gt (8191 + u) f ∧ Hid (∀ j, j < i → f j = 32) ∧ Two wr g2 0 0 ∧ Below w.heap.size w wr) (fun iv _ => 8191 + u - (intOf iv).toNat)
            case atStart => exact ⟨0, _, Nat.zero_le _, rfl, h3, fun j hj => by omega, h23, hB3⟩
            case round =>
              obtain ⟨i, f, hi, rfl, hf, hall, h2, hB⟩ := hrel
              clear h3 h23 hB3
              by_cases hlt : i < 8191 + u
              · have hlt' : (i : Int) < 8191 + (u : Int) := by omega
                have hi0 : (0 : Int) ≤ (i : Int) := by omega
                have HF : Hid (Byts (wr.setCell ⟨gt, i, none⟩ (.int .u8 32)) gt (8191 + u) (fun j => if j = i then 32 else f j)) := hf.set i hlt 32
                have HA : Hid (∀ j, j < i + 1 → (fun j => if j = i then 32 else f j) j = 32) := fun j hj => by
                  by_cases h : j = i
                  · simp only [h, if_true]
                  · simp only [h, if_false]; exact hall.out j (by omega)
                have H2 : Hid (Two (wr.setCell ⟨gt, i, none⟩ (.int .u8 32)) g2 0 0) := h2.far (by have := HGT.out; omega) i _
                have HBB : Hid (Below w.heap.size w (wr.setCell ⟨gt, i, none⟩ (.int .u8 32))) := hB.setCell (p := ⟨gt, i, none⟩) (by have := HGT.out; show w.heap.size ≤ gt; omega) _
                have c0 := hf.c i hlt
                have f0 := hf.fr i
                clear hf hall h2 hB
                go_wp2
                go_roundw
                case rel => exact ⟨i + 1, _, by omega, by go_num, HF.out, HA.out, H2.out, HBB.out⟩
                case measure => simp [intOf] <;> omega
              · obtain rfl : i = 8191 + u := by omega
                have hcv : (convert 40 9 (.slice (some ⟨gt, 0, none⟩) (8191 + u) (8191 + u))).run Try.prog wr = .ok (.string (bs (List.replicate (8191 + u) 32))) wr := by
                  have h := run_convert_bytes_back (P := Try.prog) wr 40 9 5 ⟨gt, 0, none⟩ (8191 + u) (List.replicate (8191 + u) 32) Try.underlying40 Try.underlying5 Try.underlying9 (fun j hj => by
                    have hj2 : j < 8191 + u := by simpa using hj
                    rw [add_plain, Nat.zero_add, hf.c j hj2, hall.out j hj2, List.getElem_replicate]; rfl)
                  rw [List.length_replicate] at h
                  exact h
                have hTL : (bs (List.replicate (8191 + u) 32)).toList = List.replicate (8191 + u) 32 := bs_list _
                have hTS : (bs (List.replicate (8191 + u) 32)).size = 8191 + u := by show (List.replicate _ _).length = _; rw [List.length_replicate]
                obtain ⟨TX, hTX⟩ : ∃ TX, bs (List.replicate (8191 + u) 32) = TX := ⟨_, rfl⟩
                rw [hTX] at hcv hTL hTS
                have hT := tokens_x TX wr (by rw [hTS]; unfold maxLen; omega)
                rw [hTS, hTL, lex_spaces] at hT
                have hlt2 : ¬ (8191 : Int) + u < 8191 + u := by omega
                have H2 := Lib.hid h2
                have HBB := Lib.hid hB
                clear hTX hTL hTS hf hall h2 hB
                by_cases hu1 : u ≤ 1
                · rw [if_pos (by omega)] at hT
                  have HT := Lib.hid hT
                  have hu8 : (8191 : Int) + u ≤ 8192 := by omega
                  have hu9 : decide ((8191 : Int) + u ≤ 8192) = true := by simpa using hu8
                  clear hT
                  go_wp2_with fail
                  refine HT.out.mono ?_
                  rintro e w5 (⟨T5, A5, n5, c5, hT5, rfl, hTn5, hown5, hb5⟩ | ⟨l5, co5, er5, hT5, _, _, _⟩)
                  · have hq := H2.out.below hb5 H2.out.size
                    obtain ⟨_, x0, x1, xf⟩ := hq
                    have y0 := xf 0
                    have y1 := xf 1
                    have HB5 : Hid (∀ a b, Below w.heap.size w ((w5.setCell ⟨g2, 0, none⟩ a).setCell ⟨g2, 1, none⟩ b)) := fun a b => ((nextB HBB.out hb5).setCell (p := ⟨g2, 0, none⟩) HGT.out.2 a).setCell (p := ⟨g2, 1, none⟩) HGT.out.2 b
                    clear xf hb5 hown5 hTn5 hT5 HT
                    go_wp2_with fail
                    refine (awake_x _).mono ?_
                    rintro e w6 ⟨rfl, hb6⟩
                    have HB6 := Lib.hid (nextB (HB5.out _ _) hb6)
                    clear hb6 HB5
                    go_wp2
                    go_ret
                    exact ⟨rfl, HB6.out⟩
                  · cases hT5
                · rw [if_neg (by omega)] at hT
                  have HT := Lib.hid hT
                  have hu8 : ¬ (8191 : Int) + u ≤ 8192 := by omega
                  have hu9 : decide ((8191 : Int) + u ≤ 8192) = false := by simpa using hu8
                  clear hT
                  go_wp2_with fail
                  refine HT.out.mono ?_
                  rintro e w5 (⟨T5, A5, n5, c5, hT5, _, _, _, _⟩ | ⟨l5, co5, er5, hT5, _, rfl, hb5⟩)
                  · cases hT5
                  · injection hT5 with h51 h52 h53
                    subst h51 h52 h53
                    have hq := H2.out.below hb5 H2.out.size
                    obtain ⟨_, x0, x1, xf⟩ := hq
                    have y0 := xf 0
                    have y1 := xf 1
                    have HB5 : Hid (∀ a b, Below w.heap.size w ((w5.setCell ⟨g2, 0, none⟩ a).setCell ⟨g2, 1, none⟩ b)) := fun a b => ((nextB HBB.out hb5).setCell (p := ⟨g2, 0, none⟩) HGT.out.2 a).setCell (p := ⟨g2, 1, none⟩) HGT.out.2 b
                    clear xf hb5 HT
                    go_wp2_with fail
                    refine (awake_x _).mono ?_
                    rintro e w6 ⟨rfl, hb6⟩
                    have HB6 := Lib.hid (nextB (HB5.out _ _) hb6)
                    clear hb6 HB5
                    go_wp2
                    go_ret
                    exact ⟨rfl, HB6.out⟩
          · cases hT
        · rw [if_neg hr2] at HTK
          go_wp2_with fail
          refine HTK.out.mono ?_
          rintro e w1 (⟨T, A, n, c, hT, _, _, _, _⟩ | ⟨l, co, er, hT, _, rfl, hb1⟩)
          · cases hT
          · injection hT with ha1 ha2 ha3
            subst ha1 ha2 ha3
            obtain ⟨w2, hw2⟩ : ∃ w2, w1.alloc (.cells #[.int .i64 1, .int .i64 2] 32) = w2 := ⟨_, rfl⟩
            obtain ⟨g2, hg2⟩ : ∃ g2, w1.heap.size = g2 := ⟨_, rfl⟩
            have hb2 : Below w1.heap.size w1 w2 := hw2 ▸ allocB _ _
            have h22 : Two w2 g2 1 2 := by rw [← hw2, ← hg2]; exact ⟨by simp, by simp, by simp, by simp⟩
            have HB2 := Lib.hid (nextB hb1 hb2)
            have HGW : Hid (w.heap.size ≤ w1.heap.size) := hb1.size
            have H22 := Lib.hid h22
            have hWn : (12 : Int) < (W.size : Int) := by have := HWZ.out; omega
            have hWm : ¬ (W.size : Int) ≤ 12 := by have := HWZ.out; omega
            clear hb1 hb2 h22 hW HTK
            subst hw2 hg2
            go_upto_region 16 with (fail)
            clear hWn hWm
            obtain ⟨w2, hw2⟩ : ∃ w2, w1.alloc (.cells #[.int .i64 1, .int .i64 2] 32) = w2 := ⟨_, rfl⟩
            obtain ⟨g2, hg2⟩ : ∃ g2, w1.heap.size = g2 := ⟨_, rfl⟩
            rw [hw2] at HB2
            rw [hw2, hg2] at H22
            rw [hg2] at HGW
            rw [hw2, hg2]
            clear hw2 hg2
            have hu := HU.out
            obtain ⟨i0, hi0, hz0, hz1, hz2⟩ := info_three info_u8
            have hmk : ∀ W : World, (Instr.makeSlice 40 (.int .i64 (8191 + (u : Int))) (.int .i64 (8191 + (u : Int)))).run Try.prog W = .ok (.slice (some ⟨W.heap.size, 0, none⟩) (8191 + u) (8191 + u)) (W.alloc (.cells (madeCells (Value.int .u8 0).cells (8191 + u)) 5)) := fun W => by
              have h := run_make (P := Try.prog) W 40 5 i0 (.int .u8 0) Try.underlying40 hi0 hz0 .i64 .i64 (8191 + (u : Int)) (8191 + (u : Int)) (by omega) (by omega) (by rw [hz2]; omega) (by omega)
              rw [hz1, Nat.mul_one, show (8191 + (u : Int)).toNat = 8191 + u by omega] at h
              exact h
            clear hi0 hz0 hz1 hz2
            go_upto_block 2 with (fail)
            obtain ⟨w3, hw3⟩ : ∃ w3, w2.alloc (.cells (madeCells #[.int .u8 0] (8191 + u)) 5) = w3 := ⟨_, rfl⟩
            obtain ⟨gt, hgt⟩ : ∃ gt, w2.heap.size = gt := ⟨_, rfl⟩
            have h3 : Byts w3 gt (8191 + u) (fun _ => 0) := by rw [← hw3, ← hgt]; exact byts_made w2 (8191 + u) _
            have hb3 : Below w2.heap.size w2 w3 := hw3 ▸ allocB _ _
            have h23 := H22.out.below hb3 H22.out.size
            have hB3 : Below w.heap.size w w3 := nextB HB2.out hb3
            have HGT : Hid (g2 < gt ∧ w.heap.size ≤ g2) := ⟨by rw [← hgt]; exact H22.out.size, HGW.out⟩
            rw [hw3, hgt]
            have HN : Hid ((8191 : Int) + u = ((8191 + u : Nat) : Int)) := by show _ = _; omega
            clear hw3 hgt hb3 hmk hu H22 HB2
            go_wp2_with fail
            go_loopw [13] (fun iv wr => ∃ (i : Nat) (f : Nat → Int), i ≤ 8191 + u ∧ iv = .int .i64 i ∧ Byts wr gt (8191 + u) f ∧ Hid (∀ j, j < i → f j = 32) ∧ Two wr g2 1 2 ∧ Below w.heap.size w wr) (fun iv _ => 8191 + u - (intOf iv).toNat)
            case atStart => exact ⟨0, _, Nat.zero_le _, rfl, h3, fun j hj => by omega, h23, hB3⟩
            case round =>
              obtain ⟨i, f, hi, rfl, hf, hall, h2, hB⟩ := hrel
              clear h3 h23 hB3
              by_cases hlt : i < 8191 + u
              · have hlt' : (i : Int) < 8191 + (u : Int) := by omega
                have hi0 : (0 : Int) ≤ (i : Int) := by omega
                have HF : Hid (Byts (wr.setCell ⟨gt, i, none⟩ (.int .u8 32)) gt (8191 + u) (fun j => if j = i then 32 else f j)) := hf.set i hlt 32
                have HA : Hid (∀ j, j < i + 1 → (fun j => if j = i then 32 else f j) j = 32) := fun j hj => by
                  by_cases h : j = i
                  · simp only [h, if_true]
                  · simp only [h, if_false]; exact hall.out j (by omega)
                have H2 : Hid (Two (wr.setCell ⟨gt, i, none⟩ (.int .u8 32)) g2 1 2) := h2.far (by have := HGT.out; omega) i _
                have HBB : Hid (Below w.heap.size w (wr.setCell ⟨gt, i, none⟩ (.int .u8 32))) := hB.setCell (p := ⟨gt, i, none⟩) (by have := HGT.out; show w.heap.size ≤ gt; omega) _
                have c0 := hf.c i hlt
                have f0 := hf.fr i
                clear hf hall h2 hB
                go_wp2
                go_roundw
                case rel => exact ⟨i + 1, _, by omega, by go_num, HF.out, HA.out, H2.out, HBB.out⟩
                case measure => simp [intOf] <;> omega
              · obtain rfl : i = 8191 + u := by omega
                have hcv : (convert 40 9 (.slice (some ⟨gt, 0, none⟩) (8191 + u) (8191 + u))).run Try.prog wr = .ok (.string (bs (List.replicate (8191 + u) 32))) wr := by
                  have h := run_convert_bytes_back (P := Try.prog) wr 40 9 5 ⟨gt, 0, none⟩ (8191 + u) (List.replicate (8191 + u) 32) Try.underlying40 Try.underlying5 Try.underlying9 (fun j hj => by
                    have hj2 : j < 8191 + u := by simpa using hj
                    rw [add_plain, Nat.zero_add, hf.c j hj2, hall.out j hj2, List.getElem_replicate]; rfl)
                  rw [List.length_replicate] at h
                  exact h
                have hTL : (bs (List.replicate (8191 + u) 32)).toList = List.replicate (8191 + u) 32 := bs_list _
                have hTS : (bs (List.replicate (8191 + u) 32)).size = 8191 + u := by show (List.replicate _ _).length = _; rw [List.length_replicate]
                obtain ⟨TX, hTX⟩ : ∃ TX, bs (List.replicate (8191 + u) 32) = TX := ⟨_, rfl⟩
                rw [hTX] at hcv hTL hTS
                have hT := tokens_x TX wr (by rw [hTS]; unfold maxLen; omega)
                rw [hTS, hTL, lex_spaces] at hT
                have hlt2 : ¬ (8191 : Int) + u < 8191 + u := by omega
                have H2 := Lib.hid h2
                have HBB := Lib.hid hB
                clear hTX hTL hTS hf hall h2 hB
                by_cases hu1 : u ≤ 1
                · rw [if_pos (by omega)] at hT
                  have HT := Lib.hid hT
                  have hu8 : (8191 : Int) + u ≤ 8192 := by omega
                  have hu9 : decide ((8191 : Int) + u ≤ 8192) = true := by simpa using hu8
                  clear hT
                  go_wp2_with fail
                  refine HT.out.mono ?_
                  rintro e w5 (⟨T5, A5, n5, c5, hT5, rfl, hTn5, hown5, hb5⟩ | ⟨l5, co5, er5, hT5, _, _, _⟩)
                  · have hq := H2.out.below hb5 H2.out.size
                    obtain ⟨_, x0, x1, xf⟩ := hq
                    have y0 := xf 0
                    have y1 := xf 1
                    have HB5 : Hid (∀ a b, Below w.heap.size w ((w5.setCell ⟨g2, 0, none⟩ a).setCell ⟨g2, 1, none⟩ b)) := fun a b => ((nextB HBB.out hb5).setCell (p := ⟨g2, 0, none⟩) HGT.out.2 a).setCell (p := ⟨g2, 1, none⟩) HGT.out.2 b
                    clear xf hb5 hown5 hTn5 hT5 HT
                    go_wp2_with fail
                    refine (awake_x _).mono ?_
                    rintro e w6 ⟨rfl, hb6⟩
                    have HB6 := Lib.hid (nextB (HB5.out _ _) hb6)
                    clear hb6 HB5
                    go_wp2
                    go_ret
                    exact ⟨rfl, HB6.out⟩
                  · cases hT5
                · rw [if_neg (by omega)] at hT
                  have HT := Lib.hid hT
                  have hu8 : ¬ (8191 : Int) + u ≤ 8192 := by omega
                  have hu9 : decide ((8191 : Int) + u ≤ 8192) = false := by simpa using hu8
                  clear hT
                  go_wp2_with fail
                  refine HT.out.mono ?_
                  rintro e w5 (⟨T5, A5, n5, c5, hT5, _, _, _, _⟩ | ⟨l5, co5, er5, hT5, _, rfl, hb5⟩)
                  · cases hT5
                  · injection hT5 with h51 h52 h53
                    subst h51 h52 h53
                    have hq := H2.out.below hb5 H2.out.size
                    obtain ⟨_, x0, x1, xf⟩ := hq
                    have y0 := xf 0
                    have y1 := xf 1
                    have HB5 : Hid (∀ a b, Below w.heap.size w ((w5.setCell ⟨g2, 0, none⟩ a).setCell ⟨g2, 1, none⟩ b)) := fun a b => ((nextB HBB.out hb5).setCell (p := ⟨g2, 0, none⟩) HGT.out.2 a).setCell (p := ⟨g2, 1, none⟩) HGT.out.2 b
                    clear xf hb5 HT
                    go_wp2_with fail
                    refine (awake_x _).mono ?_
                    rintro e w6 ⟨rfl, hb6⟩
                    have HB6 := Lib.hid (nextB (HB5.out _ _) hb6)
                    clear hb6 HB5
                    go_wp2
                    go_ret
                    exact ⟨rfl, HB6.out⟩
  | true =>
    have HLX : Hid (∀ m, 10 ≤ m → lex (32 :: List.replicate m 49) (1, 1) = if m ≤ 60 then .ok [⟨2, List.replicate m 49, 1, 2⟩, ⟨5, [], 1, 2 + m⟩] else .bad 1 2 9) := fun m hm => lex_word 49 2 m 60 hm (by decide) (tok_1 m hm)
    go_enter Try.func7, Try.ntmps7
    go_wp2_with fail
    go_loop [7, 8] (fun wv iv => ∃ (i : Nat) (W : ByteArray), i ≤ 58 + r ∧ iv = .int .i64 i ∧ wv = .string W ∧ Hid (W = bs (List.replicate i 49)) ∧ W.size ≤ 100) (fun _ iv => 58 + r - (intOf iv).toNat)
    case atStart => exact ⟨0, _, Nat.zero_le _, rfl, rfl, rfl, by decide⟩
    case round =>
      obtain ⟨i, W, hi, rfl, rfl, hW, hWs⟩ := hrel
      by_cases hlt : i < 58 + r
      · have hlt' : (i : Int) < 58 + (r : Int) := by omega
        have HW : Hid (W ++ ⟨#[49]⟩ = bs (List.replicate (i + 1) 49)) := by show _ = _; rw [hW.out, rep_cat]
        have HWS : Hid ((W ++ ⟨#[49]⟩ : ByteArray).size ≤ 100) := by rw [HW.out]; show (bs _).size ≤ 100; show (List.replicate (i + 1) (49 : UInt8)).length ≤ 100; rw [List.length_replicate]; omega
        clear hW
        go_wp2
        go_round
        case rel => exact ⟨i + 1, _, by omega, by go_num, rfl, HW.out, HWS.out⟩
        case measure => simp [intOf] <;> omega
      · obtain rfl : i = 58 + r := by omega
        have hTK := tokens_x ((⟨#[32]⟩ : ByteArray) ++ W) w (by rw [ByteArray.size_append]; unfold maxLen; have : (⟨#[32]⟩ : ByteArray).size = 1 := rfl; omega)
        rw [if_pos (by rw [ByteArray.size_append]; have : (⟨#[32]⟩ : ByteArray).size = 1 := rfl; omega)] at hTK
        have hWl : ((⟨#[32]⟩ : ByteArray) ++ W).toList = 32 :: List.replicate (58 + r) 49 := by rw [hW.out, space_cat]
        rw [hWl, HLX.out _ (by omega)] at hTK
        have hWsz : W.size = 58 + r := by rw [hW.out]; show (List.replicate _ _).length = _; rw [List.length_replicate]
        have HTK := Lib.hid hTK
        have HWZ := Lib.hid hWsz
        clear hTK hWl hWsz HLX
        by_cases hr2 : 58 + r ≤ 60
        · rw [if_pos hr2] at HTK
          go_wp2_with fail
          refine HTK.out.mono ?_
          rintro e w1 (⟨T, A, n, c, hT, rfl, hTn, hown, hb1⟩ | ⟨l, co, er, hT, _, _, _⟩)
          · injection hT with hT
            subst hT
            obtain rfl : 2 = n := hTn
            obtain ⟨w2, hw2⟩ : ∃ w2, w1.alloc (.cells #[.int .i64 0, .int .i64 0] 32) = w2 := ⟨_, rfl⟩
            obtain ⟨g2, hg2⟩ : ∃ g2, w1.heap.size = g2 := ⟨_, rfl⟩
            have hb2 : Below w1.heap.size w1 w2 := hw2 ▸ allocB _ _
            have h22 : Two w2 g2 0 0 := by rw [← hw2, ← hg2]; exact ⟨by simp, by simp, by simp, by simp⟩
            obtain ⟨g, rfl, _, hg, hc⟩ := row_tok (row_below hown hb2) rfl (by omega)
            have k0 := hc 0 _ rfl
            have HB2 := Lib.hid (nextB hb1 hb2)
            have HGW : Hid (w.heap.size ≤ w1.heap.size) := hb1.size
            have H22 := Lib.hid h22
            obtain ⟨_, a1, _, _⟩ := k0
            simp only [Nat.zero_mul, Nat.zero_add] at a1
            have hbw : bs (List.replicate (58 + r) 49) = W := hW.out.symm
            rw [hbw] at a1
            have hWn : ¬ (60 : Int) < (W.size : Int) := by have := HWZ.out; omega
            have hWm : (W.size : Int) ≤ 60 := by have := HWZ.out; omega
            clear hc hown hb1 hb2 h22 hbw hW HTK
            subst hw2 hg2
            go_upto_region 16 with (fail)
            clear a1 hWn hWm
            obtain ⟨w2, hw2⟩ : ∃ w2, w1.alloc (.cells #[.int .i64 0, .int .i64 0] 32) = w2 := ⟨_, rfl⟩
            obtain ⟨g2, hg2⟩ : ∃ g2, w1.heap.size = g2 := ⟨_, rfl⟩
            rw [hw2] at HB2
            rw [hw2, hg2] at H22
            rw [hg2] at HGW
            rw [hw2, hg2]
            clear hw2 hg2
            have hu := HU.out
            obtain ⟨i0, hi0, hz0, hz1, hz2⟩ := info_three info_u8
            have hmk : ∀ W : World, (Instr.makeSlice 40 (.int .i64 (8191 + (u : Int))) (.int .i64 (8191 + (u : Int)))).run Try.prog W = .ok (.slice (some ⟨W.heap.size, 0, none⟩) (8191 + u) (8191 + u)) (W.alloc (.cells (madeCells (Value.int .u8 0).cells (8191 + u)) 5)) := fun W => by
              have h := run_make (P := Try.prog) W 40 5 i0 (.int .u8 0) Try.underlying40 hi0 hz0 .i64 .i64 (8191 + (u : Int)) (8191 + (u : Int)) (by omega) (by omega) (by rw [hz2]; omega) (by omega)
              rw [hz1, Nat.mul_one, show (8191 + (u : Int)).toNat = 8191 + u by omega] at h
              exact h
            clear hi0 hz0 hz1 hz2
            go_upto_block 2 with (fail)
            obtain ⟨w3, hw3⟩ : ∃ w3, w2.alloc (.cells (madeCells #[.int .u8 0] (8191 + u)) 5) = w3 := ⟨_, rfl⟩
            obtain ⟨gt, hgt⟩ : ∃ gt, w2.heap.size = gt := ⟨_, rfl⟩
            have h3 : Byts w3 gt (8191 + u) (fun _ => 0) := by rw [← hw3, ← hgt]; exact byts_made w2 (8191 + u) _
            have hb3 : Below w2.heap.size w2 w3 := hw3 ▸ allocB _ _
            have h23 := H22.out.below hb3 H22.out.size
            have hB3 : Below w.heap.size w w3 := nextB HB2.out hb3
            have HGT : Hid (g2 < gt ∧ w.heap.size ≤ g2) := ⟨by rw [← hgt]; exact H22.out.size, HGW.out⟩
            rw [hw3, hgt]
            have HN : Hid ((8191 : Int) + u = ((8191 + u : Nat) : Int)) := by show _ = _; omega
            clear hw3 hgt hb3 hmk hu H22 HB2
            go_wp2_with fail
            go_loopw [13] (fun iv wr => ∃ (i : Nat) (f : Nat → Int), i ≤ 8191 + u ∧ iv = .int .i64 i ∧ Byts wr gt (8191 + u) f ∧ Hid (∀ j, j < i → f j = 32) ∧ Two wr g2 0 0 ∧ Below w.heap.size w wr) (fun iv _ => 8191 + u - (intOf iv).toNat)
            case atStart => exact ⟨0, _, Nat.zero_le _, rfl, h3, fun j hj => by omega, h23, hB3⟩
            case round =>
              obtain ⟨i, f, hi, rfl, hf, hall, h2, hB⟩ := hrel
              clear h3 h23 hB3
              by_cases hlt : i < 8191 + u
              · have hlt' : (i : Int) < 8191 + (u : Int) := by omega
                have hi0 : (0 : Int) ≤ (i : Int) := by omega
                have HF : Hid (Byts (wr.setCell ⟨gt, i, none⟩ (.int .u8 32)) gt (8191 + u) (fun j => if j = i then 32 else f j)) := hf.set i hlt 32
                have HA : Hid (∀ j, j < i + 1 → (fun j => if j = i then 32 else f j) j = 32) := fun j hj => by
                  by_cases h : j = i
                  · simp only [h, if_true]
                  · simp only [h, if_false]; exact hall.out j (by omega)
                have H2 : Hid (Two (wr.setCell ⟨gt, i, none⟩ (.int .u8 32)) g2 0 0) := h2.far (by have := HGT.out; omega) i _
                have HBB : Hid (Below w.heap.size w (wr.setCell ⟨gt, i, none⟩ (.int .u8 32))) := hB.setCell (p := ⟨gt, i, none⟩) (by have := HGT.out; show w.heap.size ≤ gt; omega) _
                have c0 := hf.c i hlt
                have f0 := hf.fr i
                clear hf hall h2 hB
                go_wp2
                go_roundw
                case rel => exact ⟨i + 1, _, by omega, by go_num, HF.out, HA.out, H2.out, HBB.out⟩
                case measure => simp [intOf] <;> omega
              · obtain rfl : i = 8191 + u := by omega
                have hcv : (convert 40 9 (.slice (some ⟨gt, 0, none⟩) (8191 + u) (8191 + u))).run Try.prog wr = .ok (.string (bs (List.replicate (8191 + u) 32))) wr := by
                  have h := run_convert_bytes_back (P := Try.prog) wr 40 9 5 ⟨gt, 0, none⟩ (8191 + u) (List.replicate (8191 + u) 32) Try.underlying40 Try.underlying5 Try.underlying9 (fun j hj => by
                    have hj2 : j < 8191 + u := by simpa using hj
                    rw [add_plain, Nat.zero_add, hf.c j hj2, hall.out j hj2, List.getElem_replicate]; rfl)
                  rw [List.length_replicate] at h
                  exact h
                have hTL : (bs (List.replicate (8191 + u) 32)).toList = List.replicate (8191 + u) 32 := bs_list _
                have hTS : (bs (List.replicate (8191 + u) 32)).size = 8191 + u := by show (List.replicate _ _).length = _; rw [List.length_replicate]
                obtain ⟨TX, hTX⟩ : ∃ TX, bs (List.replicate (8191 + u) 32) = TX := ⟨_, rfl⟩
                rw [hTX] at hcv hTL hTS
                have hT := tokens_x TX wr (by rw [hTS]; unfold maxLen; omega)
                rw [hTS, hTL, lex_spaces] at hT
                have hlt2 : ¬ (8191 : Int) + u < 8191 + u := by omega
                have H2 := Lib.hid h2
                have HBB := Lib.hid hB
                clear hTX hTL hTS hf hall h2 hB
                by_cases hu1 : u ≤ 1
                · rw [if_pos (by omega)] at hT
                  have HT := Lib.hid hT
                  have hu8 : (8191 : Int) + u ≤ 8192 := by omega
                  have hu9 : decide ((8191 : Int) + u ≤ 8192) = true := by simpa using hu8
                  clear hT
                  go_wp2_with fail
                  refine HT.out.mono ?_
                  rintro e w5 (⟨T5, A5, n5, c5, hT5, rfl, hTn5, hown5, hb5⟩ | ⟨l5, co5, er5, hT5, _, _, _⟩)
                  · have hq := H2.out.below hb5 H2.out.size
                    obtain ⟨_, x0, x1, xf⟩ := hq
                    have y0 := xf 0
                    have y1 := xf 1
                    have HB5 : Hid (∀ a b, Below w.heap.size w ((w5.setCell ⟨g2, 0, none⟩ a).setCell ⟨g2, 1, none⟩ b)) := fun a b => ((nextB HBB.out hb5).setCell (p := ⟨g2, 0, none⟩) HGT.out.2 a).setCell (p := ⟨g2, 1, none⟩) HGT.out.2 b
                    clear xf hb5 hown5 hTn5 hT5 HT
                    go_wp2_with fail
                    refine (awake_x _).mono ?_
                    rintro e w6 ⟨rfl, hb6⟩
                    have HB6 := Lib.hid (nextB (HB5.out _ _) hb6)
                    clear hb6 HB5
                    go_wp2
                    go_ret
                    exact ⟨rfl, HB6.out⟩
                  · cases hT5
                · rw [if_neg (by omega)] at hT
                  have HT := Lib.hid hT
                  have hu8 : ¬ (8191 : Int) + u ≤ 8192 := by omega
                  have hu9 : decide ((8191 : Int) + u ≤ 8192) = false := by simpa using hu8
                  clear hT
                  go_wp2_with fail
                  refine HT.out.mono ?_
                  rintro e w5 (⟨T5, A5, n5, c5, hT5, _, _, _, _⟩ | ⟨l5, co5, er5, hT5, _, rfl, hb5⟩)
                  · cases hT5
                  · injection hT5 with h51 h52 h53
                    subst h51 h52 h53
                    have hq := H2.out.below hb5 H2.out.size
                    obtain ⟨_, x0, x1, xf⟩ := hq
                    have y0 := xf 0
                    have y1 := xf 1
                    have HB5 : Hid (∀ a b, Below w.heap.size w ((w5.setCell ⟨g2, 0, none⟩ a).setCell ⟨g2, 1, none⟩ b)) := fun a b => ((nextB HBB.out hb5).setCell (p := ⟨g2, 0, none⟩) HGT.out.2 a).setCell (p := ⟨g2, 1, none⟩) HGT.out.2 b
                    clear xf hb5 HT
                    go_wp2_with fail
                    refine (awake_x _).mono ?_
                    rintro e w6 ⟨rfl, hb6⟩
                    have HB6 := Lib.hid (nextB (HB5.out _ _) hb6)
                    clear hb6 HB5
                    go_wp2
                    go_ret
                    exact ⟨rfl, HB6.out⟩
          · cases hT
        · rw [if_neg hr2] at HTK
          go_wp2_with fail
          refine HTK.out.mono ?_
          rintro e w1 (⟨T, A, n, c, hT, _, _, _, _⟩ | ⟨l, co, er, hT, _, rfl, hb1⟩)
          · cases hT
          · injection hT with ha1 ha2 ha3
            subst ha1 ha2 ha3
            obtain ⟨w2, hw2⟩ : ∃ w2, w1.alloc (.cells #[.int .i64 1, .int .i64 2] 32) = w2 := ⟨_, rfl⟩
            obtain ⟨g2, hg2⟩ : ∃ g2, w1.heap.size = g2 := ⟨_, rfl⟩
            have hb2 : Below w1.heap.size w1 w2 := hw2 ▸ allocB _ _
            have h22 : Two w2 g2 1 2 := by rw [← hw2, ← hg2]; exact ⟨by simp, by simp, by simp, by simp⟩
            have HB2 := Lib.hid (nextB hb1 hb2)
            have HGW : Hid (w.heap.size ≤ w1.heap.size) := hb1.size
            have H22 := Lib.hid h22
            have hWn : (60 : Int) < (W.size : Int) := by have := HWZ.out; omega
            have hWm : ¬ (W.size : Int) ≤ 60 := by have := HWZ.out; omega
            clear hb1 hb2 h22 hW HTK
            subst hw2 hg2
            go_upto_region 16 with (fail)
            clear hWn hWm
            obtain ⟨w2, hw2⟩ : ∃ w2, w1.alloc (.cells #[.int .i64 1, .int .i64 2] 32) = w2 := ⟨_, rfl⟩
            obtain ⟨g2, hg2⟩ : ∃ g2, w1.heap.size = g2 := ⟨_, rfl⟩
            rw [hw2] at HB2
            rw [hw2, hg2] at H22
            rw [hg2] at HGW
            rw [hw2, hg2]
            clear hw2 hg2
            have hu := HU.out
            obtain ⟨i0, hi0, hz0, hz1, hz2⟩ := info_three info_u8
            have hmk : ∀ W : World, (Instr.makeSlice 40 (.int .i64 (8191 + (u : Int))) (.int .i64 (8191 + (u : Int)))).run Try.prog W = .ok (.slice (some ⟨W.heap.size, 0, none⟩) (8191 + u) (8191 + u)) (W.alloc (.cells (madeCells (Value.int .u8 0).cells (8191 + u)) 5)) := fun W => by
              have h := run_make (P := Try.prog) W 40 5 i0 (.int .u8 0) Try.underlying40 hi0 hz0 .i64 .i64 (8191 + (u : Int)) (8191 + (u : Int)) (by omega) (by omega) (by rw [hz2]; omega) (by omega)
              rw [hz1, Nat.mul_one, show (8191 + (u : Int)).toNat = 8191 + u by omega] at h
              exact h
            clear hi0 hz0 hz1 hz2
            go_upto_block 2 with (fail)
            obtain ⟨w3, hw3⟩ : ∃ w3, w2.alloc (.cells (madeCells #[.int .u8 0] (8191 + u)) 5) = w3 := ⟨_, rfl⟩
            obtain ⟨gt, hgt⟩ : ∃ gt, w2.heap.size = gt := ⟨_, rfl⟩
            have h3 : Byts w3 gt (8191 + u) (fun _ => 0) := by rw [← hw3, ← hgt]; exact byts_made w2 (8191 + u) _
            have hb3 : Below w2.heap.size w2 w3 := hw3 ▸ allocB _ _
            have h23 := H22.out.below hb3 H22.out.size
            have hB3 : Below w.heap.size w w3 := nextB HB2.out hb3
            have HGT : Hid (g2 < gt ∧ w.heap.size ≤ g2) := ⟨by rw [← hgt]; exact H22.out.size, HGW.out⟩
            rw [hw3, hgt]
            have HN : Hid ((8191 : Int) + u = ((8191 + u : Nat) : Int)) := by show _ = _; omega
            clear hw3 hgt hb3 hmk hu H22 HB2
            go_wp2_with fail
            go_loopw [13] (fun iv wr => ∃ (i : Nat) (f : Nat → Int), i ≤ 8191 + u ∧ iv = .int .i64 i ∧ Byts wr gt (8191 + u) f ∧ Hid (∀ j, j < i → f j = 32) ∧ Two wr g2 1 2 ∧ Below w.heap.size w wr) (fun iv _ => 8191 + u - (intOf iv).toNat)
            case atStart => exact ⟨0, _, Nat.zero_le _, rfl, h3, fun j hj => by omega, h23, hB3⟩
            case round =>
              obtain ⟨i, f, hi, rfl, hf, hall, h2, hB⟩ := hrel
              clear h3 h23 hB3
              by_cases hlt : i < 8191 + u
              · have hlt' : (i : Int) < 8191 + (u : Int) := by omega
                have hi0 : (0 : Int) ≤ (i : Int) := by omega
                have HF : Hid (Byts (wr.setCell ⟨gt, i, none⟩ (.int .u8 32)) gt (8191 + u) (fun j => if j = i then 32 else f j)) := hf.set i hlt 32
                have HA : Hid (∀ j, j < i + 1 → (fun j => if j = i then 32 else f j) j = 32) := fun j hj => by
                  by_cases h : j = i
                  · simp only [h, if_true]
                  · simp only [h, if_false]; exact hall.out j (by omega)
                have H2 : Hid (Two (wr.setCell ⟨gt, i, none⟩ (.int .u8 32)) g2 1 2) := h2.far (by have := HGT.out; omega) i _
                have HBB : Hid (Below w.heap.size w (wr.setCell ⟨gt, i, none⟩ (.int .u8 32))) := hB.setCell (p := ⟨gt, i, none⟩) (by have := HGT.out; show w.heap.size ≤ gt; omega) _
                have c0 := hf.c i hlt
                have f0 := hf.fr i
                clear hf hall h2 hB
                go_wp2
                go_roundw
                case rel => exact ⟨i + 1, _, by omega, by go_num, HF.out, HA.out, H2.out, HBB.out⟩
                case measure => simp [intOf] <;> omega
              · obtain rfl : i = 8191 + u := by omega
                have hcv : (convert 40 9 (.slice (some ⟨gt, 0, none⟩) (8191 + u) (8191 + u))).run Try.prog wr = .ok (.string (bs (List.replicate (8191 + u) 32))) wr := by
                  have h := run_convert_bytes_back (P := Try.prog) wr 40 9 5 ⟨gt, 0, none⟩ (8191 + u) (List.replicate (8191 + u) 32) Try.underlying40 Try.underlying5 Try.underlying9 (fun j hj => by
                    have hj2 : j < 8191 + u := by simpa using hj
                    rw [add_plain, Nat.zero_add, hf.c j hj2, hall.out j hj2, List.getElem_replicate]; rfl)
                  rw [List.length_replicate] at h
                  exact h
                have hTL : (bs (List.replicate (8191 + u) 32)).toList = List.replicate (8191 + u) 32 := bs_list _
                have hTS : (bs (List.replicate (8191 + u) 32)).size = 8191 + u := by show (List.replicate _ _).length = _; rw [List.length_replicate]
                obtain ⟨TX, hTX⟩ : ∃ TX, bs (List.replicate (8191 + u) 32) = TX := ⟨_, rfl⟩
                rw [hTX] at hcv hTL hTS
                have hT := tokens_x TX wr (by rw [hTS]; unfold maxLen; omega)
                rw [hTS, hTL, lex_spaces] at hT
                have hlt2 : ¬ (8191 : Int) + u < 8191 + u := by omega
                have H2 := Lib.hid h2
                have HBB := Lib.hid hB
                clear hTX hTL hTS hf hall h2 hB
                by_cases hu1 : u ≤ 1
                · rw [if_pos (by omega)] at hT
                  have HT := Lib.hid hT
                  have hu8 : (8191 : Int) + u ≤ 8192 := by omega
                  have hu9 : decide ((8191 : Int) + u ≤ 8192) = true := by simpa using hu8
                  clear hT
                  go_wp2_with fail
                  refine HT.out.mono ?_
                  rintro e w5 (⟨T5, A5, n5, c5, hT5, rfl, hTn5, hown5, hb5⟩ | ⟨l5, co5, er5, hT5, _, _, _⟩)
                  · have hq := H2.out.below hb5 H2.out.size
                    obtain ⟨_, x0, x1, xf⟩ := hq
                    have y0 := xf 0
                    have y1 := xf 1
                    have HB5 : Hid (∀ a b, Below w.heap.size w ((w5.setCell ⟨g2, 0, none⟩ a).setCell ⟨g2, 1, none⟩ b)) := fun a b => ((nextB HBB.out hb5).setCell (p := ⟨g2, 0, none⟩) HGT.out.2 a).setCell (p := ⟨g2, 1, none⟩) HGT.out.2 b
                    clear xf hb5 hown5 hTn5 hT5 HT
                    go_wp2_with fail
                    refine (awake_x _).mono ?_
                    rintro e w6 ⟨rfl, hb6⟩
                    have HB6 := Lib.hid (nextB (HB5.out _ _) hb6)
                    clear hb6 HB5
                    go_wp2
                    go_ret
                    exact ⟨rfl, HB6.out⟩
                  · cases hT5
                · rw [if_neg (by omega)] at hT
                  have HT := Lib.hid hT
                  have hu8 : ¬ (8191 : Int) + u ≤ 8192 := by omega
                  have hu9 : decide ((8191 : Int) + u ≤ 8192) = false := by simpa using hu8
                  clear hT
                  go_wp2_with fail
                  refine HT.out.mono ?_
                  rintro e w5 (⟨T5, A5, n5, c5, hT5, _, _, _, _⟩ | ⟨l5, co5, er5, hT5, _, rfl, hb5⟩)
                  · cases hT5
                  · injection hT5 with h51 h52 h53
                    subst h51 h52 h53
                    have hq := H2.out.below hb5 H2.out.size
                    obtain ⟨_, x0, x1, xf⟩ := hq
                    have y0 := xf 0
                    have y1 := xf 1
                    have HB5 : Hid (∀ a b, Below w.heap.size w ((w5.setCell ⟨g2, 0, none⟩ a).setCell ⟨g2, 1, none⟩ b)) := fun a b => ((nextB HBB.out hb5).setCell (p := ⟨g2, 0, none⟩) HGT.out.2 a).setCell (p := ⟨g2, 1, none⟩) HGT.out.2 b
                    clear xf hb5 HT
                    go_wp2_with fail
                    refine (awake_x _).mono ?_
                    rintro e w6 ⟨rfl, hb6⟩
                    have HB6 := Lib.hid (nextB (HB5.out _ _) hb6)
                    clear hb6 HB5
                    go_wp2
                    go_ret
                    exact ⟨rfl, HB6.out⟩
end Go.Proofs.Ytenobkhiekhohaa
