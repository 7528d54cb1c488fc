/-
  The reference of layer 8: the token with which a text begins.
-/
import Derived.Test.YtenobkhiekhohaaLexU
namespace Go.Proofs.Ytenobkhiekhohaa
open Go Go.RowKit Lx
set_option maxRecDepth 50000

/-- A token lies in block g. -/
structure Four (w : World) (g : Nat) (k : Int) (t : ByteArray) (l c : Int) : Prop where
  size : g < w.heap.size
  c0 : w.cell? ⟨g, 0, none⟩ = some (.int .i64 k)
  c1 : w.cell? ⟨g, 1, none⟩ = some (.string t)
  c2 : w.cell? ⟨g, 2, none⟩ = some (.int .i64 l)
  c3 : w.cell? ⟨g, 3, none⟩ = some (.int .i64 c)
  fr : ∀ i, w.frozen? ⟨g, i, none⟩ = false
theorem Four.keep {w w' : World} {g : Nat} {k l c : Int} {t : ByteArray} (h : Four w g k t l c) (hz : w.heap.size ≤ w'.heap.size) (hb : w'.heap[g]? = w.heap[g]?) : Four w' g k t l c :=
  ⟨Nat.lt_of_lt_of_le h.size hz, (World.cell?_of_block (a := ⟨g, 0, none⟩) hb).trans h.c0, (World.cell?_of_block (a := ⟨g, 1, none⟩) hb).trans h.c1, (World.cell?_of_block (a := ⟨g, 2, none⟩) hb).trans h.c2, (World.cell?_of_block (a := ⟨g, 3, none⟩) hb).trans h.c3, fun i => (World.frozen?_of_block (a := ⟨g, i, none⟩) hb).trans (h.fr i)⟩
theorem Four.below {w w' : World} {g : Nat} {k l c : Int} {t : ByteArray} (h : Four w g k t l c) {B : Nat} (hB : Below B w w') (hg : g < B) : Four w' g k t l c := h.keep hB.size (hB.block g hg)
theorem Four.new (w : World) (k l c : Int) (t : ByteArray) (T : TypeId) : Four (w.alloc (.cells #[.int .i64 k, .string t, .int .i64 l, .int .i64 c] T)) w.heap.size k t l c := ⟨by simp, by simp, by simp, by simp, by simp, by simp⟩

theorem below_set4 {B : Nat} {w w' : World} (h : Below B w w') {g : Nat} (hg : B ≤ g) (a b c d : Value) : Below B w ((((w'.setCell ⟨g, 0, none⟩ a).setCell ⟨g, 1, none⟩ b).setCell ⟨g, 2, none⟩ c).setCell ⟨g, 3, none⟩ d) :=
  (((h.setCell (p := ⟨g, 0, none⟩) hg a).setCell (p := ⟨g, 1, none⟩) hg b).setCell (p := ⟨g, 2, none⟩) hg c).setCell (p := ⟨g, 3, none⟩) hg d
/-- What next returns. -/
def GivesTok (r : TokR) (s : ByteArray) (w : World) (e : Ending) (w' : World) : Prop :=
  (match r with
    | .no er => e = .returned (.tuple #[tkV 0 ⟨#[]⟩ 0 0, .int .i64 er])
    | .yes k n => e = .returned (.tuple #[tkV k (s.extract 0 n) 0 0, .int .i64 0])) ∧ Below w.heap.size w w'

set_option maxHeartbeats 4000000 in
theorem next_x (s : ByteArray) (w : World) (h0 : 0 < s.size) (hs : s.size ≤ 8192) : Calls Try.prog 27 #[.string s] w (GivesTok (tokAt s.data.toList) s w) := by
  obtain ⟨R, hR⟩ : ∃ R, tokAt s.data.toList = R := ⟨_, rfl⟩
  rw [hR]
  unfold tokAt at hR
  have hlen : s.data.toList.length = s.size := by simp
  obtain ⟨N, hN⟩ : ∃ N, gRun qN 0 s.data.toList = N := ⟨_, rfl⟩
  have hNs : N ≤ s.size := by rw [← hN, ← hlen]; exact gRun_le ..
  have HNI : Hid (∀ i (h : i < s.size), i < N → qN i s[i] = true) := fun i h hi => by
    have := gRun_at qN s.data.toList 0 i (by rw [hlen]; exact h) (by rw [hN]; exact hi)
    rw [Nat.zero_add] at this; exact this
  have HNO : Hid ((h : N < s.size) → qN N s[N] = false) := fun h => by
    have := gRun_stop qN s.data.toList 0 (by rw [hN, hlen]; exact h)
    simp only [hN, Nat.zero_add] at this; exact this
  obtain ⟨D, hD⟩ : ∃ D, gRun qD 0 s.data.toList = D := ⟨_, rfl⟩
  have hDs : D ≤ s.size := by rw [← hD, ← hlen]; exact gRun_le ..
  have HDI : Hid (∀ i (h : i < s.size), i < D → qD i s[i] = true) := fun i h hi => by
    have := gRun_at qD s.data.toList 0 i (by rw [hlen]; exact h) (by rw [hD]; exact hi)
    rw [Nat.zero_add] at this; exact this
  have HDO : Hid ((h : D < s.size) → qD D s[D] = false) := fun h => by
    have := gRun_stop qD s.data.toList 0 (by rw [hD, hlen]; exact h)
    simp only [hD, Nat.zero_add] at this; exact this
  rw [hN, hD] at hR
  obtain ⟨w1, hw1⟩ : ∃ w1, w.alloc (.cells #[.int .i64 0, .string ⟨#[]⟩, .int .i64 0, .int .i64 0] 37) = w1 := ⟨_, rfl⟩
  obtain ⟨g, hg⟩ : ∃ g, w.heap.size = g := ⟨_, rfl⟩
  have h1 : Four w1 g 0 ⟨#[]⟩ 0 0 := by rw [← hw1, ← hg]; exact Four.new ..
  have hB1 : Below w.heap.size w w1 := hw1 ▸ allocB _ _
  have HL : Hid (∀ (x : Int) (w : World), Calls Try.prog 34 #[.int .u8 x] w fun e w' => e = .returned (.bool (isL x)) ∧ w = w') := letter_x
  have HDG : Hid (∀ (x : Int) (w : World), Calls Try.prog 35 #[.int .u8 x] w fun e w' => e = .returned (.bool (isD x)) ∧ w = w') := digit_x
  have HR := Lib.hid hR
  have HW1 := Lib.hid hw1
  have HG := Lib.hid hg
  clear hR hw1 hg hN hD hlen
  go_enter Try.func27, Try.ntmps27
  go_upto_block 0 with fail
  rw [HW1.out, HG.out]
  go_cut [4] (fun v wx => v = .int .i64 N ∧ wx = w1)
  case first =>
    go_wp2_with fail
    go_loop [4] (fun v => ∃ n : Nat, n ≤ N ∧ v = .int .i64 n) (fun v => N - (intOf v).toNat)
    case atStart => exact ⟨0, Nat.zero_le _, rfl⟩
    case round =>
      obtain ⟨n, hn, rfl⟩ := hrel
      by_cases hlt : n < s.size
      · by_cases hnN : n < N
        · have hq := HNI.out n hlt hnN
          unfold qN at hq
          have hdl : decide ((n : Int) < (s.size : Int)) = true := by simpa using hlt
          have HLx : Hid (∀ w : World, Calls Try.prog 34 #[.int .u8 (s[n].toNat : Int)] w fun e w' => e = .returned (.bool (isL s[n].toNat)) ∧ w = w') := fun w => HL.out _ w
          have HDx : Hid (∀ w : World, Calls Try.prog 35 #[.int .u8 (s[n].toNat : Int)] w fun e w' => e = .returned (.bool (isD s[n].toNat)) ∧ w = w') := fun w => HDG.out _ w
          cases hy : isL s[n].toNat with
          | true =>
            rw [hy] at HLx
            clear hy hq
            go_wp2_with fail
            refine (HLx.out _).mono ?_
            rintro e w' ⟨rfl, rfl⟩
            go_wp2
            go_round
            case rel => exact ⟨n + 1, by omega, by go_num⟩
            case measure => simp [intOf] <;> omega
          | false =>
            rw [hy] at HLx hq
            have hz : 0 < n ∧ isD s[n].toNat = true := by simpa using hq
            rw [hz.2] at HDx
            have h0n : (0 : Int) < (n : Int) := by omega
            have h0d : decide ((0 : Int) < (n : Int)) = true := by simpa using h0n
            clear hy hq hz
            go_wp2_with fail
            refine (HLx.out _).mono ?_
            rintro e w' ⟨rfl, rfl⟩
            go_wp2_with fail
            refine (HDx.out _).mono ?_
            rintro e w' ⟨rfl, rfl⟩
            go_wp2
            go_round
            case rel => exact ⟨n + 1, by omega, by go_num⟩
            case measure => simp [intOf] <;> omega
        · obtain rfl : n = N := by omega
          have hq := HNO.out hlt
          unfold qN at hq
          have hdl : decide ((n : Int) < (s.size : Int)) = true := by simpa using hlt
          have HLx : Hid (∀ w : World, Calls Try.prog 34 #[.int .u8 (s[n].toNat : Int)] w fun e w' => e = .returned (.bool (isL s[n].toNat)) ∧ w = w') := fun w => HL.out _ w
          have HDx : Hid (∀ w : World, Calls Try.prog 35 #[.int .u8 (s[n].toNat : Int)] w fun e w' => e = .returned (.bool (isD s[n].toNat)) ∧ w = w') := fun w => HDG.out _ w
          have hy : isL s[n].toNat = false := by
            cases h : isL s[n].toNat with
            | false => rfl
            | true => rw [h] at hq; simp at hq
          rw [hy] at HLx hq
          rcases Nat.eq_zero_or_pos n with hn0 | hn0
          · have h0d : decide ((0 : Int) < (n : Int)) = false := by simp; omega
            have h0n : ¬ (0 : Int) < (n : Int) := by omega
            have HN0 := Lib.hid hn0
            clear hy hq hn0
            go_wp2_with fail
            refine (HLx.out _).mono ?_
            rintro e w' ⟨rfl, rfl⟩
            go_wp2
            go_meet
            exact ⟨rfl, rfl⟩
          · have hz : isD s[n].toNat = false := by
              cases h : isD s[n].toNat with
              | false => rfl
              | true => rw [h] at hq; simp at hq; omega
            rw [hz] at HDx
            have h0n : (0 : Int) < (n : Int) := by omega
            have h0d : decide ((0 : Int) < (n : Int)) = true := by simpa using h0n
            clear hy hq hz
            go_wp2_with fail
            refine (HLx.out _).mono ?_
            rintro e w' ⟨rfl, rfl⟩
            go_wp2_with fail
            refine (HDx.out _).mono ?_
            rintro e w' ⟨rfl, rfl⟩
            go_wp2
            go_meet
            exact ⟨rfl, rfl⟩
      · obtain rfl : n = N := by omega
        have hdl : decide ((n : Int) < (s.size : Int)) = false := by simpa using hlt
        go_wp2
        go_meet
        exact ⟨rfl, rfl⟩
  case rest =>
    obtain ⟨rfl, rfl⟩ := hcut
    have hG := HG.out
    by_cases hN0 : 0 < N
    · have hN0' : (0 : Int) < (N : Int) := by omega
      have hNi : (N : Int) ≤ (s.size : Int) := by omega
      have hTX : (s.extract 0 N).toList = s.data.toList.take N := by rw [extract_list]; simp
      obtain ⟨r, hr⟩ : ∃ r, kwB (s.data.toList.take N) = r := ⟨_, rfl⟩
      have HRR := HR.out
      rw [hr, if_pos hN0] at HRR
      obtain ⟨w5, hw5⟩ : ∃ w5, wc.alloc (.cells #[.int .i64 1, .string (s.extract 0 N), .int .i64 0, .int .i64 0] 37) = w5 := ⟨_, rfl⟩
      obtain ⟨gb, hgb⟩ : ∃ gb, wc.heap.size = gb := ⟨_, rfl⟩
      have h5 : Four w5 gb 1 (s.extract 0 N) 0 0 := by rw [← hw5, ← hgb]; exact Four.new ..
      have hb5 : Below wc.heap.size wc w5 := hw5 ▸ allocB _ _
      have h15 := h1.below hb5 h1.size
      have hgg : g < gb := by rw [← hgb]; exact h1.size
      have HK := Lib.hid (keyword_x (s.extract 0 N) w5)
      rw [hTX, hr] at HK
      have HB5 : Hid (Below w.heap.size w w5) := nextB hB1 hb5
      have HW5 := Lib.hid hw5
      have HGB := Lib.hid hgb
      have HGG := Lib.hid hgg
      have HRR2 := Lib.hid HRR
      clear hTX hr hw5 hgb hb5 hgg HRR h1 hB1
      cases r with
      | true =>
        have HF : Hid (R = .yes 3 N) := by have := HRR2.out; rw [if_pos rfl] at this; exact this.symm
        clear HRR2
        go_wp2_with fail
        rw [HW5.out]
        refine HK.out.mono ?_
        rintro e w6 ⟨rfl, hb6⟩
        have h6 := h15.below hb6 h15.size
        have h7 := h5.below hb6 h5.size
        have HB6 : Hid (Below w.heap.size w w6) := nextB HB5.out hb6
        have hG5 := HGB.out
        rw [hG5]
        have hne := HGG.out
        obtain ⟨_, r0, r1, r2, r3, fr⟩ := h6
        have z0 := fr 0
        have z1 := fr 1
        have z2 := fr 2
        have z3 := fr 3
        obtain ⟨_, b0, b1, b2, b3, frb⟩ := h7
        have y0 := frb 0
        clear fr frb hb6 h5 h15 hG5 hG
        go_wp2
        exact bodyPost_ret (v := .tuple #[.agg #[.int .i64 3, .string (s.extract 0 N), .int .i64 0, .int .i64 0], .int .i64 0]) (by simp [results, Try.results27, go_sem, r0, r1, r2, r3]) rfl ⟨by rw [HF.out]; rfl, below_set4 (HB6.out.setCell (p := ⟨gb, 0, none⟩) (by rw [HG.out]; have := HGG.out; show g ≤ gb; omega) _) (by rw [HG.out]; exact Nat.le_refl _) _ _ _ _⟩
      | false =>
        by_cases h12 : 12 < N
        · have HF : Hid (R = .no 9) := by have := HRR2.out; rw [if_neg (by decide), if_pos h12] at this; exact this.symm
          have h12' : (12 : Int) < (N : Int) := by omega
          clear HRR2
          go_wp2_with fail
          rw [HW5.out]
          refine HK.out.mono ?_
          rintro e w6 ⟨rfl, hb6⟩
          have h6 := h15.below hb6 h15.size
          have h7 := h5.below hb6 h5.size
          have HB6 : Hid (Below w.heap.size w w6) := nextB HB5.out hb6
          have hG5 := HGB.out
          rw [hG5]
          have hne := HGG.out
          obtain ⟨_, r0, r1, r2, r3, fr⟩ := h6
          have z0 := fr 0
          have z1 := fr 1
          have z2 := fr 2
          have z3 := fr 3
          obtain ⟨_, b0, b1, b2, b3, frb⟩ := h7
          have y0 := frb 0
          clear fr frb hb6 h5 h15 hG5 hG
          go_wp2
          exact bodyPost_ret (v := .tuple #[.agg #[.int .i64 0, .string ⟨#[]⟩, .int .i64 0, .int .i64 0], .int .i64 9]) (by simp [results, Try.results27, go_sem, r0, r1, r2, r3]) rfl ⟨by rw [HF.out]; rfl, below_set4 HB6.out (by rw [HG.out]; exact Nat.le_refl _) _ _ _ _⟩
        · have HF : Hid (R = .yes 1 N) := by have := HRR2.out; rw [if_neg (by decide), if_neg h12] at this; exact this.symm
          have h12' : ¬ (12 : Int) < (N : Int) := by omega
          clear HRR2
          go_wp2_with fail
          rw [HW5.out]
          refine HK.out.mono ?_
          rintro e w6 ⟨rfl, hb6⟩
          have h6 := h15.below hb6 h15.size
          have h7 := h5.below hb6 h5.size
          have HB6 : Hid (Below w.heap.size w w6) := nextB HB5.out hb6
          have hG5 := HGB.out
          rw [hG5]
          have hne := HGG.out
          obtain ⟨_, r0, r1, r2, r3, fr⟩ := h6
          have z0 := fr 0
          have z1 := fr 1
          have z2 := fr 2
          have z3 := fr 3
          obtain ⟨_, b0, b1, b2, b3, frb⟩ := h7
          have y0 := frb 0
          clear fr frb hb6 h5 h15 hG5 hG
          go_wp2
          exact bodyPost_ret (v := .tuple #[.agg #[.int .i64 1, .string (s.extract 0 N), .int .i64 0, .int .i64 0], .int .i64 0]) (by simp [results, Try.results27, go_sem, r0, r1, r2, r3]) rfl ⟨by rw [HF.out]; rfl, below_set4 HB6.out (by rw [HG.out]; exact Nat.le_refl _) _ _ _ _⟩
    · obtain rfl : N = 0 := by omega
      have HRR := HR.out
      rw [if_neg (by omega)] at HRR
      have HRR2 := Lib.hid HRR
      clear HRR HNI HNO HL
      go_upto_block 2 with fail
      go_cut [4] (fun v wx => v = .int .i64 D ∧ wx = wc)
      case first =>
        go_wp2_with fail
        go_loop [4] (fun v => ∃ n : Nat, n ≤ D ∧ v = .int .i64 n) (fun v => D - (intOf v).toNat)
        case atStart => exact ⟨0, Nat.zero_le _, rfl⟩
        case round =>
          obtain ⟨n, hn, rfl⟩ := hrel
          by_cases hlt : n < s.size
          · have hdl : decide ((n : Int) < (s.size : Int)) = true := by simpa using hlt
            have HDx : Hid (∀ w : World, Calls Try.prog 35 #[.int .u8 (s[n].toNat : Int)] w fun e w' => e = .returned (.bool (isD s[n].toNat)) ∧ w = w') := fun w => HDG.out _ w
            by_cases hnN : n < D
            · have hq := HDI.out n hlt hnN
              unfold qD at hq
              rw [hq] at HDx
              clear hq
              go_wp2_with fail
              refine (HDx.out _).mono ?_
              rintro e w' ⟨rfl, rfl⟩
              go_wp2
              refine ⟨⟨trivial, ?_⟩, ?_⟩
              · (repeat apply Exists.intro)
                refine ⟨?_, rfl⟩
                exact ⟨n + 1, by omega, by go_num⟩
              · simp [intOf] <;> omega
            · obtain rfl : n = D := by omega
              have hq := HDO.out hlt
              unfold qD at hq
              rw [hq] at HDx
              clear hq
              go_wp2_with fail
              refine (HDx.out _).mono ?_
              rintro e w' ⟨rfl, rfl⟩
              go_wp2
              go_meet
              exact ⟨rfl, rfl⟩
          · obtain rfl : n = D := by omega
            have hdl : decide ((n : Int) < (s.size : Int)) = false := by simpa using hlt
            go_wp2
            go_meet
            exact ⟨rfl, rfl⟩
      case rest =>
        obtain ⟨rfl, rfl⟩ := hcut
        have hG := HG.out
        have hDi : (D : Int) ≤ (s.size : Int) := by omega
        have HB1 := Lib.hid hB1
        by_cases hD60 : 60 < D
        · have hD60' : (60 : Int) < (D : Int) := by omega
          have hD0' : (0 : Int) < (D : Int) := by omega
          have HF : Hid (R = .no 9) := by have := HRR2.out; rw [if_pos (by omega), if_pos hD60] at this; exact this.symm
          obtain ⟨_, r0, r1, r2, r3, fr⟩ := h1
          have z0 := fr 0
          have z1 := fr 1
          have z2 := fr 2
          have z3 := fr 3
          clear fr HRR2 hG
          go_wp2
          exact bodyPost_ret (v := .tuple #[.agg #[.int .i64 0, .string ⟨#[]⟩, .int .i64 0, .int .i64 0], .int .i64 9]) (by simp [results, Try.results27, go_sem, r0, r1, r2, r3]) rfl ⟨by rw [HF.out]; rfl, below_set4 HB1.out (by rw [HG.out]; exact Nat.le_refl _) _ _ _ _⟩
        · have hD60' : ¬ (60 : Int) < (D : Int) := by omega
          by_cases hD0 : 0 < D
          · have hD0' : (0 : Int) < (D : Int) := by omega
            have HF : Hid (R = .yes 2 D) := by have := HRR2.out; rw [if_pos hD0, if_neg hD60] at this; exact this.symm
            obtain ⟨_, r0, r1, r2, r3, fr⟩ := h1
            have z0 := fr 0
            have z1 := fr 1
            have z2 := fr 2
            have z3 := fr 3
            clear fr HRR2 hG
            go_wp2
            exact bodyPost_ret (v := .tuple #[.agg #[.int .i64 2, .string (s.extract 0 D), .int .i64 0, .int .i64 0], .int .i64 0]) (by simp [results, Try.results27, go_sem, r0, r1, r2, r3]) rfl ⟨by rw [HF.out]; rfl, below_set4 HB1.out (by rw [HG.out]; exact Nat.le_refl _) _ _ _ _⟩
          · have hD0' : ¬ (0 : Int) < (D : Int) := by omega
            have HRR := HRR2.out
            rw [if_neg hD0] at HRR
            obtain ⟨S, hS⟩ : ∃ S, sgn s.data.toList = S := ⟨_, rfl⟩
            have hSs : S ≤ s.size := by rw [← hS]; have := sgn_le s.data.toList; simpa using this
            rw [hS] at HRR
            have HS := Lib.hid (sign_x s wc h0 hs)
            rw [Lib.toList_data, hS] at HS
            have HR3 := Lib.hid HRR
            have H1 := Lib.hid h1
            clear hS HRR HRR2 h1
            go_wp2_with fail
            refine HS.out.mono ?_
            rintro e w6 ⟨rfl, hb6⟩
            have h6 := H1.out.below hb6 H1.out.size
            have HB6 := Lib.hid (nextB HB1.out hb6)
            obtain ⟨_, r0, r1, r2, r3, fr⟩ := h6
            have z0 := fr 0
            have z1 := fr 1
            have z2 := fr 2
            have z3 := fr 3
            clear fr hb6 HS hG
            by_cases hS0 : 0 < S
            · have HF : Hid (R = .yes 4 S) := by have := HR3.out; rw [if_pos hS0] at this; exact this.symm
              have hs1 : ((S : Int) == 0) = false := by simp; omega
              have hs2 : (S : Int) ≤ (s.size : Int) := by omega
              clear HR3
              go_wp2
              exact bodyPost_ret (v := .tuple #[.agg #[.int .i64 4, .string (s.extract 0 S), .int .i64 0, .int .i64 0], .int .i64 0]) (by simp [results, Try.results27, go_sem, r0, r1, r2, r3]) rfl ⟨by rw [HF.out]; rfl, below_set4 HB6.out (by rw [HG.out]; exact Nat.le_refl _) _ _ _ _⟩
            · have HF : Hid (R = .no 4) := by have := HR3.out; rw [if_neg hS0] at this; exact this.symm
              have hs1 : ((S : Int) == 0) = true := by simp; omega
              clear HR3
              go_wp2
              exact bodyPost_ret (v := .tuple #[.agg #[.int .i64 0, .string ⟨#[]⟩, .int .i64 0, .int .i64 0], .int .i64 4]) (by simp [results, Try.results27, go_sem, r0, r1, r2, r3]) rfl ⟨by rw [HF.out]; rfl, below_set4 HB6.out (by rw [HG.out]; exact Nat.le_refl _) _ _ _ _⟩
end Go.Proofs.Ytenobkhiekhohaa
