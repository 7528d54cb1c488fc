/-
  natural.reduce: the loop.
-/
import Derived.Test.YtdimajnadmkhiaaDoorGcd5
namespace Go.Proofs.YtdimajnadmkhiaaDoor
open Go.RowKit

theorem len_of_le {L M : List Int} (hL : Lims L) (hM : Lims M) (tL : trim L = L) (tM : trim M = M) (h : val M ≤ val L) : M.length ≤ L.length := by
  rcases Nat.lt_or_ge L.length M.length with h1 | h1
  · have := Is.lt_of_length (L := L) (M := M) ⟨hL, tL, rfl⟩ ⟨hM, tM, rfl⟩ h1
    omega
  · exact h1

def ReducePost (base : Nat) (x y : Int) (w : World) (e : Ending) (w' : World) : Prop :=
  ∃ A n c L B m d M, e = .returned (.tuple #[.slice A n c, .slice B m d]) ∧ Mine w' base A n c L ∧ trim L = L ∧ Mine w' base B m d M ∧ trim M = M ∧ m ≤ 2 ∧ n ≤ 900000 ∧ val M ≤ val L ∧
    Int.gcd (val L) (val M) = Int.gcd x y ∧ Below base w w'

def RedInv (base : Nat) (x y : Int) (w wr : World) (A B : Option Addr) (n c m d : Nat) (L M : List Int) : Prop :=
  Mine wr base A n c L ∧ trim L = L ∧ Mine wr base B m d M ∧ trim M = M ∧ n ≤ 900000 ∧ val M ≤ val L ∧ (∀ a b, A = some a → B = some b → a.block ≠ b.block) ∧
    Int.gcd (val L) (val M) = Int.gcd x y ∧ Below base w wr

set_option maxHeartbeats 2000000 in
theorem reduce_any (base n c m d : Nat) (A B : Option Addr) (L M : List Int) (w : World) (hr : Mine w base A n c L) (hL : trim L = L) (hs : Mine w base B m d M) (hM : trim M = M) (hn : n ≤ 900000) (hle : val M ≤ val L)
    (hne : ∀ a b, A = some a → B = some b → a.block ≠ b.block) (hl : Laid w) (hb : base ≤ w.heap.size) (hg : 0 < base) :
    Calls Tryd.prog 43 #[.slice A n c, .slice B m d] w (ReducePost base (val L) (val M) w) := by
  have HI : RedInv base (val L) (val M) w w A B n c m d L M := ⟨hr, hL, hs, hM, hn, hle, hne, rfl, Below.refl _ _⟩
  have hm1 := hs.rd
  go_enter Tryd.func43, Tryd.ntmps43
  go_wp2
  go_loopw [0, 1] (fun av bv wr => ∃ (A B : Option Addr) (n c m d : Nat) (L' M' : List Int), av = .slice A n c ∧ bv = .slice B m d ∧ Hid (RedInv base (val L) (val M) w wr A B n c m d L' M')) (fun _ bv wr => valOf wr bv)
  case atStart => exact ⟨A, B, n, c, m, d, L, M, rfl, rfl, HI⟩
  case round =>
    obtain ⟨A, B, n, c, m, d, L', M', rfl, rfl, hI⟩ := hrel
    clear HI hm1 hr hL hs hM hn hle hne
    obtain ⟨hA, tL, hB, tM, hn, hle, hne, hG, hW⟩ := hI.out
    have hsz := hW.size
    have hwb : base ≤ wr.heap.size := by omega
    have cB := hB.rd.cap
    have topB := hB.rd.top
    unfold maxLen at topB
    by_cases h2 : m ≤ 2
    · have HG := Lib.hid hG
      have HA := Lib.hid hA
      have HB := Lib.hid hB
      have HT := Lib.hid tL
      have HT2 := Lib.hid tM
      clear hA hB tL tM hG
      go_wp2
      go_ret2
      exact ⟨A, n, c, L', B, m, d, M', rfl, HA.out, HT.out, HB.out, HT2.out, h2, hn, hle, HG.out, hW⟩
    · have lL := hA.len
      have lM := hB.len
      have hmn := len_of_le hA.lims hB.lims tL tM hle
      have hl0 := hl.under hW hg
      have HLL := Lib.hid lL
      have HLM := Lib.hid lM
      have h3n : 3 ≤ n := by omega
      have hmn' : m ≤ n := by omega
      have hv0 := val_nonneg hB.lims
      have LB := Lib.hid (leadingBits_any A B n c m d L' M' wr hA.rd hB.rd h3n (by omega) hmn' tL hle)
      have hpos : Hid (val M' ≠ 0) := by
        show _ ≠ _
        intro h0
        have h1 := trim_of_zero hB.lims h0
        rw [tM] at h1
        rw [h1] at lM
        simp at lM
        omega
      have HA := Lib.hid hA
      have HB := Lib.hid hB
      have HTL := Lib.hid tL
      have HTM := Lib.hid tM
      have HG := Lib.hid hG
      clear hA hB tL tM hG lL lM hmn
      go_wp2_with fail
      refine LB.out.mono ?_
      rintro e w1 ⟨s, rfl, s31, hlt, hB1⟩
      have hK := lastBit_pos n s
      have q0 : 0 ≤ val M' / lastBit n s := Int.ediv_nonneg hv0 (Int.le_of_lt hK)
      have q1 : val M' / lastBit n s ≤ val L' / lastBit n s := Int.ediv_le_ediv hK hle
      have hl1 := hl0.below hB1
      have FSt := Lib.hid (findStep_any (val L' / lastBit n s) (val M' / lastBit n s) w1 hl1 q0 q1 hlt)
      go_wp2_with fail
      refine FSt.out.mono ?_
      rintro e w2 ⟨u0, v0, u1, v1, σ, p0, m0, p1, m1, rfl, hLem, e0, e1, e2, e3, hB2⟩
      have HE := Lib.hid (And.intro e0 (And.intro e1 (And.intro e2 e3)))
      clear e0 e1 e2 e3
      have hl2 := hl1.below hB2
      have h4 := S4.new w2 u0 v0 u1 v1 75
      have hl3 := hl2.under (Below.alloc (Below.refl w2.heap.size w2) (Nat.le_refl _) (.cells #[.int .i64 u0, .int .i64 v0, .int .i64 u1, .int .i64 v1] 75)) hl2.size
      have hB3 : Below wr.heap.size wr (w2.alloc (.cells #[.int .i64 u0, .int .i64 v0, .int .i64 u1, .int .i64 v1] 75)) := (nextB hB1 hB2).alloc (by have := hB1.size; have := hB2.size; omega) _
      obtain ⟨l0, l1, l2, l3, l4⟩ := hl2
      obtain ⟨k0, k1, k2, k3, k4⟩ := hl3
      obtain ⟨x0, x1, x2, x3, x4, x5⟩ := h4
      by_cases hno : u0 = 1 ∧ v0 = 0 ∧ u1 = 0 ∧ v1 = 1
      · obtain ⟨rfl, rfl, rfl, rfl⟩ := hno
        have REM := Lib.hid (remainder_any A B n c m d L' M' _ (HA.out.below hB3).rd (HB.out.below hB3).rd hn hpos.out)
        go_wp2_with fail
        refine REM.out.mono ?_
        rintro e w4 ⟨A4, n4, c4, R, rfl, hR, IR, hB4⟩
        have hB34 := nextB hB3 hB4
        have hsz3 := hB3.size
        have hR' := hR.more (base' := base) (by omega)
        have hMv := HB.out.below hB34
        have hMpos : 0 < val M' := by have := hpos.out; omega
        have r0 := Int.emod_nonneg (val L') hpos.out
        have r1 := Int.emod_lt_of_pos (val L') hMpos
        have hRv := IR.eq
        have hn4 : n4 ≤ 900000 := by
          have h1 := len_of_le HB.out.lims IR.lims HTM.out IR.nrm (by omega)
          have h5 := hR.len
          have h6 := HB.out.len
          omega
        have hInv : RedInv base (val L) (val M) w w4 B A4 m d n4 c4 M' R := by
          refine ⟨hMv, HTM.out, hR', IR.nrm, by omega, by omega, ?_, ?_, ?_⟩
          · intro a b ha hb'
            have h1 := (HB.out.lt a ha).2
            have h2 := (hR.lt b hb').1
            omega
          · rw [hRv, gcd_rest]; exact HG.out
          · exact hW.trans (hB34.mono hwb)
        have HInv := Lib.hid hInv
        have hmes : Hid (valOf w4 (.slice A4 n4 c4) < valOf wr (.slice B m d)) := by
          show _ < _
          rw [valOf_rd hR.rd, valOf_rd HB.out.rd, hRv]; omega
        clear hInv hMv hR' hR IR hRv
        go_wp2
        go_roundw
        case rel => exact ⟨B, A4, m, d, n4, c4, M', R, rfl, rfl, HInv⟩
        case measure => exact hmes.out
      · obtain ⟨ga, rfl, hga, hga'⟩ := HA.out.form (by omega)
        obtain ⟨gb, rfl, hgb, hgb'⟩ := HB.out.form (by omega)
        have hgne : ga ≠ gb := hne _ _ rfl rfl
        have hOpp : Opp u0 v0 ∧ Opp u1 v1 := by
          rw [HE.out.1, HE.out.2.1, HE.out.2.2.1, HE.out.2.2.2]; exact opp_lem hLem
        have APP := Lib.hid (apply_any base ga gb n c m d u0 v0 u1 v1 L' M' _ (HA.out.below hB3) (HB.out.below hB3) hgne hmn' (by omega) (by omega) hOpp.1 hOpp.2 (by have := hB3.size; omega))
        have END : Hid (∀ S T f g, Lims S → Lims T → T.length = m → m ≤ S.length → val (S.take m) + pw m * f = u0 * val (L'.take m) + v0 * val M' → val T + pw m * g = u1 * val (L'.take m) + v1 * val M' →
            val T < val (S.take m) ∧ val (S.take m) ≤ val M' ∧ Int.gcd (val (S.take m)) (val T) = Int.gcd (val L') (val M')) := by
          intro S T f g hS hT lT lS hF hG'
          rw [HE.out.1, HE.out.2.1] at hF
          rw [HE.out.2.2.1, HE.out.2.2.2] at hG'
          rw [HE.out.1, HE.out.2.1, HE.out.2.2.1, HE.out.2.2.2] at hno
          exact apply_end hK hLem hno HA.out.lims HB.out.lims hS hT HB.out.len lT lS (by rw [HA.out.len]; exact hmn') hle hF hG'
        clear hOpp hLem HE hga hgb
        go_wp2_with fail
        all_goals
          try (rename u0 = 1 => hh; subst hh)
          try (rename v0 = 0 => hh; subst hh)
          try (rename u1 = 0 => hh; subst hh)
          refine APP.out.mono ?_
          rintro e w4 ⟨S, T, f, g, rfl, hS, hT, hF, hG', hB4⟩
          have hEnd := END.out S T f g hS.lims hT.lims hT.len (by rw [hS.len]; exact hmn') hF hG'
          have hS1 := hS.take (k := m) hmn' (by omega)
          have HS1 := Lib.hid hS1
          have HT1 := Lib.hid hT
          have HEnd := Lib.hid hEnd
          have hcS := hS.rd.cap
          have hB34 : Below base wr w4 := (hB3.mono hwb).trans hB4
          clear hF hG' hEnd hS hT hS1 APP END LB FSt hne x0 x1 x2 x3 x4 x5 k0 k1 k2 k3 k4 l0 l1 l2 l3 l4
          go_wp2_with fail
          refine (strip_any _ m c (S.take m) w4 HS1.out.rd).mono ?_
          rintro e w5 ⟨A5, n5, c5, rfl, hS5, rfl⟩
          have HS5 := Lib.hid hS5
          clear hS5
          go_wp2_with fail
          refine (strip_any _ m d T w4 HT1.out.rd).mono ?_
          rintro e w5 ⟨A6, n6, c6, rfl, hS6, rfl⟩
          have HS6 := Lib.hid hS6
          clear hS6
          have hMA := HS5.out.mine HS1.out
          have hMB := HS6.out.mine HT1.out
          have hInv : RedInv base (val L) (val M) w w4 A5 A6 n5 c5 n6 c6 (trim (S.take m)) (trim T) := by
            refine ⟨hMA, trim_trim _, hMB, trim_trim _, ?_, ?_, ?_, ?_, hW.trans hB34⟩
            · have h1 := hMA.len
              have h2 := trim_length_le (S.take m)
              have h3 := HS1.out.len
              omega
            · rw [val_trim, val_trim]; have := HEnd.out.1; omega
            · intro a b ha hb'
              obtain ⟨_, ⟨_, h1, _⟩ | ⟨_, h1, _⟩⟩ := HS5.out
              · rw [h1] at ha; cases ha
              · obtain ⟨_, ⟨_, h2, _⟩ | ⟨_, h2, _⟩⟩ := HS6.out
                · rw [h2] at hb'; cases hb'
                · rw [h1] at ha
                  rw [h2] at hb'
                  injection ha with ha
                  injection hb' with hb'
                  rw [← ha, ← hb']; exact hgne
            · rw [val_trim, val_trim, HEnd.out.2.2]; exact HG.out
          have HInv := Lib.hid hInv
          have hmes : Hid (valOf w4 (.slice A6 n6 c6) < valOf wr (.slice (some ⟨gb, 0, none⟩) m d)) := by
            show _ < _
            have h0 := val_nonneg hMB.lims
            rw [valOf_rd hMB.rd, valOf_rd HB.out.rd]
            rw [val_trim] at h0 ⊢
            have := HEnd.out
            omega
          clear hInv hMA hMB
          go_wp2
          go_roundw
          case rel => exact ⟨A5, A6, n5, c5, n6, c6, _, _, rfl, rfl, HInv⟩
          case measure => exact hmes.out

end Go.Proofs.YtdimajnadmkhiaaDoor
