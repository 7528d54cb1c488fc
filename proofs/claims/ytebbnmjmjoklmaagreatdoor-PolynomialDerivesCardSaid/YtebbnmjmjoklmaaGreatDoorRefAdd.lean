/-
  exactpplref01.Add: the limbs of the sum, in memory of its own.
-/
import Derived.Test.YtebbnmjmjoklmaaGreatDoorDivN
namespace Go.Proofs.YtebbnmjmjoklmaaGreatDoor
open Go.RowKit
set_option maxRecDepth 20000

theorem refAdd_last {S L M : List Int} {p : Nat} {cr : Int} (hS : Lims S) (hl : S.length = p + 1) (hL : Lims L) (hM : Lims M) (h1 : L.length ≤ p) (h2 : M.length ≤ p) (c0 : 0 ≤ cr)
    (h : val (S.take (p + 1)) + pw (p + 1) * cr = val (L.take (p + 1)) + val (M.take (p + 1))) : val S = val L + val M := by
  rw [List.take_of_length_le (by omega), List.take_of_length_le (by omega), List.take_of_length_le (by omega)] at h
  have a := val_lt hL
  have b := val_lt hM
  have a' := pw_mono h1
  have b' := pw_mono h2
  have s := val_nonneg hS
  have p0 := pw_pos p
  rw [pw_succ] at h
  rcases Int.lt_or_le 0 cr with hc | hc
  · exfalso
    have h3 : 4294967296 * pw p * 1 ≤ 4294967296 * pw p * cr := Int.mul_le_mul_of_nonneg_left (by omega) (by omega)
    omega
  · have : cr = 0 := by omega
    rw [this] at h
    omega

set_option maxHeartbeats 1000000 in
theorem refAdd_any (A B : Option Addr) (n c m d : Nat) (L M : List Int) (w : World) (hr : Rd w A n c L) (hs : Rd w B m d M) (hn : n ≤ 900000) (hm : m ≤ 900000) :
    Calls Tryz.prog 78 #[.slice A n c, .slice B m d] w (Gives w (val L + val M)) := by
  obtain ⟨i0, hi, hz0, hz1, hz2⟩ := info_parts info_limb
  obtain ⟨p, hp1, hp2, hpm⟩ : ∃ p, n ≤ p ∧ m ≤ p ∧ (p = n ∨ p = m) := by
    rcases Nat.le_total n m with h | h
    · exact ⟨m, h, Nat.le_refl _, .inr rfl⟩
    · exact ⟨n, Nat.le_refl _, h, .inl rfl⟩
  have hp3 : p ≤ 900000 := by omega
  have hnl := Lib.hid hr.len
  have hml := Lib.hid hs.len
  go_enter Tryz.func78, Tryz.ntmps78
  go_wp2_with (at_make; refine wpList_make_full _ rfl _ _ 40 rfl w.heap.size 71 i0 (.int .u32 0) 1 Tryz.underlying40 hi hz0 hz1 _ _ _ _ (p + 1) rfl rfl ?b0 ?b1 ?b2 ?b3 (Nat.le_refl _) ?_)
  all_goals first
    | omega
    | (rw [hz2]; omega)
    | (unfold maxLen; omega)
    | skip
  all_goals
    intro w0 hown hgrow
    have hM0 := Mine.zero hown
    have hB0 := below_of_grown hgrow
    clear hown hgrow hpm
    go_wp2
    go_loopw [6, 7] (fun cv iv wr => ∃ (k : Nat) (cr : Int) (S : List Int), k ≤ p + 1 ∧ iv = .int .i64 k ∧ cv = .int .u64 cr ∧ (0 ≤ cr ∧ cr ≤ 1) ∧ Mine wr w.heap.size (some ⟨w.heap.size, 0, none⟩) (p + 1) (p + 1) S ∧
        Hid (val (S.take k) + pw k * cr = val (L.take k) + val (M.take k)) ∧ Below w.heap.size w wr) (fun _ iv _ => p + 1 - (intOf iv).toNat)
    case atStart => exact ⟨0, 0, _, Nat.zero_le _, rfl, rfl, by omega, hM0, rfl, hB0⟩
    case round =>
      obtain ⟨k, cr, S, hk, rfl, rfl, ⟨hc0, hc1⟩, hM, hV, hB⟩ := hrel
      clear hM0 hB0
      by_cases hkp : k < p + 1
      · have uP := hr.lims.getD k
        have uQ := hs.lims.getD k
        obtain ⟨u, hu⟩ : ∃ u, L.getD k 0 = u := ⟨_, rfl⟩
        obtain ⟨v, hv⟩ : ∃ v, M.getD k 0 = v := ⟨_, rfl⟩
        rw [hu] at uP
        rw [hv] at uQ
        have cS := hM.cellAt (i := k) (by omega)
        have fS := hM.frozenAt k
        have st := add_step (S := S) (k := k) (cr := cr) (by rw [hM.len]; omega) hu hv hV.out
        by_cases hkn : k < n
        · by_cases hkm : k < m
          · first
            | (exfalso; omega)
            | (obtain ⟨ad, rfl, _, hcP⟩ := (hr.below hB).at_ (by omega)
               have cP := hcP k hkn
               rw [hu] at cP
               clear hcP
               obtain ⟨ad', rfl, _, hcQ⟩ := (hs.below hB).at_ (by omega)
               have cQ := hcQ k hkm
               rw [hv] at cQ
               clear hcQ
               rw [show u + v + cr = cr + u + v from by omega] at st
               have ST := Lib.hid st
               have hs0 : 0 ≤ (cr + u + v) % 4294967296 ∧ (cr + u + v) % 4294967296 < 4294967296 := by omega
               have hs1 : 0 ≤ (cr + u + v) / 4294967296 ∧ (cr + u + v) / 4294967296 ≤ 1 := by omega
               clear st hu hv
               go_wp2
               go_roundw
               case rel => exact ⟨k + 1, _, _, by omega, by go_num, rfl, hs1, hM.stored k hs0.1 hs0.2, ST.out, hB.setCell (Nat.le_refl _) _⟩
               case measure => simp [intOf] <;> omega)
          · first
            | (exfalso; omega)
            | (obtain ⟨ad, rfl, _, hcP⟩ := (hr.below hB).at_ (by omega)
               have cP := hcP k hkn
               rw [hu] at cP
               clear hcP
               obtain rfl : v = 0 := by rw [← hv, getD_ge _ _ (by have := hml.out; omega)]
               rw [show u + 0 + cr = cr + u from by omega] at st
               have ST := Lib.hid st
               have hs0 : 0 ≤ (cr + u) % 4294967296 ∧ (cr + u) % 4294967296 < 4294967296 := by omega
               have hs1 : 0 ≤ (cr + u) / 4294967296 ∧ (cr + u) / 4294967296 ≤ 1 := by omega
               clear st hu hv
               go_wp2
               go_roundw
               case rel => exact ⟨k + 1, _, _, by omega, by go_num, rfl, hs1, hM.stored k hs0.1 hs0.2, ST.out, hB.setCell (Nat.le_refl _) _⟩
               case measure => simp [intOf] <;> omega)
        · by_cases hkm : k < m
          · first
            | (exfalso; omega)
            | (obtain rfl : u = 0 := by rw [← hu, getD_ge _ _ (by have := hnl.out; omega)]
               obtain ⟨ad', rfl, _, hcQ⟩ := (hs.below hB).at_ (by omega)
               have cQ := hcQ k hkm
               rw [hv] at cQ
               clear hcQ
               rw [show 0 + v + cr = cr + v from by omega] at st
               have ST := Lib.hid st
               have hs0 : 0 ≤ (cr + v) % 4294967296 ∧ (cr + v) % 4294967296 < 4294967296 := by omega
               have hs1 : 0 ≤ (cr + v) / 4294967296 ∧ (cr + v) / 4294967296 ≤ 1 := by omega
               clear st hu hv
               go_wp2
               go_roundw
               case rel => exact ⟨k + 1, _, _, by omega, by go_num, rfl, hs1, hM.stored k hs0.1 hs0.2, ST.out, hB.setCell (Nat.le_refl _) _⟩
               case measure => simp [intOf] <;> omega)
          · first
            | (exfalso; omega)
            | (obtain rfl : u = 0 := by rw [← hu, getD_ge _ _ (by have := hnl.out; omega)]
               obtain rfl : v = 0 := by rw [← hv, getD_ge _ _ (by have := hml.out; omega)]
               have hcm : cr % 4294967296 = cr := by omega
               rw [show 0 + 0 + cr = cr from by omega, hcm] at st
               have ST := Lib.hid st
               have hs0 : 0 ≤ cr ∧ cr < 4294967296 := by omega
               clear hcm
               have hs1 : 0 ≤ (cr) / 4294967296 ∧ (cr) / 4294967296 ≤ 1 := by omega
               clear st hu hv
               go_wp2
               go_roundw
               case rel => exact ⟨k + 1, _, _, by omega, by go_num, rfl, hs1, hM.stored k hs0.1 hs0.2, ST.out, hB.setCell (Nat.le_refl _) _⟩
               case measure => simp [intOf] <;> omega)
      · obtain rfl : k = p + 1 := by omega
        have hF := refAdd_last hM.lims hM.len hr.lims hs.lims (by have := hnl.out; omega) (by have := hml.out; omega) hc0 hV.out
        have HF := Lib.hid hF
        have TR := Lib.hid (refTrim_any _ _ _ _ wr hM.rd (by omega))
        have hsz := hB.size
        clear hF hM hkp
        go_wp2_with fail
        refine TR.out.mono ?_
        rintro e w4 ⟨A4, n4, c4, R, rfl, hR, IR, hB4⟩
        have HI := Lib.hid IR
        clear IR
        go_wp2
        go_ret
        exact ⟨A4, n4, c4, R, rfl, hR.more hsz, by rw [← HF.out]; exact HI.out, nextB hB hB4⟩

end Go.Proofs.YtebbnmjmjoklmaaGreatDoor
