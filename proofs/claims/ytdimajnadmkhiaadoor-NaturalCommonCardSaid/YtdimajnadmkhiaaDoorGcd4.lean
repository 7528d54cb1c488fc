/-
  (natural.step).apply: what a step does to the limbs of two numbers, in place.
-/
import Derived.Test.YtdimajnadmkhiaaDoorGcd3
namespace Go.Proofs.YtdimajnadmkhiaaDoor
open Go.RowKit

/-- u and v, less than 2^31, with different signs. -/
def Opp (u v : Int) : Prop := ((0 ≤ u ∧ v ≤ 0) ∨ (u ≤ 0 ∧ 0 ≤ v)) ∧ -2147483648 < u ∧ u < 2147483648 ∧ -2147483648 < v ∧ v < 2147483648

theorem prod_fit {u x : Int} (hu : -2147483648 < u ∧ u < 2147483648) (hx : 0 ≤ x ∧ x < 4294967296) : (0 ≤ u → 0 ≤ u * x) ∧ (u ≤ 0 → u * x ≤ 0) ∧ -9223372030412324865 ≤ u * x ∧ u * x ≤ 9223372030412324865 := by
  rcases Int.lt_or_le u 0 with h | h
  · have h1 : (-u) * x ≤ 2147483647 * x := le_mul (by omega) hx.1
    have h2 : 0 ≤ (-u) * x := Int.mul_nonneg (by omega) hx.1
    rw [Int.neg_mul] at h1 h2
    refine ⟨fun _ => by omega, fun _ => by omega, by omega, by omega⟩
  · have h1 : u * x ≤ 2147483647 * x := le_mul (by omega) hx.1
    have h2 : 0 ≤ u * x := Int.mul_nonneg (by omega) hx.1
    refine ⟨fun _ => by omega, fun h3 => ?_, by omega, by omega⟩
    have : u = 0 := by omega
    subst this; simp

theorem combo_fit {u v x y f : Int} (h : Opp u v) (hx : 0 ≤ x ∧ x < 4294967296) (hy : 0 ≤ y ∧ y < 4294967296) (hf : -2147483648 ≤ f ∧ f < 2147483648) :
    (-9223372030412324865 ≤ u * x ∧ u * x ≤ 9223372030412324865) ∧ (-9223372030412324865 ≤ v * y ∧ v * y ≤ 9223372030412324865) ∧
    (-9223372030412324865 ≤ u * x + v * y ∧ u * x + v * y ≤ 9223372030412324865) ∧ (-2147483648 ≤ (f + (u * x + v * y)) / 4294967296 ∧ (f + (u * x + v * y)) / 4294967296 < 2147483648) := by
  obtain ⟨hs, u0, u1, v0, v1⟩ := h
  obtain ⟨p1, p2, p3, p4⟩ := prod_fit ⟨u0, u1⟩ hx
  obtain ⟨q1, q2, q3, q4⟩ := prod_fit ⟨v0, v1⟩ hy
  rcases hs with ⟨h1, h2⟩ | ⟨h1, h2⟩
  · have := p1 h1; have := q2 h2
    refine ⟨by omega, by omega, by omega, by omega, by omega⟩
  · have := p2 h1; have := q1 h2
    refine ⟨by omega, by omega, by omega, by omega, by omega⟩

/-- One round of a combination, for one of the two numbers. -/
theorem combo_step {S L M : List Int} {k : Nat} {u v x y f : Int} (hk : k < S.length) (hx : L.getD k 0 = x) (hy : M.getD k 0 = y)
    (h : val (S.take k) + pw k * f = u * val (L.take k) + v * val (M.take k)) :
    val ((S.set k ((f + (u * x + v * y)) % 4294967296)).take (k + 1)) + pw (k + 1) * ((f + (u * x + v * y)) / 4294967296) = u * val (L.take (k + 1)) + v * val (M.take (k + 1)) := by
  rw [val_set_take S k _ hk, val_take_getD L k, val_take_getD M k, hx, hy, pw_succ]
  have e := Int.emod_add_mul_ediv (f + (u * x + v * y)) 4294967296
  generalize (f + (u * x + v * y)) % 4294967296 = r at *
  generalize (f + (u * x + v * y)) / 4294967296 = q at *
  have e2 : pw k * r + 4294967296 * pw k * q = pw k * (f + (u * x + v * y)) := by rw [← e]; grind
  have e3 : pw k * (f + (u * x + v * y)) = pw k * f + u * (pw k * x) + v * (pw k * y) := by grind
  grind

def ApplyPost (base ga gb n c m d : Nat) (u0 v0 u1 v1 : Int) (L M : List Int) (w : World) (e : Ending) (w' : World) : Prop :=
  ∃ S T f g, e = .returned (.tuple #[]) ∧ Mine w' base (some ⟨ga, 0, none⟩) n c S ∧ Mine w' base (some ⟨gb, 0, none⟩) m d T ∧
    val (S.take m) + pw m * f = u0 * val (L.take m) + v0 * val M ∧ val T + pw m * g = u1 * val (L.take m) + v1 * val M ∧ Below base w w'

set_option maxHeartbeats 1000000 in
theorem apply_any (base ga gb n c m d : Nat) (u0 v0 u1 v1 : Int) (L M : List Int) (w : World) (hr : Mine w base (some ⟨ga, 0, none⟩) n c L) (hs : Mine w base (some ⟨gb, 0, none⟩) m d M)
    (hne : ga ≠ gb) (hmn : m ≤ n) (hm : 0 < m) (hn : n ≤ 1000000) (hu : Opp u0 v0) (hv : Opp u1 v1) (hb : base ≤ w.heap.size) :
    Calls Tryd.prog 62 #[.agg #[.int .i64 u0, .int .i64 v0, .int .i64 u1, .int .i64 v1], .slice (some ⟨ga, 0, none⟩) n c, .slice (some ⟨gb, 0, none⟩) m d] w
      (ApplyPost base ga gb n c m d u0 v0 u1 v1 L M w) := by
  have lga := (hr.lt _ rfl).2
  have lgb := (hs.lt _ rfl).2
  have bga := (hr.lt _ rfl).1
  have bgb := (hs.lt _ rfl).1
  have hcap := hr.rd.cap
  have hcap2 := hs.rd.cap
  have HL := Lib.hid hr.len
  have HM := Lib.hid hs.len
  have uL := hr.lims
  have uM := hs.lims
  go_enter Tryd.func62, Tryd.ntmps62
  go_wp2
  have h40 := S4.new w u0 v0 u1 v1 75
  have hr0 := hr.alloc (.cells #[.int .i64 u0, .int .i64 v0, .int .i64 u1, .int .i64 v1] 75)
  have hs0 := hs.alloc (.cells #[.int .i64 u0, .int .i64 v0, .int .i64 u1, .int .i64 v1] 75)
  have hB0 := (Below.refl base w).alloc hb (.cells #[.int .i64 u0, .int .i64 v0, .int .i64 u1, .int .i64 v1] 75)
  go_loopw [6, 7, 13] (fun fv gv iv wr => ∃ (k : Nat) (f g : Int) (S T : List Int), k ≤ m ∧ iv = .int .i64 (k : Int) ∧ fv = .int .i64 f ∧ gv = .int .i64 g ∧ (-2147483648 ≤ f ∧ f < 2147483648) ∧ (-2147483648 ≤ g ∧ g < 2147483648) ∧
      Mine wr base (some ⟨ga, 0, none⟩) n c S ∧ Mine wr base (some ⟨gb, 0, none⟩) m d T ∧ Hid (S.drop k = L.drop k) ∧ Hid (T.drop k = M.drop k) ∧
      Hid (val (S.take k) + pw k * f = u0 * val (L.take k) + v0 * val (M.take k)) ∧ Hid (val (T.take k) + pw k * g = u1 * val (L.take k) + v1 * val (M.take k)) ∧ S4 wr w.heap.size u0 v0 u1 v1 ∧ Below base w wr) (fun _ _ iv _ => m - (intOf iv).toNat)
  case atStart => exact ⟨0, 0, 0, L, M, Nat.zero_le _, rfl, rfl, rfl, by omega, by omega, hr0, hs0, rfl, rfl, by show _ = _; simp [val, pw], by show _ = _; simp [val, pw], h40, hB0⟩
  case round =>
    obtain ⟨k, f, g, S, T, hk, rfl, rfl, rfl, ⟨f0, f1⟩, ⟨g0, g1⟩, hS, hT, hSD, hTD, hF, hG, h4, hB⟩ := hrel
    clear h40 hr0 hs0 hB0 hr hs
    by_cases hkn : k < m
    · have cS := hS.cellAt (i := k) (by omega)
      have fS := hS.frozenAt k
      have cT := hT.cellAt (i := k) hkn
      have fT := hT.frozenAt k
      have ux := uL.getD k
      have uy := uM.getD k
      rw [getD_of_drop hSD.out] at cS
      rw [getD_of_drop hTD.out] at cT
      have FS := Lib.hid (combo_step (S := S) (L := L) (M := M) (u := u0) (v := v0) (f := f) (by rw [hS.len]; omega) rfl rfl hF.out)
      have GS := Lib.hid (combo_step (S := T) (L := L) (M := M) (u := u1) (v := v1) (f := g) (by rw [hT.len]; omega) rfl rfl hG.out)
      generalize L.getD k 0 = x at *
      generalize M.getD k 0 = y at *
      obtain ⟨⟨a1, a2⟩, ⟨a3, a4⟩, ⟨a5, a6⟩, a7⟩ := combo_fit hu ux uy ⟨f0, f1⟩
      obtain ⟨⟨b1, b2⟩, ⟨b3, b4⟩, ⟨b5, b6⟩, b7⟩ := combo_fit hv ux uy ⟨g0, g1⟩
      obtain ⟨_, c0, c1, c2, c3, cf⟩ := h4
      go_wp2_with fail
      go_quiet (fail)
      have hS1 := ((hS.drewN nq).stored k (x := (f + (u0 * x + v0 * y)) % 4294967296) (by omega) (by omega)).far (p := ⟨gb, k, none⟩) (by intro a ha; injection ha with ha; rw [← ha]; exact hne) (.int .u32 ((g + (u1 * x + v1 * y)) % 4294967296))
      have hT1 := ((hT.drewN nq).far (p := ⟨ga, k, none⟩) (by intro a ha; injection ha with ha; rw [← ha]; exact hne.symm) (.int .u32 ((f + (u0 * x + v0 * y)) % 4294967296))).stored k (x := (g + (u1 * x + v1 * y)) % 4294967296) (by omega) (by omega)
      have h41 := (((S4.mk ‹_› c0 c1 c2 c3 cf).drewN nq).far (p := ⟨ga, k, none⟩) (by show _ ≠ ga; omega) (.int .u32 ((f + (u0 * x + v0 * y)) % 4294967296))).far (p := ⟨gb, k, none⟩) (by show _ ≠ gb; omega) (.int .u32 ((g + (u1 * x + v1 * y)) % 4294967296))
      have hB1 := ((drewN_below hB nq).setCell (p := ⟨ga, k, none⟩) bga (.int .u32 ((f + (u0 * x + v0 * y)) % 4294967296))).setCell (p := ⟨gb, k, none⟩) bgb (.int .u32 ((g + (u1 * x + v1 * y)) % 4294967296))
      have hSD2 : Hid ((S.set k ((f + (u0 * x + v0 * y)) % 4294967296)).drop (k + 1) = L.drop (k + 1)) := by
        show _ = _
        rw [drop_set]; exact drop_succ hSD.out
      have hTD2 : Hid ((T.set k ((g + (u1 * x + v1 * y)) % 4294967296)).drop (k + 1) = M.drop (k + 1)) := by
        show _ = _
        rw [drop_set]; exact drop_succ hTD.out
      have HS1 := Lib.hid hS1
      have HT1 := Lib.hid hT1
      have H41 := Lib.hid h41
      have HB1 := Lib.hid hB1
      clear hS1 hT1 h41 hB1 hS hT cf hB
      go_wp2
      go_roundw
      case rel => exact ⟨k + 1, _, _, _, _, by omega, by go_num, rfl, rfl, a7, b7, HS1.out, HT1.out, hSD2, hTD2, FS, GS, H41.out, HB1.out⟩
      case measure => simp [intOf] <;> omega
    · obtain rfl : k = m := by omega
      have hF2 : Hid (val (S.take k) + pw k * f = u0 * val (L.take k) + v0 * val M) := by
        have h1 := hF.out
        rwa [List.take_of_length_le (l := M) (by have := HM.out; omega)] at h1
      have hG2 : Hid (val T + pw k * g = u1 * val (L.take k) + v1 * val M) := by
        have h1 := hG.out
        rwa [List.take_of_length_le (l := M) (by have := HM.out; omega), List.take_of_length_le (l := T) (by rw [hT.len]; exact Nat.le_refl _)] at h1
      go_wp2
      go_end0
      exact ⟨S, T, f, g, rfl, hS, hT, hF2.out, hG2.out, hB⟩

end Go.Proofs.YtdimajnadmkhiaaDoor
