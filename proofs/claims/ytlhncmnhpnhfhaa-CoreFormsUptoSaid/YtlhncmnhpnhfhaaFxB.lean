/-
  The reference's Reads; SameInts of equal lists.
-/
import Derived.Test.YtlhncmnhpnhfhaaFxZ
namespace Go.Proofs.Ytlhncmnhpnhfhaa
open Go Go.RowKit Go.Shelf
set_option maxRecDepth 20000
namespace Fx

/-- The variables of a form come into a list. -/
def rds : Nat → List Int → Fm → List Int
  | 0, zs, _ => zs
  | m + 1, zs, f => f.args.foldl (rds m) (if f.op = 3 then ins zs f.num else zs)
theorem fold_asc {g : List Int → Fm → List Int} (h : ∀ zs f, zs.Pairwise (· < ·) → (g zs f).Pairwise (· < ·)) : ∀ (xs : List Fm) (zs : List Int), zs.Pairwise (· < ·) → (xs.foldl g zs).Pairwise (· < ·)
  | [], _, hz => hz
  | a :: xs, zs, hz => fold_asc h xs _ (h zs a hz)
theorem rds_asc : ∀ (m : Nat) (zs : List Int) (f : Fm), zs.Pairwise (· < ·) → (rds m zs f).Pairwise (· < ·)
  | 0, _, _, h => h
  | m + 1, zs, f, h => by
    refine fold_asc (fun zs f => rds_asc m zs f) _ _ ?_
    split
    · exact ins_asc _ _ h
    · exact h
theorem fold_mem {g : List Int → Fm → List Int} {E : Fm → Int → Prop} (h : ∀ zs f z, z ∈ g zs f ↔ z ∈ zs ∨ E f z) : ∀ (xs : List Fm) (zs : List Int) (z : Int), z ∈ xs.foldl g zs ↔ z ∈ zs ∨ ∃ a ∈ xs, E a z
  | [], _, z => by simp
  | a :: xs, zs, z => by
    rw [List.foldl_cons, fold_mem h xs, h]
    constructor
    · rintro ((h | h) | ⟨b, hb, h⟩)
      · exact .inl h
      · exact .inr ⟨a, by simp, h⟩
      · exact .inr ⟨b, by simp [hb], h⟩
    · rintro (h | ⟨b, hb, h⟩)
      · exact .inl (.inl h)
      · rcases List.mem_cons.1 hb with rfl | hb
        · exact .inl (.inr h)
        · exact .inr ⟨b, hb, h⟩
theorem rds_mem : ∀ (m lv : Nat) (zs : List Int) (f : Fm) (z : Int), z ∈ rds m zs f ↔ z ∈ zs ∨ ∃ p ∈ parts m lv f, p.2.op = 3 ∧ p.2.num = z
  | 0, _, zs, f, z => by simp [rds, parts]
  | m + 1, lv, zs, f, z => by
    rw [rds, fold_mem (E := fun f z => ∃ p ∈ parts m (lv + 1) f, p.2.op = 3 ∧ p.2.num = z) (fun zs f z => rds_mem m (lv + 1) zs f z)]
    have h0 : (z ∈ if f.op = 3 then ins zs f.num else zs) ↔ z ∈ zs ∨ (f.op = 3 ∧ f.num = z) := by
      split
      · rename_i h
        rw [ins_mem]
        constructor
        · rintro (h1 | h1)
          · exact .inr ⟨h, h1.symm⟩
          · exact .inl h1
        · rintro (h1 | ⟨_, h1⟩)
          · exact .inr h1
          · exact .inl h1.symm
      · rename_i h
        simp [h]
    rw [h0]
    constructor
    · rintro ((h | h) | ⟨a, ha, p, hp, h⟩)
      · exact .inl h
      · exact .inr ⟨(lv, f), by simp [parts], h⟩
      · exact .inr ⟨p, by simp only [parts, List.mem_cons, List.mem_flatMap]; exact .inr ⟨a, ha, hp⟩, h⟩
    · rintro (h | ⟨p, hp, h⟩)
      · exact .inl (.inl h)
      · simp only [parts, List.mem_cons, List.mem_flatMap] at hp
        rcases hp with rfl | ⟨a, ha, hp⟩
        · exact .inl (.inr h)
        · exact .inr ⟨a, ha, p, hp, h⟩
theorem fold_len {g : List Int → Fm → List Int} (h : ∀ zs f, (g zs f).length ≤ zs.length + sz f) : ∀ (xs : List Fm) (zs : List Int), (xs.foldl g zs).length ≤ zs.length + (xs.map sz).sum
  | [], _ => by simp
  | a :: xs, zs => by
    have h1 := fold_len h xs (g zs a)
    have h2 := h zs a
    simp only [List.foldl_cons, List.map_cons, List.sum_cons]
    omega
theorem rds_len : ∀ (m : Nat) (zs : List Int) (f : Fm), (rds m zs f).length ≤ zs.length + sz f
  | 0, _, _ => by simp [rds]
  | m + 1, zs, f => by
    have h := fold_len (g := rds m) (fun zs f => rds_len m zs f) f.args (if f.op = 3 then ins zs f.num else zs)
    have h2 : (if f.op = 3 then ins zs f.num else zs).length ≤ zs.length + 1 := by
      split
      · exact ins_len _ _
      · omega
    rw [rds, sz_eq]
    omega
theorem rds_vars (f : Fm) : rds 200 [] f = asc (vars f) := by
  obtain ⟨h1, h2⟩ := asc_spec (vars f)
  refine asc_uniq _ _ (rds_asc 200 [] f List.Pairwise.nil) h1 fun z => ?_
  rw [rds_mem 200 1, h2]
  simp only [vars, List.mem_map, List.mem_filter, List.not_mem_nil, false_or]
  constructor
  · rintro ⟨p, hp, h3, rfl⟩; exact ⟨p, ⟨hp, by simpa [isVar] using h3⟩, rfl⟩
  · rintro ⟨p, ⟨hp, h3⟩, rfl⟩; exact ⟨p, hp, by simpa [isVar] using h3, rfl⟩

def RdsOut (m : Nat) (zs : List Int) (f : Fm) (w : World) (e : Ending) (w' : World) : Prop := ∃ v', e = .returned v' ∧ LR w' v' (rds m zs f) ∧ Below w.heap.size w w'
set_option maxHeartbeats 8000000 in
theorem reads_ref {S : Nat → Prop} : ∀ (m : Nat), m ≤ 200 → ∀ (f : Fm) (fv : Array Value) (v : Value) (zs : List Int) (w : World), FV S w f fv → LR w v zs → zs.length + sz f ≤ 1999999 →
    Calls Try.prog 29 #[v, .agg fv, .int .i64 m] w (RdsOut m zs f w) := by
  intro m
  induction m with
  | zero =>
    intro _ f fv v zs w hw hz hn
    obtain ⟨va, vb, vc, B, c, rfl, hr⟩ := hw
    obtain ⟨V, hV⟩ : ∃ V, w.alloc (.cells #[.int .i64 f.op, .int .i64 f.num, va, vb, vc, .slice B f.args.length c] 27) = V := ⟨_, rfl⟩
    obtain ⟨hvs, hwv, hbx⟩ := box6 w _ _ _ _ _ _ _ V hV
    have HVV := Lib.hid hV
    have HWV := Lib.hid hwv
    have HZ := Lib.hid hz
    clear hr hV hwv hbx hz
    simp only [Int.natCast_zero]
    go_enter Try.func29, Try.ntmps29
    go_wp2
    rw [HVV.out]
    go_ret
    exact ⟨v, rfl, HZ.out.below HWV.out, HWV.out⟩
  | succ m ih =>
    intro hm f fv v zs w hw hz hn
    obtain ⟨va, vb, vc, B, c, rfl, hr⟩ := hw
    obtain ⟨V, hV⟩ : ∃ V, w.alloc (.cells #[.int .i64 f.op, .int .i64 f.num, va, vb, vc, .slice B f.args.length c] 27) = V := ⟨_, rfl⟩
    obtain ⟨hvs, hwv, hbx⟩ := box6 w _ _ _ _ _ _ _ V hV
    have hcap := rd_caps hr
    unfold maxLen at hcap
    obtain ⟨p0, p1, p2, p3, p4, p5⟩ := hbx V (Below.refl _ _)
    have HBX := Lib.hid hbx
    have HVV := Lib.hid hV
    have HWV := Lib.hid hwv
    have H := Lib.hid hr
    have HI := Lib.hid (ih (by omega))
    have hz1 := hz.below hwv
    have HZ1 := Lib.hid hz1
    have HSZ := Lib.hid (sz_eq f)
    clear hr hV hwv hbx hz hz1 ih
    obtain ⟨M, hM⟩ : ∃ M : Nat, M = m + 1 := ⟨_, rfl⟩
    rw [← hM]
    have e1 : (M : Int) - 1 = (m : Int) := by omega
    have bM : ((M : Int) == 0) = false := by simp; omega
    have HRD := Lib.hid (show rds M zs f = f.args.foldl (rds m) (if f.op = 3 then ins zs f.num else zs) by rw [hM]; rfl)
    -- the loop, from whatever list stands before it
    clear hM
    by_cases e3 : f.op = 3
    · have hW := with_ref v zs f.num V HZ1.out (by omega)
      have E3 := Lib.hid e3
      have b3 : (f.op == 3) = true := by simpa using e3
      clear e3
      go_enter Try.func29, Try.ntmps29
      go_wp2_with fail
      rw [HVV.out]
      go_wp2_with fail
      refine hW.mono ?_
      clear hW
      rintro e V2 ⟨v2, rfl, hl2, hb2⟩
      have HB0 := Lib.hid hb2
      have HL0 := Lib.hid (show LR V2 v2 (if f.op = 3 then ins zs f.num else zs) by rw [if_pos E3.out]; exact hl2)
      clear hb2 hl2
      go_wp2_with fail
      have h0 : (if f.op = 3 then ins zs f.num else zs).length ≤ zs.length + 1 := by
        split
        · exact ins_len _ _
        · omega
      generalize (if f.op = 3 then ins zs f.num else zs) = ys at HRD HL0 h0
      go_loopw [0, 7] (fun p q wr => ∃ i : Nat, q = .int .i64 i ∧ i ≤ f.args.length ∧ Hid (LR wr p ((f.args.take i).foldl (rds m) ys) ∧ Below V.heap.size V wr))
        (fun _ q _ => f.args.length - (intOf q).toNat)
      case atStart => exact ⟨0, rfl, Nat.zero_le _, HL0.out, HB0.out⟩
      case round =>
        obtain ⟨i, rfl, hi, HAB⟩ := hrel
        have HL := Lib.hid HAB.out.1
        have HB := Lib.hid HAB.out.2
        clear HAB p0 p1 p2 p3 p4 p5
        obtain ⟨p0, p1, p2, p3, p4, p5⟩ := HBX.out wr HB.out
        by_cases hlt : i < f.args.length
        · have hlt' : (i : Int) < (f.args.length : Int) := by omega
          obtain ⟨b, g, o, x2, x3, x4, A', c', hb, rfl, hg, k0, k1, k2, k3, k4, k5, hr⟩ := kid (rd_nb H.out (nextB HWV.out HB.out)) hlt
          have hT := sum_take f.args hb
          have hTl := sum_take_le f.args (i + 1)
          have hfl := fold_len (g := rds m) (fun zs f => rds_len m zs f) (f.args.take i) ys
          have hs := HSZ.out
          have HF := Lib.hid (HI.out b _ _ _ wr ⟨x2, x3, x4, A', c', rfl, hr⟩ HL.out (by omega))
          have HK := Lib.hid (show (f.args.take (i + 1)).foldl (rds m) ys = rds m ((f.args.take i).foldl (rds m) ys) b by rw [List.take_add_one, hb]; simp)
          clear hb hr hT hTl hfl hs
          go_wp2_with fail
          refine HF.out.mono ?_
          rintro e2 w1 ⟨v3, rfl, hl3, hbw⟩
          have HB2 := Lib.hid (HB.out.trans (hbw.mono HB.out.size))
          have HL3 := Lib.hid hl3
          clear HF hbw HB HL k0 k1 k2 k3 k4 k5 p0 p1 p2 p3 p4 p5 hl3
          go_wp2
          go_roundw
          case rel => exact ⟨i + 1, by go_num, by omega, by rw [HK.out]; exact HL3.out, HB2.out⟩
          case measure => simp [intOf] <;> omega
        · obtain rfl : i = f.args.length := by omega
          go_wp2
          go_ret
          have hl := HL.out
          rw [List.take_length] at hl
          exact ⟨_, rfl, by rw [HRD.out]; exact hl, nextB HWV.out HB.out⟩
    · have HB0 := Lib.hid (Below.refl V.heap.size V)
      have HL0 := Lib.hid (show LR V v (if f.op = 3 then ins zs f.num else zs) by rw [if_neg e3]; exact HZ1.out)
      have b3 : (f.op == 3) = false := by simpa using e3
      go_enter Try.func29, Try.ntmps29
      go_wp2_with fail
      rw [HVV.out]
      go_wp2_with fail
      have h0 : (if f.op = 3 then ins zs f.num else zs).length ≤ zs.length + 1 := by
        split
        · exact ins_len _ _
        · omega
      generalize (if f.op = 3 then ins zs f.num else zs) = ys at HRD HL0 h0
      go_loopw [0, 7] (fun p q wr => ∃ i : Nat, q = .int .i64 i ∧ i ≤ f.args.length ∧ Hid (LR wr p ((f.args.take i).foldl (rds m) ys) ∧ Below V.heap.size V wr))
        (fun _ q _ => f.args.length - (intOf q).toNat)
      case atStart => exact ⟨0, rfl, Nat.zero_le _, HL0.out, HB0.out⟩
      case round =>
        obtain ⟨i, rfl, hi, HAB⟩ := hrel
        have HL := Lib.hid HAB.out.1
        have HB := Lib.hid HAB.out.2
        clear HAB p0 p1 p2 p3 p4 p5
        obtain ⟨p0, p1, p2, p3, p4, p5⟩ := HBX.out wr HB.out
        by_cases hlt : i < f.args.length
        · have hlt' : (i : Int) < (f.args.length : Int) := by omega
          obtain ⟨b, g, o, x2, x3, x4, A', c', hb, rfl, hg, k0, k1, k2, k3, k4, k5, hr⟩ := kid (rd_nb H.out (nextB HWV.out HB.out)) hlt
          have hT := sum_take f.args hb
          have hTl := sum_take_le f.args (i + 1)
          have hfl := fold_len (g := rds m) (fun zs f => rds_len m zs f) (f.args.take i) ys
          have hs := HSZ.out
          have HF := Lib.hid (HI.out b _ _ _ wr ⟨x2, x3, x4, A', c', rfl, hr⟩ HL.out (by omega))
          have HK := Lib.hid (show (f.args.take (i + 1)).foldl (rds m) ys = rds m ((f.args.take i).foldl (rds m) ys) b by rw [List.take_add_one, hb]; simp)
          clear hb hr hT hTl hfl hs
          go_wp2_with fail
          refine HF.out.mono ?_
          rintro e2 w1 ⟨v3, rfl, hl3, hbw⟩
          have HB2 := Lib.hid (HB.out.trans (hbw.mono HB.out.size))
          have HL3 := Lib.hid hl3
          clear HF hbw HB HL k0 k1 k2 k3 k4 k5 p0 p1 p2 p3 p4 p5 hl3
          go_wp2
          go_roundw
          case rel => exact ⟨i + 1, by go_num, by omega, by rw [HK.out]; exact HL3.out, HB2.out⟩
          case measure => simp [intOf] <;> omega
        · obtain rfl : i = f.args.length := by omega
          go_wp2
          go_ret
          have hl := HL.out
          rw [List.take_length] at hl
          exact ⟨_, rfl, by rw [HRD.out]; exact hl, nextB HWV.out HB.out⟩

set_option maxHeartbeats 4000000 in
theorem Reads_ref {S : Nat → Prop} (f : Fm) (fv : Array Value) (w : World) (hw : FV S w f fv) (hn : sz f ≤ 1999999) :
    Calls Try.prog 16 #[.agg fv] w fun e w' => ∃ v', e = .returned v' ∧ LR w' v' (asc (vars f)) ∧ Below w.heap.size w w' := by
  obtain ⟨va, vb, vc, B, c, rfl, hr⟩ := hw
  obtain ⟨V, hV⟩ : ∃ V, w.alloc (.cells #[.int .i64 f.op, .int .i64 f.num, va, vb, vc, .slice B f.args.length c] 27) = V := ⟨_, rfl⟩
  obtain ⟨hvs, hwv, hbx⟩ := box6 w _ _ _ _ _ _ _ V hV
  obtain ⟨p0, p1, p2, p3, p4, p5⟩ := hbx V (Below.refl _ _)
  have hR := reads_ref (S := S) 200 (by omega) f #[.int .i64 f.op, .int .i64 f.num, va, vb, vc, .slice B f.args.length c] (.slice none 0 0) [] V ⟨va, vb, vc, B, c, rfl, rd_nb hr hwv⟩ (.inl ⟨rfl, rfl⟩) (by simpa using hn)
  simp only [show ((200 : Nat) : Int) = 200 from rfl] at hR
  have HVV := Lib.hid hV
  have HWV := Lib.hid hwv
  clear hr hV hwv hbx
  go_enter Try.func16, Try.ntmps16
  go_wp2_with fail
  rw [HVV.out]
  go_wp2_with fail
  refine hR.mono ?_
  clear hR
  rintro e w1 ⟨v', rfl, hl, hb⟩
  go_wp2
  go_ret
  exact ⟨v', rfl, by rw [← rds_vars]; exact hl, nextB HWV.out hb⟩

/-- Cells that hold the numbers of a list. -/
def IC (w : World) (A : Option Addr) (zs : List Int) : Prop := ∀ i z, zs[i]? = some z → ∃ ad, A = some ad ∧ w.cell? (ad.add i) = some (.int .i64 z)
theorem lr_ic {w : World} {v : Value} {zs : List Int} (h : LR w v zs) : ∃ A c, v = .slice A zs.length c ∧ IC w A zs := by
  rcases h with ⟨rfl, rfl⟩ | ⟨b, c, rfl, _, _, _, h4⟩
  · exact ⟨none, 0, rfl, fun i z h => by simp at h⟩
  · exact ⟨_, c, rfl, fun i z hz => ⟨_, rfl, by rw [add_plain, Nat.zero_add]; exact h4 i z hz⟩⟩
set_option maxHeartbeats 4000000 in
theorem same_ints (zs : List Int) (A B : Option Addr) (c d : Nat) (w : World) (hn : zs.length ≤ 1999999) (hA : IC w A zs) (hB : IC w B zs) :
    Calls Try.prog 14 #[.slice A zs.length c, .slice B zs.length d] w fun e w' => e = .returned (.bool true) ∧ ∃ m, w' = w.drewN m := by
  have HA := Lib.hid hA
  have HB := Lib.hid hB
  clear hA hB
  go_enter Try.func14, Try.ntmps14
  go_wp2_with fail
  go_loopw [5] (fun q wr => ∃ i m : Nat, q = .int .i64 i ∧ i ≤ zs.length ∧ w.drewN m = wr) (fun q _ => zs.length - (intOf q).toNat)
  case atStart => exact ⟨0, 0, rfl, Nat.zero_le _, rfl⟩
  case round =>
    obtain ⟨i, m, rfl, hi, rfl⟩ := hrel
    by_cases hlt : i < zs.length
    · have hlt' : (i : Int) < (zs.length : Int) := by omega
      obtain ⟨z, hz⟩ : ∃ z, zs[i]? = some z := ⟨_, List.getElem?_eq_getElem hlt⟩
      obtain ⟨a, rfl, ca⟩ := HA.out i z hz
      obtain ⟨b, rfl, cb⟩ := HB.out i z hz
      have ca' : (w.drewN m).cell? (a.add i) = some (.int .i64 z) := ca
      have cb' : (w.drewN m).cell? (b.add i) = some (.int .i64 z) := cb
      have HD := Lib.hid (fun j => World.drewN_drewN w m j)
      clear hz ca cb
      generalize w.drewN m = W at ca' cb' HD
      go_wp2_with fail
      go_quiet (fail)
      go_wp2
      go_roundw
      case rel => exact ⟨i + 1, _, by go_num, by omega, (HD.out _).symm⟩
      case measure => simp [intOf] <;> omega
    · obtain rfl : i = zs.length := by omega
      go_wp2
      go_ret
      exact ⟨rfl, m, rfl⟩
end Fx
end Go.Proofs.Ytlhncmnhpnhfhaa
