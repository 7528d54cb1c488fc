/-
  exactppllaw02.RationalBuilt returns true whatever the arguments.
-/
import Derived.Test.YtekalaihfmfkkaaGreatDoorRaw2
import Derived.Test.YtekalaihfmfkkaaGreatDoorSrcR
namespace Go.Proofs.YtekalaihfmfkkaaGreatDoor
open Go.RowKit
set_option maxRecDepth 100000

theorem Num.but {w w' : World} {A : Option Addr} {n c g b : Nat} {x : Int} (h : Num w A n c x) (o : Off b A) (hg : g < b) (hb : But g w w') : Num w' A n c x := by
  obtain ⟨L, hr, hv⟩ := h
  refine ⟨L, ⟨hr.len, hr.lims, hr.cap, hr.top, fun hn => ?_⟩, hv⟩
  obtain ⟨ad, e, hbl, hc⟩ := hr.at_ hn
  have := o ad e
  exact ⟨ad, e, Nat.lt_of_lt_of_le hbl hb.size, fun i hi => (hb.cell (p := ad.add i) (by rw [addr_block]; exact hbl) (by rw [addr_block]; omega)).trans (hc i hi)⟩
theorem Loose.but {w w' : World} {s : Bool} {A B : Option Addr} {n c m d k g b : Nat} {q : Rat} (h : Loose w s A n c B m d q k) (oA : Off b A) (oB : Off b B) (hg : g < b) (hb : But g w w') : Loose w' s A n c B m d q k := by
  obtain ⟨x, y, hx, hy, h3⟩ := h
  exact ⟨x, y, hx.but oA hg hb, hy.but oB hg hb, h3⟩
theorem ratText_size {q : Rat} {k : Nat} (h1 : (q.num.natAbs : Int) < pw k) (h2 : (q.den : Int) < pw k) : (ratText q).size ≤ 20 * k + 4 := by
  have z1 := dec_size h1
  have z2 := dec_size h2
  have a1 : (⟨#[45]⟩ : ByteArray).size = 1 := rfl
  have a2 : (⟨#[47]⟩ : ByteArray).size = 1 := rfl
  unfold ratText
  split <;> split <;> (try simp only [ByteArray.size_append, a1, a2]) <;> omega
theorem Loose.parts {w : World} {s : Bool} {A B : Option Addr} {n c m d k : Nat} {q : Rat} (h : Loose w s A n c B m d q k) (k0 : 1 ≤ k) : (q.num.natAbs : Int) < pw k ∧ (q.den : Int) < pw k := by
  obtain ⟨x, y, hx, hy, hq, hn, hm⟩ := h
  have x0 := hx.nonneg
  have y0 := hy.nonneg
  have px : x < pw k := pw_up hx.lt hn
  have py : y < pw k := pw_up hy.lt hm
  by_cases h0 : y = 0
  · subst h0
    rw [rat_over_zero] at hq
    subst hq
    have : (1 : Int) < pw k := Int.lt_of_lt_of_le (show (1 : Int) < pw 1 by decide) (pw_mono k0)
    exact ⟨by show (0 : Int) < _; omega, by show (1 : Int) < _; omega⟩
  · subst hq
    rw [rat_abs s x0 (by omega), rat_den s (by omega)]
    exact ⟨ediv_lt_pw x0 px, ediv_lt_pw y0 py⟩

theorem and7 (x : Int) : ∃ j : Nat, j ≤ 7 ∧ bits .and .i64 x 7 = (j : Int) := by
  have h1 : (BitVec.ofInt 64 x &&& BitVec.ofInt 64 7).toNat ≤ 7 := by
    rw [BitVec.toNat_and]
    exact Nat.and_le_right
  refine ⟨(BitVec.ofInt 64 x &&& BitVec.ofInt 64 7).toNat, h1, ?_⟩
  show IntKind.i64.wrap _ = _
  rw [IntKind.wrap_i64]
  have h2 : ((BitVec.ofInt IntKind.i64.bits x &&& BitVec.ofInt IntKind.i64.bits 7).toNat : Int) = ((BitVec.ofInt 64 x &&& BitVec.ofInt 64 7).toNat : Int) := rfl
  rw [h2]
  omega
theorem pows_both {w : World} (hl : Laid w) {s : Bool} {A B : Option Addr} {n c m d k : Nat} {q : Rat} (h : Loose w s A n c B m d q k) (k0 : 1 ≤ k) (hk8 : k ≤ 100) (j : Nat) (hj : j ≤ 64) :
    ∃ b x y er, (∀ W, Below w.heap.size w W → Calls Tryz.prog 27 #[.agg #[.bool s, .slice A n c, .slice B m d], .int .i64 (j : Int)] W (TriE W b x y er)) ∧ (∀ W, Below w.heap.size w W → Calls Tryz.prog 28 #[.agg #[.bool s, .slice A n c, .slice B m d], .int .i64 (j : Int)] W (TriE W b x y er)) :=
  ⟨_, _, _, 0, fun W hW => (ratPow_ok (hl.below hW) j (h.below hW) k0 hk8 hj).mono fun _ _ h => h.tri, fun W hW => (refPow_ok j (h.below hW) k0 (by omega) hj).mono fun _ _ h => h.tri⟩
/-- A fraction of whatever value and an error code. -/
def AnyE (w : World) (er : Int) (e : Ending) (w' : World) : Prop := ∃ s A n c B m d, e = .returned (.tuple #[.agg #[.bool s, .slice A n c, .slice B m d], .int .i64 er]) ∧ Below w.heap.size w w'
theorem TriE.any {w w' : World} {b : Bool} {x y er : Int} {e : Ending} (h : TriE w b x y er e w') : AnyE w er e w' := by
  obtain ⟨s, A, n, c, B, m, d, he, _, hb⟩ := h
  exact ⟨s, A, n, c, B, m, d, he, hb⟩
theorem loose_blank (w : World) : Loose w false none 0 0 none 0 0 0 1 := ⟨0, 0, num_nil _, num_nil _, rat_over_zero _ _, by omega, by omega⟩
theorem codes_both {w : World} (hl : Laid w) {s : Bool} {A B : Option Addr} {n c m d k : Nat} {q : Rat} (h : Loose w s A n c B m d q k) (k0 : 1 ≤ k) (hk8 : k ≤ 100) (j : Int) :
    ∃ er, (∀ W, Below w.heap.size w W → Calls Tryz.prog 27 #[.agg #[.bool s, .slice A n c, .slice B m d], .int .i64 j] W (AnyE W er)) ∧ (∀ W, Calls Tryz.prog 28 #[.agg #[.bool false, .slice none 0 0, .slice none 0 0], .int .i64 j] W (AnyE W er)) := by
  by_cases hj : j < 0 ∨ 64 < j
  · exact ⟨1, fun W hW => (ratPow_range (hl.below hW) j (h.below hW) k0 hk8 hj).mono fun _ _ h => h.tri.any, fun W => (refPow_range j hj).mono fun _ _ h => h.tri.any⟩
  · obtain ⟨i, rfl⟩ := Int.eq_ofNat_of_zero_le (show 0 ≤ j by omega)
    exact ⟨0, fun W hW => (ratPow_ok (hl.below hW) i (h.below hW) k0 hk8 (by omega)).mono fun _ _ h => h.tri.any, fun W => (refPow_ok i (loose_blank W) (by decide) (by decide) (by omega)).mono fun _ _ h => h.tri.any⟩


set_option maxHeartbeats 40000000 in
theorem rationalBuilt.walk {A : Option Addr} {n c : Nat} {tx : ByteArray} {nn : Int} {w : World} (hl : Laid w) (hcap : n ≤ c) (htop : c ≤ maxLen) (hI : 0 < n → ∃ ad, A = some ad ∧ IntsAt w ad n (-9223372036854775808) 9223372036854775807) (w1 : tx.size ≤ maxLen) (_w2 : (Lit.int .i64 nn).wf = true) :
    Calls Tryz.prog 4 #[.slice A n c, .string tx, .int .i64 nn] w (True1 w) := by
  unfold maxLen at w1

  by_cases h1 : 40 < tx.size
  · have h2 : (40 : Int) < tx.size := by omega
    clear hI
    go_enter Tryz.func4, Tryz.ntmps4
    go_wp2_with fail
    refine (awake2_any w hl).mono ?_
    rintro e w2 ⟨rfl, k2⟩
    go_wp2
    go_ret
    exact ⟨rfl, k2⟩
  have htx : tx.size ≤ 40 := by omega
  have h2 : ¬ (40 : Int) < tx.size := by omega
  have HNW := Lib.hid (new_any A n c w hcap htop hI)
  clear hI hcap htop h1 w1
  go_enter Tryz.func4, Tryz.ntmps4
  go_wp2_with fail
  refine HNW.out.mono ?_
  rintro e w1 ⟨g, rfl, hg, hs1, bw1⟩
  clear HNW
  go_wp2_with fail
  refine (srcLoose_r g w1 hs1).mono ?_
  rintro e w2 ⟨sa, Aa, na, ca, Ba, ma, da, qa, rfl, la, oa, oa', hs2, hb2⟩
  go_wp2_with fail
  refine (srcLoose_r g w2 hs2).mono ?_
  rintro e w3 ⟨sb, Ab, nb, cb, Bb, mb, db, qb, rfl, lb, ob, ob', hs3, hb3⟩
  replace la := la.but oa oa' hs1.size hb3
  have bw3 : Below w.heap.size w w3 := bw1.trans ((hb2.trans hb3).below hg bw1.size)
  clear oa oa' ob ob' hs1 hs2 hs3 hb2 hb3 bw1
  obtain ⟨v, hv⟩ : ∃ v, (w3.alloc (.cells #[.bool sa, .slice Aa na ca, .slice Ba ma da] 24)).alloc (.cells #[.bool sb, .slice Ab nb cb, .slice Bb mb db] 24) = v := ⟨_, rfl⟩
  obtain ⟨p, hp, _, bv, h_a, h_b, _⟩ := boxes1 w3 _ _ _ _ _ _ _ _ v hv
  have HA := Lib.hid h_a
  have HB := Lib.hid h_b
  have HP0 := Lib.hid hp
  have HV0 := Lib.hid hv
  replace la := la.below bv
  replace lb := lb.below bv
  have bw := bw3.trans (bv.mono bw3.size)
  replace hl := hl.below bw
  obtain ⟨j7, hj7, hand⟩ := and7 nn
  obtain ⟨bn, xn, yn, en, hN1, hN2⟩ := pows_both hl la (by decide) (by decide) j7 (by omega)
  obtain ⟨ec, hC1, hC2⟩ := codes_both hl la (by decide) (by decide) nn
  have N1 := Lib.hid hN1
  have N2 := Lib.hid hN2
  have K1 := Lib.hid hC1
  have K2 := Lib.hid hC2
  have HAND := Lib.hid hand
  clear h_a h_b hp hv bv bw3 hN1 hN2 hC1 hC2 hand
  have hk := Below.refl v.heap.size v
  obtain ⟨a0, a1, a2⟩ := HA.out _ hk
  rw [← HV0.out, HP0.out] at a0 a1 a2
  go_wp2_with fail
  rw [HV0.out, ← HP0.out, HAND.out]
  clear a0 a1 a2
  refine (N1.out _ hk).mono ?_
  rintro e w11 ⟨t11, A11, n11, c11, B11, m11, d11, rfl, r11, e11⟩
  obtain ⟨v11, hv⟩ : ∃ v, w11.alloc (.cells #[.bool t11, .slice A11 n11 c11, .slice B11 m11 d11] 24) = v := ⟨_, rfl⟩
  obtain ⟨g11, hg, hs, hb, hX, _⟩ := boxes0 w11 _ _ _ _ v11 hv
  have X11 := Lib.hid hX
  have HG11 := Lib.hid hg
  have HV11 := Lib.hid hv
  have st := nextB e11 hb
  replace hk := nextB hk st
  have R11 := Lib.hid (r11.below hb)
  clear hX hg hs hv hb e11 st r11
  obtain ⟨a0, a1, a2⟩ := HA.out _ hk
  rw [← HV11.out] at a0 a1 a2
  go_wp2_with fail
  rw [HV11.out, ← HG11.out, HAND.out]
  clear a0 a1 a2
  refine (N2.out _ hk).mono ?_
  rintro e w12 ⟨t12, A12, n12, c12, B12, m12, d12, rfl, r12, e12⟩
  obtain ⟨v12, hv⟩ : ∃ v, w12.alloc (.cells #[.bool t12, .slice A12 n12 c12, .slice B12 m12 d12] 24) = v := ⟨_, rfl⟩
  obtain ⟨g12, hg, hs, hb, hX, _⟩ := boxes0 w12 _ _ _ _ v12 hv
  have X12 := Lib.hid hX
  have HG12 := Lib.hid hg
  have HV12 := Lib.hid hv
  have st := nextB e12 hb
  replace hk := nextB hk st
  have R12 := Lib.hid (r12.below hb)
  replace X11 := Lib.hid (fun W (hW : Below v12.heap.size v12 W) => X11.out W (nextB st hW))
  replace R11 := Lib.hid (R11.out.below st)
  clear hX hg hs hv hb e12 st r12
  obtain ⟨a0, a1, a2⟩ := HA.out _ hk
  rw [← HV12.out] at a0 a1 a2
  go_wp2_with fail
  rw [HV12.out, ← HG12.out]
  clear a0 a1 a2
  refine (K1.out _ hk).mono ?_
  rintro e w13 ⟨t13, A13, n13, c13, B13, m13, d13, rfl, e13⟩
  obtain ⟨v13, hv⟩ : ∃ v, w13.alloc (.cells #[.bool t13, .slice A13 n13 c13, .slice B13 m13 d13] 24) = v := ⟨_, rfl⟩
  obtain ⟨g13, hg, hs, hb, hX, _⟩ := boxes0 w13 _ _ _ _ v13 hv
  have X13 := Lib.hid hX
  have HG13 := Lib.hid hg
  have HV13 := Lib.hid hv
  have st := nextB e13 hb
  replace hk := nextB hk st
  replace X11 := Lib.hid (fun W (hW : Below v13.heap.size v13 W) => X11.out W (nextB st hW))
  replace R11 := Lib.hid (R11.out.below st)
  replace X12 := Lib.hid (fun W (hW : Below v13.heap.size v13 W) => X12.out W (nextB st hW))
  replace R12 := Lib.hid (R12.out.below st)
  clear hX hg hs hv hb e13 st
  obtain ⟨a0, a1, a2⟩ := HA.out _ hk
  rw [← HV13.out] at a0 a1 a2
  go_wp2_with fail
  rw [HV13.out, ← HG13.out]
  clear a0 a1 a2
  refine (K2.out _).mono ?_
  rintro e w14 ⟨t14, A14, n14, c14, B14, m14, d14, rfl, e14⟩
  obtain ⟨v14, hv⟩ : ∃ v, w14.alloc (.cells #[.bool t14, .slice A14 n14 c14, .slice B14 m14 d14] 24) = v := ⟨_, rfl⟩
  obtain ⟨g14, hg, hs, hb, hX, _⟩ := boxes0 w14 _ _ _ _ v14 hv
  have X14 := Lib.hid hX
  have HG14 := Lib.hid hg
  have HV14 := Lib.hid hv
  have st := nextB e14 hb
  replace hk := nextB hk st
  replace X11 := Lib.hid (fun W (hW : Below v14.heap.size v14 W) => X11.out W (nextB st hW))
  replace R11 := Lib.hid (R11.out.below st)
  replace X12 := Lib.hid (fun W (hW : Below v14.heap.size v14 W) => X12.out W (nextB st hW))
  replace R12 := Lib.hid (R12.out.below st)
  replace X13 := Lib.hid (fun W (hW : Below v14.heap.size v14 W) => X13.out W (nextB st hW))
  clear hX hg hs hv hb e14 st
  replace la := la.below hk
  replace lb := lb.below hk
  replace hl := hl.below hk
  replace HA := Lib.hid (fun W (hW : Below v14.heap.size v14 W) => HA.out W (nextB hk hW))
  replace HB := Lib.hid (fun W (hW : Below v14.heap.size v14 W) => HB.out W (nextB hk hW))
  replace bw := nextB bw hk
  clear hk N1 N2 K1 K2
  have hk := Below.refl v14.heap.size v14
  obtain ⟨x0, x1, x2⟩ := X11.out _ hk
  obtain ⟨y0, y1, y2⟩ := X12.out _ hk
  rw [← HV14.out] at x0 x1 x2 y0 y1 y2
  go_wp2_with fail
  rw [HV14.out, ← HG14.out]
  clear x0 x1 x2 y0 y1 y2
  refine (sameT (R11.out.below hk) (R12.out.below hk)).mono ?_
  rintro e w21 ⟨rfl, e21⟩
  replace hk := nextB hk e21
  clear R11 R12 X11 X12 e21
  obtain ⟨a0, a1, a2⟩ := HA.out _ hk
  obtain ⟨b0, b1, b2⟩ := HB.out _ hk
  go_wp2_with fail
  clear a0 a1 a2 b0 b1 b2
  refine (agrees_r (hl.below hk) (la.below hk) (lb.below hk) (by decide) (by decide) (by decide) (by decide)).mono ?_
  rintro e w22 ⟨rfl, e22⟩
  replace hk := nextB hk e22
  obtain ⟨a0, a1, a2⟩ := HA.out _ hk
  obtain ⟨b0, b1, b2⟩ := HB.out _ hk
  go_wp2_with fail
  clear a0 a1 a2 b0 b1 b2
  refine (agrees_r (hl.below hk) (la.below hk) (la.below hk) (by decide) (by decide) (by decide) (by decide)).mono ?_
  rintro e w23 ⟨rfl, e23⟩
  replace hk := nextB hk e23
  clear e22 e23
  go_upto_region 11 with fail
  have hza : (ratText qa).size ≤ 84 := Nat.le_trans (ratText_size (la.parts (by decide)).1 (la.parts (by decide)).2) (by decide)
  have hzb : (ratText qb).size ≤ 84 := Nat.le_trans (ratText_size (lb.parts (by decide)).1 (lb.parts (by decide)).2) (by decide)
  have q47 : (tx ++ ⟨#[47]⟩ : ByteArray).size = tx.size + 1 := by rw [ByteArray.size_append]; rfl
  have z1 : ¬ 9223372036854775807 < 1 + tx.size := by omega
  have z2 : ¬ 9223372036854775807 < tx.size + 1 := by omega
  have z3 : ¬ 9223372036854775807 < tx.size + 1 + tx.size := by omega
  have z4 : ¬ 9223372036854775807 < 2 + tx.size := by omega
  have z5 : ¬ 9223372036854775807 < 5 + tx.size := by omega
  have z6 : ¬ 9223372036854775807 < (ratText qa).size + tx.size := by omega
  have z7 : ¬ 9223372036854775807 < 1 + (ratText qb).size := by omega
  have z8 : ¬ 9223372036854775807 < (tx ++ ⟨#[47]⟩ : ByteArray).size + tx.size := by omega
  replace hk := hk.drew
  refine wp_region_held_drew (S := (fun W => (W.cell? ⟨p, 0, none⟩ = some (.bool sa) ∧ W.cell? ⟨p, 1, none⟩ = some (.slice Aa na ca) ∧ W.cell? ⟨p, 2, none⟩ = some (.slice Ba ma da)) ∧ (W.cell? ⟨p + 1, 0, none⟩ = some (.bool sb) ∧ W.cell? ⟨p + 1, 1, none⟩ = some (.slice Ab nb cb) ∧ W.cell? ⟨p + 1, 2, none⟩ = some (.slice Bb mb db)))) (by kernel_rfl) ?_ (fun hHeld => ?_)
  · exact ⟨HA.out _ hk, HB.out _ hk⟩
  refine wpAnyH_take (i := 0) (oi := ⟨some 86, _, _, _, _, _⟩) (v := ?_) rfl (by kernel_rfl) (by kernel_rfl) (by kernel_rfl) (fun _ _ _ h => h) (Or.inl ⟨by rfl, ?_⟩) (by assumption) ?_
  rotate_left
  · intro w hSw
    (try dsimp only at hSw)
    go_simp
    try with_reducible rfl
  try simp only [Act.put, List.setIfInBounds_toArray, List.set_cons_zero, List.set_cons_succ]
  refine wpAnyH_take (i := 1) (oi := ⟨some 87, _, _, _, _, _⟩) (v := ?_) rfl (by kernel_rfl) (by kernel_rfl) (by kernel_rfl) (fun _ _ _ h => h) (Or.inl ⟨by rfl, ?_⟩) (by assumption) ?_
  rotate_left
  · intro w hSw
    (try dsimp only at hSw)
    go_simp
    try with_reducible rfl
  try simp only [Act.put, List.setIfInBounds_toArray, List.set_cons_zero, List.set_cons_succ]
  refine wpAnyH_take (i := 2) (oi := ⟨some 88, _, _, _, _, _⟩) (v := ?_) rfl (by kernel_rfl) (by kernel_rfl) (by kernel_rfl) (fun _ _ _ h => h) (Or.inl ⟨by rfl, ?_⟩) (by assumption) ?_
  rotate_left
  · intro w hSw
    (try dsimp only at hSw)
    go_simp
    try with_reducible rfl
  try simp only [Act.put, List.setIfInBounds_toArray, List.set_cons_zero, List.set_cons_succ]
  refine wpAnyH_take (i := 3) (oi := ⟨some 89, _, _, _, _, _⟩) (v := ?_) rfl (by kernel_rfl) (by kernel_rfl) (by kernel_rfl) (fun _ _ _ h => h) (Or.inl ⟨by rfl, ?_⟩) (by assumption) ?_
  rotate_left
  · intro w hSw
    (try dsimp only at hSw)
    go_simp
    try with_reducible rfl
  try simp only [Act.put, List.setIfInBounds_toArray, List.set_cons_zero, List.set_cons_succ]
  refine wpAnyH_take (i := 4) (oi := ⟨some 90, _, _, _, _, _⟩) (v := ?_) rfl (by kernel_rfl) (by kernel_rfl) (by kernel_rfl) (fun _ _ _ h => h) (Or.inl ⟨by rfl, ?_⟩) (by assumption) ?_
  rotate_left
  · intro w hSw
    (try dsimp only at hSw)
    go_simp
    try with_reducible rfl
  try simp only [Act.put, List.setIfInBounds_toArray, List.set_cons_zero, List.set_cons_succ]
  refine wpAnyH_take (i := 5) (oi := ⟨some 91, _, _, _, _, _⟩) (v := ?_) rfl (by kernel_rfl) (by kernel_rfl) (by kernel_rfl) (fun _ _ _ h => h) (Or.inl ⟨by rfl, ?_⟩) (by assumption) ?_
  rotate_left
  · intro w hSw
    (try dsimp only at hSw)
    go_simp
    try with_reducible rfl
  try simp only [Act.put, List.setIfInBounds_toArray, List.set_cons_zero, List.set_cons_succ]
  refine wpAnyH_take (i := 6) (oi := ⟨some 92, _, _, _, _, _⟩) (v := ?_) rfl (by kernel_rfl) (by kernel_rfl) (by kernel_rfl) (fun _ _ _ h => h) (Or.inl ⟨by rfl, ?_⟩) (by assumption) ?_
  rotate_left
  · intro w hSw
    (try dsimp only at hSw)
    go_simp
    try with_reducible rfl
  try simp only [Act.put, List.setIfInBounds_toArray, List.set_cons_zero, List.set_cons_succ]
  refine wpAnyH_take (i := 8) (oi := ⟨some 94, _, _, _, _, _⟩) (v := ?_) rfl (by kernel_rfl) (by kernel_rfl) (by kernel_rfl) (fun _ _ _ h => h) (Or.inl ⟨by rfl, ?_⟩) (by assumption) ?_
  rotate_left
  · intro w hSw
    (try dsimp only at hSw)
    go_simp
    try with_reducible rfl
  try simp only [Act.put, List.setIfInBounds_toArray, List.set_cons_zero, List.set_cons_succ]
  refine wpAnyH_take (i := 10) (oi := ⟨some 96, _, _, _, _, _⟩) (v := ?_) rfl (by kernel_rfl) (by kernel_rfl) (by kernel_rfl) (fun _ _ _ h => h) (Or.inl ⟨by rfl, ?_⟩) (by assumption) ?_
  rotate_left
  · intro w hSw
    (try dsimp only at hSw)
    go_simp
    try with_reducible rfl
  try simp only [Act.put, List.setIfInBounds_toArray, List.set_cons_zero, List.set_cons_succ]
  refine wpAnyH_take (i := 12) (oi := ⟨some 98, _, _, _, _, _⟩) (v := ?_) rfl (by kernel_rfl) (by kernel_rfl) (by kernel_rfl) (fun _ _ _ h => h) (Or.inl ⟨by rfl, ?_⟩) (by assumption) ?_
  rotate_left
  · intro w hSw
    (try dsimp only at hSw)
    go_simp
    try with_reducible rfl
  try simp only [Act.put, List.setIfInBounds_toArray, List.set_cons_zero, List.set_cons_succ]
  refine wpAnyH_take (i := 15) (oi := ⟨some 101, _, _, _, _, _⟩) (v := ?_) rfl (by kernel_rfl) (by kernel_rfl) (by kernel_rfl) (fun _ _ _ h => h) (Or.inl ⟨by rfl, ?_⟩) (by assumption) ?_
  rotate_left
  · intro w hSw
    (try dsimp only at hSw)
    go_simp
    try with_reducible rfl
  try simp only [Act.put, List.setIfInBounds_toArray, List.set_cons_zero, List.set_cons_succ]
  refine wpAnyH_take (i := 16) (oi := ⟨some 102, _, _, _, _, _⟩) (v := ?_) rfl (by kernel_rfl) (by kernel_rfl) (by kernel_rfl) (fun _ _ _ h => h) (Or.inl ⟨by rfl, ?_⟩) (by assumption) ?_
  rotate_left
  · intro w hSw
    (try dsimp only at hSw)
    go_simp
    try with_reducible rfl
  try simp only [Act.put, List.setIfInBounds_toArray, List.set_cons_zero, List.set_cons_succ]
  refine wpAnyH_take (i := 17) (oi := ⟨some 103, _, _, _, _, _⟩) (v := ?_) rfl (by kernel_rfl) (by kernel_rfl) (by kernel_rfl) (fun _ _ _ h => h) (Or.inl ⟨by rfl, ?_⟩) (by assumption) ?_
  rotate_left
  · intro w hSw
    (try dsimp only at hSw)
    go_simp
    try with_reducible rfl
  try simp only [Act.put, List.setIfInBounds_toArray, List.set_cons_zero, List.set_cons_succ]
  refine wpAnyH_take (i := 18) (oi := ⟨some 104, _, _, _, _, _⟩) (v := ?_) rfl (by kernel_rfl) (by kernel_rfl) (by kernel_rfl) (fun _ _ _ h => h) (Or.inl ⟨by rfl, ?_⟩) (by assumption) ?_
  rotate_left
  · intro w hSw
    (try dsimp only at hSw)
    go_simp
    try with_reducible rfl
  try simp only [Act.put, List.setIfInBounds_toArray, List.set_cons_zero, List.set_cons_succ]
  refine wpAnyH_ready (rs := [7]) (by kernel_rfl) (by simp) ?_
  refine AllReadyH.cons (o := ⟨some 93, _, _, _, _, _⟩) rfl (fun K hK => ?_) AllReadyH.nil
  go_simp
  go_at_call 29
  refine (refFormatR (la.below hk) (by decide) (by decide)).mono ?_
  rintro e w31 ⟨rfl, e31⟩
  replace hk := nextB hk e31
  clear e31
  go_wp2_with fail
  refine hK.out _ _ ⟨HA.out _ hk, HB.out _ hk⟩ (fun hHeld => ?_)
  clear hK K
  try simp only [Act.put, List.setIfInBounds_toArray, List.set_cons_zero, List.set_cons_succ]
  refine wpAnyH_take (i := 9) (oi := ⟨some 95, _, _, _, _, _⟩) (v := ?_) rfl (by kernel_rfl) (by kernel_rfl) (by kernel_rfl) (fun _ _ _ h => h) (Or.inl ⟨by rfl, ?_⟩) (by assumption) ?_
  rotate_left
  · intro w hSw
    (try dsimp only at hSw)
    go_simp
    try with_reducible rfl
  try simp only [Act.put, List.setIfInBounds_toArray, List.set_cons_zero, List.set_cons_succ]
  refine wpAnyH_ready (rs := [11]) (by kernel_rfl) (by simp) ?_
  refine AllReadyH.cons (o := ⟨some 97, _, _, _, _, _⟩) rfl (fun K hK => ?_) AllReadyH.nil
  go_simp
  go_at_call 29
  refine (refFormatR (la.below hk) (by decide) (by decide)).mono ?_
  rintro e w32 ⟨rfl, e32⟩
  replace hk := nextB hk e32
  clear e32
  go_wp2_with fail
  refine hK.out _ _ ⟨HA.out _ hk, HB.out _ hk⟩ (fun hHeld => ?_)
  clear hK K
  try simp only [Act.put, List.setIfInBounds_toArray, List.set_cons_zero, List.set_cons_succ]
  refine wpAnyH_ready (rs := [13]) (by kernel_rfl) (by simp) ?_
  refine AllReadyH.cons (o := ⟨some 99, _, _, _, _, _⟩) rfl (fun K hK => ?_) AllReadyH.nil
  go_simp
  go_at_call 29
  refine (refFormatR (lb.below hk) (by decide) (by decide)).mono ?_
  rintro e w33 ⟨rfl, e33⟩
  replace hk := nextB hk e33
  clear e33
  go_wp2_with fail
  refine hK.out _ _ ⟨HA.out _ hk, HB.out _ hk⟩ (fun hHeld => ?_)
  clear hK K
  try simp only [Act.put, List.setIfInBounds_toArray, List.set_cons_zero, List.set_cons_succ]
  refine wpAnyH_take (i := 14) (oi := ⟨some 100, _, _, _, _, _⟩) (v := ?_) rfl (by kernel_rfl) (by kernel_rfl) (by kernel_rfl) (fun _ _ _ h => h) (Or.inl ⟨by rfl, ?_⟩) (by assumption) ?_
  rotate_left
  · intro w hSw
    (try dsimp only at hSw)
    go_simp
    try with_reducible rfl
  try simp only [Act.put, List.setIfInBounds_toArray, List.set_cons_zero, List.set_cons_succ]
  refine wpAnyH_ready (rs := [19]) (by kernel_rfl) (by simp) ?_
  refine AllReadyH.cons (o := ⟨some 105, _, _, _, _, _⟩) rfl (fun K hK => ?_) AllReadyH.nil
  go_simp
  skip
  refine hK.out _ _ ⟨HA.out _ (hk.alloc hk.size _), HB.out _ (hk.alloc hk.size _)⟩ (fun hHeld => ?_)
  clear hK K
  try simp only [Act.put, List.setIfInBounds_toArray, List.set_cons_zero, List.set_cons_succ]
  refine wpAnyH_take (i := 20) (oi := ⟨some 18, _, _, _, _, _⟩) (v := ?_) rfl (by kernel_rfl) (by kernel_rfl) (by kernel_rfl) (fun _ _ _ h => h) (Or.inl ⟨by rfl, ?_⟩) (by assumption) ?_
  rotate_left
  · intro w hSw
    (try dsimp only at hSw)
    go_simp
    try with_reducible rfl
  try simp only [Act.put, List.setIfInBounds_toArray, List.set_cons_zero, List.set_cons_succ]
  refine wpAnyH_done (by kernel_rfl) ?_ _
  obtain ⟨u2, hu2⟩ : ∃ u2, w33.alloc (.cells #[.string (⟨#[45]⟩ ++ tx), .string (tx ++ ⟨#[47]⟩ ++ tx), .string (ratText qa ++ tx), .string (ratText qa), .string (⟨#[48]⟩ ++ ratText qb), .string (⟨#[55, 47]⟩ ++ tx), .string (⟨#[45, 48, 47, 48, 48]⟩ ++ tx)] 9) = u2 := ⟨_, rfl⟩
  obtain ⟨gs, hgs⟩ : ∃ gs, gs = w33.heap.size := ⟨_, rfl⟩
  have bst : Below w33.heap.size w33 u2 := by rw [← hu2]; exact (Below.refl _ _).alloc (Nat.le_refl _) _
  obtain ⟨TT, hTT⟩ : ∃ TT : Nat → ByteArray, TT = fun i => ([⟨#[45]⟩ ++ tx, tx ++ ⟨#[47]⟩ ++ tx, ratText qa ++ tx, ratText qa, ⟨#[48]⟩ ++ ratText qb, ⟨#[55, 47]⟩ ++ tx, ⟨#[45, 48, 47, 48, 48]⟩ ++ tx] : List ByteArray).getD i ByteArray.empty := ⟨_, rfl⟩
  have hsz : ∀ i, i < 7 → (TT i).size ≤ 1000000 := by
    intro i hi
    subst hTT
    have q1 : (⟨#[45]⟩ : ByteArray).size = 1 := rfl
    have q2 : (⟨#[47]⟩ : ByteArray).size = 1 := rfl
    have q3 : (⟨#[48]⟩ : ByteArray).size = 1 := rfl
    have q4 : (⟨#[55, 47]⟩ : ByteArray).size = 2 := rfl
    have q5 : (⟨#[45, 48, 47, 48, 48]⟩ : ByteArray).size = 5 := rfl
    match i, hi with
    | 0, _ | 1, _ | 2, _ | 3, _ | 4, _ | 5, _ | 6, _ => simp only [List.getD_cons_zero, List.getD_cons_succ, ByteArray.size_append]; omega
  have hcell : ∀ i, i < 7 → ∀ W, Below u2.heap.size u2 W → W.cell? ⟨gs, i, none⟩ = some (.string (TT i)) := by
    intro i hi W hW
    rw [hW.cell (p := ⟨gs, i, none⟩) (by rw [← hu2, hgs, World.size_alloc]; exact Nat.lt_succ_self _), ← hu2, hgs, World.cell?_alloc_new, hTT]
    match i, hi with
    | 0, _ | 1, _ | 2, _ | 3, _ | 4, _ | 5, _ | 6, _ => rfl
  have HS := Lib.hid hcell
  have HZ := Lib.hid hsz
  have HU2 := Lib.hid hu2
  have HGS := Lib.hid hgs
  have bwu := nextB bw (nextB hk bst)
  have hlu := hl.below (nextB hk bst)
  clear hcell hsz hu2 hgs hTT bst hk bw hl la lb hza hzb HA HB HAND X13 X14
  go_upto_region 12 with fail
  rw [HU2.out, ← HGS.out]
  go_wp2
  go_loopw [19] (fun iv wr => ∃ i : Nat, i ≤ 7 ∧ iv = .int .i64 i ∧ Below u2.heap.size u2 wr) (fun iv _ => 7 - (intOf iv).toNat)
  case atStart => exact ⟨0, by omega, rfl, Below.refl _ _⟩
  case round =>
    obtain ⟨i, hi, rfl, hk⟩ := hrel
    by_cases hlt : i < 7
    · have hi2 : (i : Int) < 7 := by omega
      have hi3 : (0 : Int) ≤ i := by omega
      have hc := HS.out i hlt wr hk
      have hsi := HZ.out i hlt
      obtain ⟨si, hsi2⟩ : ∃ si, TT i = si := ⟨_, rfl⟩
      rw [hsi2] at hc hsi
      obtain ⟨bp, xp, yp, ep, hP1, hP2⟩ := texts_both (hlu.below hk) si hsi
      have P1 := Lib.hid hP1
      have P2 := Lib.hid hP2
      clear hP1 hP2 hsi2 hsi
      go_wp2_with fail
      refine (P1.out wr (Below.refl _ _)).mono ?_
      rintro e w41 ⟨t41, A41, n41, c41, B41, m41, d41, rfl, r41, e41⟩
      obtain ⟨v41, hv⟩ : ∃ v, w41.alloc (.cells #[.bool t41, .slice A41 n41 c41, .slice B41 m41 d41] 24) = v := ⟨_, rfl⟩
      obtain ⟨g41, hg, hs, hb, hX, _⟩ := boxes0 w41 _ _ _ _ v41 hv
      have X41 := Lib.hid hX
      have HG41 := Lib.hid hg
      have HV41 := Lib.hid hv
      have R41 := Lib.hid (r41.below hb)
      have st := nextB e41 hb
      have hc2 : v41.cell? ⟨gs, i, none⟩ = some (.string si) := by rw [st.cell (p := ⟨gs, i, none⟩) (World.block_lt_of_cell? wr _ hc)]; exact hc
      clear hX hg hs hb r41 e41 hc
      rw [← hv] at hc2
      clear hv
      go_wp2_with fail
      rw [HV41.out, ← HG41.out]
      clear hc2
      refine (P2.out v41 st).mono ?_
      rintro e w42 ⟨t42, A42, n42, c42, B42, m42, d42, rfl, r42, e42⟩
      obtain ⟨v42, hv⟩ : ∃ v, w42.alloc (.cells #[.bool t42, .slice A42 n42 c42, .slice B42 m42 d42] 24) = v := ⟨_, rfl⟩
      obtain ⟨g42, hg, hs, hb, hX, _⟩ := boxes0 w42 _ _ _ _ v42 hv
      have X42 := Lib.hid hX
      have HG42 := Lib.hid hg
      have HV42 := Lib.hid hv
      have R42 := Lib.hid (r42.below hb)
      have st2 := nextB e42 hb
      obtain ⟨x0, x1, x2⟩ := X41.out _ st2
      obtain ⟨y0, y1, y2⟩ := X42.out _ (Below.refl _ _)
      rw [← hv] at x0 x1 x2 y0 y1 y2
      clear hX hg hs hb hv r42 e42
      go_wp2_with fail
      rw [HV42.out, ← HG42.out]
      clear x0 x1 x2 y0 y1 y2
      refine (sameT (R41.out.below st2) R42.out).mono ?_
      rintro e w43 ⟨rfl, e43⟩
      have hk2 := nextB hk (nextB st (nextB st2 e43))
      clear e43 st st2 hk
      go_wp2
      go_roundw
      case rel => exact ⟨i + 1, by omega, by go_num, hk2⟩
      case measure => simp [intOf] <;> omega
    · obtain rfl : i = 7 := by omega
      go_wp2_with fail
      refine (awake2_any wr (hlu.below hk)).mono ?_
      rintro e w44 ⟨rfl, e44⟩
      go_wp2
      go_ret
      exact ⟨rfl, nextB bwu (nextB hk e44)⟩
end Go.Proofs.YtekalaihfmfkkaaGreatDoor
