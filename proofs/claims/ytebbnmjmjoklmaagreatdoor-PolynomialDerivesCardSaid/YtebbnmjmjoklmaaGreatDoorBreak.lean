/-
  (*slices.xorshift).Next, slices.nextPowerOfTwo and slices.breakPatternsCmpFunc over a row of terms.
-/
import Derived.Test.YtebbnmjmjoklmaaGreatDoorReverse
import Derived.Test.YtebbnmjmjoklmaaGreatDoorRowBox
import Derived.Sort.Walk7a
import Derived.Deep.CutBlock
import Derived.Deep.DeepCutAuto
namespace Go.Proofs.YtebbnmjmjoklmaaGreatDoor
open Go Go.RowKit Go.WideMaps Go.Sort
set_option maxRecDepth 20000

set_option maxHeartbeats 4000000 in
theorem next_x {b X : Nat} {w : World} (hX : X < 18446744073709551616) (hc : w.cell? ⟨b, 0, none⟩ = some (.int .u64 X)) (hf : w.frozen? ⟨b, 0, none⟩ = false) :
    Calls Tryz.prog 138 #[.pointer (some ⟨b, 0, none⟩)] w fun e w' => e = .returned (.int .u64 (xorNextN X : Nat)) ∧ w'.cell? ⟨b, 0, none⟩ = some (.int .u64 (xorNextN X : Nat)) ∧ w'.frozen? ⟨b, 0, none⟩ = false ∧ Keeps b b b w w' := by
  obtain ⟨y, hy⟩ : ∃ y : Nat, X ^^^ (X * 8192 % 18446744073709551616) = y := ⟨_, rfl⟩
  obtain ⟨z, hz⟩ : ∃ z : Nat, y ^^^ (y / 128) = z := ⟨_, rfl⟩
  obtain ⟨v, hv⟩ : ∃ v : Nat, z ^^^ (z * 131072 % 18446744073709551616) = v := ⟨_, rfl⟩
  have y1 : y < 18446744073709551616 := by rw [← hy]; exact Nat.xor_lt_two_pow (n := 64) (by omega) (by omega)
  have z1 : z < 18446744073709551616 := by rw [← hz]; exact Nat.xor_lt_two_pow (n := 64) (by omega) (by omega)
  have ey : bits .xor .u64 (X : Int) (IntKind.u64.wrap ((X : Int) * 8192)) = (y : Int) := by
    have e : IntKind.u64.wrap ((X : Int) * 8192) = ((X * 8192 % 18446744073709551616 : Nat) : Int) := by rw [IntKind.wrap_u64]; omega
    rw [e, bits_xor_u64_nat _ _ hX (by omega), hy]
  have ez : bits .xor .u64 (y : Int) ((y : Int) / 128) = (z : Int) := by
    have e : (y : Int) / 128 = ((y / 128 : Nat) : Int) := by omega
    rw [e, bits_xor_u64_nat _ _ y1 (by omega), hz]
  have ev : bits .xor .u64 (z : Int) (IntKind.u64.wrap ((z : Int) * 131072)) = (v : Int) := by
    have e : IntKind.u64.wrap ((z : Int) * 131072) = ((z * 131072 % 18446744073709551616 : Nat) : Int) := by rw [IntKind.wrap_u64]; omega
    rw [e, bits_xor_u64_nat _ _ z1 (by omega), hv]
  have hr : xorNextN X = v := by unfold xorNextN; simp only [hy, hz, hv]
  rw [hr]
  clear hy hz hv hr
  have h1 := World.cell?_setCell_same w ⟨b, 0, none⟩ (.int .u64 y) hc
  have h2 := World.cell?_setCell_same (w.setCell ⟨b, 0, none⟩ (.int .u64 y)) ⟨b, 0, none⟩ (.int .u64 z) h1
  have h3 := World.cell?_setCell_same ((w.setCell ⟨b, 0, none⟩ (.int .u64 y)).setCell ⟨b, 0, none⟩ (.int .u64 z)) ⟨b, 0, none⟩ (.int .u64 v) h2
  have H3 := Lib.hid h3
  have HF := Lib.hid hf
  clear h3
  go_enter Tryz.func138, Tryz.ntmps138
  go_wp2_with fail
  go_region
  go_wp2_with fail
  go_region
  go_wp2_with fail
  go_region
  go_wp2
  go_ret
  refine ⟨rfl, H3.out, ?_, ?_⟩
  · exact (World.frozen?_setCell ..).trans ((World.frozen?_setCell ..).trans ((World.frozen?_setCell ..).trans HF.out))
  · exact ⟨rfl, rfl, rfl, by simp [World.setCell], fun k hk h _ _ => (Below.heap_setCell _ _ _ _ h).trans ((Below.heap_setCell _ _ _ _ h).trans (Below.heap_setCell _ _ _ _ h))⟩

theorem npow_x {L : Nat} {w : World} (hL : L ≤ 255) : Calls Tryz.prog 137 #[.int .i64 L] w fun e w' => e = .returned (.int .u64 ((1 <<< bitsLen L : Nat) : Int)) ∧ w' = w := by
  have HB : Hid (∀ w, Calls Tryz.prog 85 #[.int .u64 (L : Int)] w fun e w' => e = .returned (.int .i64 (bitsLen L : Nat)) ∧ w' = w) := fun w => by
    have h := len_small (L : Int) w (by omega) (by omega)
    rw [Int.toNat_natCast, bitLen_eq _ (by omega)] at h
    exact h.mono fun e w' hh => ⟨hh.1, hh.2.symm⟩
  have hk : bitsLen L ≤ 62 := (bitsLen_le_iff L 62).2 (by omega)
  have hp := wrap_two_pow (bitsLen L) hk
  have hw : IntKind.u64.wrap (L : Int) = L := by rw [IntKind.wrap_u64]; omega
  go_enter Tryz.func137, Tryz.ntmps137
  go_wp2_with fail
  refine (HB.out _).mono ?_
  rintro e w' ⟨rfl, rfl⟩
  go_wp2
  go_ret
  exact ⟨rfl, rfl⟩

theorem Keeps.cell {p b g : Nat} {w w' : World} (h : Keeps p b g w w') {q : Addr} (hq : q.block < w.heap.size) (h1 : q.block ≠ p) (h2 : q.block ≠ b) (h3 : q.block ≠ g) : w'.cell? q = w.cell? q := World.cell?_of_block (h.block _ hq h1 h2 h3)
theorem Keeps.frozen {p b g : Nat} {w w' : World} (h : Keeps p b g w w') {q : Addr} (hq : q.block < w.heap.size) (h1 : q.block ≠ p) (h2 : q.block ≠ b) (h3 : q.block ≠ g) : w'.frozen? q = w.frozen? q := World.frozen?_of_block (h.block _ hq h1 h2 h3)
theorem Keeps.fresh {g x : Nat} {w u u' : World} (h : Keeps g g g w u) (k : Keeps x x x u u') (hx : w.heap.size ≤ x) : Keeps g g g w u' :=
  ⟨k.os.trans h.os, k.tape.trans h.tape, k.output.trans h.output, Nat.le_trans h.size k.size, fun i hi h1 h2 h3 => (k.block i (Nat.lt_of_lt_of_le hi h.size) (by omega) (by omega) (by omega)).trans (h.block i hi h1 h2 h3)⟩
/-- The place of the other term. -/
def bpO (L M r : Nat) : Nat := if r &&& (M - 1) ≥ L then (r &&& (M - 1)) - L else r &&& (M - 1)
/-- k rounds are left: the place, the state of the generator, the row. -/
def bpLeft (a L M : Nat) : Nat → Nat → Nat → Array Q8 → Array Q8
  | 0, _, _, d => d
  | k + 1, ix, X, d => bpLeft a L M k (ix + 1) (xorNextN X) (swp d ix (a + bpO L M (xorNextN X)))
theorem bp_left {d : Array Q8} {a b L M : Nat} (hL : b - a = L) (h8 : 8 ≤ L) (h64 : L < 18446744073709551616) (hM : 1 <<< bitsLen L = M) : breakPatterns d a b = bpLeft a L M 3 (a + L / 4 * 2 - 1) L d := by
  subst hL; subst hM
  have e0 : (UInt64.ofNat (b - a)).toNat = b - a := by rw [UInt64.toNat_ofNat']; exact Nat.mod_eq_of_lt h64
  unfold breakPatterns
  simp only [if_pos h8, bpLeft, bpO, breakStep, xorNext_toNat, e0, ge_iff_le]
theorem bpO_lt {L r : Nat} (h : 0 < L) : bpO L (1 <<< bitsLen L) r < L := by
  have h1 : 1 <<< bitsLen L ≤ 2 * L := by rw [Nat.one_shiftLeft]; exact two_pow_bitsLen_le h
  have h2 : r &&& (1 <<< bitsLen L - 1) ≤ 1 <<< bitsLen L - 1 := Nat.and_le_right
  unfold bpO
  split <;> omega

set_option maxHeartbeats 8000000 in
theorem break_x {w : World} {base g cap a b : Nat} {d : Array Q8} (hrow : w.ownsRow base 47 11 (.slice (some ⟨g, 0, none⟩) d.size cap) d.size (rowOf (tms (cs8 d)))) (hn : d.size < 1000000) (hab : 8 ≤ b - a) (h255 : b - a ≤ 255) (hb : b ≤ d.size) :
    Calls Tryz.prog 113 #[.slice (some ⟨g, 0, none⟩) d.size cap, .int .i64 a, .int .i64 b, .func (.func 65) #[.int .i64 (-1)] #[]] w fun e w' => e = .returned (.tuple #[]) ∧ w'.ownsRow base 47 11 (.slice (some ⟨g, 0, none⟩) d.size cap) d.size (rowOf (tms (cs8 (breakPatterns d a b)))) ∧ Keeps g g g w w' := by
  obtain ⟨n, hlen⟩ : ∃ n, d.size = n := ⟨_, rfl⟩
  obtain ⟨L, hL⟩ : ∃ L, b - a = L := ⟨_, rfl⟩
  obtain ⟨M, hM⟩ : ∃ M, 1 <<< bitsLen L = M := ⟨_, rfl⟩
  obtain ⟨R, hR⟩ : ∃ R, breakPatterns d a b = R := ⟨_, rfl⟩
  rw [hR]
  rw [hlen] at hrow hn hb ⊢
  rw [hL] at hab h255
  obtain ⟨i0, hi0⟩ : ∃ i0, a + L / 4 * 2 - 1 = i0 := ⟨_, rfl⟩
  have HR : Hid (bpLeft a L M 3 i0 L d = R) := by show _ = _; rw [← hR, bp_left hL hab (by omega) hM, hi0]
  have HBO : Hid (∀ r, bpO L M r < L) := fun r => by rw [← hM]; exact bpO_lt (by omega)
  have hM2 : M ≤ 2000000 := by
    have : 1 <<< bitsLen L ≤ 2 * L := by rw [Nat.one_shiftLeft]; exact two_pow_bitsLen_le (by omega)
    omega
  have hM1 : 1 ≤ M := by rw [← hM, Nat.one_shiftLeft]; exact Nat.two_pow_pos _
  have HNP := Lib.hid (fun w => npow_x (L := L) (w := w) (by omega))
  rw [hM] at HNP
  have hbL : (b : Int) - a = L := by omega
  have haI : (a : Int) < 1000000 := by omega
  have ha0 : (0 : Int) ≤ a := by omega
  have hLI : (8 : Int) ≤ L := by omega
  have hL1 : (L : Int) < 1000000 := by omega
  have hiI : (a : Int) + (L : Int) / 4 * 2 - 1 = i0 := by omega
  have hi0b : i0 + 3 ≤ a + L := by omega
  have haL : a + L ≤ n := by omega
  obtain ⟨gx, hgx⟩ : ∃ gx, w.heap.size = gx := ⟨_, rfl⟩
  obtain ⟨v, hv⟩ : ∃ v, w.alloc (.cells #[.int .u64 L] 174) = v := ⟨_, rfl⟩
  have hgg : g < gx := by rw [← hgx]; exact (hrow.lt g rfl).2
  have hbv : Below gx w v := by rw [← hv]; exact (Below.refl gx w).alloc (Nat.le_of_eq hgx.symm) _
  have c0 : v.cell? ⟨gx, 0, none⟩ = some (.int .u64 L) := by
    rw [← hv, ← hgx]
    exact World.cell?_alloc_new (w := w) #[.int .u64 L] 174 0
  have f0 : v.frozen? ⟨gx, 0, none⟩ = false := by
    rw [← hv, ← hgx]
    exact World.frozen?_alloc_new (w := w) #[.int .u64 L] 174 0
  have hgv : gx < v.heap.size := by rw [← hv, ← hgx]; simp
  have hbv' : Below w.heap.size w v := by rw [hgx]; exact hbv
  have HV := Lib.hid hv
  have HGX := Lib.hid hgx
  have HC := Lib.hid (And.intro c0 f0)
  have HW := Lib.hid (ownsRow_below hrow hbv')
  have HK : Hid (Keeps g g g w v) := Keeps.below hbv'
  have hgg : gx ≠ g := by omega
  have hwg : w.heap.size ≤ gx := Nat.le_of_eq hgx
  have hdi := hlen
  clear hM hL hR hrow hlen hi0 hgx hv hbv hbv' c0 f0
  have hmix : Tryz.prog.follows .mixedOrders = true := by kernel_rfl
  go_enter Tryz.func113, Tryz.ntmps113
  go_upto_region 1 with fail
  try rw [hbL]
  go_upto_region 3 with fail
  try rw [HGX.out, HV.out]
  go_wp2_with fail
  refine (HNP.out _).mono ?_
  rintro e w2 ⟨rfl, e2⟩
  subst e2
  clear HNP hbL HV HGX
  go_upto_block 0 with fail
  try rw [hiI]
  have hub : (a : Int) + (L : Int) / 4 * 2 + 1 = (i0 : Int) + 2 := by omega
  clear hiI
  go_wp2_with fail
  go_loopw [11] (fun iv wq => ∃ (k X ix : Nat) (di : Array Q8), iv = .int .i64 ix ∧ ix + k = i0 + 3 ∧ X < 18446744073709551616 ∧ di.size = n ∧ Hid (bpLeft a L M k ix X di = R) ∧ Hid (wq.cell? ⟨gx, 0, none⟩ = some (.int .u64 X) ∧ wq.frozen? ⟨gx, 0, none⟩ = false) ∧ gx < wq.heap.size ∧ Hid (wq.ownsRow base 47 11 (.slice (some ⟨g, 0, none⟩) n cap) n (rowOf (tms (cs8 di)))) ∧ Hid (Keeps g g g w wq)) (fun iv _ => i0 + 3 - (intOf iv).toNat)
  case atStart => exact ⟨3, L, i0, d, rfl, rfl, by omega, hdi, HR, HC, hgv, HW, HK⟩
  case round =>
    clear hdi
    obtain ⟨k, X, ix, di, rfl, hix, hX, hdi, HL, HC2, hg2, HW2, HK2⟩ := hrel
    clear HR HC HW HK hgv
    have ixI : (ix : Int) ≤ (i0 : Int) + 3 := by omega
    have ix0 : (0 : Int) ≤ ix := by omega
    cases k with
    | zero =>
      have hend : ¬ (ix : Int) ≤ (i0 : Int) + 2 := by omega
      have hRR : di = R := HL.out
      subst hRR
      clear hix
      go_wp2
      go_end0
      exact ⟨rfl, HW2.out, HK2.out⟩
    | succ k =>
      have hend : (ix : Int) ≤ (i0 : Int) + 2 := by omega
      have HIX := Lib.hid hix
      have hixn : ix < n := by omega
      clear hix
      obtain ⟨Y, hY⟩ : ∃ Y, xorNextN X = Y := ⟨_, rfl⟩
      have hY1 : Y < 18446744073709551616 := by rw [← hY]; exact xorNextN_lt X hX
      obtain ⟨o, ho⟩ : ∃ o, bpO L M Y = o := ⟨_, rfl⟩
      have hoL : o < L := by rw [← ho]; exact HBO.out Y
      have HLN : Hid (bpLeft a L M k (ix + 1) Y (swp di ix (a + o)) = R) := by
        show _ = _
        rw [← HL.out, ← ho, ← hY]; rfl
      obtain ⟨o0, ho0⟩ : ∃ o0, Y &&& (M - 1) = o0 := ⟨_, rfl⟩
      have hoM : o0 ≤ M - 1 := by rw [← ho0]; exact Nat.and_le_right
      have hand : bits .and .u64 (Y : Int) ((M : Int) - 1) = (o0 : Int) := by
        rw [show (M : Int) - 1 = ((M - 1 : Nat) : Int) by omega, bits_and_u64_nat _ _ hY1 (by omega), ho0]
      have hcase : o = if o0 ≥ L then o0 - L else o0 := by rw [← ho]; unfold bpO; rw [ho0]
      have HNX := Lib.hid (next_x hX HC2.out.1 HC2.out.2)
      rw [hY] at HNX
      have HCA := Lib.hid hcase
      clear hY ho ho0 HL HC2 HBO hcase
      go_wp2_with fail
      refine HNX.out.mono ?_
      rintro e w5 ⟨rfl, c5, f5, k5⟩
      have HW5 := Lib.hid (ownsRow_keep HW2.out k5 hgg.symm hgg.symm hgg.symm)
      have HK5 := Lib.hid (HK2.out.fresh k5 hwg)
      have hg5 := Nat.lt_of_lt_of_le hg2 k5.size
      clear HNX HW2 HK2 k5
      go_upto_if 45 with fail
      go_cut [12] (fun u12 wx => u12 = .int .i64 o ∧ wx = w5)
      case first =>
        have hc := HCA.out
        clear hub hand HLN hoM hX hY1 hM1 hM2 c5 f5 hg5 HW5 HK5 HCA hixn hdi
        by_cases hoL0 : L ≤ o0
        · rw [if_pos hoL0] at hc
          have ho1 : (o0 : Int) - L = o := by omega
          rw [decide_eq_true hoL0]
          clear hc hoL0
          go_wp2
          go_meet
          exact ⟨by first | rfl | go_num | rw [ho1], rfl⟩
        · rw [if_neg hoL0] at hc
          rw [decide_eq_false hoL0]
          subst hc
          clear hoL0
          go_wp2
          go_meet
          exact ⟨rfl, rfl⟩
      case rest =>
        obtain ⟨rfl, rfl⟩ := hcut
        have q1 : (a : Int) + o < n := by omega
        have q0 : (0 : Int) ≤ (a : Int) + o := by omega
        have hw2 : IntKind.i64.wrap ((a : Int) + o) = (a : Int) + o := by rw [IntKind.wrap_i64]; omega
        have p1 : (ix : Int) < n := by omega
        clear hand HCA hoM
        by_cases hsm : ix = a + o
        · subst hsm
          have qt : ((a : Int) + o).toNat = a + o := by omega
          have hsj : (tms (cs8 di))[a + o]? = some di[a + o]!.1.1 := tms8_get (by omega)
          obtain ⟨q2, k2⟩ := swap_row (i := a + o) (j := a + o) HW5.out hdi (by omega) (by omega)
          obtain ⟨xj, hxj⟩ : ∃ x, di[a + o]! = x := ⟨_, rfl⟩
          rw [hxj] at hsj q2 k2
          obtain ⟨x0, x1, x2, x3, x4, x5, x6, x7, hX⟩ := eight xj.2
          obtain ⟨c0, c1, c2, c3, c4, c5, c6, c7, c8, c9, c10⟩ := row_cells HW5.out (tms8 di) (by rw [tms8_length, hdi]) hsj hX
          have exj : xj.1.1.cells = [.int .i64 x0, .int .i64 x1, .int .i64 x2, .int .i64 x3, .int .i64 x4, .int .i64 x5, .int .i64 x6, .int .i64 x7, .bool xj.1.1.s, .slice xj.1.1.A xj.1.1.n xj.1.1.c, .slice xj.1.1.B xj.1.1.m xj.1.1.d] := by unfold Tm.cells; rw [hX]; rfl
          rw [exj] at q2 k2
          simp only [World.setCells, Nat.add_assoc, Nat.reduceAdd] at q2 k2
          have HQ := Lib.hid q2
          have HKN := Lib.hid ((Keeps.refl g g g wc).trans k2)
          have z0 := HW5.out.frozenAt ((a + o) * 11)
          have z1 := HW5.out.frozenAt ((a + o) * 11 + 1)
          have z2 := HW5.out.frozenAt ((a + o) * 11 + 2)
          have z3 := HW5.out.frozenAt ((a + o) * 11 + 3)
          have z4 := HW5.out.frozenAt ((a + o) * 11 + 4)
          have z5 := HW5.out.frozenAt ((a + o) * 11 + 5)
          have z6 := HW5.out.frozenAt ((a + o) * 11 + 6)
          have z7 := HW5.out.frozenAt ((a + o) * 11 + 7)
          have z8 := HW5.out.frozenAt ((a + o) * 11 + 8)
          have z9 := HW5.out.frozenAt ((a + o) * 11 + 9)
          have z10 := HW5.out.frozenAt ((a + o) * 11 + 10)
          have hsz : (swp di (a + o) (a + o)).size = n := by rw [size_swp, hdi]
          clear q2 k2 exj hX hsj hxj
          clear HW5
          go_wp2_with fail
          go_region
          clear c0 z0 c1 z1 c2 z2 c3 z3 c4 z4 c5 z5 c6 z6 c7 z7 c8 z8 c9 z9 c10 z10
          have HW7 := Lib.hid (World.ownsRow.drew HQ.out)
          have k7 : Keeps g g g wc _ := Keeps.drewn HKN.out
          have HK7 := Lib.hid (HK5.out.trans k7)
          have HC7 := Lib.hid (And.intro ((k7.cell (q := ⟨gx, 0, none⟩) hg5 hgg hgg hgg).trans c5) ((k7.frozen (q := ⟨gx, 0, none⟩) hg5 hgg hgg hgg).trans f5))
          have hg7 := Nat.lt_of_lt_of_le hg5 k7.size
          clear k7 HQ HKN c5 f5 HK5
          go_wp2
          go_roundw
          case rel => exact ⟨k, Y, a + o + 1, _, by go_num, by have := HIX.out; omega, hY1, hsz, HLN, HC7, hg7, HW7, HK7⟩
          case measure => have := HIX.out; simp [intOf] <;> omega
        · have qt : ((a : Int) + o).toNat = a + o := by omega
          have hsj : (tms (cs8 di))[ix]? = some di[ix]!.1.1 := tms8_get (by omega)
          have hsp : (tms (cs8 di))[a + o]? = some di[a + o]!.1.1 := tms8_get (by omega)
          obtain ⟨q2, k2⟩ := swap_row (i := ix) (j := a + o) HW5.out hdi (by omega) (by omega)
          obtain ⟨xj, hxj⟩ : ∃ x, di[ix]! = x := ⟨_, rfl⟩
          obtain ⟨xp, hxp⟩ : ∃ x, di[a + o]! = x := ⟨_, rfl⟩
          rw [hxj] at hsj q2 k2
          rw [hxp] at hsp q2 k2
          obtain ⟨x0, x1, x2, x3, x4, x5, x6, x7, hX⟩ := eight xj.2
          obtain ⟨y0, y1, y2, y3, y4, y5, y6, y7, hY⟩ := eight xp.2
          obtain ⟨c0, c1, c2, c3, c4, c5, c6, c7, c8, c9, c10⟩ := row_cells HW5.out (tms8 di) (by rw [tms8_length, hdi]) hsj hX
          obtain ⟨d0, d1, d2, d3, d4, d5, d6, d7, d8, d9, d10⟩ := row_cells HW5.out (tms8 di) (by rw [tms8_length, hdi]) hsp hY
          have exj : xj.1.1.cells = [.int .i64 x0, .int .i64 x1, .int .i64 x2, .int .i64 x3, .int .i64 x4, .int .i64 x5, .int .i64 x6, .int .i64 x7, .bool xj.1.1.s, .slice xj.1.1.A xj.1.1.n xj.1.1.c, .slice xj.1.1.B xj.1.1.m xj.1.1.d] := by unfold Tm.cells; rw [hX]; rfl
          have exp : xp.1.1.cells = [.int .i64 y0, .int .i64 y1, .int .i64 y2, .int .i64 y3, .int .i64 y4, .int .i64 y5, .int .i64 y6, .int .i64 y7, .bool xp.1.1.s, .slice xp.1.1.A xp.1.1.n xp.1.1.c, .slice xp.1.1.B xp.1.1.m xp.1.1.d] := by unfold Tm.cells; rw [hY]; rfl
          rw [exj, exp] at q2 k2
          simp only [World.setCells, Nat.add_assoc, Nat.reduceAdd] at q2 k2
          have HQ := Lib.hid q2
          have HKN := Lib.hid ((Keeps.refl g g g wc).trans k2)
          have z0 := HW5.out.frozenAt ((ix) * 11)
          have u0 := HW5.out.frozenAt ((a + o) * 11)
          have z1 := HW5.out.frozenAt ((ix) * 11 + 1)
          have u1 := HW5.out.frozenAt ((a + o) * 11 + 1)
          have z2 := HW5.out.frozenAt ((ix) * 11 + 2)
          have u2 := HW5.out.frozenAt ((a + o) * 11 + 2)
          have z3 := HW5.out.frozenAt ((ix) * 11 + 3)
          have u3 := HW5.out.frozenAt ((a + o) * 11 + 3)
          have z4 := HW5.out.frozenAt ((ix) * 11 + 4)
          have u4 := HW5.out.frozenAt ((a + o) * 11 + 4)
          have z5 := HW5.out.frozenAt ((ix) * 11 + 5)
          have u5 := HW5.out.frozenAt ((a + o) * 11 + 5)
          have z6 := HW5.out.frozenAt ((ix) * 11 + 6)
          have u6 := HW5.out.frozenAt ((a + o) * 11 + 6)
          have z7 := HW5.out.frozenAt ((ix) * 11 + 7)
          have u7 := HW5.out.frozenAt ((a + o) * 11 + 7)
          have z8 := HW5.out.frozenAt ((ix) * 11 + 8)
          have u8 := HW5.out.frozenAt ((a + o) * 11 + 8)
          have z9 := HW5.out.frozenAt ((ix) * 11 + 9)
          have u9 := HW5.out.frozenAt ((a + o) * 11 + 9)
          have z10 := HW5.out.frozenAt ((ix) * 11 + 10)
          have u10 := HW5.out.frozenAt ((a + o) * 11 + 10)
          have hsz : (swp di (ix) (a + o)).size = n := by rw [size_swp, hdi]
          clear q2 k2 exj exp hX hY hsj hsp hxj hxp
          clear HW5
          go_wp2_with fail
          go_region
          clear c0 d0 z0 u0 c1 d1 z1 u1 c2 d2 z2 u2 c3 d3 z3 u3 c4 d4 z4 u4 c5 d5 z5 u5 c6 d6 z6 u6 c7 d7 z7 u7 c8 d8 z8 u8 c9 d9 z9 u9 c10 d10 z10 u10
          have HW7 := Lib.hid (World.ownsRow.drew HQ.out)
          have k7 : Keeps g g g wc _ := Keeps.drewn HKN.out
          have HK7 := Lib.hid (HK5.out.trans k7)
          have HC7 := Lib.hid (And.intro ((k7.cell (q := ⟨gx, 0, none⟩) hg5 hgg hgg hgg).trans c5) ((k7.frozen (q := ⟨gx, 0, none⟩) hg5 hgg hgg hgg).trans f5))
          have hg7 := Nat.lt_of_lt_of_le hg5 k7.size
          clear k7 HQ HKN c5 f5 HK5
          go_wp2
          go_roundw
          case rel => exact ⟨k, Y, ix + 1, _, by go_num, by have := HIX.out; omega, hY1, hsz, HLN, HC7, hg7, HW7, HK7⟩
          case measure => have := HIX.out; simp [intOf] <;> omega
end Go.Proofs.YtebbnmjmjoklmaaGreatDoor
