/-
  The reference's Decimal: the same text as strconv.Itoa gives.
  The reference's text and Format.
-/
import Derived.Test.YtklndjkblfncjaaGreatDoorQC
import Derived.Test.YtklndjkblfncjaaGreatDoorFmP7
import Derived.Test.YtklndjkblfncjaaGreatDoorRCmp7
namespace Go.Proofs.YtklndjkblfncjaaGreatDoor
open Go Go.RowKit
set_option maxRecDepth 20000

theorem revDig_dec (u : Nat) : (Q.revDig u).reverse = Lib.decDigits u := by
  induction u using Nat.strongRecOn with
  | ind u ih =>
    rw [Lib.decDigits]
    split
    · next h => rw [Q.revDig_small h, Nat.mod_eq_of_lt h]; rfl
    · next h => rw [Q.revDig_big (by omega), List.reverse_cons, ih (u / 10) (by omega)]
theorem byte_cons (a : UInt8) (l : By) : ((⟨#[a]⟩ : ByteArray) ++ ⟨l.toArray⟩) = ⟨(a :: l).toArray⟩ := by
  apply ByteArray.ext
  simp [ByteArray.data_append]
theorem ratText_int (n : Int) : Q.ratText (n : Rat) = ⟨(Lib.itoa n).toArray⟩ := by
  unfold Q.ratText Lib.itoa
  rw [Rat.num_intCast, Rat.den_intCast]
  by_cases h : n < 0
  · rw [if_pos h, if_pos rfl, if_pos h]
    unfold Q.dec
    rw [revDig_dec, byte_cons]
  · rw [if_neg h, if_pos rfl, if_neg h]
    unfold Q.dec
    rw [revDig_dec, show n.natAbs = n.toNat by omega]
theorem decimal_x (n : Int) (h0 : -9223372036854775808 ≤ n) (h1 : n ≤ 9223372036854775807) (w : World) : Calls Tryz.prog 60 #[.int .i64 n] w (GivesStr (Lib.itoa n) w) := by
  have HI := Lib.hid (Q.refIntR (w := w) h0 h1)
  have HT := Lib.hid (ratText_int n)
  clear h0 h1
  go_enter Tryz.func60, Tryz.ntmps60
  go_wp2_with fail
  refine HI.out.mono ?_
  rintro e1 w1 ⟨s, A, n1, c, B, m, d, rfl, hRN, _, _, hb1⟩
  have HF := Lib.hid (Q.refFormatR hRN.loose (by decide) (by decide))
  have HB := Lib.hid hb1
  clear hRN HI hb1
  go_wp2_with fail
  refine HF.out.mono ?_
  rintro e2 w2 ⟨rfl, hb2⟩
  have HE := Lib.hid (HB.out.trans (hb2.mono HB.out.size))
  clear HF hb2
  rw [HT.out]
  go_wp2
  go_ret
  exact ⟨rfl, HE.out⟩
end Go.Proofs.YtklndjkblfncjaaGreatDoor

namespace Go.Proofs.YtklndjkblfncjaaGreatDoor
open Go Go.RowKit
set_option maxRecDepth 20000

theorem tail_snoc (xs : List By) (z : By) : Lib.joinTail [44, 32] (xs ++ [z]) = Lib.joinTail [44, 32] xs ++ [44, 32] ++ z := by
  unfold Lib.joinTail
  simp
theorem join_step {Z : List By} {i : Nat} {z : By} (h : Z[i]? = some z) : Lib.join (Z.take (i + 1)) [44, 32] = if i = 0 then Lib.join (Z.take i) [44, 32] ++ z else Lib.join (Z.take i) [44, 32] ++ [44, 32] ++ z := by
  rw [List.take_add_one, h]
  cases i with
  | zero => simp [Lib.join_one, Lib.join_nil]
  | succ i =>
    cases Z with
    | nil => simp at h
    | cons x Z =>
      rw [List.take_succ_cons, if_neg (by omega)]
      show Lib.join (x :: (Z.take i ++ [z])) _ = _
      rw [Lib.join_cons, Lib.join_cons, tail_snoc]
      simp
theorem cat_str (a b : By) : ((⟨a.toArray⟩ : ByteArray) ++ ⟨b.toArray⟩) = ⟨(a ++ b).toArray⟩ := by
  apply ByteArray.ext
  simp [ByteArray.data_append]
def TextAt (d : Nat) : Prop := ∀ (S : Nat → Prop) (T : Ty) (A : Option Addr) (n c : Nat) (w : World), TyRd S w d T A n c → TyOk d T → T.k ≠ 4 → ∀ (S' : Nat → Prop) (d' : Nat) (V : Vl) (B : Option Addr) (m q : Nat), VlRd S' w d' V B m q → verr d T V = 0 → Calls Tryz.prog 47 #[tyV T A n c, vlV V B m q] w (GivesStr (vfmt d T V) w)

set_option maxHeartbeats 16000000 in
theorem text_x : ∀ d, d ≤ 9 → TextAt d
  | 0, _, _, _, _, _, _, _, h, _, _ => h.elim
  | d + 1, hd9, S, T, A, n, c, w, h, hok, hk4 => by
    intro S' d'' V B m q hv hve
    have IH := text_x d (by omega)
    cases d'' with
    | zero => exact hv.elim
    | succ d' =>
    have hp9 : 8 ^ d ≤ 134217728 := Nat.le_trans (Nat.pow_le_pow_right (by omega) (show d ≤ 9 by omega)) (by decide)
    obtain ⟨hl, hcap, htop⟩ := h.len
    obtain ⟨hvl, hvcap, hvtop⟩ := hv.len
    unfold maxLen at htop hvtop
    obtain ⟨v, hvv⟩ : ∃ v, (w.alloc (.cells #[.int .i64 T.k, .int .i64 T.lo, .int .i64 T.hi, .int .i64 T.mx, .slice A n c] 24)).alloc (.cells #[.int .i64 V.i, .slice B m q] 27) = v := ⟨_, rfl⟩
    obtain ⟨hvs, hwv, hbx⟩ := boxes_tv w _ _ _ _ _ _ _ _ _ v hvv
    have HBX := Lib.hid hbx
    have HVV := Lib.hid hvv
    have HWV := Lib.hid hwv
    have HVS := Lib.hid hvs
    obtain ⟨y, hy⟩ : ∃ y, vfmt (d + 1) T V = y := ⟨_, rfl⟩
    rw [hy]
    by_cases k1 : T.k = 1
    · have b1 : (T.k == 1) = true := by simpa using k1
      have hyb : y = if V.i = 1 then [116, 114, 117, 101] else [102, 97, 108, 115, 101] := by rw [← hy]; simp only [vfmt, if_pos k1]
      obtain ⟨⟨p0, p1, p2, p3, p4⟩, r0, r1, f0, f1⟩ := hbx v (Below.refl _ _)
      have HB := Lib.hid hwv
      clear h hv hve hok hk4 IH hl hvl hy hbx HBX hwv hp9 k1 hvv hvs
      by_cases hV : V.i = 1
      · have bV : (V.i == 1) = true := by simpa using hV
        rw [if_pos hV] at hyb
        have HYB := Lib.hid hyb
        clear hV hyb
        go_enter Tryz.func47, Tryz.ntmps47
        go_wp2
        rw [HVV.out]
        go_ret
        exact ⟨by rw [HYB.out]; rfl, HB.out⟩
      · have bV : (V.i == 1) = false := by simpa using hV
        rw [if_neg hV] at hyb
        have HYB := Lib.hid hyb
        clear hV hyb
        go_enter Tryz.func47, Tryz.ntmps47
        go_wp2
        rw [HVV.out]
        go_ret
        exact ⟨by rw [HYB.out]; rfl, HB.out⟩
    · have b1 : (T.k == 1) = false := by simpa using k1
      by_cases k5 : T.k = 5
      · have b5 : (T.k == 5) = true := by simpa using k5
        obtain ⟨hz, hn2, hn4, hels⟩ := hok.tuple k5
        obtain ⟨hmn, hVi, hf⟩ := verr_tuple k5 hve
        obtain rfl : m = n := by omega
        obtain ⟨Z, hZ⟩ : ∃ Z, List.zipWith (vfmt d) T.es V.es = Z := ⟨_, rfl⟩
        have HY : Hid (y = 40 :: (Lib.join Z [44, 32] ++ [41])) := by
          show _ = _
          rw [← hy]; simp only [vfmt, if_neg k1, if_pos k5]; rw [hZ]
        have hm4 : m ≤ 4 := by omega
        have HZN : Hid (Z.length = m) := by show _ = _; rw [← hZ, List.length_zipWith]; omega
        have hZl : ∀ z ∈ Z, z.length ≤ 30 * 8 ^ d := fun z hz' => by
          rw [← hZ] at hz'
          obtain ⟨i, e, f, he, hfi, rfl⟩ := zip_at hz'
          exact fmt_len d e f (hels e (List.mem_of_getElem? he)).1 (zip_zero hf i e f he hfi)
        have hJall : ∀ i, (Lib.join (Z.take i) [44, 32]).length ≤ 1000000000000 := fun i => by
          have h1 := join_le (xs := Z.take i) (K := 30 * 8 ^ d) fun z hz' => hZl z (List.mem_of_mem_take hz')
          have h2 : (Z.take i).length ≤ 4 := by rw [List.length_take, HZN.out]; omega
          have h3 := Nat.mul_le_mul_right (30 * 8 ^ d + 2) h2
          omega
        have HJL : Hid ((Lib.join Z [44, 32]).length ≤ 1000000000000) := by
          have := hJall Z.length
          rw [List.take_length] at this; exact this
        have HIE : Hid (∀ i e f, T.es[i]? = some e → V.es[i]? = some f → (Z[i]? = some (vfmt d e f) ∧ (Lib.join (Z.take i) [44, 32]).length ≤ 1000000000000) ∧ TyOk d e ∧ verr d e f = 0 ∧ e.k ≠ 4) := fun i e f he hf' =>
          ⟨⟨by rw [← hZ]; exact zip_get _ he hf', hJall i⟩, (hels e (List.mem_of_getElem? he)).1, zip_zero hf i e f he hf', (hels e (List.mem_of_getElem? he)).2.2⟩
        have H := Lib.hid h
        have HVR := Lib.hid hv
        have HI := Lib.hid IH
        clear h hv hok hve IH hl hvl hy hels hz hn2 hn4 hmn hf hZ hwv hbx hVi k1 k5 hvv hvs hk4 hZl hJall
        go_enter Tryz.func47, Tryz.ntmps47
        go_wp2
        rw [HVV.out]
        go_loopw [5, 6] (fun sv iv wr => ∃ i : Nat, i ≤ m ∧ iv = .int .i64 i ∧ sv = .string ⟨(Lib.join (Z.take i) [44, 32]).toArray⟩ ∧ Hid (Below v.heap.size v wr)) (fun _ iv _ => m - (intOf iv).toNat)
        case atStart => exact ⟨0, Nat.zero_le _, rfl, rfl, Below.refl _ _⟩
        case round =>
        obtain ⟨i, hi, rfl, rfl, REL⟩ := hrel
        obtain ⟨⟨p0, p1, p2, p3, p4⟩, r0, r1, f0, f1⟩ := HBX.out wr REL.out
        by_cases hlt : i < m
        · have hsz0 : w.heap.size < wr.heap.size := by have := HVS.out; have := REL.out.size; omega
          obtain ⟨e, ge, oe, Ae, ne, ce, he, rfl, _, hge, hce, hre⟩ := (H.out.below (nextB HWV.out REL.out)).get hlt
          obtain ⟨e0, ge', oe', Ae0, ne0, ce0, he0, hgg, _, hge', hce0, hre0⟩ := (H.out.below (nextB HWV.out REL.out)).get (i := 0) (by omega)
          injection hgg with hgg
          injection hgg with hg1 hg2
          subst hg1
          subst hg2
          obtain ⟨f, gf, of', Bf, mf, qf, hf, rfl, _, hgf, hcf, hrf⟩ := (HVR.out.below (nextB HWV.out REL.out)).get hlt
          obtain ⟨⟨hzi, hjl⟩, hoe, hef, hk4⟩ := HIE.out i e f he hf
          obtain ⟨u, hu⟩ : ∃ u, wr.alloc (.cells #[.int .i64 e.k, .int .i64 e.lo, .int .i64 e.hi, .int .i64 e.mx, .slice Ae ne ce] 24) = u := ⟨_, rfl⟩
          obtain ⟨hus, hwu, hbu⟩ := box_t wr _ _ _ _ _ _ u hu
          have HT : Hid (∀ W, Below u.heap.size u W → Box5 W wr.heap.size (.int .i64 e.k) (.int .i64 e.lo) (.int .i64 e.hi) (.int .i64 e.mx) (.slice Ae ne ce) ∧ W.cell? ⟨w.heap.size + 1, 1, none⟩ = some (.slice (some ⟨gf, of', none⟩) m q) ∧ VlCells W gf (of' + i * 2) f Bf mf qf) := fun W hW =>
            ⟨hbu W hW, (HBX.out W (nextB REL.out (nextB hwu hW))).2.2.1, hcf.keep ((nextB hwu hW).block gf hgf)⟩
          have HF : Hid (∀ W, Below u.heap.size u W → Calls Tryz.prog 47 #[tyV e Ae ne ce, vlV f Bf mf qf] W (GivesStr (vfmt d e f) W)) := fun W hW => HI.out S e Ae ne ce W (hre.below (nextB hwu hW)) hoe hk4 S' d' f Bf mf qf (hrf.below (nextB hwu hW)) hef
          have hfi : (vfmt d e f).length ≤ 100000000000 := Nat.le_trans (fmt_len d e f hoe hef) (by omega)
          obtain ⟨z, hz⟩ : ∃ z, vfmt d e f = z := ⟨_, rfl⟩
          rw [hz] at HF hzi hfi
          obtain ⟨c0, c1, c2, c3, c4⟩ := hce0
          simp only [Nat.zero_mul, Nat.add_zero] at c0 c1 c2 c3 c4
          obtain ⟨s0, s1, s2, s3, s4⟩ := hce
          have HU := Lib.hid hu
          have HWU := Lib.hid hwu
          have hk := (Below.refl u.heap.size u).drew
          obtain ⟨t0, t1, t2, t3, t4⟩ := hbu u (Below.refl _ _)
          obtain ⟨⟨P0, P1, P2, P3, P4⟩, R0, R1, _, _⟩ := HBX.out u (nextB REL.out hwu)
          have hjz := join_step hzi
          obtain ⟨J, hJ⟩ : ∃ J, Lib.join (Z.take i) [44, 32] = J := ⟨_, rfl⟩
          rw [hJ] at hjz hjl ⊢
          clear hJ he hf he0 hre hre0 hrf hcf hef hoe hk4 hz hzi hwu hbu hus hgf hge'
          by_cases hip : 0 < (i : Int)
          · have HJ : Hid (Lib.join (Z.take (i + 1)) [44, 32] = J ++ [44, 32] ++ z) := by show _ = _; rw [hjz, if_neg (by omega)]
            clear hjz
            subst hu
            go_wp2_with fail
            generalize hu2 : wr.alloc (.cells #[.int .i64 e.k, .int .i64 e.lo, .int .i64 e.hi, .int .i64 e.mx, .slice Ae ne ce] 24) = u at *
            clear hu2 p0 p1 p2 p3 p4 r0 r1 f0 f1 c0 c1 c2 c3 c4 s0 s1 s2 s3 s4 t0 t1 t2 t3 t4 P0 P1 P2 P3 P4 R0 R1
            have hcat : ¬ 9223372036854775807 < J.length + 2 + List.length z := by omega
            refine wp_region_held_drew (S := fun W => Below u.heap.size u W) (by kernel_rfl) hk (fun hHeld => ?_)
            refine tkH (i := 0) (oi := ⟨some 41, _, _, _, _, _⟩) (v := ?_) ?_ ?_
            rotate_left
            · intro w hSw; go_simp; try with_reducible rfl
            try simp only [Act.put, List.setIfInBounds_toArray, List.set_cons_zero, List.set_cons_succ]
            refine tkH (i := 1) (oi := ⟨some 42, _, _, _, _, _⟩) (v := ?_) ?_ ?_
            rotate_left
            · intro w hSw
              obtain ⟨⟨q0, q1, q2, q3, q4⟩, r1, z0, z1⟩ := HT.out w hSw
              go_simp
              try with_reducible rfl
            try simp only [Act.put, List.setIfInBounds_toArray, List.set_cons_zero, List.set_cons_succ]
            refine tkH (i := 2) (oi := ⟨some 43, _, _, _, _, _⟩) (v := ?_) ?_ ?_
            rotate_left
            · intro w hSw; go_simp; try with_reducible rfl
            try simp only [Act.put, List.setIfInBounds_toArray, List.set_cons_zero, List.set_cons_succ]
            refine tkH (i := 3) (oi := ⟨some 44, _, _, _, _, _⟩) (v := ?_) ?_ ?_
            rotate_left
            · intro w hSw
              obtain ⟨⟨q0, q1, q2, q3, q4⟩, r1, z0, z1⟩ := HT.out w hSw
              go_simp
              try with_reducible rfl
            try simp only [Act.put, List.setIfInBounds_toArray, List.set_cons_zero, List.set_cons_succ]
            refine tkH (i := 4) (oi := ⟨some 45, _, _, _, _, _⟩) (v := ?_) ?_ ?_
            rotate_left
            · intro w hSw; go_simp; try with_reducible rfl
            try simp only [Act.put, List.setIfInBounds_toArray, List.set_cons_zero, List.set_cons_succ]
            refine tkH (i := 5) (oi := ⟨some 46, _, _, _, _, _⟩) (v := ?_) ?_ ?_
            rotate_left
            · intro w hSw; go_simp; try with_reducible rfl
            try simp only [Act.put, List.setIfInBounds_toArray, List.set_cons_zero, List.set_cons_succ]
            refine tkH (i := 6) (oi := ⟨some 47, _, _, _, _, _⟩) (v := ?_) ?_ ?_
            rotate_left
            · intro w hSw
              obtain ⟨⟨q0, q1, q2, q3, q4⟩, r1, z0, z1⟩ := HT.out w hSw
              go_simp
              try with_reducible rfl
            try simp only [Act.put, List.setIfInBounds_toArray, List.set_cons_zero, List.set_cons_succ]
            refine wpAnyH_ready (rs := [7]) (by kernel_rfl) (by simp) ?_
            refine AllReadyH.cons (o := ⟨some 48, _, _, _, _, _⟩) rfl (fun K hK => ?_) AllReadyH.nil
            go_simp
            go_at_call 47
            (with_reducible refine (HF.out _ hk).mono ?_)
            rintro e1 w1 ⟨rfl, hb1⟩
            replace hk := hk.trans (hb1.mono hk.size)
            go_wp2_with fail
            refine hK.out _ _ hk (fun hHeld => ?_)
            clear hK K
            try simp only [Act.put, List.setIfInBounds_toArray, List.set_cons_zero, List.set_cons_succ]
            refine tkH (i := 8) (oi := ⟨some 49, _, _, _, _, _⟩) (v := ?_) ?_ ?_
            rotate_left
            · intro w hSw; go_simp; try with_reducible rfl
            try simp only [Act.put, List.setIfInBounds_toArray, List.set_cons_zero, List.set_cons_succ]
            refine tkH (i := 9) (oi := ⟨some 5, _, _, _, _, _⟩) (v := ?_) ?_ ?_
            rotate_left
            · intro w hSw; go_simp; try with_reducible rfl
            try simp only [Act.put, List.setIfInBounds_toArray, List.set_cons_zero, List.set_cons_succ]
            refine wpAnyH_done (by kernel_rfl) ?_ _
            have HB2 := Lib.hid (nextB REL.out (nextB HWU.out hk))
            clear hHeld hk hb1 HF HT
            go_wp2
            go_roundw
            case rel => exact ⟨i + 1, by omega, by go_num, by rw [HJ.out]; rfl, HB2⟩
            case measure => simp [intOf] <;> omega
          · have HJ : Hid (Lib.join (Z.take (i + 1)) [44, 32] = J ++ z) := by show _ = _; rw [hjz, if_pos (by omega)]
            clear hjz
            subst hu
            go_wp2_with fail
            generalize hu2 : wr.alloc (.cells #[.int .i64 e.k, .int .i64 e.lo, .int .i64 e.hi, .int .i64 e.mx, .slice Ae ne ce] 24) = u at *
            clear hu2 p0 p1 p2 p3 p4 r0 r1 f0 f1 c0 c1 c2 c3 c4 s0 s1 s2 s3 s4 t0 t1 t2 t3 t4 P0 P1 P2 P3 P4 R0 R1
            have hcat : ¬ 9223372036854775807 < J.length + List.length z := by omega
            refine wp_region_held_drew (S := fun W => Below u.heap.size u W) (by kernel_rfl) hk (fun hHeld => ?_)
            refine tkH (i := 0) (oi := ⟨some 41, _, _, _, _, _⟩) (v := ?_) ?_ ?_
            rotate_left
            · intro w hSw; go_simp; try with_reducible rfl
            try simp only [Act.put, List.setIfInBounds_toArray, List.set_cons_zero, List.set_cons_succ]
            refine tkH (i := 1) (oi := ⟨some 42, _, _, _, _, _⟩) (v := ?_) ?_ ?_
            rotate_left
            · intro w hSw
              obtain ⟨⟨q0, q1, q2, q3, q4⟩, r1, z0, z1⟩ := HT.out w hSw
              go_simp
              try with_reducible rfl
            try simp only [Act.put, List.setIfInBounds_toArray, List.set_cons_zero, List.set_cons_succ]
            refine tkH (i := 2) (oi := ⟨some 43, _, _, _, _, _⟩) (v := ?_) ?_ ?_
            rotate_left
            · intro w hSw; go_simp; try with_reducible rfl
            try simp only [Act.put, List.setIfInBounds_toArray, List.set_cons_zero, List.set_cons_succ]
            refine tkH (i := 3) (oi := ⟨some 44, _, _, _, _, _⟩) (v := ?_) ?_ ?_
            rotate_left
            · intro w hSw
              obtain ⟨⟨q0, q1, q2, q3, q4⟩, r1, z0, z1⟩ := HT.out w hSw
              go_simp
              try with_reducible rfl
            try simp only [Act.put, List.setIfInBounds_toArray, List.set_cons_zero, List.set_cons_succ]
            refine tkH (i := 4) (oi := ⟨some 45, _, _, _, _, _⟩) (v := ?_) ?_ ?_
            rotate_left
            · intro w hSw; go_simp; try with_reducible rfl
            try simp only [Act.put, List.setIfInBounds_toArray, List.set_cons_zero, List.set_cons_succ]
            refine tkH (i := 5) (oi := ⟨some 46, _, _, _, _, _⟩) (v := ?_) ?_ ?_
            rotate_left
            · intro w hSw; go_simp; try with_reducible rfl
            try simp only [Act.put, List.setIfInBounds_toArray, List.set_cons_zero, List.set_cons_succ]
            refine tkH (i := 6) (oi := ⟨some 47, _, _, _, _, _⟩) (v := ?_) ?_ ?_
            rotate_left
            · intro w hSw
              obtain ⟨⟨q0, q1, q2, q3, q4⟩, r1, z0, z1⟩ := HT.out w hSw
              go_simp
              try with_reducible rfl
            try simp only [Act.put, List.setIfInBounds_toArray, List.set_cons_zero, List.set_cons_succ]
            refine wpAnyH_ready (rs := [7]) (by kernel_rfl) (by simp) ?_
            refine AllReadyH.cons (o := ⟨some 48, _, _, _, _, _⟩) rfl (fun K hK => ?_) AllReadyH.nil
            go_simp
            go_at_call 47
            (with_reducible refine (HF.out _ hk).mono ?_)
            rintro e1 w1 ⟨rfl, hb1⟩
            replace hk := hk.trans (hb1.mono hk.size)
            go_wp2_with fail
            refine hK.out _ _ hk (fun hHeld => ?_)
            clear hK K
            try simp only [Act.put, List.setIfInBounds_toArray, List.set_cons_zero, List.set_cons_succ]
            refine tkH (i := 8) (oi := ⟨some 49, _, _, _, _, _⟩) (v := ?_) ?_ ?_
            rotate_left
            · intro w hSw; go_simp; try with_reducible rfl
            try simp only [Act.put, List.setIfInBounds_toArray, List.set_cons_zero, List.set_cons_succ]
            refine tkH (i := 9) (oi := ⟨some 5, _, _, _, _, _⟩) (v := ?_) ?_ ?_
            rotate_left
            · intro w hSw; go_simp; try with_reducible rfl
            try simp only [Act.put, List.setIfInBounds_toArray, List.set_cons_zero, List.set_cons_succ]
            refine wpAnyH_done (by kernel_rfl) ?_ _
            have HB2 := Lib.hid (nextB REL.out (nextB HWU.out hk))
            clear hHeld hk hb1 HF HT
            go_wp2
            go_roundw
            case rel => exact ⟨i + 1, by omega, by go_num, by rw [HJ.out]; rw [← cat_str], HB2⟩
            case measure => simp [intOf] <;> omega
        · obtain rfl : i = m := by omega
          have hfull : Z.take i = Z := by rw [List.take_of_length_le (by rw [HZN.out]; exact Nat.le_refl _)]
          rw [hfull]
          obtain ⟨J, hJ⟩ : ∃ J, Lib.join Z [44, 32] = J := ⟨_, rfl⟩
          have hjl := HJL.out
          rw [hJ] at hjl ⊢
          have HYJ : Hid (y = 40 :: (J ++ [41])) := by show _ = _; rw [HY.out, hJ]
          clear hfull hJ
          go_wp2
          go_ret
          refine ⟨?_, nextB HWV.out REL.out⟩
          rw [HYJ.out, ← wrap_str]
          try rfl
      · have b5 : (T.k == 5) = false := by simpa using k5
        by_cases k6 : T.k = 6
        · have b6 : (T.k == 6) = true := by simpa using k6
          obtain ⟨hz, hm1, hm4', x, hx, hox, hkx⟩ := hok.list k6
          obtain rfl : n = 1 := by rw [← hl, hx]; rfl
          obtain ⟨hlim, hVi, hf⟩ := verr_list k5 k6 hve
          rw [hvl] at hlim
          rw [hx, List.headD_cons] at hf
          have hm4 : m ≤ 4 := by omega
          obtain ⟨Z, hZ⟩ : ∃ Z, List.zipWith (vfmt d) (List.replicate m x) V.es = Z := ⟨_, rfl⟩
          have HY : Hid (y = 91 :: (Lib.join Z [44, 32] ++ [93])) := by
            show _ = _
            rw [← hy]; simp only [vfmt, if_neg k1, if_neg k5, if_pos k6, hx, List.headD_cons, hvl]; rw [hZ]
          have hf2 : firstE (List.zipWith (verr d) (List.replicate m x) V.es) = 0 := by rw [← hvl, zip_rep]; exact hf
          have HZN : Hid (Z.length = m) := by show _ = _; rw [← hZ, List.length_zipWith, List.length_replicate]; omega
          have hZl : ∀ z ∈ Z, z.length ≤ 30 * 8 ^ d := fun z hz' => by
            rw [← hZ] at hz'
            obtain ⟨i, e, f, he, hfi, rfl⟩ := zip_at hz'
            obtain rfl : e = x := List.eq_of_mem_replicate (List.mem_of_getElem? he)
            exact fmt_len d e f hox (zip_zero hf2 i e f he hfi)
          have hJall : ∀ i, (Lib.join (Z.take i) [44, 32]).length ≤ 1000000000000 := fun i => by
            have h1 := join_le (xs := Z.take i) (K := 30 * 8 ^ d) fun z hz' => hZl z (List.mem_of_mem_take hz')
            have h2 : (Z.take i).length ≤ 4 := by rw [List.length_take, HZN.out]; omega
            have h3 := Nat.mul_le_mul_right (30 * 8 ^ d + 2) h2
            omega
          have HJL : Hid ((Lib.join Z [44, 32]).length ≤ 1000000000000) := by
            have := hJall Z.length
            rw [List.take_length] at this; exact this
          have HIE : Hid (∀ i e f, (List.replicate m x)[i]? = some e → V.es[i]? = some f → (Z[i]? = some (vfmt d e f) ∧ (Lib.join (Z.take i) [44, 32]).length ≤ 1000000000000) ∧ TyOk d e ∧ verr d e f = 0 ∧ e.k ≠ 4) := fun i e f he hf' => by
            have hex : e = x := List.eq_of_mem_replicate (List.mem_of_getElem? he)
            exact ⟨⟨by rw [← hZ]; exact zip_get _ he hf', hJall i⟩, by rw [hex]; exact hox, zip_zero hf2 i e f he hf', by rw [hex]; omega⟩
          have HX := Lib.hid hx
          have H := Lib.hid h
          have HVR := Lib.hid hv
          have HI := Lib.hid IH
          clear h hv hok hve IH hl hvl hy hz hlim hf hf2 hZ hwv hbx hVi k1 k5 k6 hvv hvs hk4 hZl hJall hx hox hkx hm1 hm4'
          go_enter Tryz.func47, Tryz.ntmps47
          go_wp2
          rw [HVV.out]
          go_loopw [5, 6] (fun sv iv wr => ∃ i : Nat, i ≤ m ∧ iv = .int .i64 i ∧ sv = .string ⟨(Lib.join (Z.take i) [44, 32]).toArray⟩ ∧ Hid (Below v.heap.size v wr)) (fun _ iv _ => m - (intOf iv).toNat)
          case atStart => exact ⟨0, Nat.zero_le _, rfl, rfl, Below.refl _ _⟩
          case round =>
          obtain ⟨i, hi, rfl, rfl, REL⟩ := hrel
          obtain ⟨⟨p0, p1, p2, p3, p4⟩, r0, r1, f0, f1⟩ := HBX.out wr REL.out
          by_cases hlt : i < m
          · have hsz0 : w.heap.size < wr.heap.size := by have := HVS.out; have := REL.out.size; omega
            obtain ⟨e0, ge, oe, Ae0, ne0, ce0, he0, rfl, _, hge, hce0, hre0⟩ := (H.out.below (nextB HWV.out REL.out)).get (i := 0) (by omega)
            obtain rfl : e0 = x := by rw [HX.out] at he0; simpa using he0.symm
            have he : (List.replicate m e0)[i]? = some e0 := by rw [List.getElem?_replicate, if_pos hlt]
            have hre := hre0
            obtain ⟨f, gf, of', Bf, mf, qf, hf, rfl, _, hgf, hcf, hrf⟩ := (HVR.out.below (nextB HWV.out REL.out)).get hlt
            obtain ⟨⟨hzi, hjl⟩, hoe, hef, hk4⟩ := HIE.out i e0 f he hf
            obtain ⟨u, hu⟩ : ∃ u, wr.alloc (.cells #[.int .i64 e0.k, .int .i64 e0.lo, .int .i64 e0.hi, .int .i64 e0.mx, .slice Ae0 ne0 ce0] 24) = u := ⟨_, rfl⟩
            obtain ⟨hus, hwu, hbu⟩ := box_t wr _ _ _ _ _ _ u hu
            have HT : Hid (∀ W, Below u.heap.size u W → Box5 W wr.heap.size (.int .i64 e0.k) (.int .i64 e0.lo) (.int .i64 e0.hi) (.int .i64 e0.mx) (.slice Ae0 ne0 ce0) ∧ W.cell? ⟨w.heap.size + 1, 1, none⟩ = some (.slice (some ⟨gf, of', none⟩) m q) ∧ VlCells W gf (of' + i * 2) f Bf mf qf) := fun W hW =>
              ⟨hbu W hW, (HBX.out W (nextB REL.out (nextB hwu hW))).2.2.1, hcf.keep ((nextB hwu hW).block gf hgf)⟩
            have HF : Hid (∀ W, Below u.heap.size u W → Calls Tryz.prog 47 #[tyV e0 Ae0 ne0 ce0, vlV f Bf mf qf] W (GivesStr (vfmt d e0 f) W)) := fun W hW => HI.out S e0 Ae0 ne0 ce0 W (hre.below (nextB hwu hW)) hoe hk4 S' d' f Bf mf qf (hrf.below (nextB hwu hW)) hef
            have hfi : (vfmt d e0 f).length ≤ 100000000000 := Nat.le_trans (fmt_len d e0 f hoe hef) (by omega)
            obtain ⟨z, hz⟩ : ∃ z, vfmt d e0 f = z := ⟨_, rfl⟩
            rw [hz] at HF hzi hfi
            obtain ⟨c0, c1, c2, c3, c4⟩ := hce0
            simp only [Nat.zero_mul, Nat.add_zero] at c0 c1 c2 c3 c4
            have HU := Lib.hid hu
            have HWU := Lib.hid hwu
            have hk := (Below.refl u.heap.size u).drew
            obtain ⟨t0, t1, t2, t3, t4⟩ := hbu u (Below.refl _ _)
            obtain ⟨⟨P0, P1, P2, P3, P4⟩, R0, R1, _, _⟩ := HBX.out u (nextB REL.out hwu)
            have hjz := join_step hzi
            obtain ⟨J, hJ⟩ : ∃ J, Lib.join (Z.take i) [44, 32] = J := ⟨_, rfl⟩
            rw [hJ] at hjz hjl ⊢
            clear hJ he hf he0 hre hre0 hrf hcf hef hoe hk4 hz hzi hwu hbu hus hge hgf
            by_cases hip : 0 < (i : Int)
            · have HJ : Hid (Lib.join (Z.take (i + 1)) [44, 32] = J ++ [44, 32] ++ z) := by show _ = _; rw [hjz, if_neg (by omega)]
              clear hjz
              subst hu
              go_wp2_with fail
              generalize hu2 : wr.alloc (.cells #[.int .i64 e0.k, .int .i64 e0.lo, .int .i64 e0.hi, .int .i64 e0.mx, .slice Ae0 ne0 ce0] 24) = u at *
              clear hu2 p0 p1 p2 p3 p4 r0 r1 f0 f1 c0 c1 c2 c3 c4 t0 t1 t2 t3 t4 P0 P1 P2 P3 P4 R0 R1
              have hcat : ¬ 9223372036854775807 < J.length + 2 + List.length z := by omega
              refine wp_region_held_drew (S := fun W => Below u.heap.size u W) (by kernel_rfl) hk (fun hHeld => ?_)
              refine tkH (i := 0) (oi := ⟨some 41, _, _, _, _, _⟩) (v := ?_) ?_ ?_
              rotate_left
              · intro w hSw; go_simp; try with_reducible rfl
              try simp only [Act.put, List.setIfInBounds_toArray, List.set_cons_zero, List.set_cons_succ]
              refine tkH (i := 1) (oi := ⟨some 42, _, _, _, _, _⟩) (v := ?_) ?_ ?_
              rotate_left
              · intro w hSw
                obtain ⟨⟨q0, q1, q2, q3, q4⟩, r1, z0, z1⟩ := HT.out w hSw
                go_simp
                try with_reducible rfl
              try simp only [Act.put, List.setIfInBounds_toArray, List.set_cons_zero, List.set_cons_succ]
              refine tkH (i := 2) (oi := ⟨some 43, _, _, _, _, _⟩) (v := ?_) ?_ ?_
              rotate_left
              · intro w hSw; go_simp; try with_reducible rfl
              try simp only [Act.put, List.setIfInBounds_toArray, List.set_cons_zero, List.set_cons_succ]
              refine tkH (i := 3) (oi := ⟨some 44, _, _, _, _, _⟩) (v := ?_) ?_ ?_
              rotate_left
              · intro w hSw
                obtain ⟨⟨q0, q1, q2, q3, q4⟩, r1, z0, z1⟩ := HT.out w hSw
                go_simp
                try with_reducible rfl
              try simp only [Act.put, List.setIfInBounds_toArray, List.set_cons_zero, List.set_cons_succ]
              refine tkH (i := 4) (oi := ⟨some 45, _, _, _, _, _⟩) (v := ?_) ?_ ?_
              rotate_left
              · intro w hSw; go_simp; try with_reducible rfl
              try simp only [Act.put, List.setIfInBounds_toArray, List.set_cons_zero, List.set_cons_succ]
              refine tkH (i := 5) (oi := ⟨some 46, _, _, _, _, _⟩) (v := ?_) ?_ ?_
              rotate_left
              · intro w hSw; go_simp; try with_reducible rfl
              try simp only [Act.put, List.setIfInBounds_toArray, List.set_cons_zero, List.set_cons_succ]
              refine tkH (i := 6) (oi := ⟨some 47, _, _, _, _, _⟩) (v := ?_) ?_ ?_
              rotate_left
              · intro w hSw
                obtain ⟨⟨q0, q1, q2, q3, q4⟩, r1, z0, z1⟩ := HT.out w hSw
                go_simp
                try with_reducible rfl
              try simp only [Act.put, List.setIfInBounds_toArray, List.set_cons_zero, List.set_cons_succ]
              refine wpAnyH_ready (rs := [7]) (by kernel_rfl) (by simp) ?_
              refine AllReadyH.cons (o := ⟨some 48, _, _, _, _, _⟩) rfl (fun K hK => ?_) AllReadyH.nil
              go_simp
              go_at_call 47
              (with_reducible refine (HF.out _ hk).mono ?_)
              rintro e1 w1 ⟨rfl, hb1⟩
              replace hk := hk.trans (hb1.mono hk.size)
              go_wp2_with fail
              refine hK.out _ _ hk (fun hHeld => ?_)
              clear hK K
              try simp only [Act.put, List.setIfInBounds_toArray, List.set_cons_zero, List.set_cons_succ]
              refine tkH (i := 8) (oi := ⟨some 49, _, _, _, _, _⟩) (v := ?_) ?_ ?_
              rotate_left
              · intro w hSw; go_simp; try with_reducible rfl
              try simp only [Act.put, List.setIfInBounds_toArray, List.set_cons_zero, List.set_cons_succ]
              refine tkH (i := 9) (oi := ⟨some 5, _, _, _, _, _⟩) (v := ?_) ?_ ?_
              rotate_left
              · intro w hSw; go_simp; try with_reducible rfl
              try simp only [Act.put, List.setIfInBounds_toArray, List.set_cons_zero, List.set_cons_succ]
              refine wpAnyH_done (by kernel_rfl) ?_ _
              have HB2 := Lib.hid (nextB REL.out (nextB HWU.out hk))
              clear hHeld hk hb1 HF HT
              go_wp2
              go_roundw
              case rel => exact ⟨i + 1, by omega, by go_num, by rw [HJ.out]; rfl, HB2⟩
              case measure => simp [intOf] <;> omega
            · have HJ : Hid (Lib.join (Z.take (i + 1)) [44, 32] = J ++ z) := by show _ = _; rw [hjz, if_pos (by omega)]
              clear hjz
              subst hu
              go_wp2_with fail
              generalize hu2 : wr.alloc (.cells #[.int .i64 e0.k, .int .i64 e0.lo, .int .i64 e0.hi, .int .i64 e0.mx, .slice Ae0 ne0 ce0] 24) = u at *
              clear hu2 p0 p1 p2 p3 p4 r0 r1 f0 f1 c0 c1 c2 c3 c4 t0 t1 t2 t3 t4 P0 P1 P2 P3 P4 R0 R1
              have hcat : ¬ 9223372036854775807 < J.length + List.length z := by omega
              refine wp_region_held_drew (S := fun W => Below u.heap.size u W) (by kernel_rfl) hk (fun hHeld => ?_)
              refine tkH (i := 0) (oi := ⟨some 41, _, _, _, _, _⟩) (v := ?_) ?_ ?_
              rotate_left
              · intro w hSw; go_simp; try with_reducible rfl
              try simp only [Act.put, List.setIfInBounds_toArray, List.set_cons_zero, List.set_cons_succ]
              refine tkH (i := 1) (oi := ⟨some 42, _, _, _, _, _⟩) (v := ?_) ?_ ?_
              rotate_left
              · intro w hSw
                obtain ⟨⟨q0, q1, q2, q3, q4⟩, r1, z0, z1⟩ := HT.out w hSw
                go_simp
                try with_reducible rfl
              try simp only [Act.put, List.setIfInBounds_toArray, List.set_cons_zero, List.set_cons_succ]
              refine tkH (i := 2) (oi := ⟨some 43, _, _, _, _, _⟩) (v := ?_) ?_ ?_
              rotate_left
              · intro w hSw; go_simp; try with_reducible rfl
              try simp only [Act.put, List.setIfInBounds_toArray, List.set_cons_zero, List.set_cons_succ]
              refine tkH (i := 3) (oi := ⟨some 44, _, _, _, _, _⟩) (v := ?_) ?_ ?_
              rotate_left
              · intro w hSw
                obtain ⟨⟨q0, q1, q2, q3, q4⟩, r1, z0, z1⟩ := HT.out w hSw
                go_simp
                try with_reducible rfl
              try simp only [Act.put, List.setIfInBounds_toArray, List.set_cons_zero, List.set_cons_succ]
              refine tkH (i := 4) (oi := ⟨some 45, _, _, _, _, _⟩) (v := ?_) ?_ ?_
              rotate_left
              · intro w hSw; go_simp; try with_reducible rfl
              try simp only [Act.put, List.setIfInBounds_toArray, List.set_cons_zero, List.set_cons_succ]
              refine tkH (i := 5) (oi := ⟨some 46, _, _, _, _, _⟩) (v := ?_) ?_ ?_
              rotate_left
              · intro w hSw; go_simp; try with_reducible rfl
              try simp only [Act.put, List.setIfInBounds_toArray, List.set_cons_zero, List.set_cons_succ]
              refine tkH (i := 6) (oi := ⟨some 47, _, _, _, _, _⟩) (v := ?_) ?_ ?_
              rotate_left
              · intro w hSw
                obtain ⟨⟨q0, q1, q2, q3, q4⟩, r1, z0, z1⟩ := HT.out w hSw
                go_simp
                try with_reducible rfl
              try simp only [Act.put, List.setIfInBounds_toArray, List.set_cons_zero, List.set_cons_succ]
              refine wpAnyH_ready (rs := [7]) (by kernel_rfl) (by simp) ?_
              refine AllReadyH.cons (o := ⟨some 48, _, _, _, _, _⟩) rfl (fun K hK => ?_) AllReadyH.nil
              go_simp
              go_at_call 47
              (with_reducible refine (HF.out _ hk).mono ?_)
              rintro e1 w1 ⟨rfl, hb1⟩
              replace hk := hk.trans (hb1.mono hk.size)
              go_wp2_with fail
              refine hK.out _ _ hk (fun hHeld => ?_)
              clear hK K
              try simp only [Act.put, List.setIfInBounds_toArray, List.set_cons_zero, List.set_cons_succ]
              refine tkH (i := 8) (oi := ⟨some 49, _, _, _, _, _⟩) (v := ?_) ?_ ?_
              rotate_left
              · intro w hSw; go_simp; try with_reducible rfl
              try simp only [Act.put, List.setIfInBounds_toArray, List.set_cons_zero, List.set_cons_succ]
              refine tkH (i := 9) (oi := ⟨some 5, _, _, _, _, _⟩) (v := ?_) ?_ ?_
              rotate_left
              · intro w hSw; go_simp; try with_reducible rfl
              try simp only [Act.put, List.setIfInBounds_toArray, List.set_cons_zero, List.set_cons_succ]
              refine wpAnyH_done (by kernel_rfl) ?_ _
              have HB2 := Lib.hid (nextB REL.out (nextB HWU.out hk))
              clear hHeld hk hb1 HF HT
              go_wp2
              go_roundw
              case rel => exact ⟨i + 1, by omega, by go_num, by rw [HJ.out]; rw [← cat_str], HB2⟩
              case measure => simp [intOf] <;> omega
          · obtain rfl : i = m := by omega
            have hfull : Z.take i = Z := by rw [List.take_of_length_le (by rw [HZN.out]; exact Nat.le_refl _)]
            rw [hfull]
            obtain ⟨J, hJ⟩ : ∃ J, Lib.join Z [44, 32] = J := ⟨_, rfl⟩
            have hjl := HJL.out
            rw [hJ] at hjl ⊢
            have HYJ : Hid (y = 91 :: (J ++ [93])) := by show _ = _; rw [HY.out, hJ]
            clear hfull hJ
            go_wp2
            go_ret
            refine ⟨?_, nextB HWV.out REL.out⟩
            rw [HYJ.out, ← wrap_str]
            try rfl
        · have b6 : (T.k == 6) = false := by simpa using k6
          obtain ⟨h1, h2⟩ := leaf_range hok k5 k6 hve
          have HYI : Hid (y = Lib.itoa V.i) := by show _ = _; rw [← hy]; simp only [vfmt, if_neg k1, if_neg k5, if_neg k6]
          have HD := Lib.hid (fun W => decimal_x V.i h1 h2 W)
          obtain ⟨⟨p0, p1, p2, p3, p4⟩, r0, r1, f0, f1⟩ := hbx v (Below.refl _ _)
          clear h hv hok hve IH hl hvl hy hwv hbx HBX k1 k5 k6 hvv hvs hk4 hp9 h1 h2
          go_enter Tryz.func47, Tryz.ntmps47
          go_wp2_with fail
          rw [HVV.out]
          refine (HD.out v).mono ?_
          rintro e1 w1 ⟨rfl, hb⟩
          have HB := Lib.hid (nextB HWV.out hb)
          clear hb HD
          go_wp2
          go_ret
          exact ⟨by rw [HYI.out]; rfl, HB.out⟩

set_option maxHeartbeats 4000000 in
theorem RFormat_x (S : Nat → Prop) (d : Nat) (hd9 : d ≤ 9) (T : Ty) (A : Option Addr) (n c : Nat) (w : World) (h : TyRd S w d T A n c) (hg : Good d T) (hk : T.k ≠ 4) (S' : Nat → Prop) (d' : Nat) (V : Vl) (B : Option Addr) (m q : Nat) (hv : VlRd S' w d' V B m q) (hr3 : T.k = 3 → V.i ≤ 9223372036854775807) (hve : verr d T V = 0) :
    Calls Tryz.prog 28 #[tyV T A n c, vlV V B m q] w (OutStr 0 (vfmt d T V) w) := by
  obtain ⟨v, hvv⟩ : ∃ v, (w.alloc (.cells #[.int .i64 T.k, .int .i64 T.lo, .int .i64 T.hi, .int .i64 T.mx, .slice A n c] 24)).alloc (.cells #[.int .i64 V.i, .slice B m q] 27) = v := ⟨_, rfl⟩
  obtain ⟨hvs, hwv, hbx⟩ := boxes_tv w _ _ _ _ _ _ _ _ _ v hvv
  have hCk := refCheck_h S d hg.deep T A n c v (h.below hwv) S' d' V B m q (hv.below hwv) hr3
  rw [ckErr_good hg hk, hve] at hCk
  have HF := Lib.hid hCk
  have HC : Hid (∀ W, Below v.heap.size v W → Calls Tryz.prog 47 #[tyV T A n c, vlV V B m q] W (GivesStr (vfmt d T V) W)) := fun W hW =>
    text_x d hd9 S T A n c W (h.below (nextB hwv hW)) hg.ok hk S' d' V B m q (hv.below (nextB hwv hW)) hve
  generalize vfmt d T V = y at *
  have HBX := Lib.hid hbx
  have HVV := Lib.hid hvv
  have HWV := Lib.hid hwv
  clear h hg hk hv hvv hbx hwv hvs hCk hve hr3
  go_enter Tryz.func28, Tryz.ntmps28
  go_wp2_with fail
  rw [HVV.out]
  refine HF.out.mono ?_
  rintro e1 w1 ⟨rfl, hb⟩
  obtain ⟨⟨p0, p1, p2, p3, p4⟩, r0, r1, f0, f1⟩ := HBX.out w1 hb
  have HC1 := Lib.hid (HC.out w1 hb)
  clear HF HC
  go_wp2_with fail
  refine HC1.out.mono ?_
  rintro e2 w2 ⟨rfl, hb2⟩
  have HB := Lib.hid (nextB HWV.out (nextB hb hb2))
  clear hb hb2 HC1 HBX p0 p1 p2 p3 p4 r0 r1 f0 f1
  go_wp2
  go_ret2
  exact ⟨rfl, HB.out⟩

set_option maxHeartbeats 4000000 in
theorem RFormat_bad (S : Nat → Prop) (d : Nat) (hd : d ≤ 10) (T : Ty) (A : Option Addr) (n c : Nat) (w : World) (h : TyRd S w d T A n c) (S' : Nat → Prop) (d' : Nat) (V : Vl) (B : Option Addr) (m q : Nat) (hv : VlRd S' w d' V B m q) (hr3 : T.k = 3 → V.i ≤ 9223372036854775807) (hne : ckErr d T V ≠ 0) :
    Calls Tryz.prog 28 #[tyV T A n c, vlV V B m q] w fun e w' => e = .returned (.tuple #[.string ⟨#[]⟩, .int .i64 (ckErr d T V)]) ∧ Below w.heap.size w w' := by
  obtain ⟨v, hvv⟩ : ∃ v, (w.alloc (.cells #[.int .i64 T.k, .int .i64 T.lo, .int .i64 T.hi, .int .i64 T.mx, .slice A n c] 24)).alloc (.cells #[.int .i64 V.i, .slice B m q] 27) = v := ⟨_, rfl⟩
  obtain ⟨hvs, hwv, hbx⟩ := boxes_tv w _ _ _ _ _ _ _ _ _ v hvv
  have HF := Lib.hid (refCheck_h S d hd T A n c v (h.below hwv) S' d' V B m q (hv.below hwv) hr3)
  obtain ⟨x, hx⟩ : ∃ x, ckErr d T V = x := ⟨_, rfl⟩
  rw [hx] at HF hne ⊢
  have bx : (x != 0) = true := by simpa using hne
  have HVV := Lib.hid hvv
  have HWV := Lib.hid hwv
  clear h hv hvv hbx hwv hvs hx hne
  go_enter Tryz.func28, Tryz.ntmps28
  go_wp2_with fail
  rw [HVV.out]
  refine HF.out.mono ?_
  rintro e1 w1 ⟨rfl, hb⟩
  have HWB := Lib.hid (nextB HWV.out hb)
  clear HF hb
  go_wp2
  go_ret2
  exact ⟨rfl, HWB.out⟩

theorem RFormat_e (S : Nat → Prop) (d : Nat) (hd : d ≤ 9) (T : Ty) (A : Option Addr) (n c : Nat) (w : World) (h : TyRd S w d T A n c) (S' : Nat → Prop) (d' : Nat) (V : Vl) (B : Option Addr) (m q : Nat) (hv : VlRd S' w d' V B m q) (hr3 : T.k = 3 → V.i ≤ 9223372036854775807) :
    Calls Tryz.prog 28 #[tyV T A n c, vlV V B m q] w (OutStr (ckErr d T V) (vfmt d T V) w) := by
  by_cases h0 : ckErr d T V = 0
  · rw [h0]
    obtain ⟨h1, h2⟩ := ckErr_zero h0
    obtain ⟨hg, hk⟩ := tyErr_good h1 (by omega)
    exact RFormat_x S d hd T A n c w h hg hk S' d' V B m q hv hr3 h2
  · exact (RFormat_bad S d (by omega) T A n c w h S' d' V B m q hv hr3 h0).mono fun e w' h => OutStr.bad h0 h
end Go.Proofs.YtklndjkblfncjaaGreatDoor
