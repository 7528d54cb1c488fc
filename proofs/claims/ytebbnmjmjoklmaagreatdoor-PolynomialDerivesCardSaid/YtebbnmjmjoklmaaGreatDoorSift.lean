/-
  slices.siftDownCmpFunc over a row of terms, with the order of the normal form.
-/
import Derived.Test.YtebbnmjmjoklmaaGreatDoorReverse
import Derived.Test.YtebbnmjmjoklmaaGreatDoorRowBox
namespace Go.Proofs.YtebbnmjmjoklmaaGreatDoor
open Go Go.RowKit Go.WideMaps Go.Sort
set_option maxRecDepth 20000

theorem sift_one {hi first root : Nat} {d R : Array Q8} (h : siftDown lt8 hi first root d = R) (h1 : 2 * root + 1 < hi) (h2 : ¬ (2 * root + 1 + 1 < hi) ∨ lt8 d[first + (2 * root + 1)]! d[first + (2 * root + 1) + 1]! = false) :
    (if lt8 d[first + root]! d[first + (2 * root + 1)]! then siftDown lt8 hi first (2 * root + 1) (swp d (first + root) (first + (2 * root + 1))) else d) = R := by
  have c : ¬ ((decide (2 * root + 1 + 1 < hi) && lt8 d[first + (2 * root + 1)]! d[first + (2 * root + 1) + 1]!) = true) := by rcases h2 with h2 | h2 <;> simp [h2]
  have e : siftDown lt8 hi first root d = if lt8 d[first + root]! d[first + (2 * root + 1)]! then siftDown lt8 hi first (2 * root + 1) (swp d (first + root) (first + (2 * root + 1))) else d := by
    conv => lhs; unfold siftDown
    rw [dif_neg (by omega), if_neg c]
    cases hl : lt8 d[first + root]! d[first + (2 * root + 1)]! <;> simp
  rw [← e, h]
theorem sift_two {hi first root : Nat} {d R : Array Q8} (h : siftDown lt8 hi first root d = R) (h1 : 2 * root + 2 < hi) (h2 : lt8 d[first + (2 * root + 1)]! d[first + (2 * root + 1) + 1]! = true) :
    (if lt8 d[first + root]! d[first + (2 * root + 2)]! then siftDown lt8 hi first (2 * root + 2) (swp d (first + root) (first + (2 * root + 2))) else d) = R := by
  have c : (decide (2 * root + 1 + 1 < hi) && lt8 d[first + (2 * root + 1)]! d[first + (2 * root + 1) + 1]!) = true := by simp [h2]; omega
  have e : siftDown lt8 hi first root d = if lt8 d[first + root]! d[first + (2 * root + 2)]! then siftDown lt8 hi first (2 * root + 2) (swp d (first + root) (first + (2 * root + 2))) else d := by
    conv => lhs; unfold siftDown
    rw [dif_neg (by omega), if_pos c]
    cases hl : lt8 d[first + root]! d[first + (2 * root + 2)]! <;> simp [h1]
  rw [← e, h]

set_option maxHeartbeats 16000000 in
theorem sift_x {w : World} {base g cap first hi lo : Nat} {d : Array Q8} (hrow : w.ownsRow base 47 11 (.slice (some ⟨g, 0, none⟩) d.size cap) d.size (rowOf (tms (cs8 d)))) (hn : d.size < 1000000) (hb : first + hi ≤ d.size) (hlo : lo ≤ 1000000) :
    Calls Tryz.prog 136 #[.slice (some ⟨g, 0, none⟩) d.size cap, .int .i64 lo, .int .i64 hi, .int .i64 first, .func (.func 65) #[.int .i64 (-1)] #[]] w fun e w' => e = .returned (.tuple #[]) ∧ w'.ownsRow base 47 11 (.slice (some ⟨g, 0, none⟩) d.size cap) d.size (rowOf (tms (cs8 (siftDown lt8 hi first lo d)))) ∧ Keeps g g g w w' := by
  obtain ⟨n, hlen⟩ : ∃ n, d.size = n := ⟨_, rfl⟩
  obtain ⟨R, hR⟩ : ∃ R, siftDown lt8 hi first lo d = R := ⟨_, rfl⟩
  have HR : Hid (siftDown lt8 hi first lo d = R) := hR
  rw [hR]
  rw [hlen] at hrow hn hb ⊢
  have HLEN := Lib.hid hlen
  have HROW := Lib.hid hrow
  clear hR hrow hlen
  have hmix : Tryz.prog.follows .mixedOrders = true := by kernel_rfl
  go_enter Tryz.func136, Tryz.ntmps136
  go_wp2
  go_loopw [10] (fun iv wq => ∃ (root : Nat) (di : Array Q8), iv = .int .i64 root ∧ root ≤ 1000000 ∧ di.size = n ∧ Hid (siftDown lt8 hi first root di = R) ∧ Hid (wq.ownsRow base 47 11 (.slice (some ⟨g, 0, none⟩) n cap) n (rowOf (tms (cs8 di)))) ∧ Hid (Keeps g g g w wq)) (fun iv _ => hi - (intOf iv).toNat)
  case atStart => exact ⟨lo, d, rfl, hlo, HLEN.out, HR, HROW, Keeps.refl ..⟩
  case round =>
    obtain ⟨root, di, rfl, hrt, hdi, HL, HW, HK⟩ := hrel
    clear HR HROW HLEN
    have hr0 : (0 : Int) ≤ root := by omega
    have hr1 : (root : Int) ≤ 1000000 := by omega
    have hf0 : (0 : Int) ≤ first := by omega
    have hf1 : (first : Int) < 1000000 := by omega
    have hh1 : (hi : Int) < 1000000 := by omega
    by_cases hend : hi ≤ 2 * root + 1
    · have hend2 : (hi : Int) ≤ 2 * root + 1 := by omega
      have hRR : di = R := by rw [← HL.out]; unfold siftDown; rw [dif_pos hend]
      subst hRR
      go_wp2
      go_end0
      exact ⟨rfl, HW.out, HK.out⟩
    · have hend2 : ¬ (hi : Int) ≤ 2 * root + 1 := by omega
      have hch1 : first + (2 * root + 1) < n := by omega
      go_upto_region 3 with fail
      obtain ⟨c, hc⟩ : ∃ c, 2 * root + 1 = c := ⟨_, rfl⟩
      have hcI : 2 * (root : Int) + 1 = c := by omega
      rw [hcI]
      have HCI := Lib.hid hcI
      have HCC := Lib.hid hc
      have hcb : c ≤ 3000000 := by omega
      have hcb0 : (0 : Int) ≤ c := by omega
      have hcb1 : (c : Int) ≤ 3000000 := by omega
      have hw1 : IntKind.i64.wrap ((c : Int) + 1) = (c : Int) + 1 := by rw [IntKind.wrap_i64]; omega
      have hw2 : IntKind.i64.wrap ((first : Int) + c) = (first : Int) + c := by rw [IntKind.wrap_i64]; omega
      have hw3 : IntKind.i64.wrap ((first : Int) + c + 1) = (first : Int) + c + 1 := by rw [IntKind.wrap_i64]; omega
      clear hcI hc hend2
      go_cut [40] (fun u40 wx => ∃ b : Bool, u40 = .bool b ∧ Hid (if b then c + 1 < hi ∧ lt8 di[first + c]! di[first + c + 1]! = true else ¬ (c + 1 < hi) ∨ lt8 di[first + c]! di[first + c + 1]! = false) ∧ Hid (Below wr.heap.size wr wx))
      case first =>
        have hk : Below wr.heap.size wr wr.drew := (Below.refl _ wr).drew
        by_cases h2 : c + 1 < hi
        · have h2' : (c : Int) + 1 < hi := by omega
          have q1 : (first : Int) + c < n := by omega
          have q0 : (0 : Int) ≤ (first : Int) + c := by omega
          have qt : ((first : Int) + c).toNat = first + c := by omega
          have p1 : (first : Int) + c + 1 < n := by omega
          have p0 : (0 : Int) ≤ (first : Int) + c + 1 := by omega
          have pt : ((first : Int) + c + 1).toNat = first + c + 1 := by omega
          obtain ⟨xa, hxa⟩ : ∃ x, di[first + c]! = x := ⟨_, rfl⟩
          obtain ⟨xb, hxb⟩ : ∃ x, di[first + c + 1]! = x := ⟨_, rfl⟩
          have hsj : (tms (cs8 di))[first + c]? = some di[first + c]!.1.1 := tms8_get (by omega)
          have hsp : (tms (cs8 di))[first + c + 1]? = some di[first + c + 1]!.1.1 := tms8_get (by omega)
          rw [hxa] at hsj
          rw [hxb] at hsp
          have hlt8 := lt8_cmp xa xb
          obtain ⟨x0, x1, x2, x3, x4, x5, x6, x7, hX⟩ := eight xa.2
          obtain ⟨y0, y1, y2, y3, y4, y5, y6, y7, hY⟩ := eight xb.2
          have hb1 : RowBox g (first + c) x0 x1 x2 x3 x4 x5 x6 x7 xa.1.1 wr := row_cells HW.out (tms8 di) (by rw [tms8_length, hdi]) hsj hX
          have hb2 : RowBox g (first + c + 1) y0 y1 y2 y3 y4 y5 y6 y7 xb.1.1 wr := row_cells HW.out (tms8 di) (by rw [tms8_length, hdi]) hsp hY
          have hgl : g < wr.heap.size := (HW.out.lt g rfl).2
          obtain ⟨r, hr⟩ : ∃ r, -cmpL [x0, x1, x2, x3, x4, x5, x6, x7] [y0, y1, y2, y3, y4, y5, y6, y7] = r := ⟨_, rfl⟩
          have HC : Hid (∀ W, Calls Tryz.prog 65 #[.int .i64 (-1), .agg #[.int .i64 x0, .int .i64 x1, .int .i64 x2, .int .i64 x3, .int .i64 x4, .int .i64 x5, .int .i64 x6, .int .i64 x7, .bool xa.1.1.s, .slice xa.1.1.A xa.1.1.n xa.1.1.c, .slice xa.1.1.B xa.1.1.m xa.1.1.d], .agg #[.int .i64 y0, .int .i64 y1, .int .i64 y2, .int .i64 y3, .int .i64 y4, .int .i64 y5, .int .i64 y6, .int .i64 y7, .bool xb.1.1.s, .slice xb.1.1.A xb.1.1.n xb.1.1.c, .slice xb.1.1.B xb.1.1.m xb.1.1.d]] W fun e w' => e = .returned (.int .i64 r) ∧ Below W.heap.size W w') := fun W => by
            rw [← hr]; exact compare_x _ _ _ _ _ _ _ _ _ _ _ _ _ _ _ _ _ _ _ _ _ _ _ _ _ _ _ _ _ _ _
          rw [hX, hY, hr] at hlt8
          have HBX : Hid (∀ W, Below wr.heap.size wr W → RowBox g (first + c) x0 x1 x2 x3 x4 x5 x6 x7 xa.1.1 W ∧ RowBox g (first + c + 1) y0 y1 y2 y3 y4 y5 y6 y7 xb.1.1 W) := fun W hW => ⟨hb1.below hW hgl, hb2.below hW hgl⟩
          have HLT := Lib.hid hlt8
          have HXI := Lib.hid hxa
          have HXJ := Lib.hid hxb
          clear hX hY hsj hsp hlt8 hxa hxb hr hb1 hb2 hgl
          by_cases hlv : r < 0
          · have HU : Hid (c + 1 < hi ∧ lt8 di[first + c]! di[first + c + 1]! = true) := ⟨h2, by rw [HXI.out, HXJ.out]; exact HLT.out.1 hlv⟩
            clear HXI HXJ HLT
            refine wp_region_held_drew (S := (fun W => RowBox g (first + c) x0 x1 x2 x3 x4 x5 x6 x7 xa.1.1 W ∧ RowBox g (first + c + 1) y0 y1 y2 y3 y4 y5 y6 y7 xb.1.1 W)) (by kernel_rfl) ?_ (fun hHeld => ?_)
            · exact HBX.out _ hk
            refine wpAnyH_take (i := 0) (oi := ⟨some 19, _, _, _, _, _⟩) (v := ?_) rfl (by kernel_rfl) (by kernel_rfl) (by kernel_rfl) (fun _ _ _ h => h) (Or.inl ⟨by rfl, ?_⟩) (by assumption) ?_
            rotate_left
            · intro w hSw
              (try dsimp only at hSw)
              unfold RowBox at hSw
              obtain ⟨⟨h0, h1, h2, h3, h4, h5, h6, h7, h8, h9, h10⟩, j0, j1, j2, j3, j4, j5, j6, j7, j8, j9, j10⟩ := hSw
              go_simp
              try with_reducible rfl
            try simp only [Act.put, List.setIfInBounds_toArray, List.set_cons_zero, List.set_cons_succ]
            refine wpAnyH_take (i := 1) (oi := ⟨some 20, _, _, _, _, _⟩) (v := ?_) rfl (by kernel_rfl) (by kernel_rfl) (by kernel_rfl) (fun _ _ _ h => h) (Or.inl ⟨by rfl, ?_⟩) (by assumption) ?_
            rotate_left
            · intro w hSw
              (try dsimp only at hSw)
              unfold RowBox at hSw
              obtain ⟨⟨h0, h1, h2, h3, h4, h5, h6, h7, h8, h9, h10⟩, j0, j1, j2, j3, j4, j5, j6, j7, j8, j9, j10⟩ := hSw
              go_simp
              try with_reducible rfl
            try simp only [Act.put, List.setIfInBounds_toArray, List.set_cons_zero, List.set_cons_succ]
            refine wpAnyH_take (i := 2) (oi := ⟨some 21, _, _, _, _, _⟩) (v := ?_) rfl (by kernel_rfl) (by kernel_rfl) (by kernel_rfl) (fun _ _ _ h => h) (Or.inl ⟨by rfl, ?_⟩) (by assumption) ?_
            rotate_left
            · intro w hSw
              (try dsimp only at hSw)
              unfold RowBox at hSw
              obtain ⟨⟨h0, h1, h2, h3, h4, h5, h6, h7, h8, h9, h10⟩, j0, j1, j2, j3, j4, j5, j6, j7, j8, j9, j10⟩ := hSw
              go_simp
              try with_reducible rfl
            try simp only [Act.put, List.setIfInBounds_toArray, List.set_cons_zero, List.set_cons_succ]
            refine wpAnyH_take (i := 3) (oi := ⟨some 22, _, _, _, _, _⟩) (v := ?_) rfl (by kernel_rfl) (by kernel_rfl) (by kernel_rfl) (fun _ _ _ h => h) (Or.inl ⟨by rfl, ?_⟩) (by assumption) ?_
            rotate_left
            · intro w hSw
              (try dsimp only at hSw)
              unfold RowBox at hSw
              obtain ⟨⟨h0, h1, h2, h3, h4, h5, h6, h7, h8, h9, h10⟩, j0, j1, j2, j3, j4, j5, j6, j7, j8, j9, j10⟩ := hSw
              go_simp
              try with_reducible rfl
            try simp only [Act.put, List.setIfInBounds_toArray, List.set_cons_zero, List.set_cons_succ]
            refine wpAnyH_take (i := 4) (oi := ⟨some 23, _, _, _, _, _⟩) (v := ?_) rfl (by kernel_rfl) (by kernel_rfl) (by kernel_rfl) (fun _ _ _ h => h) (Or.inl ⟨by rfl, ?_⟩) (by assumption) ?_
            rotate_left
            · intro w hSw
              (try dsimp only at hSw)
              unfold RowBox at hSw
              obtain ⟨⟨h0, h1, h2, h3, h4, h5, h6, h7, h8, h9, h10⟩, j0, j1, j2, j3, j4, j5, j6, j7, j8, j9, j10⟩ := hSw
              go_simp
              try with_reducible rfl
            try simp only [Act.put, List.setIfInBounds_toArray, List.set_cons_zero, List.set_cons_succ]
            refine wpAnyH_take (i := 5) (oi := ⟨some 24, _, _, _, _, _⟩) (v := ?_) rfl (by kernel_rfl) (by kernel_rfl) (by kernel_rfl) (fun _ _ _ h => h) (Or.inl ⟨by rfl, ?_⟩) (by assumption) ?_
            rotate_left
            · intro w hSw
              (try dsimp only at hSw)
              unfold RowBox at hSw
              obtain ⟨⟨h0, h1, h2, h3, h4, h5, h6, h7, h8, h9, h10⟩, j0, j1, j2, j3, j4, j5, j6, j7, j8, j9, j10⟩ := hSw
              go_simp
              try with_reducible rfl
            try simp only [Act.put, List.setIfInBounds_toArray, List.set_cons_zero, List.set_cons_succ]
            refine wpAnyH_take (i := 6) (oi := ⟨some 25, _, _, _, _, _⟩) (v := ?_) rfl (by kernel_rfl) (by kernel_rfl) (by kernel_rfl) (fun _ _ _ h => h) (Or.inl ⟨by rfl, ?_⟩) (by assumption) ?_
            rotate_left
            · intro w hSw
              (try dsimp only at hSw)
              unfold RowBox at hSw
              obtain ⟨⟨h0, h1, h2, h3, h4, h5, h6, h7, h8, h9, h10⟩, j0, j1, j2, j3, j4, j5, j6, j7, j8, j9, j10⟩ := hSw
              go_simp
              try with_reducible rfl
            try simp only [Act.put, List.setIfInBounds_toArray, List.set_cons_zero, List.set_cons_succ]
            refine wpAnyH_take (i := 7) (oi := ⟨some 26, _, _, _, _, _⟩) (v := ?_) rfl (by kernel_rfl) (by kernel_rfl) (by kernel_rfl) (fun _ _ _ h => h) (Or.inl ⟨by rfl, ?_⟩) (by assumption) ?_
            rotate_left
            · intro w hSw
              (try dsimp only at hSw)
              unfold RowBox at hSw
              obtain ⟨⟨h0, h1, h2, h3, h4, h5, h6, h7, h8, h9, h10⟩, j0, j1, j2, j3, j4, j5, j6, j7, j8, j9, j10⟩ := hSw
              go_simp
              try with_reducible rfl
            try simp only [Act.put, List.setIfInBounds_toArray, List.set_cons_zero, List.set_cons_succ]
            refine wpAnyH_take (i := 8) (oi := ⟨some 27, _, _, _, _, _⟩) (v := ?_) rfl (by kernel_rfl) (by kernel_rfl) (by kernel_rfl) (fun _ _ _ h => h) (Or.inl ⟨by rfl, ?_⟩) (by assumption) ?_
            rotate_left
            · intro w hSw
              (try dsimp only at hSw)
              unfold RowBox at hSw
              obtain ⟨⟨h0, h1, h2, h3, h4, h5, h6, h7, h8, h9, h10⟩, j0, j1, j2, j3, j4, j5, j6, j7, j8, j9, j10⟩ := hSw
              go_simp
              try with_reducible rfl
            try simp only [Act.put, List.setIfInBounds_toArray, List.set_cons_zero, List.set_cons_succ]
            refine wpAnyH_take (i := 9) (oi := ⟨some 28, _, _, _, _, _⟩) (v := ?_) rfl (by kernel_rfl) (by kernel_rfl) (by kernel_rfl) (fun _ _ _ h => h) (Or.inl ⟨by rfl, ?_⟩) (by assumption) ?_
            rotate_left
            · intro w hSw
              (try dsimp only at hSw)
              unfold RowBox at hSw
              obtain ⟨⟨h0, h1, h2, h3, h4, h5, h6, h7, h8, h9, h10⟩, j0, j1, j2, j3, j4, j5, j6, j7, j8, j9, j10⟩ := hSw
              go_simp
              try with_reducible rfl
            try simp only [Act.put, List.setIfInBounds_toArray, List.set_cons_zero, List.set_cons_succ]
            refine wpAnyH_take (i := 10) (oi := ⟨some 29, _, _, _, _, _⟩) (v := ?_) rfl (by kernel_rfl) (by kernel_rfl) (by kernel_rfl) (fun _ _ _ h => h) (Or.inl ⟨by rfl, ?_⟩) (by assumption) ?_
            rotate_left
            · intro w hSw
              (try dsimp only at hSw)
              unfold RowBox at hSw
              obtain ⟨⟨h0, h1, h2, h3, h4, h5, h6, h7, h8, h9, h10⟩, j0, j1, j2, j3, j4, j5, j6, j7, j8, j9, j10⟩ := hSw
              go_simp
              try with_reducible rfl
            try simp only [Act.put, List.setIfInBounds_toArray, List.set_cons_zero, List.set_cons_succ]
            refine wpAnyH_take (i := 11) (oi := ⟨some 30, _, _, _, _, _⟩) (v := ?_) rfl (by kernel_rfl) (by kernel_rfl) (by kernel_rfl) (fun _ _ _ h => h) (Or.inl ⟨by rfl, ?_⟩) (by assumption) ?_
            rotate_left
            · intro w hSw
              (try dsimp only at hSw)
              unfold RowBox at hSw
              obtain ⟨⟨h0, h1, h2, h3, h4, h5, h6, h7, h8, h9, h10⟩, j0, j1, j2, j3, j4, j5, j6, j7, j8, j9, j10⟩ := hSw
              go_simp
              try with_reducible rfl
            try simp only [Act.put, List.setIfInBounds_toArray, List.set_cons_zero, List.set_cons_succ]
            refine wpAnyH_take (i := 12) (oi := ⟨some 31, _, _, _, _, _⟩) (v := ?_) rfl (by kernel_rfl) (by kernel_rfl) (by kernel_rfl) (fun _ _ _ h => h) (Or.inl ⟨by rfl, ?_⟩) (by assumption) ?_
            rotate_left
            · intro w hSw
              (try dsimp only at hSw)
              unfold RowBox at hSw
              obtain ⟨⟨h0, h1, h2, h3, h4, h5, h6, h7, h8, h9, h10⟩, j0, j1, j2, j3, j4, j5, j6, j7, j8, j9, j10⟩ := hSw
              go_simp
              try with_reducible rfl
            try simp only [Act.put, List.setIfInBounds_toArray, List.set_cons_zero, List.set_cons_succ]
            refine wpAnyH_take (i := 13) (oi := ⟨some 32, _, _, _, _, _⟩) (v := ?_) rfl (by kernel_rfl) (by kernel_rfl) (by kernel_rfl) (fun _ _ _ h => h) (Or.inl ⟨by rfl, ?_⟩) (by assumption) ?_
            rotate_left
            · intro w hSw
              (try dsimp only at hSw)
              unfold RowBox at hSw
              obtain ⟨⟨h0, h1, h2, h3, h4, h5, h6, h7, h8, h9, h10⟩, j0, j1, j2, j3, j4, j5, j6, j7, j8, j9, j10⟩ := hSw
              go_simp
              try with_reducible rfl
            try simp only [Act.put, List.setIfInBounds_toArray, List.set_cons_zero, List.set_cons_succ]
            refine wpAnyH_take (i := 14) (oi := ⟨some 33, _, _, _, _, _⟩) (v := ?_) rfl (by kernel_rfl) (by kernel_rfl) (by kernel_rfl) (fun _ _ _ h => h) (Or.inl ⟨by rfl, ?_⟩) (by assumption) ?_
            rotate_left
            · intro w hSw
              (try dsimp only at hSw)
              unfold RowBox at hSw
              obtain ⟨⟨h0, h1, h2, h3, h4, h5, h6, h7, h8, h9, h10⟩, j0, j1, j2, j3, j4, j5, j6, j7, j8, j9, j10⟩ := hSw
              go_simp
              try with_reducible rfl
            try simp only [Act.put, List.setIfInBounds_toArray, List.set_cons_zero, List.set_cons_succ]
            refine wpAnyH_take (i := 15) (oi := ⟨some 34, _, _, _, _, _⟩) (v := ?_) rfl (by kernel_rfl) (by kernel_rfl) (by kernel_rfl) (fun _ _ _ h => h) (Or.inl ⟨by rfl, ?_⟩) (by assumption) ?_
            rotate_left
            · intro w hSw
              (try dsimp only at hSw)
              unfold RowBox at hSw
              obtain ⟨⟨h0, h1, h2, h3, h4, h5, h6, h7, h8, h9, h10⟩, j0, j1, j2, j3, j4, j5, j6, j7, j8, j9, j10⟩ := hSw
              go_simp
              try with_reducible rfl
            try simp only [Act.put, List.setIfInBounds_toArray, List.set_cons_zero, List.set_cons_succ]
            refine wpAnyH_take (i := 16) (oi := ⟨some 35, _, _, _, _, _⟩) (v := ?_) rfl (by kernel_rfl) (by kernel_rfl) (by kernel_rfl) (fun _ _ _ h => h) (Or.inl ⟨by rfl, ?_⟩) (by assumption) ?_
            rotate_left
            · intro w hSw
              (try dsimp only at hSw)
              unfold RowBox at hSw
              obtain ⟨⟨h0, h1, h2, h3, h4, h5, h6, h7, h8, h9, h10⟩, j0, j1, j2, j3, j4, j5, j6, j7, j8, j9, j10⟩ := hSw
              go_simp
              try with_reducible rfl
            try simp only [Act.put, List.setIfInBounds_toArray, List.set_cons_zero, List.set_cons_succ]
            refine wpAnyH_take (i := 17) (oi := ⟨some 36, _, _, _, _, _⟩) (v := ?_) rfl (by kernel_rfl) (by kernel_rfl) (by kernel_rfl) (fun _ _ _ h => h) (Or.inl ⟨by rfl, ?_⟩) (by assumption) ?_
            rotate_left
            · intro w hSw
              (try dsimp only at hSw)
              unfold RowBox at hSw
              obtain ⟨⟨h0, h1, h2, h3, h4, h5, h6, h7, h8, h9, h10⟩, j0, j1, j2, j3, j4, j5, j6, j7, j8, j9, j10⟩ := hSw
              go_simp
              try with_reducible rfl
            try simp only [Act.put, List.setIfInBounds_toArray, List.set_cons_zero, List.set_cons_succ]
            refine wpAnyH_take (i := 18) (oi := ⟨some 37, _, _, _, _, _⟩) (v := ?_) rfl (by kernel_rfl) (by kernel_rfl) (by kernel_rfl) (fun _ _ _ h => h) (Or.inl ⟨by rfl, ?_⟩) (by assumption) ?_
            rotate_left
            · intro w hSw
              (try dsimp only at hSw)
              unfold RowBox at hSw
              obtain ⟨⟨h0, h1, h2, h3, h4, h5, h6, h7, h8, h9, h10⟩, j0, j1, j2, j3, j4, j5, j6, j7, j8, j9, j10⟩ := hSw
              go_simp
              try with_reducible rfl
            try simp only [Act.put, List.setIfInBounds_toArray, List.set_cons_zero, List.set_cons_succ]
            refine wpAnyH_ready (rs := [19]) (by kernel_rfl) (by simp) ?_
            refine AllReadyH.cons (o := ⟨some 38, _, _, _, _, _⟩) rfl (fun K hK => ?_) AllReadyH.nil
            go_simp
            go_at_call 65
            refine (HC.out _).mono ?_
            rintro e w3 ⟨rfl, e3⟩
            replace hk := nextB hk e3
            go_wp2_with fail
            refine hK.out _ _ (HBX.out _ hk) (fun hHeld => ?_)
            clear hK K
            try simp only [Act.put, List.setIfInBounds_toArray, List.set_cons_zero, List.set_cons_succ]
            refine wpAnyH_take (i := 20) (oi := ⟨some 39, _, _, _, _, _⟩) (v := ?_) rfl (by kernel_rfl) (by kernel_rfl) (by kernel_rfl) (fun _ _ _ h => h) (Or.inl ⟨by rfl, ?_⟩) (by assumption) ?_
            rotate_left
            · intro w hSw
              (try dsimp only at hSw)
              unfold RowBox at hSw
              obtain ⟨⟨h0, h1, h2, h3, h4, h5, h6, h7, h8, h9, h10⟩, j0, j1, j2, j3, j4, j5, j6, j7, j8, j9, j10⟩ := hSw
              go_simp
              try with_reducible rfl
            try simp only [Act.put, List.setIfInBounds_toArray, List.set_cons_zero, List.set_cons_succ]
            refine wpAnyH_take (i := 21) (oi := ⟨some 40, _, _, _, _, _⟩) (v := ?_) rfl (by kernel_rfl) (by kernel_rfl) (by kernel_rfl) (fun _ _ _ h => h) (Or.inl ⟨by rfl, ?_⟩) (by assumption) ?_
            rotate_left
            · intro w hSw
              (try dsimp only at hSw)
              unfold RowBox at hSw
              obtain ⟨⟨h0, h1, h2, h3, h4, h5, h6, h7, h8, h9, h10⟩, j0, j1, j2, j3, j4, j5, j6, j7, j8, j9, j10⟩ := hSw
              go_simp
              try with_reducible rfl
            try simp only [Act.put, List.setIfInBounds_toArray, List.set_cons_zero, List.set_cons_succ]
            refine wpAnyH_done (by kernel_rfl) ?_ _
            go_wp2
            go_meet
            exact ⟨true, rfl, HU, hk⟩
          · have HU : Hid (¬ (c + 1 < hi) ∨ lt8 di[first + c]! di[first + c + 1]! = false) := by
              show _ ∨ _
              right
              rw [HXI.out, HXJ.out]
              cases hq : lt8 xa xb with
              | false => rfl
              | true => exact absurd (HLT.out.2 hq) hlv
            clear HXI HXJ HLT
            refine wp_region_held_drew (S := (fun W => RowBox g (first + c) x0 x1 x2 x3 x4 x5 x6 x7 xa.1.1 W ∧ RowBox g (first + c + 1) y0 y1 y2 y3 y4 y5 y6 y7 xb.1.1 W)) (by kernel_rfl) ?_ (fun hHeld => ?_)
            · exact HBX.out _ hk
            refine wpAnyH_take (i := 0) (oi := ⟨some 19, _, _, _, _, _⟩) (v := ?_) rfl (by kernel_rfl) (by kernel_rfl) (by kernel_rfl) (fun _ _ _ h => h) (Or.inl ⟨by rfl, ?_⟩) (by assumption) ?_
            rotate_left
            · intro w hSw
              (try dsimp only at hSw)
              unfold RowBox at hSw
              obtain ⟨⟨h0, h1, h2, h3, h4, h5, h6, h7, h8, h9, h10⟩, j0, j1, j2, j3, j4, j5, j6, j7, j8, j9, j10⟩ := hSw
              go_simp
              try with_reducible rfl
            try simp only [Act.put, List.setIfInBounds_toArray, List.set_cons_zero, List.set_cons_succ]
            refine wpAnyH_take (i := 1) (oi := ⟨some 20, _, _, _, _, _⟩) (v := ?_) rfl (by kernel_rfl) (by kernel_rfl) (by kernel_rfl) (fun _ _ _ h => h) (Or.inl ⟨by rfl, ?_⟩) (by assumption) ?_
            rotate_left
            · intro w hSw
              (try dsimp only at hSw)
              unfold RowBox at hSw
              obtain ⟨⟨h0, h1, h2, h3, h4, h5, h6, h7, h8, h9, h10⟩, j0, j1, j2, j3, j4, j5, j6, j7, j8, j9, j10⟩ := hSw
              go_simp
              try with_reducible rfl
            try simp only [Act.put, List.setIfInBounds_toArray, List.set_cons_zero, List.set_cons_succ]
            refine wpAnyH_take (i := 2) (oi := ⟨some 21, _, _, _, _, _⟩) (v := ?_) rfl (by kernel_rfl) (by kernel_rfl) (by kernel_rfl) (fun _ _ _ h => h) (Or.inl ⟨by rfl, ?_⟩) (by assumption) ?_
            rotate_left
            · intro w hSw
              (try dsimp only at hSw)
              unfold RowBox at hSw
              obtain ⟨⟨h0, h1, h2, h3, h4, h5, h6, h7, h8, h9, h10⟩, j0, j1, j2, j3, j4, j5, j6, j7, j8, j9, j10⟩ := hSw
              go_simp
              try with_reducible rfl
            try simp only [Act.put, List.setIfInBounds_toArray, List.set_cons_zero, List.set_cons_succ]
            refine wpAnyH_take (i := 3) (oi := ⟨some 22, _, _, _, _, _⟩) (v := ?_) rfl (by kernel_rfl) (by kernel_rfl) (by kernel_rfl) (fun _ _ _ h => h) (Or.inl ⟨by rfl, ?_⟩) (by assumption) ?_
            rotate_left
            · intro w hSw
              (try dsimp only at hSw)
              unfold RowBox at hSw
              obtain ⟨⟨h0, h1, h2, h3, h4, h5, h6, h7, h8, h9, h10⟩, j0, j1, j2, j3, j4, j5, j6, j7, j8, j9, j10⟩ := hSw
              go_simp
              try with_reducible rfl
            try simp only [Act.put, List.setIfInBounds_toArray, List.set_cons_zero, List.set_cons_succ]
            refine wpAnyH_take (i := 4) (oi := ⟨some 23, _, _, _, _, _⟩) (v := ?_) rfl (by kernel_rfl) (by kernel_rfl) (by kernel_rfl) (fun _ _ _ h => h) (Or.inl ⟨by rfl, ?_⟩) (by assumption) ?_
            rotate_left
            · intro w hSw
              (try dsimp only at hSw)
              unfold RowBox at hSw
              obtain ⟨⟨h0, h1, h2, h3, h4, h5, h6, h7, h8, h9, h10⟩, j0, j1, j2, j3, j4, j5, j6, j7, j8, j9, j10⟩ := hSw
              go_simp
              try with_reducible rfl
            try simp only [Act.put, List.setIfInBounds_toArray, List.set_cons_zero, List.set_cons_succ]
            refine wpAnyH_take (i := 5) (oi := ⟨some 24, _, _, _, _, _⟩) (v := ?_) rfl (by kernel_rfl) (by kernel_rfl) (by kernel_rfl) (fun _ _ _ h => h) (Or.inl ⟨by rfl, ?_⟩) (by assumption) ?_
            rotate_left
            · intro w hSw
              (try dsimp only at hSw)
              unfold RowBox at hSw
              obtain ⟨⟨h0, h1, h2, h3, h4, h5, h6, h7, h8, h9, h10⟩, j0, j1, j2, j3, j4, j5, j6, j7, j8, j9, j10⟩ := hSw
              go_simp
              try with_reducible rfl
            try simp only [Act.put, List.setIfInBounds_toArray, List.set_cons_zero, List.set_cons_succ]
            refine wpAnyH_take (i := 6) (oi := ⟨some 25, _, _, _, _, _⟩) (v := ?_) rfl (by kernel_rfl) (by kernel_rfl) (by kernel_rfl) (fun _ _ _ h => h) (Or.inl ⟨by rfl, ?_⟩) (by assumption) ?_
            rotate_left
            · intro w hSw
              (try dsimp only at hSw)
              unfold RowBox at hSw
              obtain ⟨⟨h0, h1, h2, h3, h4, h5, h6, h7, h8, h9, h10⟩, j0, j1, j2, j3, j4, j5, j6, j7, j8, j9, j10⟩ := hSw
              go_simp
              try with_reducible rfl
            try simp only [Act.put, List.setIfInBounds_toArray, List.set_cons_zero, List.set_cons_succ]
            refine wpAnyH_take (i := 7) (oi := ⟨some 26, _, _, _, _, _⟩) (v := ?_) rfl (by kernel_rfl) (by kernel_rfl) (by kernel_rfl) (fun _ _ _ h => h) (Or.inl ⟨by rfl, ?_⟩) (by assumption) ?_
            rotate_left
            · intro w hSw
              (try dsimp only at hSw)
              unfold RowBox at hSw
              obtain ⟨⟨h0, h1, h2, h3, h4, h5, h6, h7, h8, h9, h10⟩, j0, j1, j2, j3, j4, j5, j6, j7, j8, j9, j10⟩ := hSw
              go_simp
              try with_reducible rfl
            try simp only [Act.put, List.setIfInBounds_toArray, List.set_cons_zero, List.set_cons_succ]
            refine wpAnyH_take (i := 8) (oi := ⟨some 27, _, _, _, _, _⟩) (v := ?_) rfl (by kernel_rfl) (by kernel_rfl) (by kernel_rfl) (fun _ _ _ h => h) (Or.inl ⟨by rfl, ?_⟩) (by assumption) ?_
            rotate_left
            · intro w hSw
              (try dsimp only at hSw)
              unfold RowBox at hSw
              obtain ⟨⟨h0, h1, h2, h3, h4, h5, h6, h7, h8, h9, h10⟩, j0, j1, j2, j3, j4, j5, j6, j7, j8, j9, j10⟩ := hSw
              go_simp
              try with_reducible rfl
            try simp only [Act.put, List.setIfInBounds_toArray, List.set_cons_zero, List.set_cons_succ]
            refine wpAnyH_take (i := 9) (oi := ⟨some 28, _, _, _, _, _⟩) (v := ?_) rfl (by kernel_rfl) (by kernel_rfl) (by kernel_rfl) (fun _ _ _ h => h) (Or.inl ⟨by rfl, ?_⟩) (by assumption) ?_
            rotate_left
            · intro w hSw
              (try dsimp only at hSw)
              unfold RowBox at hSw
              obtain ⟨⟨h0, h1, h2, h3, h4, h5, h6, h7, h8, h9, h10⟩, j0, j1, j2, j3, j4, j5, j6, j7, j8, j9, j10⟩ := hSw
              go_simp
              try with_reducible rfl
            try simp only [Act.put, List.setIfInBounds_toArray, List.set_cons_zero, List.set_cons_succ]
            refine wpAnyH_take (i := 10) (oi := ⟨some 29, _, _, _, _, _⟩) (v := ?_) rfl (by kernel_rfl) (by kernel_rfl) (by kernel_rfl) (fun _ _ _ h => h) (Or.inl ⟨by rfl, ?_⟩) (by assumption) ?_
            rotate_left
            · intro w hSw
              (try dsimp only at hSw)
              unfold RowBox at hSw
              obtain ⟨⟨h0, h1, h2, h3, h4, h5, h6, h7, h8, h9, h10⟩, j0, j1, j2, j3, j4, j5, j6, j7, j8, j9, j10⟩ := hSw
              go_simp
              try with_reducible rfl
            try simp only [Act.put, List.setIfInBounds_toArray, List.set_cons_zero, List.set_cons_succ]
            refine wpAnyH_take (i := 11) (oi := ⟨some 30, _, _, _, _, _⟩) (v := ?_) rfl (by kernel_rfl) (by kernel_rfl) (by kernel_rfl) (fun _ _ _ h => h) (Or.inl ⟨by rfl, ?_⟩) (by assumption) ?_
            rotate_left
            · intro w hSw
              (try dsimp only at hSw)
              unfold RowBox at hSw
              obtain ⟨⟨h0, h1, h2, h3, h4, h5, h6, h7, h8, h9, h10⟩, j0, j1, j2, j3, j4, j5, j6, j7, j8, j9, j10⟩ := hSw
              go_simp
              try with_reducible rfl
            try simp only [Act.put, List.setIfInBounds_toArray, List.set_cons_zero, List.set_cons_succ]
            refine wpAnyH_take (i := 12) (oi := ⟨some 31, _, _, _, _, _⟩) (v := ?_) rfl (by kernel_rfl) (by kernel_rfl) (by kernel_rfl) (fun _ _ _ h => h) (Or.inl ⟨by rfl, ?_⟩) (by assumption) ?_
            rotate_left
            · intro w hSw
              (try dsimp only at hSw)
              unfold RowBox at hSw
              obtain ⟨⟨h0, h1, h2, h3, h4, h5, h6, h7, h8, h9, h10⟩, j0, j1, j2, j3, j4, j5, j6, j7, j8, j9, j10⟩ := hSw
              go_simp
              try with_reducible rfl
            try simp only [Act.put, List.setIfInBounds_toArray, List.set_cons_zero, List.set_cons_succ]
            refine wpAnyH_take (i := 13) (oi := ⟨some 32, _, _, _, _, _⟩) (v := ?_) rfl (by kernel_rfl) (by kernel_rfl) (by kernel_rfl) (fun _ _ _ h => h) (Or.inl ⟨by rfl, ?_⟩) (by assumption) ?_
            rotate_left
            · intro w hSw
              (try dsimp only at hSw)
              unfold RowBox at hSw
              obtain ⟨⟨h0, h1, h2, h3, h4, h5, h6, h7, h8, h9, h10⟩, j0, j1, j2, j3, j4, j5, j6, j7, j8, j9, j10⟩ := hSw
              go_simp
              try with_reducible rfl
            try simp only [Act.put, List.setIfInBounds_toArray, List.set_cons_zero, List.set_cons_succ]
            refine wpAnyH_take (i := 14) (oi := ⟨some 33, _, _, _, _, _⟩) (v := ?_) rfl (by kernel_rfl) (by kernel_rfl) (by kernel_rfl) (fun _ _ _ h => h) (Or.inl ⟨by rfl, ?_⟩) (by assumption) ?_
            rotate_left
            · intro w hSw
              (try dsimp only at hSw)
              unfold RowBox at hSw
              obtain ⟨⟨h0, h1, h2, h3, h4, h5, h6, h7, h8, h9, h10⟩, j0, j1, j2, j3, j4, j5, j6, j7, j8, j9, j10⟩ := hSw
              go_simp
              try with_reducible rfl
            try simp only [Act.put, List.setIfInBounds_toArray, List.set_cons_zero, List.set_cons_succ]
            refine wpAnyH_take (i := 15) (oi := ⟨some 34, _, _, _, _, _⟩) (v := ?_) rfl (by kernel_rfl) (by kernel_rfl) (by kernel_rfl) (fun _ _ _ h => h) (Or.inl ⟨by rfl, ?_⟩) (by assumption) ?_
            rotate_left
            · intro w hSw
              (try dsimp only at hSw)
              unfold RowBox at hSw
              obtain ⟨⟨h0, h1, h2, h3, h4, h5, h6, h7, h8, h9, h10⟩, j0, j1, j2, j3, j4, j5, j6, j7, j8, j9, j10⟩ := hSw
              go_simp
              try with_reducible rfl
            try simp only [Act.put, List.setIfInBounds_toArray, List.set_cons_zero, List.set_cons_succ]
            refine wpAnyH_take (i := 16) (oi := ⟨some 35, _, _, _, _, _⟩) (v := ?_) rfl (by kernel_rfl) (by kernel_rfl) (by kernel_rfl) (fun _ _ _ h => h) (Or.inl ⟨by rfl, ?_⟩) (by assumption) ?_
            rotate_left
            · intro w hSw
              (try dsimp only at hSw)
              unfold RowBox at hSw
              obtain ⟨⟨h0, h1, h2, h3, h4, h5, h6, h7, h8, h9, h10⟩, j0, j1, j2, j3, j4, j5, j6, j7, j8, j9, j10⟩ := hSw
              go_simp
              try with_reducible rfl
            try simp only [Act.put, List.setIfInBounds_toArray, List.set_cons_zero, List.set_cons_succ]
            refine wpAnyH_take (i := 17) (oi := ⟨some 36, _, _, _, _, _⟩) (v := ?_) rfl (by kernel_rfl) (by kernel_rfl) (by kernel_rfl) (fun _ _ _ h => h) (Or.inl ⟨by rfl, ?_⟩) (by assumption) ?_
            rotate_left
            · intro w hSw
              (try dsimp only at hSw)
              unfold RowBox at hSw
              obtain ⟨⟨h0, h1, h2, h3, h4, h5, h6, h7, h8, h9, h10⟩, j0, j1, j2, j3, j4, j5, j6, j7, j8, j9, j10⟩ := hSw
              go_simp
              try with_reducible rfl
            try simp only [Act.put, List.setIfInBounds_toArray, List.set_cons_zero, List.set_cons_succ]
            refine wpAnyH_take (i := 18) (oi := ⟨some 37, _, _, _, _, _⟩) (v := ?_) rfl (by kernel_rfl) (by kernel_rfl) (by kernel_rfl) (fun _ _ _ h => h) (Or.inl ⟨by rfl, ?_⟩) (by assumption) ?_
            rotate_left
            · intro w hSw
              (try dsimp only at hSw)
              unfold RowBox at hSw
              obtain ⟨⟨h0, h1, h2, h3, h4, h5, h6, h7, h8, h9, h10⟩, j0, j1, j2, j3, j4, j5, j6, j7, j8, j9, j10⟩ := hSw
              go_simp
              try with_reducible rfl
            try simp only [Act.put, List.setIfInBounds_toArray, List.set_cons_zero, List.set_cons_succ]
            refine wpAnyH_ready (rs := [19]) (by kernel_rfl) (by simp) ?_
            refine AllReadyH.cons (o := ⟨some 38, _, _, _, _, _⟩) rfl (fun K hK => ?_) AllReadyH.nil
            go_simp
            go_at_call 65
            refine (HC.out _).mono ?_
            rintro e w3 ⟨rfl, e3⟩
            replace hk := nextB hk e3
            go_wp2_with fail
            refine hK.out _ _ (HBX.out _ hk) (fun hHeld => ?_)
            clear hK K
            try simp only [Act.put, List.setIfInBounds_toArray, List.set_cons_zero, List.set_cons_succ]
            refine wpAnyH_take (i := 20) (oi := ⟨some 39, _, _, _, _, _⟩) (v := ?_) rfl (by kernel_rfl) (by kernel_rfl) (by kernel_rfl) (fun _ _ _ h => h) (Or.inl ⟨by rfl, ?_⟩) (by assumption) ?_
            rotate_left
            · intro w hSw
              (try dsimp only at hSw)
              unfold RowBox at hSw
              obtain ⟨⟨h0, h1, h2, h3, h4, h5, h6, h7, h8, h9, h10⟩, j0, j1, j2, j3, j4, j5, j6, j7, j8, j9, j10⟩ := hSw
              go_simp
              try with_reducible rfl
            try simp only [Act.put, List.setIfInBounds_toArray, List.set_cons_zero, List.set_cons_succ]
            refine wpAnyH_take (i := 21) (oi := ⟨some 40, _, _, _, _, _⟩) (v := ?_) rfl (by kernel_rfl) (by kernel_rfl) (by kernel_rfl) (fun _ _ _ h => h) (Or.inl ⟨by rfl, ?_⟩) (by assumption) ?_
            rotate_left
            · intro w hSw
              (try dsimp only at hSw)
              unfold RowBox at hSw
              obtain ⟨⟨h0, h1, h2, h3, h4, h5, h6, h7, h8, h9, h10⟩, j0, j1, j2, j3, j4, j5, j6, j7, j8, j9, j10⟩ := hSw
              go_simp
              try with_reducible rfl
            try simp only [Act.put, List.setIfInBounds_toArray, List.set_cons_zero, List.set_cons_succ]
            refine wpAnyH_done (by kernel_rfl) ?_ _
            have hdf : decide (r < 0) = false := decide_eq_false (by omega)
            go_wp2
            go_meet
            first
              | exact ⟨false, rfl, HU, hk⟩
              | exact ⟨false, congrArg Value.bool hdf, HU, hk⟩
        · have h2' : ¬ (c : Int) + 1 < hi := by omega
          refine wp_region_held_drew (S := (fun _ => True)) (by kernel_rfl) ?_ (fun hHeld => ?_)
          · trivial
          refine wpAnyH_take (i := 0) (oi := ⟨some 19, _, _, _, _, _⟩) (v := ?_) rfl (by kernel_rfl) (by kernel_rfl) (by kernel_rfl) (fun _ _ _ h => h) (Or.inl ⟨by rfl, ?_⟩) (by assumption) ?_
          rotate_left
          · intro w hSw
            (try dsimp only at hSw)
            go_simp
            try with_reducible rfl
          try simp only [Act.put, List.setIfInBounds_toArray, List.set_cons_zero, List.set_cons_succ]
          refine wpAnyH_take (i := 1) (oi := ⟨some 20, _, _, _, _, _⟩) (v := ?_) rfl (by kernel_rfl) (by kernel_rfl) (by kernel_rfl) (fun _ _ _ h => h) (Or.inl ⟨by rfl, ?_⟩) (by assumption) ?_
          rotate_left
          · intro w hSw
            (try dsimp only at hSw)
            go_simp
            try with_reducible rfl
          try simp only [Act.put, List.setIfInBounds_toArray, List.set_cons_zero, List.set_cons_succ]
          refine wpAnyH_take (i := 2) (oi := ⟨some 21, _, _, _, _, _⟩) (v := ?_) rfl (by kernel_rfl) (by kernel_rfl) (by kernel_rfl) (fun _ _ _ h => h) (Or.inl ⟨by rfl, ?_⟩) (by assumption) ?_
          rotate_left
          · intro w hSw
            (try dsimp only at hSw)
            go_simp
            try with_reducible rfl
          try simp only [Act.put, List.setIfInBounds_toArray, List.set_cons_zero, List.set_cons_succ]
          refine wpAnyH_take (i := 3) (oi := ⟨some 22, _, _, _, _, _⟩) (v := ?_) rfl (by kernel_rfl) (by kernel_rfl) (by kernel_rfl) (fun _ _ _ h => h) (Or.inl ⟨by rfl, ?_⟩) (by assumption) ?_
          rotate_left
          · intro w hSw
            (try dsimp only at hSw)
            go_simp
            try with_reducible rfl
          try simp only [Act.put, List.setIfInBounds_toArray, List.set_cons_zero, List.set_cons_succ]
          refine wpAnyH_take (i := 4) (oi := ⟨some 23, _, _, _, _, _⟩) (v := ?_) rfl (by kernel_rfl) (by kernel_rfl) (by kernel_rfl) (fun _ _ _ h => h) (Or.inl ⟨by rfl, ?_⟩) (by assumption) ?_
          rotate_left
          · intro w hSw
            (try dsimp only at hSw)
            go_simp
            try with_reducible rfl
          try simp only [Act.put, List.setIfInBounds_toArray, List.set_cons_zero, List.set_cons_succ]
          refine wpAnyH_take (i := 5) (oi := ⟨some 24, _, _, _, _, _⟩) (v := undef) rfl (by kernel_rfl) (by kernel_rfl) (by kernel_rfl) (fun _ _ _ h => h) (Or.inr ⟨by rfl, rfl⟩) (by assumption) ?_
          try simp only [Act.put, List.setIfInBounds_toArray, List.set_cons_zero, List.set_cons_succ]
          refine wpAnyH_take (i := 6) (oi := ⟨some 25, _, _, _, _, _⟩) (v := undef) rfl (by kernel_rfl) (by kernel_rfl) (by kernel_rfl) (fun _ _ _ h => h) (Or.inr ⟨by rfl, rfl⟩) (by assumption) ?_
          try simp only [Act.put, List.setIfInBounds_toArray, List.set_cons_zero, List.set_cons_succ]
          refine wpAnyH_take (i := 7) (oi := ⟨some 26, _, _, _, _, _⟩) (v := undef) rfl (by kernel_rfl) (by kernel_rfl) (by kernel_rfl) (fun _ _ _ h => h) (Or.inr ⟨by rfl, rfl⟩) (by assumption) ?_
          try simp only [Act.put, List.setIfInBounds_toArray, List.set_cons_zero, List.set_cons_succ]
          refine wpAnyH_take (i := 8) (oi := ⟨some 27, _, _, _, _, _⟩) (v := undef) rfl (by kernel_rfl) (by kernel_rfl) (by kernel_rfl) (fun _ _ _ h => h) (Or.inr ⟨by rfl, rfl⟩) (by assumption) ?_
          try simp only [Act.put, List.setIfInBounds_toArray, List.set_cons_zero, List.set_cons_succ]
          refine wpAnyH_take (i := 9) (oi := ⟨some 28, _, _, _, _, _⟩) (v := undef) rfl (by kernel_rfl) (by kernel_rfl) (by kernel_rfl) (fun _ _ _ h => h) (Or.inr ⟨by rfl, rfl⟩) (by assumption) ?_
          try simp only [Act.put, List.setIfInBounds_toArray, List.set_cons_zero, List.set_cons_succ]
          refine wpAnyH_take (i := 10) (oi := ⟨some 29, _, _, _, _, _⟩) (v := undef) rfl (by kernel_rfl) (by kernel_rfl) (by kernel_rfl) (fun _ _ _ h => h) (Or.inr ⟨by rfl, rfl⟩) (by assumption) ?_
          try simp only [Act.put, List.setIfInBounds_toArray, List.set_cons_zero, List.set_cons_succ]
          refine wpAnyH_take (i := 11) (oi := ⟨some 30, _, _, _, _, _⟩) (v := undef) rfl (by kernel_rfl) (by kernel_rfl) (by kernel_rfl) (fun _ _ _ h => h) (Or.inr ⟨by rfl, rfl⟩) (by assumption) ?_
          try simp only [Act.put, List.setIfInBounds_toArray, List.set_cons_zero, List.set_cons_succ]
          refine wpAnyH_take (i := 12) (oi := ⟨some 31, _, _, _, _, _⟩) (v := undef) rfl (by kernel_rfl) (by kernel_rfl) (by kernel_rfl) (fun _ _ _ h => h) (Or.inr ⟨by rfl, rfl⟩) (by assumption) ?_
          try simp only [Act.put, List.setIfInBounds_toArray, List.set_cons_zero, List.set_cons_succ]
          refine wpAnyH_take (i := 13) (oi := ⟨some 32, _, _, _, _, _⟩) (v := undef) rfl (by kernel_rfl) (by kernel_rfl) (by kernel_rfl) (fun _ _ _ h => h) (Or.inr ⟨by rfl, rfl⟩) (by assumption) ?_
          try simp only [Act.put, List.setIfInBounds_toArray, List.set_cons_zero, List.set_cons_succ]
          refine wpAnyH_take (i := 14) (oi := ⟨some 33, _, _, _, _, _⟩) (v := undef) rfl (by kernel_rfl) (by kernel_rfl) (by kernel_rfl) (fun _ _ _ h => h) (Or.inr ⟨by rfl, rfl⟩) (by assumption) ?_
          try simp only [Act.put, List.setIfInBounds_toArray, List.set_cons_zero, List.set_cons_succ]
          refine wpAnyH_take (i := 15) (oi := ⟨some 34, _, _, _, _, _⟩) (v := undef) rfl (by kernel_rfl) (by kernel_rfl) (by kernel_rfl) (fun _ _ _ h => h) (Or.inr ⟨by rfl, rfl⟩) (by assumption) ?_
          try simp only [Act.put, List.setIfInBounds_toArray, List.set_cons_zero, List.set_cons_succ]
          refine wpAnyH_take (i := 16) (oi := ⟨some 35, _, _, _, _, _⟩) (v := undef) rfl (by kernel_rfl) (by kernel_rfl) (by kernel_rfl) (fun _ _ _ h => h) (Or.inr ⟨by rfl, rfl⟩) (by assumption) ?_
          try simp only [Act.put, List.setIfInBounds_toArray, List.set_cons_zero, List.set_cons_succ]
          refine wpAnyH_take (i := 17) (oi := ⟨some 36, _, _, _, _, _⟩) (v := undef) rfl (by kernel_rfl) (by kernel_rfl) (by kernel_rfl) (fun _ _ _ h => h) (Or.inr ⟨by rfl, rfl⟩) (by assumption) ?_
          try simp only [Act.put, List.setIfInBounds_toArray, List.set_cons_zero, List.set_cons_succ]
          refine wpAnyH_take (i := 18) (oi := ⟨some 37, _, _, _, _, _⟩) (v := undef) rfl (by kernel_rfl) (by kernel_rfl) (by kernel_rfl) (fun _ _ _ h => h) (Or.inr ⟨by rfl, rfl⟩) (by assumption) ?_
          try simp only [Act.put, List.setIfInBounds_toArray, List.set_cons_zero, List.set_cons_succ]
          refine wpAnyH_take (i := 19) (oi := ⟨some 38, _, _, _, _, _⟩) (v := undef) rfl (by kernel_rfl) (by kernel_rfl) (by kernel_rfl) (fun _ _ _ h => h) (Or.inr ⟨by rfl, rfl⟩) (by assumption) ?_
          try simp only [Act.put, List.setIfInBounds_toArray, List.set_cons_zero, List.set_cons_succ]
          refine wpAnyH_take (i := 20) (oi := ⟨some 39, _, _, _, _, _⟩) (v := undef) rfl (by kernel_rfl) (by kernel_rfl) (by kernel_rfl) (fun _ _ _ h => h) (Or.inr ⟨by rfl, rfl⟩) (by assumption) ?_
          try simp only [Act.put, List.setIfInBounds_toArray, List.set_cons_zero, List.set_cons_succ]
          refine wpAnyH_take (i := 21) (oi := ⟨some 40, _, _, _, _, _⟩) (v := ?_) rfl (by kernel_rfl) (by kernel_rfl) (by kernel_rfl) (fun _ _ _ h => h) (Or.inl ⟨by rfl, ?_⟩) (by assumption) ?_
          rotate_left
          · intro w hSw
            (try dsimp only at hSw)
            go_simp
            try with_reducible rfl
          try simp only [Act.put, List.setIfInBounds_toArray, List.set_cons_zero, List.set_cons_succ]
          refine wpAnyH_done (by kernel_rfl) ?_ _
          go_wp2
          go_meet
          exact ⟨false, rfl, (by show _ ∨ _; exact .inl h2), hk⟩
      case rest =>
        obtain ⟨b, rfl, HBC, HBX⟩ := hcut
        have HW2 := Lib.hid (ownsRow_below HW.out HBX.out)
        have HK2 := Lib.hid (HK.out.trans (Keeps.below HBX.out))
        clear HW HK HBX
        go_upto_if 40 with fail
        go_cut [11] (fun u11 wx => ∃ ch : Nat, u11 = .int .i64 ch ∧ (2 * root + 1 ≤ ch ∧ ch < hi) ∧ Hid ((if lt8 di[first + root]! di[first + ch]! then siftDown lt8 hi first ch (swp di (first + root) (first + ch)) else di) = R) ∧ Hid (wx.ownsRow base 47 11 (.slice (some ⟨g, 0, none⟩) n cap) n (rowOf (tms (cs8 di)))) ∧ Hid (Keeps g g g w wx))
        case first =>
          cases b with
          | true =>
            have HU : Hid ((if lt8 di[first + root]! di[first + (2 * root + 2)]! then siftDown lt8 hi first (2 * root + 2) (swp di (first + root) (first + (2 * root + 2))) else di) = R) := by
              obtain ⟨h1, h2⟩ := show c + 1 < hi ∧ lt8 di[first + c]! di[first + c + 1]! = true from HBC.out
              have hcc := HCC.out
              subst hcc
              exact sift_two HL.out (by omega) h2
            have hc1 : c + 1 < hi := (show c + 1 < hi ∧ _ from HBC.out).1
            have e2 : 2 * root + 2 = c + 1 := by have := HCC.out; omega
            have hch2 : 2 * root + 1 ≤ c + 1 := by omega
            rw [e2] at HU
            clear HBC e2 HL
            go_wp2
            go_meet
            exact ⟨c + 1, by go_num, ⟨hch2, hc1⟩, HU, HW2, HK2⟩
          | false =>
            have HU : Hid ((if lt8 di[first + root]! di[first + c]! then siftDown lt8 hi first c (swp di (first + root) (first + c)) else di) = R) := by
              have h2 := show ¬ (c + 1 < hi) ∨ lt8 di[first + c]! di[first + c + 1]! = false from HBC.out
              have hcc := HCC.out
              subst hcc
              exact sift_one HL.out (by omega) h2
            have hch2 : 2 * root + 1 ≤ c ∧ c < hi := by have := HCC.out; omega
            clear HBC HL
            go_wp2
            go_meet
            exact ⟨c, rfl, hch2, HU, HW2, HK2⟩
        case rest =>
          obtain ⟨ch, rfl, hch, HU, HW, HK⟩ := hcut
          clear HW2 HK2 HBC HL
          have hq1 : (first : Int) + root < n := by omega
          have hq0 : (0 : Int) ≤ (first : Int) + root := by omega
          have hqt : ((first : Int) + root).toNat = first + root := by omega
          have hw1' : IntKind.i64.wrap ((first : Int) + root) = (first : Int) + root := by rw [IntKind.wrap_i64]; omega
          have hp1 : (first : Int) + ch < n := by omega
          have hp0 : (0 : Int) ≤ (first : Int) + ch := by omega
          have hpt : ((first : Int) + ch).toNat = first + ch := by omega
          have hw2' : IntKind.i64.wrap ((first : Int) + ch) = (first : Int) + ch := by rw [IntKind.wrap_i64]; omega
          clear hw1 hw2 hw3
          have hk : Below wc.heap.size wc wc.drew := (Below.refl _ wc).drew
          go_upto_region 5 with fail
          obtain ⟨xa, hxa⟩ : ∃ x, di[first + root]! = x := ⟨_, rfl⟩
          obtain ⟨xb, hxb⟩ : ∃ x, di[first + ch]! = x := ⟨_, rfl⟩
          have hsj : (tms (cs8 di))[first + root]? = some di[first + root]!.1.1 := tms8_get (by omega)
          have hsp : (tms (cs8 di))[first + ch]? = some di[first + ch]!.1.1 := tms8_get (by omega)
          rw [hxa] at hsj
          rw [hxb] at hsp
          have hlt8 := lt8_cmp xa xb
          obtain ⟨x0, x1, x2, x3, x4, x5, x6, x7, hX⟩ := eight xa.2
          obtain ⟨y0, y1, y2, y3, y4, y5, y6, y7, hY⟩ := eight xb.2
          have hb1 : RowBox g (first + root) x0 x1 x2 x3 x4 x5 x6 x7 xa.1.1 wc := row_cells HW.out (tms8 di) (by rw [tms8_length, hdi]) hsj hX
          have hb2 : RowBox g (first + ch) y0 y1 y2 y3 y4 y5 y6 y7 xb.1.1 wc := row_cells HW.out (tms8 di) (by rw [tms8_length, hdi]) hsp hY
          have hgl : g < wc.heap.size := (HW.out.lt g rfl).2
          obtain ⟨r, hr⟩ : ∃ r, -cmpL [x0, x1, x2, x3, x4, x5, x6, x7] [y0, y1, y2, y3, y4, y5, y6, y7] = r := ⟨_, rfl⟩
          have HC : Hid (∀ W, Calls Tryz.prog 65 #[.int .i64 (-1), .agg #[.int .i64 x0, .int .i64 x1, .int .i64 x2, .int .i64 x3, .int .i64 x4, .int .i64 x5, .int .i64 x6, .int .i64 x7, .bool xa.1.1.s, .slice xa.1.1.A xa.1.1.n xa.1.1.c, .slice xa.1.1.B xa.1.1.m xa.1.1.d], .agg #[.int .i64 y0, .int .i64 y1, .int .i64 y2, .int .i64 y3, .int .i64 y4, .int .i64 y5, .int .i64 y6, .int .i64 y7, .bool xb.1.1.s, .slice xb.1.1.A xb.1.1.n xb.1.1.c, .slice xb.1.1.B xb.1.1.m xb.1.1.d]] W fun e w' => e = .returned (.int .i64 r) ∧ Below W.heap.size W w') := fun W => by
            rw [← hr]; exact compare_x _ _ _ _ _ _ _ _ _ _ _ _ _ _ _ _ _ _ _ _ _ _ _ _ _ _ _ _ _ _ _
          rw [hX, hY, hr] at hlt8
          have HBX : Hid (∀ W, Below wc.heap.size wc W → RowBox g (first + root) x0 x1 x2 x3 x4 x5 x6 x7 xa.1.1 W ∧ RowBox g (first + ch) y0 y1 y2 y3 y4 y5 y6 y7 xb.1.1 W) := fun W hW => ⟨hb1.below hW hgl, hb2.below hW hgl⟩
          have HLT := Lib.hid hlt8
          have HXI := Lib.hid hxa
          have HXJ := Lib.hid hxb
          clear hX hY hsj hsp hlt8 hxa hxb hr hb1 hb2 hgl
          by_cases hlv : r < 0
          · have HUS : Hid (siftDown lt8 hi first ch (swp di (first + root) (first + ch)) = R) := by
              show _ = _
              rw [← HU.out, if_pos (by rw [HXI.out, HXJ.out]; exact HLT.out.1 hlv)]
            clear HXI HXJ HLT HU
            refine wp_region_held_drew (S := (fun W => RowBox g (first + root) x0 x1 x2 x3 x4 x5 x6 x7 xa.1.1 W ∧ RowBox g (first + ch) y0 y1 y2 y3 y4 y5 y6 y7 xb.1.1 W)) (by kernel_rfl) ?_ (fun hHeld => ?_)
            · exact HBX.out _ hk
            refine wpAnyH_take (i := 0) (oi := ⟨some 43, _, _, _, _, _⟩) (v := ?_) rfl (by kernel_rfl) (by kernel_rfl) (by kernel_rfl) (fun _ _ _ h => h) (Or.inl ⟨by rfl, ?_⟩) (by assumption) ?_
            rotate_left
            · intro w hSw
              (try dsimp only at hSw)
              unfold RowBox at hSw
              obtain ⟨⟨h0, h1, h2, h3, h4, h5, h6, h7, h8, h9, h10⟩, j0, j1, j2, j3, j4, j5, j6, j7, j8, j9, j10⟩ := hSw
              go_simp
              try with_reducible rfl
            try simp only [Act.put, List.setIfInBounds_toArray, List.set_cons_zero, List.set_cons_succ]
            refine wpAnyH_take (i := 1) (oi := ⟨some 44, _, _, _, _, _⟩) (v := ?_) rfl (by kernel_rfl) (by kernel_rfl) (by kernel_rfl) (fun _ _ _ h => h) (Or.inl ⟨by rfl, ?_⟩) (by assumption) ?_
            rotate_left
            · intro w hSw
              (try dsimp only at hSw)
              unfold RowBox at hSw
              obtain ⟨⟨h0, h1, h2, h3, h4, h5, h6, h7, h8, h9, h10⟩, j0, j1, j2, j3, j4, j5, j6, j7, j8, j9, j10⟩ := hSw
              go_simp
              try with_reducible rfl
            try simp only [Act.put, List.setIfInBounds_toArray, List.set_cons_zero, List.set_cons_succ]
            refine wpAnyH_take (i := 2) (oi := ⟨some 45, _, _, _, _, _⟩) (v := ?_) rfl (by kernel_rfl) (by kernel_rfl) (by kernel_rfl) (fun _ _ _ h => h) (Or.inl ⟨by rfl, ?_⟩) (by assumption) ?_
            rotate_left
            · intro w hSw
              (try dsimp only at hSw)
              unfold RowBox at hSw
              obtain ⟨⟨h0, h1, h2, h3, h4, h5, h6, h7, h8, h9, h10⟩, j0, j1, j2, j3, j4, j5, j6, j7, j8, j9, j10⟩ := hSw
              go_simp
              try with_reducible rfl
            try simp only [Act.put, List.setIfInBounds_toArray, List.set_cons_zero, List.set_cons_succ]
            refine wpAnyH_take (i := 3) (oi := ⟨some 46, _, _, _, _, _⟩) (v := ?_) rfl (by kernel_rfl) (by kernel_rfl) (by kernel_rfl) (fun _ _ _ h => h) (Or.inl ⟨by rfl, ?_⟩) (by assumption) ?_
            rotate_left
            · intro w hSw
              (try dsimp only at hSw)
              unfold RowBox at hSw
              obtain ⟨⟨h0, h1, h2, h3, h4, h5, h6, h7, h8, h9, h10⟩, j0, j1, j2, j3, j4, j5, j6, j7, j8, j9, j10⟩ := hSw
              go_simp
              try with_reducible rfl
            try simp only [Act.put, List.setIfInBounds_toArray, List.set_cons_zero, List.set_cons_succ]
            refine wpAnyH_take (i := 4) (oi := ⟨some 47, _, _, _, _, _⟩) (v := ?_) rfl (by kernel_rfl) (by kernel_rfl) (by kernel_rfl) (fun _ _ _ h => h) (Or.inl ⟨by rfl, ?_⟩) (by assumption) ?_
            rotate_left
            · intro w hSw
              (try dsimp only at hSw)
              unfold RowBox at hSw
              obtain ⟨⟨h0, h1, h2, h3, h4, h5, h6, h7, h8, h9, h10⟩, j0, j1, j2, j3, j4, j5, j6, j7, j8, j9, j10⟩ := hSw
              go_simp
              try with_reducible rfl
            try simp only [Act.put, List.setIfInBounds_toArray, List.set_cons_zero, List.set_cons_succ]
            refine wpAnyH_take (i := 5) (oi := ⟨some 48, _, _, _, _, _⟩) (v := ?_) rfl (by kernel_rfl) (by kernel_rfl) (by kernel_rfl) (fun _ _ _ h => h) (Or.inl ⟨by rfl, ?_⟩) (by assumption) ?_
            rotate_left
            · intro w hSw
              (try dsimp only at hSw)
              unfold RowBox at hSw
              obtain ⟨⟨h0, h1, h2, h3, h4, h5, h6, h7, h8, h9, h10⟩, j0, j1, j2, j3, j4, j5, j6, j7, j8, j9, j10⟩ := hSw
              go_simp
              try with_reducible rfl
            try simp only [Act.put, List.setIfInBounds_toArray, List.set_cons_zero, List.set_cons_succ]
            refine wpAnyH_take (i := 6) (oi := ⟨some 49, _, _, _, _, _⟩) (v := ?_) rfl (by kernel_rfl) (by kernel_rfl) (by kernel_rfl) (fun _ _ _ h => h) (Or.inl ⟨by rfl, ?_⟩) (by assumption) ?_
            rotate_left
            · intro w hSw
              (try dsimp only at hSw)
              unfold RowBox at hSw
              obtain ⟨⟨h0, h1, h2, h3, h4, h5, h6, h7, h8, h9, h10⟩, j0, j1, j2, j3, j4, j5, j6, j7, j8, j9, j10⟩ := hSw
              go_simp
              try with_reducible rfl
            try simp only [Act.put, List.setIfInBounds_toArray, List.set_cons_zero, List.set_cons_succ]
            refine wpAnyH_take (i := 7) (oi := ⟨some 50, _, _, _, _, _⟩) (v := ?_) rfl (by kernel_rfl) (by kernel_rfl) (by kernel_rfl) (fun _ _ _ h => h) (Or.inl ⟨by rfl, ?_⟩) (by assumption) ?_
            rotate_left
            · intro w hSw
              (try dsimp only at hSw)
              unfold RowBox at hSw
              obtain ⟨⟨h0, h1, h2, h3, h4, h5, h6, h7, h8, h9, h10⟩, j0, j1, j2, j3, j4, j5, j6, j7, j8, j9, j10⟩ := hSw
              go_simp
              try with_reducible rfl
            try simp only [Act.put, List.setIfInBounds_toArray, List.set_cons_zero, List.set_cons_succ]
            refine wpAnyH_take (i := 8) (oi := ⟨some 51, _, _, _, _, _⟩) (v := ?_) rfl (by kernel_rfl) (by kernel_rfl) (by kernel_rfl) (fun _ _ _ h => h) (Or.inl ⟨by rfl, ?_⟩) (by assumption) ?_
            rotate_left
            · intro w hSw
              (try dsimp only at hSw)
              unfold RowBox at hSw
              obtain ⟨⟨h0, h1, h2, h3, h4, h5, h6, h7, h8, h9, h10⟩, j0, j1, j2, j3, j4, j5, j6, j7, j8, j9, j10⟩ := hSw
              go_simp
              try with_reducible rfl
            try simp only [Act.put, List.setIfInBounds_toArray, List.set_cons_zero, List.set_cons_succ]
            refine wpAnyH_take (i := 9) (oi := ⟨some 52, _, _, _, _, _⟩) (v := ?_) rfl (by kernel_rfl) (by kernel_rfl) (by kernel_rfl) (fun _ _ _ h => h) (Or.inl ⟨by rfl, ?_⟩) (by assumption) ?_
            rotate_left
            · intro w hSw
              (try dsimp only at hSw)
              unfold RowBox at hSw
              obtain ⟨⟨h0, h1, h2, h3, h4, h5, h6, h7, h8, h9, h10⟩, j0, j1, j2, j3, j4, j5, j6, j7, j8, j9, j10⟩ := hSw
              go_simp
              try with_reducible rfl
            try simp only [Act.put, List.setIfInBounds_toArray, List.set_cons_zero, List.set_cons_succ]
            refine wpAnyH_take (i := 10) (oi := ⟨some 53, _, _, _, _, _⟩) (v := ?_) rfl (by kernel_rfl) (by kernel_rfl) (by kernel_rfl) (fun _ _ _ h => h) (Or.inl ⟨by rfl, ?_⟩) (by assumption) ?_
            rotate_left
            · intro w hSw
              (try dsimp only at hSw)
              unfold RowBox at hSw
              obtain ⟨⟨h0, h1, h2, h3, h4, h5, h6, h7, h8, h9, h10⟩, j0, j1, j2, j3, j4, j5, j6, j7, j8, j9, j10⟩ := hSw
              go_simp
              try with_reducible rfl
            try simp only [Act.put, List.setIfInBounds_toArray, List.set_cons_zero, List.set_cons_succ]
            refine wpAnyH_take (i := 11) (oi := ⟨some 54, _, _, _, _, _⟩) (v := ?_) rfl (by kernel_rfl) (by kernel_rfl) (by kernel_rfl) (fun _ _ _ h => h) (Or.inl ⟨by rfl, ?_⟩) (by assumption) ?_
            rotate_left
            · intro w hSw
              (try dsimp only at hSw)
              unfold RowBox at hSw
              obtain ⟨⟨h0, h1, h2, h3, h4, h5, h6, h7, h8, h9, h10⟩, j0, j1, j2, j3, j4, j5, j6, j7, j8, j9, j10⟩ := hSw
              go_simp
              try with_reducible rfl
            try simp only [Act.put, List.setIfInBounds_toArray, List.set_cons_zero, List.set_cons_succ]
            refine wpAnyH_take (i := 12) (oi := ⟨some 55, _, _, _, _, _⟩) (v := ?_) rfl (by kernel_rfl) (by kernel_rfl) (by kernel_rfl) (fun _ _ _ h => h) (Or.inl ⟨by rfl, ?_⟩) (by assumption) ?_
            rotate_left
            · intro w hSw
              (try dsimp only at hSw)
              unfold RowBox at hSw
              obtain ⟨⟨h0, h1, h2, h3, h4, h5, h6, h7, h8, h9, h10⟩, j0, j1, j2, j3, j4, j5, j6, j7, j8, j9, j10⟩ := hSw
              go_simp
              try with_reducible rfl
            try simp only [Act.put, List.setIfInBounds_toArray, List.set_cons_zero, List.set_cons_succ]
            refine wpAnyH_ready (rs := [13]) (by kernel_rfl) (by simp) ?_
            refine AllReadyH.cons (o := ⟨some 56, _, _, _, _, _⟩) rfl (fun K hK => ?_) AllReadyH.nil
            go_simp
            go_at_call 65
            refine (HC.out _).mono ?_
            rintro e w3 ⟨rfl, e3⟩
            replace hk := nextB hk e3
            go_wp2_with fail
            refine hK.out _ _ (HBX.out _ hk) (fun hHeld => ?_)
            clear hK K
            try simp only [Act.put, List.setIfInBounds_toArray, List.set_cons_zero, List.set_cons_succ]
            refine wpAnyH_take (i := 14) (oi := ⟨some 57, _, _, _, _, _⟩) (v := ?_) rfl (by kernel_rfl) (by kernel_rfl) (by kernel_rfl) (fun _ _ _ h => h) (Or.inl ⟨by rfl, ?_⟩) (by assumption) ?_
            rotate_left
            · intro w hSw
              (try dsimp only at hSw)
              unfold RowBox at hSw
              obtain ⟨⟨h0, h1, h2, h3, h4, h5, h6, h7, h8, h9, h10⟩, j0, j1, j2, j3, j4, j5, j6, j7, j8, j9, j10⟩ := hSw
              go_simp
              try with_reducible rfl
            try simp only [Act.put, List.setIfInBounds_toArray, List.set_cons_zero, List.set_cons_succ]
            refine wpAnyH_take (i := 15) (oi := ⟨some 58, _, _, _, _, _⟩) (v := ?_) rfl (by kernel_rfl) (by kernel_rfl) (by kernel_rfl) (fun _ _ _ h => h) (Or.inl ⟨by rfl, ?_⟩) (by assumption) ?_
            rotate_left
            · intro w hSw
              (try dsimp only at hSw)
              unfold RowBox at hSw
              obtain ⟨⟨h0, h1, h2, h3, h4, h5, h6, h7, h8, h9, h10⟩, j0, j1, j2, j3, j4, j5, j6, j7, j8, j9, j10⟩ := hSw
              go_simp
              try with_reducible rfl
            try simp only [Act.put, List.setIfInBounds_toArray, List.set_cons_zero, List.set_cons_succ]
            refine wpAnyH_done (by kernel_rfl) ?_ _
            have HW3 := Lib.hid (ownsRow_below HW.out hk)
            have HK3 := Lib.hid (HK.out.trans (Keeps.below hk))
            clear hk HBX HC HW HK hHeld
            have hsj : (tms (cs8 di))[first + root]? = some di[first + root]!.1.1 := tms8_get (by omega)
            have hsp : (tms (cs8 di))[first + ch]? = some di[first + ch]!.1.1 := tms8_get (by omega)
            obtain ⟨q2, k2⟩ := swap_row (i := first + root) (j := first + ch) HW3.out hdi (by omega) (by omega)
            obtain ⟨xj, hxj⟩ : ∃ x, di[first + root]! = x := ⟨_, rfl⟩
            obtain ⟨xp, hxp⟩ : ∃ x, di[first + ch]! = x := ⟨_, rfl⟩
            rw [hxj] at hsj q2 k2
            rw [hxp] at hsp q2 k2
            obtain ⟨x0, x1, x2, x3, x4, x5, x6, x7, hX⟩ := eight xj.2
            obtain ⟨y0, y1, y2, y3, y4, y5, y6, y7, hY⟩ := eight xp.2
            obtain ⟨c0, c1, c2, c3, c4, c5, c6, c7, c8, c9, c10⟩ := row_cells HW3.out (tms8 di) (by rw [tms8_length, hdi]) hsj hX
            obtain ⟨d0, d1, d2, d3, d4, d5, d6, d7, d8, d9, d10⟩ := row_cells HW3.out (tms8 di) (by rw [tms8_length, hdi]) hsp hY
            have exj : xj.1.1.cells = [.int .i64 x0, .int .i64 x1, .int .i64 x2, .int .i64 x3, .int .i64 x4, .int .i64 x5, .int .i64 x6, .int .i64 x7, .bool xj.1.1.s, .slice xj.1.1.A xj.1.1.n xj.1.1.c, .slice xj.1.1.B xj.1.1.m xj.1.1.d] := by unfold Tm.cells; rw [hX]; rfl
            have exp : xp.1.1.cells = [.int .i64 y0, .int .i64 y1, .int .i64 y2, .int .i64 y3, .int .i64 y4, .int .i64 y5, .int .i64 y6, .int .i64 y7, .bool xp.1.1.s, .slice xp.1.1.A xp.1.1.n xp.1.1.c, .slice xp.1.1.B xp.1.1.m xp.1.1.d] := by unfold Tm.cells; rw [hY]; rfl
            rw [exj, exp] at q2 k2
            simp only [World.setCells, Nat.add_assoc, Nat.reduceAdd] at q2 k2
            have HQ := Lib.hid q2
            have HKN := Lib.hid (HK3.out.trans k2)
            have z0 := HW3.out.frozenAt ((first + root) * 11)
            have u0 := HW3.out.frozenAt ((first + ch) * 11)
            have z1 := HW3.out.frozenAt ((first + root) * 11 + 1)
            have u1 := HW3.out.frozenAt ((first + ch) * 11 + 1)
            have z2 := HW3.out.frozenAt ((first + root) * 11 + 2)
            have u2 := HW3.out.frozenAt ((first + ch) * 11 + 2)
            have z3 := HW3.out.frozenAt ((first + root) * 11 + 3)
            have u3 := HW3.out.frozenAt ((first + ch) * 11 + 3)
            have z4 := HW3.out.frozenAt ((first + root) * 11 + 4)
            have u4 := HW3.out.frozenAt ((first + ch) * 11 + 4)
            have z5 := HW3.out.frozenAt ((first + root) * 11 + 5)
            have u5 := HW3.out.frozenAt ((first + ch) * 11 + 5)
            have z6 := HW3.out.frozenAt ((first + root) * 11 + 6)
            have u6 := HW3.out.frozenAt ((first + ch) * 11 + 6)
            have z7 := HW3.out.frozenAt ((first + root) * 11 + 7)
            have u7 := HW3.out.frozenAt ((first + ch) * 11 + 7)
            have z8 := HW3.out.frozenAt ((first + root) * 11 + 8)
            have u8 := HW3.out.frozenAt ((first + ch) * 11 + 8)
            have z9 := HW3.out.frozenAt ((first + root) * 11 + 9)
            have u9 := HW3.out.frozenAt ((first + ch) * 11 + 9)
            have z10 := HW3.out.frozenAt ((first + root) * 11 + 10)
            have u10 := HW3.out.frozenAt ((first + ch) * 11 + 10)
            have hsz : (swp di (first + root) (first + ch)).size = n := by rw [size_swp, hdi]
            clear q2 k2 exj exp hX hY hsj hsp hxj hxp
            go_wp2_with fail
            go_region
            clear c0 d0 z0 u0 c1 d1 z1 u1 c2 d2 z2 u2 c3 d3 z3 u3 c4 d4 z4 u4 c5 d5 z5 u5 c6 d6 z6 u6 c7 d7 z7 u7 c8 d8 z8 u8 c9 d9 z9 u9 c10 d10 z10 u10
            clear HW3 HK3
            go_wp2
            go_roundw
            case rel => exact ⟨ch, swp di (first + root) (first + ch), rfl, by omega, hsz, HUS, World.ownsRow.drew HQ.out, Keeps.drewn HKN.out⟩
            case measure => simp [intOf] <;> omega
          · have hRR : di = R := by
              rw [← HU.out, if_neg (by
                rw [HXI.out, HXJ.out]
                exact fun h => hlv (HLT.out.2 h))]
            clear HXI HXJ HLT HU
            have hdf : decide (r < 0) = false := decide_eq_false (by omega)
            subst hRR
            refine wp_region_held_drew (S := (fun W => RowBox g (first + root) x0 x1 x2 x3 x4 x5 x6 x7 xa.1.1 W ∧ RowBox g (first + ch) y0 y1 y2 y3 y4 y5 y6 y7 xb.1.1 W)) (by kernel_rfl) ?_ (fun hHeld => ?_)
            · exact HBX.out _ hk
            refine wpAnyH_take (i := 0) (oi := ⟨some 43, _, _, _, _, _⟩) (v := ?_) rfl (by kernel_rfl) (by kernel_rfl) (by kernel_rfl) (fun _ _ _ h => h) (Or.inl ⟨by rfl, ?_⟩) (by assumption) ?_
            rotate_left
            · intro w hSw
              (try dsimp only at hSw)
              unfold RowBox at hSw
              obtain ⟨⟨h0, h1, h2, h3, h4, h5, h6, h7, h8, h9, h10⟩, j0, j1, j2, j3, j4, j5, j6, j7, j8, j9, j10⟩ := hSw
              go_simp
              try with_reducible rfl
            try simp only [Act.put, List.setIfInBounds_toArray, List.set_cons_zero, List.set_cons_succ]
            refine wpAnyH_take (i := 1) (oi := ⟨some 44, _, _, _, _, _⟩) (v := ?_) rfl (by kernel_rfl) (by kernel_rfl) (by kernel_rfl) (fun _ _ _ h => h) (Or.inl ⟨by rfl, ?_⟩) (by assumption) ?_
            rotate_left
            · intro w hSw
              (try dsimp only at hSw)
              unfold RowBox at hSw
              obtain ⟨⟨h0, h1, h2, h3, h4, h5, h6, h7, h8, h9, h10⟩, j0, j1, j2, j3, j4, j5, j6, j7, j8, j9, j10⟩ := hSw
              go_simp
              try with_reducible rfl
            try simp only [Act.put, List.setIfInBounds_toArray, List.set_cons_zero, List.set_cons_succ]
            refine wpAnyH_take (i := 2) (oi := ⟨some 45, _, _, _, _, _⟩) (v := ?_) rfl (by kernel_rfl) (by kernel_rfl) (by kernel_rfl) (fun _ _ _ h => h) (Or.inl ⟨by rfl, ?_⟩) (by assumption) ?_
            rotate_left
            · intro w hSw
              (try dsimp only at hSw)
              unfold RowBox at hSw
              obtain ⟨⟨h0, h1, h2, h3, h4, h5, h6, h7, h8, h9, h10⟩, j0, j1, j2, j3, j4, j5, j6, j7, j8, j9, j10⟩ := hSw
              go_simp
              try with_reducible rfl
            try simp only [Act.put, List.setIfInBounds_toArray, List.set_cons_zero, List.set_cons_succ]
            refine wpAnyH_take (i := 3) (oi := ⟨some 46, _, _, _, _, _⟩) (v := ?_) rfl (by kernel_rfl) (by kernel_rfl) (by kernel_rfl) (fun _ _ _ h => h) (Or.inl ⟨by rfl, ?_⟩) (by assumption) ?_
            rotate_left
            · intro w hSw
              (try dsimp only at hSw)
              unfold RowBox at hSw
              obtain ⟨⟨h0, h1, h2, h3, h4, h5, h6, h7, h8, h9, h10⟩, j0, j1, j2, j3, j4, j5, j6, j7, j8, j9, j10⟩ := hSw
              go_simp
              try with_reducible rfl
            try simp only [Act.put, List.setIfInBounds_toArray, List.set_cons_zero, List.set_cons_succ]
            refine wpAnyH_take (i := 4) (oi := ⟨some 47, _, _, _, _, _⟩) (v := ?_) rfl (by kernel_rfl) (by kernel_rfl) (by kernel_rfl) (fun _ _ _ h => h) (Or.inl ⟨by rfl, ?_⟩) (by assumption) ?_
            rotate_left
            · intro w hSw
              (try dsimp only at hSw)
              unfold RowBox at hSw
              obtain ⟨⟨h0, h1, h2, h3, h4, h5, h6, h7, h8, h9, h10⟩, j0, j1, j2, j3, j4, j5, j6, j7, j8, j9, j10⟩ := hSw
              go_simp
              try with_reducible rfl
            try simp only [Act.put, List.setIfInBounds_toArray, List.set_cons_zero, List.set_cons_succ]
            refine wpAnyH_take (i := 5) (oi := ⟨some 48, _, _, _, _, _⟩) (v := ?_) rfl (by kernel_rfl) (by kernel_rfl) (by kernel_rfl) (fun _ _ _ h => h) (Or.inl ⟨by rfl, ?_⟩) (by assumption) ?_
            rotate_left
            · intro w hSw
              (try dsimp only at hSw)
              unfold RowBox at hSw
              obtain ⟨⟨h0, h1, h2, h3, h4, h5, h6, h7, h8, h9, h10⟩, j0, j1, j2, j3, j4, j5, j6, j7, j8, j9, j10⟩ := hSw
              go_simp
              try with_reducible rfl
            try simp only [Act.put, List.setIfInBounds_toArray, List.set_cons_zero, List.set_cons_succ]
            refine wpAnyH_take (i := 6) (oi := ⟨some 49, _, _, _, _, _⟩) (v := ?_) rfl (by kernel_rfl) (by kernel_rfl) (by kernel_rfl) (fun _ _ _ h => h) (Or.inl ⟨by rfl, ?_⟩) (by assumption) ?_
            rotate_left
            · intro w hSw
              (try dsimp only at hSw)
              unfold RowBox at hSw
              obtain ⟨⟨h0, h1, h2, h3, h4, h5, h6, h7, h8, h9, h10⟩, j0, j1, j2, j3, j4, j5, j6, j7, j8, j9, j10⟩ := hSw
              go_simp
              try with_reducible rfl
            try simp only [Act.put, List.setIfInBounds_toArray, List.set_cons_zero, List.set_cons_succ]
            refine wpAnyH_take (i := 7) (oi := ⟨some 50, _, _, _, _, _⟩) (v := ?_) rfl (by kernel_rfl) (by kernel_rfl) (by kernel_rfl) (fun _ _ _ h => h) (Or.inl ⟨by rfl, ?_⟩) (by assumption) ?_
            rotate_left
            · intro w hSw
              (try dsimp only at hSw)
              unfold RowBox at hSw
              obtain ⟨⟨h0, h1, h2, h3, h4, h5, h6, h7, h8, h9, h10⟩, j0, j1, j2, j3, j4, j5, j6, j7, j8, j9, j10⟩ := hSw
              go_simp
              try with_reducible rfl
            try simp only [Act.put, List.setIfInBounds_toArray, List.set_cons_zero, List.set_cons_succ]
            refine wpAnyH_take (i := 8) (oi := ⟨some 51, _, _, _, _, _⟩) (v := ?_) rfl (by kernel_rfl) (by kernel_rfl) (by kernel_rfl) (fun _ _ _ h => h) (Or.inl ⟨by rfl, ?_⟩) (by assumption) ?_
            rotate_left
            · intro w hSw
              (try dsimp only at hSw)
              unfold RowBox at hSw
              obtain ⟨⟨h0, h1, h2, h3, h4, h5, h6, h7, h8, h9, h10⟩, j0, j1, j2, j3, j4, j5, j6, j7, j8, j9, j10⟩ := hSw
              go_simp
              try with_reducible rfl
            try simp only [Act.put, List.setIfInBounds_toArray, List.set_cons_zero, List.set_cons_succ]
            refine wpAnyH_take (i := 9) (oi := ⟨some 52, _, _, _, _, _⟩) (v := ?_) rfl (by kernel_rfl) (by kernel_rfl) (by kernel_rfl) (fun _ _ _ h => h) (Or.inl ⟨by rfl, ?_⟩) (by assumption) ?_
            rotate_left
            · intro w hSw
              (try dsimp only at hSw)
              unfold RowBox at hSw
              obtain ⟨⟨h0, h1, h2, h3, h4, h5, h6, h7, h8, h9, h10⟩, j0, j1, j2, j3, j4, j5, j6, j7, j8, j9, j10⟩ := hSw
              go_simp
              try with_reducible rfl
            try simp only [Act.put, List.setIfInBounds_toArray, List.set_cons_zero, List.set_cons_succ]
            refine wpAnyH_take (i := 10) (oi := ⟨some 53, _, _, _, _, _⟩) (v := ?_) rfl (by kernel_rfl) (by kernel_rfl) (by kernel_rfl) (fun _ _ _ h => h) (Or.inl ⟨by rfl, ?_⟩) (by assumption) ?_
            rotate_left
            · intro w hSw
              (try dsimp only at hSw)
              unfold RowBox at hSw
              obtain ⟨⟨h0, h1, h2, h3, h4, h5, h6, h7, h8, h9, h10⟩, j0, j1, j2, j3, j4, j5, j6, j7, j8, j9, j10⟩ := hSw
              go_simp
              try with_reducible rfl
            try simp only [Act.put, List.setIfInBounds_toArray, List.set_cons_zero, List.set_cons_succ]
            refine wpAnyH_take (i := 11) (oi := ⟨some 54, _, _, _, _, _⟩) (v := ?_) rfl (by kernel_rfl) (by kernel_rfl) (by kernel_rfl) (fun _ _ _ h => h) (Or.inl ⟨by rfl, ?_⟩) (by assumption) ?_
            rotate_left
            · intro w hSw
              (try dsimp only at hSw)
              unfold RowBox at hSw
              obtain ⟨⟨h0, h1, h2, h3, h4, h5, h6, h7, h8, h9, h10⟩, j0, j1, j2, j3, j4, j5, j6, j7, j8, j9, j10⟩ := hSw
              go_simp
              try with_reducible rfl
            try simp only [Act.put, List.setIfInBounds_toArray, List.set_cons_zero, List.set_cons_succ]
            refine wpAnyH_take (i := 12) (oi := ⟨some 55, _, _, _, _, _⟩) (v := ?_) rfl (by kernel_rfl) (by kernel_rfl) (by kernel_rfl) (fun _ _ _ h => h) (Or.inl ⟨by rfl, ?_⟩) (by assumption) ?_
            rotate_left
            · intro w hSw
              (try dsimp only at hSw)
              unfold RowBox at hSw
              obtain ⟨⟨h0, h1, h2, h3, h4, h5, h6, h7, h8, h9, h10⟩, j0, j1, j2, j3, j4, j5, j6, j7, j8, j9, j10⟩ := hSw
              go_simp
              try with_reducible rfl
            try simp only [Act.put, List.setIfInBounds_toArray, List.set_cons_zero, List.set_cons_succ]
            refine wpAnyH_ready (rs := [13]) (by kernel_rfl) (by simp) ?_
            refine AllReadyH.cons (o := ⟨some 56, _, _, _, _, _⟩) rfl (fun K hK => ?_) AllReadyH.nil
            go_simp
            go_at_call 65
            refine (HC.out _).mono ?_
            rintro e w3 ⟨rfl, e3⟩
            replace hk := nextB hk e3
            go_wp2_with fail
            refine hK.out _ _ (HBX.out _ hk) (fun hHeld => ?_)
            clear hK K
            try simp only [Act.put, List.setIfInBounds_toArray, List.set_cons_zero, List.set_cons_succ]
            refine wpAnyH_take (i := 14) (oi := ⟨some 57, _, _, _, _, _⟩) (v := ?_) rfl (by kernel_rfl) (by kernel_rfl) (by kernel_rfl) (fun _ _ _ h => h) (Or.inl ⟨by rfl, ?_⟩) (by assumption) ?_
            rotate_left
            · intro w hSw
              (try dsimp only at hSw)
              unfold RowBox at hSw
              obtain ⟨⟨h0, h1, h2, h3, h4, h5, h6, h7, h8, h9, h10⟩, j0, j1, j2, j3, j4, j5, j6, j7, j8, j9, j10⟩ := hSw
              go_simp
              try with_reducible rfl
            try simp only [Act.put, List.setIfInBounds_toArray, List.set_cons_zero, List.set_cons_succ]
            refine wpAnyH_take (i := 15) (oi := ⟨some 58, _, _, _, _, _⟩) (v := ?_) rfl (by kernel_rfl) (by kernel_rfl) (by kernel_rfl) (fun _ _ _ h => h) (Or.inl ⟨by rfl, ?_⟩) (by assumption) ?_
            rotate_left
            · intro w hSw
              (try dsimp only at hSw)
              unfold RowBox at hSw
              obtain ⟨⟨h0, h1, h2, h3, h4, h5, h6, h7, h8, h9, h10⟩, j0, j1, j2, j3, j4, j5, j6, j7, j8, j9, j10⟩ := hSw
              go_simp
              try with_reducible rfl
            try simp only [Act.put, List.setIfInBounds_toArray, List.set_cons_zero, List.set_cons_succ]
            refine wpAnyH_done (by kernel_rfl) ?_ _
            have HW3 := Lib.hid (ownsRow_below HW.out hk)
            have HK3 := Lib.hid (HK.out.trans (Keeps.below hk))
            clear hk HBX HC HW HK
            go_wp2
            exact bodyPost_ret (results_none rfl _ _ _) rfl ⟨rfl, HW3.out, HK3.out⟩
end Go.Proofs.YtebbnmjmjoklmaaGreatDoor
