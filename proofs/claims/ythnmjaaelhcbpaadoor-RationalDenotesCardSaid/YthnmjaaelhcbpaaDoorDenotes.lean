/-
  exactppllaw02.RationalDenotes returns true for every list of ints, every k and every count of zeros, whatever the memory, if noStep holds what the program's text lays.
-/
import Derived.Test.YthnmjaaelhcbpaaDoorDen
import Derived.Deep.CutBlock
namespace Go.Proofs.YthnmjaaelhcbpaaDoor
open Go.RowKit
set_option maxRecDepth 100000

theorem rat_factor (s : Bool) {x y k : Int} (h : k ≠ 0) : rat s (x * k) (y * k) = rat s x y := by
  unfold rat
  have e : sg s (x * k) = sg s x * k := by cases s <;> simp [sg, Int.neg_mul]
  rw [e, Rat.divInt_mul_right h]
theorem or_one {k : Int} (k0 : 0 ≤ k) (k1 : k < 4294967296) : 1 ≤ bits .or .u32 k 1 ∧ bits .or .u32 k 1 < 4294967296 := by
  refine ⟨?_, (u32_bits_lt .or (.inr (.inl rfl)) k 1 k0 k1 (by omega) (by omega)).2⟩
  rw [u32_or k 1 k0 k1 (by omega) (by omega)]
  have := Nat.right_le_or (n := k.toNat) (m := (1 : Int).toNat)
  omega
theorem cmpR_self (q : Rat) : cmpR q q = 0 := cmpR_eq rfl

set_option maxHeartbeats 40000000 in
theorem rationalDenotes.walk0 {A : Option Addr} {n c : Nat} {w : World} {kk zz : Int} (hl : Laid w) (hcap : n ≤ c) (htop : c ≤ maxLen) (hI : 0 < n → ∃ ad, A = some ad ∧ IntsAt w ad n (-9223372036854775808) 9223372036854775807)
    (k0 : 0 ≤ kk) (k1 : kk < 4294967296) (z0 : 0 ≤ zz) (z1 : zz < 256) :
    Calls Tryd.prog 9 #[.slice A n c, .int .u32 kk, .int .u8 zz] w (True1 w) := by
  have HNW := Lib.hid (new_any A n c w hcap htop hI)
  clear hI hcap htop
  go_enter Tryd.func9, Tryd.ntmps9
  go_wp2_with fail
  refine HNW.out.mono ?_
  rintro e w1 ⟨g, rfl, hg, hs1, bw1⟩
  clear HNW
  go_wp2_with fail
  refine (srcRat_r g w1 hs1).mono ?_
  rintro e w2 ⟨sa, Aa, na, ca, Ba, ma, da, qa, rfl, ra, oa, oa', hs2, hb2⟩
  go_wp2_with fail
  refine (srcRat_r g w2 hs2).mono ?_
  rintro e w3 ⟨sb, Ab, nb, cb, Bb, mb, db, qb, rfl, rb, ob, ob', hs3, hb3⟩
  have la := ra.loose.but oa oa' hs1.size hb3
  have lb := rb.loose
  have bw3 : Below w.heap.size w w3 := bw1.trans ((hb2.trans hb3).below hg bw1.size)
  clear oa oa' ob ob' hs1 hs2 hs3 hb2 hb3 bw1 ra rb
  obtain ⟨v, hv⟩ : ∃ v, (w3.alloc (.cells #[.bool sa, .slice Aa na ca, .slice Ba ma da] 40)).alloc (.cells #[.bool sb, .slice Ab nb cb, .slice Bb mb db] 40) = v := ⟨_, rfl⟩
  obtain ⟨p, hp, hsz, bv, h_a, h_b, _⟩ := boxes1 w3 _ _ _ _ _ _ _ _ v hv
  have HCA := Lib.hid h_a
  have HCB := Lib.hid h_b
  have HP := Lib.hid hp
  have HPS := Lib.hid hsz
  have HV := Lib.hid hv
  replace la := la.below bv
  replace lb := lb.below bv
  have bwv := bw3.trans (bv.mono bw3.size)
  have hlv := hl.below bwv
  obtain ⟨xa, ya, hxa, hya, hqa, hna, hma⟩ := id la
  have xaL := hxa.lt
  have yaL := hya.lt
  have xa0 := hxa.nonneg
  have ya0 := hya.nonneg
  have HXL := Lib.hid (pw_up xaL hna)
  have HYL := Lib.hid (pw_up yaL hma)
  have HQA := Lib.hid hqa
  clear h_a h_b hp hsz hv hl bv bw3 hqa xaL yaL
  go_upto_region 4 with fail
  rw [HV.out, ← HP.out]
  have hOr := or_one k0 k1
  obtain ⟨K, hK⟩ : ∃ K : Int, bits .or .u32 kk 1 = K := ⟨_, rfl⟩
  rw [hK] at hOr ⊢
  obtain ⟨K0, K1⟩ := hOr
  have HXA := Lib.hid hxa
  have HYA := Lib.hid hya
  clear hK k0 k1 hxa hya
  go_cut [10] (fun u10 wx => ∃ gc, u10 = .pointer (some ⟨gc, 0, none⟩) ∧ DenC v sa (xa * K) (ya * K) 3 gc wx)
  case first =>
    have hk0x : Below v.heap.size v v.drew := (Below.refl _ _).drew
    refine wp_region_held_drew (S := (fun W => W.cell? ⟨p, 0, none⟩ = some (.bool sa) ∧ W.cell? ⟨p, 1, none⟩ = some (.slice Aa na ca) ∧ W.cell? ⟨p, 2, none⟩ = some (.slice Ba ma da))) (by kernel_rfl) ?_ (fun hHeld => ?_)
    · exact HCA.out _ hk0x
    obtain ⟨w0, hw0⟩ : ∃ w0, w0 = v.drew := ⟨_, rfl⟩
    rw [← hw0] at hk0x hHeld ⊢
    have hk0 := hk0x
    clear hw0 hk0x
    refine wpAnyH_take (i := 0) (oi := ⟨some 21, _, _, _, _, _⟩) (v := ?_) rfl (by kernel_rfl) (by kernel_rfl) (by kernel_rfl) (fun _ _ _ h => h) (Or.inl ⟨by rfl, ?_⟩) (by assumption) ?_
    rotate_left
    · intro w hSw
      (try dsimp only at hSw)
      go_simp
      try with_reducible rfl
    try simp only [Act.put, List.setIfInBounds_toArray, List.set_cons_zero, List.set_cons_succ]
    refine wpAnyH_take (i := 1) (oi := ⟨some 22, _, _, _, _, _⟩) (v := ?_) rfl (by kernel_rfl) (by kernel_rfl) (by kernel_rfl) (fun _ _ _ h => h) (Or.inl ⟨by rfl, ?_⟩) (by assumption) ?_
    rotate_left
    · intro w hSw
      (try dsimp only at hSw)
      go_simp
      try with_reducible rfl
    try simp only [Act.put, List.setIfInBounds_toArray, List.set_cons_zero, List.set_cons_succ]
    refine wpAnyH_take (i := 2) (oi := ⟨some 23, _, _, _, _, _⟩) (v := ?_) rfl (by kernel_rfl) (by kernel_rfl) (by kernel_rfl) (fun _ _ _ h => h) (Or.inl ⟨by rfl, ?_⟩) (by assumption) ?_
    rotate_left
    · intro w hSw
      (try dsimp only at hSw)
      go_simp
      try with_reducible rfl
    try simp only [Act.put, List.setIfInBounds_toArray, List.set_cons_zero, List.set_cons_succ]
    refine wpAnyH_take (i := 3) (oi := ⟨some 24, _, _, _, _, _⟩) (v := ?_) rfl (by kernel_rfl) (by kernel_rfl) (by kernel_rfl) (fun _ _ _ h => h) (Or.inl ⟨by rfl, ?_⟩) (by assumption) ?_
    rotate_left
    · intro w hSw
      (try dsimp only at hSw)
      go_simp
      try with_reducible rfl
    try simp only [Act.put, List.setIfInBounds_toArray, List.set_cons_zero, List.set_cons_succ]
    refine wpAnyH_take (i := 7) (oi := ⟨some 28, _, _, _, _, _⟩) (v := ?_) rfl (by kernel_rfl) (by kernel_rfl) (by kernel_rfl) (fun _ _ _ h => h) (Or.inl ⟨by rfl, ?_⟩) (by assumption) ?_
    rotate_left
    · intro w hSw
      (try dsimp only at hSw)
      go_simp
      try with_reducible rfl
    try simp only [Act.put, List.setIfInBounds_toArray, List.set_cons_zero, List.set_cons_succ]
    refine wpAnyH_take (i := 8) (oi := ⟨some 29, _, _, _, _, _⟩) (v := ?_) rfl (by kernel_rfl) (by kernel_rfl) (by kernel_rfl) (fun _ _ _ h => h) (Or.inl ⟨by rfl, ?_⟩) (by assumption) ?_
    rotate_left
    · intro w hSw
      (try dsimp only at hSw)
      go_simp
      try with_reducible rfl
    try simp only [Act.put, List.setIfInBounds_toArray, List.set_cons_zero, List.set_cons_succ]
    refine wpAnyH_take (i := 4) (oi := ⟨some 25, _, _, _, _, _⟩) (v := ?_) rfl (by kernel_rfl) (by kernel_rfl) (by kernel_rfl) (fun _ _ _ h => h) (Or.inl ⟨by rfl, ?_⟩) (by assumption) ?_
    rotate_left
    · intro w hSw
      (try dsimp only at hSw)
      go_simp
      try with_reducible rfl
    try simp only [Act.put, List.setIfInBounds_toArray, List.set_cons_zero, List.set_cons_succ]
    refine wpAnyH_take (i := 9) (oi := ⟨some 30, _, _, _, _, _⟩) (v := ?_) rfl (by kernel_rfl) (by kernel_rfl) (by kernel_rfl) (fun _ _ _ h => h) (Or.inl ⟨by rfl, ?_⟩) (by assumption) ?_
    rotate_left
    · intro w hSw
      (try dsimp only at hSw)
      go_simp
      try with_reducible rfl
    try simp only [Act.put, List.setIfInBounds_toArray, List.set_cons_zero, List.set_cons_succ]
    refine wpAnyH_ready (rs := [5, 10, 13]) (by kernel_rfl) (by simp) ?_
    refine AllReadyH.cons (o := ⟨some 26, _, _, _, _, _⟩) rfl (fun K hK => ?_) ?_
    ·go_simp; refine hK.out _ _ (HCA.out _ (hk0.alloc hk0.size _)) (fun hHeld => ?_); clear hK K; try simp only [Act.put, List.setIfInBounds_toArray, List.set_cons_zero, List.set_cons_succ]
     obtain ⟨w1, hv⟩ : ∃ v, w0.alloc (.cells #[.int .u32 K] 48) = v := ⟨_, rfl⟩
     have lA5 : Num w1 (some ⟨w0.heap.size, 0, none⟩) 1 1 K := by rw [← hv]; exact limb_at rfl (by omega) K1
     have bc1 : Below w0.heap.size w0 w1 := by rw [← hv]; exact (Below.refl _ _).alloc (Nat.le_refl _) _
     rw [hv] at hHeld ⊢; have hk1 := nextB hk0 bc1; clear hv
     refine wpAnyH_ready (rs := [6, 10, 13]) (by kernel_rfl) (by simp) ?_
     refine AllReadyH.cons (o := ⟨some 27, _, _, _, _, _⟩) rfl (fun K hK => ?_) ?_
     ·go_simp; go_at_call 22; refine (refMul_g (HXA.out.below hk1) (lA5.below (Below.refl _ _)) (by omega) (by omega)).mono ?_; rintro e w2 ⟨A6, n6, c6, L6, rfl, M6, I6, bc2⟩; have hk2 := nextB hk1 bc2; go_wp2_with fail; refine hK.out _ _ (HCA.out _ hk2) (fun hHeld => ?_); clear hK K; try simp only [Act.put, List.setIfInBounds_toArray, List.set_cons_zero, List.set_cons_succ]
      refine wpAnyH_ready (rs := [10, 13]) (by kernel_rfl) (by simp) ?_
      refine AllReadyH.cons (o := ⟨some 31, _, _, _, _, _⟩) rfl (fun K hK => ?_) ?_
      ·go_simp; refine hK.out _ _ (HCA.out _ (hk2.alloc hk2.size _)) (fun hHeld => ?_); clear hK K; try simp only [Act.put, List.setIfInBounds_toArray, List.set_cons_zero, List.set_cons_succ]
       obtain ⟨w3, hv⟩ : ∃ v, w2.alloc (.cells #[.int .u32 K] 48) = v := ⟨_, rfl⟩
       have lA10 : Num w3 (some ⟨w2.heap.size, 0, none⟩) 1 1 K := by rw [← hv]; exact limb_at rfl (by omega) K1
       have bc3 : Below w2.heap.size w2 w3 := by rw [← hv]; exact (Below.refl _ _).alloc (Nat.le_refl _) _
       rw [hv] at hHeld ⊢; have hk3 := nextB hk2 bc3; clear hv
       refine wpAnyH_ready (rs := [11, 13]) (by kernel_rfl) (by simp) ?_
       refine AllReadyH.cons (o := ⟨some 32, _, _, _, _, _⟩) rfl (fun K hK => ?_) ?_
       ·go_simp; go_at_call 22; refine (refMul_g (HYA.out.below hk3) (lA10.below (Below.refl _ _)) (by omega) (by omega)).mono ?_; rintro e w4 ⟨A11, n11, c11, L11, rfl, M11, I11, bc4⟩; have hk4 := nextB hk3 bc4; go_wp2_with fail; refine hK.out _ _ (HCA.out _ hk4) (fun hHeld => ?_); clear hK K; try simp only [Act.put, List.setIfInBounds_toArray, List.set_cons_zero, List.set_cons_succ]
        refine wpAnyH_take (i := 12) (oi := ⟨some 33, _, _, _, _, _⟩) (v := ?_) rfl (by kernel_rfl) (by kernel_rfl) (by kernel_rfl) (fun _ _ _ h => h) (Or.inl ⟨by rfl, ?_⟩) (by assumption) ?_
        rotate_left
        · intro w hSw
          (try dsimp only at hSw)
          go_simp
          try with_reducible rfl
        try simp only [Act.put, List.setIfInBounds_toArray, List.set_cons_zero, List.set_cons_succ]
        refine wpAnyH_ready (rs := [13]) (by kernel_rfl) (by simp) ?_
        refine AllReadyH.cons (o := ⟨some 10, _, _, _, _, _⟩) rfl (fun K hK => ?_) ?_
        ·go_simp; refine hK.out _ _ (HCA.out _ (hk4.alloc hk4.size _)) (fun hHeld => ?_); clear hK K; try simp only [Act.put, List.setIfInBounds_toArray, List.set_cons_zero, List.set_cons_succ]
         obtain ⟨w5, hv⟩ : ∃ v, w4.alloc (.cells #[.bool false, .slice none 0 0, .slice none 0 0] 40) = v := ⟨_, rfl⟩; obtain ⟨gc, hg, hs, bc5, hc, hf⟩ := boxes0 w4 _ _ _ _ w5 hv; rw [hv] at hHeld ⊢; rw [← hg]; have HG := Lib.hid (And.intro hg hs); have HC := Lib.hid hc; have HF := Lib.hid hf; have hk5 := nextB hk4 bc5; clear hv hg hs hc hf
         have lec : v.heap.size ≤ gc := by have y7 := HG.out; obtain ⟨y8, _⟩ := y7; have y9 := hk4.size; omega
         have ltc : gc < w5.heap.size := by have y7 := HG.out; obtain ⟨_, y8⟩ := y7; have y9 := ((Below.refl _ _) : Below w5.heap.size w5 w5).size; omega
         obtain ⟨X0, X1, X2⟩ := HC.out w5 (Below.refl _ _); obtain ⟨F0, F1, F2⟩ := HF.out w5 (Below.refl _ _)
         refine wpAnyH_ready (rs := [14]) (by kernel_rfl) (by simp) ?_; refine AllReadyH.cons (o := ⟨none, _, _, _, _, _⟩) rfl (fun K hK => ?_) AllReadyH.nil; go_simp; refine hK.out _ _ (kept3 (by have := HP.out; have := HPS.out; omega) (HCA.out _ hk5)) (fun hHeld => ?_); clear hK K; try simp only [Act.put, List.setIfInBounds_toArray, List.set_cons_zero, List.set_cons_succ]
         refine wpAnyH_done (by kernel_rfl) ?_ _; go_wp2_with fail; go_meet
         exact ⟨gc, rfl, A6, n6, c6, L6, A11, n11, c11, L11, Pair.made ⟨X0, X1, X2⟩ ⟨F0, F1, F2⟩ ((M6.more hk1.size).below (nextB (nextB bc3 bc4) bc5)) ((M11.more hk3.size).below bc5) (fun a ha e => by have y1 := (M6.lt a ha).2; have y2 := ((nextB bc3 bc4) : Below w2.heap.size w2 w4).size; have y3 := HG.out.1; omega) (fun a ha e => by have y1 := (M11.lt a ha).2; have y2 := ((Below.refl _ _) : Below w4.heap.size w4 w4).size; have y3 := HG.out.1; omega) (fun a b ha hb e => by have y1 := (M6.lt a ha).2; have y2 := (M11.lt b hb).1; have y3 := (bc3 : Below w2.heap.size w2 w3).size; omega) hk5 ltc lec, I6.eq, I11.eq,
           is_short I6 M6.len (pw_prod xa0 (by omega) HXL.out (show K < pw 1 from K1)), is_short I11 M11.len (pw_prod ya0 (by omega) HYL.out (show K < pw 1 from K1))⟩
        exact AllReadyH.nil
       refine AllReadyH.cons (o := ⟨some 10, _, _, _, _, _⟩) rfl (fun K hK => ?_) ?_
       ·go_simp; refine hK.out _ _ (HCA.out _ (hk3.alloc hk3.size _)) (fun hHeld => ?_); clear hK K; try simp only [Act.put, List.setIfInBounds_toArray, List.set_cons_zero, List.set_cons_succ]
        obtain ⟨w4, hv⟩ : ∃ v, w3.alloc (.cells #[.bool false, .slice none 0 0, .slice none 0 0] 40) = v := ⟨_, rfl⟩; obtain ⟨gc, hg, hs, bc4, hc, hf⟩ := boxes0 w3 _ _ _ _ w4 hv; rw [hv] at hHeld ⊢; rw [← hg]; have HG := Lib.hid (And.intro hg hs); have HC := Lib.hid hc; have HF := Lib.hid hf; have hk4 := nextB hk3 bc4; clear hv hg hs hc hf
        refine wpAnyH_ready (rs := [11]) (by kernel_rfl) (by simp) ?_
        refine AllReadyH.cons (o := ⟨some 32, _, _, _, _, _⟩) rfl (fun K hK => ?_) ?_
        ·go_simp; go_at_call 22; refine (refMul_g (HYA.out.below hk4) (lA10.below bc4) (by omega) (by omega)).mono ?_; rintro e w5 ⟨A11, n11, c11, L11, rfl, M11, I11, bc5⟩; have hk5 := nextB hk4 bc5; go_wp2_with fail; refine hK.out _ _ (HCA.out _ hk5) (fun hHeld => ?_); clear hK K; try simp only [Act.put, List.setIfInBounds_toArray, List.set_cons_zero, List.set_cons_succ]
         refine wpAnyH_take (i := 12) (oi := ⟨some 33, _, _, _, _, _⟩) (v := ?_) rfl (by kernel_rfl) (by kernel_rfl) (by kernel_rfl) (fun _ _ _ h => h) (Or.inl ⟨by rfl, ?_⟩) (by assumption) ?_
         rotate_left
         · intro w hSw
           (try dsimp only at hSw)
           go_simp
           try with_reducible rfl
         try simp only [Act.put, List.setIfInBounds_toArray, List.set_cons_zero, List.set_cons_succ]
         have lec : v.heap.size ≤ gc := by have y7 := HG.out; obtain ⟨y8, _⟩ := y7; have y9 := hk3.size; omega
         have ltc : gc < w5.heap.size := by have y7 := HG.out; obtain ⟨_, y8⟩ := y7; have y9 := (bc5 : Below w4.heap.size w4 w5).size; omega
         obtain ⟨X0, X1, X2⟩ := HC.out w5 bc5; obtain ⟨F0, F1, F2⟩ := HF.out w5 bc5
         refine wpAnyH_ready (rs := [14]) (by kernel_rfl) (by simp) ?_; refine AllReadyH.cons (o := ⟨none, _, _, _, _, _⟩) rfl (fun K hK => ?_) AllReadyH.nil; go_simp; refine hK.out _ _ (kept3 (by have := HP.out; have := HPS.out; omega) (HCA.out _ hk5)) (fun hHeld => ?_); clear hK K; try simp only [Act.put, List.setIfInBounds_toArray, List.set_cons_zero, List.set_cons_succ]
         refine wpAnyH_done (by kernel_rfl) ?_ _; go_wp2_with fail; go_meet
         exact ⟨gc, rfl, A6, n6, c6, L6, A11, n11, c11, L11, Pair.made ⟨X0, X1, X2⟩ ⟨F0, F1, F2⟩ ((M6.more hk1.size).below (nextB (nextB bc3 bc4) bc5)) ((M11.more hk4.size).below (Below.refl _ _)) (fun a ha e => by have y1 := (M6.lt a ha).2; have y2 := (bc3 : Below w2.heap.size w2 w3).size; have y3 := HG.out.1; omega) (fun a ha e => by have y1 := (M11.lt a ha).1; have y2 := ((Below.refl _ _) : Below w4.heap.size w4 w4).size; have y3 := HG.out.2; omega) (fun a b ha hb e => by have y1 := (M6.lt a ha).2; have y2 := (M11.lt b hb).1; have y3 := ((nextB bc3 bc4) : Below w2.heap.size w2 w4).size; omega) hk5 ltc lec, I6.eq, I11.eq,
           is_short I6 M6.len (pw_prod xa0 (by omega) HXL.out (show K < pw 1 from K1)), is_short I11 M11.len (pw_prod ya0 (by omega) HYL.out (show K < pw 1 from K1))⟩
        exact AllReadyH.nil
       exact AllReadyH.nil
      refine AllReadyH.cons (o := ⟨some 10, _, _, _, _, _⟩) rfl (fun K hK => ?_) ?_
      ·go_simp; refine hK.out _ _ (HCA.out _ (hk2.alloc hk2.size _)) (fun hHeld => ?_); clear hK K; try simp only [Act.put, List.setIfInBounds_toArray, List.set_cons_zero, List.set_cons_succ]
       obtain ⟨w3, hv⟩ : ∃ v, w2.alloc (.cells #[.bool false, .slice none 0 0, .slice none 0 0] 40) = v := ⟨_, rfl⟩; obtain ⟨gc, hg, hs, bc3, hc, hf⟩ := boxes0 w2 _ _ _ _ w3 hv; rw [hv] at hHeld ⊢; rw [← hg]; have HG := Lib.hid (And.intro hg hs); have HC := Lib.hid hc; have HF := Lib.hid hf; have hk3 := nextB hk2 bc3; clear hv hg hs hc hf
       refine wpAnyH_ready (rs := [10]) (by kernel_rfl) (by simp) ?_
       refine AllReadyH.cons (o := ⟨some 31, _, _, _, _, _⟩) rfl (fun K hK => ?_) ?_
       ·go_simp; refine hK.out _ _ (HCA.out _ (hk3.alloc hk3.size _)) (fun hHeld => ?_); clear hK K; try simp only [Act.put, List.setIfInBounds_toArray, List.set_cons_zero, List.set_cons_succ]
        obtain ⟨w4, hv⟩ : ∃ v, w3.alloc (.cells #[.int .u32 K] 48) = v := ⟨_, rfl⟩
        have lA10 : Num w4 (some ⟨w3.heap.size, 0, none⟩) 1 1 K := by rw [← hv]; exact limb_at rfl (by omega) K1
        have bc4 : Below w3.heap.size w3 w4 := by rw [← hv]; exact (Below.refl _ _).alloc (Nat.le_refl _) _
        rw [hv] at hHeld ⊢; have hk4 := nextB hk3 bc4; clear hv
        refine wpAnyH_ready (rs := [11]) (by kernel_rfl) (by simp) ?_
        refine AllReadyH.cons (o := ⟨some 32, _, _, _, _, _⟩) rfl (fun K hK => ?_) ?_
        ·go_simp; go_at_call 22; refine (refMul_g (HYA.out.below hk4) (lA10.below (Below.refl _ _)) (by omega) (by omega)).mono ?_; rintro e w5 ⟨A11, n11, c11, L11, rfl, M11, I11, bc5⟩; have hk5 := nextB hk4 bc5; go_wp2_with fail; refine hK.out _ _ (HCA.out _ hk5) (fun hHeld => ?_); clear hK K; try simp only [Act.put, List.setIfInBounds_toArray, List.set_cons_zero, List.set_cons_succ]
         refine wpAnyH_take (i := 12) (oi := ⟨some 33, _, _, _, _, _⟩) (v := ?_) rfl (by kernel_rfl) (by kernel_rfl) (by kernel_rfl) (fun _ _ _ h => h) (Or.inl ⟨by rfl, ?_⟩) (by assumption) ?_
         rotate_left
         · intro w hSw
           (try dsimp only at hSw)
           go_simp
           try with_reducible rfl
         try simp only [Act.put, List.setIfInBounds_toArray, List.set_cons_zero, List.set_cons_succ]
         have lec : v.heap.size ≤ gc := by have y7 := HG.out; obtain ⟨y8, _⟩ := y7; have y9 := hk2.size; omega
         have ltc : gc < w5.heap.size := by have y7 := HG.out; obtain ⟨_, y8⟩ := y7; have y9 := ((nextB bc4 bc5) : Below w3.heap.size w3 w5).size; omega
         obtain ⟨X0, X1, X2⟩ := HC.out w5 (nextB bc4 bc5); obtain ⟨F0, F1, F2⟩ := HF.out w5 (nextB bc4 bc5)
         refine wpAnyH_ready (rs := [14]) (by kernel_rfl) (by simp) ?_; refine AllReadyH.cons (o := ⟨none, _, _, _, _, _⟩) rfl (fun K hK => ?_) AllReadyH.nil; go_simp; refine hK.out _ _ (kept3 (by have := HP.out; have := HPS.out; omega) (HCA.out _ hk5)) (fun hHeld => ?_); clear hK K; try simp only [Act.put, List.setIfInBounds_toArray, List.set_cons_zero, List.set_cons_succ]
         refine wpAnyH_done (by kernel_rfl) ?_ _; go_wp2_with fail; go_meet
         exact ⟨gc, rfl, A6, n6, c6, L6, A11, n11, c11, L11, Pair.made ⟨X0, X1, X2⟩ ⟨F0, F1, F2⟩ ((M6.more hk1.size).below (nextB (nextB bc3 bc4) bc5)) ((M11.more hk4.size).below (Below.refl _ _)) (fun a ha e => by have y1 := (M6.lt a ha).2; have y2 := ((Below.refl _ _) : Below w2.heap.size w2 w2).size; have y3 := HG.out.1; omega) (fun a ha e => by have y1 := (M11.lt a ha).1; have y2 := (bc4 : Below w3.heap.size w3 w4).size; have y3 := HG.out.2; omega) (fun a b ha hb e => by have y1 := (M6.lt a ha).2; have y2 := (M11.lt b hb).1; have y3 := ((nextB bc3 bc4) : Below w2.heap.size w2 w4).size; omega) hk5 ltc lec, I6.eq, I11.eq,
           is_short I6 M6.len (pw_prod xa0 (by omega) HXL.out (show K < pw 1 from K1)), is_short I11 M11.len (pw_prod ya0 (by omega) HYL.out (show K < pw 1 from K1))⟩
        exact AllReadyH.nil
       exact AllReadyH.nil
      exact AllReadyH.nil
     refine AllReadyH.cons (o := ⟨some 31, _, _, _, _, _⟩) rfl (fun K hK => ?_) ?_
     ·go_simp; refine hK.out _ _ (HCA.out _ (hk1.alloc hk1.size _)) (fun hHeld => ?_); clear hK K; try simp only [Act.put, List.setIfInBounds_toArray, List.set_cons_zero, List.set_cons_succ]
      obtain ⟨w2, hv⟩ : ∃ v, w1.alloc (.cells #[.int .u32 K] 48) = v := ⟨_, rfl⟩
      have lA10 : Num w2 (some ⟨w1.heap.size, 0, none⟩) 1 1 K := by rw [← hv]; exact limb_at rfl (by omega) K1
      have bc2 : Below w1.heap.size w1 w2 := by rw [← hv]; exact (Below.refl _ _).alloc (Nat.le_refl _) _
      rw [hv] at hHeld ⊢; have hk2 := nextB hk1 bc2; clear hv
      refine wpAnyH_ready (rs := [6, 13]) (by kernel_rfl) (by simp) ?_
      refine AllReadyH.cons (o := ⟨some 27, _, _, _, _, _⟩) rfl (fun K hK => ?_) ?_
      ·go_simp; go_at_call 22; refine (refMul_g (HXA.out.below hk2) (lA5.below bc2) (by omega) (by omega)).mono ?_; rintro e w3 ⟨A6, n6, c6, L6, rfl, M6, I6, bc3⟩; have hk3 := nextB hk2 bc3; go_wp2_with fail; refine hK.out _ _ (HCA.out _ hk3) (fun hHeld => ?_); clear hK K; try simp only [Act.put, List.setIfInBounds_toArray, List.set_cons_zero, List.set_cons_succ]
       refine wpAnyH_ready (rs := [11, 13]) (by kernel_rfl) (by simp) ?_
       refine AllReadyH.cons (o := ⟨some 32, _, _, _, _, _⟩) rfl (fun K hK => ?_) ?_
       ·go_simp; go_at_call 22; refine (refMul_g (HYA.out.below hk3) (lA10.below bc3) (by omega) (by omega)).mono ?_; rintro e w4 ⟨A11, n11, c11, L11, rfl, M11, I11, bc4⟩; have hk4 := nextB hk3 bc4; go_wp2_with fail; refine hK.out _ _ (HCA.out _ hk4) (fun hHeld => ?_); clear hK K; try simp only [Act.put, List.setIfInBounds_toArray, List.set_cons_zero, List.set_cons_succ]
        refine wpAnyH_take (i := 12) (oi := ⟨some 33, _, _, _, _, _⟩) (v := ?_) rfl (by kernel_rfl) (by kernel_rfl) (by kernel_rfl) (fun _ _ _ h => h) (Or.inl ⟨by rfl, ?_⟩) (by assumption) ?_
        rotate_left
        · intro w hSw
          (try dsimp only at hSw)
          go_simp
          try with_reducible rfl
        try simp only [Act.put, List.setIfInBounds_toArray, List.set_cons_zero, List.set_cons_succ]
        refine wpAnyH_ready (rs := [13]) (by kernel_rfl) (by simp) ?_
        refine AllReadyH.cons (o := ⟨some 10, _, _, _, _, _⟩) rfl (fun K hK => ?_) ?_
        ·go_simp; refine hK.out _ _ (HCA.out _ (hk4.alloc hk4.size _)) (fun hHeld => ?_); clear hK K; try simp only [Act.put, List.setIfInBounds_toArray, List.set_cons_zero, List.set_cons_succ]
         obtain ⟨w5, hv⟩ : ∃ v, w4.alloc (.cells #[.bool false, .slice none 0 0, .slice none 0 0] 40) = v := ⟨_, rfl⟩; obtain ⟨gc, hg, hs, bc5, hc, hf⟩ := boxes0 w4 _ _ _ _ w5 hv; rw [hv] at hHeld ⊢; rw [← hg]; have HG := Lib.hid (And.intro hg hs); have HC := Lib.hid hc; have HF := Lib.hid hf; have hk5 := nextB hk4 bc5; clear hv hg hs hc hf
         have lec : v.heap.size ≤ gc := by have y7 := HG.out; obtain ⟨y8, _⟩ := y7; have y9 := hk4.size; omega
         have ltc : gc < w5.heap.size := by have y7 := HG.out; obtain ⟨_, y8⟩ := y7; have y9 := ((Below.refl _ _) : Below w5.heap.size w5 w5).size; omega
         obtain ⟨X0, X1, X2⟩ := HC.out w5 (Below.refl _ _); obtain ⟨F0, F1, F2⟩ := HF.out w5 (Below.refl _ _)
         refine wpAnyH_ready (rs := [14]) (by kernel_rfl) (by simp) ?_; refine AllReadyH.cons (o := ⟨none, _, _, _, _, _⟩) rfl (fun K hK => ?_) AllReadyH.nil; go_simp; refine hK.out _ _ (kept3 (by have := HP.out; have := HPS.out; omega) (HCA.out _ hk5)) (fun hHeld => ?_); clear hK K; try simp only [Act.put, List.setIfInBounds_toArray, List.set_cons_zero, List.set_cons_succ]
         refine wpAnyH_done (by kernel_rfl) ?_ _; go_wp2_with fail; go_meet
         exact ⟨gc, rfl, A6, n6, c6, L6, A11, n11, c11, L11, Pair.made ⟨X0, X1, X2⟩ ⟨F0, F1, F2⟩ ((M6.more hk2.size).below (nextB bc4 bc5)) ((M11.more hk3.size).below bc5) (fun a ha e => by have y1 := (M6.lt a ha).2; have y2 := (bc4 : Below w3.heap.size w3 w4).size; have y3 := HG.out.1; omega) (fun a ha e => by have y1 := (M11.lt a ha).2; have y2 := ((Below.refl _ _) : Below w4.heap.size w4 w4).size; have y3 := HG.out.1; omega) (fun a b ha hb e => by have y1 := (M6.lt a ha).2; have y2 := (M11.lt b hb).1; have y3 := ((Below.refl _ _) : Below w3.heap.size w3 w3).size; omega) hk5 ltc lec, I6.eq, I11.eq,
           is_short I6 M6.len (pw_prod xa0 (by omega) HXL.out (show K < pw 1 from K1)), is_short I11 M11.len (pw_prod ya0 (by omega) HYL.out (show K < pw 1 from K1))⟩
        exact AllReadyH.nil
       refine AllReadyH.cons (o := ⟨some 10, _, _, _, _, _⟩) rfl (fun K hK => ?_) ?_
       ·go_simp; refine hK.out _ _ (HCA.out _ (hk3.alloc hk3.size _)) (fun hHeld => ?_); clear hK K; try simp only [Act.put, List.setIfInBounds_toArray, List.set_cons_zero, List.set_cons_succ]
        obtain ⟨w4, hv⟩ : ∃ v, w3.alloc (.cells #[.bool false, .slice none 0 0, .slice none 0 0] 40) = v := ⟨_, rfl⟩; obtain ⟨gc, hg, hs, bc4, hc, hf⟩ := boxes0 w3 _ _ _ _ w4 hv; rw [hv] at hHeld ⊢; rw [← hg]; have HG := Lib.hid (And.intro hg hs); have HC := Lib.hid hc; have HF := Lib.hid hf; have hk4 := nextB hk3 bc4; clear hv hg hs hc hf
        refine wpAnyH_ready (rs := [11]) (by kernel_rfl) (by simp) ?_
        refine AllReadyH.cons (o := ⟨some 32, _, _, _, _, _⟩) rfl (fun K hK => ?_) ?_
        ·go_simp; go_at_call 22; refine (refMul_g (HYA.out.below hk4) (lA10.below (nextB bc3 bc4)) (by omega) (by omega)).mono ?_; rintro e w5 ⟨A11, n11, c11, L11, rfl, M11, I11, bc5⟩; have hk5 := nextB hk4 bc5; go_wp2_with fail; refine hK.out _ _ (HCA.out _ hk5) (fun hHeld => ?_); clear hK K; try simp only [Act.put, List.setIfInBounds_toArray, List.set_cons_zero, List.set_cons_succ]
         refine wpAnyH_take (i := 12) (oi := ⟨some 33, _, _, _, _, _⟩) (v := ?_) rfl (by kernel_rfl) (by kernel_rfl) (by kernel_rfl) (fun _ _ _ h => h) (Or.inl ⟨by rfl, ?_⟩) (by assumption) ?_
         rotate_left
         · intro w hSw
           (try dsimp only at hSw)
           go_simp
           try with_reducible rfl
         try simp only [Act.put, List.setIfInBounds_toArray, List.set_cons_zero, List.set_cons_succ]
         have lec : v.heap.size ≤ gc := by have y7 := HG.out; obtain ⟨y8, _⟩ := y7; have y9 := hk3.size; omega
         have ltc : gc < w5.heap.size := by have y7 := HG.out; obtain ⟨_, y8⟩ := y7; have y9 := (bc5 : Below w4.heap.size w4 w5).size; omega
         obtain ⟨X0, X1, X2⟩ := HC.out w5 bc5; obtain ⟨F0, F1, F2⟩ := HF.out w5 bc5
         refine wpAnyH_ready (rs := [14]) (by kernel_rfl) (by simp) ?_; refine AllReadyH.cons (o := ⟨none, _, _, _, _, _⟩) rfl (fun K hK => ?_) AllReadyH.nil; go_simp; refine hK.out _ _ (kept3 (by have := HP.out; have := HPS.out; omega) (HCA.out _ hk5)) (fun hHeld => ?_); clear hK K; try simp only [Act.put, List.setIfInBounds_toArray, List.set_cons_zero, List.set_cons_succ]
         refine wpAnyH_done (by kernel_rfl) ?_ _; go_wp2_with fail; go_meet
         exact ⟨gc, rfl, A6, n6, c6, L6, A11, n11, c11, L11, Pair.made ⟨X0, X1, X2⟩ ⟨F0, F1, F2⟩ ((M6.more hk2.size).below (nextB bc4 bc5)) ((M11.more hk4.size).below (Below.refl _ _)) (fun a ha e => by have y1 := (M6.lt a ha).2; have y2 := ((Below.refl _ _) : Below w3.heap.size w3 w3).size; have y3 := HG.out.1; omega) (fun a ha e => by have y1 := (M11.lt a ha).1; have y2 := ((Below.refl _ _) : Below w4.heap.size w4 w4).size; have y3 := HG.out.2; omega) (fun a b ha hb e => by have y1 := (M6.lt a ha).2; have y2 := (M11.lt b hb).1; have y3 := (bc4 : Below w3.heap.size w3 w4).size; omega) hk5 ltc lec, I6.eq, I11.eq,
           is_short I6 M6.len (pw_prod xa0 (by omega) HXL.out (show K < pw 1 from K1)), is_short I11 M11.len (pw_prod ya0 (by omega) HYL.out (show K < pw 1 from K1))⟩
        exact AllReadyH.nil
       exact AllReadyH.nil
      refine AllReadyH.cons (o := ⟨some 10, _, _, _, _, _⟩) rfl (fun K hK => ?_) ?_
      ·go_simp; refine hK.out _ _ (HCA.out _ (hk2.alloc hk2.size _)) (fun hHeld => ?_); clear hK K; try simp only [Act.put, List.setIfInBounds_toArray, List.set_cons_zero, List.set_cons_succ]
       obtain ⟨w3, hv⟩ : ∃ v, w2.alloc (.cells #[.bool false, .slice none 0 0, .slice none 0 0] 40) = v := ⟨_, rfl⟩; obtain ⟨gc, hg, hs, bc3, hc, hf⟩ := boxes0 w2 _ _ _ _ w3 hv; rw [hv] at hHeld ⊢; rw [← hg]; have HG := Lib.hid (And.intro hg hs); have HC := Lib.hid hc; have HF := Lib.hid hf; have hk3 := nextB hk2 bc3; clear hv hg hs hc hf
       refine wpAnyH_ready (rs := [6]) (by kernel_rfl) (by simp) ?_
       refine AllReadyH.cons (o := ⟨some 27, _, _, _, _, _⟩) rfl (fun K hK => ?_) ?_
       ·go_simp; go_at_call 22; refine (refMul_g (HXA.out.below hk3) (lA5.below (nextB bc2 bc3)) (by omega) (by omega)).mono ?_; rintro e w4 ⟨A6, n6, c6, L6, rfl, M6, I6, bc4⟩; have hk4 := nextB hk3 bc4; go_wp2_with fail; refine hK.out _ _ (HCA.out _ hk4) (fun hHeld => ?_); clear hK K; try simp only [Act.put, List.setIfInBounds_toArray, List.set_cons_zero, List.set_cons_succ]
        refine wpAnyH_ready (rs := [11]) (by kernel_rfl) (by simp) ?_
        refine AllReadyH.cons (o := ⟨some 32, _, _, _, _, _⟩) rfl (fun K hK => ?_) ?_
        ·go_simp; go_at_call 22; refine (refMul_g (HYA.out.below hk4) (lA10.below (nextB bc3 bc4)) (by omega) (by omega)).mono ?_; rintro e w5 ⟨A11, n11, c11, L11, rfl, M11, I11, bc5⟩; have hk5 := nextB hk4 bc5; go_wp2_with fail; refine hK.out _ _ (HCA.out _ hk5) (fun hHeld => ?_); clear hK K; try simp only [Act.put, List.setIfInBounds_toArray, List.set_cons_zero, List.set_cons_succ]
         refine wpAnyH_take (i := 12) (oi := ⟨some 33, _, _, _, _, _⟩) (v := ?_) rfl (by kernel_rfl) (by kernel_rfl) (by kernel_rfl) (fun _ _ _ h => h) (Or.inl ⟨by rfl, ?_⟩) (by assumption) ?_
         rotate_left
         · intro w hSw
           (try dsimp only at hSw)
           go_simp
           try with_reducible rfl
         try simp only [Act.put, List.setIfInBounds_toArray, List.set_cons_zero, List.set_cons_succ]
         have lec : v.heap.size ≤ gc := by have y7 := HG.out; obtain ⟨y8, _⟩ := y7; have y9 := hk2.size; omega
         have ltc : gc < w5.heap.size := by have y7 := HG.out; obtain ⟨_, y8⟩ := y7; have y9 := ((nextB bc4 bc5) : Below w3.heap.size w3 w5).size; omega
         obtain ⟨X0, X1, X2⟩ := HC.out w5 (nextB bc4 bc5); obtain ⟨F0, F1, F2⟩ := HF.out w5 (nextB bc4 bc5)
         refine wpAnyH_ready (rs := [14]) (by kernel_rfl) (by simp) ?_; refine AllReadyH.cons (o := ⟨none, _, _, _, _, _⟩) rfl (fun K hK => ?_) AllReadyH.nil; go_simp; refine hK.out _ _ (kept3 (by have := HP.out; have := HPS.out; omega) (HCA.out _ hk5)) (fun hHeld => ?_); clear hK K; try simp only [Act.put, List.setIfInBounds_toArray, List.set_cons_zero, List.set_cons_succ]
         refine wpAnyH_done (by kernel_rfl) ?_ _; go_wp2_with fail; go_meet
         exact ⟨gc, rfl, A6, n6, c6, L6, A11, n11, c11, L11, Pair.made ⟨X0, X1, X2⟩ ⟨F0, F1, F2⟩ ((M6.more hk3.size).below bc5) ((M11.more hk4.size).below (Below.refl _ _)) (fun a ha e => by have y1 := (M6.lt a ha).1; have y2 := ((Below.refl _ _) : Below w3.heap.size w3 w3).size; have y3 := HG.out.2; omega) (fun a ha e => by have y1 := (M11.lt a ha).1; have y2 := (bc4 : Below w3.heap.size w3 w4).size; have y3 := HG.out.2; omega) (fun a b ha hb e => by have y1 := (M6.lt a ha).2; have y2 := (M11.lt b hb).1; have y3 := ((Below.refl _ _) : Below w4.heap.size w4 w4).size; omega) hk5 ltc lec, I6.eq, I11.eq,
           is_short I6 M6.len (pw_prod xa0 (by omega) HXL.out (show K < pw 1 from K1)), is_short I11 M11.len (pw_prod ya0 (by omega) HYL.out (show K < pw 1 from K1))⟩
        exact AllReadyH.nil
       exact AllReadyH.nil
      exact AllReadyH.nil
     refine AllReadyH.cons (o := ⟨some 10, _, _, _, _, _⟩) rfl (fun K hK => ?_) ?_
     ·go_simp; refine hK.out _ _ (HCA.out _ (hk1.alloc hk1.size _)) (fun hHeld => ?_); clear hK K; try simp only [Act.put, List.setIfInBounds_toArray, List.set_cons_zero, List.set_cons_succ]
      obtain ⟨w2, hv⟩ : ∃ v, w1.alloc (.cells #[.bool false, .slice none 0 0, .slice none 0 0] 40) = v := ⟨_, rfl⟩; obtain ⟨gc, hg, hs, bc2, hc, hf⟩ := boxes0 w1 _ _ _ _ w2 hv; rw [hv] at hHeld ⊢; rw [← hg]; have HG := Lib.hid (And.intro hg hs); have HC := Lib.hid hc; have HF := Lib.hid hf; have hk2 := nextB hk1 bc2; clear hv hg hs hc hf
      refine wpAnyH_ready (rs := [6, 10]) (by kernel_rfl) (by simp) ?_
      refine AllReadyH.cons (o := ⟨some 27, _, _, _, _, _⟩) rfl (fun K hK => ?_) ?_
      ·go_simp; go_at_call 22; refine (refMul_g (HXA.out.below hk2) (lA5.below bc2) (by omega) (by omega)).mono ?_; rintro e w3 ⟨A6, n6, c6, L6, rfl, M6, I6, bc3⟩; have hk3 := nextB hk2 bc3; go_wp2_with fail; refine hK.out _ _ (HCA.out _ hk3) (fun hHeld => ?_); clear hK K; try simp only [Act.put, List.setIfInBounds_toArray, List.set_cons_zero, List.set_cons_succ]
       refine wpAnyH_ready (rs := [10]) (by kernel_rfl) (by simp) ?_
       refine AllReadyH.cons (o := ⟨some 31, _, _, _, _, _⟩) rfl (fun K hK => ?_) ?_
       ·go_simp; refine hK.out _ _ (HCA.out _ (hk3.alloc hk3.size _)) (fun hHeld => ?_); clear hK K; try simp only [Act.put, List.setIfInBounds_toArray, List.set_cons_zero, List.set_cons_succ]
        obtain ⟨w4, hv⟩ : ∃ v, w3.alloc (.cells #[.int .u32 K] 48) = v := ⟨_, rfl⟩
        have lA10 : Num w4 (some ⟨w3.heap.size, 0, none⟩) 1 1 K := by rw [← hv]; exact limb_at rfl (by omega) K1
        have bc4 : Below w3.heap.size w3 w4 := by rw [← hv]; exact (Below.refl _ _).alloc (Nat.le_refl _) _
        rw [hv] at hHeld ⊢; have hk4 := nextB hk3 bc4; clear hv
        refine wpAnyH_ready (rs := [11]) (by kernel_rfl) (by simp) ?_
        refine AllReadyH.cons (o := ⟨some 32, _, _, _, _, _⟩) rfl (fun K hK => ?_) ?_
        ·go_simp; go_at_call 22; refine (refMul_g (HYA.out.below hk4) (lA10.below (Below.refl _ _)) (by omega) (by omega)).mono ?_; rintro e w5 ⟨A11, n11, c11, L11, rfl, M11, I11, bc5⟩; have hk5 := nextB hk4 bc5; go_wp2_with fail; refine hK.out _ _ (HCA.out _ hk5) (fun hHeld => ?_); clear hK K; try simp only [Act.put, List.setIfInBounds_toArray, List.set_cons_zero, List.set_cons_succ]
         refine wpAnyH_take (i := 12) (oi := ⟨some 33, _, _, _, _, _⟩) (v := ?_) rfl (by kernel_rfl) (by kernel_rfl) (by kernel_rfl) (fun _ _ _ h => h) (Or.inl ⟨by rfl, ?_⟩) (by assumption) ?_
         rotate_left
         · intro w hSw
           (try dsimp only at hSw)
           go_simp
           try with_reducible rfl
         try simp only [Act.put, List.setIfInBounds_toArray, List.set_cons_zero, List.set_cons_succ]
         have lec : v.heap.size ≤ gc := by have y7 := HG.out; obtain ⟨y8, _⟩ := y7; have y9 := hk1.size; omega
         have ltc : gc < w5.heap.size := by have y7 := HG.out; obtain ⟨_, y8⟩ := y7; have y9 := ((nextB (nextB bc3 bc4) bc5) : Below w2.heap.size w2 w5).size; omega
         obtain ⟨X0, X1, X2⟩ := HC.out w5 (nextB (nextB bc3 bc4) bc5); obtain ⟨F0, F1, F2⟩ := HF.out w5 (nextB (nextB bc3 bc4) bc5)
         refine wpAnyH_ready (rs := [14]) (by kernel_rfl) (by simp) ?_; refine AllReadyH.cons (o := ⟨none, _, _, _, _, _⟩) rfl (fun K hK => ?_) AllReadyH.nil; go_simp; refine hK.out _ _ (kept3 (by have := HP.out; have := HPS.out; omega) (HCA.out _ hk5)) (fun hHeld => ?_); clear hK K; try simp only [Act.put, List.setIfInBounds_toArray, List.set_cons_zero, List.set_cons_succ]
         refine wpAnyH_done (by kernel_rfl) ?_ _; go_wp2_with fail; go_meet
         exact ⟨gc, rfl, A6, n6, c6, L6, A11, n11, c11, L11, Pair.made ⟨X0, X1, X2⟩ ⟨F0, F1, F2⟩ ((M6.more hk2.size).below (nextB bc4 bc5)) ((M11.more hk4.size).below (Below.refl _ _)) (fun a ha e => by have y1 := (M6.lt a ha).1; have y2 := ((Below.refl _ _) : Below w2.heap.size w2 w2).size; have y3 := HG.out.2; omega) (fun a ha e => by have y1 := (M11.lt a ha).1; have y2 := ((nextB bc3 bc4) : Below w2.heap.size w2 w4).size; have y3 := HG.out.2; omega) (fun a b ha hb e => by have y1 := (M6.lt a ha).2; have y2 := (M11.lt b hb).1; have y3 := (bc4 : Below w3.heap.size w3 w4).size; omega) hk5 ltc lec, I6.eq, I11.eq,
           is_short I6 M6.len (pw_prod xa0 (by omega) HXL.out (show K < pw 1 from K1)), is_short I11 M11.len (pw_prod ya0 (by omega) HYL.out (show K < pw 1 from K1))⟩
        exact AllReadyH.nil
       exact AllReadyH.nil
      refine AllReadyH.cons (o := ⟨some 31, _, _, _, _, _⟩) rfl (fun K hK => ?_) ?_
      ·go_simp; refine hK.out _ _ (HCA.out _ (hk2.alloc hk2.size _)) (fun hHeld => ?_); clear hK K; try simp only [Act.put, List.setIfInBounds_toArray, List.set_cons_zero, List.set_cons_succ]
       obtain ⟨w3, hv⟩ : ∃ v, w2.alloc (.cells #[.int .u32 K] 48) = v := ⟨_, rfl⟩
       have lA10 : Num w3 (some ⟨w2.heap.size, 0, none⟩) 1 1 K := by rw [← hv]; exact limb_at rfl (by omega) K1
       have bc3 : Below w2.heap.size w2 w3 := by rw [← hv]; exact (Below.refl _ _).alloc (Nat.le_refl _) _
       rw [hv] at hHeld ⊢; have hk3 := nextB hk2 bc3; clear hv
       refine wpAnyH_ready (rs := [6]) (by kernel_rfl) (by simp) ?_
       refine AllReadyH.cons (o := ⟨some 27, _, _, _, _, _⟩) rfl (fun K hK => ?_) ?_
       ·go_simp; go_at_call 22; refine (refMul_g (HXA.out.below hk3) (lA5.below (nextB bc2 bc3)) (by omega) (by omega)).mono ?_; rintro e w4 ⟨A6, n6, c6, L6, rfl, M6, I6, bc4⟩; have hk4 := nextB hk3 bc4; go_wp2_with fail; refine hK.out _ _ (HCA.out _ hk4) (fun hHeld => ?_); clear hK K; try simp only [Act.put, List.setIfInBounds_toArray, List.set_cons_zero, List.set_cons_succ]
        refine wpAnyH_ready (rs := [11]) (by kernel_rfl) (by simp) ?_
        refine AllReadyH.cons (o := ⟨some 32, _, _, _, _, _⟩) rfl (fun K hK => ?_) ?_
        ·go_simp; go_at_call 22; refine (refMul_g (HYA.out.below hk4) (lA10.below bc4) (by omega) (by omega)).mono ?_; rintro e w5 ⟨A11, n11, c11, L11, rfl, M11, I11, bc5⟩; have hk5 := nextB hk4 bc5; go_wp2_with fail; refine hK.out _ _ (HCA.out _ hk5) (fun hHeld => ?_); clear hK K; try simp only [Act.put, List.setIfInBounds_toArray, List.set_cons_zero, List.set_cons_succ]
         refine wpAnyH_take (i := 12) (oi := ⟨some 33, _, _, _, _, _⟩) (v := ?_) rfl (by kernel_rfl) (by kernel_rfl) (by kernel_rfl) (fun _ _ _ h => h) (Or.inl ⟨by rfl, ?_⟩) (by assumption) ?_
         rotate_left
         · intro w hSw
           (try dsimp only at hSw)
           go_simp
           try with_reducible rfl
         try simp only [Act.put, List.setIfInBounds_toArray, List.set_cons_zero, List.set_cons_succ]
         have lec : v.heap.size ≤ gc := by have y7 := HG.out; obtain ⟨y8, _⟩ := y7; have y9 := hk1.size; omega
         have ltc : gc < w5.heap.size := by have y7 := HG.out; obtain ⟨_, y8⟩ := y7; have y9 := ((nextB (nextB bc3 bc4) bc5) : Below w2.heap.size w2 w5).size; omega
         obtain ⟨X0, X1, X2⟩ := HC.out w5 (nextB (nextB bc3 bc4) bc5); obtain ⟨F0, F1, F2⟩ := HF.out w5 (nextB (nextB bc3 bc4) bc5)
         refine wpAnyH_ready (rs := [14]) (by kernel_rfl) (by simp) ?_; refine AllReadyH.cons (o := ⟨none, _, _, _, _, _⟩) rfl (fun K hK => ?_) AllReadyH.nil; go_simp; refine hK.out _ _ (kept3 (by have := HP.out; have := HPS.out; omega) (HCA.out _ hk5)) (fun hHeld => ?_); clear hK K; try simp only [Act.put, List.setIfInBounds_toArray, List.set_cons_zero, List.set_cons_succ]
         refine wpAnyH_done (by kernel_rfl) ?_ _; go_wp2_with fail; go_meet
         exact ⟨gc, rfl, A6, n6, c6, L6, A11, n11, c11, L11, Pair.made ⟨X0, X1, X2⟩ ⟨F0, F1, F2⟩ ((M6.more hk3.size).below bc5) ((M11.more hk4.size).below (Below.refl _ _)) (fun a ha e => by have y1 := (M6.lt a ha).1; have y2 := (bc3 : Below w2.heap.size w2 w3).size; have y3 := HG.out.2; omega) (fun a ha e => by have y1 := (M11.lt a ha).1; have y2 := ((nextB bc3 bc4) : Below w2.heap.size w2 w4).size; have y3 := HG.out.2; omega) (fun a b ha hb e => by have y1 := (M6.lt a ha).2; have y2 := (M11.lt b hb).1; have y3 := ((Below.refl _ _) : Below w4.heap.size w4 w4).size; omega) hk5 ltc lec, I6.eq, I11.eq,
           is_short I6 M6.len (pw_prod xa0 (by omega) HXL.out (show K < pw 1 from K1)), is_short I11 M11.len (pw_prod ya0 (by omega) HYL.out (show K < pw 1 from K1))⟩
        exact AllReadyH.nil
       exact AllReadyH.nil
      exact AllReadyH.nil
     exact AllReadyH.nil
    refine AllReadyH.cons (o := ⟨some 31, _, _, _, _, _⟩) rfl (fun K hK => ?_) ?_
    ·go_simp; refine hK.out _ _ (HCA.out _ (hk0.alloc hk0.size _)) (fun hHeld => ?_); clear hK K; try simp only [Act.put, List.setIfInBounds_toArray, List.set_cons_zero, List.set_cons_succ]
     obtain ⟨w1, hv⟩ : ∃ v, w0.alloc (.cells #[.int .u32 K] 48) = v := ⟨_, rfl⟩
     have lA10 : Num w1 (some ⟨w0.heap.size, 0, none⟩) 1 1 K := by rw [← hv]; exact limb_at rfl (by omega) K1
     have bc1 : Below w0.heap.size w0 w1 := by rw [← hv]; exact (Below.refl _ _).alloc (Nat.le_refl _) _
     rw [hv] at hHeld ⊢; have hk1 := nextB hk0 bc1; clear hv
     refine wpAnyH_ready (rs := [5, 13]) (by kernel_rfl) (by simp) ?_
     refine AllReadyH.cons (o := ⟨some 26, _, _, _, _, _⟩) rfl (fun K hK => ?_) ?_
     ·go_simp; refine hK.out _ _ (HCA.out _ (hk1.alloc hk1.size _)) (fun hHeld => ?_); clear hK K; try simp only [Act.put, List.setIfInBounds_toArray, List.set_cons_zero, List.set_cons_succ]
      obtain ⟨w2, hv⟩ : ∃ v, w1.alloc (.cells #[.int .u32 K] 48) = v := ⟨_, rfl⟩
      have lA5 : Num w2 (some ⟨w1.heap.size, 0, none⟩) 1 1 K := by rw [← hv]; exact limb_at rfl (by omega) K1
      have bc2 : Below w1.heap.size w1 w2 := by rw [← hv]; exact (Below.refl _ _).alloc (Nat.le_refl _) _
      rw [hv] at hHeld ⊢; have hk2 := nextB hk1 bc2; clear hv
      refine wpAnyH_ready (rs := [6, 13]) (by kernel_rfl) (by simp) ?_
      refine AllReadyH.cons (o := ⟨some 27, _, _, _, _, _⟩) rfl (fun K hK => ?_) ?_
      ·go_simp; go_at_call 22; refine (refMul_g (HXA.out.below hk2) (lA5.below (Below.refl _ _)) (by omega) (by omega)).mono ?_; rintro e w3 ⟨A6, n6, c6, L6, rfl, M6, I6, bc3⟩; have hk3 := nextB hk2 bc3; go_wp2_with fail; refine hK.out _ _ (HCA.out _ hk3) (fun hHeld => ?_); clear hK K; try simp only [Act.put, List.setIfInBounds_toArray, List.set_cons_zero, List.set_cons_succ]
       refine wpAnyH_ready (rs := [11, 13]) (by kernel_rfl) (by simp) ?_
       refine AllReadyH.cons (o := ⟨some 32, _, _, _, _, _⟩) rfl (fun K hK => ?_) ?_
       ·go_simp; go_at_call 22; refine (refMul_g (HYA.out.below hk3) (lA10.below (nextB bc2 bc3)) (by omega) (by omega)).mono ?_; rintro e w4 ⟨A11, n11, c11, L11, rfl, M11, I11, bc4⟩; have hk4 := nextB hk3 bc4; go_wp2_with fail; refine hK.out _ _ (HCA.out _ hk4) (fun hHeld => ?_); clear hK K; try simp only [Act.put, List.setIfInBounds_toArray, List.set_cons_zero, List.set_cons_succ]
        refine wpAnyH_take (i := 12) (oi := ⟨some 33, _, _, _, _, _⟩) (v := ?_) rfl (by kernel_rfl) (by kernel_rfl) (by kernel_rfl) (fun _ _ _ h => h) (Or.inl ⟨by rfl, ?_⟩) (by assumption) ?_
        rotate_left
        · intro w hSw
          (try dsimp only at hSw)
          go_simp
          try with_reducible rfl
        try simp only [Act.put, List.setIfInBounds_toArray, List.set_cons_zero, List.set_cons_succ]
        refine wpAnyH_ready (rs := [13]) (by kernel_rfl) (by simp) ?_
        refine AllReadyH.cons (o := ⟨some 10, _, _, _, _, _⟩) rfl (fun K hK => ?_) ?_
        ·go_simp; refine hK.out _ _ (HCA.out _ (hk4.alloc hk4.size _)) (fun hHeld => ?_); clear hK K; try simp only [Act.put, List.setIfInBounds_toArray, List.set_cons_zero, List.set_cons_succ]
         obtain ⟨w5, hv⟩ : ∃ v, w4.alloc (.cells #[.bool false, .slice none 0 0, .slice none 0 0] 40) = v := ⟨_, rfl⟩; obtain ⟨gc, hg, hs, bc5, hc, hf⟩ := boxes0 w4 _ _ _ _ w5 hv; rw [hv] at hHeld ⊢; rw [← hg]; have HG := Lib.hid (And.intro hg hs); have HC := Lib.hid hc; have HF := Lib.hid hf; have hk5 := nextB hk4 bc5; clear hv hg hs hc hf
         have lec : v.heap.size ≤ gc := by have y7 := HG.out; obtain ⟨y8, _⟩ := y7; have y9 := hk4.size; omega
         have ltc : gc < w5.heap.size := by have y7 := HG.out; obtain ⟨_, y8⟩ := y7; have y9 := ((Below.refl _ _) : Below w5.heap.size w5 w5).size; omega
         obtain ⟨X0, X1, X2⟩ := HC.out w5 (Below.refl _ _); obtain ⟨F0, F1, F2⟩ := HF.out w5 (Below.refl _ _)
         refine wpAnyH_ready (rs := [14]) (by kernel_rfl) (by simp) ?_; refine AllReadyH.cons (o := ⟨none, _, _, _, _, _⟩) rfl (fun K hK => ?_) AllReadyH.nil; go_simp; refine hK.out _ _ (kept3 (by have := HP.out; have := HPS.out; omega) (HCA.out _ hk5)) (fun hHeld => ?_); clear hK K; try simp only [Act.put, List.setIfInBounds_toArray, List.set_cons_zero, List.set_cons_succ]
         refine wpAnyH_done (by kernel_rfl) ?_ _; go_wp2_with fail; go_meet
         exact ⟨gc, rfl, A6, n6, c6, L6, A11, n11, c11, L11, Pair.made ⟨X0, X1, X2⟩ ⟨F0, F1, F2⟩ ((M6.more hk2.size).below (nextB bc4 bc5)) ((M11.more hk3.size).below bc5) (fun a ha e => by have y1 := (M6.lt a ha).2; have y2 := (bc4 : Below w3.heap.size w3 w4).size; have y3 := HG.out.1; omega) (fun a ha e => by have y1 := (M11.lt a ha).2; have y2 := ((Below.refl _ _) : Below w4.heap.size w4 w4).size; have y3 := HG.out.1; omega) (fun a b ha hb e => by have y1 := (M6.lt a ha).2; have y2 := (M11.lt b hb).1; have y3 := ((Below.refl _ _) : Below w3.heap.size w3 w3).size; omega) hk5 ltc lec, I6.eq, I11.eq,
           is_short I6 M6.len (pw_prod xa0 (by omega) HXL.out (show K < pw 1 from K1)), is_short I11 M11.len (pw_prod ya0 (by omega) HYL.out (show K < pw 1 from K1))⟩
        exact AllReadyH.nil
       refine AllReadyH.cons (o := ⟨some 10, _, _, _, _, _⟩) rfl (fun K hK => ?_) ?_
       ·go_simp; refine hK.out _ _ (HCA.out _ (hk3.alloc hk3.size _)) (fun hHeld => ?_); clear hK K; try simp only [Act.put, List.setIfInBounds_toArray, List.set_cons_zero, List.set_cons_succ]
        obtain ⟨w4, hv⟩ : ∃ v, w3.alloc (.cells #[.bool false, .slice none 0 0, .slice none 0 0] 40) = v := ⟨_, rfl⟩; obtain ⟨gc, hg, hs, bc4, hc, hf⟩ := boxes0 w3 _ _ _ _ w4 hv; rw [hv] at hHeld ⊢; rw [← hg]; have HG := Lib.hid (And.intro hg hs); have HC := Lib.hid hc; have HF := Lib.hid hf; have hk4 := nextB hk3 bc4; clear hv hg hs hc hf
        refine wpAnyH_ready (rs := [11]) (by kernel_rfl) (by simp) ?_
        refine AllReadyH.cons (o := ⟨some 32, _, _, _, _, _⟩) rfl (fun K hK => ?_) ?_
        ·go_simp; go_at_call 22; refine (refMul_g (HYA.out.below hk4) (lA10.below (nextB (nextB bc2 bc3) bc4)) (by omega) (by omega)).mono ?_; rintro e w5 ⟨A11, n11, c11, L11, rfl, M11, I11, bc5⟩; have hk5 := nextB hk4 bc5; go_wp2_with fail; refine hK.out _ _ (HCA.out _ hk5) (fun hHeld => ?_); clear hK K; try simp only [Act.put, List.setIfInBounds_toArray, List.set_cons_zero, List.set_cons_succ]
         refine wpAnyH_take (i := 12) (oi := ⟨some 33, _, _, _, _, _⟩) (v := ?_) rfl (by kernel_rfl) (by kernel_rfl) (by kernel_rfl) (fun _ _ _ h => h) (Or.inl ⟨by rfl, ?_⟩) (by assumption) ?_
         rotate_left
         · intro w hSw
           (try dsimp only at hSw)
           go_simp
           try with_reducible rfl
         try simp only [Act.put, List.setIfInBounds_toArray, List.set_cons_zero, List.set_cons_succ]
         have lec : v.heap.size ≤ gc := by have y7 := HG.out; obtain ⟨y8, _⟩ := y7; have y9 := hk3.size; omega
         have ltc : gc < w5.heap.size := by have y7 := HG.out; obtain ⟨_, y8⟩ := y7; have y9 := (bc5 : Below w4.heap.size w4 w5).size; omega
         obtain ⟨X0, X1, X2⟩ := HC.out w5 bc5; obtain ⟨F0, F1, F2⟩ := HF.out w5 bc5
         refine wpAnyH_ready (rs := [14]) (by kernel_rfl) (by simp) ?_; refine AllReadyH.cons (o := ⟨none, _, _, _, _, _⟩) rfl (fun K hK => ?_) AllReadyH.nil; go_simp; refine hK.out _ _ (kept3 (by have := HP.out; have := HPS.out; omega) (HCA.out _ hk5)) (fun hHeld => ?_); clear hK K; try simp only [Act.put, List.setIfInBounds_toArray, List.set_cons_zero, List.set_cons_succ]
         refine wpAnyH_done (by kernel_rfl) ?_ _; go_wp2_with fail; go_meet
         exact ⟨gc, rfl, A6, n6, c6, L6, A11, n11, c11, L11, Pair.made ⟨X0, X1, X2⟩ ⟨F0, F1, F2⟩ ((M6.more hk2.size).below (nextB bc4 bc5)) ((M11.more hk4.size).below (Below.refl _ _)) (fun a ha e => by have y1 := (M6.lt a ha).2; have y2 := ((Below.refl _ _) : Below w3.heap.size w3 w3).size; have y3 := HG.out.1; omega) (fun a ha e => by have y1 := (M11.lt a ha).1; have y2 := ((Below.refl _ _) : Below w4.heap.size w4 w4).size; have y3 := HG.out.2; omega) (fun a b ha hb e => by have y1 := (M6.lt a ha).2; have y2 := (M11.lt b hb).1; have y3 := (bc4 : Below w3.heap.size w3 w4).size; omega) hk5 ltc lec, I6.eq, I11.eq,
           is_short I6 M6.len (pw_prod xa0 (by omega) HXL.out (show K < pw 1 from K1)), is_short I11 M11.len (pw_prod ya0 (by omega) HYL.out (show K < pw 1 from K1))⟩
        exact AllReadyH.nil
       exact AllReadyH.nil
      refine AllReadyH.cons (o := ⟨some 10, _, _, _, _, _⟩) rfl (fun K hK => ?_) ?_
      ·go_simp; refine hK.out _ _ (HCA.out _ (hk2.alloc hk2.size _)) (fun hHeld => ?_); clear hK K; try simp only [Act.put, List.setIfInBounds_toArray, List.set_cons_zero, List.set_cons_succ]
       obtain ⟨w3, hv⟩ : ∃ v, w2.alloc (.cells #[.bool false, .slice none 0 0, .slice none 0 0] 40) = v := ⟨_, rfl⟩; obtain ⟨gc, hg, hs, bc3, hc, hf⟩ := boxes0 w2 _ _ _ _ w3 hv; rw [hv] at hHeld ⊢; rw [← hg]; have HG := Lib.hid (And.intro hg hs); have HC := Lib.hid hc; have HF := Lib.hid hf; have hk3 := nextB hk2 bc3; clear hv hg hs hc hf
       refine wpAnyH_ready (rs := [6]) (by kernel_rfl) (by simp) ?_
       refine AllReadyH.cons (o := ⟨some 27, _, _, _, _, _⟩) rfl (fun K hK => ?_) ?_
       ·go_simp; go_at_call 22; refine (refMul_g (HXA.out.below hk3) (lA5.below bc3) (by omega) (by omega)).mono ?_; rintro e w4 ⟨A6, n6, c6, L6, rfl, M6, I6, bc4⟩; have hk4 := nextB hk3 bc4; go_wp2_with fail; refine hK.out _ _ (HCA.out _ hk4) (fun hHeld => ?_); clear hK K; try simp only [Act.put, List.setIfInBounds_toArray, List.set_cons_zero, List.set_cons_succ]
        refine wpAnyH_ready (rs := [11]) (by kernel_rfl) (by simp) ?_
        refine AllReadyH.cons (o := ⟨some 32, _, _, _, _, _⟩) rfl (fun K hK => ?_) ?_
        ·go_simp; go_at_call 22; refine (refMul_g (HYA.out.below hk4) (lA10.below (nextB (nextB bc2 bc3) bc4)) (by omega) (by omega)).mono ?_; rintro e w5 ⟨A11, n11, c11, L11, rfl, M11, I11, bc5⟩; have hk5 := nextB hk4 bc5; go_wp2_with fail; refine hK.out _ _ (HCA.out _ hk5) (fun hHeld => ?_); clear hK K; try simp only [Act.put, List.setIfInBounds_toArray, List.set_cons_zero, List.set_cons_succ]
         refine wpAnyH_take (i := 12) (oi := ⟨some 33, _, _, _, _, _⟩) (v := ?_) rfl (by kernel_rfl) (by kernel_rfl) (by kernel_rfl) (fun _ _ _ h => h) (Or.inl ⟨by rfl, ?_⟩) (by assumption) ?_
         rotate_left
         · intro w hSw
           (try dsimp only at hSw)
           go_simp
           try with_reducible rfl
         try simp only [Act.put, List.setIfInBounds_toArray, List.set_cons_zero, List.set_cons_succ]
         have lec : v.heap.size ≤ gc := by have y7 := HG.out; obtain ⟨y8, _⟩ := y7; have y9 := hk2.size; omega
         have ltc : gc < w5.heap.size := by have y7 := HG.out; obtain ⟨_, y8⟩ := y7; have y9 := ((nextB bc4 bc5) : Below w3.heap.size w3 w5).size; omega
         obtain ⟨X0, X1, X2⟩ := HC.out w5 (nextB bc4 bc5); obtain ⟨F0, F1, F2⟩ := HF.out w5 (nextB bc4 bc5)
         refine wpAnyH_ready (rs := [14]) (by kernel_rfl) (by simp) ?_; refine AllReadyH.cons (o := ⟨none, _, _, _, _, _⟩) rfl (fun K hK => ?_) AllReadyH.nil; go_simp; refine hK.out _ _ (kept3 (by have := HP.out; have := HPS.out; omega) (HCA.out _ hk5)) (fun hHeld => ?_); clear hK K; try simp only [Act.put, List.setIfInBounds_toArray, List.set_cons_zero, List.set_cons_succ]
         refine wpAnyH_done (by kernel_rfl) ?_ _; go_wp2_with fail; go_meet
         exact ⟨gc, rfl, A6, n6, c6, L6, A11, n11, c11, L11, Pair.made ⟨X0, X1, X2⟩ ⟨F0, F1, F2⟩ ((M6.more hk3.size).below bc5) ((M11.more hk4.size).below (Below.refl _ _)) (fun a ha e => by have y1 := (M6.lt a ha).1; have y2 := ((Below.refl _ _) : Below w3.heap.size w3 w3).size; have y3 := HG.out.2; omega) (fun a ha e => by have y1 := (M11.lt a ha).1; have y2 := (bc4 : Below w3.heap.size w3 w4).size; have y3 := HG.out.2; omega) (fun a b ha hb e => by have y1 := (M6.lt a ha).2; have y2 := (M11.lt b hb).1; have y3 := ((Below.refl _ _) : Below w4.heap.size w4 w4).size; omega) hk5 ltc lec, I6.eq, I11.eq,
           is_short I6 M6.len (pw_prod xa0 (by omega) HXL.out (show K < pw 1 from K1)), is_short I11 M11.len (pw_prod ya0 (by omega) HYL.out (show K < pw 1 from K1))⟩
        exact AllReadyH.nil
       exact AllReadyH.nil
      exact AllReadyH.nil
     refine AllReadyH.cons (o := ⟨some 10, _, _, _, _, _⟩) rfl (fun K hK => ?_) ?_
     ·go_simp; refine hK.out _ _ (HCA.out _ (hk1.alloc hk1.size _)) (fun hHeld => ?_); clear hK K; try simp only [Act.put, List.setIfInBounds_toArray, List.set_cons_zero, List.set_cons_succ]
      obtain ⟨w2, hv⟩ : ∃ v, w1.alloc (.cells #[.bool false, .slice none 0 0, .slice none 0 0] 40) = v := ⟨_, rfl⟩; obtain ⟨gc, hg, hs, bc2, hc, hf⟩ := boxes0 w1 _ _ _ _ w2 hv; rw [hv] at hHeld ⊢; rw [← hg]; have HG := Lib.hid (And.intro hg hs); have HC := Lib.hid hc; have HF := Lib.hid hf; have hk2 := nextB hk1 bc2; clear hv hg hs hc hf
      refine wpAnyH_ready (rs := [5]) (by kernel_rfl) (by simp) ?_
      refine AllReadyH.cons (o := ⟨some 26, _, _, _, _, _⟩) rfl (fun K hK => ?_) ?_
      ·go_simp; refine hK.out _ _ (HCA.out _ (hk2.alloc hk2.size _)) (fun hHeld => ?_); clear hK K; try simp only [Act.put, List.setIfInBounds_toArray, List.set_cons_zero, List.set_cons_succ]
       obtain ⟨w3, hv⟩ : ∃ v, w2.alloc (.cells #[.int .u32 K] 48) = v := ⟨_, rfl⟩
       have lA5 : Num w3 (some ⟨w2.heap.size, 0, none⟩) 1 1 K := by rw [← hv]; exact limb_at rfl (by omega) K1
       have bc3 : Below w2.heap.size w2 w3 := by rw [← hv]; exact (Below.refl _ _).alloc (Nat.le_refl _) _
       rw [hv] at hHeld ⊢; have hk3 := nextB hk2 bc3; clear hv
       refine wpAnyH_ready (rs := [6]) (by kernel_rfl) (by simp) ?_
       refine AllReadyH.cons (o := ⟨some 27, _, _, _, _, _⟩) rfl (fun K hK => ?_) ?_
       ·go_simp; go_at_call 22; refine (refMul_g (HXA.out.below hk3) (lA5.below (Below.refl _ _)) (by omega) (by omega)).mono ?_; rintro e w4 ⟨A6, n6, c6, L6, rfl, M6, I6, bc4⟩; have hk4 := nextB hk3 bc4; go_wp2_with fail; refine hK.out _ _ (HCA.out _ hk4) (fun hHeld => ?_); clear hK K; try simp only [Act.put, List.setIfInBounds_toArray, List.set_cons_zero, List.set_cons_succ]
        refine wpAnyH_ready (rs := [11]) (by kernel_rfl) (by simp) ?_
        refine AllReadyH.cons (o := ⟨some 32, _, _, _, _, _⟩) rfl (fun K hK => ?_) ?_
        ·go_simp; go_at_call 22; refine (refMul_g (HYA.out.below hk4) (lA10.below (nextB (nextB bc2 bc3) bc4)) (by omega) (by omega)).mono ?_; rintro e w5 ⟨A11, n11, c11, L11, rfl, M11, I11, bc5⟩; have hk5 := nextB hk4 bc5; go_wp2_with fail; refine hK.out _ _ (HCA.out _ hk5) (fun hHeld => ?_); clear hK K; try simp only [Act.put, List.setIfInBounds_toArray, List.set_cons_zero, List.set_cons_succ]
         refine wpAnyH_take (i := 12) (oi := ⟨some 33, _, _, _, _, _⟩) (v := ?_) rfl (by kernel_rfl) (by kernel_rfl) (by kernel_rfl) (fun _ _ _ h => h) (Or.inl ⟨by rfl, ?_⟩) (by assumption) ?_
         rotate_left
         · intro w hSw
           (try dsimp only at hSw)
           go_simp
           try with_reducible rfl
         try simp only [Act.put, List.setIfInBounds_toArray, List.set_cons_zero, List.set_cons_succ]
         have lec : v.heap.size ≤ gc := by have y7 := HG.out; obtain ⟨y8, _⟩ := y7; have y9 := hk1.size; omega
         have ltc : gc < w5.heap.size := by have y7 := HG.out; obtain ⟨_, y8⟩ := y7; have y9 := ((nextB (nextB bc3 bc4) bc5) : Below w2.heap.size w2 w5).size; omega
         obtain ⟨X0, X1, X2⟩ := HC.out w5 (nextB (nextB bc3 bc4) bc5); obtain ⟨F0, F1, F2⟩ := HF.out w5 (nextB (nextB bc3 bc4) bc5)
         refine wpAnyH_ready (rs := [14]) (by kernel_rfl) (by simp) ?_; refine AllReadyH.cons (o := ⟨none, _, _, _, _, _⟩) rfl (fun K hK => ?_) AllReadyH.nil; go_simp; refine hK.out _ _ (kept3 (by have := HP.out; have := HPS.out; omega) (HCA.out _ hk5)) (fun hHeld => ?_); clear hK K; try simp only [Act.put, List.setIfInBounds_toArray, List.set_cons_zero, List.set_cons_succ]
         refine wpAnyH_done (by kernel_rfl) ?_ _; go_wp2_with fail; go_meet
         exact ⟨gc, rfl, A6, n6, c6, L6, A11, n11, c11, L11, Pair.made ⟨X0, X1, X2⟩ ⟨F0, F1, F2⟩ ((M6.more hk3.size).below bc5) ((M11.more hk4.size).below (Below.refl _ _)) (fun a ha e => by have y1 := (M6.lt a ha).1; have y2 := (bc3 : Below w2.heap.size w2 w3).size; have y3 := HG.out.2; omega) (fun a ha e => by have y1 := (M11.lt a ha).1; have y2 := ((nextB bc3 bc4) : Below w2.heap.size w2 w4).size; have y3 := HG.out.2; omega) (fun a b ha hb e => by have y1 := (M6.lt a ha).2; have y2 := (M11.lt b hb).1; have y3 := ((Below.refl _ _) : Below w4.heap.size w4 w4).size; omega) hk5 ltc lec, I6.eq, I11.eq,
           is_short I6 M6.len (pw_prod xa0 (by omega) HXL.out (show K < pw 1 from K1)), is_short I11 M11.len (pw_prod ya0 (by omega) HYL.out (show K < pw 1 from K1))⟩
        exact AllReadyH.nil
       exact AllReadyH.nil
      exact AllReadyH.nil
     exact AllReadyH.nil
    refine AllReadyH.cons (o := ⟨some 10, _, _, _, _, _⟩) rfl (fun K hK => ?_) ?_
    ·go_simp; refine hK.out _ _ (HCA.out _ (hk0.alloc hk0.size _)) (fun hHeld => ?_); clear hK K; try simp only [Act.put, List.setIfInBounds_toArray, List.set_cons_zero, List.set_cons_succ]
     obtain ⟨w1, hv⟩ : ∃ v, w0.alloc (.cells #[.bool false, .slice none 0 0, .slice none 0 0] 40) = v := ⟨_, rfl⟩; obtain ⟨gc, hg, hs, bc1, hc, hf⟩ := boxes0 w0 _ _ _ _ w1 hv; rw [hv] at hHeld ⊢; rw [← hg]; have HG := Lib.hid (And.intro hg hs); have HC := Lib.hid hc; have HF := Lib.hid hf; have hk1 := nextB hk0 bc1; clear hv hg hs hc hf
     refine wpAnyH_ready (rs := [5, 10]) (by kernel_rfl) (by simp) ?_
     refine AllReadyH.cons (o := ⟨some 26, _, _, _, _, _⟩) rfl (fun K hK => ?_) ?_
     ·go_simp; refine hK.out _ _ (HCA.out _ (hk1.alloc hk1.size _)) (fun hHeld => ?_); clear hK K; try simp only [Act.put, List.setIfInBounds_toArray, List.set_cons_zero, List.set_cons_succ]
      obtain ⟨w2, hv⟩ : ∃ v, w1.alloc (.cells #[.int .u32 K] 48) = v := ⟨_, rfl⟩
      have lA5 : Num w2 (some ⟨w1.heap.size, 0, none⟩) 1 1 K := by rw [← hv]; exact limb_at rfl (by omega) K1
      have bc2 : Below w1.heap.size w1 w2 := by rw [← hv]; exact (Below.refl _ _).alloc (Nat.le_refl _) _
      rw [hv] at hHeld ⊢; have hk2 := nextB hk1 bc2; clear hv
      refine wpAnyH_ready (rs := [6, 10]) (by kernel_rfl) (by simp) ?_
      refine AllReadyH.cons (o := ⟨some 27, _, _, _, _, _⟩) rfl (fun K hK => ?_) ?_
      ·go_simp; go_at_call 22; refine (refMul_g (HXA.out.below hk2) (lA5.below (Below.refl _ _)) (by omega) (by omega)).mono ?_; rintro e w3 ⟨A6, n6, c6, L6, rfl, M6, I6, bc3⟩; have hk3 := nextB hk2 bc3; go_wp2_with fail; refine hK.out _ _ (HCA.out _ hk3) (fun hHeld => ?_); clear hK K; try simp only [Act.put, List.setIfInBounds_toArray, List.set_cons_zero, List.set_cons_succ]
       refine wpAnyH_ready (rs := [10]) (by kernel_rfl) (by simp) ?_
       refine AllReadyH.cons (o := ⟨some 31, _, _, _, _, _⟩) rfl (fun K hK => ?_) ?_
       ·go_simp; refine hK.out _ _ (HCA.out _ (hk3.alloc hk3.size _)) (fun hHeld => ?_); clear hK K; try simp only [Act.put, List.setIfInBounds_toArray, List.set_cons_zero, List.set_cons_succ]
        obtain ⟨w4, hv⟩ : ∃ v, w3.alloc (.cells #[.int .u32 K] 48) = v := ⟨_, rfl⟩
        have lA10 : Num w4 (some ⟨w3.heap.size, 0, none⟩) 1 1 K := by rw [← hv]; exact limb_at rfl (by omega) K1
        have bc4 : Below w3.heap.size w3 w4 := by rw [← hv]; exact (Below.refl _ _).alloc (Nat.le_refl _) _
        rw [hv] at hHeld ⊢; have hk4 := nextB hk3 bc4; clear hv
        refine wpAnyH_ready (rs := [11]) (by kernel_rfl) (by simp) ?_
        refine AllReadyH.cons (o := ⟨some 32, _, _, _, _, _⟩) rfl (fun K hK => ?_) ?_
        ·go_simp; go_at_call 22; refine (refMul_g (HYA.out.below hk4) (lA10.below (Below.refl _ _)) (by omega) (by omega)).mono ?_; rintro e w5 ⟨A11, n11, c11, L11, rfl, M11, I11, bc5⟩; have hk5 := nextB hk4 bc5; go_wp2_with fail; refine hK.out _ _ (HCA.out _ hk5) (fun hHeld => ?_); clear hK K; try simp only [Act.put, List.setIfInBounds_toArray, List.set_cons_zero, List.set_cons_succ]
         refine wpAnyH_take (i := 12) (oi := ⟨some 33, _, _, _, _, _⟩) (v := ?_) rfl (by kernel_rfl) (by kernel_rfl) (by kernel_rfl) (fun _ _ _ h => h) (Or.inl ⟨by rfl, ?_⟩) (by assumption) ?_
         rotate_left
         · intro w hSw
           (try dsimp only at hSw)
           go_simp
           try with_reducible rfl
         try simp only [Act.put, List.setIfInBounds_toArray, List.set_cons_zero, List.set_cons_succ]
         have lec : v.heap.size ≤ gc := by have y7 := HG.out; obtain ⟨y8, _⟩ := y7; have y9 := hk0.size; omega
         have ltc : gc < w5.heap.size := by have y7 := HG.out; obtain ⟨_, y8⟩ := y7; have y9 := ((nextB (nextB (nextB bc2 bc3) bc4) bc5) : Below w1.heap.size w1 w5).size; omega
         obtain ⟨X0, X1, X2⟩ := HC.out w5 (nextB (nextB (nextB bc2 bc3) bc4) bc5); obtain ⟨F0, F1, F2⟩ := HF.out w5 (nextB (nextB (nextB bc2 bc3) bc4) bc5)
         refine wpAnyH_ready (rs := [14]) (by kernel_rfl) (by simp) ?_; refine AllReadyH.cons (o := ⟨none, _, _, _, _, _⟩) rfl (fun K hK => ?_) AllReadyH.nil; go_simp; refine hK.out _ _ (kept3 (by have := HP.out; have := HPS.out; omega) (HCA.out _ hk5)) (fun hHeld => ?_); clear hK K; try simp only [Act.put, List.setIfInBounds_toArray, List.set_cons_zero, List.set_cons_succ]
         refine wpAnyH_done (by kernel_rfl) ?_ _; go_wp2_with fail; go_meet
         exact ⟨gc, rfl, A6, n6, c6, L6, A11, n11, c11, L11, Pair.made ⟨X0, X1, X2⟩ ⟨F0, F1, F2⟩ ((M6.more hk2.size).below (nextB bc4 bc5)) ((M11.more hk4.size).below (Below.refl _ _)) (fun a ha e => by have y1 := (M6.lt a ha).1; have y2 := (bc2 : Below w1.heap.size w1 w2).size; have y3 := HG.out.2; omega) (fun a ha e => by have y1 := (M11.lt a ha).1; have y2 := ((nextB (nextB bc2 bc3) bc4) : Below w1.heap.size w1 w4).size; have y3 := HG.out.2; omega) (fun a b ha hb e => by have y1 := (M6.lt a ha).2; have y2 := (M11.lt b hb).1; have y3 := (bc4 : Below w3.heap.size w3 w4).size; omega) hk5 ltc lec, I6.eq, I11.eq,
           is_short I6 M6.len (pw_prod xa0 (by omega) HXL.out (show K < pw 1 from K1)), is_short I11 M11.len (pw_prod ya0 (by omega) HYL.out (show K < pw 1 from K1))⟩
        exact AllReadyH.nil
       exact AllReadyH.nil
      refine AllReadyH.cons (o := ⟨some 31, _, _, _, _, _⟩) rfl (fun K hK => ?_) ?_
      ·go_simp; refine hK.out _ _ (HCA.out _ (hk2.alloc hk2.size _)) (fun hHeld => ?_); clear hK K; try simp only [Act.put, List.setIfInBounds_toArray, List.set_cons_zero, List.set_cons_succ]
       obtain ⟨w3, hv⟩ : ∃ v, w2.alloc (.cells #[.int .u32 K] 48) = v := ⟨_, rfl⟩
       have lA10 : Num w3 (some ⟨w2.heap.size, 0, none⟩) 1 1 K := by rw [← hv]; exact limb_at rfl (by omega) K1
       have bc3 : Below w2.heap.size w2 w3 := by rw [← hv]; exact (Below.refl _ _).alloc (Nat.le_refl _) _
       rw [hv] at hHeld ⊢; have hk3 := nextB hk2 bc3; clear hv
       refine wpAnyH_ready (rs := [6]) (by kernel_rfl) (by simp) ?_
       refine AllReadyH.cons (o := ⟨some 27, _, _, _, _, _⟩) rfl (fun K hK => ?_) ?_
       ·go_simp; go_at_call 22; refine (refMul_g (HXA.out.below hk3) (lA5.below bc3) (by omega) (by omega)).mono ?_; rintro e w4 ⟨A6, n6, c6, L6, rfl, M6, I6, bc4⟩; have hk4 := nextB hk3 bc4; go_wp2_with fail; refine hK.out _ _ (HCA.out _ hk4) (fun hHeld => ?_); clear hK K; try simp only [Act.put, List.setIfInBounds_toArray, List.set_cons_zero, List.set_cons_succ]
        refine wpAnyH_ready (rs := [11]) (by kernel_rfl) (by simp) ?_
        refine AllReadyH.cons (o := ⟨some 32, _, _, _, _, _⟩) rfl (fun K hK => ?_) ?_
        ·go_simp; go_at_call 22; refine (refMul_g (HYA.out.below hk4) (lA10.below bc4) (by omega) (by omega)).mono ?_; rintro e w5 ⟨A11, n11, c11, L11, rfl, M11, I11, bc5⟩; have hk5 := nextB hk4 bc5; go_wp2_with fail; refine hK.out _ _ (HCA.out _ hk5) (fun hHeld => ?_); clear hK K; try simp only [Act.put, List.setIfInBounds_toArray, List.set_cons_zero, List.set_cons_succ]
         refine wpAnyH_take (i := 12) (oi := ⟨some 33, _, _, _, _, _⟩) (v := ?_) rfl (by kernel_rfl) (by kernel_rfl) (by kernel_rfl) (fun _ _ _ h => h) (Or.inl ⟨by rfl, ?_⟩) (by assumption) ?_
         rotate_left
         · intro w hSw
           (try dsimp only at hSw)
           go_simp
           try with_reducible rfl
         try simp only [Act.put, List.setIfInBounds_toArray, List.set_cons_zero, List.set_cons_succ]
         have lec : v.heap.size ≤ gc := by have y7 := HG.out; obtain ⟨y8, _⟩ := y7; have y9 := hk0.size; omega
         have ltc : gc < w5.heap.size := by have y7 := HG.out; obtain ⟨_, y8⟩ := y7; have y9 := ((nextB (nextB (nextB bc2 bc3) bc4) bc5) : Below w1.heap.size w1 w5).size; omega
         obtain ⟨X0, X1, X2⟩ := HC.out w5 (nextB (nextB (nextB bc2 bc3) bc4) bc5); obtain ⟨F0, F1, F2⟩ := HF.out w5 (nextB (nextB (nextB bc2 bc3) bc4) bc5)
         refine wpAnyH_ready (rs := [14]) (by kernel_rfl) (by simp) ?_; refine AllReadyH.cons (o := ⟨none, _, _, _, _, _⟩) rfl (fun K hK => ?_) AllReadyH.nil; go_simp; refine hK.out _ _ (kept3 (by have := HP.out; have := HPS.out; omega) (HCA.out _ hk5)) (fun hHeld => ?_); clear hK K; try simp only [Act.put, List.setIfInBounds_toArray, List.set_cons_zero, List.set_cons_succ]
         refine wpAnyH_done (by kernel_rfl) ?_ _; go_wp2_with fail; go_meet
         exact ⟨gc, rfl, A6, n6, c6, L6, A11, n11, c11, L11, Pair.made ⟨X0, X1, X2⟩ ⟨F0, F1, F2⟩ ((M6.more hk3.size).below bc5) ((M11.more hk4.size).below (Below.refl _ _)) (fun a ha e => by have y1 := (M6.lt a ha).1; have y2 := ((nextB bc2 bc3) : Below w1.heap.size w1 w3).size; have y3 := HG.out.2; omega) (fun a ha e => by have y1 := (M11.lt a ha).1; have y2 := ((nextB (nextB bc2 bc3) bc4) : Below w1.heap.size w1 w4).size; have y3 := HG.out.2; omega) (fun a b ha hb e => by have y1 := (M6.lt a ha).2; have y2 := (M11.lt b hb).1; have y3 := ((Below.refl _ _) : Below w4.heap.size w4 w4).size; omega) hk5 ltc lec, I6.eq, I11.eq,
           is_short I6 M6.len (pw_prod xa0 (by omega) HXL.out (show K < pw 1 from K1)), is_short I11 M11.len (pw_prod ya0 (by omega) HYL.out (show K < pw 1 from K1))⟩
        exact AllReadyH.nil
       exact AllReadyH.nil
      exact AllReadyH.nil
     refine AllReadyH.cons (o := ⟨some 31, _, _, _, _, _⟩) rfl (fun K hK => ?_) ?_
     ·go_simp; refine hK.out _ _ (HCA.out _ (hk1.alloc hk1.size _)) (fun hHeld => ?_); clear hK K; try simp only [Act.put, List.setIfInBounds_toArray, List.set_cons_zero, List.set_cons_succ]
      obtain ⟨w2, hv⟩ : ∃ v, w1.alloc (.cells #[.int .u32 K] 48) = v := ⟨_, rfl⟩
      have lA10 : Num w2 (some ⟨w1.heap.size, 0, none⟩) 1 1 K := by rw [← hv]; exact limb_at rfl (by omega) K1
      have bc2 : Below w1.heap.size w1 w2 := by rw [← hv]; exact (Below.refl _ _).alloc (Nat.le_refl _) _
      rw [hv] at hHeld ⊢; have hk2 := nextB hk1 bc2; clear hv
      refine wpAnyH_ready (rs := [5]) (by kernel_rfl) (by simp) ?_
      refine AllReadyH.cons (o := ⟨some 26, _, _, _, _, _⟩) rfl (fun K hK => ?_) ?_
      ·go_simp; refine hK.out _ _ (HCA.out _ (hk2.alloc hk2.size _)) (fun hHeld => ?_); clear hK K; try simp only [Act.put, List.setIfInBounds_toArray, List.set_cons_zero, List.set_cons_succ]
       obtain ⟨w3, hv⟩ : ∃ v, w2.alloc (.cells #[.int .u32 K] 48) = v := ⟨_, rfl⟩
       have lA5 : Num w3 (some ⟨w2.heap.size, 0, none⟩) 1 1 K := by rw [← hv]; exact limb_at rfl (by omega) K1
       have bc3 : Below w2.heap.size w2 w3 := by rw [← hv]; exact (Below.refl _ _).alloc (Nat.le_refl _) _
       rw [hv] at hHeld ⊢; have hk3 := nextB hk2 bc3; clear hv
       refine wpAnyH_ready (rs := [6]) (by kernel_rfl) (by simp) ?_
       refine AllReadyH.cons (o := ⟨some 27, _, _, _, _, _⟩) rfl (fun K hK => ?_) ?_
       ·go_simp; go_at_call 22; refine (refMul_g (HXA.out.below hk3) (lA5.below (Below.refl _ _)) (by omega) (by omega)).mono ?_; rintro e w4 ⟨A6, n6, c6, L6, rfl, M6, I6, bc4⟩; have hk4 := nextB hk3 bc4; go_wp2_with fail; refine hK.out _ _ (HCA.out _ hk4) (fun hHeld => ?_); clear hK K; try simp only [Act.put, List.setIfInBounds_toArray, List.set_cons_zero, List.set_cons_succ]
        refine wpAnyH_ready (rs := [11]) (by kernel_rfl) (by simp) ?_
        refine AllReadyH.cons (o := ⟨some 32, _, _, _, _, _⟩) rfl (fun K hK => ?_) ?_
        ·go_simp; go_at_call 22; refine (refMul_g (HYA.out.below hk4) (lA10.below (nextB bc3 bc4)) (by omega) (by omega)).mono ?_; rintro e w5 ⟨A11, n11, c11, L11, rfl, M11, I11, bc5⟩; have hk5 := nextB hk4 bc5; go_wp2_with fail; refine hK.out _ _ (HCA.out _ hk5) (fun hHeld => ?_); clear hK K; try simp only [Act.put, List.setIfInBounds_toArray, List.set_cons_zero, List.set_cons_succ]
         refine wpAnyH_take (i := 12) (oi := ⟨some 33, _, _, _, _, _⟩) (v := ?_) rfl (by kernel_rfl) (by kernel_rfl) (by kernel_rfl) (fun _ _ _ h => h) (Or.inl ⟨by rfl, ?_⟩) (by assumption) ?_
         rotate_left
         · intro w hSw
           (try dsimp only at hSw)
           go_simp
           try with_reducible rfl
         try simp only [Act.put, List.setIfInBounds_toArray, List.set_cons_zero, List.set_cons_succ]
         have lec : v.heap.size ≤ gc := by have y7 := HG.out; obtain ⟨y8, _⟩ := y7; have y9 := hk0.size; omega
         have ltc : gc < w5.heap.size := by have y7 := HG.out; obtain ⟨_, y8⟩ := y7; have y9 := ((nextB (nextB (nextB bc2 bc3) bc4) bc5) : Below w1.heap.size w1 w5).size; omega
         obtain ⟨X0, X1, X2⟩ := HC.out w5 (nextB (nextB (nextB bc2 bc3) bc4) bc5); obtain ⟨F0, F1, F2⟩ := HF.out w5 (nextB (nextB (nextB bc2 bc3) bc4) bc5)
         refine wpAnyH_ready (rs := [14]) (by kernel_rfl) (by simp) ?_; refine AllReadyH.cons (o := ⟨none, _, _, _, _, _⟩) rfl (fun K hK => ?_) AllReadyH.nil; go_simp; refine hK.out _ _ (kept3 (by have := HP.out; have := HPS.out; omega) (HCA.out _ hk5)) (fun hHeld => ?_); clear hK K; try simp only [Act.put, List.setIfInBounds_toArray, List.set_cons_zero, List.set_cons_succ]
         refine wpAnyH_done (by kernel_rfl) ?_ _; go_wp2_with fail; go_meet
         exact ⟨gc, rfl, A6, n6, c6, L6, A11, n11, c11, L11, Pair.made ⟨X0, X1, X2⟩ ⟨F0, F1, F2⟩ ((M6.more hk3.size).below bc5) ((M11.more hk4.size).below (Below.refl _ _)) (fun a ha e => by have y1 := (M6.lt a ha).1; have y2 := ((nextB bc2 bc3) : Below w1.heap.size w1 w3).size; have y3 := HG.out.2; omega) (fun a ha e => by have y1 := (M11.lt a ha).1; have y2 := ((nextB (nextB bc2 bc3) bc4) : Below w1.heap.size w1 w4).size; have y3 := HG.out.2; omega) (fun a b ha hb e => by have y1 := (M6.lt a ha).2; have y2 := (M11.lt b hb).1; have y3 := ((Below.refl _ _) : Below w4.heap.size w4 w4).size; omega) hk5 ltc lec, I6.eq, I11.eq,
           is_short I6 M6.len (pw_prod xa0 (by omega) HXL.out (show K < pw 1 from K1)), is_short I11 M11.len (pw_prod ya0 (by omega) HYL.out (show K < pw 1 from K1))⟩
        exact AllReadyH.nil
       exact AllReadyH.nil
      exact AllReadyH.nil
     exact AllReadyH.nil
    exact AllReadyH.nil
  case rest =>
    obtain ⟨gc, rfl, hden⟩ := hcut
    clear HXL HYL HXA HYA HPS xa0 ya0
    obtain ⟨i0, hi, hz0, hz1, hz2⟩ := info_parts info_limb
    go_wp2_with fail
    go_loopw [11] (fun iv wr => ∃ i : Int, iv = .int .i64 i ∧ (0 ≤ i ∧ i ≤ 2) ∧ DenC v sa (xa * K) (ya * K) (3 + i.toNat) gc wr) (fun iv _ => (3 - intOf iv).toNat)
    case atStart => exact ⟨0, rfl, ⟨by omega, by omega⟩, hden⟩
    case round =>
      obtain ⟨i, rfl, ⟨ii0, ii1⟩, hden⟩ := hrel
      by_cases hii : i < zz % 3
      · go_upto_block 1 with fail
        go_cut [10] from 41 to 50 (fun u10 wx => u10 = .pointer (some ⟨gc, 0, none⟩) ∧ DenC v sa (xa * K) (ya * K) (3 + (i + 1).toNat) gc wx)
        case first =>
          go_upto_region 8 with fail
          have hden := hden.later ((Below.refl _ _).drew)
          obtain ⟨A, n, c, L, B, m, d, M, P0, eL, eM, bn, bm⟩ := hden
          refine wp_region_held_drew (S := fun _ => True) (by kernel_rfl) trivial (fun hHeld => ?_)
          obtain ⟨w0, hw0⟩ : ∃ w0, w0 = wr.drew := ⟨_, rfl⟩
          rw [← hw0] at P0 ⊢
          clear hw0

          refine wpAnyH_take (i := 0) (oi := ⟨some 41, _, _, _, _, _⟩) (v := ?_) rfl (by kernel_rfl) (by kernel_rfl) (by kernel_rfl) (fun _ _ _ h => h) (Or.inl ⟨by rfl, ?_⟩) (by assumption) ?_
          rotate_left
          · intro w hSw
            (try dsimp only at hSw)
            go_simp
            try with_reducible rfl
          try simp only [Act.put, List.setIfInBounds_toArray, List.set_cons_zero, List.set_cons_succ]
          refine wpAnyH_take (i := 4) (oi := ⟨some 45, _, _, _, _, _⟩) (v := ?_) rfl (by kernel_rfl) (by kernel_rfl) (by kernel_rfl) (fun _ _ _ h => h) (Or.inl ⟨by rfl, ?_⟩) (by assumption) ?_
          rotate_left
          · intro w hSw
            (try dsimp only at hSw)
            go_simp
            try with_reducible rfl
          try simp only [Act.put, List.setIfInBounds_toArray, List.set_cons_zero, List.set_cons_succ]
          refine wpAnyH_ready (rs := [1, 2, 5, 6]) (by kernel_rfl) (by simp) ?_
          refine AllReadyH.cons (o := ⟨some 42, _, _, _, _, _⟩) rfl (fun K hK => ?_) ?_
          ·obtain ⟨X0, X1, X2⟩ := P0.x; go_simp; refine hK.out _ _ trivial (fun hHeld => ?_); clear hK K X0 X1 X2; try simp only [Act.put, List.setIfInBounds_toArray, List.set_cons_zero, List.set_cons_succ]
           have P1 := P0; obtain ⟨w1, hw⟩ : ∃ v, v = w0 := ⟨_, rfl⟩; rw [← hw] at P1 ⊢; clear hw
           refine wpAnyH_ready (rs := [2, 5, 6]) (by kernel_rfl) (by simp) ?_
           refine AllReadyH.cons (o := ⟨some 43, _, _, _, _, _⟩) rfl (fun K hK => ?_) ?_
           ·go_simp; refine hK.out _ _ trivial (fun hHeld => ?_); clear hK K; try simp only [Act.put, List.setIfInBounds_toArray, List.set_cons_zero, List.set_cons_succ]
            have t2_2 := Lit.new P1 48; obtain ⟨w2, hv⟩ : ∃ v, w1.alloc (.cells #[.int .u32 0] 48) = v := ⟨_, rfl⟩
            have bc : Below w1.heap.size w1 w2 := by rw [← hv]; exact (Below.refl _ _).alloc (Nat.le_refl _) _
            rw [hv] at t2_2 ⊢; have P2 := P1.later bc; clear hv bc
            refine wpAnyH_ready (rs := [3, 5, 6]) (by kernel_rfl) (by simp) ?_
            refine AllReadyH.cons (o := ⟨some 44, _, _, _, _, _⟩) rfl (fun K hK => ?_) ?_
            ·refine step_append_lies _ rfl _ _ 22 rfl v.heap.size 48 i0 (.int .u32 0) 1 4 Tryd.underlying22 hi hz0 hz1 hz2 rfl (by decide) (.slice A n c) n (cells L) rfl P2.ma.row ⟨_, 0, none⟩ 1 1 [.int .u32 0] rfl rfl t2_2.news (one_cell _ rfl) (by decide) (room_one (by omega)) (by omega) P2.hk.size _ rfl ?_; intro g3 c3 w3 hown hgrow hat hlt; refine hK.out _ _ trivial (fun hHeld => ?_)
             clear hK K; try simp only [Act.put, List.setIfInBounds_toArray, List.set_cons_zero, List.set_cons_succ]
             have P3 := P2.growA hown hgrow hat
             clear hown hgrow hat hlt
             refine wpAnyH_ready (rs := [5, 6]) (by kernel_rfl) (by simp) ?_
             refine AllReadyH.cons (o := ⟨some 46, _, _, _, _, _⟩) rfl (fun K hK => ?_) ?_
             ·obtain ⟨X0, X1, X2⟩ := P3.x; go_simp; refine hK.out _ _ trivial (fun hHeld => ?_); clear hK K X0 X1 X2; try simp only [Act.put, List.setIfInBounds_toArray, List.set_cons_zero, List.set_cons_succ]
              have P4 := P3; obtain ⟨w4, hw⟩ : ∃ v, v = w3 := ⟨_, rfl⟩; rw [← hw] at P4 ⊢; clear hw
              refine wpAnyH_take (i := 8) (oi := ⟨some 49, _, _, _, _, _⟩) (v := ?_) rfl (by kernel_rfl) (by kernel_rfl) (by kernel_rfl) (fun _ _ _ h => h) (Or.inl ⟨by rfl, ?_⟩) (by assumption) ?_
              rotate_left
              · intro w hSw
                (try dsimp only at hSw)
                go_simp
                try with_reducible rfl
              try simp only [Act.put, List.setIfInBounds_toArray, List.set_cons_zero, List.set_cons_succ]
              refine wpAnyH_ready (rs := [6]) (by kernel_rfl) (by simp) ?_
              refine AllReadyH.cons (o := ⟨some 47, _, _, _, _, _⟩) rfl (fun K hK => ?_) ?_
              ·go_simp; refine hK.out _ _ trivial (fun hHeld => ?_); clear hK K; try simp only [Act.put, List.setIfInBounds_toArray, List.set_cons_zero, List.set_cons_succ]
               have t6_5 := Lit.new P4 48; obtain ⟨w5, hv⟩ : ∃ v, w4.alloc (.cells #[.int .u32 0] 48) = v := ⟨_, rfl⟩
               have bc : Below w4.heap.size w4 w5 := by rw [← hv]; exact (Below.refl _ _).alloc (Nat.le_refl _) _
               rw [hv] at t6_5 ⊢; have P5 := P4.later bc; clear hv bc
               refine wpAnyH_ready (rs := [7]) (by kernel_rfl) (by simp) ?_
               refine AllReadyH.cons (o := ⟨some 48, _, _, _, _, _⟩) rfl (fun K hK => ?_) ?_
               ·refine step_append_lies _ rfl _ _ 22 rfl v.heap.size 48 i0 (.int .u32 0) 1 4 Tryd.underlying22 hi hz0 hz1 hz2 rfl (by decide) (.slice B m d) m (cells M) rfl P5.mb.row ⟨_, 0, none⟩ 1 1 [.int .u32 0] rfl rfl t6_5.news (one_cell _ rfl) (by decide) (room_one (by omega)) (by omega) P5.hk.size _ rfl ?_; intro g7 c7 w6 hown hgrow hat hlt; refine hK.out _ _ trivial (fun hHeld => ?_)
                clear hK K; try simp only [Act.put, List.setIfInBounds_toArray, List.set_cons_zero, List.set_cons_succ]
                have P6 := P5.growB hown hgrow hat
                clear hown hgrow hat hlt
                obtain ⟨X0, X1, X2⟩ := P6.x; obtain ⟨F0, F1, F2⟩ := P6.f
                refine wpAnyH_ready (rs := [9]) (by kernel_rfl) (by simp) ?_; refine AllReadyH.cons (o := ⟨none, _, _, _, _, _⟩) rfl (fun K hK => ?_) AllReadyH.nil; go_simp; refine hK.out _ _ trivial (fun hHeld => ?_); clear hK K; try simp only [Act.put, List.setIfInBounds_toArray, List.set_cons_zero, List.set_cons_succ]
                refine wpAnyH_take (i := 10) (oi := ⟨some 50, _, _, _, _, _⟩) (v := ?_) rfl (by kernel_rfl) (by kernel_rfl) (by kernel_rfl) (fun _ _ _ h => h) (Or.inl ⟨by rfl, ?_⟩) (by assumption) ?_
                rotate_left
                · intro w hSw
                  (try dsimp only at hSw)
                  go_simp
                  try with_reducible rfl
                try simp only [Act.put, List.setIfInBounds_toArray, List.set_cons_zero, List.set_cons_succ]
                refine wpAnyH_ready (rs := [11]) (by kernel_rfl) (by simp) ?_; refine AllReadyH.cons (o := ⟨none, _, _, _, _, _⟩) rfl (fun K hK => ?_) AllReadyH.nil; go_simp; refine hK.out _ _ trivial (fun hHeld => ?_); clear hK K; try simp only [Act.put, List.setIfInBounds_toArray, List.set_cons_zero, List.set_cons_succ]
                refine wpAnyH_done (by kernel_rfl) ?_ _; go_wp2_with fail; go_meet
                exact ⟨rfl, _, _, _, _, _, _, _, _, P6.stored, (val_zero1 _).trans eL, (val_zero1 _).trans eM, by omega, by omega⟩
               exact AllReadyH.nil
              exact AllReadyH.nil
             refine AllReadyH.cons (o := ⟨some 47, _, _, _, _, _⟩) rfl (fun K hK => ?_) ?_
             ·go_simp; refine hK.out _ _ trivial (fun hHeld => ?_); clear hK K; try simp only [Act.put, List.setIfInBounds_toArray, List.set_cons_zero, List.set_cons_succ]
              have t6_4 := Lit.new P3 48; obtain ⟨w4, hv⟩ : ∃ v, w3.alloc (.cells #[.int .u32 0] 48) = v := ⟨_, rfl⟩
              have bc : Below w3.heap.size w3 w4 := by rw [← hv]; exact (Below.refl _ _).alloc (Nat.le_refl _) _
              rw [hv] at t6_4 ⊢; have P4 := P3.later bc; clear hv bc
              refine wpAnyH_ready (rs := [5]) (by kernel_rfl) (by simp) ?_
              refine AllReadyH.cons (o := ⟨some 46, _, _, _, _, _⟩) rfl (fun K hK => ?_) ?_
              ·obtain ⟨X0, X1, X2⟩ := P4.x; go_simp; refine hK.out _ _ trivial (fun hHeld => ?_); clear hK K X0 X1 X2; try simp only [Act.put, List.setIfInBounds_toArray, List.set_cons_zero, List.set_cons_succ]
               have P5 := P4; have t6_5 := t6_4; obtain ⟨w5, hw⟩ : ∃ v, v = w4 := ⟨_, rfl⟩; rw [← hw] at P5 ⊢; rw [← hw] at t6_5; clear hw
               refine wpAnyH_take (i := 8) (oi := ⟨some 49, _, _, _, _, _⟩) (v := ?_) rfl (by kernel_rfl) (by kernel_rfl) (by kernel_rfl) (fun _ _ _ h => h) (Or.inl ⟨by rfl, ?_⟩) (by assumption) ?_
               rotate_left
               · intro w hSw
                 (try dsimp only at hSw)
                 go_simp
                 try with_reducible rfl
               try simp only [Act.put, List.setIfInBounds_toArray, List.set_cons_zero, List.set_cons_succ]
               refine wpAnyH_ready (rs := [7]) (by kernel_rfl) (by simp) ?_
               refine AllReadyH.cons (o := ⟨some 48, _, _, _, _, _⟩) rfl (fun K hK => ?_) ?_
               ·refine step_append_lies _ rfl _ _ 22 rfl v.heap.size 48 i0 (.int .u32 0) 1 4 Tryd.underlying22 hi hz0 hz1 hz2 rfl (by decide) (.slice B m d) m (cells M) rfl P5.mb.row ⟨_, 0, none⟩ 1 1 [.int .u32 0] rfl rfl t6_5.news (one_cell _ rfl) (by decide) (room_one (by omega)) (by omega) P5.hk.size _ rfl ?_; intro g7 c7 w6 hown hgrow hat hlt; refine hK.out _ _ trivial (fun hHeld => ?_)
                clear hK K; try simp only [Act.put, List.setIfInBounds_toArray, List.set_cons_zero, List.set_cons_succ]
                have P6 := P5.growB hown hgrow hat
                clear hown hgrow hat hlt
                obtain ⟨X0, X1, X2⟩ := P6.x; obtain ⟨F0, F1, F2⟩ := P6.f
                refine wpAnyH_ready (rs := [9]) (by kernel_rfl) (by simp) ?_; refine AllReadyH.cons (o := ⟨none, _, _, _, _, _⟩) rfl (fun K hK => ?_) AllReadyH.nil; go_simp; refine hK.out _ _ trivial (fun hHeld => ?_); clear hK K; try simp only [Act.put, List.setIfInBounds_toArray, List.set_cons_zero, List.set_cons_succ]
                refine wpAnyH_take (i := 10) (oi := ⟨some 50, _, _, _, _, _⟩) (v := ?_) rfl (by kernel_rfl) (by kernel_rfl) (by kernel_rfl) (fun _ _ _ h => h) (Or.inl ⟨by rfl, ?_⟩) (by assumption) ?_
                rotate_left
                · intro w hSw
                  (try dsimp only at hSw)
                  go_simp
                  try with_reducible rfl
                try simp only [Act.put, List.setIfInBounds_toArray, List.set_cons_zero, List.set_cons_succ]
                refine wpAnyH_ready (rs := [11]) (by kernel_rfl) (by simp) ?_; refine AllReadyH.cons (o := ⟨none, _, _, _, _, _⟩) rfl (fun K hK => ?_) AllReadyH.nil; go_simp; refine hK.out _ _ trivial (fun hHeld => ?_); clear hK K; try simp only [Act.put, List.setIfInBounds_toArray, List.set_cons_zero, List.set_cons_succ]
                refine wpAnyH_done (by kernel_rfl) ?_ _; go_wp2_with fail; go_meet
                exact ⟨rfl, _, _, _, _, _, _, _, _, P6.stored, (val_zero1 _).trans eL, (val_zero1 _).trans eM, by omega, by omega⟩
               exact AllReadyH.nil
              exact AllReadyH.nil
             exact AllReadyH.nil
            refine AllReadyH.cons (o := ⟨some 46, _, _, _, _, _⟩) rfl (fun K hK => ?_) ?_
            ·obtain ⟨X0, X1, X2⟩ := P2.x; go_simp; refine hK.out _ _ trivial (fun hHeld => ?_); clear hK K X0 X1 X2; try simp only [Act.put, List.setIfInBounds_toArray, List.set_cons_zero, List.set_cons_succ]
             have P3 := P2; have t2_3 := t2_2; obtain ⟨w3, hw⟩ : ∃ v, v = w2 := ⟨_, rfl⟩; rw [← hw] at P3 ⊢; rw [← hw] at t2_3; clear hw
             refine wpAnyH_ready (rs := [3, 6]) (by kernel_rfl) (by simp) ?_
             refine AllReadyH.cons (o := ⟨some 44, _, _, _, _, _⟩) rfl (fun K hK => ?_) ?_
             ·refine step_append_lies _ rfl _ _ 22 rfl v.heap.size 48 i0 (.int .u32 0) 1 4 Tryd.underlying22 hi hz0 hz1 hz2 rfl (by decide) (.slice A n c) n (cells L) rfl P3.ma.row ⟨_, 0, none⟩ 1 1 [.int .u32 0] rfl rfl t2_3.news (one_cell _ rfl) (by decide) (room_one (by omega)) (by omega) P3.hk.size _ rfl ?_; intro g3 c3 w4 hown hgrow hat hlt; refine hK.out _ _ trivial (fun hHeld => ?_)
              clear hK K; try simp only [Act.put, List.setIfInBounds_toArray, List.set_cons_zero, List.set_cons_succ]
              have P4 := P3.growA hown hgrow hat
              clear hown hgrow hat hlt
              refine wpAnyH_take (i := 8) (oi := ⟨some 49, _, _, _, _, _⟩) (v := ?_) rfl (by kernel_rfl) (by kernel_rfl) (by kernel_rfl) (fun _ _ _ h => h) (Or.inl ⟨by rfl, ?_⟩) (by assumption) ?_
              rotate_left
              · intro w hSw
                (try dsimp only at hSw)
                go_simp
                try with_reducible rfl
              try simp only [Act.put, List.setIfInBounds_toArray, List.set_cons_zero, List.set_cons_succ]
              refine wpAnyH_ready (rs := [6]) (by kernel_rfl) (by simp) ?_
              refine AllReadyH.cons (o := ⟨some 47, _, _, _, _, _⟩) rfl (fun K hK => ?_) ?_
              ·go_simp; refine hK.out _ _ trivial (fun hHeld => ?_); clear hK K; try simp only [Act.put, List.setIfInBounds_toArray, List.set_cons_zero, List.set_cons_succ]
               have t6_5 := Lit.new P4 48; obtain ⟨w5, hv⟩ : ∃ v, w4.alloc (.cells #[.int .u32 0] 48) = v := ⟨_, rfl⟩
               have bc : Below w4.heap.size w4 w5 := by rw [← hv]; exact (Below.refl _ _).alloc (Nat.le_refl _) _
               rw [hv] at t6_5 ⊢; have P5 := P4.later bc; clear hv bc
               refine wpAnyH_ready (rs := [7]) (by kernel_rfl) (by simp) ?_
               refine AllReadyH.cons (o := ⟨some 48, _, _, _, _, _⟩) rfl (fun K hK => ?_) ?_
               ·refine step_append_lies _ rfl _ _ 22 rfl v.heap.size 48 i0 (.int .u32 0) 1 4 Tryd.underlying22 hi hz0 hz1 hz2 rfl (by decide) (.slice B m d) m (cells M) rfl P5.mb.row ⟨_, 0, none⟩ 1 1 [.int .u32 0] rfl rfl t6_5.news (one_cell _ rfl) (by decide) (room_one (by omega)) (by omega) P5.hk.size _ rfl ?_; intro g7 c7 w6 hown hgrow hat hlt; refine hK.out _ _ trivial (fun hHeld => ?_)
                clear hK K; try simp only [Act.put, List.setIfInBounds_toArray, List.set_cons_zero, List.set_cons_succ]
                have P6 := P5.growB hown hgrow hat
                clear hown hgrow hat hlt
                obtain ⟨X0, X1, X2⟩ := P6.x; obtain ⟨F0, F1, F2⟩ := P6.f
                refine wpAnyH_ready (rs := [9]) (by kernel_rfl) (by simp) ?_; refine AllReadyH.cons (o := ⟨none, _, _, _, _, _⟩) rfl (fun K hK => ?_) AllReadyH.nil; go_simp; refine hK.out _ _ trivial (fun hHeld => ?_); clear hK K; try simp only [Act.put, List.setIfInBounds_toArray, List.set_cons_zero, List.set_cons_succ]
                refine wpAnyH_take (i := 10) (oi := ⟨some 50, _, _, _, _, _⟩) (v := ?_) rfl (by kernel_rfl) (by kernel_rfl) (by kernel_rfl) (fun _ _ _ h => h) (Or.inl ⟨by rfl, ?_⟩) (by assumption) ?_
                rotate_left
                · intro w hSw
                  (try dsimp only at hSw)
                  go_simp
                  try with_reducible rfl
                try simp only [Act.put, List.setIfInBounds_toArray, List.set_cons_zero, List.set_cons_succ]
                refine wpAnyH_ready (rs := [11]) (by kernel_rfl) (by simp) ?_; refine AllReadyH.cons (o := ⟨none, _, _, _, _, _⟩) rfl (fun K hK => ?_) AllReadyH.nil; go_simp; refine hK.out _ _ trivial (fun hHeld => ?_); clear hK K; try simp only [Act.put, List.setIfInBounds_toArray, List.set_cons_zero, List.set_cons_succ]
                refine wpAnyH_done (by kernel_rfl) ?_ _; go_wp2_with fail; go_meet
                exact ⟨rfl, _, _, _, _, _, _, _, _, P6.stored, (val_zero1 _).trans eL, (val_zero1 _).trans eM, by omega, by omega⟩
               exact AllReadyH.nil
              exact AllReadyH.nil
             refine AllReadyH.cons (o := ⟨some 47, _, _, _, _, _⟩) rfl (fun K hK => ?_) ?_
             ·go_simp; refine hK.out _ _ trivial (fun hHeld => ?_); clear hK K; try simp only [Act.put, List.setIfInBounds_toArray, List.set_cons_zero, List.set_cons_succ]
              have t6_4 := Lit.new P3 48; obtain ⟨w4, hv⟩ : ∃ v, w3.alloc (.cells #[.int .u32 0] 48) = v := ⟨_, rfl⟩
              have bc : Below w3.heap.size w3 w4 := by rw [← hv]; exact (Below.refl _ _).alloc (Nat.le_refl _) _
              rw [hv] at t6_4 ⊢; have P4 := P3.later bc; have t2_4 := t2_3.later bc; clear hv bc
              refine wpAnyH_ready (rs := [3]) (by kernel_rfl) (by simp) ?_
              refine AllReadyH.cons (o := ⟨some 44, _, _, _, _, _⟩) rfl (fun K hK => ?_) ?_
              ·refine step_append_lies _ rfl _ _ 22 rfl v.heap.size 48 i0 (.int .u32 0) 1 4 Tryd.underlying22 hi hz0 hz1 hz2 rfl (by decide) (.slice A n c) n (cells L) rfl P4.ma.row ⟨_, 0, none⟩ 1 1 [.int .u32 0] rfl rfl t2_4.news (one_cell _ rfl) (by decide) (room_one (by omega)) (by omega) P4.hk.size _ rfl ?_; intro g3 c3 w5 hown hgrow hat hlt; refine hK.out _ _ trivial (fun hHeld => ?_)
               clear hK K; try simp only [Act.put, List.setIfInBounds_toArray, List.set_cons_zero, List.set_cons_succ]
               have P5 := P4.growA hown hgrow hat
               have t6_5 := t6_4.growA hgrow hat
               clear hown hgrow hat hlt
               refine wpAnyH_take (i := 8) (oi := ⟨some 49, _, _, _, _, _⟩) (v := ?_) rfl (by kernel_rfl) (by kernel_rfl) (by kernel_rfl) (fun _ _ _ h => h) (Or.inl ⟨by rfl, ?_⟩) (by assumption) ?_
               rotate_left
               · intro w hSw
                 (try dsimp only at hSw)
                 go_simp
                 try with_reducible rfl
               try simp only [Act.put, List.setIfInBounds_toArray, List.set_cons_zero, List.set_cons_succ]
               refine wpAnyH_ready (rs := [7]) (by kernel_rfl) (by simp) ?_
               refine AllReadyH.cons (o := ⟨some 48, _, _, _, _, _⟩) rfl (fun K hK => ?_) ?_
               ·refine step_append_lies _ rfl _ _ 22 rfl v.heap.size 48 i0 (.int .u32 0) 1 4 Tryd.underlying22 hi hz0 hz1 hz2 rfl (by decide) (.slice B m d) m (cells M) rfl P5.mb.row ⟨_, 0, none⟩ 1 1 [.int .u32 0] rfl rfl t6_5.news (one_cell _ rfl) (by decide) (room_one (by omega)) (by omega) P5.hk.size _ rfl ?_; intro g7 c7 w6 hown hgrow hat hlt; refine hK.out _ _ trivial (fun hHeld => ?_)
                clear hK K; try simp only [Act.put, List.setIfInBounds_toArray, List.set_cons_zero, List.set_cons_succ]
                have P6 := P5.growB hown hgrow hat
                clear hown hgrow hat hlt
                obtain ⟨X0, X1, X2⟩ := P6.x; obtain ⟨F0, F1, F2⟩ := P6.f
                refine wpAnyH_ready (rs := [9]) (by kernel_rfl) (by simp) ?_; refine AllReadyH.cons (o := ⟨none, _, _, _, _, _⟩) rfl (fun K hK => ?_) AllReadyH.nil; go_simp; refine hK.out _ _ trivial (fun hHeld => ?_); clear hK K; try simp only [Act.put, List.setIfInBounds_toArray, List.set_cons_zero, List.set_cons_succ]
                refine wpAnyH_take (i := 10) (oi := ⟨some 50, _, _, _, _, _⟩) (v := ?_) rfl (by kernel_rfl) (by kernel_rfl) (by kernel_rfl) (fun _ _ _ h => h) (Or.inl ⟨by rfl, ?_⟩) (by assumption) ?_
                rotate_left
                · intro w hSw
                  (try dsimp only at hSw)
                  go_simp
                  try with_reducible rfl
                try simp only [Act.put, List.setIfInBounds_toArray, List.set_cons_zero, List.set_cons_succ]
                refine wpAnyH_ready (rs := [11]) (by kernel_rfl) (by simp) ?_; refine AllReadyH.cons (o := ⟨none, _, _, _, _, _⟩) rfl (fun K hK => ?_) AllReadyH.nil; go_simp; refine hK.out _ _ trivial (fun hHeld => ?_); clear hK K; try simp only [Act.put, List.setIfInBounds_toArray, List.set_cons_zero, List.set_cons_succ]
                refine wpAnyH_done (by kernel_rfl) ?_ _; go_wp2_with fail; go_meet
                exact ⟨rfl, _, _, _, _, _, _, _, _, P6.stored, (val_zero1 _).trans eL, (val_zero1 _).trans eM, by omega, by omega⟩
               exact AllReadyH.nil
              exact AllReadyH.nil
             exact AllReadyH.nil
            refine AllReadyH.cons (o := ⟨some 47, _, _, _, _, _⟩) rfl (fun K hK => ?_) ?_
            ·go_simp; refine hK.out _ _ trivial (fun hHeld => ?_); clear hK K; try simp only [Act.put, List.setIfInBounds_toArray, List.set_cons_zero, List.set_cons_succ]
             have t6_3 := Lit.new P2 48; obtain ⟨w3, hv⟩ : ∃ v, w2.alloc (.cells #[.int .u32 0] 48) = v := ⟨_, rfl⟩
             have bc : Below w2.heap.size w2 w3 := by rw [← hv]; exact (Below.refl _ _).alloc (Nat.le_refl _) _
             rw [hv] at t6_3 ⊢; have P3 := P2.later bc; have t2_3 := t2_2.later bc; clear hv bc
             refine wpAnyH_ready (rs := [3, 5]) (by kernel_rfl) (by simp) ?_
             refine AllReadyH.cons (o := ⟨some 44, _, _, _, _, _⟩) rfl (fun K hK => ?_) ?_
             ·refine step_append_lies _ rfl _ _ 22 rfl v.heap.size 48 i0 (.int .u32 0) 1 4 Tryd.underlying22 hi hz0 hz1 hz2 rfl (by decide) (.slice A n c) n (cells L) rfl P3.ma.row ⟨_, 0, none⟩ 1 1 [.int .u32 0] rfl rfl t2_3.news (one_cell _ rfl) (by decide) (room_one (by omega)) (by omega) P3.hk.size _ rfl ?_; intro g3 c3 w4 hown hgrow hat hlt; refine hK.out _ _ trivial (fun hHeld => ?_)
              clear hK K; try simp only [Act.put, List.setIfInBounds_toArray, List.set_cons_zero, List.set_cons_succ]
              have P4 := P3.growA hown hgrow hat
              have t6_4 := t6_3.growA hgrow hat
              clear hown hgrow hat hlt
              refine wpAnyH_ready (rs := [5]) (by kernel_rfl) (by simp) ?_
              refine AllReadyH.cons (o := ⟨some 46, _, _, _, _, _⟩) rfl (fun K hK => ?_) ?_
              ·obtain ⟨X0, X1, X2⟩ := P4.x; go_simp; refine hK.out _ _ trivial (fun hHeld => ?_); clear hK K X0 X1 X2; try simp only [Act.put, List.setIfInBounds_toArray, List.set_cons_zero, List.set_cons_succ]
               have P5 := P4; have t6_5 := t6_4; obtain ⟨w5, hw⟩ : ∃ v, v = w4 := ⟨_, rfl⟩; rw [← hw] at P5 ⊢; rw [← hw] at t6_5; clear hw
               refine wpAnyH_take (i := 8) (oi := ⟨some 49, _, _, _, _, _⟩) (v := ?_) rfl (by kernel_rfl) (by kernel_rfl) (by kernel_rfl) (fun _ _ _ h => h) (Or.inl ⟨by rfl, ?_⟩) (by assumption) ?_
               rotate_left
               · intro w hSw
                 (try dsimp only at hSw)
                 go_simp
                 try with_reducible rfl
               try simp only [Act.put, List.setIfInBounds_toArray, List.set_cons_zero, List.set_cons_succ]
               refine wpAnyH_ready (rs := [7]) (by kernel_rfl) (by simp) ?_
               refine AllReadyH.cons (o := ⟨some 48, _, _, _, _, _⟩) rfl (fun K hK => ?_) ?_
               ·refine step_append_lies _ rfl _ _ 22 rfl v.heap.size 48 i0 (.int .u32 0) 1 4 Tryd.underlying22 hi hz0 hz1 hz2 rfl (by decide) (.slice B m d) m (cells M) rfl P5.mb.row ⟨_, 0, none⟩ 1 1 [.int .u32 0] rfl rfl t6_5.news (one_cell _ rfl) (by decide) (room_one (by omega)) (by omega) P5.hk.size _ rfl ?_; intro g7 c7 w6 hown hgrow hat hlt; refine hK.out _ _ trivial (fun hHeld => ?_)
                clear hK K; try simp only [Act.put, List.setIfInBounds_toArray, List.set_cons_zero, List.set_cons_succ]
                have P6 := P5.growB hown hgrow hat
                clear hown hgrow hat hlt
                obtain ⟨X0, X1, X2⟩ := P6.x; obtain ⟨F0, F1, F2⟩ := P6.f
                refine wpAnyH_ready (rs := [9]) (by kernel_rfl) (by simp) ?_; refine AllReadyH.cons (o := ⟨none, _, _, _, _, _⟩) rfl (fun K hK => ?_) AllReadyH.nil; go_simp; refine hK.out _ _ trivial (fun hHeld => ?_); clear hK K; try simp only [Act.put, List.setIfInBounds_toArray, List.set_cons_zero, List.set_cons_succ]
                refine wpAnyH_take (i := 10) (oi := ⟨some 50, _, _, _, _, _⟩) (v := ?_) rfl (by kernel_rfl) (by kernel_rfl) (by kernel_rfl) (fun _ _ _ h => h) (Or.inl ⟨by rfl, ?_⟩) (by assumption) ?_
                rotate_left
                · intro w hSw
                  (try dsimp only at hSw)
                  go_simp
                  try with_reducible rfl
                try simp only [Act.put, List.setIfInBounds_toArray, List.set_cons_zero, List.set_cons_succ]
                refine wpAnyH_ready (rs := [11]) (by kernel_rfl) (by simp) ?_; refine AllReadyH.cons (o := ⟨none, _, _, _, _, _⟩) rfl (fun K hK => ?_) AllReadyH.nil; go_simp; refine hK.out _ _ trivial (fun hHeld => ?_); clear hK K; try simp only [Act.put, List.setIfInBounds_toArray, List.set_cons_zero, List.set_cons_succ]
                refine wpAnyH_done (by kernel_rfl) ?_ _; go_wp2_with fail; go_meet
                exact ⟨rfl, _, _, _, _, _, _, _, _, P6.stored, (val_zero1 _).trans eL, (val_zero1 _).trans eM, by omega, by omega⟩
               exact AllReadyH.nil
              exact AllReadyH.nil
             refine AllReadyH.cons (o := ⟨some 46, _, _, _, _, _⟩) rfl (fun K hK => ?_) ?_
             ·obtain ⟨X0, X1, X2⟩ := P3.x; go_simp; refine hK.out _ _ trivial (fun hHeld => ?_); clear hK K X0 X1 X2; try simp only [Act.put, List.setIfInBounds_toArray, List.set_cons_zero, List.set_cons_succ]
              have P4 := P3; have t2_4 := t2_3; have t6_4 := t6_3; obtain ⟨w4, hw⟩ : ∃ v, v = w3 := ⟨_, rfl⟩; rw [← hw] at P4 ⊢; rw [← hw] at t2_4; rw [← hw] at t6_4; clear hw
              refine wpAnyH_ready (rs := [3]) (by kernel_rfl) (by simp) ?_
              refine AllReadyH.cons (o := ⟨some 44, _, _, _, _, _⟩) rfl (fun K hK => ?_) ?_
              ·refine step_append_lies _ rfl _ _ 22 rfl v.heap.size 48 i0 (.int .u32 0) 1 4 Tryd.underlying22 hi hz0 hz1 hz2 rfl (by decide) (.slice A n c) n (cells L) rfl P4.ma.row ⟨_, 0, none⟩ 1 1 [.int .u32 0] rfl rfl t2_4.news (one_cell _ rfl) (by decide) (room_one (by omega)) (by omega) P4.hk.size _ rfl ?_; intro g3 c3 w5 hown hgrow hat hlt; refine hK.out _ _ trivial (fun hHeld => ?_)
               clear hK K; try simp only [Act.put, List.setIfInBounds_toArray, List.set_cons_zero, List.set_cons_succ]
               have P5 := P4.growA hown hgrow hat
               have t6_5 := t6_4.growA hgrow hat
               clear hown hgrow hat hlt
               refine wpAnyH_take (i := 8) (oi := ⟨some 49, _, _, _, _, _⟩) (v := ?_) rfl (by kernel_rfl) (by kernel_rfl) (by kernel_rfl) (fun _ _ _ h => h) (Or.inl ⟨by rfl, ?_⟩) (by assumption) ?_
               rotate_left
               · intro w hSw
                 (try dsimp only at hSw)
                 go_simp
                 try with_reducible rfl
               try simp only [Act.put, List.setIfInBounds_toArray, List.set_cons_zero, List.set_cons_succ]
               refine wpAnyH_ready (rs := [7]) (by kernel_rfl) (by simp) ?_
               refine AllReadyH.cons (o := ⟨some 48, _, _, _, _, _⟩) rfl (fun K hK => ?_) ?_
               ·refine step_append_lies _ rfl _ _ 22 rfl v.heap.size 48 i0 (.int .u32 0) 1 4 Tryd.underlying22 hi hz0 hz1 hz2 rfl (by decide) (.slice B m d) m (cells M) rfl P5.mb.row ⟨_, 0, none⟩ 1 1 [.int .u32 0] rfl rfl t6_5.news (one_cell _ rfl) (by decide) (room_one (by omega)) (by omega) P5.hk.size _ rfl ?_; intro g7 c7 w6 hown hgrow hat hlt; refine hK.out _ _ trivial (fun hHeld => ?_)
                clear hK K; try simp only [Act.put, List.setIfInBounds_toArray, List.set_cons_zero, List.set_cons_succ]
                have P6 := P5.growB hown hgrow hat
                clear hown hgrow hat hlt
                obtain ⟨X0, X1, X2⟩ := P6.x; obtain ⟨F0, F1, F2⟩ := P6.f
                refine wpAnyH_ready (rs := [9]) (by kernel_rfl) (by simp) ?_; refine AllReadyH.cons (o := ⟨none, _, _, _, _, _⟩) rfl (fun K hK => ?_) AllReadyH.nil; go_simp; refine hK.out _ _ trivial (fun hHeld => ?_); clear hK K; try simp only [Act.put, List.setIfInBounds_toArray, List.set_cons_zero, List.set_cons_succ]
                refine wpAnyH_take (i := 10) (oi := ⟨some 50, _, _, _, _, _⟩) (v := ?_) rfl (by kernel_rfl) (by kernel_rfl) (by kernel_rfl) (fun _ _ _ h => h) (Or.inl ⟨by rfl, ?_⟩) (by assumption) ?_
                rotate_left
                · intro w hSw
                  (try dsimp only at hSw)
                  go_simp
                  try with_reducible rfl
                try simp only [Act.put, List.setIfInBounds_toArray, List.set_cons_zero, List.set_cons_succ]
                refine wpAnyH_ready (rs := [11]) (by kernel_rfl) (by simp) ?_; refine AllReadyH.cons (o := ⟨none, _, _, _, _, _⟩) rfl (fun K hK => ?_) AllReadyH.nil; go_simp; refine hK.out _ _ trivial (fun hHeld => ?_); clear hK K; try simp only [Act.put, List.setIfInBounds_toArray, List.set_cons_zero, List.set_cons_succ]
                refine wpAnyH_done (by kernel_rfl) ?_ _; go_wp2_with fail; go_meet
                exact ⟨rfl, _, _, _, _, _, _, _, _, P6.stored, (val_zero1 _).trans eL, (val_zero1 _).trans eM, by omega, by omega⟩
               exact AllReadyH.nil
              exact AllReadyH.nil
             exact AllReadyH.nil
            exact AllReadyH.nil
           refine AllReadyH.cons (o := ⟨some 46, _, _, _, _, _⟩) rfl (fun K hK => ?_) ?_
           ·obtain ⟨X0, X1, X2⟩ := P1.x; go_simp; refine hK.out _ _ trivial (fun hHeld => ?_); clear hK K X0 X1 X2; try simp only [Act.put, List.setIfInBounds_toArray, List.set_cons_zero, List.set_cons_succ]
            have P2 := P1; obtain ⟨w2, hw⟩ : ∃ v, v = w1 := ⟨_, rfl⟩; rw [← hw] at P2 ⊢; clear hw
            refine wpAnyH_ready (rs := [2, 6]) (by kernel_rfl) (by simp) ?_
            refine AllReadyH.cons (o := ⟨some 43, _, _, _, _, _⟩) rfl (fun K hK => ?_) ?_
            ·go_simp; refine hK.out _ _ trivial (fun hHeld => ?_); clear hK K; try simp only [Act.put, List.setIfInBounds_toArray, List.set_cons_zero, List.set_cons_succ]
             have t2_3 := Lit.new P2 48; obtain ⟨w3, hv⟩ : ∃ v, w2.alloc (.cells #[.int .u32 0] 48) = v := ⟨_, rfl⟩
             have bc : Below w2.heap.size w2 w3 := by rw [← hv]; exact (Below.refl _ _).alloc (Nat.le_refl _) _
             rw [hv] at t2_3 ⊢; have P3 := P2.later bc; clear hv bc
             refine wpAnyH_ready (rs := [3, 6]) (by kernel_rfl) (by simp) ?_
             refine AllReadyH.cons (o := ⟨some 44, _, _, _, _, _⟩) rfl (fun K hK => ?_) ?_
             ·refine step_append_lies _ rfl _ _ 22 rfl v.heap.size 48 i0 (.int .u32 0) 1 4 Tryd.underlying22 hi hz0 hz1 hz2 rfl (by decide) (.slice A n c) n (cells L) rfl P3.ma.row ⟨_, 0, none⟩ 1 1 [.int .u32 0] rfl rfl t2_3.news (one_cell _ rfl) (by decide) (room_one (by omega)) (by omega) P3.hk.size _ rfl ?_; intro g3 c3 w4 hown hgrow hat hlt; refine hK.out _ _ trivial (fun hHeld => ?_)
              clear hK K; try simp only [Act.put, List.setIfInBounds_toArray, List.set_cons_zero, List.set_cons_succ]
              have P4 := P3.growA hown hgrow hat
              clear hown hgrow hat hlt
              refine wpAnyH_take (i := 8) (oi := ⟨some 49, _, _, _, _, _⟩) (v := ?_) rfl (by kernel_rfl) (by kernel_rfl) (by kernel_rfl) (fun _ _ _ h => h) (Or.inl ⟨by rfl, ?_⟩) (by assumption) ?_
              rotate_left
              · intro w hSw
                (try dsimp only at hSw)
                go_simp
                try with_reducible rfl
              try simp only [Act.put, List.setIfInBounds_toArray, List.set_cons_zero, List.set_cons_succ]
              refine wpAnyH_ready (rs := [6]) (by kernel_rfl) (by simp) ?_
              refine AllReadyH.cons (o := ⟨some 47, _, _, _, _, _⟩) rfl (fun K hK => ?_) ?_
              ·go_simp; refine hK.out _ _ trivial (fun hHeld => ?_); clear hK K; try simp only [Act.put, List.setIfInBounds_toArray, List.set_cons_zero, List.set_cons_succ]
               have t6_5 := Lit.new P4 48; obtain ⟨w5, hv⟩ : ∃ v, w4.alloc (.cells #[.int .u32 0] 48) = v := ⟨_, rfl⟩
               have bc : Below w4.heap.size w4 w5 := by rw [← hv]; exact (Below.refl _ _).alloc (Nat.le_refl _) _
               rw [hv] at t6_5 ⊢; have P5 := P4.later bc; clear hv bc
               refine wpAnyH_ready (rs := [7]) (by kernel_rfl) (by simp) ?_
               refine AllReadyH.cons (o := ⟨some 48, _, _, _, _, _⟩) rfl (fun K hK => ?_) ?_
               ·refine step_append_lies _ rfl _ _ 22 rfl v.heap.size 48 i0 (.int .u32 0) 1 4 Tryd.underlying22 hi hz0 hz1 hz2 rfl (by decide) (.slice B m d) m (cells M) rfl P5.mb.row ⟨_, 0, none⟩ 1 1 [.int .u32 0] rfl rfl t6_5.news (one_cell _ rfl) (by decide) (room_one (by omega)) (by omega) P5.hk.size _ rfl ?_; intro g7 c7 w6 hown hgrow hat hlt; refine hK.out _ _ trivial (fun hHeld => ?_)
                clear hK K; try simp only [Act.put, List.setIfInBounds_toArray, List.set_cons_zero, List.set_cons_succ]
                have P6 := P5.growB hown hgrow hat
                clear hown hgrow hat hlt
                obtain ⟨X0, X1, X2⟩ := P6.x; obtain ⟨F0, F1, F2⟩ := P6.f
                refine wpAnyH_ready (rs := [9]) (by kernel_rfl) (by simp) ?_; refine AllReadyH.cons (o := ⟨none, _, _, _, _, _⟩) rfl (fun K hK => ?_) AllReadyH.nil; go_simp; refine hK.out _ _ trivial (fun hHeld => ?_); clear hK K; try simp only [Act.put, List.setIfInBounds_toArray, List.set_cons_zero, List.set_cons_succ]
                refine wpAnyH_take (i := 10) (oi := ⟨some 50, _, _, _, _, _⟩) (v := ?_) rfl (by kernel_rfl) (by kernel_rfl) (by kernel_rfl) (fun _ _ _ h => h) (Or.inl ⟨by rfl, ?_⟩) (by assumption) ?_
                rotate_left
                · intro w hSw
                  (try dsimp only at hSw)
                  go_simp
                  try with_reducible rfl
                try simp only [Act.put, List.setIfInBounds_toArray, List.set_cons_zero, List.set_cons_succ]
                refine wpAnyH_ready (rs := [11]) (by kernel_rfl) (by simp) ?_; refine AllReadyH.cons (o := ⟨none, _, _, _, _, _⟩) rfl (fun K hK => ?_) AllReadyH.nil; go_simp; refine hK.out _ _ trivial (fun hHeld => ?_); clear hK K; try simp only [Act.put, List.setIfInBounds_toArray, List.set_cons_zero, List.set_cons_succ]
                refine wpAnyH_done (by kernel_rfl) ?_ _; go_wp2_with fail; go_meet
                exact ⟨rfl, _, _, _, _, _, _, _, _, P6.stored, (val_zero1 _).trans eL, (val_zero1 _).trans eM, by omega, by omega⟩
               exact AllReadyH.nil
              exact AllReadyH.nil
             refine AllReadyH.cons (o := ⟨some 47, _, _, _, _, _⟩) rfl (fun K hK => ?_) ?_
             ·go_simp; refine hK.out _ _ trivial (fun hHeld => ?_); clear hK K; try simp only [Act.put, List.setIfInBounds_toArray, List.set_cons_zero, List.set_cons_succ]
              have t6_4 := Lit.new P3 48; obtain ⟨w4, hv⟩ : ∃ v, w3.alloc (.cells #[.int .u32 0] 48) = v := ⟨_, rfl⟩
              have bc : Below w3.heap.size w3 w4 := by rw [← hv]; exact (Below.refl _ _).alloc (Nat.le_refl _) _
              rw [hv] at t6_4 ⊢; have P4 := P3.later bc; have t2_4 := t2_3.later bc; clear hv bc
              refine wpAnyH_ready (rs := [3]) (by kernel_rfl) (by simp) ?_
              refine AllReadyH.cons (o := ⟨some 44, _, _, _, _, _⟩) rfl (fun K hK => ?_) ?_
              ·refine step_append_lies _ rfl _ _ 22 rfl v.heap.size 48 i0 (.int .u32 0) 1 4 Tryd.underlying22 hi hz0 hz1 hz2 rfl (by decide) (.slice A n c) n (cells L) rfl P4.ma.row ⟨_, 0, none⟩ 1 1 [.int .u32 0] rfl rfl t2_4.news (one_cell _ rfl) (by decide) (room_one (by omega)) (by omega) P4.hk.size _ rfl ?_; intro g3 c3 w5 hown hgrow hat hlt; refine hK.out _ _ trivial (fun hHeld => ?_)
               clear hK K; try simp only [Act.put, List.setIfInBounds_toArray, List.set_cons_zero, List.set_cons_succ]
               have P5 := P4.growA hown hgrow hat
               have t6_5 := t6_4.growA hgrow hat
               clear hown hgrow hat hlt
               refine wpAnyH_take (i := 8) (oi := ⟨some 49, _, _, _, _, _⟩) (v := ?_) rfl (by kernel_rfl) (by kernel_rfl) (by kernel_rfl) (fun _ _ _ h => h) (Or.inl ⟨by rfl, ?_⟩) (by assumption) ?_
               rotate_left
               · intro w hSw
                 (try dsimp only at hSw)
                 go_simp
                 try with_reducible rfl
               try simp only [Act.put, List.setIfInBounds_toArray, List.set_cons_zero, List.set_cons_succ]
               refine wpAnyH_ready (rs := [7]) (by kernel_rfl) (by simp) ?_
               refine AllReadyH.cons (o := ⟨some 48, _, _, _, _, _⟩) rfl (fun K hK => ?_) ?_
               ·refine step_append_lies _ rfl _ _ 22 rfl v.heap.size 48 i0 (.int .u32 0) 1 4 Tryd.underlying22 hi hz0 hz1 hz2 rfl (by decide) (.slice B m d) m (cells M) rfl P5.mb.row ⟨_, 0, none⟩ 1 1 [.int .u32 0] rfl rfl t6_5.news (one_cell _ rfl) (by decide) (room_one (by omega)) (by omega) P5.hk.size _ rfl ?_; intro g7 c7 w6 hown hgrow hat hlt; refine hK.out _ _ trivial (fun hHeld => ?_)
                clear hK K; try simp only [Act.put, List.setIfInBounds_toArray, List.set_cons_zero, List.set_cons_succ]
                have P6 := P5.growB hown hgrow hat
                clear hown hgrow hat hlt
                obtain ⟨X0, X1, X2⟩ := P6.x; obtain ⟨F0, F1, F2⟩ := P6.f
                refine wpAnyH_ready (rs := [9]) (by kernel_rfl) (by simp) ?_; refine AllReadyH.cons (o := ⟨none, _, _, _, _, _⟩) rfl (fun K hK => ?_) AllReadyH.nil; go_simp; refine hK.out _ _ trivial (fun hHeld => ?_); clear hK K; try simp only [Act.put, List.setIfInBounds_toArray, List.set_cons_zero, List.set_cons_succ]
                refine wpAnyH_take (i := 10) (oi := ⟨some 50, _, _, _, _, _⟩) (v := ?_) rfl (by kernel_rfl) (by kernel_rfl) (by kernel_rfl) (fun _ _ _ h => h) (Or.inl ⟨by rfl, ?_⟩) (by assumption) ?_
                rotate_left
                · intro w hSw
                  (try dsimp only at hSw)
                  go_simp
                  try with_reducible rfl
                try simp only [Act.put, List.setIfInBounds_toArray, List.set_cons_zero, List.set_cons_succ]
                refine wpAnyH_ready (rs := [11]) (by kernel_rfl) (by simp) ?_; refine AllReadyH.cons (o := ⟨none, _, _, _, _, _⟩) rfl (fun K hK => ?_) AllReadyH.nil; go_simp; refine hK.out _ _ trivial (fun hHeld => ?_); clear hK K; try simp only [Act.put, List.setIfInBounds_toArray, List.set_cons_zero, List.set_cons_succ]
                refine wpAnyH_done (by kernel_rfl) ?_ _; go_wp2_with fail; go_meet
                exact ⟨rfl, _, _, _, _, _, _, _, _, P6.stored, (val_zero1 _).trans eL, (val_zero1 _).trans eM, by omega, by omega⟩
               exact AllReadyH.nil
              exact AllReadyH.nil
             exact AllReadyH.nil
            refine AllReadyH.cons (o := ⟨some 47, _, _, _, _, _⟩) rfl (fun K hK => ?_) ?_
            ·go_simp; refine hK.out _ _ trivial (fun hHeld => ?_); clear hK K; try simp only [Act.put, List.setIfInBounds_toArray, List.set_cons_zero, List.set_cons_succ]
             have t6_3 := Lit.new P2 48; obtain ⟨w3, hv⟩ : ∃ v, w2.alloc (.cells #[.int .u32 0] 48) = v := ⟨_, rfl⟩
             have bc : Below w2.heap.size w2 w3 := by rw [← hv]; exact (Below.refl _ _).alloc (Nat.le_refl _) _
             rw [hv] at t6_3 ⊢; have P3 := P2.later bc; clear hv bc
             refine wpAnyH_ready (rs := [2]) (by kernel_rfl) (by simp) ?_
             refine AllReadyH.cons (o := ⟨some 43, _, _, _, _, _⟩) rfl (fun K hK => ?_) ?_
             ·go_simp; refine hK.out _ _ trivial (fun hHeld => ?_); clear hK K; try simp only [Act.put, List.setIfInBounds_toArray, List.set_cons_zero, List.set_cons_succ]
              have t2_4 := Lit.new P3 48; obtain ⟨w4, hv⟩ : ∃ v, w3.alloc (.cells #[.int .u32 0] 48) = v := ⟨_, rfl⟩
              have bc : Below w3.heap.size w3 w4 := by rw [← hv]; exact (Below.refl _ _).alloc (Nat.le_refl _) _
              rw [hv] at t2_4 ⊢; have P4 := P3.later bc; have t6_4 := t6_3.later bc; clear hv bc
              refine wpAnyH_ready (rs := [3]) (by kernel_rfl) (by simp) ?_
              refine AllReadyH.cons (o := ⟨some 44, _, _, _, _, _⟩) rfl (fun K hK => ?_) ?_
              ·refine step_append_lies _ rfl _ _ 22 rfl v.heap.size 48 i0 (.int .u32 0) 1 4 Tryd.underlying22 hi hz0 hz1 hz2 rfl (by decide) (.slice A n c) n (cells L) rfl P4.ma.row ⟨_, 0, none⟩ 1 1 [.int .u32 0] rfl rfl t2_4.news (one_cell _ rfl) (by decide) (room_one (by omega)) (by omega) P4.hk.size _ rfl ?_; intro g3 c3 w5 hown hgrow hat hlt; refine hK.out _ _ trivial (fun hHeld => ?_)
               clear hK K; try simp only [Act.put, List.setIfInBounds_toArray, List.set_cons_zero, List.set_cons_succ]
               have P5 := P4.growA hown hgrow hat
               have t6_5 := t6_4.growA hgrow hat
               clear hown hgrow hat hlt
               refine wpAnyH_take (i := 8) (oi := ⟨some 49, _, _, _, _, _⟩) (v := ?_) rfl (by kernel_rfl) (by kernel_rfl) (by kernel_rfl) (fun _ _ _ h => h) (Or.inl ⟨by rfl, ?_⟩) (by assumption) ?_
               rotate_left
               · intro w hSw
                 (try dsimp only at hSw)
                 go_simp
                 try with_reducible rfl
               try simp only [Act.put, List.setIfInBounds_toArray, List.set_cons_zero, List.set_cons_succ]
               refine wpAnyH_ready (rs := [7]) (by kernel_rfl) (by simp) ?_
               refine AllReadyH.cons (o := ⟨some 48, _, _, _, _, _⟩) rfl (fun K hK => ?_) ?_
               ·refine step_append_lies _ rfl _ _ 22 rfl v.heap.size 48 i0 (.int .u32 0) 1 4 Tryd.underlying22 hi hz0 hz1 hz2 rfl (by decide) (.slice B m d) m (cells M) rfl P5.mb.row ⟨_, 0, none⟩ 1 1 [.int .u32 0] rfl rfl t6_5.news (one_cell _ rfl) (by decide) (room_one (by omega)) (by omega) P5.hk.size _ rfl ?_; intro g7 c7 w6 hown hgrow hat hlt; refine hK.out _ _ trivial (fun hHeld => ?_)
                clear hK K; try simp only [Act.put, List.setIfInBounds_toArray, List.set_cons_zero, List.set_cons_succ]
                have P6 := P5.growB hown hgrow hat
                clear hown hgrow hat hlt
                obtain ⟨X0, X1, X2⟩ := P6.x; obtain ⟨F0, F1, F2⟩ := P6.f
                refine wpAnyH_ready (rs := [9]) (by kernel_rfl) (by simp) ?_; refine AllReadyH.cons (o := ⟨none, _, _, _, _, _⟩) rfl (fun K hK => ?_) AllReadyH.nil; go_simp; refine hK.out _ _ trivial (fun hHeld => ?_); clear hK K; try simp only [Act.put, List.setIfInBounds_toArray, List.set_cons_zero, List.set_cons_succ]
                refine wpAnyH_take (i := 10) (oi := ⟨some 50, _, _, _, _, _⟩) (v := ?_) rfl (by kernel_rfl) (by kernel_rfl) (by kernel_rfl) (fun _ _ _ h => h) (Or.inl ⟨by rfl, ?_⟩) (by assumption) ?_
                rotate_left
                · intro w hSw
                  (try dsimp only at hSw)
                  go_simp
                  try with_reducible rfl
                try simp only [Act.put, List.setIfInBounds_toArray, List.set_cons_zero, List.set_cons_succ]
                refine wpAnyH_ready (rs := [11]) (by kernel_rfl) (by simp) ?_; refine AllReadyH.cons (o := ⟨none, _, _, _, _, _⟩) rfl (fun K hK => ?_) AllReadyH.nil; go_simp; refine hK.out _ _ trivial (fun hHeld => ?_); clear hK K; try simp only [Act.put, List.setIfInBounds_toArray, List.set_cons_zero, List.set_cons_succ]
                refine wpAnyH_done (by kernel_rfl) ?_ _; go_wp2_with fail; go_meet
                exact ⟨rfl, _, _, _, _, _, _, _, _, P6.stored, (val_zero1 _).trans eL, (val_zero1 _).trans eM, by omega, by omega⟩
               exact AllReadyH.nil
              exact AllReadyH.nil
             exact AllReadyH.nil
            exact AllReadyH.nil
           refine AllReadyH.cons (o := ⟨some 47, _, _, _, _, _⟩) rfl (fun K hK => ?_) ?_
           ·go_simp; refine hK.out _ _ trivial (fun hHeld => ?_); clear hK K; try simp only [Act.put, List.setIfInBounds_toArray, List.set_cons_zero, List.set_cons_succ]
            have t6_2 := Lit.new P1 48; obtain ⟨w2, hv⟩ : ∃ v, w1.alloc (.cells #[.int .u32 0] 48) = v := ⟨_, rfl⟩
            have bc : Below w1.heap.size w1 w2 := by rw [← hv]; exact (Below.refl _ _).alloc (Nat.le_refl _) _
            rw [hv] at t6_2 ⊢; have P2 := P1.later bc; clear hv bc
            refine wpAnyH_ready (rs := [2, 5]) (by kernel_rfl) (by simp) ?_
            refine AllReadyH.cons (o := ⟨some 43, _, _, _, _, _⟩) rfl (fun K hK => ?_) ?_
            ·go_simp; refine hK.out _ _ trivial (fun hHeld => ?_); clear hK K; try simp only [Act.put, List.setIfInBounds_toArray, List.set_cons_zero, List.set_cons_succ]
             have t2_3 := Lit.new P2 48; obtain ⟨w3, hv⟩ : ∃ v, w2.alloc (.cells #[.int .u32 0] 48) = v := ⟨_, rfl⟩
             have bc : Below w2.heap.size w2 w3 := by rw [← hv]; exact (Below.refl _ _).alloc (Nat.le_refl _) _
             rw [hv] at t2_3 ⊢; have P3 := P2.later bc; have t6_3 := t6_2.later bc; clear hv bc
             refine wpAnyH_ready (rs := [3, 5]) (by kernel_rfl) (by simp) ?_
             refine AllReadyH.cons (o := ⟨some 44, _, _, _, _, _⟩) rfl (fun K hK => ?_) ?_
             ·refine step_append_lies _ rfl _ _ 22 rfl v.heap.size 48 i0 (.int .u32 0) 1 4 Tryd.underlying22 hi hz0 hz1 hz2 rfl (by decide) (.slice A n c) n (cells L) rfl P3.ma.row ⟨_, 0, none⟩ 1 1 [.int .u32 0] rfl rfl t2_3.news (one_cell _ rfl) (by decide) (room_one (by omega)) (by omega) P3.hk.size _ rfl ?_; intro g3 c3 w4 hown hgrow hat hlt; refine hK.out _ _ trivial (fun hHeld => ?_)
              clear hK K; try simp only [Act.put, List.setIfInBounds_toArray, List.set_cons_zero, List.set_cons_succ]
              have P4 := P3.growA hown hgrow hat
              have t6_4 := t6_3.growA hgrow hat
              clear hown hgrow hat hlt
              refine wpAnyH_ready (rs := [5]) (by kernel_rfl) (by simp) ?_
              refine AllReadyH.cons (o := ⟨some 46, _, _, _, _, _⟩) rfl (fun K hK => ?_) ?_
              ·obtain ⟨X0, X1, X2⟩ := P4.x; go_simp; refine hK.out _ _ trivial (fun hHeld => ?_); clear hK K X0 X1 X2; try simp only [Act.put, List.setIfInBounds_toArray, List.set_cons_zero, List.set_cons_succ]
               have P5 := P4; have t6_5 := t6_4; obtain ⟨w5, hw⟩ : ∃ v, v = w4 := ⟨_, rfl⟩; rw [← hw] at P5 ⊢; rw [← hw] at t6_5; clear hw
               refine wpAnyH_take (i := 8) (oi := ⟨some 49, _, _, _, _, _⟩) (v := ?_) rfl (by kernel_rfl) (by kernel_rfl) (by kernel_rfl) (fun _ _ _ h => h) (Or.inl ⟨by rfl, ?_⟩) (by assumption) ?_
               rotate_left
               · intro w hSw
                 (try dsimp only at hSw)
                 go_simp
                 try with_reducible rfl
               try simp only [Act.put, List.setIfInBounds_toArray, List.set_cons_zero, List.set_cons_succ]
               refine wpAnyH_ready (rs := [7]) (by kernel_rfl) (by simp) ?_
               refine AllReadyH.cons (o := ⟨some 48, _, _, _, _, _⟩) rfl (fun K hK => ?_) ?_
               ·refine step_append_lies _ rfl _ _ 22 rfl v.heap.size 48 i0 (.int .u32 0) 1 4 Tryd.underlying22 hi hz0 hz1 hz2 rfl (by decide) (.slice B m d) m (cells M) rfl P5.mb.row ⟨_, 0, none⟩ 1 1 [.int .u32 0] rfl rfl t6_5.news (one_cell _ rfl) (by decide) (room_one (by omega)) (by omega) P5.hk.size _ rfl ?_; intro g7 c7 w6 hown hgrow hat hlt; refine hK.out _ _ trivial (fun hHeld => ?_)
                clear hK K; try simp only [Act.put, List.setIfInBounds_toArray, List.set_cons_zero, List.set_cons_succ]
                have P6 := P5.growB hown hgrow hat
                clear hown hgrow hat hlt
                obtain ⟨X0, X1, X2⟩ := P6.x; obtain ⟨F0, F1, F2⟩ := P6.f
                refine wpAnyH_ready (rs := [9]) (by kernel_rfl) (by simp) ?_; refine AllReadyH.cons (o := ⟨none, _, _, _, _, _⟩) rfl (fun K hK => ?_) AllReadyH.nil; go_simp; refine hK.out _ _ trivial (fun hHeld => ?_); clear hK K; try simp only [Act.put, List.setIfInBounds_toArray, List.set_cons_zero, List.set_cons_succ]
                refine wpAnyH_take (i := 10) (oi := ⟨some 50, _, _, _, _, _⟩) (v := ?_) rfl (by kernel_rfl) (by kernel_rfl) (by kernel_rfl) (fun _ _ _ h => h) (Or.inl ⟨by rfl, ?_⟩) (by assumption) ?_
                rotate_left
                · intro w hSw
                  (try dsimp only at hSw)
                  go_simp
                  try with_reducible rfl
                try simp only [Act.put, List.setIfInBounds_toArray, List.set_cons_zero, List.set_cons_succ]
                refine wpAnyH_ready (rs := [11]) (by kernel_rfl) (by simp) ?_; refine AllReadyH.cons (o := ⟨none, _, _, _, _, _⟩) rfl (fun K hK => ?_) AllReadyH.nil; go_simp; refine hK.out _ _ trivial (fun hHeld => ?_); clear hK K; try simp only [Act.put, List.setIfInBounds_toArray, List.set_cons_zero, List.set_cons_succ]
                refine wpAnyH_done (by kernel_rfl) ?_ _; go_wp2_with fail; go_meet
                exact ⟨rfl, _, _, _, _, _, _, _, _, P6.stored, (val_zero1 _).trans eL, (val_zero1 _).trans eM, by omega, by omega⟩
               exact AllReadyH.nil
              exact AllReadyH.nil
             refine AllReadyH.cons (o := ⟨some 46, _, _, _, _, _⟩) rfl (fun K hK => ?_) ?_
             ·obtain ⟨X0, X1, X2⟩ := P3.x; go_simp; refine hK.out _ _ trivial (fun hHeld => ?_); clear hK K X0 X1 X2; try simp only [Act.put, List.setIfInBounds_toArray, List.set_cons_zero, List.set_cons_succ]
              have P4 := P3; have t2_4 := t2_3; have t6_4 := t6_3; obtain ⟨w4, hw⟩ : ∃ v, v = w3 := ⟨_, rfl⟩; rw [← hw] at P4 ⊢; rw [← hw] at t2_4; rw [← hw] at t6_4; clear hw
              refine wpAnyH_ready (rs := [3]) (by kernel_rfl) (by simp) ?_
              refine AllReadyH.cons (o := ⟨some 44, _, _, _, _, _⟩) rfl (fun K hK => ?_) ?_
              ·refine step_append_lies _ rfl _ _ 22 rfl v.heap.size 48 i0 (.int .u32 0) 1 4 Tryd.underlying22 hi hz0 hz1 hz2 rfl (by decide) (.slice A n c) n (cells L) rfl P4.ma.row ⟨_, 0, none⟩ 1 1 [.int .u32 0] rfl rfl t2_4.news (one_cell _ rfl) (by decide) (room_one (by omega)) (by omega) P4.hk.size _ rfl ?_; intro g3 c3 w5 hown hgrow hat hlt; refine hK.out _ _ trivial (fun hHeld => ?_)
               clear hK K; try simp only [Act.put, List.setIfInBounds_toArray, List.set_cons_zero, List.set_cons_succ]
               have P5 := P4.growA hown hgrow hat
               have t6_5 := t6_4.growA hgrow hat
               clear hown hgrow hat hlt
               refine wpAnyH_take (i := 8) (oi := ⟨some 49, _, _, _, _, _⟩) (v := ?_) rfl (by kernel_rfl) (by kernel_rfl) (by kernel_rfl) (fun _ _ _ h => h) (Or.inl ⟨by rfl, ?_⟩) (by assumption) ?_
               rotate_left
               · intro w hSw
                 (try dsimp only at hSw)
                 go_simp
                 try with_reducible rfl
               try simp only [Act.put, List.setIfInBounds_toArray, List.set_cons_zero, List.set_cons_succ]
               refine wpAnyH_ready (rs := [7]) (by kernel_rfl) (by simp) ?_
               refine AllReadyH.cons (o := ⟨some 48, _, _, _, _, _⟩) rfl (fun K hK => ?_) ?_
               ·refine step_append_lies _ rfl _ _ 22 rfl v.heap.size 48 i0 (.int .u32 0) 1 4 Tryd.underlying22 hi hz0 hz1 hz2 rfl (by decide) (.slice B m d) m (cells M) rfl P5.mb.row ⟨_, 0, none⟩ 1 1 [.int .u32 0] rfl rfl t6_5.news (one_cell _ rfl) (by decide) (room_one (by omega)) (by omega) P5.hk.size _ rfl ?_; intro g7 c7 w6 hown hgrow hat hlt; refine hK.out _ _ trivial (fun hHeld => ?_)
                clear hK K; try simp only [Act.put, List.setIfInBounds_toArray, List.set_cons_zero, List.set_cons_succ]
                have P6 := P5.growB hown hgrow hat
                clear hown hgrow hat hlt
                obtain ⟨X0, X1, X2⟩ := P6.x; obtain ⟨F0, F1, F2⟩ := P6.f
                refine wpAnyH_ready (rs := [9]) (by kernel_rfl) (by simp) ?_; refine AllReadyH.cons (o := ⟨none, _, _, _, _, _⟩) rfl (fun K hK => ?_) AllReadyH.nil; go_simp; refine hK.out _ _ trivial (fun hHeld => ?_); clear hK K; try simp only [Act.put, List.setIfInBounds_toArray, List.set_cons_zero, List.set_cons_succ]
                refine wpAnyH_take (i := 10) (oi := ⟨some 50, _, _, _, _, _⟩) (v := ?_) rfl (by kernel_rfl) (by kernel_rfl) (by kernel_rfl) (fun _ _ _ h => h) (Or.inl ⟨by rfl, ?_⟩) (by assumption) ?_
                rotate_left
                · intro w hSw
                  (try dsimp only at hSw)
                  go_simp
                  try with_reducible rfl
                try simp only [Act.put, List.setIfInBounds_toArray, List.set_cons_zero, List.set_cons_succ]
                refine wpAnyH_ready (rs := [11]) (by kernel_rfl) (by simp) ?_; refine AllReadyH.cons (o := ⟨none, _, _, _, _, _⟩) rfl (fun K hK => ?_) AllReadyH.nil; go_simp; refine hK.out _ _ trivial (fun hHeld => ?_); clear hK K; try simp only [Act.put, List.setIfInBounds_toArray, List.set_cons_zero, List.set_cons_succ]
                refine wpAnyH_done (by kernel_rfl) ?_ _; go_wp2_with fail; go_meet
                exact ⟨rfl, _, _, _, _, _, _, _, _, P6.stored, (val_zero1 _).trans eL, (val_zero1 _).trans eM, by omega, by omega⟩
               exact AllReadyH.nil
              exact AllReadyH.nil
             exact AllReadyH.nil
            refine AllReadyH.cons (o := ⟨some 46, _, _, _, _, _⟩) rfl (fun K hK => ?_) ?_
            ·obtain ⟨X0, X1, X2⟩ := P2.x; go_simp; refine hK.out _ _ trivial (fun hHeld => ?_); clear hK K X0 X1 X2; try simp only [Act.put, List.setIfInBounds_toArray, List.set_cons_zero, List.set_cons_succ]
             have P3 := P2; have t6_3 := t6_2; obtain ⟨w3, hw⟩ : ∃ v, v = w2 := ⟨_, rfl⟩; rw [← hw] at P3 ⊢; rw [← hw] at t6_3; clear hw
             refine wpAnyH_ready (rs := [2]) (by kernel_rfl) (by simp) ?_
             refine AllReadyH.cons (o := ⟨some 43, _, _, _, _, _⟩) rfl (fun K hK => ?_) ?_
             ·go_simp; refine hK.out _ _ trivial (fun hHeld => ?_); clear hK K; try simp only [Act.put, List.setIfInBounds_toArray, List.set_cons_zero, List.set_cons_succ]
              have t2_4 := Lit.new P3 48; obtain ⟨w4, hv⟩ : ∃ v, w3.alloc (.cells #[.int .u32 0] 48) = v := ⟨_, rfl⟩
              have bc : Below w3.heap.size w3 w4 := by rw [← hv]; exact (Below.refl _ _).alloc (Nat.le_refl _) _
              rw [hv] at t2_4 ⊢; have P4 := P3.later bc; have t6_4 := t6_3.later bc; clear hv bc
              refine wpAnyH_ready (rs := [3]) (by kernel_rfl) (by simp) ?_
              refine AllReadyH.cons (o := ⟨some 44, _, _, _, _, _⟩) rfl (fun K hK => ?_) ?_
              ·refine step_append_lies _ rfl _ _ 22 rfl v.heap.size 48 i0 (.int .u32 0) 1 4 Tryd.underlying22 hi hz0 hz1 hz2 rfl (by decide) (.slice A n c) n (cells L) rfl P4.ma.row ⟨_, 0, none⟩ 1 1 [.int .u32 0] rfl rfl t2_4.news (one_cell _ rfl) (by decide) (room_one (by omega)) (by omega) P4.hk.size _ rfl ?_; intro g3 c3 w5 hown hgrow hat hlt; refine hK.out _ _ trivial (fun hHeld => ?_)
               clear hK K; try simp only [Act.put, List.setIfInBounds_toArray, List.set_cons_zero, List.set_cons_succ]
               have P5 := P4.growA hown hgrow hat
               have t6_5 := t6_4.growA hgrow hat
               clear hown hgrow hat hlt
               refine wpAnyH_take (i := 8) (oi := ⟨some 49, _, _, _, _, _⟩) (v := ?_) rfl (by kernel_rfl) (by kernel_rfl) (by kernel_rfl) (fun _ _ _ h => h) (Or.inl ⟨by rfl, ?_⟩) (by assumption) ?_
               rotate_left
               · intro w hSw
                 (try dsimp only at hSw)
                 go_simp
                 try with_reducible rfl
               try simp only [Act.put, List.setIfInBounds_toArray, List.set_cons_zero, List.set_cons_succ]
               refine wpAnyH_ready (rs := [7]) (by kernel_rfl) (by simp) ?_
               refine AllReadyH.cons (o := ⟨some 48, _, _, _, _, _⟩) rfl (fun K hK => ?_) ?_
               ·refine step_append_lies _ rfl _ _ 22 rfl v.heap.size 48 i0 (.int .u32 0) 1 4 Tryd.underlying22 hi hz0 hz1 hz2 rfl (by decide) (.slice B m d) m (cells M) rfl P5.mb.row ⟨_, 0, none⟩ 1 1 [.int .u32 0] rfl rfl t6_5.news (one_cell _ rfl) (by decide) (room_one (by omega)) (by omega) P5.hk.size _ rfl ?_; intro g7 c7 w6 hown hgrow hat hlt; refine hK.out _ _ trivial (fun hHeld => ?_)
                clear hK K; try simp only [Act.put, List.setIfInBounds_toArray, List.set_cons_zero, List.set_cons_succ]
                have P6 := P5.growB hown hgrow hat
                clear hown hgrow hat hlt
                obtain ⟨X0, X1, X2⟩ := P6.x; obtain ⟨F0, F1, F2⟩ := P6.f
                refine wpAnyH_ready (rs := [9]) (by kernel_rfl) (by simp) ?_; refine AllReadyH.cons (o := ⟨none, _, _, _, _, _⟩) rfl (fun K hK => ?_) AllReadyH.nil; go_simp; refine hK.out _ _ trivial (fun hHeld => ?_); clear hK K; try simp only [Act.put, List.setIfInBounds_toArray, List.set_cons_zero, List.set_cons_succ]
                refine wpAnyH_take (i := 10) (oi := ⟨some 50, _, _, _, _, _⟩) (v := ?_) rfl (by kernel_rfl) (by kernel_rfl) (by kernel_rfl) (fun _ _ _ h => h) (Or.inl ⟨by rfl, ?_⟩) (by assumption) ?_
                rotate_left
                · intro w hSw
                  (try dsimp only at hSw)
                  go_simp
                  try with_reducible rfl
                try simp only [Act.put, List.setIfInBounds_toArray, List.set_cons_zero, List.set_cons_succ]
                refine wpAnyH_ready (rs := [11]) (by kernel_rfl) (by simp) ?_; refine AllReadyH.cons (o := ⟨none, _, _, _, _, _⟩) rfl (fun K hK => ?_) AllReadyH.nil; go_simp; refine hK.out _ _ trivial (fun hHeld => ?_); clear hK K; try simp only [Act.put, List.setIfInBounds_toArray, List.set_cons_zero, List.set_cons_succ]
                refine wpAnyH_done (by kernel_rfl) ?_ _; go_wp2_with fail; go_meet
                exact ⟨rfl, _, _, _, _, _, _, _, _, P6.stored, (val_zero1 _).trans eL, (val_zero1 _).trans eM, by omega, by omega⟩
               exact AllReadyH.nil
              exact AllReadyH.nil
             exact AllReadyH.nil
            exact AllReadyH.nil
           exact AllReadyH.nil
          refine AllReadyH.cons (o := ⟨some 43, _, _, _, _, _⟩) rfl (fun K hK => ?_) ?_
          ·go_simp; refine hK.out _ _ trivial (fun hHeld => ?_); clear hK K; try simp only [Act.put, List.setIfInBounds_toArray, List.set_cons_zero, List.set_cons_succ]
           have t2_1 := Lit.new P0 48; obtain ⟨w1, hv⟩ : ∃ v, w0.alloc (.cells #[.int .u32 0] 48) = v := ⟨_, rfl⟩
           have bc : Below w0.heap.size w0 w1 := by rw [← hv]; exact (Below.refl _ _).alloc (Nat.le_refl _) _
           rw [hv] at t2_1 ⊢; have P1 := P0.later bc; clear hv bc
           refine wpAnyH_ready (rs := [1, 5, 6]) (by kernel_rfl) (by simp) ?_
           refine AllReadyH.cons (o := ⟨some 42, _, _, _, _, _⟩) rfl (fun K hK => ?_) ?_
           ·obtain ⟨X0, X1, X2⟩ := P1.x; go_simp; refine hK.out _ _ trivial (fun hHeld => ?_); clear hK K X0 X1 X2; try simp only [Act.put, List.setIfInBounds_toArray, List.set_cons_zero, List.set_cons_succ]
            have P2 := P1; have t2_2 := t2_1; obtain ⟨w2, hw⟩ : ∃ v, v = w1 := ⟨_, rfl⟩; rw [← hw] at P2 ⊢; rw [← hw] at t2_2; clear hw
            refine wpAnyH_ready (rs := [3, 5, 6]) (by kernel_rfl) (by simp) ?_
            refine AllReadyH.cons (o := ⟨some 44, _, _, _, _, _⟩) rfl (fun K hK => ?_) ?_
            ·refine step_append_lies _ rfl _ _ 22 rfl v.heap.size 48 i0 (.int .u32 0) 1 4 Tryd.underlying22 hi hz0 hz1 hz2 rfl (by decide) (.slice A n c) n (cells L) rfl P2.ma.row ⟨_, 0, none⟩ 1 1 [.int .u32 0] rfl rfl t2_2.news (one_cell _ rfl) (by decide) (room_one (by omega)) (by omega) P2.hk.size _ rfl ?_; intro g3 c3 w3 hown hgrow hat hlt; refine hK.out _ _ trivial (fun hHeld => ?_)
             clear hK K; try simp only [Act.put, List.setIfInBounds_toArray, List.set_cons_zero, List.set_cons_succ]
             have P3 := P2.growA hown hgrow hat
             clear hown hgrow hat hlt
             refine wpAnyH_ready (rs := [5, 6]) (by kernel_rfl) (by simp) ?_
             refine AllReadyH.cons (o := ⟨some 46, _, _, _, _, _⟩) rfl (fun K hK => ?_) ?_
             ·obtain ⟨X0, X1, X2⟩ := P3.x; go_simp; refine hK.out _ _ trivial (fun hHeld => ?_); clear hK K X0 X1 X2; try simp only [Act.put, List.setIfInBounds_toArray, List.set_cons_zero, List.set_cons_succ]
              have P4 := P3; obtain ⟨w4, hw⟩ : ∃ v, v = w3 := ⟨_, rfl⟩; rw [← hw] at P4 ⊢; clear hw
              refine wpAnyH_take (i := 8) (oi := ⟨some 49, _, _, _, _, _⟩) (v := ?_) rfl (by kernel_rfl) (by kernel_rfl) (by kernel_rfl) (fun _ _ _ h => h) (Or.inl ⟨by rfl, ?_⟩) (by assumption) ?_
              rotate_left
              · intro w hSw
                (try dsimp only at hSw)
                go_simp
                try with_reducible rfl
              try simp only [Act.put, List.setIfInBounds_toArray, List.set_cons_zero, List.set_cons_succ]
              refine wpAnyH_ready (rs := [6]) (by kernel_rfl) (by simp) ?_
              refine AllReadyH.cons (o := ⟨some 47, _, _, _, _, _⟩) rfl (fun K hK => ?_) ?_
              ·go_simp; refine hK.out _ _ trivial (fun hHeld => ?_); clear hK K; try simp only [Act.put, List.setIfInBounds_toArray, List.set_cons_zero, List.set_cons_succ]
               have t6_5 := Lit.new P4 48; obtain ⟨w5, hv⟩ : ∃ v, w4.alloc (.cells #[.int .u32 0] 48) = v := ⟨_, rfl⟩
               have bc : Below w4.heap.size w4 w5 := by rw [← hv]; exact (Below.refl _ _).alloc (Nat.le_refl _) _
               rw [hv] at t6_5 ⊢; have P5 := P4.later bc; clear hv bc
               refine wpAnyH_ready (rs := [7]) (by kernel_rfl) (by simp) ?_
               refine AllReadyH.cons (o := ⟨some 48, _, _, _, _, _⟩) rfl (fun K hK => ?_) ?_
               ·refine step_append_lies _ rfl _ _ 22 rfl v.heap.size 48 i0 (.int .u32 0) 1 4 Tryd.underlying22 hi hz0 hz1 hz2 rfl (by decide) (.slice B m d) m (cells M) rfl P5.mb.row ⟨_, 0, none⟩ 1 1 [.int .u32 0] rfl rfl t6_5.news (one_cell _ rfl) (by decide) (room_one (by omega)) (by omega) P5.hk.size _ rfl ?_; intro g7 c7 w6 hown hgrow hat hlt; refine hK.out _ _ trivial (fun hHeld => ?_)
                clear hK K; try simp only [Act.put, List.setIfInBounds_toArray, List.set_cons_zero, List.set_cons_succ]
                have P6 := P5.growB hown hgrow hat
                clear hown hgrow hat hlt
                obtain ⟨X0, X1, X2⟩ := P6.x; obtain ⟨F0, F1, F2⟩ := P6.f
                refine wpAnyH_ready (rs := [9]) (by kernel_rfl) (by simp) ?_; refine AllReadyH.cons (o := ⟨none, _, _, _, _, _⟩) rfl (fun K hK => ?_) AllReadyH.nil; go_simp; refine hK.out _ _ trivial (fun hHeld => ?_); clear hK K; try simp only [Act.put, List.setIfInBounds_toArray, List.set_cons_zero, List.set_cons_succ]
                refine wpAnyH_take (i := 10) (oi := ⟨some 50, _, _, _, _, _⟩) (v := ?_) rfl (by kernel_rfl) (by kernel_rfl) (by kernel_rfl) (fun _ _ _ h => h) (Or.inl ⟨by rfl, ?_⟩) (by assumption) ?_
                rotate_left
                · intro w hSw
                  (try dsimp only at hSw)
                  go_simp
                  try with_reducible rfl
                try simp only [Act.put, List.setIfInBounds_toArray, List.set_cons_zero, List.set_cons_succ]
                refine wpAnyH_ready (rs := [11]) (by kernel_rfl) (by simp) ?_; refine AllReadyH.cons (o := ⟨none, _, _, _, _, _⟩) rfl (fun K hK => ?_) AllReadyH.nil; go_simp; refine hK.out _ _ trivial (fun hHeld => ?_); clear hK K; try simp only [Act.put, List.setIfInBounds_toArray, List.set_cons_zero, List.set_cons_succ]
                refine wpAnyH_done (by kernel_rfl) ?_ _; go_wp2_with fail; go_meet
                exact ⟨rfl, _, _, _, _, _, _, _, _, P6.stored, (val_zero1 _).trans eL, (val_zero1 _).trans eM, by omega, by omega⟩
               exact AllReadyH.nil
              exact AllReadyH.nil
             refine AllReadyH.cons (o := ⟨some 47, _, _, _, _, _⟩) rfl (fun K hK => ?_) ?_
             ·go_simp; refine hK.out _ _ trivial (fun hHeld => ?_); clear hK K; try simp only [Act.put, List.setIfInBounds_toArray, List.set_cons_zero, List.set_cons_succ]
              have t6_4 := Lit.new P3 48; obtain ⟨w4, hv⟩ : ∃ v, w3.alloc (.cells #[.int .u32 0] 48) = v := ⟨_, rfl⟩
              have bc : Below w3.heap.size w3 w4 := by rw [← hv]; exact (Below.refl _ _).alloc (Nat.le_refl _) _
              rw [hv] at t6_4 ⊢; have P4 := P3.later bc; clear hv bc
              refine wpAnyH_ready (rs := [5]) (by kernel_rfl) (by simp) ?_
              refine AllReadyH.cons (o := ⟨some 46, _, _, _, _, _⟩) rfl (fun K hK => ?_) ?_
              ·obtain ⟨X0, X1, X2⟩ := P4.x; go_simp; refine hK.out _ _ trivial (fun hHeld => ?_); clear hK K X0 X1 X2; try simp only [Act.put, List.setIfInBounds_toArray, List.set_cons_zero, List.set_cons_succ]
               have P5 := P4; have t6_5 := t6_4; obtain ⟨w5, hw⟩ : ∃ v, v = w4 := ⟨_, rfl⟩; rw [← hw] at P5 ⊢; rw [← hw] at t6_5; clear hw
               refine wpAnyH_take (i := 8) (oi := ⟨some 49, _, _, _, _, _⟩) (v := ?_) rfl (by kernel_rfl) (by kernel_rfl) (by kernel_rfl) (fun _ _ _ h => h) (Or.inl ⟨by rfl, ?_⟩) (by assumption) ?_
               rotate_left
               · intro w hSw
                 (try dsimp only at hSw)
                 go_simp
                 try with_reducible rfl
               try simp only [Act.put, List.setIfInBounds_toArray, List.set_cons_zero, List.set_cons_succ]
               refine wpAnyH_ready (rs := [7]) (by kernel_rfl) (by simp) ?_
               refine AllReadyH.cons (o := ⟨some 48, _, _, _, _, _⟩) rfl (fun K hK => ?_) ?_
               ·refine step_append_lies _ rfl _ _ 22 rfl v.heap.size 48 i0 (.int .u32 0) 1 4 Tryd.underlying22 hi hz0 hz1 hz2 rfl (by decide) (.slice B m d) m (cells M) rfl P5.mb.row ⟨_, 0, none⟩ 1 1 [.int .u32 0] rfl rfl t6_5.news (one_cell _ rfl) (by decide) (room_one (by omega)) (by omega) P5.hk.size _ rfl ?_; intro g7 c7 w6 hown hgrow hat hlt; refine hK.out _ _ trivial (fun hHeld => ?_)
                clear hK K; try simp only [Act.put, List.setIfInBounds_toArray, List.set_cons_zero, List.set_cons_succ]
                have P6 := P5.growB hown hgrow hat
                clear hown hgrow hat hlt
                obtain ⟨X0, X1, X2⟩ := P6.x; obtain ⟨F0, F1, F2⟩ := P6.f
                refine wpAnyH_ready (rs := [9]) (by kernel_rfl) (by simp) ?_; refine AllReadyH.cons (o := ⟨none, _, _, _, _, _⟩) rfl (fun K hK => ?_) AllReadyH.nil; go_simp; refine hK.out _ _ trivial (fun hHeld => ?_); clear hK K; try simp only [Act.put, List.setIfInBounds_toArray, List.set_cons_zero, List.set_cons_succ]
                refine wpAnyH_take (i := 10) (oi := ⟨some 50, _, _, _, _, _⟩) (v := ?_) rfl (by kernel_rfl) (by kernel_rfl) (by kernel_rfl) (fun _ _ _ h => h) (Or.inl ⟨by rfl, ?_⟩) (by assumption) ?_
                rotate_left
                · intro w hSw
                  (try dsimp only at hSw)
                  go_simp
                  try with_reducible rfl
                try simp only [Act.put, List.setIfInBounds_toArray, List.set_cons_zero, List.set_cons_succ]
                refine wpAnyH_ready (rs := [11]) (by kernel_rfl) (by simp) ?_; refine AllReadyH.cons (o := ⟨none, _, _, _, _, _⟩) rfl (fun K hK => ?_) AllReadyH.nil; go_simp; refine hK.out _ _ trivial (fun hHeld => ?_); clear hK K; try simp only [Act.put, List.setIfInBounds_toArray, List.set_cons_zero, List.set_cons_succ]
                refine wpAnyH_done (by kernel_rfl) ?_ _; go_wp2_with fail; go_meet
                exact ⟨rfl, _, _, _, _, _, _, _, _, P6.stored, (val_zero1 _).trans eL, (val_zero1 _).trans eM, by omega, by omega⟩
               exact AllReadyH.nil
              exact AllReadyH.nil
             exact AllReadyH.nil
            refine AllReadyH.cons (o := ⟨some 46, _, _, _, _, _⟩) rfl (fun K hK => ?_) ?_
            ·obtain ⟨X0, X1, X2⟩ := P2.x; go_simp; refine hK.out _ _ trivial (fun hHeld => ?_); clear hK K X0 X1 X2; try simp only [Act.put, List.setIfInBounds_toArray, List.set_cons_zero, List.set_cons_succ]
             have P3 := P2; have t2_3 := t2_2; obtain ⟨w3, hw⟩ : ∃ v, v = w2 := ⟨_, rfl⟩; rw [← hw] at P3 ⊢; rw [← hw] at t2_3; clear hw
             refine wpAnyH_ready (rs := [3, 6]) (by kernel_rfl) (by simp) ?_
             refine AllReadyH.cons (o := ⟨some 44, _, _, _, _, _⟩) rfl (fun K hK => ?_) ?_
             ·refine step_append_lies _ rfl _ _ 22 rfl v.heap.size 48 i0 (.int .u32 0) 1 4 Tryd.underlying22 hi hz0 hz1 hz2 rfl (by decide) (.slice A n c) n (cells L) rfl P3.ma.row ⟨_, 0, none⟩ 1 1 [.int .u32 0] rfl rfl t2_3.news (one_cell _ rfl) (by decide) (room_one (by omega)) (by omega) P3.hk.size _ rfl ?_; intro g3 c3 w4 hown hgrow hat hlt; refine hK.out _ _ trivial (fun hHeld => ?_)
              clear hK K; try simp only [Act.put, List.setIfInBounds_toArray, List.set_cons_zero, List.set_cons_succ]
              have P4 := P3.growA hown hgrow hat
              clear hown hgrow hat hlt
              refine wpAnyH_take (i := 8) (oi := ⟨some 49, _, _, _, _, _⟩) (v := ?_) rfl (by kernel_rfl) (by kernel_rfl) (by kernel_rfl) (fun _ _ _ h => h) (Or.inl ⟨by rfl, ?_⟩) (by assumption) ?_
              rotate_left
              · intro w hSw
                (try dsimp only at hSw)
                go_simp
                try with_reducible rfl
              try simp only [Act.put, List.setIfInBounds_toArray, List.set_cons_zero, List.set_cons_succ]
              refine wpAnyH_ready (rs := [6]) (by kernel_rfl) (by simp) ?_
              refine AllReadyH.cons (o := ⟨some 47, _, _, _, _, _⟩) rfl (fun K hK => ?_) ?_
              ·go_simp; refine hK.out _ _ trivial (fun hHeld => ?_); clear hK K; try simp only [Act.put, List.setIfInBounds_toArray, List.set_cons_zero, List.set_cons_succ]
               have t6_5 := Lit.new P4 48; obtain ⟨w5, hv⟩ : ∃ v, w4.alloc (.cells #[.int .u32 0] 48) = v := ⟨_, rfl⟩
               have bc : Below w4.heap.size w4 w5 := by rw [← hv]; exact (Below.refl _ _).alloc (Nat.le_refl _) _
               rw [hv] at t6_5 ⊢; have P5 := P4.later bc; clear hv bc
               refine wpAnyH_ready (rs := [7]) (by kernel_rfl) (by simp) ?_
               refine AllReadyH.cons (o := ⟨some 48, _, _, _, _, _⟩) rfl (fun K hK => ?_) ?_
               ·refine step_append_lies _ rfl _ _ 22 rfl v.heap.size 48 i0 (.int .u32 0) 1 4 Tryd.underlying22 hi hz0 hz1 hz2 rfl (by decide) (.slice B m d) m (cells M) rfl P5.mb.row ⟨_, 0, none⟩ 1 1 [.int .u32 0] rfl rfl t6_5.news (one_cell _ rfl) (by decide) (room_one (by omega)) (by omega) P5.hk.size _ rfl ?_; intro g7 c7 w6 hown hgrow hat hlt; refine hK.out _ _ trivial (fun hHeld => ?_)
                clear hK K; try simp only [Act.put, List.setIfInBounds_toArray, List.set_cons_zero, List.set_cons_succ]
                have P6 := P5.growB hown hgrow hat
                clear hown hgrow hat hlt
                obtain ⟨X0, X1, X2⟩ := P6.x; obtain ⟨F0, F1, F2⟩ := P6.f
                refine wpAnyH_ready (rs := [9]) (by kernel_rfl) (by simp) ?_; refine AllReadyH.cons (o := ⟨none, _, _, _, _, _⟩) rfl (fun K hK => ?_) AllReadyH.nil; go_simp; refine hK.out _ _ trivial (fun hHeld => ?_); clear hK K; try simp only [Act.put, List.setIfInBounds_toArray, List.set_cons_zero, List.set_cons_succ]
                refine wpAnyH_take (i := 10) (oi := ⟨some 50, _, _, _, _, _⟩) (v := ?_) rfl (by kernel_rfl) (by kernel_rfl) (by kernel_rfl) (fun _ _ _ h => h) (Or.inl ⟨by rfl, ?_⟩) (by assumption) ?_
                rotate_left
                · intro w hSw
                  (try dsimp only at hSw)
                  go_simp
                  try with_reducible rfl
                try simp only [Act.put, List.setIfInBounds_toArray, List.set_cons_zero, List.set_cons_succ]
                refine wpAnyH_ready (rs := [11]) (by kernel_rfl) (by simp) ?_; refine AllReadyH.cons (o := ⟨none, _, _, _, _, _⟩) rfl (fun K hK => ?_) AllReadyH.nil; go_simp; refine hK.out _ _ trivial (fun hHeld => ?_); clear hK K; try simp only [Act.put, List.setIfInBounds_toArray, List.set_cons_zero, List.set_cons_succ]
                refine wpAnyH_done (by kernel_rfl) ?_ _; go_wp2_with fail; go_meet
                exact ⟨rfl, _, _, _, _, _, _, _, _, P6.stored, (val_zero1 _).trans eL, (val_zero1 _).trans eM, by omega, by omega⟩
               exact AllReadyH.nil
              exact AllReadyH.nil
             refine AllReadyH.cons (o := ⟨some 47, _, _, _, _, _⟩) rfl (fun K hK => ?_) ?_
             ·go_simp; refine hK.out _ _ trivial (fun hHeld => ?_); clear hK K; try simp only [Act.put, List.setIfInBounds_toArray, List.set_cons_zero, List.set_cons_succ]
              have t6_4 := Lit.new P3 48; obtain ⟨w4, hv⟩ : ∃ v, w3.alloc (.cells #[.int .u32 0] 48) = v := ⟨_, rfl⟩
              have bc : Below w3.heap.size w3 w4 := by rw [← hv]; exact (Below.refl _ _).alloc (Nat.le_refl _) _
              rw [hv] at t6_4 ⊢; have P4 := P3.later bc; have t2_4 := t2_3.later bc; clear hv bc
              refine wpAnyH_ready (rs := [3]) (by kernel_rfl) (by simp) ?_
              refine AllReadyH.cons (o := ⟨some 44, _, _, _, _, _⟩) rfl (fun K hK => ?_) ?_
              ·refine step_append_lies _ rfl _ _ 22 rfl v.heap.size 48 i0 (.int .u32 0) 1 4 Tryd.underlying22 hi hz0 hz1 hz2 rfl (by decide) (.slice A n c) n (cells L) rfl P4.ma.row ⟨_, 0, none⟩ 1 1 [.int .u32 0] rfl rfl t2_4.news (one_cell _ rfl) (by decide) (room_one (by omega)) (by omega) P4.hk.size _ rfl ?_; intro g3 c3 w5 hown hgrow hat hlt; refine hK.out _ _ trivial (fun hHeld => ?_)
               clear hK K; try simp only [Act.put, List.setIfInBounds_toArray, List.set_cons_zero, List.set_cons_succ]
               have P5 := P4.growA hown hgrow hat
               have t6_5 := t6_4.growA hgrow hat
               clear hown hgrow hat hlt
               refine wpAnyH_take (i := 8) (oi := ⟨some 49, _, _, _, _, _⟩) (v := ?_) rfl (by kernel_rfl) (by kernel_rfl) (by kernel_rfl) (fun _ _ _ h => h) (Or.inl ⟨by rfl, ?_⟩) (by assumption) ?_
               rotate_left
               · intro w hSw
                 (try dsimp only at hSw)
                 go_simp
                 try with_reducible rfl
               try simp only [Act.put, List.setIfInBounds_toArray, List.set_cons_zero, List.set_cons_succ]
               refine wpAnyH_ready (rs := [7]) (by kernel_rfl) (by simp) ?_
               refine AllReadyH.cons (o := ⟨some 48, _, _, _, _, _⟩) rfl (fun K hK => ?_) ?_
               ·refine step_append_lies _ rfl _ _ 22 rfl v.heap.size 48 i0 (.int .u32 0) 1 4 Tryd.underlying22 hi hz0 hz1 hz2 rfl (by decide) (.slice B m d) m (cells M) rfl P5.mb.row ⟨_, 0, none⟩ 1 1 [.int .u32 0] rfl rfl t6_5.news (one_cell _ rfl) (by decide) (room_one (by omega)) (by omega) P5.hk.size _ rfl ?_; intro g7 c7 w6 hown hgrow hat hlt; refine hK.out _ _ trivial (fun hHeld => ?_)
                clear hK K; try simp only [Act.put, List.setIfInBounds_toArray, List.set_cons_zero, List.set_cons_succ]
                have P6 := P5.growB hown hgrow hat
                clear hown hgrow hat hlt
                obtain ⟨X0, X1, X2⟩ := P6.x; obtain ⟨F0, F1, F2⟩ := P6.f
                refine wpAnyH_ready (rs := [9]) (by kernel_rfl) (by simp) ?_; refine AllReadyH.cons (o := ⟨none, _, _, _, _, _⟩) rfl (fun K hK => ?_) AllReadyH.nil; go_simp; refine hK.out _ _ trivial (fun hHeld => ?_); clear hK K; try simp only [Act.put, List.setIfInBounds_toArray, List.set_cons_zero, List.set_cons_succ]
                refine wpAnyH_take (i := 10) (oi := ⟨some 50, _, _, _, _, _⟩) (v := ?_) rfl (by kernel_rfl) (by kernel_rfl) (by kernel_rfl) (fun _ _ _ h => h) (Or.inl ⟨by rfl, ?_⟩) (by assumption) ?_
                rotate_left
                · intro w hSw
                  (try dsimp only at hSw)
                  go_simp
                  try with_reducible rfl
                try simp only [Act.put, List.setIfInBounds_toArray, List.set_cons_zero, List.set_cons_succ]
                refine wpAnyH_ready (rs := [11]) (by kernel_rfl) (by simp) ?_; refine AllReadyH.cons (o := ⟨none, _, _, _, _, _⟩) rfl (fun K hK => ?_) AllReadyH.nil; go_simp; refine hK.out _ _ trivial (fun hHeld => ?_); clear hK K; try simp only [Act.put, List.setIfInBounds_toArray, List.set_cons_zero, List.set_cons_succ]
                refine wpAnyH_done (by kernel_rfl) ?_ _; go_wp2_with fail; go_meet
                exact ⟨rfl, _, _, _, _, _, _, _, _, P6.stored, (val_zero1 _).trans eL, (val_zero1 _).trans eM, by omega, by omega⟩
               exact AllReadyH.nil
              exact AllReadyH.nil
             exact AllReadyH.nil
            refine AllReadyH.cons (o := ⟨some 47, _, _, _, _, _⟩) rfl (fun K hK => ?_) ?_
            ·go_simp; refine hK.out _ _ trivial (fun hHeld => ?_); clear hK K; try simp only [Act.put, List.setIfInBounds_toArray, List.set_cons_zero, List.set_cons_succ]
             have t6_3 := Lit.new P2 48; obtain ⟨w3, hv⟩ : ∃ v, w2.alloc (.cells #[.int .u32 0] 48) = v := ⟨_, rfl⟩
             have bc : Below w2.heap.size w2 w3 := by rw [← hv]; exact (Below.refl _ _).alloc (Nat.le_refl _) _
             rw [hv] at t6_3 ⊢; have P3 := P2.later bc; have t2_3 := t2_2.later bc; clear hv bc
             refine wpAnyH_ready (rs := [3, 5]) (by kernel_rfl) (by simp) ?_
             refine AllReadyH.cons (o := ⟨some 44, _, _, _, _, _⟩) rfl (fun K hK => ?_) ?_
             ·refine step_append_lies _ rfl _ _ 22 rfl v.heap.size 48 i0 (.int .u32 0) 1 4 Tryd.underlying22 hi hz0 hz1 hz2 rfl (by decide) (.slice A n c) n (cells L) rfl P3.ma.row ⟨_, 0, none⟩ 1 1 [.int .u32 0] rfl rfl t2_3.news (one_cell _ rfl) (by decide) (room_one (by omega)) (by omega) P3.hk.size _ rfl ?_; intro g3 c3 w4 hown hgrow hat hlt; refine hK.out _ _ trivial (fun hHeld => ?_)
              clear hK K; try simp only [Act.put, List.setIfInBounds_toArray, List.set_cons_zero, List.set_cons_succ]
              have P4 := P3.growA hown hgrow hat
              have t6_4 := t6_3.growA hgrow hat
              clear hown hgrow hat hlt
              refine wpAnyH_ready (rs := [5]) (by kernel_rfl) (by simp) ?_
              refine AllReadyH.cons (o := ⟨some 46, _, _, _, _, _⟩) rfl (fun K hK => ?_) ?_
              ·obtain ⟨X0, X1, X2⟩ := P4.x; go_simp; refine hK.out _ _ trivial (fun hHeld => ?_); clear hK K X0 X1 X2; try simp only [Act.put, List.setIfInBounds_toArray, List.set_cons_zero, List.set_cons_succ]
               have P5 := P4; have t6_5 := t6_4; obtain ⟨w5, hw⟩ : ∃ v, v = w4 := ⟨_, rfl⟩; rw [← hw] at P5 ⊢; rw [← hw] at t6_5; clear hw
               refine wpAnyH_take (i := 8) (oi := ⟨some 49, _, _, _, _, _⟩) (v := ?_) rfl (by kernel_rfl) (by kernel_rfl) (by kernel_rfl) (fun _ _ _ h => h) (Or.inl ⟨by rfl, ?_⟩) (by assumption) ?_
               rotate_left
               · intro w hSw
                 (try dsimp only at hSw)
                 go_simp
                 try with_reducible rfl
               try simp only [Act.put, List.setIfInBounds_toArray, List.set_cons_zero, List.set_cons_succ]
               refine wpAnyH_ready (rs := [7]) (by kernel_rfl) (by simp) ?_
               refine AllReadyH.cons (o := ⟨some 48, _, _, _, _, _⟩) rfl (fun K hK => ?_) ?_
               ·refine step_append_lies _ rfl _ _ 22 rfl v.heap.size 48 i0 (.int .u32 0) 1 4 Tryd.underlying22 hi hz0 hz1 hz2 rfl (by decide) (.slice B m d) m (cells M) rfl P5.mb.row ⟨_, 0, none⟩ 1 1 [.int .u32 0] rfl rfl t6_5.news (one_cell _ rfl) (by decide) (room_one (by omega)) (by omega) P5.hk.size _ rfl ?_; intro g7 c7 w6 hown hgrow hat hlt; refine hK.out _ _ trivial (fun hHeld => ?_)
                clear hK K; try simp only [Act.put, List.setIfInBounds_toArray, List.set_cons_zero, List.set_cons_succ]
                have P6 := P5.growB hown hgrow hat
                clear hown hgrow hat hlt
                obtain ⟨X0, X1, X2⟩ := P6.x; obtain ⟨F0, F1, F2⟩ := P6.f
                refine wpAnyH_ready (rs := [9]) (by kernel_rfl) (by simp) ?_; refine AllReadyH.cons (o := ⟨none, _, _, _, _, _⟩) rfl (fun K hK => ?_) AllReadyH.nil; go_simp; refine hK.out _ _ trivial (fun hHeld => ?_); clear hK K; try simp only [Act.put, List.setIfInBounds_toArray, List.set_cons_zero, List.set_cons_succ]
                refine wpAnyH_take (i := 10) (oi := ⟨some 50, _, _, _, _, _⟩) (v := ?_) rfl (by kernel_rfl) (by kernel_rfl) (by kernel_rfl) (fun _ _ _ h => h) (Or.inl ⟨by rfl, ?_⟩) (by assumption) ?_
                rotate_left
                · intro w hSw
                  (try dsimp only at hSw)
                  go_simp
                  try with_reducible rfl
                try simp only [Act.put, List.setIfInBounds_toArray, List.set_cons_zero, List.set_cons_succ]
                refine wpAnyH_ready (rs := [11]) (by kernel_rfl) (by simp) ?_; refine AllReadyH.cons (o := ⟨none, _, _, _, _, _⟩) rfl (fun K hK => ?_) AllReadyH.nil; go_simp; refine hK.out _ _ trivial (fun hHeld => ?_); clear hK K; try simp only [Act.put, List.setIfInBounds_toArray, List.set_cons_zero, List.set_cons_succ]
                refine wpAnyH_done (by kernel_rfl) ?_ _; go_wp2_with fail; go_meet
                exact ⟨rfl, _, _, _, _, _, _, _, _, P6.stored, (val_zero1 _).trans eL, (val_zero1 _).trans eM, by omega, by omega⟩
               exact AllReadyH.nil
              exact AllReadyH.nil
             refine AllReadyH.cons (o := ⟨some 46, _, _, _, _, _⟩) rfl (fun K hK => ?_) ?_
             ·obtain ⟨X0, X1, X2⟩ := P3.x; go_simp; refine hK.out _ _ trivial (fun hHeld => ?_); clear hK K X0 X1 X2; try simp only [Act.put, List.setIfInBounds_toArray, List.set_cons_zero, List.set_cons_succ]
              have P4 := P3; have t2_4 := t2_3; have t6_4 := t6_3; obtain ⟨w4, hw⟩ : ∃ v, v = w3 := ⟨_, rfl⟩; rw [← hw] at P4 ⊢; rw [← hw] at t2_4; rw [← hw] at t6_4; clear hw
              refine wpAnyH_ready (rs := [3]) (by kernel_rfl) (by simp) ?_
              refine AllReadyH.cons (o := ⟨some 44, _, _, _, _, _⟩) rfl (fun K hK => ?_) ?_
              ·refine step_append_lies _ rfl _ _ 22 rfl v.heap.size 48 i0 (.int .u32 0) 1 4 Tryd.underlying22 hi hz0 hz1 hz2 rfl (by decide) (.slice A n c) n (cells L) rfl P4.ma.row ⟨_, 0, none⟩ 1 1 [.int .u32 0] rfl rfl t2_4.news (one_cell _ rfl) (by decide) (room_one (by omega)) (by omega) P4.hk.size _ rfl ?_; intro g3 c3 w5 hown hgrow hat hlt; refine hK.out _ _ trivial (fun hHeld => ?_)
               clear hK K; try simp only [Act.put, List.setIfInBounds_toArray, List.set_cons_zero, List.set_cons_succ]
               have P5 := P4.growA hown hgrow hat
               have t6_5 := t6_4.growA hgrow hat
               clear hown hgrow hat hlt
               refine wpAnyH_take (i := 8) (oi := ⟨some 49, _, _, _, _, _⟩) (v := ?_) rfl (by kernel_rfl) (by kernel_rfl) (by kernel_rfl) (fun _ _ _ h => h) (Or.inl ⟨by rfl, ?_⟩) (by assumption) ?_
               rotate_left
               · intro w hSw
                 (try dsimp only at hSw)
                 go_simp
                 try with_reducible rfl
               try simp only [Act.put, List.setIfInBounds_toArray, List.set_cons_zero, List.set_cons_succ]
               refine wpAnyH_ready (rs := [7]) (by kernel_rfl) (by simp) ?_
               refine AllReadyH.cons (o := ⟨some 48, _, _, _, _, _⟩) rfl (fun K hK => ?_) ?_
               ·refine step_append_lies _ rfl _ _ 22 rfl v.heap.size 48 i0 (.int .u32 0) 1 4 Tryd.underlying22 hi hz0 hz1 hz2 rfl (by decide) (.slice B m d) m (cells M) rfl P5.mb.row ⟨_, 0, none⟩ 1 1 [.int .u32 0] rfl rfl t6_5.news (one_cell _ rfl) (by decide) (room_one (by omega)) (by omega) P5.hk.size _ rfl ?_; intro g7 c7 w6 hown hgrow hat hlt; refine hK.out _ _ trivial (fun hHeld => ?_)
                clear hK K; try simp only [Act.put, List.setIfInBounds_toArray, List.set_cons_zero, List.set_cons_succ]
                have P6 := P5.growB hown hgrow hat
                clear hown hgrow hat hlt
                obtain ⟨X0, X1, X2⟩ := P6.x; obtain ⟨F0, F1, F2⟩ := P6.f
                refine wpAnyH_ready (rs := [9]) (by kernel_rfl) (by simp) ?_; refine AllReadyH.cons (o := ⟨none, _, _, _, _, _⟩) rfl (fun K hK => ?_) AllReadyH.nil; go_simp; refine hK.out _ _ trivial (fun hHeld => ?_); clear hK K; try simp only [Act.put, List.setIfInBounds_toArray, List.set_cons_zero, List.set_cons_succ]
                refine wpAnyH_take (i := 10) (oi := ⟨some 50, _, _, _, _, _⟩) (v := ?_) rfl (by kernel_rfl) (by kernel_rfl) (by kernel_rfl) (fun _ _ _ h => h) (Or.inl ⟨by rfl, ?_⟩) (by assumption) ?_
                rotate_left
                · intro w hSw
                  (try dsimp only at hSw)
                  go_simp
                  try with_reducible rfl
                try simp only [Act.put, List.setIfInBounds_toArray, List.set_cons_zero, List.set_cons_succ]
                refine wpAnyH_ready (rs := [11]) (by kernel_rfl) (by simp) ?_; refine AllReadyH.cons (o := ⟨none, _, _, _, _, _⟩) rfl (fun K hK => ?_) AllReadyH.nil; go_simp; refine hK.out _ _ trivial (fun hHeld => ?_); clear hK K; try simp only [Act.put, List.setIfInBounds_toArray, List.set_cons_zero, List.set_cons_succ]
                refine wpAnyH_done (by kernel_rfl) ?_ _; go_wp2_with fail; go_meet
                exact ⟨rfl, _, _, _, _, _, _, _, _, P6.stored, (val_zero1 _).trans eL, (val_zero1 _).trans eM, by omega, by omega⟩
               exact AllReadyH.nil
              exact AllReadyH.nil
             exact AllReadyH.nil
            exact AllReadyH.nil
           refine AllReadyH.cons (o := ⟨some 46, _, _, _, _, _⟩) rfl (fun K hK => ?_) ?_
           ·obtain ⟨X0, X1, X2⟩ := P1.x; go_simp; refine hK.out _ _ trivial (fun hHeld => ?_); clear hK K X0 X1 X2; try simp only [Act.put, List.setIfInBounds_toArray, List.set_cons_zero, List.set_cons_succ]
            have P2 := P1; have t2_2 := t2_1; obtain ⟨w2, hw⟩ : ∃ v, v = w1 := ⟨_, rfl⟩; rw [← hw] at P2 ⊢; rw [← hw] at t2_2; clear hw
            refine wpAnyH_ready (rs := [1, 6]) (by kernel_rfl) (by simp) ?_
            refine AllReadyH.cons (o := ⟨some 42, _, _, _, _, _⟩) rfl (fun K hK => ?_) ?_
            ·obtain ⟨X0, X1, X2⟩ := P2.x; go_simp; refine hK.out _ _ trivial (fun hHeld => ?_); clear hK K X0 X1 X2; try simp only [Act.put, List.setIfInBounds_toArray, List.set_cons_zero, List.set_cons_succ]
             have P3 := P2; have t2_3 := t2_2; obtain ⟨w3, hw⟩ : ∃ v, v = w2 := ⟨_, rfl⟩; rw [← hw] at P3 ⊢; rw [← hw] at t2_3; clear hw
             refine wpAnyH_ready (rs := [3, 6]) (by kernel_rfl) (by simp) ?_
             refine AllReadyH.cons (o := ⟨some 44, _, _, _, _, _⟩) rfl (fun K hK => ?_) ?_
             ·refine step_append_lies _ rfl _ _ 22 rfl v.heap.size 48 i0 (.int .u32 0) 1 4 Tryd.underlying22 hi hz0 hz1 hz2 rfl (by decide) (.slice A n c) n (cells L) rfl P3.ma.row ⟨_, 0, none⟩ 1 1 [.int .u32 0] rfl rfl t2_3.news (one_cell _ rfl) (by decide) (room_one (by omega)) (by omega) P3.hk.size _ rfl ?_; intro g3 c3 w4 hown hgrow hat hlt; refine hK.out _ _ trivial (fun hHeld => ?_)
              clear hK K; try simp only [Act.put, List.setIfInBounds_toArray, List.set_cons_zero, List.set_cons_succ]
              have P4 := P3.growA hown hgrow hat
              clear hown hgrow hat hlt
              refine wpAnyH_take (i := 8) (oi := ⟨some 49, _, _, _, _, _⟩) (v := ?_) rfl (by kernel_rfl) (by kernel_rfl) (by kernel_rfl) (fun _ _ _ h => h) (Or.inl ⟨by rfl, ?_⟩) (by assumption) ?_
              rotate_left
              · intro w hSw
                (try dsimp only at hSw)
                go_simp
                try with_reducible rfl
              try simp only [Act.put, List.setIfInBounds_toArray, List.set_cons_zero, List.set_cons_succ]
              refine wpAnyH_ready (rs := [6]) (by kernel_rfl) (by simp) ?_
              refine AllReadyH.cons (o := ⟨some 47, _, _, _, _, _⟩) rfl (fun K hK => ?_) ?_
              ·go_simp; refine hK.out _ _ trivial (fun hHeld => ?_); clear hK K; try simp only [Act.put, List.setIfInBounds_toArray, List.set_cons_zero, List.set_cons_succ]
               have t6_5 := Lit.new P4 48; obtain ⟨w5, hv⟩ : ∃ v, w4.alloc (.cells #[.int .u32 0] 48) = v := ⟨_, rfl⟩
               have bc : Below w4.heap.size w4 w5 := by rw [← hv]; exact (Below.refl _ _).alloc (Nat.le_refl _) _
               rw [hv] at t6_5 ⊢; have P5 := P4.later bc; clear hv bc
               refine wpAnyH_ready (rs := [7]) (by kernel_rfl) (by simp) ?_
               refine AllReadyH.cons (o := ⟨some 48, _, _, _, _, _⟩) rfl (fun K hK => ?_) ?_
               ·refine step_append_lies _ rfl _ _ 22 rfl v.heap.size 48 i0 (.int .u32 0) 1 4 Tryd.underlying22 hi hz0 hz1 hz2 rfl (by decide) (.slice B m d) m (cells M) rfl P5.mb.row ⟨_, 0, none⟩ 1 1 [.int .u32 0] rfl rfl t6_5.news (one_cell _ rfl) (by decide) (room_one (by omega)) (by omega) P5.hk.size _ rfl ?_; intro g7 c7 w6 hown hgrow hat hlt; refine hK.out _ _ trivial (fun hHeld => ?_)
                clear hK K; try simp only [Act.put, List.setIfInBounds_toArray, List.set_cons_zero, List.set_cons_succ]
                have P6 := P5.growB hown hgrow hat
                clear hown hgrow hat hlt
                obtain ⟨X0, X1, X2⟩ := P6.x; obtain ⟨F0, F1, F2⟩ := P6.f
                refine wpAnyH_ready (rs := [9]) (by kernel_rfl) (by simp) ?_; refine AllReadyH.cons (o := ⟨none, _, _, _, _, _⟩) rfl (fun K hK => ?_) AllReadyH.nil; go_simp; refine hK.out _ _ trivial (fun hHeld => ?_); clear hK K; try simp only [Act.put, List.setIfInBounds_toArray, List.set_cons_zero, List.set_cons_succ]
                refine wpAnyH_take (i := 10) (oi := ⟨some 50, _, _, _, _, _⟩) (v := ?_) rfl (by kernel_rfl) (by kernel_rfl) (by kernel_rfl) (fun _ _ _ h => h) (Or.inl ⟨by rfl, ?_⟩) (by assumption) ?_
                rotate_left
                · intro w hSw
                  (try dsimp only at hSw)
                  go_simp
                  try with_reducible rfl
                try simp only [Act.put, List.setIfInBounds_toArray, List.set_cons_zero, List.set_cons_succ]
                refine wpAnyH_ready (rs := [11]) (by kernel_rfl) (by simp) ?_; refine AllReadyH.cons (o := ⟨none, _, _, _, _, _⟩) rfl (fun K hK => ?_) AllReadyH.nil; go_simp; refine hK.out _ _ trivial (fun hHeld => ?_); clear hK K; try simp only [Act.put, List.setIfInBounds_toArray, List.set_cons_zero, List.set_cons_succ]
                refine wpAnyH_done (by kernel_rfl) ?_ _; go_wp2_with fail; go_meet
                exact ⟨rfl, _, _, _, _, _, _, _, _, P6.stored, (val_zero1 _).trans eL, (val_zero1 _).trans eM, by omega, by omega⟩
               exact AllReadyH.nil
              exact AllReadyH.nil
             refine AllReadyH.cons (o := ⟨some 47, _, _, _, _, _⟩) rfl (fun K hK => ?_) ?_
             ·go_simp; refine hK.out _ _ trivial (fun hHeld => ?_); clear hK K; try simp only [Act.put, List.setIfInBounds_toArray, List.set_cons_zero, List.set_cons_succ]
              have t6_4 := Lit.new P3 48; obtain ⟨w4, hv⟩ : ∃ v, w3.alloc (.cells #[.int .u32 0] 48) = v := ⟨_, rfl⟩
              have bc : Below w3.heap.size w3 w4 := by rw [← hv]; exact (Below.refl _ _).alloc (Nat.le_refl _) _
              rw [hv] at t6_4 ⊢; have P4 := P3.later bc; have t2_4 := t2_3.later bc; clear hv bc
              refine wpAnyH_ready (rs := [3]) (by kernel_rfl) (by simp) ?_
              refine AllReadyH.cons (o := ⟨some 44, _, _, _, _, _⟩) rfl (fun K hK => ?_) ?_
              ·refine step_append_lies _ rfl _ _ 22 rfl v.heap.size 48 i0 (.int .u32 0) 1 4 Tryd.underlying22 hi hz0 hz1 hz2 rfl (by decide) (.slice A n c) n (cells L) rfl P4.ma.row ⟨_, 0, none⟩ 1 1 [.int .u32 0] rfl rfl t2_4.news (one_cell _ rfl) (by decide) (room_one (by omega)) (by omega) P4.hk.size _ rfl ?_; intro g3 c3 w5 hown hgrow hat hlt; refine hK.out _ _ trivial (fun hHeld => ?_)
               clear hK K; try simp only [Act.put, List.setIfInBounds_toArray, List.set_cons_zero, List.set_cons_succ]
               have P5 := P4.growA hown hgrow hat
               have t6_5 := t6_4.growA hgrow hat
               clear hown hgrow hat hlt
               refine wpAnyH_take (i := 8) (oi := ⟨some 49, _, _, _, _, _⟩) (v := ?_) rfl (by kernel_rfl) (by kernel_rfl) (by kernel_rfl) (fun _ _ _ h => h) (Or.inl ⟨by rfl, ?_⟩) (by assumption) ?_
               rotate_left
               · intro w hSw
                 (try dsimp only at hSw)
                 go_simp
                 try with_reducible rfl
               try simp only [Act.put, List.setIfInBounds_toArray, List.set_cons_zero, List.set_cons_succ]
               refine wpAnyH_ready (rs := [7]) (by kernel_rfl) (by simp) ?_
               refine AllReadyH.cons (o := ⟨some 48, _, _, _, _, _⟩) rfl (fun K hK => ?_) ?_
               ·refine step_append_lies _ rfl _ _ 22 rfl v.heap.size 48 i0 (.int .u32 0) 1 4 Tryd.underlying22 hi hz0 hz1 hz2 rfl (by decide) (.slice B m d) m (cells M) rfl P5.mb.row ⟨_, 0, none⟩ 1 1 [.int .u32 0] rfl rfl t6_5.news (one_cell _ rfl) (by decide) (room_one (by omega)) (by omega) P5.hk.size _ rfl ?_; intro g7 c7 w6 hown hgrow hat hlt; refine hK.out _ _ trivial (fun hHeld => ?_)
                clear hK K; try simp only [Act.put, List.setIfInBounds_toArray, List.set_cons_zero, List.set_cons_succ]
                have P6 := P5.growB hown hgrow hat
                clear hown hgrow hat hlt
                obtain ⟨X0, X1, X2⟩ := P6.x; obtain ⟨F0, F1, F2⟩ := P6.f
                refine wpAnyH_ready (rs := [9]) (by kernel_rfl) (by simp) ?_; refine AllReadyH.cons (o := ⟨none, _, _, _, _, _⟩) rfl (fun K hK => ?_) AllReadyH.nil; go_simp; refine hK.out _ _ trivial (fun hHeld => ?_); clear hK K; try simp only [Act.put, List.setIfInBounds_toArray, List.set_cons_zero, List.set_cons_succ]
                refine wpAnyH_take (i := 10) (oi := ⟨some 50, _, _, _, _, _⟩) (v := ?_) rfl (by kernel_rfl) (by kernel_rfl) (by kernel_rfl) (fun _ _ _ h => h) (Or.inl ⟨by rfl, ?_⟩) (by assumption) ?_
                rotate_left
                · intro w hSw
                  (try dsimp only at hSw)
                  go_simp
                  try with_reducible rfl
                try simp only [Act.put, List.setIfInBounds_toArray, List.set_cons_zero, List.set_cons_succ]
                refine wpAnyH_ready (rs := [11]) (by kernel_rfl) (by simp) ?_; refine AllReadyH.cons (o := ⟨none, _, _, _, _, _⟩) rfl (fun K hK => ?_) AllReadyH.nil; go_simp; refine hK.out _ _ trivial (fun hHeld => ?_); clear hK K; try simp only [Act.put, List.setIfInBounds_toArray, List.set_cons_zero, List.set_cons_succ]
                refine wpAnyH_done (by kernel_rfl) ?_ _; go_wp2_with fail; go_meet
                exact ⟨rfl, _, _, _, _, _, _, _, _, P6.stored, (val_zero1 _).trans eL, (val_zero1 _).trans eM, by omega, by omega⟩
               exact AllReadyH.nil
              exact AllReadyH.nil
             exact AllReadyH.nil
            refine AllReadyH.cons (o := ⟨some 47, _, _, _, _, _⟩) rfl (fun K hK => ?_) ?_
            ·go_simp; refine hK.out _ _ trivial (fun hHeld => ?_); clear hK K; try simp only [Act.put, List.setIfInBounds_toArray, List.set_cons_zero, List.set_cons_succ]
             have t6_3 := Lit.new P2 48; obtain ⟨w3, hv⟩ : ∃ v, w2.alloc (.cells #[.int .u32 0] 48) = v := ⟨_, rfl⟩
             have bc : Below w2.heap.size w2 w3 := by rw [← hv]; exact (Below.refl _ _).alloc (Nat.le_refl _) _
             rw [hv] at t6_3 ⊢; have P3 := P2.later bc; have t2_3 := t2_2.later bc; clear hv bc
             refine wpAnyH_ready (rs := [1]) (by kernel_rfl) (by simp) ?_
             refine AllReadyH.cons (o := ⟨some 42, _, _, _, _, _⟩) rfl (fun K hK => ?_) ?_
             ·obtain ⟨X0, X1, X2⟩ := P3.x; go_simp; refine hK.out _ _ trivial (fun hHeld => ?_); clear hK K X0 X1 X2; try simp only [Act.put, List.setIfInBounds_toArray, List.set_cons_zero, List.set_cons_succ]
              have P4 := P3; have t2_4 := t2_3; have t6_4 := t6_3; obtain ⟨w4, hw⟩ : ∃ v, v = w3 := ⟨_, rfl⟩; rw [← hw] at P4 ⊢; rw [← hw] at t2_4; rw [← hw] at t6_4; clear hw
              refine wpAnyH_ready (rs := [3]) (by kernel_rfl) (by simp) ?_
              refine AllReadyH.cons (o := ⟨some 44, _, _, _, _, _⟩) rfl (fun K hK => ?_) ?_
              ·refine step_append_lies _ rfl _ _ 22 rfl v.heap.size 48 i0 (.int .u32 0) 1 4 Tryd.underlying22 hi hz0 hz1 hz2 rfl (by decide) (.slice A n c) n (cells L) rfl P4.ma.row ⟨_, 0, none⟩ 1 1 [.int .u32 0] rfl rfl t2_4.news (one_cell _ rfl) (by decide) (room_one (by omega)) (by omega) P4.hk.size _ rfl ?_; intro g3 c3 w5 hown hgrow hat hlt; refine hK.out _ _ trivial (fun hHeld => ?_)
               clear hK K; try simp only [Act.put, List.setIfInBounds_toArray, List.set_cons_zero, List.set_cons_succ]
               have P5 := P4.growA hown hgrow hat
               have t6_5 := t6_4.growA hgrow hat
               clear hown hgrow hat hlt
               refine wpAnyH_take (i := 8) (oi := ⟨some 49, _, _, _, _, _⟩) (v := ?_) rfl (by kernel_rfl) (by kernel_rfl) (by kernel_rfl) (fun _ _ _ h => h) (Or.inl ⟨by rfl, ?_⟩) (by assumption) ?_
               rotate_left
               · intro w hSw
                 (try dsimp only at hSw)
                 go_simp
                 try with_reducible rfl
               try simp only [Act.put, List.setIfInBounds_toArray, List.set_cons_zero, List.set_cons_succ]
               refine wpAnyH_ready (rs := [7]) (by kernel_rfl) (by simp) ?_
               refine AllReadyH.cons (o := ⟨some 48, _, _, _, _, _⟩) rfl (fun K hK => ?_) ?_
               ·refine step_append_lies _ rfl _ _ 22 rfl v.heap.size 48 i0 (.int .u32 0) 1 4 Tryd.underlying22 hi hz0 hz1 hz2 rfl (by decide) (.slice B m d) m (cells M) rfl P5.mb.row ⟨_, 0, none⟩ 1 1 [.int .u32 0] rfl rfl t6_5.news (one_cell _ rfl) (by decide) (room_one (by omega)) (by omega) P5.hk.size _ rfl ?_; intro g7 c7 w6 hown hgrow hat hlt; refine hK.out _ _ trivial (fun hHeld => ?_)
                clear hK K; try simp only [Act.put, List.setIfInBounds_toArray, List.set_cons_zero, List.set_cons_succ]
                have P6 := P5.growB hown hgrow hat
                clear hown hgrow hat hlt
                obtain ⟨X0, X1, X2⟩ := P6.x; obtain ⟨F0, F1, F2⟩ := P6.f
                refine wpAnyH_ready (rs := [9]) (by kernel_rfl) (by simp) ?_; refine AllReadyH.cons (o := ⟨none, _, _, _, _, _⟩) rfl (fun K hK => ?_) AllReadyH.nil; go_simp; refine hK.out _ _ trivial (fun hHeld => ?_); clear hK K; try simp only [Act.put, List.setIfInBounds_toArray, List.set_cons_zero, List.set_cons_succ]
                refine wpAnyH_take (i := 10) (oi := ⟨some 50, _, _, _, _, _⟩) (v := ?_) rfl (by kernel_rfl) (by kernel_rfl) (by kernel_rfl) (fun _ _ _ h => h) (Or.inl ⟨by rfl, ?_⟩) (by assumption) ?_
                rotate_left
                · intro w hSw
                  (try dsimp only at hSw)
                  go_simp
                  try with_reducible rfl
                try simp only [Act.put, List.setIfInBounds_toArray, List.set_cons_zero, List.set_cons_succ]
                refine wpAnyH_ready (rs := [11]) (by kernel_rfl) (by simp) ?_; refine AllReadyH.cons (o := ⟨none, _, _, _, _, _⟩) rfl (fun K hK => ?_) AllReadyH.nil; go_simp; refine hK.out _ _ trivial (fun hHeld => ?_); clear hK K; try simp only [Act.put, List.setIfInBounds_toArray, List.set_cons_zero, List.set_cons_succ]
                refine wpAnyH_done (by kernel_rfl) ?_ _; go_wp2_with fail; go_meet
                exact ⟨rfl, _, _, _, _, _, _, _, _, P6.stored, (val_zero1 _).trans eL, (val_zero1 _).trans eM, by omega, by omega⟩
               exact AllReadyH.nil
              exact AllReadyH.nil
             exact AllReadyH.nil
            exact AllReadyH.nil
           refine AllReadyH.cons (o := ⟨some 47, _, _, _, _, _⟩) rfl (fun K hK => ?_) ?_
           ·go_simp; refine hK.out _ _ trivial (fun hHeld => ?_); clear hK K; try simp only [Act.put, List.setIfInBounds_toArray, List.set_cons_zero, List.set_cons_succ]
            have t6_2 := Lit.new P1 48; obtain ⟨w2, hv⟩ : ∃ v, w1.alloc (.cells #[.int .u32 0] 48) = v := ⟨_, rfl⟩
            have bc : Below w1.heap.size w1 w2 := by rw [← hv]; exact (Below.refl _ _).alloc (Nat.le_refl _) _
            rw [hv] at t6_2 ⊢; have P2 := P1.later bc; have t2_2 := t2_1.later bc; clear hv bc
            refine wpAnyH_ready (rs := [1, 5]) (by kernel_rfl) (by simp) ?_
            refine AllReadyH.cons (o := ⟨some 42, _, _, _, _, _⟩) rfl (fun K hK => ?_) ?_
            ·obtain ⟨X0, X1, X2⟩ := P2.x; go_simp; refine hK.out _ _ trivial (fun hHeld => ?_); clear hK K X0 X1 X2; try simp only [Act.put, List.setIfInBounds_toArray, List.set_cons_zero, List.set_cons_succ]
             have P3 := P2; have t2_3 := t2_2; have t6_3 := t6_2; obtain ⟨w3, hw⟩ : ∃ v, v = w2 := ⟨_, rfl⟩; rw [← hw] at P3 ⊢; rw [← hw] at t2_3; rw [← hw] at t6_3; clear hw
             refine wpAnyH_ready (rs := [3, 5]) (by kernel_rfl) (by simp) ?_
             refine AllReadyH.cons (o := ⟨some 44, _, _, _, _, _⟩) rfl (fun K hK => ?_) ?_
             ·refine step_append_lies _ rfl _ _ 22 rfl v.heap.size 48 i0 (.int .u32 0) 1 4 Tryd.underlying22 hi hz0 hz1 hz2 rfl (by decide) (.slice A n c) n (cells L) rfl P3.ma.row ⟨_, 0, none⟩ 1 1 [.int .u32 0] rfl rfl t2_3.news (one_cell _ rfl) (by decide) (room_one (by omega)) (by omega) P3.hk.size _ rfl ?_; intro g3 c3 w4 hown hgrow hat hlt; refine hK.out _ _ trivial (fun hHeld => ?_)
              clear hK K; try simp only [Act.put, List.setIfInBounds_toArray, List.set_cons_zero, List.set_cons_succ]
              have P4 := P3.growA hown hgrow hat
              have t6_4 := t6_3.growA hgrow hat
              clear hown hgrow hat hlt
              refine wpAnyH_ready (rs := [5]) (by kernel_rfl) (by simp) ?_
              refine AllReadyH.cons (o := ⟨some 46, _, _, _, _, _⟩) rfl (fun K hK => ?_) ?_
              ·obtain ⟨X0, X1, X2⟩ := P4.x; go_simp; refine hK.out _ _ trivial (fun hHeld => ?_); clear hK K X0 X1 X2; try simp only [Act.put, List.setIfInBounds_toArray, List.set_cons_zero, List.set_cons_succ]
               have P5 := P4; have t6_5 := t6_4; obtain ⟨w5, hw⟩ : ∃ v, v = w4 := ⟨_, rfl⟩; rw [← hw] at P5 ⊢; rw [← hw] at t6_5; clear hw
               refine wpAnyH_take (i := 8) (oi := ⟨some 49, _, _, _, _, _⟩) (v := ?_) rfl (by kernel_rfl) (by kernel_rfl) (by kernel_rfl) (fun _ _ _ h => h) (Or.inl ⟨by rfl, ?_⟩) (by assumption) ?_
               rotate_left
               · intro w hSw
                 (try dsimp only at hSw)
                 go_simp
                 try with_reducible rfl
               try simp only [Act.put, List.setIfInBounds_toArray, List.set_cons_zero, List.set_cons_succ]
               refine wpAnyH_ready (rs := [7]) (by kernel_rfl) (by simp) ?_
               refine AllReadyH.cons (o := ⟨some 48, _, _, _, _, _⟩) rfl (fun K hK => ?_) ?_
               ·refine step_append_lies _ rfl _ _ 22 rfl v.heap.size 48 i0 (.int .u32 0) 1 4 Tryd.underlying22 hi hz0 hz1 hz2 rfl (by decide) (.slice B m d) m (cells M) rfl P5.mb.row ⟨_, 0, none⟩ 1 1 [.int .u32 0] rfl rfl t6_5.news (one_cell _ rfl) (by decide) (room_one (by omega)) (by omega) P5.hk.size _ rfl ?_; intro g7 c7 w6 hown hgrow hat hlt; refine hK.out _ _ trivial (fun hHeld => ?_)
                clear hK K; try simp only [Act.put, List.setIfInBounds_toArray, List.set_cons_zero, List.set_cons_succ]
                have P6 := P5.growB hown hgrow hat
                clear hown hgrow hat hlt
                obtain ⟨X0, X1, X2⟩ := P6.x; obtain ⟨F0, F1, F2⟩ := P6.f
                refine wpAnyH_ready (rs := [9]) (by kernel_rfl) (by simp) ?_; refine AllReadyH.cons (o := ⟨none, _, _, _, _, _⟩) rfl (fun K hK => ?_) AllReadyH.nil; go_simp; refine hK.out _ _ trivial (fun hHeld => ?_); clear hK K; try simp only [Act.put, List.setIfInBounds_toArray, List.set_cons_zero, List.set_cons_succ]
                refine wpAnyH_take (i := 10) (oi := ⟨some 50, _, _, _, _, _⟩) (v := ?_) rfl (by kernel_rfl) (by kernel_rfl) (by kernel_rfl) (fun _ _ _ h => h) (Or.inl ⟨by rfl, ?_⟩) (by assumption) ?_
                rotate_left
                · intro w hSw
                  (try dsimp only at hSw)
                  go_simp
                  try with_reducible rfl
                try simp only [Act.put, List.setIfInBounds_toArray, List.set_cons_zero, List.set_cons_succ]
                refine wpAnyH_ready (rs := [11]) (by kernel_rfl) (by simp) ?_; refine AllReadyH.cons (o := ⟨none, _, _, _, _, _⟩) rfl (fun K hK => ?_) AllReadyH.nil; go_simp; refine hK.out _ _ trivial (fun hHeld => ?_); clear hK K; try simp only [Act.put, List.setIfInBounds_toArray, List.set_cons_zero, List.set_cons_succ]
                refine wpAnyH_done (by kernel_rfl) ?_ _; go_wp2_with fail; go_meet
                exact ⟨rfl, _, _, _, _, _, _, _, _, P6.stored, (val_zero1 _).trans eL, (val_zero1 _).trans eM, by omega, by omega⟩
               exact AllReadyH.nil
              exact AllReadyH.nil
             refine AllReadyH.cons (o := ⟨some 46, _, _, _, _, _⟩) rfl (fun K hK => ?_) ?_
             ·obtain ⟨X0, X1, X2⟩ := P3.x; go_simp; refine hK.out _ _ trivial (fun hHeld => ?_); clear hK K X0 X1 X2; try simp only [Act.put, List.setIfInBounds_toArray, List.set_cons_zero, List.set_cons_succ]
              have P4 := P3; have t2_4 := t2_3; have t6_4 := t6_3; obtain ⟨w4, hw⟩ : ∃ v, v = w3 := ⟨_, rfl⟩; rw [← hw] at P4 ⊢; rw [← hw] at t2_4; rw [← hw] at t6_4; clear hw
              refine wpAnyH_ready (rs := [3]) (by kernel_rfl) (by simp) ?_
              refine AllReadyH.cons (o := ⟨some 44, _, _, _, _, _⟩) rfl (fun K hK => ?_) ?_
              ·refine step_append_lies _ rfl _ _ 22 rfl v.heap.size 48 i0 (.int .u32 0) 1 4 Tryd.underlying22 hi hz0 hz1 hz2 rfl (by decide) (.slice A n c) n (cells L) rfl P4.ma.row ⟨_, 0, none⟩ 1 1 [.int .u32 0] rfl rfl t2_4.news (one_cell _ rfl) (by decide) (room_one (by omega)) (by omega) P4.hk.size _ rfl ?_; intro g3 c3 w5 hown hgrow hat hlt; refine hK.out _ _ trivial (fun hHeld => ?_)
               clear hK K; try simp only [Act.put, List.setIfInBounds_toArray, List.set_cons_zero, List.set_cons_succ]
               have P5 := P4.growA hown hgrow hat
               have t6_5 := t6_4.growA hgrow hat
               clear hown hgrow hat hlt
               refine wpAnyH_take (i := 8) (oi := ⟨some 49, _, _, _, _, _⟩) (v := ?_) rfl (by kernel_rfl) (by kernel_rfl) (by kernel_rfl) (fun _ _ _ h => h) (Or.inl ⟨by rfl, ?_⟩) (by assumption) ?_
               rotate_left
               · intro w hSw
                 (try dsimp only at hSw)
                 go_simp
                 try with_reducible rfl
               try simp only [Act.put, List.setIfInBounds_toArray, List.set_cons_zero, List.set_cons_succ]
               refine wpAnyH_ready (rs := [7]) (by kernel_rfl) (by simp) ?_
               refine AllReadyH.cons (o := ⟨some 48, _, _, _, _, _⟩) rfl (fun K hK => ?_) ?_
               ·refine step_append_lies _ rfl _ _ 22 rfl v.heap.size 48 i0 (.int .u32 0) 1 4 Tryd.underlying22 hi hz0 hz1 hz2 rfl (by decide) (.slice B m d) m (cells M) rfl P5.mb.row ⟨_, 0, none⟩ 1 1 [.int .u32 0] rfl rfl t6_5.news (one_cell _ rfl) (by decide) (room_one (by omega)) (by omega) P5.hk.size _ rfl ?_; intro g7 c7 w6 hown hgrow hat hlt; refine hK.out _ _ trivial (fun hHeld => ?_)
                clear hK K; try simp only [Act.put, List.setIfInBounds_toArray, List.set_cons_zero, List.set_cons_succ]
                have P6 := P5.growB hown hgrow hat
                clear hown hgrow hat hlt
                obtain ⟨X0, X1, X2⟩ := P6.x; obtain ⟨F0, F1, F2⟩ := P6.f
                refine wpAnyH_ready (rs := [9]) (by kernel_rfl) (by simp) ?_; refine AllReadyH.cons (o := ⟨none, _, _, _, _, _⟩) rfl (fun K hK => ?_) AllReadyH.nil; go_simp; refine hK.out _ _ trivial (fun hHeld => ?_); clear hK K; try simp only [Act.put, List.setIfInBounds_toArray, List.set_cons_zero, List.set_cons_succ]
                refine wpAnyH_take (i := 10) (oi := ⟨some 50, _, _, _, _, _⟩) (v := ?_) rfl (by kernel_rfl) (by kernel_rfl) (by kernel_rfl) (fun _ _ _ h => h) (Or.inl ⟨by rfl, ?_⟩) (by assumption) ?_
                rotate_left
                · intro w hSw
                  (try dsimp only at hSw)
                  go_simp
                  try with_reducible rfl
                try simp only [Act.put, List.setIfInBounds_toArray, List.set_cons_zero, List.set_cons_succ]
                refine wpAnyH_ready (rs := [11]) (by kernel_rfl) (by simp) ?_; refine AllReadyH.cons (o := ⟨none, _, _, _, _, _⟩) rfl (fun K hK => ?_) AllReadyH.nil; go_simp; refine hK.out _ _ trivial (fun hHeld => ?_); clear hK K; try simp only [Act.put, List.setIfInBounds_toArray, List.set_cons_zero, List.set_cons_succ]
                refine wpAnyH_done (by kernel_rfl) ?_ _; go_wp2_with fail; go_meet
                exact ⟨rfl, _, _, _, _, _, _, _, _, P6.stored, (val_zero1 _).trans eL, (val_zero1 _).trans eM, by omega, by omega⟩
               exact AllReadyH.nil
              exact AllReadyH.nil
             exact AllReadyH.nil
            refine AllReadyH.cons (o := ⟨some 46, _, _, _, _, _⟩) rfl (fun K hK => ?_) ?_
            ·obtain ⟨X0, X1, X2⟩ := P2.x; go_simp; refine hK.out _ _ trivial (fun hHeld => ?_); clear hK K X0 X1 X2; try simp only [Act.put, List.setIfInBounds_toArray, List.set_cons_zero, List.set_cons_succ]
             have P3 := P2; have t2_3 := t2_2; have t6_3 := t6_2; obtain ⟨w3, hw⟩ : ∃ v, v = w2 := ⟨_, rfl⟩; rw [← hw] at P3 ⊢; rw [← hw] at t2_3; rw [← hw] at t6_3; clear hw
             refine wpAnyH_ready (rs := [1]) (by kernel_rfl) (by simp) ?_
             refine AllReadyH.cons (o := ⟨some 42, _, _, _, _, _⟩) rfl (fun K hK => ?_) ?_
             ·obtain ⟨X0, X1, X2⟩ := P3.x; go_simp; refine hK.out _ _ trivial (fun hHeld => ?_); clear hK K X0 X1 X2; try simp only [Act.put, List.setIfInBounds_toArray, List.set_cons_zero, List.set_cons_succ]
              have P4 := P3; have t2_4 := t2_3; have t6_4 := t6_3; obtain ⟨w4, hw⟩ : ∃ v, v = w3 := ⟨_, rfl⟩; rw [← hw] at P4 ⊢; rw [← hw] at t2_4; rw [← hw] at t6_4; clear hw
              refine wpAnyH_ready (rs := [3]) (by kernel_rfl) (by simp) ?_
              refine AllReadyH.cons (o := ⟨some 44, _, _, _, _, _⟩) rfl (fun K hK => ?_) ?_
              ·refine step_append_lies _ rfl _ _ 22 rfl v.heap.size 48 i0 (.int .u32 0) 1 4 Tryd.underlying22 hi hz0 hz1 hz2 rfl (by decide) (.slice A n c) n (cells L) rfl P4.ma.row ⟨_, 0, none⟩ 1 1 [.int .u32 0] rfl rfl t2_4.news (one_cell _ rfl) (by decide) (room_one (by omega)) (by omega) P4.hk.size _ rfl ?_; intro g3 c3 w5 hown hgrow hat hlt; refine hK.out _ _ trivial (fun hHeld => ?_)
               clear hK K; try simp only [Act.put, List.setIfInBounds_toArray, List.set_cons_zero, List.set_cons_succ]
               have P5 := P4.growA hown hgrow hat
               have t6_5 := t6_4.growA hgrow hat
               clear hown hgrow hat hlt
               refine wpAnyH_take (i := 8) (oi := ⟨some 49, _, _, _, _, _⟩) (v := ?_) rfl (by kernel_rfl) (by kernel_rfl) (by kernel_rfl) (fun _ _ _ h => h) (Or.inl ⟨by rfl, ?_⟩) (by assumption) ?_
               rotate_left
               · intro w hSw
                 (try dsimp only at hSw)
                 go_simp
                 try with_reducible rfl
               try simp only [Act.put, List.setIfInBounds_toArray, List.set_cons_zero, List.set_cons_succ]
               refine wpAnyH_ready (rs := [7]) (by kernel_rfl) (by simp) ?_
               refine AllReadyH.cons (o := ⟨some 48, _, _, _, _, _⟩) rfl (fun K hK => ?_) ?_
               ·refine step_append_lies _ rfl _ _ 22 rfl v.heap.size 48 i0 (.int .u32 0) 1 4 Tryd.underlying22 hi hz0 hz1 hz2 rfl (by decide) (.slice B m d) m (cells M) rfl P5.mb.row ⟨_, 0, none⟩ 1 1 [.int .u32 0] rfl rfl t6_5.news (one_cell _ rfl) (by decide) (room_one (by omega)) (by omega) P5.hk.size _ rfl ?_; intro g7 c7 w6 hown hgrow hat hlt; refine hK.out _ _ trivial (fun hHeld => ?_)
                clear hK K; try simp only [Act.put, List.setIfInBounds_toArray, List.set_cons_zero, List.set_cons_succ]
                have P6 := P5.growB hown hgrow hat
                clear hown hgrow hat hlt
                obtain ⟨X0, X1, X2⟩ := P6.x; obtain ⟨F0, F1, F2⟩ := P6.f
                refine wpAnyH_ready (rs := [9]) (by kernel_rfl) (by simp) ?_; refine AllReadyH.cons (o := ⟨none, _, _, _, _, _⟩) rfl (fun K hK => ?_) AllReadyH.nil; go_simp; refine hK.out _ _ trivial (fun hHeld => ?_); clear hK K; try simp only [Act.put, List.setIfInBounds_toArray, List.set_cons_zero, List.set_cons_succ]
                refine wpAnyH_take (i := 10) (oi := ⟨some 50, _, _, _, _, _⟩) (v := ?_) rfl (by kernel_rfl) (by kernel_rfl) (by kernel_rfl) (fun _ _ _ h => h) (Or.inl ⟨by rfl, ?_⟩) (by assumption) ?_
                rotate_left
                · intro w hSw
                  (try dsimp only at hSw)
                  go_simp
                  try with_reducible rfl
                try simp only [Act.put, List.setIfInBounds_toArray, List.set_cons_zero, List.set_cons_succ]
                refine wpAnyH_ready (rs := [11]) (by kernel_rfl) (by simp) ?_; refine AllReadyH.cons (o := ⟨none, _, _, _, _, _⟩) rfl (fun K hK => ?_) AllReadyH.nil; go_simp; refine hK.out _ _ trivial (fun hHeld => ?_); clear hK K; try simp only [Act.put, List.setIfInBounds_toArray, List.set_cons_zero, List.set_cons_succ]
                refine wpAnyH_done (by kernel_rfl) ?_ _; go_wp2_with fail; go_meet
                exact ⟨rfl, _, _, _, _, _, _, _, _, P6.stored, (val_zero1 _).trans eL, (val_zero1 _).trans eM, by omega, by omega⟩
               exact AllReadyH.nil
              exact AllReadyH.nil
             exact AllReadyH.nil
            exact AllReadyH.nil
           exact AllReadyH.nil
          refine AllReadyH.cons (o := ⟨some 46, _, _, _, _, _⟩) rfl (fun K hK => ?_) ?_
          ·obtain ⟨X0, X1, X2⟩ := P0.x; go_simp; refine hK.out _ _ trivial (fun hHeld => ?_); clear hK K X0 X1 X2; try simp only [Act.put, List.setIfInBounds_toArray, List.set_cons_zero, List.set_cons_succ]
           have P1 := P0; obtain ⟨w1, hw⟩ : ∃ v, v = w0 := ⟨_, rfl⟩; rw [← hw] at P1 ⊢; clear hw
           refine wpAnyH_ready (rs := [1, 2, 6]) (by kernel_rfl) (by simp) ?_
           refine AllReadyH.cons (o := ⟨some 42, _, _, _, _, _⟩) rfl (fun K hK => ?_) ?_
           ·obtain ⟨X0, X1, X2⟩ := P1.x; go_simp; refine hK.out _ _ trivial (fun hHeld => ?_); clear hK K X0 X1 X2; try simp only [Act.put, List.setIfInBounds_toArray, List.set_cons_zero, List.set_cons_succ]
            have P2 := P1; obtain ⟨w2, hw⟩ : ∃ v, v = w1 := ⟨_, rfl⟩; rw [← hw] at P2 ⊢; clear hw
            refine wpAnyH_ready (rs := [2, 6]) (by kernel_rfl) (by simp) ?_
            refine AllReadyH.cons (o := ⟨some 43, _, _, _, _, _⟩) rfl (fun K hK => ?_) ?_
            ·go_simp; refine hK.out _ _ trivial (fun hHeld => ?_); clear hK K; try simp only [Act.put, List.setIfInBounds_toArray, List.set_cons_zero, List.set_cons_succ]
             have t2_3 := Lit.new P2 48; obtain ⟨w3, hv⟩ : ∃ v, w2.alloc (.cells #[.int .u32 0] 48) = v := ⟨_, rfl⟩
             have bc : Below w2.heap.size w2 w3 := by rw [← hv]; exact (Below.refl _ _).alloc (Nat.le_refl _) _
             rw [hv] at t2_3 ⊢; have P3 := P2.later bc; clear hv bc
             refine wpAnyH_ready (rs := [3, 6]) (by kernel_rfl) (by simp) ?_
             refine AllReadyH.cons (o := ⟨some 44, _, _, _, _, _⟩) rfl (fun K hK => ?_) ?_
             ·refine step_append_lies _ rfl _ _ 22 rfl v.heap.size 48 i0 (.int .u32 0) 1 4 Tryd.underlying22 hi hz0 hz1 hz2 rfl (by decide) (.slice A n c) n (cells L) rfl P3.ma.row ⟨_, 0, none⟩ 1 1 [.int .u32 0] rfl rfl t2_3.news (one_cell _ rfl) (by decide) (room_one (by omega)) (by omega) P3.hk.size _ rfl ?_; intro g3 c3 w4 hown hgrow hat hlt; refine hK.out _ _ trivial (fun hHeld => ?_)
              clear hK K; try simp only [Act.put, List.setIfInBounds_toArray, List.set_cons_zero, List.set_cons_succ]
              have P4 := P3.growA hown hgrow hat
              clear hown hgrow hat hlt
              refine wpAnyH_take (i := 8) (oi := ⟨some 49, _, _, _, _, _⟩) (v := ?_) rfl (by kernel_rfl) (by kernel_rfl) (by kernel_rfl) (fun _ _ _ h => h) (Or.inl ⟨by rfl, ?_⟩) (by assumption) ?_
              rotate_left
              · intro w hSw
                (try dsimp only at hSw)
                go_simp
                try with_reducible rfl
              try simp only [Act.put, List.setIfInBounds_toArray, List.set_cons_zero, List.set_cons_succ]
              refine wpAnyH_ready (rs := [6]) (by kernel_rfl) (by simp) ?_
              refine AllReadyH.cons (o := ⟨some 47, _, _, _, _, _⟩) rfl (fun K hK => ?_) ?_
              ·go_simp; refine hK.out _ _ trivial (fun hHeld => ?_); clear hK K; try simp only [Act.put, List.setIfInBounds_toArray, List.set_cons_zero, List.set_cons_succ]
               have t6_5 := Lit.new P4 48; obtain ⟨w5, hv⟩ : ∃ v, w4.alloc (.cells #[.int .u32 0] 48) = v := ⟨_, rfl⟩
               have bc : Below w4.heap.size w4 w5 := by rw [← hv]; exact (Below.refl _ _).alloc (Nat.le_refl _) _
               rw [hv] at t6_5 ⊢; have P5 := P4.later bc; clear hv bc
               refine wpAnyH_ready (rs := [7]) (by kernel_rfl) (by simp) ?_
               refine AllReadyH.cons (o := ⟨some 48, _, _, _, _, _⟩) rfl (fun K hK => ?_) ?_
               ·refine step_append_lies _ rfl _ _ 22 rfl v.heap.size 48 i0 (.int .u32 0) 1 4 Tryd.underlying22 hi hz0 hz1 hz2 rfl (by decide) (.slice B m d) m (cells M) rfl P5.mb.row ⟨_, 0, none⟩ 1 1 [.int .u32 0] rfl rfl t6_5.news (one_cell _ rfl) (by decide) (room_one (by omega)) (by omega) P5.hk.size _ rfl ?_; intro g7 c7 w6 hown hgrow hat hlt; refine hK.out _ _ trivial (fun hHeld => ?_)
                clear hK K; try simp only [Act.put, List.setIfInBounds_toArray, List.set_cons_zero, List.set_cons_succ]
                have P6 := P5.growB hown hgrow hat
                clear hown hgrow hat hlt
                obtain ⟨X0, X1, X2⟩ := P6.x; obtain ⟨F0, F1, F2⟩ := P6.f
                refine wpAnyH_ready (rs := [9]) (by kernel_rfl) (by simp) ?_; refine AllReadyH.cons (o := ⟨none, _, _, _, _, _⟩) rfl (fun K hK => ?_) AllReadyH.nil; go_simp; refine hK.out _ _ trivial (fun hHeld => ?_); clear hK K; try simp only [Act.put, List.setIfInBounds_toArray, List.set_cons_zero, List.set_cons_succ]
                refine wpAnyH_take (i := 10) (oi := ⟨some 50, _, _, _, _, _⟩) (v := ?_) rfl (by kernel_rfl) (by kernel_rfl) (by kernel_rfl) (fun _ _ _ h => h) (Or.inl ⟨by rfl, ?_⟩) (by assumption) ?_
                rotate_left
                · intro w hSw
                  (try dsimp only at hSw)
                  go_simp
                  try with_reducible rfl
                try simp only [Act.put, List.setIfInBounds_toArray, List.set_cons_zero, List.set_cons_succ]
                refine wpAnyH_ready (rs := [11]) (by kernel_rfl) (by simp) ?_; refine AllReadyH.cons (o := ⟨none, _, _, _, _, _⟩) rfl (fun K hK => ?_) AllReadyH.nil; go_simp; refine hK.out _ _ trivial (fun hHeld => ?_); clear hK K; try simp only [Act.put, List.setIfInBounds_toArray, List.set_cons_zero, List.set_cons_succ]
                refine wpAnyH_done (by kernel_rfl) ?_ _; go_wp2_with fail; go_meet
                exact ⟨rfl, _, _, _, _, _, _, _, _, P6.stored, (val_zero1 _).trans eL, (val_zero1 _).trans eM, by omega, by omega⟩
               exact AllReadyH.nil
              exact AllReadyH.nil
             refine AllReadyH.cons (o := ⟨some 47, _, _, _, _, _⟩) rfl (fun K hK => ?_) ?_
             ·go_simp; refine hK.out _ _ trivial (fun hHeld => ?_); clear hK K; try simp only [Act.put, List.setIfInBounds_toArray, List.set_cons_zero, List.set_cons_succ]
              have t6_4 := Lit.new P3 48; obtain ⟨w4, hv⟩ : ∃ v, w3.alloc (.cells #[.int .u32 0] 48) = v := ⟨_, rfl⟩
              have bc : Below w3.heap.size w3 w4 := by rw [← hv]; exact (Below.refl _ _).alloc (Nat.le_refl _) _
              rw [hv] at t6_4 ⊢; have P4 := P3.later bc; have t2_4 := t2_3.later bc; clear hv bc
              refine wpAnyH_ready (rs := [3]) (by kernel_rfl) (by simp) ?_
              refine AllReadyH.cons (o := ⟨some 44, _, _, _, _, _⟩) rfl (fun K hK => ?_) ?_
              ·refine step_append_lies _ rfl _ _ 22 rfl v.heap.size 48 i0 (.int .u32 0) 1 4 Tryd.underlying22 hi hz0 hz1 hz2 rfl (by decide) (.slice A n c) n (cells L) rfl P4.ma.row ⟨_, 0, none⟩ 1 1 [.int .u32 0] rfl rfl t2_4.news (one_cell _ rfl) (by decide) (room_one (by omega)) (by omega) P4.hk.size _ rfl ?_; intro g3 c3 w5 hown hgrow hat hlt; refine hK.out _ _ trivial (fun hHeld => ?_)
               clear hK K; try simp only [Act.put, List.setIfInBounds_toArray, List.set_cons_zero, List.set_cons_succ]
               have P5 := P4.growA hown hgrow hat
               have t6_5 := t6_4.growA hgrow hat
               clear hown hgrow hat hlt
               refine wpAnyH_take (i := 8) (oi := ⟨some 49, _, _, _, _, _⟩) (v := ?_) rfl (by kernel_rfl) (by kernel_rfl) (by kernel_rfl) (fun _ _ _ h => h) (Or.inl ⟨by rfl, ?_⟩) (by assumption) ?_
               rotate_left
               · intro w hSw
                 (try dsimp only at hSw)
                 go_simp
                 try with_reducible rfl
               try simp only [Act.put, List.setIfInBounds_toArray, List.set_cons_zero, List.set_cons_succ]
               refine wpAnyH_ready (rs := [7]) (by kernel_rfl) (by simp) ?_
               refine AllReadyH.cons (o := ⟨some 48, _, _, _, _, _⟩) rfl (fun K hK => ?_) ?_
               ·refine step_append_lies _ rfl _ _ 22 rfl v.heap.size 48 i0 (.int .u32 0) 1 4 Tryd.underlying22 hi hz0 hz1 hz2 rfl (by decide) (.slice B m d) m (cells M) rfl P5.mb.row ⟨_, 0, none⟩ 1 1 [.int .u32 0] rfl rfl t6_5.news (one_cell _ rfl) (by decide) (room_one (by omega)) (by omega) P5.hk.size _ rfl ?_; intro g7 c7 w6 hown hgrow hat hlt; refine hK.out _ _ trivial (fun hHeld => ?_)
                clear hK K; try simp only [Act.put, List.setIfInBounds_toArray, List.set_cons_zero, List.set_cons_succ]
                have P6 := P5.growB hown hgrow hat
                clear hown hgrow hat hlt
                obtain ⟨X0, X1, X2⟩ := P6.x; obtain ⟨F0, F1, F2⟩ := P6.f
                refine wpAnyH_ready (rs := [9]) (by kernel_rfl) (by simp) ?_; refine AllReadyH.cons (o := ⟨none, _, _, _, _, _⟩) rfl (fun K hK => ?_) AllReadyH.nil; go_simp; refine hK.out _ _ trivial (fun hHeld => ?_); clear hK K; try simp only [Act.put, List.setIfInBounds_toArray, List.set_cons_zero, List.set_cons_succ]
                refine wpAnyH_take (i := 10) (oi := ⟨some 50, _, _, _, _, _⟩) (v := ?_) rfl (by kernel_rfl) (by kernel_rfl) (by kernel_rfl) (fun _ _ _ h => h) (Or.inl ⟨by rfl, ?_⟩) (by assumption) ?_
                rotate_left
                · intro w hSw
                  (try dsimp only at hSw)
                  go_simp
                  try with_reducible rfl
                try simp only [Act.put, List.setIfInBounds_toArray, List.set_cons_zero, List.set_cons_succ]
                refine wpAnyH_ready (rs := [11]) (by kernel_rfl) (by simp) ?_; refine AllReadyH.cons (o := ⟨none, _, _, _, _, _⟩) rfl (fun K hK => ?_) AllReadyH.nil; go_simp; refine hK.out _ _ trivial (fun hHeld => ?_); clear hK K; try simp only [Act.put, List.setIfInBounds_toArray, List.set_cons_zero, List.set_cons_succ]
                refine wpAnyH_done (by kernel_rfl) ?_ _; go_wp2_with fail; go_meet
                exact ⟨rfl, _, _, _, _, _, _, _, _, P6.stored, (val_zero1 _).trans eL, (val_zero1 _).trans eM, by omega, by omega⟩
               exact AllReadyH.nil
              exact AllReadyH.nil
             exact AllReadyH.nil
            refine AllReadyH.cons (o := ⟨some 47, _, _, _, _, _⟩) rfl (fun K hK => ?_) ?_
            ·go_simp; refine hK.out _ _ trivial (fun hHeld => ?_); clear hK K; try simp only [Act.put, List.setIfInBounds_toArray, List.set_cons_zero, List.set_cons_succ]
             have t6_3 := Lit.new P2 48; obtain ⟨w3, hv⟩ : ∃ v, w2.alloc (.cells #[.int .u32 0] 48) = v := ⟨_, rfl⟩
             have bc : Below w2.heap.size w2 w3 := by rw [← hv]; exact (Below.refl _ _).alloc (Nat.le_refl _) _
             rw [hv] at t6_3 ⊢; have P3 := P2.later bc; clear hv bc
             refine wpAnyH_ready (rs := [2]) (by kernel_rfl) (by simp) ?_
             refine AllReadyH.cons (o := ⟨some 43, _, _, _, _, _⟩) rfl (fun K hK => ?_) ?_
             ·go_simp; refine hK.out _ _ trivial (fun hHeld => ?_); clear hK K; try simp only [Act.put, List.setIfInBounds_toArray, List.set_cons_zero, List.set_cons_succ]
              have t2_4 := Lit.new P3 48; obtain ⟨w4, hv⟩ : ∃ v, w3.alloc (.cells #[.int .u32 0] 48) = v := ⟨_, rfl⟩
              have bc : Below w3.heap.size w3 w4 := by rw [← hv]; exact (Below.refl _ _).alloc (Nat.le_refl _) _
              rw [hv] at t2_4 ⊢; have P4 := P3.later bc; have t6_4 := t6_3.later bc; clear hv bc
              refine wpAnyH_ready (rs := [3]) (by kernel_rfl) (by simp) ?_
              refine AllReadyH.cons (o := ⟨some 44, _, _, _, _, _⟩) rfl (fun K hK => ?_) ?_
              ·refine step_append_lies _ rfl _ _ 22 rfl v.heap.size 48 i0 (.int .u32 0) 1 4 Tryd.underlying22 hi hz0 hz1 hz2 rfl (by decide) (.slice A n c) n (cells L) rfl P4.ma.row ⟨_, 0, none⟩ 1 1 [.int .u32 0] rfl rfl t2_4.news (one_cell _ rfl) (by decide) (room_one (by omega)) (by omega) P4.hk.size _ rfl ?_; intro g3 c3 w5 hown hgrow hat hlt; refine hK.out _ _ trivial (fun hHeld => ?_)
               clear hK K; try simp only [Act.put, List.setIfInBounds_toArray, List.set_cons_zero, List.set_cons_succ]
               have P5 := P4.growA hown hgrow hat
               have t6_5 := t6_4.growA hgrow hat
               clear hown hgrow hat hlt
               refine wpAnyH_take (i := 8) (oi := ⟨some 49, _, _, _, _, _⟩) (v := ?_) rfl (by kernel_rfl) (by kernel_rfl) (by kernel_rfl) (fun _ _ _ h => h) (Or.inl ⟨by rfl, ?_⟩) (by assumption) ?_
               rotate_left
               · intro w hSw
                 (try dsimp only at hSw)
                 go_simp
                 try with_reducible rfl
               try simp only [Act.put, List.setIfInBounds_toArray, List.set_cons_zero, List.set_cons_succ]
               refine wpAnyH_ready (rs := [7]) (by kernel_rfl) (by simp) ?_
               refine AllReadyH.cons (o := ⟨some 48, _, _, _, _, _⟩) rfl (fun K hK => ?_) ?_
               ·refine step_append_lies _ rfl _ _ 22 rfl v.heap.size 48 i0 (.int .u32 0) 1 4 Tryd.underlying22 hi hz0 hz1 hz2 rfl (by decide) (.slice B m d) m (cells M) rfl P5.mb.row ⟨_, 0, none⟩ 1 1 [.int .u32 0] rfl rfl t6_5.news (one_cell _ rfl) (by decide) (room_one (by omega)) (by omega) P5.hk.size _ rfl ?_; intro g7 c7 w6 hown hgrow hat hlt; refine hK.out _ _ trivial (fun hHeld => ?_)
                clear hK K; try simp only [Act.put, List.setIfInBounds_toArray, List.set_cons_zero, List.set_cons_succ]
                have P6 := P5.growB hown hgrow hat
                clear hown hgrow hat hlt
                obtain ⟨X0, X1, X2⟩ := P6.x; obtain ⟨F0, F1, F2⟩ := P6.f
                refine wpAnyH_ready (rs := [9]) (by kernel_rfl) (by simp) ?_; refine AllReadyH.cons (o := ⟨none, _, _, _, _, _⟩) rfl (fun K hK => ?_) AllReadyH.nil; go_simp; refine hK.out _ _ trivial (fun hHeld => ?_); clear hK K; try simp only [Act.put, List.setIfInBounds_toArray, List.set_cons_zero, List.set_cons_succ]
                refine wpAnyH_take (i := 10) (oi := ⟨some 50, _, _, _, _, _⟩) (v := ?_) rfl (by kernel_rfl) (by kernel_rfl) (by kernel_rfl) (fun _ _ _ h => h) (Or.inl ⟨by rfl, ?_⟩) (by assumption) ?_
                rotate_left
                · intro w hSw
                  (try dsimp only at hSw)
                  go_simp
                  try with_reducible rfl
                try simp only [Act.put, List.setIfInBounds_toArray, List.set_cons_zero, List.set_cons_succ]
                refine wpAnyH_ready (rs := [11]) (by kernel_rfl) (by simp) ?_; refine AllReadyH.cons (o := ⟨none, _, _, _, _, _⟩) rfl (fun K hK => ?_) AllReadyH.nil; go_simp; refine hK.out _ _ trivial (fun hHeld => ?_); clear hK K; try simp only [Act.put, List.setIfInBounds_toArray, List.set_cons_zero, List.set_cons_succ]
                refine wpAnyH_done (by kernel_rfl) ?_ _; go_wp2_with fail; go_meet
                exact ⟨rfl, _, _, _, _, _, _, _, _, P6.stored, (val_zero1 _).trans eL, (val_zero1 _).trans eM, by omega, by omega⟩
               exact AllReadyH.nil
              exact AllReadyH.nil
             exact AllReadyH.nil
            exact AllReadyH.nil
           refine AllReadyH.cons (o := ⟨some 43, _, _, _, _, _⟩) rfl (fun K hK => ?_) ?_
           ·go_simp; refine hK.out _ _ trivial (fun hHeld => ?_); clear hK K; try simp only [Act.put, List.setIfInBounds_toArray, List.set_cons_zero, List.set_cons_succ]
            have t2_2 := Lit.new P1 48; obtain ⟨w2, hv⟩ : ∃ v, w1.alloc (.cells #[.int .u32 0] 48) = v := ⟨_, rfl⟩
            have bc : Below w1.heap.size w1 w2 := by rw [← hv]; exact (Below.refl _ _).alloc (Nat.le_refl _) _
            rw [hv] at t2_2 ⊢; have P2 := P1.later bc; clear hv bc
            refine wpAnyH_ready (rs := [1, 6]) (by kernel_rfl) (by simp) ?_
            refine AllReadyH.cons (o := ⟨some 42, _, _, _, _, _⟩) rfl (fun K hK => ?_) ?_
            ·obtain ⟨X0, X1, X2⟩ := P2.x; go_simp; refine hK.out _ _ trivial (fun hHeld => ?_); clear hK K X0 X1 X2; try simp only [Act.put, List.setIfInBounds_toArray, List.set_cons_zero, List.set_cons_succ]
             have P3 := P2; have t2_3 := t2_2; obtain ⟨w3, hw⟩ : ∃ v, v = w2 := ⟨_, rfl⟩; rw [← hw] at P3 ⊢; rw [← hw] at t2_3; clear hw
             refine wpAnyH_ready (rs := [3, 6]) (by kernel_rfl) (by simp) ?_
             refine AllReadyH.cons (o := ⟨some 44, _, _, _, _, _⟩) rfl (fun K hK => ?_) ?_
             ·refine step_append_lies _ rfl _ _ 22 rfl v.heap.size 48 i0 (.int .u32 0) 1 4 Tryd.underlying22 hi hz0 hz1 hz2 rfl (by decide) (.slice A n c) n (cells L) rfl P3.ma.row ⟨_, 0, none⟩ 1 1 [.int .u32 0] rfl rfl t2_3.news (one_cell _ rfl) (by decide) (room_one (by omega)) (by omega) P3.hk.size _ rfl ?_; intro g3 c3 w4 hown hgrow hat hlt; refine hK.out _ _ trivial (fun hHeld => ?_)
              clear hK K; try simp only [Act.put, List.setIfInBounds_toArray, List.set_cons_zero, List.set_cons_succ]
              have P4 := P3.growA hown hgrow hat
              clear hown hgrow hat hlt
              refine wpAnyH_take (i := 8) (oi := ⟨some 49, _, _, _, _, _⟩) (v := ?_) rfl (by kernel_rfl) (by kernel_rfl) (by kernel_rfl) (fun _ _ _ h => h) (Or.inl ⟨by rfl, ?_⟩) (by assumption) ?_
              rotate_left
              · intro w hSw
                (try dsimp only at hSw)
                go_simp
                try with_reducible rfl
              try simp only [Act.put, List.setIfInBounds_toArray, List.set_cons_zero, List.set_cons_succ]
              refine wpAnyH_ready (rs := [6]) (by kernel_rfl) (by simp) ?_
              refine AllReadyH.cons (o := ⟨some 47, _, _, _, _, _⟩) rfl (fun K hK => ?_) ?_
              ·go_simp; refine hK.out _ _ trivial (fun hHeld => ?_); clear hK K; try simp only [Act.put, List.setIfInBounds_toArray, List.set_cons_zero, List.set_cons_succ]
               have t6_5 := Lit.new P4 48; obtain ⟨w5, hv⟩ : ∃ v, w4.alloc (.cells #[.int .u32 0] 48) = v := ⟨_, rfl⟩
               have bc : Below w4.heap.size w4 w5 := by rw [← hv]; exact (Below.refl _ _).alloc (Nat.le_refl _) _
               rw [hv] at t6_5 ⊢; have P5 := P4.later bc; clear hv bc
               refine wpAnyH_ready (rs := [7]) (by kernel_rfl) (by simp) ?_
               refine AllReadyH.cons (o := ⟨some 48, _, _, _, _, _⟩) rfl (fun K hK => ?_) ?_
               ·refine step_append_lies _ rfl _ _ 22 rfl v.heap.size 48 i0 (.int .u32 0) 1 4 Tryd.underlying22 hi hz0 hz1 hz2 rfl (by decide) (.slice B m d) m (cells M) rfl P5.mb.row ⟨_, 0, none⟩ 1 1 [.int .u32 0] rfl rfl t6_5.news (one_cell _ rfl) (by decide) (room_one (by omega)) (by omega) P5.hk.size _ rfl ?_; intro g7 c7 w6 hown hgrow hat hlt; refine hK.out _ _ trivial (fun hHeld => ?_)
                clear hK K; try simp only [Act.put, List.setIfInBounds_toArray, List.set_cons_zero, List.set_cons_succ]
                have P6 := P5.growB hown hgrow hat
                clear hown hgrow hat hlt
                obtain ⟨X0, X1, X2⟩ := P6.x; obtain ⟨F0, F1, F2⟩ := P6.f
                refine wpAnyH_ready (rs := [9]) (by kernel_rfl) (by simp) ?_; refine AllReadyH.cons (o := ⟨none, _, _, _, _, _⟩) rfl (fun K hK => ?_) AllReadyH.nil; go_simp; refine hK.out _ _ trivial (fun hHeld => ?_); clear hK K; try simp only [Act.put, List.setIfInBounds_toArray, List.set_cons_zero, List.set_cons_succ]
                refine wpAnyH_take (i := 10) (oi := ⟨some 50, _, _, _, _, _⟩) (v := ?_) rfl (by kernel_rfl) (by kernel_rfl) (by kernel_rfl) (fun _ _ _ h => h) (Or.inl ⟨by rfl, ?_⟩) (by assumption) ?_
                rotate_left
                · intro w hSw
                  (try dsimp only at hSw)
                  go_simp
                  try with_reducible rfl
                try simp only [Act.put, List.setIfInBounds_toArray, List.set_cons_zero, List.set_cons_succ]
                refine wpAnyH_ready (rs := [11]) (by kernel_rfl) (by simp) ?_; refine AllReadyH.cons (o := ⟨none, _, _, _, _, _⟩) rfl (fun K hK => ?_) AllReadyH.nil; go_simp; refine hK.out _ _ trivial (fun hHeld => ?_); clear hK K; try simp only [Act.put, List.setIfInBounds_toArray, List.set_cons_zero, List.set_cons_succ]
                refine wpAnyH_done (by kernel_rfl) ?_ _; go_wp2_with fail; go_meet
                exact ⟨rfl, _, _, _, _, _, _, _, _, P6.stored, (val_zero1 _).trans eL, (val_zero1 _).trans eM, by omega, by omega⟩
               exact AllReadyH.nil
              exact AllReadyH.nil
             refine AllReadyH.cons (o := ⟨some 47, _, _, _, _, _⟩) rfl (fun K hK => ?_) ?_
             ·go_simp; refine hK.out _ _ trivial (fun hHeld => ?_); clear hK K; try simp only [Act.put, List.setIfInBounds_toArray, List.set_cons_zero, List.set_cons_succ]
              have t6_4 := Lit.new P3 48; obtain ⟨w4, hv⟩ : ∃ v, w3.alloc (.cells #[.int .u32 0] 48) = v := ⟨_, rfl⟩
              have bc : Below w3.heap.size w3 w4 := by rw [← hv]; exact (Below.refl _ _).alloc (Nat.le_refl _) _
              rw [hv] at t6_4 ⊢; have P4 := P3.later bc; have t2_4 := t2_3.later bc; clear hv bc
              refine wpAnyH_ready (rs := [3]) (by kernel_rfl) (by simp) ?_
              refine AllReadyH.cons (o := ⟨some 44, _, _, _, _, _⟩) rfl (fun K hK => ?_) ?_
              ·refine step_append_lies _ rfl _ _ 22 rfl v.heap.size 48 i0 (.int .u32 0) 1 4 Tryd.underlying22 hi hz0 hz1 hz2 rfl (by decide) (.slice A n c) n (cells L) rfl P4.ma.row ⟨_, 0, none⟩ 1 1 [.int .u32 0] rfl rfl t2_4.news (one_cell _ rfl) (by decide) (room_one (by omega)) (by omega) P4.hk.size _ rfl ?_; intro g3 c3 w5 hown hgrow hat hlt; refine hK.out _ _ trivial (fun hHeld => ?_)
               clear hK K; try simp only [Act.put, List.setIfInBounds_toArray, List.set_cons_zero, List.set_cons_succ]
               have P5 := P4.growA hown hgrow hat
               have t6_5 := t6_4.growA hgrow hat
               clear hown hgrow hat hlt
               refine wpAnyH_take (i := 8) (oi := ⟨some 49, _, _, _, _, _⟩) (v := ?_) rfl (by kernel_rfl) (by kernel_rfl) (by kernel_rfl) (fun _ _ _ h => h) (Or.inl ⟨by rfl, ?_⟩) (by assumption) ?_
               rotate_left
               · intro w hSw
                 (try dsimp only at hSw)
                 go_simp
                 try with_reducible rfl
               try simp only [Act.put, List.setIfInBounds_toArray, List.set_cons_zero, List.set_cons_succ]
               refine wpAnyH_ready (rs := [7]) (by kernel_rfl) (by simp) ?_
               refine AllReadyH.cons (o := ⟨some 48, _, _, _, _, _⟩) rfl (fun K hK => ?_) ?_
               ·refine step_append_lies _ rfl _ _ 22 rfl v.heap.size 48 i0 (.int .u32 0) 1 4 Tryd.underlying22 hi hz0 hz1 hz2 rfl (by decide) (.slice B m d) m (cells M) rfl P5.mb.row ⟨_, 0, none⟩ 1 1 [.int .u32 0] rfl rfl t6_5.news (one_cell _ rfl) (by decide) (room_one (by omega)) (by omega) P5.hk.size _ rfl ?_; intro g7 c7 w6 hown hgrow hat hlt; refine hK.out _ _ trivial (fun hHeld => ?_)
                clear hK K; try simp only [Act.put, List.setIfInBounds_toArray, List.set_cons_zero, List.set_cons_succ]
                have P6 := P5.growB hown hgrow hat
                clear hown hgrow hat hlt
                obtain ⟨X0, X1, X2⟩ := P6.x; obtain ⟨F0, F1, F2⟩ := P6.f
                refine wpAnyH_ready (rs := [9]) (by kernel_rfl) (by simp) ?_; refine AllReadyH.cons (o := ⟨none, _, _, _, _, _⟩) rfl (fun K hK => ?_) AllReadyH.nil; go_simp; refine hK.out _ _ trivial (fun hHeld => ?_); clear hK K; try simp only [Act.put, List.setIfInBounds_toArray, List.set_cons_zero, List.set_cons_succ]
                refine wpAnyH_take (i := 10) (oi := ⟨some 50, _, _, _, _, _⟩) (v := ?_) rfl (by kernel_rfl) (by kernel_rfl) (by kernel_rfl) (fun _ _ _ h => h) (Or.inl ⟨by rfl, ?_⟩) (by assumption) ?_
                rotate_left
                · intro w hSw
                  (try dsimp only at hSw)
                  go_simp
                  try with_reducible rfl
                try simp only [Act.put, List.setIfInBounds_toArray, List.set_cons_zero, List.set_cons_succ]
                refine wpAnyH_ready (rs := [11]) (by kernel_rfl) (by simp) ?_; refine AllReadyH.cons (o := ⟨none, _, _, _, _, _⟩) rfl (fun K hK => ?_) AllReadyH.nil; go_simp; refine hK.out _ _ trivial (fun hHeld => ?_); clear hK K; try simp only [Act.put, List.setIfInBounds_toArray, List.set_cons_zero, List.set_cons_succ]
                refine wpAnyH_done (by kernel_rfl) ?_ _; go_wp2_with fail; go_meet
                exact ⟨rfl, _, _, _, _, _, _, _, _, P6.stored, (val_zero1 _).trans eL, (val_zero1 _).trans eM, by omega, by omega⟩
               exact AllReadyH.nil
              exact AllReadyH.nil
             exact AllReadyH.nil
            refine AllReadyH.cons (o := ⟨some 47, _, _, _, _, _⟩) rfl (fun K hK => ?_) ?_
            ·go_simp; refine hK.out _ _ trivial (fun hHeld => ?_); clear hK K; try simp only [Act.put, List.setIfInBounds_toArray, List.set_cons_zero, List.set_cons_succ]
             have t6_3 := Lit.new P2 48; obtain ⟨w3, hv⟩ : ∃ v, w2.alloc (.cells #[.int .u32 0] 48) = v := ⟨_, rfl⟩
             have bc : Below w2.heap.size w2 w3 := by rw [← hv]; exact (Below.refl _ _).alloc (Nat.le_refl _) _
             rw [hv] at t6_3 ⊢; have P3 := P2.later bc; have t2_3 := t2_2.later bc; clear hv bc
             refine wpAnyH_ready (rs := [1]) (by kernel_rfl) (by simp) ?_
             refine AllReadyH.cons (o := ⟨some 42, _, _, _, _, _⟩) rfl (fun K hK => ?_) ?_
             ·obtain ⟨X0, X1, X2⟩ := P3.x; go_simp; refine hK.out _ _ trivial (fun hHeld => ?_); clear hK K X0 X1 X2; try simp only [Act.put, List.setIfInBounds_toArray, List.set_cons_zero, List.set_cons_succ]
              have P4 := P3; have t2_4 := t2_3; have t6_4 := t6_3; obtain ⟨w4, hw⟩ : ∃ v, v = w3 := ⟨_, rfl⟩; rw [← hw] at P4 ⊢; rw [← hw] at t2_4; rw [← hw] at t6_4; clear hw
              refine wpAnyH_ready (rs := [3]) (by kernel_rfl) (by simp) ?_
              refine AllReadyH.cons (o := ⟨some 44, _, _, _, _, _⟩) rfl (fun K hK => ?_) ?_
              ·refine step_append_lies _ rfl _ _ 22 rfl v.heap.size 48 i0 (.int .u32 0) 1 4 Tryd.underlying22 hi hz0 hz1 hz2 rfl (by decide) (.slice A n c) n (cells L) rfl P4.ma.row ⟨_, 0, none⟩ 1 1 [.int .u32 0] rfl rfl t2_4.news (one_cell _ rfl) (by decide) (room_one (by omega)) (by omega) P4.hk.size _ rfl ?_; intro g3 c3 w5 hown hgrow hat hlt; refine hK.out _ _ trivial (fun hHeld => ?_)
               clear hK K; try simp only [Act.put, List.setIfInBounds_toArray, List.set_cons_zero, List.set_cons_succ]
               have P5 := P4.growA hown hgrow hat
               have t6_5 := t6_4.growA hgrow hat
               clear hown hgrow hat hlt
               refine wpAnyH_take (i := 8) (oi := ⟨some 49, _, _, _, _, _⟩) (v := ?_) rfl (by kernel_rfl) (by kernel_rfl) (by kernel_rfl) (fun _ _ _ h => h) (Or.inl ⟨by rfl, ?_⟩) (by assumption) ?_
               rotate_left
               · intro w hSw
                 (try dsimp only at hSw)
                 go_simp
                 try with_reducible rfl
               try simp only [Act.put, List.setIfInBounds_toArray, List.set_cons_zero, List.set_cons_succ]
               refine wpAnyH_ready (rs := [7]) (by kernel_rfl) (by simp) ?_
               refine AllReadyH.cons (o := ⟨some 48, _, _, _, _, _⟩) rfl (fun K hK => ?_) ?_
               ·refine step_append_lies _ rfl _ _ 22 rfl v.heap.size 48 i0 (.int .u32 0) 1 4 Tryd.underlying22 hi hz0 hz1 hz2 rfl (by decide) (.slice B m d) m (cells M) rfl P5.mb.row ⟨_, 0, none⟩ 1 1 [.int .u32 0] rfl rfl t6_5.news (one_cell _ rfl) (by decide) (room_one (by omega)) (by omega) P5.hk.size _ rfl ?_; intro g7 c7 w6 hown hgrow hat hlt; refine hK.out _ _ trivial (fun hHeld => ?_)
                clear hK K; try simp only [Act.put, List.setIfInBounds_toArray, List.set_cons_zero, List.set_cons_succ]
                have P6 := P5.growB hown hgrow hat
                clear hown hgrow hat hlt
                obtain ⟨X0, X1, X2⟩ := P6.x; obtain ⟨F0, F1, F2⟩ := P6.f
                refine wpAnyH_ready (rs := [9]) (by kernel_rfl) (by simp) ?_; refine AllReadyH.cons (o := ⟨none, _, _, _, _, _⟩) rfl (fun K hK => ?_) AllReadyH.nil; go_simp; refine hK.out _ _ trivial (fun hHeld => ?_); clear hK K; try simp only [Act.put, List.setIfInBounds_toArray, List.set_cons_zero, List.set_cons_succ]
                refine wpAnyH_take (i := 10) (oi := ⟨some 50, _, _, _, _, _⟩) (v := ?_) rfl (by kernel_rfl) (by kernel_rfl) (by kernel_rfl) (fun _ _ _ h => h) (Or.inl ⟨by rfl, ?_⟩) (by assumption) ?_
                rotate_left
                · intro w hSw
                  (try dsimp only at hSw)
                  go_simp
                  try with_reducible rfl
                try simp only [Act.put, List.setIfInBounds_toArray, List.set_cons_zero, List.set_cons_succ]
                refine wpAnyH_ready (rs := [11]) (by kernel_rfl) (by simp) ?_; refine AllReadyH.cons (o := ⟨none, _, _, _, _, _⟩) rfl (fun K hK => ?_) AllReadyH.nil; go_simp; refine hK.out _ _ trivial (fun hHeld => ?_); clear hK K; try simp only [Act.put, List.setIfInBounds_toArray, List.set_cons_zero, List.set_cons_succ]
                refine wpAnyH_done (by kernel_rfl) ?_ _; go_wp2_with fail; go_meet
                exact ⟨rfl, _, _, _, _, _, _, _, _, P6.stored, (val_zero1 _).trans eL, (val_zero1 _).trans eM, by omega, by omega⟩
               exact AllReadyH.nil
              exact AllReadyH.nil
             exact AllReadyH.nil
            exact AllReadyH.nil
           refine AllReadyH.cons (o := ⟨some 47, _, _, _, _, _⟩) rfl (fun K hK => ?_) ?_
           ·go_simp; refine hK.out _ _ trivial (fun hHeld => ?_); clear hK K; try simp only [Act.put, List.setIfInBounds_toArray, List.set_cons_zero, List.set_cons_succ]
            have t6_2 := Lit.new P1 48; obtain ⟨w2, hv⟩ : ∃ v, w1.alloc (.cells #[.int .u32 0] 48) = v := ⟨_, rfl⟩
            have bc : Below w1.heap.size w1 w2 := by rw [← hv]; exact (Below.refl _ _).alloc (Nat.le_refl _) _
            rw [hv] at t6_2 ⊢; have P2 := P1.later bc; clear hv bc
            refine wpAnyH_ready (rs := [1, 2]) (by kernel_rfl) (by simp) ?_
            refine AllReadyH.cons (o := ⟨some 42, _, _, _, _, _⟩) rfl (fun K hK => ?_) ?_
            ·obtain ⟨X0, X1, X2⟩ := P2.x; go_simp; refine hK.out _ _ trivial (fun hHeld => ?_); clear hK K X0 X1 X2; try simp only [Act.put, List.setIfInBounds_toArray, List.set_cons_zero, List.set_cons_succ]
             have P3 := P2; have t6_3 := t6_2; obtain ⟨w3, hw⟩ : ∃ v, v = w2 := ⟨_, rfl⟩; rw [← hw] at P3 ⊢; rw [← hw] at t6_3; clear hw
             refine wpAnyH_ready (rs := [2]) (by kernel_rfl) (by simp) ?_
             refine AllReadyH.cons (o := ⟨some 43, _, _, _, _, _⟩) rfl (fun K hK => ?_) ?_
             ·go_simp; refine hK.out _ _ trivial (fun hHeld => ?_); clear hK K; try simp only [Act.put, List.setIfInBounds_toArray, List.set_cons_zero, List.set_cons_succ]
              have t2_4 := Lit.new P3 48; obtain ⟨w4, hv⟩ : ∃ v, w3.alloc (.cells #[.int .u32 0] 48) = v := ⟨_, rfl⟩
              have bc : Below w3.heap.size w3 w4 := by rw [← hv]; exact (Below.refl _ _).alloc (Nat.le_refl _) _
              rw [hv] at t2_4 ⊢; have P4 := P3.later bc; have t6_4 := t6_3.later bc; clear hv bc
              refine wpAnyH_ready (rs := [3]) (by kernel_rfl) (by simp) ?_
              refine AllReadyH.cons (o := ⟨some 44, _, _, _, _, _⟩) rfl (fun K hK => ?_) ?_
              ·refine step_append_lies _ rfl _ _ 22 rfl v.heap.size 48 i0 (.int .u32 0) 1 4 Tryd.underlying22 hi hz0 hz1 hz2 rfl (by decide) (.slice A n c) n (cells L) rfl P4.ma.row ⟨_, 0, none⟩ 1 1 [.int .u32 0] rfl rfl t2_4.news (one_cell _ rfl) (by decide) (room_one (by omega)) (by omega) P4.hk.size _ rfl ?_; intro g3 c3 w5 hown hgrow hat hlt; refine hK.out _ _ trivial (fun hHeld => ?_)
               clear hK K; try simp only [Act.put, List.setIfInBounds_toArray, List.set_cons_zero, List.set_cons_succ]
               have P5 := P4.growA hown hgrow hat
               have t6_5 := t6_4.growA hgrow hat
               clear hown hgrow hat hlt
               refine wpAnyH_take (i := 8) (oi := ⟨some 49, _, _, _, _, _⟩) (v := ?_) rfl (by kernel_rfl) (by kernel_rfl) (by kernel_rfl) (fun _ _ _ h => h) (Or.inl ⟨by rfl, ?_⟩) (by assumption) ?_
               rotate_left
               · intro w hSw
                 (try dsimp only at hSw)
                 go_simp
                 try with_reducible rfl
               try simp only [Act.put, List.setIfInBounds_toArray, List.set_cons_zero, List.set_cons_succ]
               refine wpAnyH_ready (rs := [7]) (by kernel_rfl) (by simp) ?_
               refine AllReadyH.cons (o := ⟨some 48, _, _, _, _, _⟩) rfl (fun K hK => ?_) ?_
               ·refine step_append_lies _ rfl _ _ 22 rfl v.heap.size 48 i0 (.int .u32 0) 1 4 Tryd.underlying22 hi hz0 hz1 hz2 rfl (by decide) (.slice B m d) m (cells M) rfl P5.mb.row ⟨_, 0, none⟩ 1 1 [.int .u32 0] rfl rfl t6_5.news (one_cell _ rfl) (by decide) (room_one (by omega)) (by omega) P5.hk.size _ rfl ?_; intro g7 c7 w6 hown hgrow hat hlt; refine hK.out _ _ trivial (fun hHeld => ?_)
                clear hK K; try simp only [Act.put, List.setIfInBounds_toArray, List.set_cons_zero, List.set_cons_succ]
                have P6 := P5.growB hown hgrow hat
                clear hown hgrow hat hlt
                obtain ⟨X0, X1, X2⟩ := P6.x; obtain ⟨F0, F1, F2⟩ := P6.f
                refine wpAnyH_ready (rs := [9]) (by kernel_rfl) (by simp) ?_; refine AllReadyH.cons (o := ⟨none, _, _, _, _, _⟩) rfl (fun K hK => ?_) AllReadyH.nil; go_simp; refine hK.out _ _ trivial (fun hHeld => ?_); clear hK K; try simp only [Act.put, List.setIfInBounds_toArray, List.set_cons_zero, List.set_cons_succ]
                refine wpAnyH_take (i := 10) (oi := ⟨some 50, _, _, _, _, _⟩) (v := ?_) rfl (by kernel_rfl) (by kernel_rfl) (by kernel_rfl) (fun _ _ _ h => h) (Or.inl ⟨by rfl, ?_⟩) (by assumption) ?_
                rotate_left
                · intro w hSw
                  (try dsimp only at hSw)
                  go_simp
                  try with_reducible rfl
                try simp only [Act.put, List.setIfInBounds_toArray, List.set_cons_zero, List.set_cons_succ]
                refine wpAnyH_ready (rs := [11]) (by kernel_rfl) (by simp) ?_; refine AllReadyH.cons (o := ⟨none, _, _, _, _, _⟩) rfl (fun K hK => ?_) AllReadyH.nil; go_simp; refine hK.out _ _ trivial (fun hHeld => ?_); clear hK K; try simp only [Act.put, List.setIfInBounds_toArray, List.set_cons_zero, List.set_cons_succ]
                refine wpAnyH_done (by kernel_rfl) ?_ _; go_wp2_with fail; go_meet
                exact ⟨rfl, _, _, _, _, _, _, _, _, P6.stored, (val_zero1 _).trans eL, (val_zero1 _).trans eM, by omega, by omega⟩
               exact AllReadyH.nil
              exact AllReadyH.nil
             exact AllReadyH.nil
            refine AllReadyH.cons (o := ⟨some 43, _, _, _, _, _⟩) rfl (fun K hK => ?_) ?_
            ·go_simp; refine hK.out _ _ trivial (fun hHeld => ?_); clear hK K; try simp only [Act.put, List.setIfInBounds_toArray, List.set_cons_zero, List.set_cons_succ]
             have t2_3 := Lit.new P2 48; obtain ⟨w3, hv⟩ : ∃ v, w2.alloc (.cells #[.int .u32 0] 48) = v := ⟨_, rfl⟩
             have bc : Below w2.heap.size w2 w3 := by rw [← hv]; exact (Below.refl _ _).alloc (Nat.le_refl _) _
             rw [hv] at t2_3 ⊢; have P3 := P2.later bc; have t6_3 := t6_2.later bc; clear hv bc
             refine wpAnyH_ready (rs := [1]) (by kernel_rfl) (by simp) ?_
             refine AllReadyH.cons (o := ⟨some 42, _, _, _, _, _⟩) rfl (fun K hK => ?_) ?_
             ·obtain ⟨X0, X1, X2⟩ := P3.x; go_simp; refine hK.out _ _ trivial (fun hHeld => ?_); clear hK K X0 X1 X2; try simp only [Act.put, List.setIfInBounds_toArray, List.set_cons_zero, List.set_cons_succ]
              have P4 := P3; have t2_4 := t2_3; have t6_4 := t6_3; obtain ⟨w4, hw⟩ : ∃ v, v = w3 := ⟨_, rfl⟩; rw [← hw] at P4 ⊢; rw [← hw] at t2_4; rw [← hw] at t6_4; clear hw
              refine wpAnyH_ready (rs := [3]) (by kernel_rfl) (by simp) ?_
              refine AllReadyH.cons (o := ⟨some 44, _, _, _, _, _⟩) rfl (fun K hK => ?_) ?_
              ·refine step_append_lies _ rfl _ _ 22 rfl v.heap.size 48 i0 (.int .u32 0) 1 4 Tryd.underlying22 hi hz0 hz1 hz2 rfl (by decide) (.slice A n c) n (cells L) rfl P4.ma.row ⟨_, 0, none⟩ 1 1 [.int .u32 0] rfl rfl t2_4.news (one_cell _ rfl) (by decide) (room_one (by omega)) (by omega) P4.hk.size _ rfl ?_; intro g3 c3 w5 hown hgrow hat hlt; refine hK.out _ _ trivial (fun hHeld => ?_)
               clear hK K; try simp only [Act.put, List.setIfInBounds_toArray, List.set_cons_zero, List.set_cons_succ]
               have P5 := P4.growA hown hgrow hat
               have t6_5 := t6_4.growA hgrow hat
               clear hown hgrow hat hlt
               refine wpAnyH_take (i := 8) (oi := ⟨some 49, _, _, _, _, _⟩) (v := ?_) rfl (by kernel_rfl) (by kernel_rfl) (by kernel_rfl) (fun _ _ _ h => h) (Or.inl ⟨by rfl, ?_⟩) (by assumption) ?_
               rotate_left
               · intro w hSw
                 (try dsimp only at hSw)
                 go_simp
                 try with_reducible rfl
               try simp only [Act.put, List.setIfInBounds_toArray, List.set_cons_zero, List.set_cons_succ]
               refine wpAnyH_ready (rs := [7]) (by kernel_rfl) (by simp) ?_
               refine AllReadyH.cons (o := ⟨some 48, _, _, _, _, _⟩) rfl (fun K hK => ?_) ?_
               ·refine step_append_lies _ rfl _ _ 22 rfl v.heap.size 48 i0 (.int .u32 0) 1 4 Tryd.underlying22 hi hz0 hz1 hz2 rfl (by decide) (.slice B m d) m (cells M) rfl P5.mb.row ⟨_, 0, none⟩ 1 1 [.int .u32 0] rfl rfl t6_5.news (one_cell _ rfl) (by decide) (room_one (by omega)) (by omega) P5.hk.size _ rfl ?_; intro g7 c7 w6 hown hgrow hat hlt; refine hK.out _ _ trivial (fun hHeld => ?_)
                clear hK K; try simp only [Act.put, List.setIfInBounds_toArray, List.set_cons_zero, List.set_cons_succ]
                have P6 := P5.growB hown hgrow hat
                clear hown hgrow hat hlt
                obtain ⟨X0, X1, X2⟩ := P6.x; obtain ⟨F0, F1, F2⟩ := P6.f
                refine wpAnyH_ready (rs := [9]) (by kernel_rfl) (by simp) ?_; refine AllReadyH.cons (o := ⟨none, _, _, _, _, _⟩) rfl (fun K hK => ?_) AllReadyH.nil; go_simp; refine hK.out _ _ trivial (fun hHeld => ?_); clear hK K; try simp only [Act.put, List.setIfInBounds_toArray, List.set_cons_zero, List.set_cons_succ]
                refine wpAnyH_take (i := 10) (oi := ⟨some 50, _, _, _, _, _⟩) (v := ?_) rfl (by kernel_rfl) (by kernel_rfl) (by kernel_rfl) (fun _ _ _ h => h) (Or.inl ⟨by rfl, ?_⟩) (by assumption) ?_
                rotate_left
                · intro w hSw
                  (try dsimp only at hSw)
                  go_simp
                  try with_reducible rfl
                try simp only [Act.put, List.setIfInBounds_toArray, List.set_cons_zero, List.set_cons_succ]
                refine wpAnyH_ready (rs := [11]) (by kernel_rfl) (by simp) ?_; refine AllReadyH.cons (o := ⟨none, _, _, _, _, _⟩) rfl (fun K hK => ?_) AllReadyH.nil; go_simp; refine hK.out _ _ trivial (fun hHeld => ?_); clear hK K; try simp only [Act.put, List.setIfInBounds_toArray, List.set_cons_zero, List.set_cons_succ]
                refine wpAnyH_done (by kernel_rfl) ?_ _; go_wp2_with fail; go_meet
                exact ⟨rfl, _, _, _, _, _, _, _, _, P6.stored, (val_zero1 _).trans eL, (val_zero1 _).trans eM, by omega, by omega⟩
               exact AllReadyH.nil
              exact AllReadyH.nil
             exact AllReadyH.nil
            exact AllReadyH.nil
           exact AllReadyH.nil
          refine AllReadyH.cons (o := ⟨some 47, _, _, _, _, _⟩) rfl (fun K hK => ?_) ?_
          ·go_simp; refine hK.out _ _ trivial (fun hHeld => ?_); clear hK K; try simp only [Act.put, List.setIfInBounds_toArray, List.set_cons_zero, List.set_cons_succ]
           have t6_1 := Lit.new P0 48; obtain ⟨w1, hv⟩ : ∃ v, w0.alloc (.cells #[.int .u32 0] 48) = v := ⟨_, rfl⟩
           have bc : Below w0.heap.size w0 w1 := by rw [← hv]; exact (Below.refl _ _).alloc (Nat.le_refl _) _
           rw [hv] at t6_1 ⊢; have P1 := P0.later bc; clear hv bc
           refine wpAnyH_ready (rs := [1, 2, 5]) (by kernel_rfl) (by simp) ?_
           refine AllReadyH.cons (o := ⟨some 42, _, _, _, _, _⟩) rfl (fun K hK => ?_) ?_
           ·obtain ⟨X0, X1, X2⟩ := P1.x; go_simp; refine hK.out _ _ trivial (fun hHeld => ?_); clear hK K X0 X1 X2; try simp only [Act.put, List.setIfInBounds_toArray, List.set_cons_zero, List.set_cons_succ]
            have P2 := P1; have t6_2 := t6_1; obtain ⟨w2, hw⟩ : ∃ v, v = w1 := ⟨_, rfl⟩; rw [← hw] at P2 ⊢; rw [← hw] at t6_2; clear hw
            refine wpAnyH_ready (rs := [2, 5]) (by kernel_rfl) (by simp) ?_
            refine AllReadyH.cons (o := ⟨some 43, _, _, _, _, _⟩) rfl (fun K hK => ?_) ?_
            ·go_simp; refine hK.out _ _ trivial (fun hHeld => ?_); clear hK K; try simp only [Act.put, List.setIfInBounds_toArray, List.set_cons_zero, List.set_cons_succ]
             have t2_3 := Lit.new P2 48; obtain ⟨w3, hv⟩ : ∃ v, w2.alloc (.cells #[.int .u32 0] 48) = v := ⟨_, rfl⟩
             have bc : Below w2.heap.size w2 w3 := by rw [← hv]; exact (Below.refl _ _).alloc (Nat.le_refl _) _
             rw [hv] at t2_3 ⊢; have P3 := P2.later bc; have t6_3 := t6_2.later bc; clear hv bc
             refine wpAnyH_ready (rs := [3, 5]) (by kernel_rfl) (by simp) ?_
             refine AllReadyH.cons (o := ⟨some 44, _, _, _, _, _⟩) rfl (fun K hK => ?_) ?_
             ·refine step_append_lies _ rfl _ _ 22 rfl v.heap.size 48 i0 (.int .u32 0) 1 4 Tryd.underlying22 hi hz0 hz1 hz2 rfl (by decide) (.slice A n c) n (cells L) rfl P3.ma.row ⟨_, 0, none⟩ 1 1 [.int .u32 0] rfl rfl t2_3.news (one_cell _ rfl) (by decide) (room_one (by omega)) (by omega) P3.hk.size _ rfl ?_; intro g3 c3 w4 hown hgrow hat hlt; refine hK.out _ _ trivial (fun hHeld => ?_)
              clear hK K; try simp only [Act.put, List.setIfInBounds_toArray, List.set_cons_zero, List.set_cons_succ]
              have P4 := P3.growA hown hgrow hat
              have t6_4 := t6_3.growA hgrow hat
              clear hown hgrow hat hlt
              refine wpAnyH_ready (rs := [5]) (by kernel_rfl) (by simp) ?_
              refine AllReadyH.cons (o := ⟨some 46, _, _, _, _, _⟩) rfl (fun K hK => ?_) ?_
              ·obtain ⟨X0, X1, X2⟩ := P4.x; go_simp; refine hK.out _ _ trivial (fun hHeld => ?_); clear hK K X0 X1 X2; try simp only [Act.put, List.setIfInBounds_toArray, List.set_cons_zero, List.set_cons_succ]
               have P5 := P4; have t6_5 := t6_4; obtain ⟨w5, hw⟩ : ∃ v, v = w4 := ⟨_, rfl⟩; rw [← hw] at P5 ⊢; rw [← hw] at t6_5; clear hw
               refine wpAnyH_take (i := 8) (oi := ⟨some 49, _, _, _, _, _⟩) (v := ?_) rfl (by kernel_rfl) (by kernel_rfl) (by kernel_rfl) (fun _ _ _ h => h) (Or.inl ⟨by rfl, ?_⟩) (by assumption) ?_
               rotate_left
               · intro w hSw
                 (try dsimp only at hSw)
                 go_simp
                 try with_reducible rfl
               try simp only [Act.put, List.setIfInBounds_toArray, List.set_cons_zero, List.set_cons_succ]
               refine wpAnyH_ready (rs := [7]) (by kernel_rfl) (by simp) ?_
               refine AllReadyH.cons (o := ⟨some 48, _, _, _, _, _⟩) rfl (fun K hK => ?_) ?_
               ·refine step_append_lies _ rfl _ _ 22 rfl v.heap.size 48 i0 (.int .u32 0) 1 4 Tryd.underlying22 hi hz0 hz1 hz2 rfl (by decide) (.slice B m d) m (cells M) rfl P5.mb.row ⟨_, 0, none⟩ 1 1 [.int .u32 0] rfl rfl t6_5.news (one_cell _ rfl) (by decide) (room_one (by omega)) (by omega) P5.hk.size _ rfl ?_; intro g7 c7 w6 hown hgrow hat hlt; refine hK.out _ _ trivial (fun hHeld => ?_)
                clear hK K; try simp only [Act.put, List.setIfInBounds_toArray, List.set_cons_zero, List.set_cons_succ]
                have P6 := P5.growB hown hgrow hat
                clear hown hgrow hat hlt
                obtain ⟨X0, X1, X2⟩ := P6.x; obtain ⟨F0, F1, F2⟩ := P6.f
                refine wpAnyH_ready (rs := [9]) (by kernel_rfl) (by simp) ?_; refine AllReadyH.cons (o := ⟨none, _, _, _, _, _⟩) rfl (fun K hK => ?_) AllReadyH.nil; go_simp; refine hK.out _ _ trivial (fun hHeld => ?_); clear hK K; try simp only [Act.put, List.setIfInBounds_toArray, List.set_cons_zero, List.set_cons_succ]
                refine wpAnyH_take (i := 10) (oi := ⟨some 50, _, _, _, _, _⟩) (v := ?_) rfl (by kernel_rfl) (by kernel_rfl) (by kernel_rfl) (fun _ _ _ h => h) (Or.inl ⟨by rfl, ?_⟩) (by assumption) ?_
                rotate_left
                · intro w hSw
                  (try dsimp only at hSw)
                  go_simp
                  try with_reducible rfl
                try simp only [Act.put, List.setIfInBounds_toArray, List.set_cons_zero, List.set_cons_succ]
                refine wpAnyH_ready (rs := [11]) (by kernel_rfl) (by simp) ?_; refine AllReadyH.cons (o := ⟨none, _, _, _, _, _⟩) rfl (fun K hK => ?_) AllReadyH.nil; go_simp; refine hK.out _ _ trivial (fun hHeld => ?_); clear hK K; try simp only [Act.put, List.setIfInBounds_toArray, List.set_cons_zero, List.set_cons_succ]
                refine wpAnyH_done (by kernel_rfl) ?_ _; go_wp2_with fail; go_meet
                exact ⟨rfl, _, _, _, _, _, _, _, _, P6.stored, (val_zero1 _).trans eL, (val_zero1 _).trans eM, by omega, by omega⟩
               exact AllReadyH.nil
              exact AllReadyH.nil
             refine AllReadyH.cons (o := ⟨some 46, _, _, _, _, _⟩) rfl (fun K hK => ?_) ?_
             ·obtain ⟨X0, X1, X2⟩ := P3.x; go_simp; refine hK.out _ _ trivial (fun hHeld => ?_); clear hK K X0 X1 X2; try simp only [Act.put, List.setIfInBounds_toArray, List.set_cons_zero, List.set_cons_succ]
              have P4 := P3; have t2_4 := t2_3; have t6_4 := t6_3; obtain ⟨w4, hw⟩ : ∃ v, v = w3 := ⟨_, rfl⟩; rw [← hw] at P4 ⊢; rw [← hw] at t2_4; rw [← hw] at t6_4; clear hw
              refine wpAnyH_ready (rs := [3]) (by kernel_rfl) (by simp) ?_
              refine AllReadyH.cons (o := ⟨some 44, _, _, _, _, _⟩) rfl (fun K hK => ?_) ?_
              ·refine step_append_lies _ rfl _ _ 22 rfl v.heap.size 48 i0 (.int .u32 0) 1 4 Tryd.underlying22 hi hz0 hz1 hz2 rfl (by decide) (.slice A n c) n (cells L) rfl P4.ma.row ⟨_, 0, none⟩ 1 1 [.int .u32 0] rfl rfl t2_4.news (one_cell _ rfl) (by decide) (room_one (by omega)) (by omega) P4.hk.size _ rfl ?_; intro g3 c3 w5 hown hgrow hat hlt; refine hK.out _ _ trivial (fun hHeld => ?_)
               clear hK K; try simp only [Act.put, List.setIfInBounds_toArray, List.set_cons_zero, List.set_cons_succ]
               have P5 := P4.growA hown hgrow hat
               have t6_5 := t6_4.growA hgrow hat
               clear hown hgrow hat hlt
               refine wpAnyH_take (i := 8) (oi := ⟨some 49, _, _, _, _, _⟩) (v := ?_) rfl (by kernel_rfl) (by kernel_rfl) (by kernel_rfl) (fun _ _ _ h => h) (Or.inl ⟨by rfl, ?_⟩) (by assumption) ?_
               rotate_left
               · intro w hSw
                 (try dsimp only at hSw)
                 go_simp
                 try with_reducible rfl
               try simp only [Act.put, List.setIfInBounds_toArray, List.set_cons_zero, List.set_cons_succ]
               refine wpAnyH_ready (rs := [7]) (by kernel_rfl) (by simp) ?_
               refine AllReadyH.cons (o := ⟨some 48, _, _, _, _, _⟩) rfl (fun K hK => ?_) ?_
               ·refine step_append_lies _ rfl _ _ 22 rfl v.heap.size 48 i0 (.int .u32 0) 1 4 Tryd.underlying22 hi hz0 hz1 hz2 rfl (by decide) (.slice B m d) m (cells M) rfl P5.mb.row ⟨_, 0, none⟩ 1 1 [.int .u32 0] rfl rfl t6_5.news (one_cell _ rfl) (by decide) (room_one (by omega)) (by omega) P5.hk.size _ rfl ?_; intro g7 c7 w6 hown hgrow hat hlt; refine hK.out _ _ trivial (fun hHeld => ?_)
                clear hK K; try simp only [Act.put, List.setIfInBounds_toArray, List.set_cons_zero, List.set_cons_succ]
                have P6 := P5.growB hown hgrow hat
                clear hown hgrow hat hlt
                obtain ⟨X0, X1, X2⟩ := P6.x; obtain ⟨F0, F1, F2⟩ := P6.f
                refine wpAnyH_ready (rs := [9]) (by kernel_rfl) (by simp) ?_; refine AllReadyH.cons (o := ⟨none, _, _, _, _, _⟩) rfl (fun K hK => ?_) AllReadyH.nil; go_simp; refine hK.out _ _ trivial (fun hHeld => ?_); clear hK K; try simp only [Act.put, List.setIfInBounds_toArray, List.set_cons_zero, List.set_cons_succ]
                refine wpAnyH_take (i := 10) (oi := ⟨some 50, _, _, _, _, _⟩) (v := ?_) rfl (by kernel_rfl) (by kernel_rfl) (by kernel_rfl) (fun _ _ _ h => h) (Or.inl ⟨by rfl, ?_⟩) (by assumption) ?_
                rotate_left
                · intro w hSw
                  (try dsimp only at hSw)
                  go_simp
                  try with_reducible rfl
                try simp only [Act.put, List.setIfInBounds_toArray, List.set_cons_zero, List.set_cons_succ]
                refine wpAnyH_ready (rs := [11]) (by kernel_rfl) (by simp) ?_; refine AllReadyH.cons (o := ⟨none, _, _, _, _, _⟩) rfl (fun K hK => ?_) AllReadyH.nil; go_simp; refine hK.out _ _ trivial (fun hHeld => ?_); clear hK K; try simp only [Act.put, List.setIfInBounds_toArray, List.set_cons_zero, List.set_cons_succ]
                refine wpAnyH_done (by kernel_rfl) ?_ _; go_wp2_with fail; go_meet
                exact ⟨rfl, _, _, _, _, _, _, _, _, P6.stored, (val_zero1 _).trans eL, (val_zero1 _).trans eM, by omega, by omega⟩
               exact AllReadyH.nil
              exact AllReadyH.nil
             exact AllReadyH.nil
            refine AllReadyH.cons (o := ⟨some 46, _, _, _, _, _⟩) rfl (fun K hK => ?_) ?_
            ·obtain ⟨X0, X1, X2⟩ := P2.x; go_simp; refine hK.out _ _ trivial (fun hHeld => ?_); clear hK K X0 X1 X2; try simp only [Act.put, List.setIfInBounds_toArray, List.set_cons_zero, List.set_cons_succ]
             have P3 := P2; have t6_3 := t6_2; obtain ⟨w3, hw⟩ : ∃ v, v = w2 := ⟨_, rfl⟩; rw [← hw] at P3 ⊢; rw [← hw] at t6_3; clear hw
             refine wpAnyH_ready (rs := [2]) (by kernel_rfl) (by simp) ?_
             refine AllReadyH.cons (o := ⟨some 43, _, _, _, _, _⟩) rfl (fun K hK => ?_) ?_
             ·go_simp; refine hK.out _ _ trivial (fun hHeld => ?_); clear hK K; try simp only [Act.put, List.setIfInBounds_toArray, List.set_cons_zero, List.set_cons_succ]
              have t2_4 := Lit.new P3 48; obtain ⟨w4, hv⟩ : ∃ v, w3.alloc (.cells #[.int .u32 0] 48) = v := ⟨_, rfl⟩
              have bc : Below w3.heap.size w3 w4 := by rw [← hv]; exact (Below.refl _ _).alloc (Nat.le_refl _) _
              rw [hv] at t2_4 ⊢; have P4 := P3.later bc; have t6_4 := t6_3.later bc; clear hv bc
              refine wpAnyH_ready (rs := [3]) (by kernel_rfl) (by simp) ?_
              refine AllReadyH.cons (o := ⟨some 44, _, _, _, _, _⟩) rfl (fun K hK => ?_) ?_
              ·refine step_append_lies _ rfl _ _ 22 rfl v.heap.size 48 i0 (.int .u32 0) 1 4 Tryd.underlying22 hi hz0 hz1 hz2 rfl (by decide) (.slice A n c) n (cells L) rfl P4.ma.row ⟨_, 0, none⟩ 1 1 [.int .u32 0] rfl rfl t2_4.news (one_cell _ rfl) (by decide) (room_one (by omega)) (by omega) P4.hk.size _ rfl ?_; intro g3 c3 w5 hown hgrow hat hlt; refine hK.out _ _ trivial (fun hHeld => ?_)
               clear hK K; try simp only [Act.put, List.setIfInBounds_toArray, List.set_cons_zero, List.set_cons_succ]
               have P5 := P4.growA hown hgrow hat
               have t6_5 := t6_4.growA hgrow hat
               clear hown hgrow hat hlt
               refine wpAnyH_take (i := 8) (oi := ⟨some 49, _, _, _, _, _⟩) (v := ?_) rfl (by kernel_rfl) (by kernel_rfl) (by kernel_rfl) (fun _ _ _ h => h) (Or.inl ⟨by rfl, ?_⟩) (by assumption) ?_
               rotate_left
               · intro w hSw
                 (try dsimp only at hSw)
                 go_simp
                 try with_reducible rfl
               try simp only [Act.put, List.setIfInBounds_toArray, List.set_cons_zero, List.set_cons_succ]
               refine wpAnyH_ready (rs := [7]) (by kernel_rfl) (by simp) ?_
               refine AllReadyH.cons (o := ⟨some 48, _, _, _, _, _⟩) rfl (fun K hK => ?_) ?_
               ·refine step_append_lies _ rfl _ _ 22 rfl v.heap.size 48 i0 (.int .u32 0) 1 4 Tryd.underlying22 hi hz0 hz1 hz2 rfl (by decide) (.slice B m d) m (cells M) rfl P5.mb.row ⟨_, 0, none⟩ 1 1 [.int .u32 0] rfl rfl t6_5.news (one_cell _ rfl) (by decide) (room_one (by omega)) (by omega) P5.hk.size _ rfl ?_; intro g7 c7 w6 hown hgrow hat hlt; refine hK.out _ _ trivial (fun hHeld => ?_)
                clear hK K; try simp only [Act.put, List.setIfInBounds_toArray, List.set_cons_zero, List.set_cons_succ]
                have P6 := P5.growB hown hgrow hat
                clear hown hgrow hat hlt
                obtain ⟨X0, X1, X2⟩ := P6.x; obtain ⟨F0, F1, F2⟩ := P6.f
                refine wpAnyH_ready (rs := [9]) (by kernel_rfl) (by simp) ?_; refine AllReadyH.cons (o := ⟨none, _, _, _, _, _⟩) rfl (fun K hK => ?_) AllReadyH.nil; go_simp; refine hK.out _ _ trivial (fun hHeld => ?_); clear hK K; try simp only [Act.put, List.setIfInBounds_toArray, List.set_cons_zero, List.set_cons_succ]
                refine wpAnyH_take (i := 10) (oi := ⟨some 50, _, _, _, _, _⟩) (v := ?_) rfl (by kernel_rfl) (by kernel_rfl) (by kernel_rfl) (fun _ _ _ h => h) (Or.inl ⟨by rfl, ?_⟩) (by assumption) ?_
                rotate_left
                · intro w hSw
                  (try dsimp only at hSw)
                  go_simp
                  try with_reducible rfl
                try simp only [Act.put, List.setIfInBounds_toArray, List.set_cons_zero, List.set_cons_succ]
                refine wpAnyH_ready (rs := [11]) (by kernel_rfl) (by simp) ?_; refine AllReadyH.cons (o := ⟨none, _, _, _, _, _⟩) rfl (fun K hK => ?_) AllReadyH.nil; go_simp; refine hK.out _ _ trivial (fun hHeld => ?_); clear hK K; try simp only [Act.put, List.setIfInBounds_toArray, List.set_cons_zero, List.set_cons_succ]
                refine wpAnyH_done (by kernel_rfl) ?_ _; go_wp2_with fail; go_meet
                exact ⟨rfl, _, _, _, _, _, _, _, _, P6.stored, (val_zero1 _).trans eL, (val_zero1 _).trans eM, by omega, by omega⟩
               exact AllReadyH.nil
              exact AllReadyH.nil
             exact AllReadyH.nil
            exact AllReadyH.nil
           refine AllReadyH.cons (o := ⟨some 43, _, _, _, _, _⟩) rfl (fun K hK => ?_) ?_
           ·go_simp; refine hK.out _ _ trivial (fun hHeld => ?_); clear hK K; try simp only [Act.put, List.setIfInBounds_toArray, List.set_cons_zero, List.set_cons_succ]
            have t2_2 := Lit.new P1 48; obtain ⟨w2, hv⟩ : ∃ v, w1.alloc (.cells #[.int .u32 0] 48) = v := ⟨_, rfl⟩
            have bc : Below w1.heap.size w1 w2 := by rw [← hv]; exact (Below.refl _ _).alloc (Nat.le_refl _) _
            rw [hv] at t2_2 ⊢; have P2 := P1.later bc; have t6_2 := t6_1.later bc; clear hv bc
            refine wpAnyH_ready (rs := [1, 5]) (by kernel_rfl) (by simp) ?_
            refine AllReadyH.cons (o := ⟨some 42, _, _, _, _, _⟩) rfl (fun K hK => ?_) ?_
            ·obtain ⟨X0, X1, X2⟩ := P2.x; go_simp; refine hK.out _ _ trivial (fun hHeld => ?_); clear hK K X0 X1 X2; try simp only [Act.put, List.setIfInBounds_toArray, List.set_cons_zero, List.set_cons_succ]
             have P3 := P2; have t2_3 := t2_2; have t6_3 := t6_2; obtain ⟨w3, hw⟩ : ∃ v, v = w2 := ⟨_, rfl⟩; rw [← hw] at P3 ⊢; rw [← hw] at t2_3; rw [← hw] at t6_3; clear hw
             refine wpAnyH_ready (rs := [3, 5]) (by kernel_rfl) (by simp) ?_
             refine AllReadyH.cons (o := ⟨some 44, _, _, _, _, _⟩) rfl (fun K hK => ?_) ?_
             ·refine step_append_lies _ rfl _ _ 22 rfl v.heap.size 48 i0 (.int .u32 0) 1 4 Tryd.underlying22 hi hz0 hz1 hz2 rfl (by decide) (.slice A n c) n (cells L) rfl P3.ma.row ⟨_, 0, none⟩ 1 1 [.int .u32 0] rfl rfl t2_3.news (one_cell _ rfl) (by decide) (room_one (by omega)) (by omega) P3.hk.size _ rfl ?_; intro g3 c3 w4 hown hgrow hat hlt; refine hK.out _ _ trivial (fun hHeld => ?_)
              clear hK K; try simp only [Act.put, List.setIfInBounds_toArray, List.set_cons_zero, List.set_cons_succ]
              have P4 := P3.growA hown hgrow hat
              have t6_4 := t6_3.growA hgrow hat
              clear hown hgrow hat hlt
              refine wpAnyH_ready (rs := [5]) (by kernel_rfl) (by simp) ?_
              refine AllReadyH.cons (o := ⟨some 46, _, _, _, _, _⟩) rfl (fun K hK => ?_) ?_
              ·obtain ⟨X0, X1, X2⟩ := P4.x; go_simp; refine hK.out _ _ trivial (fun hHeld => ?_); clear hK K X0 X1 X2; try simp only [Act.put, List.setIfInBounds_toArray, List.set_cons_zero, List.set_cons_succ]
               have P5 := P4; have t6_5 := t6_4; obtain ⟨w5, hw⟩ : ∃ v, v = w4 := ⟨_, rfl⟩; rw [← hw] at P5 ⊢; rw [← hw] at t6_5; clear hw
               refine wpAnyH_take (i := 8) (oi := ⟨some 49, _, _, _, _, _⟩) (v := ?_) rfl (by kernel_rfl) (by kernel_rfl) (by kernel_rfl) (fun _ _ _ h => h) (Or.inl ⟨by rfl, ?_⟩) (by assumption) ?_
               rotate_left
               · intro w hSw
                 (try dsimp only at hSw)
                 go_simp
                 try with_reducible rfl
               try simp only [Act.put, List.setIfInBounds_toArray, List.set_cons_zero, List.set_cons_succ]
               refine wpAnyH_ready (rs := [7]) (by kernel_rfl) (by simp) ?_
               refine AllReadyH.cons (o := ⟨some 48, _, _, _, _, _⟩) rfl (fun K hK => ?_) ?_
               ·refine step_append_lies _ rfl _ _ 22 rfl v.heap.size 48 i0 (.int .u32 0) 1 4 Tryd.underlying22 hi hz0 hz1 hz2 rfl (by decide) (.slice B m d) m (cells M) rfl P5.mb.row ⟨_, 0, none⟩ 1 1 [.int .u32 0] rfl rfl t6_5.news (one_cell _ rfl) (by decide) (room_one (by omega)) (by omega) P5.hk.size _ rfl ?_; intro g7 c7 w6 hown hgrow hat hlt; refine hK.out _ _ trivial (fun hHeld => ?_)
                clear hK K; try simp only [Act.put, List.setIfInBounds_toArray, List.set_cons_zero, List.set_cons_succ]
                have P6 := P5.growB hown hgrow hat
                clear hown hgrow hat hlt
                obtain ⟨X0, X1, X2⟩ := P6.x; obtain ⟨F0, F1, F2⟩ := P6.f
                refine wpAnyH_ready (rs := [9]) (by kernel_rfl) (by simp) ?_; refine AllReadyH.cons (o := ⟨none, _, _, _, _, _⟩) rfl (fun K hK => ?_) AllReadyH.nil; go_simp; refine hK.out _ _ trivial (fun hHeld => ?_); clear hK K; try simp only [Act.put, List.setIfInBounds_toArray, List.set_cons_zero, List.set_cons_succ]
                refine wpAnyH_take (i := 10) (oi := ⟨some 50, _, _, _, _, _⟩) (v := ?_) rfl (by kernel_rfl) (by kernel_rfl) (by kernel_rfl) (fun _ _ _ h => h) (Or.inl ⟨by rfl, ?_⟩) (by assumption) ?_
                rotate_left
                · intro w hSw
                  (try dsimp only at hSw)
                  go_simp
                  try with_reducible rfl
                try simp only [Act.put, List.setIfInBounds_toArray, List.set_cons_zero, List.set_cons_succ]
                refine wpAnyH_ready (rs := [11]) (by kernel_rfl) (by simp) ?_; refine AllReadyH.cons (o := ⟨none, _, _, _, _, _⟩) rfl (fun K hK => ?_) AllReadyH.nil; go_simp; refine hK.out _ _ trivial (fun hHeld => ?_); clear hK K; try simp only [Act.put, List.setIfInBounds_toArray, List.set_cons_zero, List.set_cons_succ]
                refine wpAnyH_done (by kernel_rfl) ?_ _; go_wp2_with fail; go_meet
                exact ⟨rfl, _, _, _, _, _, _, _, _, P6.stored, (val_zero1 _).trans eL, (val_zero1 _).trans eM, by omega, by omega⟩
               exact AllReadyH.nil
              exact AllReadyH.nil
             refine AllReadyH.cons (o := ⟨some 46, _, _, _, _, _⟩) rfl (fun K hK => ?_) ?_
             ·obtain ⟨X0, X1, X2⟩ := P3.x; go_simp; refine hK.out _ _ trivial (fun hHeld => ?_); clear hK K X0 X1 X2; try simp only [Act.put, List.setIfInBounds_toArray, List.set_cons_zero, List.set_cons_succ]
              have P4 := P3; have t2_4 := t2_3; have t6_4 := t6_3; obtain ⟨w4, hw⟩ : ∃ v, v = w3 := ⟨_, rfl⟩; rw [← hw] at P4 ⊢; rw [← hw] at t2_4; rw [← hw] at t6_4; clear hw
              refine wpAnyH_ready (rs := [3]) (by kernel_rfl) (by simp) ?_
              refine AllReadyH.cons (o := ⟨some 44, _, _, _, _, _⟩) rfl (fun K hK => ?_) ?_
              ·refine step_append_lies _ rfl _ _ 22 rfl v.heap.size 48 i0 (.int .u32 0) 1 4 Tryd.underlying22 hi hz0 hz1 hz2 rfl (by decide) (.slice A n c) n (cells L) rfl P4.ma.row ⟨_, 0, none⟩ 1 1 [.int .u32 0] rfl rfl t2_4.news (one_cell _ rfl) (by decide) (room_one (by omega)) (by omega) P4.hk.size _ rfl ?_; intro g3 c3 w5 hown hgrow hat hlt; refine hK.out _ _ trivial (fun hHeld => ?_)
               clear hK K; try simp only [Act.put, List.setIfInBounds_toArray, List.set_cons_zero, List.set_cons_succ]
               have P5 := P4.growA hown hgrow hat
               have t6_5 := t6_4.growA hgrow hat
               clear hown hgrow hat hlt
               refine wpAnyH_take (i := 8) (oi := ⟨some 49, _, _, _, _, _⟩) (v := ?_) rfl (by kernel_rfl) (by kernel_rfl) (by kernel_rfl) (fun _ _ _ h => h) (Or.inl ⟨by rfl, ?_⟩) (by assumption) ?_
               rotate_left
               · intro w hSw
                 (try dsimp only at hSw)
                 go_simp
                 try with_reducible rfl
               try simp only [Act.put, List.setIfInBounds_toArray, List.set_cons_zero, List.set_cons_succ]
               refine wpAnyH_ready (rs := [7]) (by kernel_rfl) (by simp) ?_
               refine AllReadyH.cons (o := ⟨some 48, _, _, _, _, _⟩) rfl (fun K hK => ?_) ?_
               ·refine step_append_lies _ rfl _ _ 22 rfl v.heap.size 48 i0 (.int .u32 0) 1 4 Tryd.underlying22 hi hz0 hz1 hz2 rfl (by decide) (.slice B m d) m (cells M) rfl P5.mb.row ⟨_, 0, none⟩ 1 1 [.int .u32 0] rfl rfl t6_5.news (one_cell _ rfl) (by decide) (room_one (by omega)) (by omega) P5.hk.size _ rfl ?_; intro g7 c7 w6 hown hgrow hat hlt; refine hK.out _ _ trivial (fun hHeld => ?_)
                clear hK K; try simp only [Act.put, List.setIfInBounds_toArray, List.set_cons_zero, List.set_cons_succ]
                have P6 := P5.growB hown hgrow hat
                clear hown hgrow hat hlt
                obtain ⟨X0, X1, X2⟩ := P6.x; obtain ⟨F0, F1, F2⟩ := P6.f
                refine wpAnyH_ready (rs := [9]) (by kernel_rfl) (by simp) ?_; refine AllReadyH.cons (o := ⟨none, _, _, _, _, _⟩) rfl (fun K hK => ?_) AllReadyH.nil; go_simp; refine hK.out _ _ trivial (fun hHeld => ?_); clear hK K; try simp only [Act.put, List.setIfInBounds_toArray, List.set_cons_zero, List.set_cons_succ]
                refine wpAnyH_take (i := 10) (oi := ⟨some 50, _, _, _, _, _⟩) (v := ?_) rfl (by kernel_rfl) (by kernel_rfl) (by kernel_rfl) (fun _ _ _ h => h) (Or.inl ⟨by rfl, ?_⟩) (by assumption) ?_
                rotate_left
                · intro w hSw
                  (try dsimp only at hSw)
                  go_simp
                  try with_reducible rfl
                try simp only [Act.put, List.setIfInBounds_toArray, List.set_cons_zero, List.set_cons_succ]
                refine wpAnyH_ready (rs := [11]) (by kernel_rfl) (by simp) ?_; refine AllReadyH.cons (o := ⟨none, _, _, _, _, _⟩) rfl (fun K hK => ?_) AllReadyH.nil; go_simp; refine hK.out _ _ trivial (fun hHeld => ?_); clear hK K; try simp only [Act.put, List.setIfInBounds_toArray, List.set_cons_zero, List.set_cons_succ]
                refine wpAnyH_done (by kernel_rfl) ?_ _; go_wp2_with fail; go_meet
                exact ⟨rfl, _, _, _, _, _, _, _, _, P6.stored, (val_zero1 _).trans eL, (val_zero1 _).trans eM, by omega, by omega⟩
               exact AllReadyH.nil
              exact AllReadyH.nil
             exact AllReadyH.nil
            refine AllReadyH.cons (o := ⟨some 46, _, _, _, _, _⟩) rfl (fun K hK => ?_) ?_
            ·obtain ⟨X0, X1, X2⟩ := P2.x; go_simp; refine hK.out _ _ trivial (fun hHeld => ?_); clear hK K X0 X1 X2; try simp only [Act.put, List.setIfInBounds_toArray, List.set_cons_zero, List.set_cons_succ]
             have P3 := P2; have t2_3 := t2_2; have t6_3 := t6_2; obtain ⟨w3, hw⟩ : ∃ v, v = w2 := ⟨_, rfl⟩; rw [← hw] at P3 ⊢; rw [← hw] at t2_3; rw [← hw] at t6_3; clear hw
             refine wpAnyH_ready (rs := [1]) (by kernel_rfl) (by simp) ?_
             refine AllReadyH.cons (o := ⟨some 42, _, _, _, _, _⟩) rfl (fun K hK => ?_) ?_
             ·obtain ⟨X0, X1, X2⟩ := P3.x; go_simp; refine hK.out _ _ trivial (fun hHeld => ?_); clear hK K X0 X1 X2; try simp only [Act.put, List.setIfInBounds_toArray, List.set_cons_zero, List.set_cons_succ]
              have P4 := P3; have t2_4 := t2_3; have t6_4 := t6_3; obtain ⟨w4, hw⟩ : ∃ v, v = w3 := ⟨_, rfl⟩; rw [← hw] at P4 ⊢; rw [← hw] at t2_4; rw [← hw] at t6_4; clear hw
              refine wpAnyH_ready (rs := [3]) (by kernel_rfl) (by simp) ?_
              refine AllReadyH.cons (o := ⟨some 44, _, _, _, _, _⟩) rfl (fun K hK => ?_) ?_
              ·refine step_append_lies _ rfl _ _ 22 rfl v.heap.size 48 i0 (.int .u32 0) 1 4 Tryd.underlying22 hi hz0 hz1 hz2 rfl (by decide) (.slice A n c) n (cells L) rfl P4.ma.row ⟨_, 0, none⟩ 1 1 [.int .u32 0] rfl rfl t2_4.news (one_cell _ rfl) (by decide) (room_one (by omega)) (by omega) P4.hk.size _ rfl ?_; intro g3 c3 w5 hown hgrow hat hlt; refine hK.out _ _ trivial (fun hHeld => ?_)
               clear hK K; try simp only [Act.put, List.setIfInBounds_toArray, List.set_cons_zero, List.set_cons_succ]
               have P5 := P4.growA hown hgrow hat
               have t6_5 := t6_4.growA hgrow hat
               clear hown hgrow hat hlt
               refine wpAnyH_take (i := 8) (oi := ⟨some 49, _, _, _, _, _⟩) (v := ?_) rfl (by kernel_rfl) (by kernel_rfl) (by kernel_rfl) (fun _ _ _ h => h) (Or.inl ⟨by rfl, ?_⟩) (by assumption) ?_
               rotate_left
               · intro w hSw
                 (try dsimp only at hSw)
                 go_simp
                 try with_reducible rfl
               try simp only [Act.put, List.setIfInBounds_toArray, List.set_cons_zero, List.set_cons_succ]
               refine wpAnyH_ready (rs := [7]) (by kernel_rfl) (by simp) ?_
               refine AllReadyH.cons (o := ⟨some 48, _, _, _, _, _⟩) rfl (fun K hK => ?_) ?_
               ·refine step_append_lies _ rfl _ _ 22 rfl v.heap.size 48 i0 (.int .u32 0) 1 4 Tryd.underlying22 hi hz0 hz1 hz2 rfl (by decide) (.slice B m d) m (cells M) rfl P5.mb.row ⟨_, 0, none⟩ 1 1 [.int .u32 0] rfl rfl t6_5.news (one_cell _ rfl) (by decide) (room_one (by omega)) (by omega) P5.hk.size _ rfl ?_; intro g7 c7 w6 hown hgrow hat hlt; refine hK.out _ _ trivial (fun hHeld => ?_)
                clear hK K; try simp only [Act.put, List.setIfInBounds_toArray, List.set_cons_zero, List.set_cons_succ]
                have P6 := P5.growB hown hgrow hat
                clear hown hgrow hat hlt
                obtain ⟨X0, X1, X2⟩ := P6.x; obtain ⟨F0, F1, F2⟩ := P6.f
                refine wpAnyH_ready (rs := [9]) (by kernel_rfl) (by simp) ?_; refine AllReadyH.cons (o := ⟨none, _, _, _, _, _⟩) rfl (fun K hK => ?_) AllReadyH.nil; go_simp; refine hK.out _ _ trivial (fun hHeld => ?_); clear hK K; try simp only [Act.put, List.setIfInBounds_toArray, List.set_cons_zero, List.set_cons_succ]
                refine wpAnyH_take (i := 10) (oi := ⟨some 50, _, _, _, _, _⟩) (v := ?_) rfl (by kernel_rfl) (by kernel_rfl) (by kernel_rfl) (fun _ _ _ h => h) (Or.inl ⟨by rfl, ?_⟩) (by assumption) ?_
                rotate_left
                · intro w hSw
                  (try dsimp only at hSw)
                  go_simp
                  try with_reducible rfl
                try simp only [Act.put, List.setIfInBounds_toArray, List.set_cons_zero, List.set_cons_succ]
                refine wpAnyH_ready (rs := [11]) (by kernel_rfl) (by simp) ?_; refine AllReadyH.cons (o := ⟨none, _, _, _, _, _⟩) rfl (fun K hK => ?_) AllReadyH.nil; go_simp; refine hK.out _ _ trivial (fun hHeld => ?_); clear hK K; try simp only [Act.put, List.setIfInBounds_toArray, List.set_cons_zero, List.set_cons_succ]
                refine wpAnyH_done (by kernel_rfl) ?_ _; go_wp2_with fail; go_meet
                exact ⟨rfl, _, _, _, _, _, _, _, _, P6.stored, (val_zero1 _).trans eL, (val_zero1 _).trans eM, by omega, by omega⟩
               exact AllReadyH.nil
              exact AllReadyH.nil
             exact AllReadyH.nil
            exact AllReadyH.nil
           refine AllReadyH.cons (o := ⟨some 46, _, _, _, _, _⟩) rfl (fun K hK => ?_) ?_
           ·obtain ⟨X0, X1, X2⟩ := P1.x; go_simp; refine hK.out _ _ trivial (fun hHeld => ?_); clear hK K X0 X1 X2; try simp only [Act.put, List.setIfInBounds_toArray, List.set_cons_zero, List.set_cons_succ]
            have P2 := P1; have t6_2 := t6_1; obtain ⟨w2, hw⟩ : ∃ v, v = w1 := ⟨_, rfl⟩; rw [← hw] at P2 ⊢; rw [← hw] at t6_2; clear hw
            refine wpAnyH_ready (rs := [1, 2]) (by kernel_rfl) (by simp) ?_
            refine AllReadyH.cons (o := ⟨some 42, _, _, _, _, _⟩) rfl (fun K hK => ?_) ?_
            ·obtain ⟨X0, X1, X2⟩ := P2.x; go_simp; refine hK.out _ _ trivial (fun hHeld => ?_); clear hK K X0 X1 X2; try simp only [Act.put, List.setIfInBounds_toArray, List.set_cons_zero, List.set_cons_succ]
             have P3 := P2; have t6_3 := t6_2; obtain ⟨w3, hw⟩ : ∃ v, v = w2 := ⟨_, rfl⟩; rw [← hw] at P3 ⊢; rw [← hw] at t6_3; clear hw
             refine wpAnyH_ready (rs := [2]) (by kernel_rfl) (by simp) ?_
             refine AllReadyH.cons (o := ⟨some 43, _, _, _, _, _⟩) rfl (fun K hK => ?_) ?_
             ·go_simp; refine hK.out _ _ trivial (fun hHeld => ?_); clear hK K; try simp only [Act.put, List.setIfInBounds_toArray, List.set_cons_zero, List.set_cons_succ]
              have t2_4 := Lit.new P3 48; obtain ⟨w4, hv⟩ : ∃ v, w3.alloc (.cells #[.int .u32 0] 48) = v := ⟨_, rfl⟩
              have bc : Below w3.heap.size w3 w4 := by rw [← hv]; exact (Below.refl _ _).alloc (Nat.le_refl _) _
              rw [hv] at t2_4 ⊢; have P4 := P3.later bc; have t6_4 := t6_3.later bc; clear hv bc
              refine wpAnyH_ready (rs := [3]) (by kernel_rfl) (by simp) ?_
              refine AllReadyH.cons (o := ⟨some 44, _, _, _, _, _⟩) rfl (fun K hK => ?_) ?_
              ·refine step_append_lies _ rfl _ _ 22 rfl v.heap.size 48 i0 (.int .u32 0) 1 4 Tryd.underlying22 hi hz0 hz1 hz2 rfl (by decide) (.slice A n c) n (cells L) rfl P4.ma.row ⟨_, 0, none⟩ 1 1 [.int .u32 0] rfl rfl t2_4.news (one_cell _ rfl) (by decide) (room_one (by omega)) (by omega) P4.hk.size _ rfl ?_; intro g3 c3 w5 hown hgrow hat hlt; refine hK.out _ _ trivial (fun hHeld => ?_)
               clear hK K; try simp only [Act.put, List.setIfInBounds_toArray, List.set_cons_zero, List.set_cons_succ]
               have P5 := P4.growA hown hgrow hat
               have t6_5 := t6_4.growA hgrow hat
               clear hown hgrow hat hlt
               refine wpAnyH_take (i := 8) (oi := ⟨some 49, _, _, _, _, _⟩) (v := ?_) rfl (by kernel_rfl) (by kernel_rfl) (by kernel_rfl) (fun _ _ _ h => h) (Or.inl ⟨by rfl, ?_⟩) (by assumption) ?_
               rotate_left
               · intro w hSw
                 (try dsimp only at hSw)
                 go_simp
                 try with_reducible rfl
               try simp only [Act.put, List.setIfInBounds_toArray, List.set_cons_zero, List.set_cons_succ]
               refine wpAnyH_ready (rs := [7]) (by kernel_rfl) (by simp) ?_
               refine AllReadyH.cons (o := ⟨some 48, _, _, _, _, _⟩) rfl (fun K hK => ?_) ?_
               ·refine step_append_lies _ rfl _ _ 22 rfl v.heap.size 48 i0 (.int .u32 0) 1 4 Tryd.underlying22 hi hz0 hz1 hz2 rfl (by decide) (.slice B m d) m (cells M) rfl P5.mb.row ⟨_, 0, none⟩ 1 1 [.int .u32 0] rfl rfl t6_5.news (one_cell _ rfl) (by decide) (room_one (by omega)) (by omega) P5.hk.size _ rfl ?_; intro g7 c7 w6 hown hgrow hat hlt; refine hK.out _ _ trivial (fun hHeld => ?_)
                clear hK K; try simp only [Act.put, List.setIfInBounds_toArray, List.set_cons_zero, List.set_cons_succ]
                have P6 := P5.growB hown hgrow hat
                clear hown hgrow hat hlt
                obtain ⟨X0, X1, X2⟩ := P6.x; obtain ⟨F0, F1, F2⟩ := P6.f
                refine wpAnyH_ready (rs := [9]) (by kernel_rfl) (by simp) ?_; refine AllReadyH.cons (o := ⟨none, _, _, _, _, _⟩) rfl (fun K hK => ?_) AllReadyH.nil; go_simp; refine hK.out _ _ trivial (fun hHeld => ?_); clear hK K; try simp only [Act.put, List.setIfInBounds_toArray, List.set_cons_zero, List.set_cons_succ]
                refine wpAnyH_take (i := 10) (oi := ⟨some 50, _, _, _, _, _⟩) (v := ?_) rfl (by kernel_rfl) (by kernel_rfl) (by kernel_rfl) (fun _ _ _ h => h) (Or.inl ⟨by rfl, ?_⟩) (by assumption) ?_
                rotate_left
                · intro w hSw
                  (try dsimp only at hSw)
                  go_simp
                  try with_reducible rfl
                try simp only [Act.put, List.setIfInBounds_toArray, List.set_cons_zero, List.set_cons_succ]
                refine wpAnyH_ready (rs := [11]) (by kernel_rfl) (by simp) ?_; refine AllReadyH.cons (o := ⟨none, _, _, _, _, _⟩) rfl (fun K hK => ?_) AllReadyH.nil; go_simp; refine hK.out _ _ trivial (fun hHeld => ?_); clear hK K; try simp only [Act.put, List.setIfInBounds_toArray, List.set_cons_zero, List.set_cons_succ]
                refine wpAnyH_done (by kernel_rfl) ?_ _; go_wp2_with fail; go_meet
                exact ⟨rfl, _, _, _, _, _, _, _, _, P6.stored, (val_zero1 _).trans eL, (val_zero1 _).trans eM, by omega, by omega⟩
               exact AllReadyH.nil
              exact AllReadyH.nil
             exact AllReadyH.nil
            refine AllReadyH.cons (o := ⟨some 43, _, _, _, _, _⟩) rfl (fun K hK => ?_) ?_
            ·go_simp; refine hK.out _ _ trivial (fun hHeld => ?_); clear hK K; try simp only [Act.put, List.setIfInBounds_toArray, List.set_cons_zero, List.set_cons_succ]
             have t2_3 := Lit.new P2 48; obtain ⟨w3, hv⟩ : ∃ v, w2.alloc (.cells #[.int .u32 0] 48) = v := ⟨_, rfl⟩
             have bc : Below w2.heap.size w2 w3 := by rw [← hv]; exact (Below.refl _ _).alloc (Nat.le_refl _) _
             rw [hv] at t2_3 ⊢; have P3 := P2.later bc; have t6_3 := t6_2.later bc; clear hv bc
             refine wpAnyH_ready (rs := [1]) (by kernel_rfl) (by simp) ?_
             refine AllReadyH.cons (o := ⟨some 42, _, _, _, _, _⟩) rfl (fun K hK => ?_) ?_
             ·obtain ⟨X0, X1, X2⟩ := P3.x; go_simp; refine hK.out _ _ trivial (fun hHeld => ?_); clear hK K X0 X1 X2; try simp only [Act.put, List.setIfInBounds_toArray, List.set_cons_zero, List.set_cons_succ]
              have P4 := P3; have t2_4 := t2_3; have t6_4 := t6_3; obtain ⟨w4, hw⟩ : ∃ v, v = w3 := ⟨_, rfl⟩; rw [← hw] at P4 ⊢; rw [← hw] at t2_4; rw [← hw] at t6_4; clear hw
              refine wpAnyH_ready (rs := [3]) (by kernel_rfl) (by simp) ?_
              refine AllReadyH.cons (o := ⟨some 44, _, _, _, _, _⟩) rfl (fun K hK => ?_) ?_
              ·refine step_append_lies _ rfl _ _ 22 rfl v.heap.size 48 i0 (.int .u32 0) 1 4 Tryd.underlying22 hi hz0 hz1 hz2 rfl (by decide) (.slice A n c) n (cells L) rfl P4.ma.row ⟨_, 0, none⟩ 1 1 [.int .u32 0] rfl rfl t2_4.news (one_cell _ rfl) (by decide) (room_one (by omega)) (by omega) P4.hk.size _ rfl ?_; intro g3 c3 w5 hown hgrow hat hlt; refine hK.out _ _ trivial (fun hHeld => ?_)
               clear hK K; try simp only [Act.put, List.setIfInBounds_toArray, List.set_cons_zero, List.set_cons_succ]
               have P5 := P4.growA hown hgrow hat
               have t6_5 := t6_4.growA hgrow hat
               clear hown hgrow hat hlt
               refine wpAnyH_take (i := 8) (oi := ⟨some 49, _, _, _, _, _⟩) (v := ?_) rfl (by kernel_rfl) (by kernel_rfl) (by kernel_rfl) (fun _ _ _ h => h) (Or.inl ⟨by rfl, ?_⟩) (by assumption) ?_
               rotate_left
               · intro w hSw
                 (try dsimp only at hSw)
                 go_simp
                 try with_reducible rfl
               try simp only [Act.put, List.setIfInBounds_toArray, List.set_cons_zero, List.set_cons_succ]
               refine wpAnyH_ready (rs := [7]) (by kernel_rfl) (by simp) ?_
               refine AllReadyH.cons (o := ⟨some 48, _, _, _, _, _⟩) rfl (fun K hK => ?_) ?_
               ·refine step_append_lies _ rfl _ _ 22 rfl v.heap.size 48 i0 (.int .u32 0) 1 4 Tryd.underlying22 hi hz0 hz1 hz2 rfl (by decide) (.slice B m d) m (cells M) rfl P5.mb.row ⟨_, 0, none⟩ 1 1 [.int .u32 0] rfl rfl t6_5.news (one_cell _ rfl) (by decide) (room_one (by omega)) (by omega) P5.hk.size _ rfl ?_; intro g7 c7 w6 hown hgrow hat hlt; refine hK.out _ _ trivial (fun hHeld => ?_)
                clear hK K; try simp only [Act.put, List.setIfInBounds_toArray, List.set_cons_zero, List.set_cons_succ]
                have P6 := P5.growB hown hgrow hat
                clear hown hgrow hat hlt
                obtain ⟨X0, X1, X2⟩ := P6.x; obtain ⟨F0, F1, F2⟩ := P6.f
                refine wpAnyH_ready (rs := [9]) (by kernel_rfl) (by simp) ?_; refine AllReadyH.cons (o := ⟨none, _, _, _, _, _⟩) rfl (fun K hK => ?_) AllReadyH.nil; go_simp; refine hK.out _ _ trivial (fun hHeld => ?_); clear hK K; try simp only [Act.put, List.setIfInBounds_toArray, List.set_cons_zero, List.set_cons_succ]
                refine wpAnyH_take (i := 10) (oi := ⟨some 50, _, _, _, _, _⟩) (v := ?_) rfl (by kernel_rfl) (by kernel_rfl) (by kernel_rfl) (fun _ _ _ h => h) (Or.inl ⟨by rfl, ?_⟩) (by assumption) ?_
                rotate_left
                · intro w hSw
                  (try dsimp only at hSw)
                  go_simp
                  try with_reducible rfl
                try simp only [Act.put, List.setIfInBounds_toArray, List.set_cons_zero, List.set_cons_succ]
                refine wpAnyH_ready (rs := [11]) (by kernel_rfl) (by simp) ?_; refine AllReadyH.cons (o := ⟨none, _, _, _, _, _⟩) rfl (fun K hK => ?_) AllReadyH.nil; go_simp; refine hK.out _ _ trivial (fun hHeld => ?_); clear hK K; try simp only [Act.put, List.setIfInBounds_toArray, List.set_cons_zero, List.set_cons_succ]
                refine wpAnyH_done (by kernel_rfl) ?_ _; go_wp2_with fail; go_meet
                exact ⟨rfl, _, _, _, _, _, _, _, _, P6.stored, (val_zero1 _).trans eL, (val_zero1 _).trans eM, by omega, by omega⟩
               exact AllReadyH.nil
              exact AllReadyH.nil
             exact AllReadyH.nil
            exact AllReadyH.nil
           exact AllReadyH.nil
          exact AllReadyH.nil
        case rest =>
          obtain ⟨rfl, hden⟩ := hcut
          go_wp2_with fail
          go_roundw
          case rel => exact ⟨i + 1, by go_num, ⟨by omega, by omega⟩, hden⟩
          case measure => simp [intOf] <;> omega
      · go_upto_region 9 with fail
        obtain ⟨Ac, nc, cc, L, Bc, mc, dc, M, P0, eL, eM, bn, bm⟩ := hden
        have lc : Loose wr sa Ac nc cc Bc mc dc qa 5 := (loose_of ⟨L, P0.ma.rd, eL⟩ ⟨M, P0.mb.rd, eM⟩ (by omega) (by omega)).cast ((rat_factor sa (by omega)).trans HQA.out)
        obtain ⟨X0, X1, X2⟩ := P0.x
        have HCC := Lib.hid (three_cells P0.lt X0 X1 X2)
        have HMA := Lib.hid P0.ma.rd
        have hkr := P0.hk
        have hbn : nc ≤ 5 := by omega
        clear eL eM bn bm P0 hden hii
        go_upto_region 10 with fail
        clear X0 X1 X2

        obtain ⟨sv, hsv⟩ : ∃ sv : Bool, (zz % 2 == 0) = sv := ⟨_, rfl⟩
        rw [hsv]
        obtain ⟨u, hu⟩ : ∃ u, wr.alloc (.cells #[.bool sv, .slice Ac nc cc, .slice none 0 0] 40) = u := ⟨_, rfl⟩
        obtain ⟨pz, hpz, _, bu, h_z, _⟩ := boxes0 wr _ _ _ _ u hu
        rw [hu, ← hpz]
        have HCZ := Lib.hid h_z
        have hku := nextB hkr bu
        have lv : Loose u sv Ac nc cc none 0 0 0 5 := ((loose_of ⟨L, HMA.out, rfl⟩ (num_nil _) hbn (by omega)).cast (rat_over_zero _ _)).below bu
        replace la := la.below hku
        replace lb := lb.below hku
        replace lc := lc.below bu
        have hlu := hlv.below hku
        have bwu := bwv.trans (hku.mono bwv.size)
        have HCA2 := Lib.hid (fun W (hb : Below u.heap.size u W) => HCA.out W (nextB hku hb))
        have HCB2 := Lib.hid (fun W (hb : Below u.heap.size u W) => HCB.out W (nextB hku hb))
        have HCC2 := Lib.hid (fun W (hb : Below u.heap.size u W) => HCC.out W (nextB bu hb))
        obtain ⟨X, hX⟩ : ∃ X, cmpR qa qb = X := ⟨_, rfl⟩
        have HX := Lib.hid hX
        have HS := Lib.hid (cmpR_self qa)
        have HZ := Lib.hid sgnR_zero
        clear hX h_z hpz hu hsv HCA HCB HCC HMA hkr hku bu hlv bwv HQA
        have hk : Below u.heap.size u u.drew := (Below.refl u.heap.size u).drew
        refine wp_region_held_drew (S := (fun W => (W.cell? ⟨p, 0, none⟩ = some (.bool sa) ∧ W.cell? ⟨p, 1, none⟩ = some (.slice Aa na ca) ∧ W.cell? ⟨p, 2, none⟩ = some (.slice Ba ma da)) ∧ (W.cell? ⟨p + 1, 0, none⟩ = some (.bool sb) ∧ W.cell? ⟨p + 1, 1, none⟩ = some (.slice Ab nb cb) ∧ W.cell? ⟨p + 1, 2, none⟩ = some (.slice Bb mb db)) ∧ (W.cell? ⟨gc, 0, none⟩ = some (.bool sa) ∧ W.cell? ⟨gc, 1, none⟩ = some (.slice Ac nc cc) ∧ W.cell? ⟨gc, 2, none⟩ = some (.slice Bc mc dc)) ∧ (W.cell? ⟨pz, 0, none⟩ = some (.bool sv) ∧ W.cell? ⟨pz, 1, none⟩ = some (.slice Ac nc cc) ∧ W.cell? ⟨pz, 2, none⟩ = some (.slice none 0 0)))) (by kernel_rfl) ?_ (fun hHeld => ?_)
        · exact ⟨HCA2.out _ hk, HCB2.out _ hk, HCC2.out _ hk, HCZ.out _ hk⟩
        refine wpAnyH_take (i := 0) (oi := ⟨some 57, _, _, _, _, _⟩) (v := ?_) rfl (by kernel_rfl) (by kernel_rfl) (by kernel_rfl) (fun _ _ _ h => h) (Or.inl ⟨by rfl, ?_⟩) (by assumption) ?_
        rotate_left
        · intro w hSw
          (try dsimp only at hSw)
          go_simp
          try with_reducible rfl
        try simp only [Act.put, List.setIfInBounds_toArray, List.set_cons_zero, List.set_cons_succ]
        refine wpAnyH_take (i := 1) (oi := ⟨some 58, _, _, _, _, _⟩) (v := ?_) rfl (by kernel_rfl) (by kernel_rfl) (by kernel_rfl) (fun _ _ _ h => h) (Or.inl ⟨by rfl, ?_⟩) (by assumption) ?_
        rotate_left
        · intro w hSw
          (try dsimp only at hSw)
          go_simp
          try with_reducible rfl
        try simp only [Act.put, List.setIfInBounds_toArray, List.set_cons_zero, List.set_cons_succ]
        refine wpAnyH_take (i := 3) (oi := ⟨some 60, _, _, _, _, _⟩) (v := ?_) rfl (by kernel_rfl) (by kernel_rfl) (by kernel_rfl) (fun _ _ _ h => h) (Or.inl ⟨by rfl, ?_⟩) (by assumption) ?_
        rotate_left
        · intro w hSw
          (try dsimp only at hSw)
          go_simp
          try with_reducible rfl
        try simp only [Act.put, List.setIfInBounds_toArray, List.set_cons_zero, List.set_cons_succ]
        refine wpAnyH_take (i := 4) (oi := ⟨some 61, _, _, _, _, _⟩) (v := ?_) rfl (by kernel_rfl) (by kernel_rfl) (by kernel_rfl) (fun _ _ _ h => h) (Or.inl ⟨by rfl, ?_⟩) (by assumption) ?_
        rotate_left
        · intro w hSw
          (try dsimp only at hSw)
          go_simp
          try with_reducible rfl
        try simp only [Act.put, List.setIfInBounds_toArray, List.set_cons_zero, List.set_cons_succ]
        refine wpAnyH_ready (rs := [2]) (by kernel_rfl) (by simp) ?_
        refine AllReadyH.cons (o := ⟨some 59, _, _, _, _, _⟩) rfl (fun K hK => ?_) AllReadyH.nil
        go_simp
        go_at_call 28
        refine (add_r (hlu.below hk) (lc.below hk) (lb.below hk) (by omega) (by omega) (by omega) (by omega)).mono ?_
        rintro e w' ⟨s1, A1, n1, c1, B1, m1, d1, rfl, r1, _, _, e1⟩
        replace hk := nextB hk e1
        go_wp2_with fail
        refine hK.out _ _ ⟨HCA2.out _ hk, HCB2.out _ hk, HCC2.out _ hk, HCZ.out _ hk⟩ (fun hHeld => ?_)
        clear hK K
        try simp only [Act.put, List.setIfInBounds_toArray, List.set_cons_zero, List.set_cons_succ]
        refine wpAnyH_ready (rs := [5]) (by kernel_rfl) (by simp) ?_
        refine AllReadyH.cons (o := ⟨some 62, _, _, _, _, _⟩) rfl (fun K hK => ?_) AllReadyH.nil
        go_simp
        go_at_call 28
        refine (add_r (hlu.below hk) (la.below hk) (lb.below hk) (by omega) (by omega) (by omega) (by omega)).mono ?_
        rintro e w' ⟨s2, A2, n2, c2, B2, m2, d2, rfl, r2, _, _, e2⟩
        replace hk := nextB hk e2
        go_wp2_with fail
        refine hK.out _ _ ⟨HCA2.out _ hk, HCB2.out _ hk, HCC2.out _ hk, HCZ.out _ hk⟩ (fun hHeld => ?_)
        clear hK K
        try simp only [Act.put, List.setIfInBounds_toArray, List.set_cons_zero, List.set_cons_succ]
        refine wpAnyH_ready (rs := [6]) (by kernel_rfl) (by simp) ?_
        refine AllReadyH.cons (o := ⟨some 63, _, _, _, _, _⟩) rfl (fun K hK => ?_) AllReadyH.nil
        go_simp
        go_at_call 37
        refine (sameR_true (r1.below e2) r2 (rfl)).mono ?_
        rintro e w' ⟨rfl, e3⟩
        replace hk := nextB hk e3
        go_wp2_with fail
        refine hK.out _ _ ⟨HCA2.out _ hk, HCB2.out _ hk, HCC2.out _ hk, HCZ.out _ hk⟩ (fun hHeld => ?_)
        clear hK K
        try simp only [Act.put, List.setIfInBounds_toArray, List.set_cons_zero, List.set_cons_succ]
        refine wpAnyH_take (i := 7) (oi := ⟨some 64, _, _, _, _, _⟩) (v := ?_) rfl (by kernel_rfl) (by kernel_rfl) (by kernel_rfl) (fun _ _ _ h => h) (Or.inl ⟨by rfl, ?_⟩) (by assumption) ?_
        rotate_left
        · intro w hSw
          (try dsimp only at hSw)
          go_simp
          try with_reducible rfl
        try simp only [Act.put, List.setIfInBounds_toArray, List.set_cons_zero, List.set_cons_succ]
        refine wpAnyH_take (i := 8) (oi := ⟨some 65, _, _, _, _, _⟩) (v := ?_) rfl (by kernel_rfl) (by kernel_rfl) (by kernel_rfl) (fun _ _ _ h => h) (Or.inl ⟨by rfl, ?_⟩) (by assumption) ?_
        rotate_left
        · intro w hSw
          (try dsimp only at hSw)
          go_simp
          try with_reducible rfl
        try simp only [Act.put, List.setIfInBounds_toArray, List.set_cons_zero, List.set_cons_succ]
        refine wpAnyH_take (i := 9) (oi := ⟨some 66, _, _, _, _, _⟩) (v := ?_) rfl (by kernel_rfl) (by kernel_rfl) (by kernel_rfl) (fun _ _ _ h => h) (Or.inl ⟨by rfl, ?_⟩) (by assumption) ?_
        rotate_left
        · intro w hSw
          (try dsimp only at hSw)
          go_simp
          try with_reducible rfl
        try simp only [Act.put, List.setIfInBounds_toArray, List.set_cons_zero, List.set_cons_succ]
        refine wpAnyH_take (i := 11) (oi := ⟨some 68, _, _, _, _, _⟩) (v := ?_) rfl (by kernel_rfl) (by kernel_rfl) (by kernel_rfl) (fun _ _ _ h => h) (Or.inl ⟨by rfl, ?_⟩) (by assumption) ?_
        rotate_left
        · intro w hSw
          (try dsimp only at hSw)
          go_simp
          try with_reducible rfl
        try simp only [Act.put, List.setIfInBounds_toArray, List.set_cons_zero, List.set_cons_succ]
        refine wpAnyH_take (i := 12) (oi := ⟨some 69, _, _, _, _, _⟩) (v := ?_) rfl (by kernel_rfl) (by kernel_rfl) (by kernel_rfl) (fun _ _ _ h => h) (Or.inl ⟨by rfl, ?_⟩) (by assumption) ?_
        rotate_left
        · intro w hSw
          (try dsimp only at hSw)
          go_simp
          try with_reducible rfl
        try simp only [Act.put, List.setIfInBounds_toArray, List.set_cons_zero, List.set_cons_succ]
        refine wpAnyH_ready (rs := [10]) (by kernel_rfl) (by simp) ?_
        refine AllReadyH.cons (o := ⟨some 67, _, _, _, _, _⟩) rfl (fun K hK => ?_) AllReadyH.nil
        go_simp
        go_at_call 30
        refine (mul_r (hlu.below hk) (lb.below hk) (lc.below hk) (by omega) (by omega) (by omega) (by omega)).mono ?_
        rintro e w' ⟨s4, A4, n4, c4, B4, m4, d4, rfl, r4, _, _, e4⟩
        replace hk := nextB hk e4
        go_wp2_with fail
        refine hK.out _ _ ⟨HCA2.out _ hk, HCB2.out _ hk, HCC2.out _ hk, HCZ.out _ hk⟩ (fun hHeld => ?_)
        clear hK K
        try simp only [Act.put, List.setIfInBounds_toArray, List.set_cons_zero, List.set_cons_succ]
        refine wpAnyH_ready (rs := [13]) (by kernel_rfl) (by simp) ?_
        refine AllReadyH.cons (o := ⟨some 70, _, _, _, _, _⟩) rfl (fun K hK => ?_) AllReadyH.nil
        go_simp
        go_at_call 30
        refine (mul_r (hlu.below hk) (lb.below hk) (la.below hk) (by omega) (by omega) (by omega) (by omega)).mono ?_
        rintro e w' ⟨s5, A5, n5, c5, B5, m5, d5, rfl, r5, _, _, e5⟩
        replace hk := nextB hk e5
        go_wp2_with fail
        refine hK.out _ _ ⟨HCA2.out _ hk, HCB2.out _ hk, HCC2.out _ hk, HCZ.out _ hk⟩ (fun hHeld => ?_)
        clear hK K
        try simp only [Act.put, List.setIfInBounds_toArray, List.set_cons_zero, List.set_cons_succ]
        refine wpAnyH_ready (rs := [14]) (by kernel_rfl) (by simp) ?_
        refine AllReadyH.cons (o := ⟨some 71, _, _, _, _, _⟩) rfl (fun K hK => ?_) AllReadyH.nil
        go_simp
        go_at_call 37
        refine (sameR_true (r4.below e5) r5 (rfl)).mono ?_
        rintro e w' ⟨rfl, e6⟩
        replace hk := nextB hk e6
        go_wp2_with fail
        refine hK.out _ _ ⟨HCA2.out _ hk, HCB2.out _ hk, HCC2.out _ hk, HCZ.out _ hk⟩ (fun hHeld => ?_)
        clear hK K
        try simp only [Act.put, List.setIfInBounds_toArray, List.set_cons_zero, List.set_cons_succ]
        refine wpAnyH_take (i := 15) (oi := ⟨some 72, _, _, _, _, _⟩) (v := ?_) rfl (by kernel_rfl) (by kernel_rfl) (by kernel_rfl) (fun _ _ _ h => h) (Or.inl ⟨by rfl, ?_⟩) (by assumption) ?_
        rotate_left
        · intro w hSw
          (try dsimp only at hSw)
          go_simp
          try with_reducible rfl
        try simp only [Act.put, List.setIfInBounds_toArray, List.set_cons_zero, List.set_cons_succ]
        refine wpAnyH_take (i := 16) (oi := ⟨some 73, _, _, _, _, _⟩) (v := ?_) rfl (by kernel_rfl) (by kernel_rfl) (by kernel_rfl) (fun _ _ _ h => h) (Or.inl ⟨by rfl, ?_⟩) (by assumption) ?_
        rotate_left
        · intro w hSw
          (try dsimp only at hSw)
          go_simp
          try with_reducible rfl
        try simp only [Act.put, List.setIfInBounds_toArray, List.set_cons_zero, List.set_cons_succ]
        refine wpAnyH_take (i := 17) (oi := ⟨some 74, _, _, _, _, _⟩) (v := ?_) rfl (by kernel_rfl) (by kernel_rfl) (by kernel_rfl) (fun _ _ _ h => h) (Or.inl ⟨by rfl, ?_⟩) (by assumption) ?_
        rotate_left
        · intro w hSw
          (try dsimp only at hSw)
          go_simp
          try with_reducible rfl
        try simp only [Act.put, List.setIfInBounds_toArray, List.set_cons_zero, List.set_cons_succ]
        refine wpAnyH_take (i := 18) (oi := ⟨some 75, _, _, _, _, _⟩) (v := ?_) rfl (by kernel_rfl) (by kernel_rfl) (by kernel_rfl) (fun _ _ _ h => h) (Or.inl ⟨by rfl, ?_⟩) (by assumption) ?_
        rotate_left
        · intro w hSw
          (try dsimp only at hSw)
          go_simp
          try with_reducible rfl
        try simp only [Act.put, List.setIfInBounds_toArray, List.set_cons_zero, List.set_cons_succ]
        refine wpAnyH_take (i := 20) (oi := ⟨some 77, _, _, _, _, _⟩) (v := ?_) rfl (by kernel_rfl) (by kernel_rfl) (by kernel_rfl) (fun _ _ _ h => h) (Or.inl ⟨by rfl, ?_⟩) (by assumption) ?_
        rotate_left
        · intro w hSw
          (try dsimp only at hSw)
          go_simp
          try with_reducible rfl
        try simp only [Act.put, List.setIfInBounds_toArray, List.set_cons_zero, List.set_cons_succ]
        refine wpAnyH_take (i := 21) (oi := ⟨some 78, _, _, _, _, _⟩) (v := ?_) rfl (by kernel_rfl) (by kernel_rfl) (by kernel_rfl) (fun _ _ _ h => h) (Or.inl ⟨by rfl, ?_⟩) (by assumption) ?_
        rotate_left
        · intro w hSw
          (try dsimp only at hSw)
          go_simp
          try with_reducible rfl
        try simp only [Act.put, List.setIfInBounds_toArray, List.set_cons_zero, List.set_cons_succ]
        refine wpAnyH_ready (rs := [19]) (by kernel_rfl) (by simp) ?_
        refine AllReadyH.cons (o := ⟨some 76, _, _, _, _, _⟩) rfl (fun K hK => ?_) AllReadyH.nil
        go_simp
        go_at_call 39
        refine (ratCmp_r (lc.below hk) (lb.below hk) (by omega) (by omega) (by omega) (by omega)).mono ?_
        rintro e w' ⟨rfl, e7⟩
        replace hk := nextB hk e7
        rw [HX.out]
        go_wp2_with fail
        refine hK.out _ _ ⟨HCA2.out _ hk, HCB2.out _ hk, HCC2.out _ hk, HCZ.out _ hk⟩ (fun hHeld => ?_)
        clear hK K
        try simp only [Act.put, List.setIfInBounds_toArray, List.set_cons_zero, List.set_cons_succ]
        refine wpAnyH_ready (rs := [22]) (by kernel_rfl) (by simp) ?_
        refine AllReadyH.cons (o := ⟨some 79, _, _, _, _, _⟩) rfl (fun K hK => ?_) AllReadyH.nil
        go_simp
        go_at_call 39
        refine (ratCmp_r (la.below hk) (lb.below hk) (by omega) (by omega) (by omega) (by omega)).mono ?_
        rintro e w' ⟨rfl, e8⟩
        replace hk := nextB hk e8
        rw [HX.out]
        go_wp2_with fail
        refine hK.out _ _ ⟨HCA2.out _ hk, HCB2.out _ hk, HCC2.out _ hk, HCZ.out _ hk⟩ (fun hHeld => ?_)
        clear hK K
        try simp only [Act.put, List.setIfInBounds_toArray, List.set_cons_zero, List.set_cons_succ]
        refine wpAnyH_take (i := 23) (oi := ⟨some 80, _, _, _, _, _⟩) (v := ?_) rfl (by kernel_rfl) (by kernel_rfl) (by kernel_rfl) (fun _ _ _ h => h) (Or.inl ⟨by rfl, ?_⟩) (by assumption) ?_
        rotate_left
        · intro w hSw
          (try dsimp only at hSw)
          go_simp
          try with_reducible rfl
        try simp only [Act.put, List.setIfInBounds_toArray, List.set_cons_zero, List.set_cons_succ]
        refine wpAnyH_take (i := 24) (oi := ⟨some 81, _, _, _, _, _⟩) (v := ?_) rfl (by kernel_rfl) (by kernel_rfl) (by kernel_rfl) (fun _ _ _ h => h) (Or.inl ⟨by rfl, ?_⟩) (by assumption) ?_
        rotate_left
        · intro w hSw
          (try dsimp only at hSw)
          go_simp
          try with_reducible rfl
        try simp only [Act.put, List.setIfInBounds_toArray, List.set_cons_zero, List.set_cons_succ]
        refine wpAnyH_take (i := 25) (oi := ⟨some 82, _, _, _, _, _⟩) (v := ?_) rfl (by kernel_rfl) (by kernel_rfl) (by kernel_rfl) (fun _ _ _ h => h) (Or.inl ⟨by rfl, ?_⟩) (by assumption) ?_
        rotate_left
        · intro w hSw
          (try dsimp only at hSw)
          go_simp
          try with_reducible rfl
        try simp only [Act.put, List.setIfInBounds_toArray, List.set_cons_zero, List.set_cons_succ]
        refine wpAnyH_take (i := 26) (oi := ⟨some 83, _, _, _, _, _⟩) (v := ?_) rfl (by kernel_rfl) (by kernel_rfl) (by kernel_rfl) (fun _ _ _ h => h) (Or.inl ⟨by rfl, ?_⟩) (by assumption) ?_
        rotate_left
        · intro w hSw
          (try dsimp only at hSw)
          go_simp
          try with_reducible rfl
        try simp only [Act.put, List.setIfInBounds_toArray, List.set_cons_zero, List.set_cons_succ]
        refine wpAnyH_take (i := 27) (oi := ⟨some 84, _, _, _, _, _⟩) (v := ?_) rfl (by kernel_rfl) (by kernel_rfl) (by kernel_rfl) (fun _ _ _ h => h) (Or.inl ⟨by rfl, ?_⟩) (by assumption) ?_
        rotate_left
        · intro w hSw
          (try dsimp only at hSw)
          go_simp
          try with_reducible rfl
        try simp only [Act.put, List.setIfInBounds_toArray, List.set_cons_zero, List.set_cons_succ]
        refine wpAnyH_ready (rs := [28]) (by kernel_rfl) (by simp) ?_
        refine AllReadyH.cons (o := ⟨some 85, _, _, _, _, _⟩) rfl (fun K hK => ?_) AllReadyH.nil
        go_simp
        go_at_call 40
        refine (ratEqual_r (la.below hk) (lc.below hk) (by omega) (by omega) (by omega) (by omega)).mono ?_
        rintro e w' ⟨rfl, e9⟩
        replace hk := nextB hk e9
        rw [HS.out]
        go_wp2_with fail
        refine hK.out _ _ ⟨HCA2.out _ hk, HCB2.out _ hk, HCC2.out _ hk, HCZ.out _ hk⟩ (fun hHeld => ?_)
        clear hK K
        try simp only [Act.put, List.setIfInBounds_toArray, List.set_cons_zero, List.set_cons_succ]
        refine wpAnyH_take (i := 29) (oi := ⟨some 86, _, _, _, _, _⟩) (v := ?_) rfl (by kernel_rfl) (by kernel_rfl) (by kernel_rfl) (fun _ _ _ h => h) (Or.inl ⟨by rfl, ?_⟩) (by assumption) ?_
        rotate_left
        · intro w hSw
          (try dsimp only at hSw)
          go_simp
          try with_reducible rfl
        try simp only [Act.put, List.setIfInBounds_toArray, List.set_cons_zero, List.set_cons_succ]
        refine wpAnyH_take (i := 30) (oi := ⟨some 87, _, _, _, _, _⟩) (v := ?_) rfl (by kernel_rfl) (by kernel_rfl) (by kernel_rfl) (fun _ _ _ h => h) (Or.inl ⟨by rfl, ?_⟩) (by assumption) ?_
        rotate_left
        · intro w hSw
          (try dsimp only at hSw)
          go_simp
          try with_reducible rfl
        try simp only [Act.put, List.setIfInBounds_toArray, List.set_cons_zero, List.set_cons_succ]
        refine wpAnyH_take (i := 31) (oi := ⟨some 88, _, _, _, _, _⟩) (v := ?_) rfl (by kernel_rfl) (by kernel_rfl) (by kernel_rfl) (fun _ _ _ h => h) (Or.inl ⟨by rfl, ?_⟩) (by assumption) ?_
        rotate_left
        · intro w hSw
          (try dsimp only at hSw)
          go_simp
          try with_reducible rfl
        try simp only [Act.put, List.setIfInBounds_toArray, List.set_cons_zero, List.set_cons_succ]
        refine wpAnyH_take (i := 33) (oi := ⟨some 90, _, _, _, _, _⟩) (v := ?_) rfl (by kernel_rfl) (by kernel_rfl) (by kernel_rfl) (fun _ _ _ h => h) (Or.inl ⟨by rfl, ?_⟩) (by assumption) ?_
        rotate_left
        · intro w hSw
          (try dsimp only at hSw)
          go_simp
          try with_reducible rfl
        try simp only [Act.put, List.setIfInBounds_toArray, List.set_cons_zero, List.set_cons_succ]
        refine wpAnyH_ready (rs := [32]) (by kernel_rfl) (by simp) ?_
        refine AllReadyH.cons (o := ⟨some 89, _, _, _, _, _⟩) rfl (fun K hK => ?_) AllReadyH.nil
        go_simp
        go_at_call 41
        refine (ratFormat_r (hlu.below hk) (lc.below hk) (by omega) (by omega)).mono ?_
        rintro e w' ⟨rfl, e10⟩
        replace hk := nextB hk e10
        go_wp2_with fail
        refine hK.out _ _ ⟨HCA2.out _ hk, HCB2.out _ hk, HCC2.out _ hk, HCZ.out _ hk⟩ (fun hHeld => ?_)
        clear hK K
        try simp only [Act.put, List.setIfInBounds_toArray, List.set_cons_zero, List.set_cons_succ]
        refine wpAnyH_ready (rs := [34]) (by kernel_rfl) (by simp) ?_
        refine AllReadyH.cons (o := ⟨some 91, _, _, _, _, _⟩) rfl (fun K hK => ?_) AllReadyH.nil
        go_simp
        go_at_call 41
        refine (ratFormat_r (hlu.below hk) (la.below hk) (by omega) (by omega)).mono ?_
        rintro e w' ⟨rfl, e11⟩
        replace hk := nextB hk e11
        go_wp2_with fail
        refine hK.out _ _ ⟨HCA2.out _ hk, HCB2.out _ hk, HCC2.out _ hk, HCZ.out _ hk⟩ (fun hHeld => ?_)
        clear hK K
        try simp only [Act.put, List.setIfInBounds_toArray, List.set_cons_zero, List.set_cons_succ]
        refine wpAnyH_take (i := 35) (oi := ⟨some 92, _, _, _, _, _⟩) (v := ?_) rfl (by kernel_rfl) (by kernel_rfl) (by kernel_rfl) (fun _ _ _ h => h) (Or.inl ⟨by rfl, ?_⟩) (by assumption) ?_
        rotate_left
        · intro w hSw
          (try dsimp only at hSw)
          go_simp
          try with_reducible rfl
        try simp only [Act.put, List.setIfInBounds_toArray, List.set_cons_zero, List.set_cons_succ]
        refine wpAnyH_take (i := 36) (oi := ⟨some 93, _, _, _, _, _⟩) (v := ?_) rfl (by kernel_rfl) (by kernel_rfl) (by kernel_rfl) (fun _ _ _ h => h) (Or.inl ⟨by rfl, ?_⟩) (by assumption) ?_
        rotate_left
        · intro w hSw
          (try dsimp only at hSw)
          go_simp
          try with_reducible rfl
        try simp only [Act.put, List.setIfInBounds_toArray, List.set_cons_zero, List.set_cons_succ]
        refine wpAnyH_take (i := 37) (oi := ⟨some 94, _, _, _, _, _⟩) (v := ?_) rfl (by kernel_rfl) (by kernel_rfl) (by kernel_rfl) (fun _ _ _ h => h) (Or.inl ⟨by rfl, ?_⟩) (by assumption) ?_
        rotate_left
        · intro w hSw
          (try dsimp only at hSw)
          go_simp
          try with_reducible rfl
        try simp only [Act.put, List.setIfInBounds_toArray, List.set_cons_zero, List.set_cons_succ]
        refine wpAnyH_take (i := 38) (oi := ⟨some 95, _, _, _, _, _⟩) (v := ?_) rfl (by kernel_rfl) (by kernel_rfl) (by kernel_rfl) (fun _ _ _ h => h) (Or.inl ⟨by rfl, ?_⟩) (by assumption) ?_
        rotate_left
        · intro w hSw
          (try dsimp only at hSw)
          go_simp
          try with_reducible rfl
        try simp only [Act.put, List.setIfInBounds_toArray, List.set_cons_zero, List.set_cons_succ]
        refine wpAnyH_take (i := 39) (oi := ⟨some 96, _, _, _, _, _⟩) (v := ?_) rfl (by kernel_rfl) (by kernel_rfl) (by kernel_rfl) (fun _ _ _ h => h) (Or.inl ⟨by rfl, ?_⟩) (by assumption) ?_
        rotate_left
        · intro w hSw
          (try dsimp only at hSw)
          go_simp
          try with_reducible rfl
        try simp only [Act.put, List.setIfInBounds_toArray, List.set_cons_zero, List.set_cons_succ]
        refine wpAnyH_take (i := 41) (oi := ⟨some 98, _, _, _, _, _⟩) (v := ?_) rfl (by kernel_rfl) (by kernel_rfl) (by kernel_rfl) (fun _ _ _ h => h) (Or.inl ⟨by rfl, ?_⟩) (by assumption) ?_
        rotate_left
        · intro w hSw
          (try dsimp only at hSw)
          go_simp
          try with_reducible rfl
        try simp only [Act.put, List.setIfInBounds_toArray, List.set_cons_zero, List.set_cons_succ]
        refine wpAnyH_ready (rs := [40]) (by kernel_rfl) (by simp) ?_
        refine AllReadyH.cons (o := ⟨some 97, _, _, _, _, _⟩) rfl (fun K hK => ?_) AllReadyH.nil
        go_simp
        go_at_call 28
        refine (add_r (hlu.below hk) (lv.below hk) (lb.below hk) (by omega) (by omega) (by omega) (by omega)).mono ?_
        rintro e w' ⟨s12, A12, n12, c12, B12, m12, d12, rfl, r12, _, _, e12⟩
        replace hk := nextB hk e12
        go_wp2_with fail
        refine hK.out _ _ ⟨HCA2.out _ hk, HCB2.out _ hk, HCC2.out _ hk, HCZ.out _ hk⟩ (fun hHeld => ?_)
        clear hK K
        try simp only [Act.put, List.setIfInBounds_toArray, List.set_cons_zero, List.set_cons_succ]
        refine wpAnyH_ready (rs := [42]) (by kernel_rfl) (by simp) ?_
        refine AllReadyH.cons (o := ⟨some 99, _, _, _, _, _⟩) rfl (fun K hK => ?_) AllReadyH.nil
        go_simp
        go_at_call 27
        refine (norm_r (hlu.below hk) (lb.below hk) (by omega) (by omega)).mono ?_
        rintro e w' ⟨s13, A13, n13, c13, B13, m13, d13, rfl, r13, _, _, e13⟩
        replace hk := nextB hk e13
        go_wp2_with fail
        refine hK.out _ _ ⟨HCA2.out _ hk, HCB2.out _ hk, HCC2.out _ hk, HCZ.out _ hk⟩ (fun hHeld => ?_)
        clear hK K
        try simp only [Act.put, List.setIfInBounds_toArray, List.set_cons_zero, List.set_cons_succ]
        refine wpAnyH_ready (rs := [43]) (by kernel_rfl) (by simp) ?_
        refine AllReadyH.cons (o := ⟨some 100, _, _, _, _, _⟩) rfl (fun K hK => ?_) AllReadyH.nil
        go_simp
        go_at_call 37
        refine (sameR_true (r12.below e13) r13 (Rat.zero_add _)).mono ?_
        rintro e w' ⟨rfl, e14⟩
        replace hk := nextB hk e14
        go_wp2_with fail
        refine hK.out _ _ ⟨HCA2.out _ hk, HCB2.out _ hk, HCC2.out _ hk, HCZ.out _ hk⟩ (fun hHeld => ?_)
        clear hK K
        try simp only [Act.put, List.setIfInBounds_toArray, List.set_cons_zero, List.set_cons_succ]
        refine wpAnyH_take (i := 44) (oi := ⟨some 101, _, _, _, _, _⟩) (v := ?_) rfl (by kernel_rfl) (by kernel_rfl) (by kernel_rfl) (fun _ _ _ h => h) (Or.inl ⟨by rfl, ?_⟩) (by assumption) ?_
        rotate_left
        · intro w hSw
          (try dsimp only at hSw)
          go_simp
          try with_reducible rfl
        try simp only [Act.put, List.setIfInBounds_toArray, List.set_cons_zero, List.set_cons_succ]
        refine wpAnyH_take (i := 45) (oi := ⟨some 102, _, _, _, _, _⟩) (v := ?_) rfl (by kernel_rfl) (by kernel_rfl) (by kernel_rfl) (fun _ _ _ h => h) (Or.inl ⟨by rfl, ?_⟩) (by assumption) ?_
        rotate_left
        · intro w hSw
          (try dsimp only at hSw)
          go_simp
          try with_reducible rfl
        try simp only [Act.put, List.setIfInBounds_toArray, List.set_cons_zero, List.set_cons_succ]
        refine wpAnyH_take (i := 46) (oi := ⟨some 103, _, _, _, _, _⟩) (v := ?_) rfl (by kernel_rfl) (by kernel_rfl) (by kernel_rfl) (fun _ _ _ h => h) (Or.inl ⟨by rfl, ?_⟩) (by assumption) ?_
        rotate_left
        · intro w hSw
          (try dsimp only at hSw)
          go_simp
          try with_reducible rfl
        try simp only [Act.put, List.setIfInBounds_toArray, List.set_cons_zero, List.set_cons_succ]
        refine wpAnyH_ready (rs := [47]) (by kernel_rfl) (by simp) ?_
        refine AllReadyH.cons (o := ⟨some 104, _, _, _, _, _⟩) rfl (fun K hK => ?_) AllReadyH.nil
        go_simp
        go_at_call 38
        refine (signOf_r (lv.below hk) (by omega)).mono ?_
        rintro e w' ⟨rfl, e15⟩
        replace hk := nextB hk e15
        rw [HZ.out]
        go_wp2_with fail
        refine hK.out _ _ ⟨HCA2.out _ hk, HCB2.out _ hk, HCC2.out _ hk, HCZ.out _ hk⟩ (fun hHeld => ?_)
        clear hK K
        try simp only [Act.put, List.setIfInBounds_toArray, List.set_cons_zero, List.set_cons_succ]
        refine wpAnyH_take (i := 48) (oi := ⟨some 105, _, _, _, _, _⟩) (v := ?_) rfl (by kernel_rfl) (by kernel_rfl) (by kernel_rfl) (fun _ _ _ h => h) (Or.inl ⟨by rfl, ?_⟩) (by assumption) ?_
        rotate_left
        · intro w hSw
          (try dsimp only at hSw)
          go_simp
          try with_reducible rfl
        try simp only [Act.put, List.setIfInBounds_toArray, List.set_cons_zero, List.set_cons_succ]
        refine wpAnyH_take (i := 49) (oi := ⟨some 106, _, _, _, _, _⟩) (v := ?_) rfl (by kernel_rfl) (by kernel_rfl) (by kernel_rfl) (fun _ _ _ h => h) (Or.inl ⟨by rfl, ?_⟩) (by assumption) ?_
        rotate_left
        · intro w hSw
          (try dsimp only at hSw)
          go_simp
          try with_reducible rfl
        try simp only [Act.put, List.setIfInBounds_toArray, List.set_cons_zero, List.set_cons_succ]
        refine wpAnyH_take (i := 50) (oi := ⟨some 107, _, _, _, _, _⟩) (v := ?_) rfl (by kernel_rfl) (by kernel_rfl) (by kernel_rfl) (fun _ _ _ h => h) (Or.inl ⟨by rfl, ?_⟩) (by assumption) ?_
        rotate_left
        · intro w hSw
          (try dsimp only at hSw)
          go_simp
          try with_reducible rfl
        try simp only [Act.put, List.setIfInBounds_toArray, List.set_cons_zero, List.set_cons_succ]
        refine wpAnyH_ready (rs := [51]) (by kernel_rfl) (by simp) ?_
        refine AllReadyH.cons (o := ⟨some 108, _, _, _, _, _⟩) rfl (fun K hK => ?_) AllReadyH.nil
        go_simp
        go_at_call 26
        refine (awake2_any _ (hlu.below hk)).mono ?_
        rintro e w' ⟨rfl, e16⟩
        replace hk := nextB hk e16
        go_wp2_with fail
        refine hK.out _ _ ⟨HCA2.out _ hk, HCB2.out _ hk, HCC2.out _ hk, HCZ.out _ hk⟩ (fun hHeld => ?_)
        clear hK K
        try simp only [Act.put, List.setIfInBounds_toArray, List.set_cons_zero, List.set_cons_succ]
        refine wpAnyH_take (i := 52) (oi := ⟨some 109, _, _, _, _, _⟩) (v := ?_) rfl (by kernel_rfl) (by kernel_rfl) (by kernel_rfl) (fun _ _ _ h => h) (Or.inl ⟨by rfl, ?_⟩) (by assumption) ?_
        rotate_left
        · intro w hSw
          (try dsimp only at hSw)
          go_simp
          try with_reducible rfl
        try simp only [Act.put, List.setIfInBounds_toArray, List.set_cons_zero, List.set_cons_succ]
        refine wpAnyH_take (i := 53) (oi := ⟨some 6, _, _, _, _, _⟩) (v := ?_) rfl (by kernel_rfl) (by kernel_rfl) (by kernel_rfl) (fun _ _ _ h => h) (Or.inl ⟨by rfl, ?_⟩) (by assumption) ?_
        rotate_left
        · intro w hSw
          (try dsimp only at hSw)
          go_simp
          try with_reducible rfl
        try simp only [Act.put, List.setIfInBounds_toArray, List.set_cons_zero, List.set_cons_succ]
        refine wpAnyH_done (by kernel_rfl) ?_ _
        go_wp2
        go_ret
        exact ⟨rfl, bwu.trans (hk.mono bwu.size)⟩


theorem rationalDenotes.walk {A : Option Addr} {n c : Nat} {w : World} {kk zz : Int} (hl : Laid w) (hcap : n ≤ c) (htop : c ≤ maxLen) (hI : 0 < n → ∃ ad, A = some ad ∧ IntsAt w ad n (-9223372036854775808) 9223372036854775807)
    (hk : (Lit.int .u32 kk).wf = true) (hz : (Lit.int .u8 zz).wf = true) : Calls Tryd.prog 9 #[.slice A n c, .int .u32 kk, .int .u8 zz] w (True1 w) := by
  have b1 := bounds_u32 hk
  have b2 := bounds_u8 hz
  exact rationalDenotes.walk0 hl hcap htop hI b1.1 (by omega) b2.1 (by omega)

end Go.Proofs.YthnmjaaelhcbpaaDoor
