/-
  exactpplmake.Src.Rat and Loose: a fraction that the reader builds; at most the reader's block has changed.
-/
import Derived.Test.YtekalaihfmfkkaaGreatDoorRefR1
import Derived.Test.YtekalaihfmfkkaaGreatDoorSrc
namespace Go.Proofs.YtekalaihfmfkkaaGreatDoor
open Go.RowKit
set_option maxRecDepth 20000

/-- A fraction in blocks of its own. -/
def GivesS (g k : Nat) (w : World) (e : Ending) (w' : World) : Prop :=
  ∃ s A n c B m d q, e = .returned (.agg #[.bool s, .slice A n c, .slice B m d]) ∧ Loose w' s A n c B m d q k ∧ Off w.heap.size A ∧ Off w.heap.size B ∧ Src w' g ∧ But g w w'
/-- One in normal form. -/
def GivesSR (g k : Nat) (w : World) (e : Ending) (w' : World) : Prop :=
  ∃ s A n c B m d q, e = .returned (.agg #[.bool s, .slice A n c, .slice B m d]) ∧ RN w' s A n c B m d q k ∧ Off w.heap.size A ∧ Off w.heap.size B ∧ Src w' g ∧ But g w w'

theorem But.alloc0 {g : Nat} (w : World) (o : Obj) : But g w (w.alloc o) := But.of_below ((Below.refl _ _).alloc (Nat.le_refl _) _)

theorem box_but {w v1 w' : World} {z0 z1 z2 : Value} {T : TypeId} {g : Nat} (hv : w.alloc (.cells #[z0, z1, z2] T) = v1) (hg : g < w.heap.size) (hb : But g v1 w') :
    w'.cell? ⟨w.heap.size, 0, none⟩ = some z0 ∧ w'.cell? ⟨w.heap.size, 1, none⟩ = some z1 ∧ w'.cell? ⟨w.heap.size, 2, none⟩ = some z2 ∧ w'.frozen? ⟨w.heap.size, 0, none⟩ = false ∧ w'.frozen? ⟨w.heap.size, 1, none⟩ = false ∧ w'.frozen? ⟨w.heap.size, 2, none⟩ = false := by
  subst hv
  have hl : w.heap.size < (w.alloc (.cells #[z0, z1, z2] T)).heap.size := by rw [World.size_alloc]; exact Nat.lt_succ_self _
  have e : ∀ i, w'.cell? ⟨w.heap.size, i, none⟩ = #[z0, z1, z2][i]? := fun i => (hb.cell (p := ⟨w.heap.size, i, none⟩) hl (by show w.heap.size ≠ g; omega)).trans (World.cell?_alloc_new (w := w) #[z0, z1, z2] T i)
  have f : ∀ i, w'.frozen? ⟨w.heap.size, i, none⟩ = false := fun i => (World.frozen?_of_block (hb.block _ hl (by show w.heap.size ≠ g; omega))).trans (World.frozen?_alloc_new (w := w) #[z0, z1, z2] T i)
  exact ⟨(e 0).trans rfl, (e 1).trans rfl, (e 2).trans rfl, f 0, f 1, f 2⟩

set_option maxHeartbeats 1000000 in
theorem srcRat_r (g : Nat) (w : World) (h : Src w g) : Calls Tryz.prog 42 #[.pointer (some ⟨g, 0, none⟩)] w (GivesSR g 2 w) := by
  have hgs := h.size
  obtain ⟨v1, hv1⟩ : ∃ v1, w.alloc (.cells #[.bool false, .slice none 0 0, .slice none 0 0] 24) = v1 := ⟨_, rfl⟩
  have HV := Lib.hid hv1
  have hB1 : But g w v1 := by rw [← hv1]; exact But.alloc0 _ _
  have hs1 : Src v1 g := by rw [← hv1]; exact h.below ((Below.refl _ _).alloc (Nat.le_refl _) _)
  obtain ⟨gz, hgz⟩ : ∃ gz, gz = w.heap.size := ⟨_, rfl⟩
  have HGZ := Lib.hid hgz
  clear hv1 hgz h
  go_enter Tryz.func42, Tryz.ntmps42
  go_wp2_with fail
  rw [HV.out, ← HGZ.out]
  refine (range_any g v1 (-6) 6 hs1 (by omega) (by omega) (by omega)).mono ?_
  rintro e w5 ⟨z, rfl, ⟨z0, z1⟩, hs5, hB5⟩
  go_wp2_with fail
  refine (range_any g w5 1 5 hs5 (by omega) (by omega) (by omega)).mono ?_
  rintro e w6 ⟨y, rfl, ⟨y0, y1⟩, hs6, hB6⟩
  have HN := Lib.hid (refNew_r (w := w6) (n := z) (d := y) (by omega) (by omega) (by omega) (by omega) (by omega))
  clear hs1 hs5
  go_wp2_with fail
  refine HN.out.mono ?_
  rintro e w7 ⟨t9, A9, n9, c9, B9, m9, d9, rfl, r9, oA9, oB9, b9⟩
  have hs7 := hs6.below b9
  have hB16 := hB5.trans hB6
  have hB17 := hB16.trans (But.of_below b9)
  obtain ⟨o0, o1, o2, f0, f1, f2⟩ := box_but HV.out hgs hB17
  rw [← HGZ.out] at o0 o1 o2 f0 f1 f2
  have hz6 : gz < w6.heap.size := by have h1 := hB16.size; rw [← HV.out, World.size_alloc] at h1; have := HGZ.out; omega
  have hz7 : gz < w7.heap.size := Nat.lt_of_lt_of_le hz6 b9.size
  have hB07 := hB1.trans hB17
  clear hs6 hB5 hB6 HN hB16 hB17
  go_wp2
  have hwz : w.heap.size ≤ gz := Nat.le_of_eq HGZ.out.symm
  have hset := ((((Below.refl w.heap.size w7).setCell (p := ⟨gz, 0, none⟩) hwz (.bool t9)).setCell (p := ⟨gz, 1, none⟩) hwz (.slice A9 n9 c9)).setCell (p := ⟨gz, 2, none⟩) hwz (.slice B9 m9 d9))
  have hW := hset.alloc (by have h1 := hset.size; have h2 := hB07.size; omega) (.cells #[.bool t9, .slice A9 n9 c9, .slice B9 m9 d9] 24)
  have hN := (r9.far3 (g := gz) (fun _ a e => by have := oA9 a e; omega) (fun _ a e => by have := oB9 a e; omega) 0 1 2 (.bool t9) (.slice A9 n9 c9) (.slice B9 m9 d9)).below ((Below.refl _ _).alloc (Nat.le_refl _) (.cells #[.bool t9, .slice A9 n9 c9, .slice B9 m9 d9] 24))
  exact bodyPost_ret (v := .agg #[.bool t9, .slice A9 n9 c9, .slice B9 m9 d9]) (by simp [results, Tryz.results42, go_sem, o0, o1, o2, hz7]) rfl ⟨_, _, _, _, _, _, _, _, rfl, hN,
    oA9.mono (by have := hB07.size; omega), oB9.mono (by omega), hs7.belowB hW hgs, hB07.onB hW (Nat.le_refl _)⟩

theorem but_mine {w w' : World} {base n c g : Nat} {A : Option Addr} {L : List Int} (h : Mine w base A n c L) (hb : But g w w') (hg : g < base) : Mine w' base A n c L :=
  h.keep fun a ha => hb.block _ (h.lt a ha).2 (by have := (h.lt a ha).1; omega)

theorem loose_of {w : World} {s : Bool} {A B : Option Addr} {n c m d k : Nat} {x y : Int} (hx : Num w A n c x) (hy : Num w B m d y) (hn : n ≤ k) (hm : m ≤ k) : Loose w s A n c B m d (rat s x y) k := ⟨x, y, hx, hy, rfl, hn, hm⟩

theorem limb_at {W : World} {g : Nat} {x : Int} (h : W.heap.size = g) (x0 : 0 ≤ x) (x1 : x < 4294967296) : Num (W.alloc (.cells #[.int .u32 x] 92)) (some ⟨g, 0, none⟩) 1 1 x := by
  subst h
  exact ⟨[x], lit1 W x x0 x1, by simp [val]⟩

set_option maxHeartbeats 2000000 in
theorem srcLoose_r (g : Nat) (w : World) (h : Src w g) : Calls Tryz.prog 26 #[.pointer (some ⟨g, 0, none⟩)] w (GivesS g 4 w) := by
  have hgs := h.size
  obtain ⟨v1, hv1⟩ : ∃ v1, w.alloc (.cells #[.bool false, .slice none 0 0, .slice none 0 0] 24) = v1 := ⟨_, rfl⟩
  have HV := Lib.hid hv1
  have hB1 : But g w v1 := by rw [← hv1]; exact But.alloc0 _ _
  have hs1 : Src v1 g := by rw [← hv1]; exact h.below ((Below.refl _ _).alloc (Nat.le_refl _) _)
  obtain ⟨gz, hgz⟩ : ∃ gz, gz = w.heap.size := ⟨_, rfl⟩
  have HGZ := Lib.hid hgz
  have hwz : w.heap.size ≤ gz := Nat.le_of_eq hgz.symm
  have hv1s : gz < v1.heap.size := by rw [← hv1, World.size_alloc]; omega
  clear hv1 hgz h
  go_enter Tryz.func26, Tryz.ntmps26
  go_wp2_with fail
  rw [HV.out, ← HGZ.out]
  refine (N_any g v1 4 hs1 (by omega) (by omega)).mono ?_
  rintro e w5 ⟨z, rfl, ⟨z0, z1⟩, hs5, hB5⟩
  by_cases hz0 : z = 0
  · subst hz0
    go_wp2_with fail
    refine (srcRat_r g w5 hs5).mono ?_
    rintro e w7 ⟨t9, A9, n9, c9, B9, m9, d9, q9, rfl, r9, oA9, oB9, hs7, hB7⟩
    have hB17 := hB5.trans hB7
    obtain ⟨o0, o1, o2, f0, f1, f2⟩ := box_but HV.out hgs hB17
    rw [← HGZ.out] at o0 o1 o2 f0 f1 f2
    have hB07 := hB1.trans hB17
    have hz5 : gz < w5.heap.size := Nat.lt_of_lt_of_le hv1s hB5.size
    clear hs5
    go_wp2
    have hW := ((((Below.refl w.heap.size w7).setCell (p := ⟨gz, 0, none⟩) hwz (.bool t9)).setCell (p := ⟨gz, 1, none⟩) hwz (.slice A9 n9 c9)).setCell (p := ⟨gz, 2, none⟩) hwz (.slice B9 m9 d9))
    exact bodyPost_ret (v := .agg #[.bool t9, .slice A9 n9 c9, .slice B9 m9 d9]) (by simp [results, Tryz.results26, go_sem, o0, o1, o2]) rfl ⟨_, _, _, _, _, _, _, _, rfl,
      ((r9.far3 (g := gz) (fun _ a e => by have := oA9 a e; omega) (fun _ a e => by have := oB9 a e; omega) 0 1 2 _ _ _).mono (by omega : 2 ≤ 4)).loose,
      oA9.mono (by omega), oB9.mono (by omega), hs7.belowB hW hgs, hB07.onB hW (Nat.le_refl _)⟩
  · by_cases hz1 : z = 1
    · subst hz1
      go_wp2_with fail
      refine (N_any g w5 2 hs5 (by omega) (by omega)).mono ?_
      rintro e w6 ⟨b, rfl, _, hs6, hB6⟩
      go_wp2_with fail
      refine (limbs_any g w6 hs6).mono ?_
      rintro e w7 ⟨A7, n7, c7, L7, rfl, hM7, l7, hs7, hB7⟩
      go_wp2_with fail
      refine (limbs_any g w7 hs7).mono ?_
      rintro e w8 ⟨A8, n8, c8, L8, rfl, hM8, l8, hs8, hB8⟩
      have hg6 : g < w6.heap.size := hs6.size
      have hM7' := but_mine hM7 hB8 hg6
      have hB18 := (hB5.trans hB6).trans (hB7.trans hB8)
      obtain ⟨o0, o1, o2, f0, f1, f2⟩ := box_but HV.out hgs hB18
      rw [← HGZ.out] at o0 o1 o2 f0 f1 f2
      have hB08 := hB1.trans hB18
      have h56 := (hB5.trans hB6).size
      have h78 := hB7.size
      have hx : Num w8 A7 n7 c7 (val L7) := ⟨L7, hM7'.rd, rfl⟩
      have hy : Num w8 A8 n8 c8 (val L8) := ⟨L8, hM8.rd, rfl⟩
      have ox := Off.of_mine hM7
      have oy := Off.of_mine hM8
      clear hs5 hs6 hs7 hB5 hB6 hB7 hB8 hM7 hM8 hM7'
      obtain ⟨bb, hbb⟩ : ∃ bb : Bool, (b == 0) = bb := ⟨_, rfl⟩
      go_wp2
      have hW := ((((Below.refl w.heap.size w8).setCell (p := ⟨gz, 0, none⟩) hwz (.bool bb)).setCell (p := ⟨gz, 1, none⟩) hwz (.slice A7 n7 c7)).setCell (p := ⟨gz, 2, none⟩) hwz (.slice A8 n8 c8))
      exact bodyPost_ret (v := .agg #[.bool bb, .slice A7 n7 c7, .slice A8 n8 c8]) (by simp [results, Tryz.results26, go_sem, o0, o1, o2]) rfl ⟨_, _, _, _, _, _, _, _, rfl,
        loose_of (hx.far3 (g := gz) (fun _ a e => by have := ox a e; omega) 0 1 2 _ _ _) (hy.far3 (g := gz) (fun _ a e => by have := oy a e; omega) 0 1 2 _ _ _) l7 l8,
        ox.mono (by omega), oy.mono (by omega), hs8.belowB hW hgs, hB08.onB hW (Nat.le_refl _)⟩
    · go_wp2_with fail
      refine (range_any g w5 1 6 hs5 (by omega) (by omega) (by omega)).mono ?_
      rintro e w6 ⟨kk, rfl, ⟨k0, k1⟩, hs6, hB6⟩
      go_wp2_with fail
      refine (N_any g w6 2 hs6 (by omega) (by omega)).mono ?_
      rintro e w7 ⟨b, rfl, _, hs7, hB7⟩
      go_wp2_with fail
      refine (N_any g w7 9 hs7 (by omega) (by omega)).mono ?_
      rintro e w8 ⟨x, rfl, ⟨x0, x1⟩, hs8, hB8⟩
      have p0 : 0 ≤ kk * x := Int.mul_nonneg (by omega) (by omega)
      have p1 : kk * x ≤ 6 * 8 := Int.mul_le_mul (by omega) (by omega) (by omega) (by omega)
      have ba := (Below.refl w8.heap.size w8).alloc (Nat.le_refl _) (.cells #[.int .u32 (kk * x), .int .u32 0] 92)
      have hs8' := hs8.below ba
      have HNN := Lib.hid (N_any g _ 6 hs8' (by omega) (by omega))
      go_wp2_with fail
      refine HNN.out.mono ?_
      rintro e w9 ⟨y, rfl, ⟨y0, y1⟩, hs9, hB9⟩
      have r0 : 0 ≤ kk * y := Int.mul_nonneg (by omega) (by omega)
      have r1 : kk * y ≤ 6 * 5 := Int.mul_le_mul (by omega) (by omega) (by omega) (by omega)
      have hB18 := ((hB5.trans hB6).trans (hB7.trans hB8)).trans ((But.of_below ba).trans hB9)
      obtain ⟨o0, o1, o2, f0, f1, f2⟩ := box_but HV.out hgs hB18
      rw [← HGZ.out] at o0 o1 o2 f0 f1 f2
      have hB09 := hB1.trans hB18
      have h58 := ((hB5.trans hB6).trans (hB7.trans hB8)).size
      have h89 := hB9.size
      rw [World.size_alloc] at h89
      have hz9 : gz < w9.heap.size := by omega
      have hx0 : Num (w8.alloc (.cells #[.int .u32 (kk * x), .int .u32 0] 92)) (some ⟨w8.heap.size, 0, none⟩) 2 2 (kk * x) := ⟨[kk * x, 0], lit2 w8 _ _ p0 (by omega) (by omega) (by omega), by simp [val]⟩
      have hg8 : g < w8.heap.size := hs8.size
      have hx9 : Num w9 (some ⟨w8.heap.size, 0, none⟩) 2 2 (kk * x) := by
        obtain ⟨L, hr, hv⟩ := hx0
        refine ⟨L, ⟨hr.len, hr.lims, hr.cap, hr.top, fun hn => ?_⟩, hv⟩
        obtain ⟨ad, e, hb, hc⟩ := hr.at_ hn
        injection e with e
        subst e
        exact ⟨_, rfl, Nat.lt_of_lt_of_le hb hB9.size, fun i hi => (hB9.cell (p := (⟨w8.heap.size, 0, none⟩ : Addr).add i) (by rw [addr_block]; exact hb) (by rw [addr_block]; show w8.heap.size ≠ g; omega)).trans (hc i hi)⟩
      obtain ⟨bb, hbb⟩ : ∃ bb : Bool, (b == 0) = bb := ⟨_, rfl⟩
      have hset := ((((Below.refl w.heap.size w9).setCell (p := ⟨gz, 0, none⟩) hwz (.bool bb)).setCell (p := ⟨gz, 1, none⟩) hwz (.slice (some ⟨w8.heap.size, 0, none⟩) 2 2)).setCell (p := ⟨gz, 2, none⟩) hwz (.slice (some ⟨w9.heap.size, 0, none⟩) 1 1))
      have hset2 : ((((w9.setCell ⟨gz, 0, none⟩ (.bool bb)).setCell ⟨gz, 1, none⟩ (.slice (some ⟨w8.heap.size, 0, none⟩) 2 2)).setCell ⟨gz, 2, none⟩ (.slice (some ⟨w9.heap.size, 0, none⟩) 1 1))).heap.size = w9.heap.size := by simp [World.setCell]
      have hW := hset.alloc (by rw [hset2]; have := hB09.size; omega) (.cells #[.int .u32 (kk * y)] 92)
      have hxF := (hx9.far3 (g := gz) (fun _ a e => by injection e with e; rw [← e]; show w8.heap.size ≠ gz; omega) 0 1 2 (.bool bb) (.slice (some ⟨w8.heap.size, 0, none⟩) 2 2) (.slice (some ⟨w9.heap.size, 0, none⟩) 1 1)).below ((Below.refl _ _).alloc (Nat.le_refl _) (.cells #[.int .u32 (kk * y)] 92))
      have hyF : Num ((((w9.setCell ⟨gz, 0, none⟩ (.bool bb)).setCell ⟨gz, 1, none⟩ (.slice (some ⟨w8.heap.size, 0, none⟩) 2 2)).setCell ⟨gz, 2, none⟩ (.slice (some ⟨w9.heap.size, 0, none⟩) 1 1)).alloc (.cells #[.int .u32 (kk * y)] 92)) (some ⟨w9.heap.size, 0, none⟩) 1 1 (kk * y) := limb_at hset2 r0 (by omega)
      have HXF := Lib.hid hxF
      have HYF := Lib.hid hyF
      have HW := Lib.hid hW
      clear hs5 hs6 hs7 hs8 hs8' hB5 hB6 hB7 hB8 hB9 hx0 hx9 hset hset2 hW hxF hyF HNN ba
      go_wp2
      exact bodyPost_ret (v := .agg #[.bool bb, .slice (some ⟨w8.heap.size, 0, none⟩) 2 2, .slice (some ⟨w9.heap.size, 0, none⟩) 1 1]) (by simp [results, Tryz.results26, go_sem, o0, o1, o2, hz9]) rfl ⟨_, _, _, _, _, _, _, _, rfl,
        loose_of HXF.out HYF.out (by omega) (by omega),
        fun a e => by (injection e with e; rw [← e]; show w.heap.size ≤ w8.heap.size; omega), fun a e => by (injection e with e; rw [← e]; show w.heap.size ≤ w9.heap.size; omega), hs9.belowB HW.out hgs, hB09.onB HW.out (Nat.le_refl _)⟩

end Go.Proofs.YtekalaihfmfkkaaGreatDoor
