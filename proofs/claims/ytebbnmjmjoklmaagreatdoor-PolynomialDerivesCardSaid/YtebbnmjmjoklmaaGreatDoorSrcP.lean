/-
  exactpplmake.Src.Rat and Loose: a fraction that the reader builds; at most the reader's block has changed.
  exactpplmake.Src.Poly: a polynomial that the reader builds; at most the reader's block has changed.
-/
import Derived.Test.YtebbnmjmjoklmaaGreatDoorRefR1
import Derived.Test.YtebbnmjmjoklmaaGreatDoorSrc
import Derived.Test.YtebbnmjmjoklmaaGreatDoorTmAt
namespace Go.Proofs.YtebbnmjmjoklmaaGreatDoor
open Go.RowKit
set_option maxRecDepth 20000

/-- A fraction in blocks of its own. -/
def GivesS (g k : Nat) (w : World) (e : Ending) (w' : World) : Prop :=
  ∃ s A n c B m d q, e = .returned (.agg #[.bool s, .slice A n c, .slice B m d]) ∧ Loose w' s A n c B m d q k ∧ Off w.heap.size A ∧ Off w.heap.size B ∧ Src w' g ∧ But g w w'
/-- One in normal form. -/
def GivesSR (g k : Nat) (w : World) (e : Ending) (w' : World) : Prop :=
  ∃ s A n c B m d q, e = .returned (.agg #[.bool s, .slice A n c, .slice B m d]) ∧ RN w' s A n c B m d q k ∧ Off w.heap.size A ∧ Off w.heap.size B ∧ Src w' g ∧ But g w w'

theorem But.alloc0 {g : Nat} (w : World) (o : Obj) : But g w (w.alloc o) := But.of_below ((Below.refl _ _).alloc (Nat.le_refl _) _)

theorem box_but {w v1 w' : World} {z0 z1 z2 : Value} {T : TypeId} {g : Nat} (hv : w.alloc (.cells #[z0, z1, z2] T) = v1) (hg : g < w.heap.size) (hb : But g v1 w') :
    w'.cell? ⟨w.heap.size, 0, none⟩ = some z0 ∧ w'.cell? ⟨w.heap.size, 1, none⟩ = some z1 ∧ w'.cell? ⟨w.heap.size, 2, none⟩ = some z2 ∧ w'.frozen? ⟨w.heap.size, 0, none⟩ = false ∧ w'.frozen? ⟨w.heap.size, 1, none⟩ = false ∧ w'.frozen? ⟨w.heap.size, 2, none⟩ = false := by
  subst hv
  have hl : w.heap.size < (w.alloc (.cells #[z0, z1, z2] T)).heap.size := by rw [World.size_alloc]; exact Nat.lt_succ_self _
  have e : ∀ i, w'.cell? ⟨w.heap.size, i, none⟩ = #[z0, z1, z2][i]? := fun i => (hb.cell (p := ⟨w.heap.size, i, none⟩) hl (by show w.heap.size ≠ g; omega)).trans (World.cell?_alloc_new (w := w) #[z0, z1, z2] T i)
  have f : ∀ i, w'.frozen? ⟨w.heap.size, i, none⟩ = false := fun i => (World.frozen?_of_block (hb.block _ hl (by show w.heap.size ≠ g; omega))).trans (World.frozen?_alloc_new (w := w) #[z0, z1, z2] T i)
  exact ⟨(e 0).trans rfl, (e 1).trans rfl, (e 2).trans rfl, f 0, f 1, f 2⟩

set_option maxHeartbeats 1000000 in
theorem srcRat_r (g : Nat) (w : World) (h : Src w g) : Calls Tryz.prog 15 #[.pointer (some ⟨g, 0, none⟩)] w (GivesSR g 2 w) := by
  have hgs := h.size
  obtain ⟨v1, hv1⟩ : ∃ v1, w.alloc (.cells #[.bool false, .slice none 0 0, .slice none 0 0] 42) = v1 := ⟨_, rfl⟩
  have HV := Lib.hid hv1
  have hB1 : But g w v1 := by rw [← hv1]; exact But.alloc0 _ _
  have hs1 : Src v1 g := by rw [← hv1]; exact h.below ((Below.refl _ _).alloc (Nat.le_refl _) _)
  obtain ⟨gz, hgz⟩ : ∃ gz, gz = w.heap.size := ⟨_, rfl⟩
  have HGZ := Lib.hid hgz
  clear hv1 hgz h
  go_enter Tryz.func15, Tryz.ntmps15
  go_wp2_with fail
  rw [HV.out, ← HGZ.out]
  refine (range_any g v1 (-6) 6 hs1 (by omega) (by omega) (by omega)).mono ?_
  rintro e w5 ⟨z, rfl, ⟨z0, z1⟩, hs5, hB5⟩
  go_wp2_with fail
  refine (range_any g w5 1 5 hs5 (by omega) (by omega) (by omega)).mono ?_
  rintro e w6 ⟨y, rfl, ⟨y0, y1⟩, hs6, hB6⟩
  have HN := Lib.hid (refNew_r (w := w6) (n := z) (d := y) (by omega) (by omega) (by omega) (by omega) (by omega))
  clear hs1 hs5
  go_wp2_with fail
  refine HN.out.mono ?_
  rintro e w7 ⟨t9, A9, n9, c9, B9, m9, d9, rfl, r9, oA9, oB9, b9⟩
  have hs7 := hs6.below b9
  have hB16 := hB5.trans hB6
  have hB17 := hB16.trans (But.of_below b9)
  obtain ⟨o0, o1, o2, f0, f1, f2⟩ := box_but HV.out hgs hB17
  rw [← HGZ.out] at o0 o1 o2 f0 f1 f2
  have hz6 : gz < w6.heap.size := by have h1 := hB16.size; rw [← HV.out, World.size_alloc] at h1; have := HGZ.out; omega
  have hz7 : gz < w7.heap.size := Nat.lt_of_lt_of_le hz6 b9.size
  have hB07 := hB1.trans hB17
  clear hs6 hB5 hB6 HN hB16 hB17
  go_wp2
  have hwz : w.heap.size ≤ gz := Nat.le_of_eq HGZ.out.symm
  have hset := ((((Below.refl w.heap.size w7).setCell (p := ⟨gz, 0, none⟩) hwz (.bool t9)).setCell (p := ⟨gz, 1, none⟩) hwz (.slice A9 n9 c9)).setCell (p := ⟨gz, 2, none⟩) hwz (.slice B9 m9 d9))
  have hW := hset.alloc (by have h1 := hset.size; have h2 := hB07.size; omega) (.cells #[.bool t9, .slice A9 n9 c9, .slice B9 m9 d9] 42)
  have hN := (r9.far3 (g := gz) (fun _ a e => by have := oA9 a e; omega) (fun _ a e => by have := oB9 a e; omega) 0 1 2 (.bool t9) (.slice A9 n9 c9) (.slice B9 m9 d9)).below ((Below.refl _ _).alloc (Nat.le_refl _) (.cells #[.bool t9, .slice A9 n9 c9, .slice B9 m9 d9] 42))
  exact bodyPost_ret (v := .agg #[.bool t9, .slice A9 n9 c9, .slice B9 m9 d9]) (by simp [results, Tryz.results15, go_sem, o0, o1, o2, hz7]) rfl ⟨_, _, _, _, _, _, _, _, rfl, hN,
    oA9.mono (by have := hB07.size; omega), oB9.mono (by omega), hs7.belowB hW hgs, hB07.onB hW (Nat.le_refl _)⟩

theorem but_mine {w w' : World} {base n c g : Nat} {A : Option Addr} {L : List Int} (h : Mine w base A n c L) (hb : But g w w') (hg : g < base) : Mine w' base A n c L :=
  h.keep fun a ha => hb.block _ (h.lt a ha).2 (by have := (h.lt a ha).1; omega)

theorem loose_of {w : World} {s : Bool} {A B : Option Addr} {n c m d k : Nat} {x y : Int} (hx : Num w A n c x) (hy : Num w B m d y) (hn : n ≤ k) (hm : m ≤ k) : Loose w s A n c B m d (rat s x y) k := ⟨x, y, hx, hy, rfl, hn, hm⟩

theorem limb_at {W : World} {g : Nat} {x : Int} (h : W.heap.size = g) (x0 : 0 ≤ x) (x1 : x < 4294967296) : Num (W.alloc (.cells #[.int .u32 x] 71)) (some ⟨g, 0, none⟩) 1 1 x := by
  subst h
  exact ⟨[x], lit1 W x x0 x1, by simp [val]⟩

set_option maxHeartbeats 2000000 in
theorem srcLoose_r (g : Nat) (w : World) (h : Src w g) : Calls Tryz.prog 16 #[.pointer (some ⟨g, 0, none⟩)] w (GivesS g 4 w) := by
  have hgs := h.size
  obtain ⟨v1, hv1⟩ : ∃ v1, w.alloc (.cells #[.bool false, .slice none 0 0, .slice none 0 0] 42) = v1 := ⟨_, rfl⟩
  have HV := Lib.hid hv1
  have hB1 : But g w v1 := by rw [← hv1]; exact But.alloc0 _ _
  have hs1 : Src v1 g := by rw [← hv1]; exact h.below ((Below.refl _ _).alloc (Nat.le_refl _) _)
  obtain ⟨gz, hgz⟩ : ∃ gz, gz = w.heap.size := ⟨_, rfl⟩
  have HGZ := Lib.hid hgz
  have hwz : w.heap.size ≤ gz := Nat.le_of_eq hgz.symm
  have hv1s : gz < v1.heap.size := by rw [← hv1, World.size_alloc]; omega
  clear hv1 hgz h
  go_enter Tryz.func16, Tryz.ntmps16
  go_wp2_with fail
  rw [HV.out, ← HGZ.out]
  refine (N_any g v1 4 hs1 (by omega) (by omega)).mono ?_
  rintro e w5 ⟨z, rfl, ⟨z0, z1⟩, hs5, hB5⟩
  by_cases hz0 : z = 0
  · subst hz0
    go_wp2_with fail
    refine (srcRat_r g w5 hs5).mono ?_
    rintro e w7 ⟨t9, A9, n9, c9, B9, m9, d9, q9, rfl, r9, oA9, oB9, hs7, hB7⟩
    have hB17 := hB5.trans hB7
    obtain ⟨o0, o1, o2, f0, f1, f2⟩ := box_but HV.out hgs hB17
    rw [← HGZ.out] at o0 o1 o2 f0 f1 f2
    have hB07 := hB1.trans hB17
    have hz5 : gz < w5.heap.size := Nat.lt_of_lt_of_le hv1s hB5.size
    clear hs5
    go_wp2
    have hW := ((((Below.refl w.heap.size w7).setCell (p := ⟨gz, 0, none⟩) hwz (.bool t9)).setCell (p := ⟨gz, 1, none⟩) hwz (.slice A9 n9 c9)).setCell (p := ⟨gz, 2, none⟩) hwz (.slice B9 m9 d9))
    exact bodyPost_ret (v := .agg #[.bool t9, .slice A9 n9 c9, .slice B9 m9 d9]) (by simp [results, Tryz.results16, go_sem, o0, o1, o2]) rfl ⟨_, _, _, _, _, _, _, _, rfl,
      ((r9.far3 (g := gz) (fun _ a e => by have := oA9 a e; omega) (fun _ a e => by have := oB9 a e; omega) 0 1 2 _ _ _).mono (by omega : 2 ≤ 4)).loose,
      oA9.mono (by omega), oB9.mono (by omega), hs7.belowB hW hgs, hB07.onB hW (Nat.le_refl _)⟩
  · by_cases hz1 : z = 1
    · subst hz1
      go_wp2_with fail
      refine (N_any g w5 2 hs5 (by omega) (by omega)).mono ?_
      rintro e w6 ⟨b, rfl, _, hs6, hB6⟩
      go_wp2_with fail
      refine (limbs_any g w6 hs6).mono ?_
      rintro e w7 ⟨A7, n7, c7, L7, rfl, hM7, l7, hs7, hB7⟩
      go_wp2_with fail
      refine (limbs_any g w7 hs7).mono ?_
      rintro e w8 ⟨A8, n8, c8, L8, rfl, hM8, l8, hs8, hB8⟩
      have hg6 : g < w6.heap.size := hs6.size
      have hM7' := but_mine hM7 hB8 hg6
      have hB18 := (hB5.trans hB6).trans (hB7.trans hB8)
      obtain ⟨o0, o1, o2, f0, f1, f2⟩ := box_but HV.out hgs hB18
      rw [← HGZ.out] at o0 o1 o2 f0 f1 f2
      have hB08 := hB1.trans hB18
      have h56 := (hB5.trans hB6).size
      have h78 := hB7.size
      have hx : Num w8 A7 n7 c7 (val L7) := ⟨L7, hM7'.rd, rfl⟩
      have hy : Num w8 A8 n8 c8 (val L8) := ⟨L8, hM8.rd, rfl⟩
      have ox := Off.of_mine hM7
      have oy := Off.of_mine hM8
      clear hs5 hs6 hs7 hB5 hB6 hB7 hB8 hM7 hM8 hM7'
      obtain ⟨bb, hbb⟩ : ∃ bb : Bool, (b == 0) = bb := ⟨_, rfl⟩
      go_wp2
      have hW := ((((Below.refl w.heap.size w8).setCell (p := ⟨gz, 0, none⟩) hwz (.bool bb)).setCell (p := ⟨gz, 1, none⟩) hwz (.slice A7 n7 c7)).setCell (p := ⟨gz, 2, none⟩) hwz (.slice A8 n8 c8))
      exact bodyPost_ret (v := .agg #[.bool bb, .slice A7 n7 c7, .slice A8 n8 c8]) (by simp [results, Tryz.results16, go_sem, o0, o1, o2]) rfl ⟨_, _, _, _, _, _, _, _, rfl,
        loose_of (hx.far3 (g := gz) (fun _ a e => by have := ox a e; omega) 0 1 2 _ _ _) (hy.far3 (g := gz) (fun _ a e => by have := oy a e; omega) 0 1 2 _ _ _) l7 l8,
        ox.mono (by omega), oy.mono (by omega), hs8.belowB hW hgs, hB08.onB hW (Nat.le_refl _)⟩
    · go_wp2_with fail
      refine (range_any g w5 1 6 hs5 (by omega) (by omega) (by omega)).mono ?_
      rintro e w6 ⟨kk, rfl, ⟨k0, k1⟩, hs6, hB6⟩
      go_wp2_with fail
      refine (N_any g w6 2 hs6 (by omega) (by omega)).mono ?_
      rintro e w7 ⟨b, rfl, _, hs7, hB7⟩
      go_wp2_with fail
      refine (N_any g w7 9 hs7 (by omega) (by omega)).mono ?_
      rintro e w8 ⟨x, rfl, ⟨x0, x1⟩, hs8, hB8⟩
      have p0 : 0 ≤ kk * x := Int.mul_nonneg (by omega) (by omega)
      have p1 : kk * x ≤ 6 * 8 := Int.mul_le_mul (by omega) (by omega) (by omega) (by omega)
      have ba := (Below.refl w8.heap.size w8).alloc (Nat.le_refl _) (.cells #[.int .u32 (kk * x), .int .u32 0] 71)
      have hs8' := hs8.below ba
      have HNN := Lib.hid (N_any g _ 6 hs8' (by omega) (by omega))
      go_wp2_with fail
      refine HNN.out.mono ?_
      rintro e w9 ⟨y, rfl, ⟨y0, y1⟩, hs9, hB9⟩
      have r0 : 0 ≤ kk * y := Int.mul_nonneg (by omega) (by omega)
      have r1 : kk * y ≤ 6 * 5 := Int.mul_le_mul (by omega) (by omega) (by omega) (by omega)
      have hB18 := ((hB5.trans hB6).trans (hB7.trans hB8)).trans ((But.of_below ba).trans hB9)
      obtain ⟨o0, o1, o2, f0, f1, f2⟩ := box_but HV.out hgs hB18
      rw [← HGZ.out] at o0 o1 o2 f0 f1 f2
      have hB09 := hB1.trans hB18
      have h58 := ((hB5.trans hB6).trans (hB7.trans hB8)).size
      have h89 := hB9.size
      rw [World.size_alloc] at h89
      have hz9 : gz < w9.heap.size := by omega
      have hx0 : Num (w8.alloc (.cells #[.int .u32 (kk * x), .int .u32 0] 71)) (some ⟨w8.heap.size, 0, none⟩) 2 2 (kk * x) := ⟨[kk * x, 0], lit2 w8 _ _ p0 (by omega) (by omega) (by omega), by simp [val]⟩
      have hg8 : g < w8.heap.size := hs8.size
      have hx9 : Num w9 (some ⟨w8.heap.size, 0, none⟩) 2 2 (kk * x) := by
        obtain ⟨L, hr, hv⟩ := hx0
        refine ⟨L, ⟨hr.len, hr.lims, hr.cap, hr.top, fun hn => ?_⟩, hv⟩
        obtain ⟨ad, e, hb, hc⟩ := hr.at_ hn
        injection e with e
        subst e
        exact ⟨_, rfl, Nat.lt_of_lt_of_le hb hB9.size, fun i hi => (hB9.cell (p := (⟨w8.heap.size, 0, none⟩ : Addr).add i) (by rw [addr_block]; exact hb) (by rw [addr_block]; show w8.heap.size ≠ g; omega)).trans (hc i hi)⟩
      obtain ⟨bb, hbb⟩ : ∃ bb : Bool, (b == 0) = bb := ⟨_, rfl⟩
      have hset := ((((Below.refl w.heap.size w9).setCell (p := ⟨gz, 0, none⟩) hwz (.bool bb)).setCell (p := ⟨gz, 1, none⟩) hwz (.slice (some ⟨w8.heap.size, 0, none⟩) 2 2)).setCell (p := ⟨gz, 2, none⟩) hwz (.slice (some ⟨w9.heap.size, 0, none⟩) 1 1))
      have hset2 : ((((w9.setCell ⟨gz, 0, none⟩ (.bool bb)).setCell ⟨gz, 1, none⟩ (.slice (some ⟨w8.heap.size, 0, none⟩) 2 2)).setCell ⟨gz, 2, none⟩ (.slice (some ⟨w9.heap.size, 0, none⟩) 1 1))).heap.size = w9.heap.size := by simp [World.setCell]
      have hW := hset.alloc (by rw [hset2]; have := hB09.size; omega) (.cells #[.int .u32 (kk * y)] 71)
      have hxF := (hx9.far3 (g := gz) (fun _ a e => by injection e with e; rw [← e]; show w8.heap.size ≠ gz; omega) 0 1 2 (.bool bb) (.slice (some ⟨w8.heap.size, 0, none⟩) 2 2) (.slice (some ⟨w9.heap.size, 0, none⟩) 1 1)).below ((Below.refl _ _).alloc (Nat.le_refl _) (.cells #[.int .u32 (kk * y)] 71))
      have hyF : Num ((((w9.setCell ⟨gz, 0, none⟩ (.bool bb)).setCell ⟨gz, 1, none⟩ (.slice (some ⟨w8.heap.size, 0, none⟩) 2 2)).setCell ⟨gz, 2, none⟩ (.slice (some ⟨w9.heap.size, 0, none⟩) 1 1)).alloc (.cells #[.int .u32 (kk * y)] 71)) (some ⟨w9.heap.size, 0, none⟩) 1 1 (kk * y) := limb_at hset2 r0 (by omega)
      have HXF := Lib.hid hxF
      have HYF := Lib.hid hyF
      have HW := Lib.hid hW
      clear hs5 hs6 hs7 hs8 hs8' hB5 hB6 hB7 hB8 hB9 hx0 hx9 hset hset2 hW hxF hyF HNN ba
      go_wp2
      exact bodyPost_ret (v := .agg #[.bool bb, .slice (some ⟨w8.heap.size, 0, none⟩) 2 2, .slice (some ⟨w9.heap.size, 0, none⟩) 1 1]) (by simp [results, Tryz.results16, go_sem, o0, o1, o2, hz9]) rfl ⟨_, _, _, _, _, _, _, _, rfl,
        loose_of HXF.out HYF.out (by omega) (by omega),
        fun a e => by (injection e with e; rw [← e]; show w.heap.size ≤ w8.heap.size; omega), fun a e => by (injection e with e; rw [← e]; show w.heap.size ≤ w9.heap.size; omega), hs9.belowB HW.out hgs, hB09.onB HW.out (Nat.le_refl _)⟩

end Go.Proofs.YtebbnmjmjoklmaaGreatDoor

namespace Go.Proofs.YtebbnmjmjoklmaaGreatDoor
open Go Go.RowKit Go.WideMaps
set_option maxRecDepth 20000

/-- A row of terms in blocks of its own. -/
structure SrcRow (base : Nat) (A : Option Addr) (n c : Nat) (ds : List Tq) (W : World) : Prop where
  len : n = ds.length
  row : W.ownsRow base 47 11 (.slice A n c) n (rowOf (tms ds))
  mono : ∀ x ∈ ds, MonoE 2 x.1.L
  coef : ∀ x ∈ ds, x.1.loose W x.2 4 ∧ x.1.lies (base ≤ ·)
  apart : ∀ x ∈ ds, x.1.lies fun k => ∀ a, A = some a → k ≠ a.block
theorem SrcRow.but {base g n c : Nat} {A : Option Addr} {ds : List Tq} {W W' : World} (h : SrcRow base A n c ds W) (hb : But g W W') (hg : g < base) : SrcRow base A n c ds W' := by
  refine ⟨h.len, h.row.kept (row := some g) ⟨hb.os, hb.tape, hb.output, hb.size, fun k hk hne => hb.block k hk (fun e => hne (by rw [e]))⟩ ?_, h.mono, fun x hx => ⟨?_, (h.coef x hx).2⟩, h.apart⟩
  · cases A with
    | none => exact .inl rfl
    | some a => refine .inr (fun e => ?_); simp [Value.ownBlock] at e; have := (h.row.lt a.block (by simp [Value.ownBlock])).1; omega
  · obtain ⟨h1, h2⟩ := h.coef x hx
    exact h1.apart hb.size ((h1.old.and h2).mono fun b hb' => hb.block b hb'.1 (by omega))
theorem SrcRow.nil (base : Nat) (W : World) : SrcRow base none 0 0 [] W := ⟨rfl, World.ownsRow_nil W base _ _, fun x hx => (by cases hx), fun x hx => (by cases hx), fun x hx => (by cases hx)⟩
theorem SrcRow.push {base n c : Nat} {A : Option Addr} {ds : List Tq} {W W' : World} {t : Tm} {q : Rat} {v' : Value} (h : SrcRow base A n c ds W)
    (hown : W'.ownsRow base 47 11 v' (n + 1) (rowOf (tms ds) ++ t.cells)) (hg : W.grownBy W' (Value.slice A n c).ownBlock) (hat : v'.ownBlock = (Value.slice A n c).ownBlock ∨ v'.ownBlock = some W.heap.size)
    (hM : MonoE 2 t.L) (ht : t.loose W q 4) (hl : t.lies (base ≤ ·)) (ha : t.lies fun k => ∀ a, A = some a → k ≠ a.block) :
    ∃ A' c', v' = .slice A' (n + 1) c' ∧ SrcRow base A' (n + 1) c' (ds ++ [(t, q)]) W' := by
  obtain ⟨A', c', rfl⟩ := row_form hown
  have keep : ∀ (u : Tm) (p : Rat), u.loose W p 4 → (u.lies fun k => ∀ a, A = some a → k ≠ a.block) → u.loose W' p 4 ∧ u.lies fun k => ∀ a, A' = some a → k ≠ a.block := fun u p hu hau => by
    refine ⟨hu.apart hg.size ((hu.old.and hau).mono fun k hk => hg.block k hk.1 ?_), (hu.old.and hau).mono fun k hk a e he => ?_⟩
    · cases A with
      | none => intro e; cases e
      | some a0 => intro e; simp [Value.ownBlock] at e; exact hk.2 a0 rfl (by omega)
    · subst e
      rcases hat with hat | hat
      · cases A with
        | none => simp [Value.ownBlock] at hat
        | some a0 => simp [Value.ownBlock] at hat; exact hk.2 a0 rfl (by omega)
      · simp [Value.ownBlock] at hat; have := hk.1; omega
  refine ⟨A', c', rfl, by rw [List.length_append, ← h.len]; rfl, ?_, fun x hx => ?_, fun x hx => ?_, fun x hx => ?_⟩
  · rw [tms_append]
    have : tms [(t, q)] = [t] := rfl
    rw [this, rowOf_push]
    exact hown
  · rcases List.mem_append.1 hx with hx | hx
    · exact h.mono x hx
    · rw [List.mem_singleton] at hx; subst hx; exact hM
  · rcases List.mem_append.1 hx with hx | hx
    · exact ⟨(keep _ _ (h.coef x hx).1 (h.apart x hx)).1, (h.coef x hx).2⟩
    · rw [List.mem_singleton] at hx; subst hx; exact ⟨(keep _ _ ht ha).1, hl⟩
  · rcases List.mem_append.1 hx with hx | hx
    · exact (keep _ _ (h.coef x hx).1 (h.apart x hx)).2
    · rw [List.mem_singleton] at hx; subst hx; exact (keep _ _ ht ha).2
theorem five : ∀ i, (hi' : i < (#[.int .i64 0, .int .i64 0, .int .i64 1, .int .i64 1, .int .i64 2] : Array Value).size) → ∃ z, (#[.int .i64 0, .int .i64 0, .int .i64 1, .int .i64 1, .int .i64 2] : Array Value)[i] = .int .i64 z ∧ 0 ≤ z ∧ z ≤ 2 := by
  intro i hi
  match i, hi with
  | 0, _ | 1, _ | 2, _ | 3, _ | 4, _ => exact ⟨_, rfl, by decide, by decide⟩
  | k + 5, h => simp at h; omega
/-- A polynomial that the reader has built. -/
def GivesSP (g N : Nat) (w : World) (e : Ending) (w' : World) : Prop :=
  ∃ A n c ds, e = .returned (.slice A n c) ∧ SrcRow w.heap.size A n c ds w' ∧ n ≤ N ∧ Src w' g ∧ But g w w'

set_option maxHeartbeats 8000000 in
theorem srcPoly_r (g : Nat) (w : World) (vs ts : Nat) (h : Src w g) (hv8 : vs ≤ 8) (ht : ts ≤ 20) : Calls Tryz.prog 6 #[.pointer (some ⟨g, 0, none⟩), .int .i64 vs, .int .i64 ts] w (GivesSP g ts w) := by
  have hgs := h.size
  go_enter Tryz.func6, Tryz.ntmps6
  go_wp2_with fail
  refine (N_any g w (ts + 1) h (by omega) (by omega)).mono ?_
  rintro e w1 ⟨z, rfl, ⟨z0, z1⟩, hs, hB⟩
  go_wp2
  go_loopw [7, 8] (fun ov iv wr => ∃ (A : Option Addr) (n c : Nat) (ds : List Tq) (i : Int), ov = .slice A n c ∧ iv = .int .i64 i ∧ (0 ≤ i ∧ i + n ≤ ts) ∧ Hid (SrcRow w.heap.size A n c ds wr) ∧ Src wr g ∧ But g w wr) (fun _ iv _ => (intOf iv).toNat)
  case atStart => exact ⟨none, 0, 0, [], z, rfl, rfl, ⟨z0, by omega⟩, SrcRow.nil _ _, hs, hB⟩
  case round =>
    obtain ⟨A, n, c, ds, i, rfl, rfl, ⟨i0', i1⟩, HR, hS, hBr⟩ := hrel
    clear hs hB
    by_cases hp : 0 < i
    · have HP := Lib.hid (srcRat_r g wr hS)
      go_wp2_with fail
      refine HP.out.mono ?_
      rintro e w2 ⟨s, A2, n2, c2, B2, m2, d2, q, rfl, r2, oA2, oB2, hS2, hB2⟩
      obtain ⟨b, hbe⟩ : ∃ b, w2.heap.size = b := ⟨_, rfl⟩
      obtain ⟨h0, hh0⟩ : ∃ h0, wr.heap.size = h0 := ⟨_, rfl⟩
      have hw0 : w.heap.size ≤ h0 := hh0 ▸ hBr.size
      have HAB : Hid (∀ a, A = some a → a.block < h0) := fun a ha => by rw [← hh0]; exact (HR.out.row.lt a.block (by rw [ha]; rfl)).2
      obtain ⟨t0, ht0⟩ : ∃ t0 : Tm, t0 = ⟨[0, 0, 0, 0, 0, 0, 0, 0], s, A2, n2, c2, B2, m2, d2⟩ := ⟨_, rfl⟩
      have T0 : TmAt b t0 (w2.alloc (.cells t0.cells.toArray 47)) := by rw [← hbe]; exact TmAt.new w2 _ (by rw [ht0]; rfl)
      obtain ⟨v, hv⟩ : ∃ v, w2.alloc (.cells t0.cells.toArray 47) = v := ⟨_, rfl⟩
      have hbv : Below w2.heap.size w2 v := hv ▸ (Below.refl _ w2).alloc (Nat.le_refl _) _
      have hvs : v.heap.size = b + 1 := by rw [← hv, ← hbe]; simp
      rw [hv] at T0
      have HV : Hid (w2.alloc (.cells #[.int .i64 0, .int .i64 0, .int .i64 0, .int .i64 0, .int .i64 0, .int .i64 0, .int .i64 0, .int .i64 0, .bool s, .slice A2 n2 c2, .slice B2 m2 d2] 47) = v) := by rw [ht0] at hv; exact hv
      have HBE := Lib.hid hbe
      have h0b : h0 ≤ b := by have := hB2.size; omega
      have hwb : w.heap.size ≤ b := by have := hBr.size; have := hB2.size; omega
      have hgb : g < b := by omega
      have lo0 : t0.loose v q 4 := by rw [ht0]; exact (Loose.below (RN.loose r2) hbv).mono (by omega)
      have li0 : t0.lies fun k => h0 ≤ k ∧ k ≠ b := by
        have h1 : t0.lies (h0 ≤ ·) := by rw [ht0, ← hh0]; exact Off.lies oA2 oB2
        have h2 : t0.lies (· < w2.heap.size) := by rw [ht0]; exact Tm.loose.old (t := ⟨[0, 0, 0, 0, 0, 0, 0, 0], s, A2, n2, c2, B2, m2, d2⟩) (RN.loose r2)
        exact (h1.and h2).mono fun k hk => ⟨hk.1, by omega⟩
      have HSv := hS2.below hbv
      have HBv : But g w2 v := But.of_below hbv
      have HR2 : Hid (SrcRow w.heap.size A n c ds w2) := HR.out.but hB2 hgs
      have hBw2 : But g w w2 := hBr.trans hB2
      have HL0 : Hid (t0.L = [0, 0, 0, 0, 0, 0, 0, 0]) := by rw [ht0]; rfl
      clear hv hbe ht0 hh0 r2 oA2 oB2 hS2 hB2 hBr hS HP HR hbv
      go_upto_region 6 with fail
      rw [HV.out, HBE.out]
      have HN8 := Lib.hid (N_any g v 8 HSv (by omega) (by omega))
      have HBv := Lib.hid HBv
      clear HSv
      go_wp2_with fail
      refine HN8.out.mono ?_
      rintro e w3 ⟨z8, rfl, _, hS3, hB3⟩
      have T3 := T0.far (hB3.block b (by omega) (by omega))
      have lo3 : t0.loose w3 q 4 := lo0.apart hB3.size ((lo0.old.and li0).mono fun k hk => hB3.block k hk.1 (by omega))
      have hB23 : But g w2 w3 := HBv.out.trans hB3
      have hs3 := hB3.size
      clear HN8 hB3 T0 lo0 HBv
      go_upto_if 24 with fail
      go_cut [9] (fun u9 wx => u9 = .pointer (some ⟨b, 0, none⟩) ∧ ∃ t1 q1, Hid (t1.L = [0, 0, 0, 0, 0, 0, 0, 0]) ∧ Hid (TmAt b t1 wx ∧ Tm.loose t1 wx q1 4) ∧ t1.lies (fun k => h0 ≤ k ∧ k ≠ b) ∧ b < wx.heap.size ∧ Src wx g ∧ But g w2 wx)
      case first =>
        by_cases hz7 : z8 = 7
        · subst hz7
          have HLO := Lib.hid (srcLoose_r g w3 hS3)
          go_wp2_with fail
          refine HLO.out.mono ?_
          rintro e w4 ⟨s4, A4, n4, c4, B4, m4, d4, q4, rfl, r4, oA4, oB4, hS4, hB4⟩
          have T4 := T3.far (hB4.block b (by omega) (by omega))
          have hs4 := hB4.size
          obtain ⟨f0, f1, f2, f3, f4, f5, f6, f7, f8, f9, f10⟩ := T4.box HL0.out
          have z8' := T4.free 8
          have z9' := T4.free 9
          have z10' := T4.free 10
          have T5 : TmAt b ⟨[0, 0, 0, 0, 0, 0, 0, 0], s4, A4, n4, c4, B4, m4, d4⟩ (((w4.setCell ⟨b, 8, none⟩ (.bool s4)).setCell ⟨b, 9, none⟩ (.slice A4 n4 c4)).setCell ⟨b, 10, none⟩ (.slice B4 m4 d4)) :=
            ((T4.one (t' := ⟨[0, 0, 0, 0, 0, 0, 0, 0], s4, t0.A, t0.n, t0.c, t0.B, t0.m, t0.d⟩) (i := 8) (by decide) (.bool s4) (by unfold Tm.cells; rw [HL0.out]; rfl) rfl).one (t' := ⟨[0, 0, 0, 0, 0, 0, 0, 0], s4, A4, n4, c4, t0.B, t0.m, t0.d⟩) (i := 9) (by decide) (.slice A4 n4 c4) rfl rfl).one (i := 10) (by decide) (.slice B4 m4 d4) rfl rfl
          have li4 : Tm.lies ⟨[0, 0, 0, 0, 0, 0, 0, 0], s4, A4, n4, c4, B4, m4, d4⟩ (fun k => h0 ≤ k ∧ k ≠ b) :=
            (Off.lies (t := ⟨[0, 0, 0, 0, 0, 0, 0, 0], s4, A4, n4, c4, B4, m4, d4⟩) oA4 oB4).mono fun k hk => ⟨by omega, by omega⟩
          have lo4 : Tm.loose ⟨[0, 0, 0, 0, 0, 0, 0, 0], s4, A4, n4, c4, B4, m4, d4⟩ w4 q4 4 := r4
          have hset : Below b w4 (((w4.setCell ⟨b, 8, none⟩ (.bool s4)).setCell ⟨b, 9, none⟩ (.slice A4 n4 c4)).setCell ⟨b, 10, none⟩ (.slice B4 m4 d4)) :=
            (((Below.refl b w4).setCell (p := ⟨b, 8, none⟩) (Nat.le_refl _) _).setCell (p := ⟨b, 9, none⟩) (Nat.le_refl _) _).setCell (p := ⟨b, 10, none⟩) (Nat.le_refl _) _
          obtain ⟨w5, hw5⟩ : ∃ u, ((w4.setCell ⟨b, 8, none⟩ (.bool s4)).setCell ⟨b, 9, none⟩ (.slice A4 n4 c4)).setCell ⟨b, 10, none⟩ (.slice B4 m4 d4) = u := ⟨_, rfl⟩
          have lo5 : Tm.loose ⟨[0, 0, 0, 0, 0, 0, 0, 0], s4, A4, n4, c4, B4, m4, d4⟩ w5 q4 4 := by
            rw [← hw5]
            exact lo4.apart (by simp) (li4.mono fun k hk => by
              have h := hk.2
              rw [Below.heap_setCell _ _ _ _ h, Below.heap_setCell _ _ _ _ h, Below.heap_setCell _ _ _ _ h])
          rw [hw5] at T5 hset
          have hB5 : But g w2 w5 := (hB23.trans hB4).onB hset (Nat.le_of_eq HBE.out)
          have hS5 := hS4.belowB hset hgb
          have hs5 : b < w5.heap.size := by have := hset.size; omega
          have HW5 := Lib.hid hw5
          clear hw5 T4 T3 lo3 lo4 r4 oA4 oB4 hS4 hB4 hset hS3 hB23 HLO li0
          go_wp2
          rw [HW5.out]
          go_meet
          exact ⟨rfl, ⟨[0, 0, 0, 0, 0, 0, 0, 0], s4, A4, n4, c4, B4, m4, d4⟩, q4, rfl, ⟨T5, lo5⟩, li4, hs5, hS5, hB5⟩
        · have hz7' : (z8 == 7) = false := by rw [beq_eq_false_iff_ne]; exact hz7
          go_wp2
          go_meet
          exact ⟨rfl, t0, q, HL0, ⟨T3, lo3⟩, li0, by omega, hS3, hB23⟩
      case rest =>
        obtain ⟨rfl, t1, q1, HL1, HT1, li1, hbx, hSx, hBx⟩ := hcut
        clear T3 lo3 li0 hS3 hB23 HL0
        go_wp2
        go_loopw [10] (fun jv wy => ∃ (j : Nat) (L : List Int), jv = .int .i64 j ∧ j ≤ vs ∧ Hid (MonoE 2 L) ∧ Hid (TmAt b ⟨L, t1.s, t1.A, t1.n, t1.c, t1.B, t1.m, t1.d⟩ wy ∧ Tm.loose ⟨L, t1.s, t1.A, t1.n, t1.c, t1.B, t1.m, t1.d⟩ wy q1 4) ∧ b < wy.heap.size ∧ Src wy g ∧ But g w2 wy) (fun jv _ => vs - (intOf jv).toNat)
        case atStart => exact ⟨0, t1.L, rfl, Nat.zero_le _, (by show MonoE _ _; rw [HL1.out]; exact ⟨rfl, by simp⟩), HT1, hbx, hSx, hBx⟩
        case round =>
          obtain ⟨j, L, rfl, hj, HM, HT, hby, hSy, hBy⟩ := hrel
          clear hbx hSx hBx HT1
          by_cases hjv : j < vs
          · have hj2 : (j : Int) < vs := by omega
            have hj3 : (j : Int) < 8 := by omega
            have hj0 : (0 : Int) ≤ j := by omega
            have hb1 := (Below.refl wr.heap.size wr).alloc (Nat.le_refl _) (.cells #[.int .i64 0, .int .i64 0, .int .i64 1, .int .i64 1, .int .i64 2] 3)
            have HPK := Lib.hid (pick_any g _ _ 5 5 0 2 (hSy.below hb1) (by omega) (by omega) (lits_at wr #[.int .i64 0, .int .i64 0, .int .i64 1, .int .i64 1, .int .i64 2] 3 5 0 2 rfl five) (by have := hSy.size; simp; omega))
            have HT' : Hid (TmAt b ⟨L, t1.s, t1.A, t1.n, t1.c, t1.B, t1.m, t1.d⟩ _ ∧ Tm.loose ⟨L, t1.s, t1.A, t1.n, t1.c, t1.B, t1.m, t1.d⟩ _ q1 4) := ⟨HT.out.1.far (hb1.block b hby), HT.out.2.below hb1⟩
            have hBy' : But g w2 _ := hBy.trans (But.of_below hb1)
            have hby' := Nat.lt_of_lt_of_le hby hb1.size
            clear hb1 HT hBy hSy hby
            go_wp2_with fail
            refine HPK.out.mono ?_
            rintro e w6 ⟨x, rfl, ⟨hx0, hx1⟩, hS6, hB6⟩
            have T6 := HT'.out.1.far (hB6.block b hby' (by omega))
            have lo6 : Tm.loose ⟨L, t1.s, t1.A, t1.n, t1.c, t1.B, t1.m, t1.d⟩ w6 q1 4 := HT'.out.2.apart hB6.size ((HT'.out.2.old.and (show Tm.lies ⟨L, t1.s, t1.A, t1.n, t1.c, t1.B, t1.m, t1.d⟩ (fun k => h0 ≤ k ∧ k ≠ b) from li1)).mono fun k hk => hB6.block k hk.1 (by have := hk.2.1; omega))
            have hb6 := Nat.lt_of_lt_of_le hby' hB6.size
            have hB26 := hBy'.trans hB6
            have hj8 : j < 8 := by omega
            have hL8 := HM.out.1
            have T7 : TmAt b ⟨L.set j x, t1.s, t1.A, t1.n, t1.c, t1.B, t1.m, t1.d⟩ (w6.setCell ⟨b, j, none⟩ (.int .i64 x)) := T6.one (by omega) _ (cells_set hL8 hj8 x) (by rw [List.length_set]; exact hL8)
            have hset : Below b w6 (w6.setCell ⟨b, j, none⟩ (.int .i64 x)) := (Below.refl b w6).setCell (p := ⟨b, j, none⟩) (Nat.le_refl _) _
            have apt : ∀ x : Int, Tm.lies t1 (fun k => (w6.setCell ⟨b, j, none⟩ (.int .i64 x)).heap[k]? = w6.heap[k]?) := fun x => li1.mono fun k hk => Below.heap_setCell w6 ⟨b, j, none⟩ (.int .i64 x) k hk.2
            have lo7 : Tm.loose ⟨L.set j x, t1.s, t1.A, t1.n, t1.c, t1.B, t1.m, t1.d⟩ (w6.setCell ⟨b, j, none⟩ (.int .i64 x)) q1 4 :=
              Tm.loose.apart (t := ⟨L, t1.s, t1.A, t1.n, t1.c, t1.B, t1.m, t1.d⟩) lo6 (by simp) (apt x)
            obtain ⟨uu, huu⟩ : ∃ uu, w6.cell? ⟨b, j, none⟩ = some uu := ⟨_, (T6.cell j (by omega)).trans (List.getElem?_eq_getElem (by rw [Tm.length hL8]; omega))⟩
            have hzz := T6.free j
            have HM7 : Hid (MonoE 2 (L.set j x)) := ⟨by rw [List.length_set]; exact hL8, fun y hy => by
              rcases List.mem_or_eq_of_mem_set hy with hy | rfl
              · exact HM.out.2 y hy
              · omega⟩
            have HT7 := Lib.hid (And.intro T7 lo7)
            have hB7 := hB26.onB hset (Nat.le_of_eq HBE.out)
            have hS7 := hS6.belowB hset hgb
            have hb7 := Nat.lt_of_lt_of_le hb6 hset.size
            clear apt HT' hBy' hby' HPK T6 lo6 hB6 hS6 hB26 T7 lo7 hset HM hL8
            go_wp2
            go_roundw
            case rel => exact ⟨j + 1, L.set j x, by go_num, by omega, HM7, HT7, hb7, hS7, hB7⟩
            case measure => simp [intOf] <;> omega
          · obtain rfl : j = vs := by omega
            obtain ⟨ti, zt, hi, hz1, hz2, hs1, hbt⟩ := termInfo2
            have hnb : n < 1000000 := by omega
            have hby9 : (n + 1) * ti.bytes ≤ 140737488355328 := Nat.le_trans (Nat.mul_le_mul (show n + 1 ≤ 1000000 by omega) hbt) (by decide)
            obtain ⟨x0, x1, x2, x3, x4, x5, x6, x7, hL⟩ := eight HM.out.1
            obtain ⟨f0, f1, f2, f3, f4, f5, f6, f7, f8, f9, f10⟩ := HT.out.1.box hL
            have hR7 := HR2.out.but hBy hgs
            have hcells : (⟨L, t1.s, t1.A, t1.n, t1.c, t1.B, t1.m, t1.d⟩ : Tm).cells = [.int .i64 x0, .int .i64 x1, .int .i64 x2, .int .i64 x3, .int .i64 x4, .int .i64 x5, .int .i64 x6, .int .i64 x7, .bool t1.s, .slice t1.A t1.n t1.c, .slice t1.B t1.m t1.d] := by rw [hL]; rfl
            obtain ⟨wa, hwa⟩ : ∃ wa, wr.alloc (.cells #[.int .i64 x0, .int .i64 x1, .int .i64 x2, .int .i64 x3, .int .i64 x4, .int .i64 x5, .int .i64 x6, .int .i64 x7, .bool t1.s, .slice t1.A t1.n t1.c, .slice t1.B t1.m t1.d] 47) = wa := ⟨_, rfl⟩
            have hba : Below wr.heap.size wr wa := hwa ▸ (Below.refl _ wr).alloc (Nat.le_refl _) _
            have NEWS := (alloc_facts hwa).2.2.1
            have hRa := hR7.but (But.of_below (g := g) hba) hgs
            have loa : Tm.loose ⟨L, t1.s, t1.A, t1.n, t1.c, t1.B, t1.m, t1.d⟩ wa q1 4 := HT.out.2.below hba
            have hBa : But g w2 wa := hBy.trans (But.of_below hba)
            have hSa := hSy.below hba
            have hwsa : w.heap.size ≤ wa.heap.size := by have := hba.size; omega
            have HWA := Lib.hid hwa
            have HLL := Lib.hid hL
            have HCC := Lib.hid hcells
            have HRA := Lib.hid hRa
            clear hwa hba hL hcells hBy hSy hR7 HT HR2 hRa
            go_wp2_with (at_builtin; (rw [HWA.out]; refine wpList_append_own_at _ rfl (.tmp 39) (.tmp 41) 26 rfl w.heap.size 47 ti zt 11 ti.bytes Tryz.underlying26 hi hz1 hs1 rfl hz2 (by decide) (.slice A n c) n (rowOf (tms ds)) rfl HRA.out.row ⟨wr.heap.size, 0, none⟩ 1 1 [.int .i64 x0, .int .i64 x1, .int .i64 x2, .int .i64 x3, .int .i64 x4, .int .i64 x5, .int .i64 x6, .int .i64 x7, .bool t1.s, .slice t1.A t1.n t1.c, .slice t1.B t1.m t1.d] rfl rfl NEWS (by simp [Value.oneCell']) (by simp [maxLen]; omega) hby9 hwsa ?_))
            intro v' w8 hown hgrow _ hat
            rw [← HCC.out] at hown
            have lb1 : Tm.lies t1 (w.heap.size ≤ ·) := li1.mono fun k hk => by have := hk.1; omega
            have la1 : Tm.lies t1 (fun k => ∀ a, A = some a → k ≠ a.block) := li1.mono fun k hk a ha => by have := HAB.out a ha; have := hk.1; omega
            have hg8 : Below w.heap.size wa w8 := grown_below (Below.refl w.heap.size wa) HRA.out.row hgrow hwsa (Nat.le_refl _)
            have hB8 : But g w w8 := (hBw2.trans hBa).onB hg8 (Nat.le_refl _)
            have hS8 : Src w8 g := hSa.belowB hg8 hgs
            obtain ⟨A8, c8, rfl, hR8⟩ := HRA.out.push (t := ⟨L, t1.s, t1.A, t1.n, t1.c, t1.B, t1.m, t1.d⟩) hown hgrow hat HM.out loa lb1 la1
            have HR8 := Lib.hid hR8
            clear hg8 lb1 la1 hown hgrow hat hR8 loa NEWS HRA HWA HCC HLL HM hBa hSa f0 f1 f2 f3 f4 f5 f6 f7 f8 f9 f10 HL1 li1 HAB
            go_wp2
            go_roundw
            case rel => exact ⟨A8, n + 1, c8, ds ++ [(⟨L, t1.s, t1.A, t1.n, t1.c, t1.B, t1.m, t1.d⟩, q1)], i - 1, by go_num, rfl, by omega, HR8, hS8, hB8⟩
            case measure => simp [intOf] <;> omega
    · go_wp2
      go_ret
      exact ⟨A, n, c, ds, rfl, HR.out, by omega, hS, hBr⟩

/-- What the reader has built is a readable polynomial with exponents up to 2. -/
theorem SrcRow.rd {base n c : Nat} {A : Option Addr} {ds : List Tq} {W : World} (h : SrcRow base A n c ds W) (hn : n < 1000000) : PolyRd W A n c ds 4 2 := by
  have hform : n ≤ c ∧ (0 < n → ∃ g, A = some ⟨g, 0, none⟩) := by
    rcases h.row.2 with ⟨h', h2⟩ | ⟨g', cap', cur, h', _, _, hnc, _⟩
    · simp only [Value.slice.injEq] at h'
      obtain ⟨rfl, rfl, rfl⟩ := h'
      exact ⟨Nat.le_refl _, fun h => absurd h (by omega)⟩
    · simp only [Value.slice.injEq] at h'
      obtain ⟨rfl, _, rfl⟩ := h'
      exact ⟨hnc, fun _ => ⟨g', rfl⟩⟩
  refine ⟨h.len, hform.1, hn, fun h0 => ?_, h.mono, fun x hx => (h.coef x hx).1⟩
  obtain ⟨g, rfl⟩ := hform.2 h0
  exact ⟨g, rfl, ownsRow_zero h.row⟩
theorem SrcRow.lim {base n c : Nat} {A : Option Addr} {ds : List Tq} {W : World} (h : SrcRow base A n c ds W) : inLim ds := fun x hx e he => by
  have := ((h.mono x hx).2 e he).2
  omega
end Go.Proofs.YtebbnmjmjoklmaaGreatDoor
