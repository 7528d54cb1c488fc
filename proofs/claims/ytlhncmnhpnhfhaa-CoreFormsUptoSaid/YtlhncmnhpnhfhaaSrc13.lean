/-
  exactpplmake.Src: the reader of numbers. Its own block g is the only old memory that it changes.
-/
import Derived.Test.YtlhncmnhpnhfhaaMem13
namespace Go.Proofs.Ytlhncmnhpnhfhaa
open Go.RowKit
set_option maxRecDepth 20000

/-- The reader lies in block g: its list, the place p, and the count q. -/
structure SrcAt (w : World) (g : Nat) (A : Option Addr) (n c : Nat) (p q : Int) : Prop where
  size : g < w.heap.size
  cL : w.cell? ⟨g, 0, none⟩ = some (.slice A n c)
  cAt : w.cell? ⟨g, 1, none⟩ = some (.int .i64 p)
  cSites : w.cell? ⟨g, 2, none⟩ = some (.int .i64 q)
  fr : ∀ i, w.frozen? ⟨g, i, none⟩ = false
  p0 : 0 ≤ p
  p1 : p ≤ n
  small : n ≤ 1000
  ints : 0 < n → ∃ ad, A = some ad ∧ ad.block < g ∧ ∀ i, i < n → ∃ z, w.cell? (ad.add i) = some (.int .i64 z) ∧ -9223372036854775808 ≤ z ∧ z ≤ 9223372036854775807
def Src (w : World) (g : Nat) : Prop := ∃ A n c p q, SrcAt w g A n c p q
theorem SrcAt.belowB {w w' : World} {g B : Nat} {A : Option Addr} {n c : Nat} {p q : Int} (h : SrcAt w g A n c p q) (hb : Below B w w') (hg : g < B) : SrcAt w' g A n c p q := by
  refine ⟨Nat.lt_of_lt_of_le h.size hb.size, ?_, ?_, ?_, fun i => ?_, h.p0, h.p1, h.small, fun hn => ?_⟩
  · rw [hb.cell (p := ⟨g, 0, none⟩) hg]; exact h.cL
  · rw [hb.cell (p := ⟨g, 1, none⟩) hg]; exact h.cAt
  · rw [hb.cell (p := ⟨g, 2, none⟩) hg]; exact h.cSites
  · rw [hb.frozen (p := ⟨g, i, none⟩) hg]; exact h.fr i
  · obtain ⟨ad, e, hgb, hc⟩ := h.ints hn
    refine ⟨ad, e, hgb, fun i hi => ?_⟩
    rw [hb.cell (p := ad.add i) (by rw [addr_block]; omega)]; exact hc i hi
theorem SrcAt.below {w w' : World} {g : Nat} {A : Option Addr} {n c : Nat} {p q : Int} (h : SrcAt w g A n c p q) (hb : Below w.heap.size w w') : SrcAt w' g A n c p q := h.belowB hb h.size
theorem Src.belowB {w w' : World} {g B : Nat} (h : Src w g) (hb : Below B w w') (hg : g < B) : Src w' g := by
  obtain ⟨A, n, c, p, q, h⟩ := h
  exact ⟨A, n, c, p, q, h.belowB hb hg⟩
theorem But.onB {g B : Nat} {a b c : World} (h : But g a b) (k : Below B b c) (hB : a.heap.size ≤ B) : But g a c :=
  ⟨k.os.trans h.os, k.tape.trans h.tape, k.output.trans h.output, Nat.le_trans h.size k.size, fun i hi hg => (k.block i (Nat.lt_of_lt_of_le hi hB)).trans (h.block i hi hg)⟩
theorem Src.below {w w' : World} {g : Nat} (h : Src w g) (hb : Below w.heap.size w w') : Src w' g := by
  obtain ⟨A, n, c, p, q, h⟩ := h
  exact ⟨A, n, c, p, q, h.below hb⟩
theorem SrcAt.drewN {w : World} {g : Nat} {A : Option Addr} {n c : Nat} {p q : Int} (h : SrcAt w g A n c p q) (k : Nat) : SrcAt (w.drewN k) g A n c p q :=
  ⟨h.size, h.cL, h.cAt, h.cSites, h.fr, h.p0, h.p1, h.small, h.ints⟩
theorem Src.size {w : World} {g : Nat} (h : Src w g) : g < w.heap.size := by
  obtain ⟨A, n, c, p, q, h⟩ := h
  exact h.size
theorem SrcAt.step {w : World} {g : Nat} {A : Option Addr} {n c : Nat} {p q : Int} (h : SrcAt w g A n c p q) (hp : p < n) : SrcAt (w.setCell ⟨g, 1, none⟩ (.int .i64 (p + 1))) g A n c (p + 1) q := by
  refine ⟨by simp [World.setCell]; exact h.size, ?_, ?_, ?_, fun i => ?_, by have := h.p0; omega, by omega, h.small, fun hn => ?_⟩
  · rw [World.cell?_setCell_other _ _ _ _ (by simp)]; exact h.cL
  · exact World.cell?_setCell_same _ _ _ h.cAt
  · rw [World.cell?_setCell_other _ _ _ _ (by simp)]; exact h.cSites
  · rw [World.frozen?_setCell]; exact h.fr i
  · obtain ⟨ad, e, hg, hc⟩ := h.ints hn
    refine ⟨ad, e, hg, fun i hi => ?_⟩
    rw [cell_far _ _ _ _ (by rw [addr_block]; simp; omega)]; exact hc i hi

/-- A number of 64 bits is read; at most the reader's block has changed. -/
def Drawn (g : Nat) (lo hi : Int) (w : World) (e : Ending) (w' : World) : Prop := ∃ z, e = .returned (.int .i64 z) ∧ (lo ≤ z ∧ z ≤ hi) ∧ Src w' g ∧ But g w w'

set_option maxHeartbeats 1000000 in
theorem raw_any (g : Nat) (w : World) (h : Src w g) : Calls Try.prog 31 #[.pointer (some ⟨g, 0, none⟩)] w (Drawn g (-9223372036854775808) 9223372036854775807 w) := by
  obtain ⟨A, n, c, p, q, h⟩ := h
  have p0 := h.p0
  have p1 := h.p1
  have n1 := h.small
  obtain ⟨k, rfl⟩ := Int.eq_ofNat_of_zero_le p0
  by_cases hp : (k : Int) < n
  · have c0 := h.cL
    have c1 := h.cAt
    go_enter Try.func31, Try.ntmps31
    go_wp2_with fail
    go_quiet (fail)
    have h1 := h.drewN nq
    have hB := (But.refl g w).drewN nq
    clear c0 c1 h
    generalize w.drewN nq = w1 at *
    have f1 := h1.fr 1
    have c0 := h1.cL
    have c1 := h1.cAt
    go_wp2_with fail
    have h2 := h1.step hp
    have hB2 := hB.set 1 (.int .i64 ((k : Int) + 1))
    clear h1 hB c0 c1 f1
    generalize w1.setCell ⟨g, 1, none⟩ (.int .i64 ((k : Int) + 1)) = w2 at *
    obtain ⟨ad, rfl, hg, hc⟩ := h2.ints (by omega)
    obtain ⟨z, cz, z0, z1⟩ := hc k (by omega)
    have c0 := h2.cL
    have c1 := h2.cAt
    have e1 : IntKind.i64.wrap ((k : Int) + 1 - 1) = (k : Int) := by rw [IntKind.wrap_i64]; omega
    have e2 : (0 : Int) ≤ (k : Int) := by omega
    clear hc
    go_quiet (fail)
    go_wp2
    go_ret
    exact ⟨z, rfl, ⟨z0, z1⟩, ⟨_, _, _, _, _, h2.drewN _⟩, hB2.drewN _⟩
  · have c0 := h.cL
    have c1 := h.cAt
    go_enter Try.func31, Try.ntmps31
    go_wp2_with fail
    go_quiet (fail)
    go_wp2
    go_ret
    exact ⟨0, rfl, by omega, ⟨_, _, _, _, _, h.drewN _⟩, (But.refl g w).drewN _⟩

theorem N_any (g : Nat) (w : World) (m : Int) (h : Src w g) (m0 : 1 ≤ m) (m1 : m ≤ 1000000) : Calls Try.prog 20 #[.pointer (some ⟨g, 0, none⟩), .int .i64 m] w (Drawn g 0 (m - 1) w) := by
  go_enter Try.func20, Try.ntmps20
  go_wp2_with fail
  refine (raw_any g w h).mono ?_
  rintro e w' ⟨z, rfl, ⟨z0, z1⟩, hs, hB⟩
  have r1 := Int.tmod_lt_of_pos z (show 0 < m by omega)
  have r2 : -m < z.tmod m := by
    have := Int.tmod_lt_of_pos (-z) (show 0 < m by omega)
    rw [Int.neg_tmod] at this
    omega
  obtain ⟨r, hr⟩ : ∃ r, z.tmod m = r := ⟨_, rfl⟩
  rw [hr] at r1 r2
  by_cases h0 : r < 0
  · go_wp2
    go_ret
    exact ⟨r + m, rfl, by omega, hs, hB⟩
  · go_wp2
    go_ret
    exact ⟨r, rfl, by omega, hs, hB⟩

theorem range_any (g : Nat) (w : World) (a b : Int) (h : Src w g) (hab : a ≤ b) (a0 : -1000 ≤ a) (b1 : b ≤ 1000) : Calls Try.prog 10 #[.pointer (some ⟨g, 0, none⟩), .int .i64 a, .int .i64 b] w (Drawn g a b w) := by
  go_enter Try.func10, Try.ntmps10
  go_wp2_with fail
  refine (N_any g w _ h (by omega) (by omega)).mono ?_
  rintro e w' ⟨z, rfl, ⟨z0, z1⟩, hs, hB⟩
  go_wp2
  go_ret
  exact ⟨a + z, rfl, by omega, hs, hB⟩

/-- A list of ints that the call has laid. -/
def IntsAt (w : World) (ad : Addr) (m : Nat) (lo hi : Int) : Prop := ad.block < w.heap.size ∧ ∀ i, i < m → ∃ z, w.cell? (ad.add i) = some (.int .i64 z) ∧ lo ≤ z ∧ z ≤ hi

theorem pick_any (g : Nat) (w : World) (ad : Addr) (m d : Nat) (lo hi : Int) (h : Src w g) (hm : 0 < m) (hm1 : m ≤ 1000) (hI : IntsAt w ad m lo hi) (hne : ad.block ≠ g) :
    Calls Try.prog 11 #[.pointer (some ⟨g, 0, none⟩), .slice (some ad) m d] w (Drawn g lo hi w) := by
  go_enter Try.func11, Try.ntmps11
  go_wp2_with fail
  refine (N_any g w _ h (by omega) (by omega)).mono ?_
  rintro e w' ⟨z, rfl, ⟨z0, z1⟩, hs, hB⟩
  obtain ⟨k, rfl⟩ := Int.eq_ofNat_of_zero_le z0
  obtain ⟨x, cx, x0, x1⟩ := hI.2 k (by omega)
  have cx' := (hB.cell (p := ad.add k) (by rw [addr_block]; exact hI.1) (by rw [addr_block]; exact hne)).trans cx
  have hk : k < m := by omega
  clear cx hI
  go_wp2
  go_ret
  exact ⟨x, rfl, ⟨x0, x1⟩, hs, hB⟩

/-- A reader over a list that came in is made: a new block. -/
def NewSrc (w : World) (e : Ending) (w' : World) : Prop := ∃ g, e = .returned (.pointer (some ⟨g, 0, none⟩)) ∧ w.heap.size ≤ g ∧ Src w' g ∧ Below w.heap.size w w'

theorem new_any (A : Option Addr) (n c : Nat) (w : World) (hcap : n ≤ c) (htop : c ≤ maxLen) (hI : 0 < n → ∃ ad, A = some ad ∧ IntsAt w ad n (-9223372036854775808) 9223372036854775807) :
    Calls Try.prog 8 #[.slice A n c] w (NewSrc w) := by
  unfold maxLen at htop
  have key : ∀ n' : Nat, n' ≤ n → n' ≤ 1000 → SrcAt (w.alloc (.cells #[.slice A n' c, .int .i64 0, .int .i64 0] 50)) w.heap.size A n' c 0 0 := by
    intro n' h1 h2
    refine ⟨by simp, by simp, by simp, by simp, by simp, Int.le_refl _, by omega, h2, fun h0 => ?_⟩
    obtain ⟨ad, rfl, hb, hc⟩ := hI (by omega)
    refine ⟨ad, rfl, hb, fun i hi => ?_⟩
    obtain ⟨z, cz, hz⟩ := hc i (by omega)
    exact ⟨z, (World.cell?_alloc_lt w _ _ (by rw [addr_block]; exact hb)).trans cz, hz⟩
  by_cases hn : n ≤ 1000
  · have hk := key n (Nat.le_refl _) hn
    have HK := Lib.hid hk
    clear key hk
    go_enter Try.func8, Try.ntmps8
    go_wp2
    go_ret
    exact ⟨_, rfl, Nat.le_refl _, ⟨_, _, _, _, _, HK.out⟩, (Below.refl _ _).alloc (Nat.le_refl _) _⟩
  · have hk := key 1000 (by omega) (Nat.le_refl _)
    have HK := Lib.hid hk
    clear key hk
    go_enter Try.func8, Try.ntmps8
    go_wp2
    go_ret
    exact ⟨_, rfl, Nat.le_refl _, ⟨_, _, _, _, _, HK.out⟩, (Below.refl _ _).alloc (Nat.le_refl _) _⟩


end Go.Proofs.Ytlhncmnhpnhfhaa
