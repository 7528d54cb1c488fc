/-
  rational's own functions on fractions: isZero, quotient, view, normal. A fraction is a sign and two slices of limbs; contracts speak of the rational number that it denotes.
-/
import Derived.Test.YtebbnmjmjoklmaaGreatDoorGcdN
import Derived.Test.YtebbnmjmjoklmaaGreatDoorRat
import Derived.Deep.RegionHeld3
import Derived.Deep.RegionWith
import Derived.Deep.DeepCutAuto
import Derived.Laws.ResultCell
namespace Go.Proofs.YtebbnmjmjoklmaaGreatDoor
open Go.RowKit
set_option maxRecDepth 20000

theorem bcell {W w1 : World} (hb : Below W.heap.size W w1) : (∀ b o, b < W.heap.size → w1.cell? ⟨b, o, none⟩ = W.cell? ⟨b, o, none⟩) ∧ (∀ b o, b < W.heap.size → w1.frozen? ⟨b, o, none⟩ = W.frozen? ⟨b, o, none⟩) :=
  ⟨fun b o h => hb.cell (p := ⟨b, o, none⟩) h, fun b o h => hb.frozen (p := ⟨b, o, none⟩) h⟩

def Bool1 (w : World) (b : Bool) (e : Ending) (w' : World) : Prop := e = .returned (.bool b) ∧ ∃ k, w' = w.drewN k

theorem num_nil (w : World) : Num w none 0 0 0 := ⟨[], Rd.nil w, rfl⟩

theorem isZero_any {w : World} {A : Option Addr} {n c : Nat} {x : Int} (hx : Num w A n c x) : Calls Tryz.prog 73 #[.slice A n c] w (Bool1 w (decide (x = 0))) := by
  have x0 := hx.nonneg
  have hc := cmp_n hx (num_nil w)
  unfold SameNum at hc
  by_cases h : x = 0
  · rw [cmpZ_eq h] at hc
    have HB : Hid (decide (x = 0) = true) := decide_eq_true h
    have HC := Lib.hid hc
    clear hc h hx
    go_enter Tryz.func73, Tryz.ntmps73
    go_wp2_with fail
    refine HC.out.mono ?_
    rintro e w' ⟨rfl, k, rfl⟩
    go_wp2
    go_ret
    exact ⟨by rw [HB.out]; rfl, k, rfl⟩
  · rw [cmpZ_gt (by omega)] at hc
    have HB : Hid (decide (x = 0) = false) := decide_eq_false h
    have HC := Lib.hid hc
    clear hc h hx
    go_enter Tryz.func73, Tryz.ntmps73
    go_wp2_with fail
    refine HC.out.mono ?_
    rintro e w' ⟨rfl, k, rfl⟩
    go_wp2
    go_ret
    exact ⟨by rw [HB.out]; rfl, k, rfl⟩

/-- The same, of the memory alone. -/
def BoolB (w : World) (b : Bool) (e : Ending) (w' : World) : Prop := e = .returned (.bool b) ∧ Below w.heap.size w w'
theorem isZero_b {w : World} {A : Option Addr} {n c : Nat} {x : Int} (hx : Num w A n c x) : Calls Tryz.prog 73 #[.slice A n c] w (BoolB w (decide (x = 0))) :=
  (isZero_any hx).mono fun _ _ ⟨he, k, hw⟩ => ⟨he, by rw [hw]; exact drewN_below (Below.refl _ _) k⟩

/-- The slice lies in a block from base on. -/
def Off (base : Nat) (A : Option Addr) : Prop := ∀ a, A = some a → base ≤ a.block
theorem Off.mono {base base' : Nat} {A : Option Addr} (h : Off base A) (hb : base' ≤ base) : Off base' A := fun a ha => Nat.le_trans hb (h a ha)
theorem Off.of_mine {w : World} {base n c : Nat} {A : Option Addr} {L : List Int} (h : Mine w base A n c L) : Off base A := fun a ha => (h.lt a ha).1
theorem Off.none (base : Nat) : Off base .none := fun _ h => by cases h
theorem Rd.far {w : World} {A : Option Addr} {n c : Nat} {L : List Int} (h : Rd w A n c L) {p : Addr} (hne : 0 < n → ∀ a, A = some a → a.block ≠ p.block) (v : Value) : Rd (w.setCell p v) A n c L := by
  refine ⟨h.len, h.lims, h.cap, h.top, fun hn => ?_⟩
  obtain ⟨ad, e, hb, hc⟩ := h.at_ hn
  refine ⟨ad, e, by simp [World.setCell]; exact hb, fun i hi => ?_⟩
  rw [World.cell?_setCell_other _ _ _ _ (fun e2 => hne (by omega) ad e (by rw [e2, addr_block]))]
  exact hc i hi
theorem Nrm.far {w : World} {A : Option Addr} {n c : Nat} {x : Int} (h : Nrm w A n c x) {p : Addr} (hne : 0 < n → ∀ a, A = some a → a.block ≠ p.block) (v : Value) : Nrm (w.setCell p v) A n c x := by
  obtain ⟨L, h1, h2⟩ := h
  exact ⟨L, h1.far hne v, h2⟩
theorem Num.far {w : World} {A : Option Addr} {n c : Nat} {x : Int} (h : Num w A n c x) {p : Addr} (hne : 0 < n → ∀ a, A = some a → a.block ≠ p.block) (v : Value) : Num (w.setCell p v) A n c x := by
  obtain ⟨L, h1, h2⟩ := h
  exact ⟨L, h1.far hne v, h2⟩
theorem Nrm.old {w : World} {A : Option Addr} {n c : Nat} {x : Int} (h : Nrm w A n c x) : 0 < n → ∀ a, A = some a → a.block < w.heap.size := by
  intro hn a ha
  obtain ⟨L, h1, _⟩ := h
  obtain ⟨ad, e, hb, _⟩ := h1.at_ hn
  rw [ha] at e
  injection e with e
  rw [e]; exact hb
theorem Num.old {w : World} {A : Option Addr} {n c : Nat} {x : Int} (h : Num w A n c x) : 0 < n → ∀ a, A = some a → a.block < w.heap.size := by
  intro hn a ha
  obtain ⟨L, h1, _⟩ := h
  obtain ⟨ad, e, hb, _⟩ := h1.at_ hn
  rw [ha] at e
  injection e with e
  rw [e]; exact hb
/-- Three stores into a block that the slice does not lie in. -/
theorem Nrm.far3 {w : World} {A : Option Addr} {n c g : Nat} {x : Int} (h : Nrm w A n c x) (hne : 0 < n → ∀ a, A = some a → a.block ≠ g) (i j k : Nat) (u v z : Value) :
    Nrm (((w.setCell ⟨g, i, Option.none⟩ u).setCell ⟨g, j, Option.none⟩ v).setCell ⟨g, k, Option.none⟩ z) A n c x := ((h.far hne u).far hne v).far hne z
theorem Num.far3 {w : World} {A : Option Addr} {n c g : Nat} {x : Int} (h : Num w A n c x) (hne : 0 < n → ∀ a, A = some a → a.block ≠ g) (i j k : Nat) (u v z : Value) :
    Num (((w.setCell ⟨g, i, Option.none⟩ u).setCell ⟨g, j, Option.none⟩ v).setCell ⟨g, k, Option.none⟩ z) A n c x := ((h.far hne u).far hne v).far hne z
/-- A slice in normal form, in a block of its own, comes back. -/
def GivesO (w : World) (x : Int) (e : Ending) (w' : World) : Prop := ∃ A n c, e = .returned (.slice A n c) ∧ Nrm w' A n c x ∧ Off w.heap.size A ∧ Below w.heap.size w w'
theorem Gives.o {w : World} {x : Int} {e : Ending} {w' : World} (h : Gives w x e w') : GivesO w x e w' := by
  obtain ⟨A, n, c, L, h1, h2, h3, h4⟩ := h
  exact ⟨A, n, c, h1, Nrm.of_mine h2 h3, Off.of_mine h2, h4⟩

theorem quotient_n {w : World} {A B : Option Addr} {n c m d : Nat} {x y : Int} (hx : Num w A n c x) (hy : Num w B m d y) (hn : n ≤ 900000) (h0 : y ≠ 0) :
    Calls Tryz.prog 76 #[.slice A n c, .slice B m d] w (GivesO w (x / y)) := by
  obtain ⟨L, h1, rfl⟩ := hx
  obtain ⟨M, h2, rfl⟩ := hy
  have HD := Lib.hid (divMod_any A B n c m d L M w h1 h2 hn h0)
  clear h1 h2
  go_enter Tryz.func76, Tryz.ntmps76
  go_wp2_with fail
  refine HD.out.mono ?_
  rintro e w' ⟨A1, n1, c1, Q, B1, m1, d1, R, rfl, hQ, iQ, hR, iR, hb⟩
  have hq := Nrm.of_mine hQ iQ
  have ho := Off.of_mine hQ
  clear hR iR iQ hQ
  go_wp2
  go_ret
  exact ⟨A1, n1, c1, rfl, hq, ho, hb⟩

/-- The three parts of a fraction in memory: it denotes q; its slices have at most k limbs. The denominator may be zero. -/
def Loose (w : World) (s : Bool) (A : Option Addr) (n c : Nat) (B : Option Addr) (m d : Nat) (q : Rat) (k : Nat) : Prop :=
  ∃ x y, Num w A n c x ∧ Num w B m d y ∧ rat s x y = q ∧ n ≤ k ∧ m ≤ k
/-- The same, over a denominator that is not zero. -/
def Frac (w : World) (s : Bool) (A : Option Addr) (n c : Nat) (B : Option Addr) (m d : Nat) (q : Rat) (k : Nat) : Prop :=
  ∃ x y, Num w A n c x ∧ Num w B m d y ∧ 0 < y ∧ rat s x y = q ∧ n ≤ k ∧ m ≤ k
/-- In normal form. -/
def RN (w : World) (s : Bool) (A : Option Addr) (n c : Nat) (B : Option Addr) (m d : Nat) (q : Rat) (k : Nat) : Prop :=
  s = decide (q.num < 0) ∧ Nrm w A n c (q.num.natAbs : Int) ∧ Nrm w B m d (q.den : Int) ∧ n ≤ k ∧ m ≤ k
section
variable {w w' : World} {s : Bool} {A B : Option Addr} {n c m d k j : Nat} {q p : Rat}
theorem Loose.below (h : Loose w s A n c B m d q k) (hb : Below w.heap.size w w') : Loose w' s A n c B m d q k := by
  obtain ⟨x, y, h1, h2, h3⟩ := h
  exact ⟨x, y, h1.below hb, h2.below hb, h3⟩
theorem Frac.below (h : Frac w s A n c B m d q k) (hb : Below w.heap.size w w') : Frac w' s A n c B m d q k := by
  obtain ⟨x, y, h1, h2, h3⟩ := h
  exact ⟨x, y, h1.below hb, h2.below hb, h3⟩
theorem RN.below (h : RN w s A n c B m d q k) (hb : Below w.heap.size w w') : RN w' s A n c B m d q k :=
  ⟨h.1, h.2.1.below hb, h.2.2.1.below hb, h.2.2.2⟩
theorem Loose.mono (h : Loose w s A n c B m d q k) (hk : k ≤ j) : Loose w s A n c B m d q j := by
  obtain ⟨x, y, h1, h2, h3, h4, h5⟩ := h
  exact ⟨x, y, h1, h2, h3, by omega, by omega⟩
theorem Frac.mono (h : Frac w s A n c B m d q k) (hk : k ≤ j) : Frac w s A n c B m d q j := by
  obtain ⟨x, y, h1, h2, h0, h3, h4, h5⟩ := h
  exact ⟨x, y, h1, h2, h0, h3, by omega, by omega⟩
theorem RN.mono (h : RN w s A n c B m d q k) (hk : k ≤ j) : RN w s A n c B m d q j :=
  ⟨h.1, h.2.1, h.2.2.1, by have := h.2.2.2; omega, by have := h.2.2.2; omega⟩
theorem RN.frac (h : RN w s A n c B m d q k) : Frac w s A n c B m d q k := by
  obtain ⟨rfl, h1, h2, h3, h4⟩ := h
  refine ⟨_, _, h1.num, h2.num, ?_, rat_self q, h3, h4⟩
  have := q.den_pos
  omega
theorem Frac.loose (h : Frac w s A n c B m d q k) : Loose w s A n c B m d q k := by
  obtain ⟨x, y, h1, h2, _, h3⟩ := h
  exact ⟨x, y, h1, h2, h3⟩
theorem RN.loose (h : RN w s A n c B m d q k) : Loose w s A n c B m d q k := h.frac.loose
theorem RN.cast (h : RN w s A n c B m d q k) (e : q = p) : RN w s A n c B m d p k := by subst e; exact h
theorem Frac.cast (h : Frac w s A n c B m d q k) (e : q = p) : Frac w s A n c B m d p k := by subst e; exact h
theorem Loose.cast (h : Loose w s A n c B m d q k) (e : q = p) : Loose w s A n c B m d p k := by subst e; exact h
end
def GivesF (w : World) (q : Rat) (k : Nat) (e : Ending) (w' : World) : Prop :=
  ∃ s A n c B m d, e = .returned (.agg #[.bool s, .slice A n c, .slice B m d]) ∧ Frac w' s A n c B m d q k ∧ Below w.heap.size w w'
def GivesR (w : World) (q : Rat) (k : Nat) (e : Ending) (w' : World) : Prop :=
  ∃ s A n c B m d, e = .returned (.agg #[.bool s, .slice A n c, .slice B m d]) ∧ RN w' s A n c B m d q k ∧ Off w.heap.size A ∧ Off w.heap.size B ∧ Below w.heap.size w w'

theorem one_at {W : World} {g : Nat} (h : W.heap.size = g) : Num (W.alloc (.cells #[.int .u32 1] 71)) (some ⟨g, 0, none⟩) 1 1 1 := by
  subst h
  exact ⟨[1], lit1 W 1 (by decide) (by decide), by decide⟩

theorem view_any {w : World} {s : Bool} {A B : Option Addr} {n c m d k : Nat} {q : Rat} (h : Loose w s A n c B m d q k) (hk : 1 ≤ k) :
    Calls Tryz.prog 55 #[.agg #[.bool s, .slice A n c, .slice B m d]] w (GivesF w q k) := by
  obtain ⟨x, y, hx, hy, hq, hn, hm⟩ := h
  have y0 := hy.nonneg
  have hb2 := ((Below.refl w.heap.size w).alloc (Nat.le_refl _) (.cells #[.bool s, .slice A n c, .slice B m d] 42)).alloc (by simp) (.cells #[.bool false, .slice none 0 0, .slice none 0 0] 101)
  have HZ := isZero_any (hy.below hb2)
  by_cases h0 : y = 0
  · subst h0
    rw [rat_over_zero] at hq
    have HZ' := Lib.hid HZ
    have HQ := Lib.hid hq
    clear hq HZ
    go_enter Tryz.func55, Tryz.ntmps55
    go_wp2_with fail
    refine HZ'.out.mono ?_
    rintro e w' ⟨rfl, kk, rfl⟩
    go_wp2
    refine bodyPost_ret (v := .agg #[.bool false, .slice none 0 0, .slice (some ⟨w.heap.size + 1 + 1, 0, none⟩) 1 1]) (by simp [results, Tryz.results55, go_sem]) rfl ⟨_, _, _, _, _, _, _, rfl, ⟨0, 1, num_nil _, one_at (by simp), by decide, ?_, by omega, hk⟩, ?_⟩
    · rw [rat_zero, HQ.out]
    · exact (((drewN_below hb2 kk).setCell (by simp) _).setCell (by simp) _).setCell (by simp) _ |>.alloc (by simp; omega) _
  · rw [show decide (y = 0) = false from decide_eq_false h0] at HZ
    have HZ' := Lib.hid HZ
    have HQ := Lib.hid hq
    clear hq HZ
    go_enter Tryz.func55, Tryz.ntmps55
    go_wp2_with fail
    refine HZ'.out.mono ?_
    rintro e w' ⟨rfl, kk, rfl⟩
    go_wp2
    have hb3 := (((drewN_below hb2 kk).setCell (p := ⟨w.heap.size + 1, 0, none⟩) (by simp) (.bool s)).setCell (p := ⟨w.heap.size + 1, 1, none⟩) (by simp) (.slice A n c)).setCell (p := ⟨w.heap.size + 1, 2, none⟩) (by simp) (.slice B m d)
    refine bodyPost_ret (v := .agg #[.bool s, .slice A n c, .slice B m d]) (by simp [results, Tryz.results55, go_sem]) rfl ⟨_, _, _, _, _, _, _, rfl, ⟨x, y, hx.below hb3, hy.below hb3, by omega, HQ.out, hn, hm⟩, hb3⟩

/-- Three cells of a block that are there stay in all that is made afterwards. -/
theorem three_cells {v : World} {g : Nat} {a b c : Value} (hg : g < v.heap.size) (h0 : v.cell? ⟨g, 0, none⟩ = some a) (h1 : v.cell? ⟨g, 1, none⟩ = some b) (h2 : v.cell? ⟨g, 2, none⟩ = some c) :
    ∀ W, Below v.heap.size v W → W.cell? ⟨g, 0, none⟩ = some a ∧ W.cell? ⟨g, 1, none⟩ = some b ∧ W.cell? ⟨g, 2, none⟩ = some c :=
  fun _ hb => ⟨(hb.cell (p := ⟨g, 0, none⟩) hg).trans h0, (hb.cell (p := ⟨g, 1, none⟩) hg).trans h1, (hb.cell (p := ⟨g, 2, none⟩) hg).trans h2⟩
theorem three_free {v : World} {g : Nat} (hg : g < v.heap.size) (h0 : ∀ i, v.frozen? ⟨g, i, none⟩ = false) :
    ∀ W, Below v.heap.size v W → W.frozen? ⟨g, 0, none⟩ = false ∧ W.frozen? ⟨g, 1, none⟩ = false ∧ W.frozen? ⟨g, 2, none⟩ = false :=
  fun _ hb => ⟨(hb.frozen (p := ⟨g, 0, none⟩) hg).trans (h0 0), (hb.frozen (p := ⟨g, 1, none⟩) hg).trans (h0 1), (hb.frozen (p := ⟨g, 2, none⟩) hg).trans (h0 2)⟩

theorem ediv_lt_pw {x G : Int} {k : Nat} (x0 : 0 ≤ x) (h : x < pw k) : x / G < pw k := Int.lt_of_le_of_lt (Int.ediv_le_self _ x0) h
theorem normal_end {w v1 wp wq w' : World} {gw k n m n5 c5 n6 c6 : Nat} {A B A5 A6 : Option Addr} {c d : Nat} {x y G : Int} {q : Rat} {s : Bool} (hb3 : Below w.heap.size w v1) (hgw : gw = w.heap.size) (hsz : gw + 1 < v1.heap.size)
    (hx : Num v1 A n c x) (hy : Num v1 B m d y) (hn : n ≤ k) (hm : m ≤ k)
    (ha : (q.num.natAbs : Int) = x / G) (hd : (q.den : Int) = y / G) (hs : decide (q.num < 0) = s) (h5 : Nrm wq A5 n5 c5 (x / G)) (ho5 : Off wp.heap.size A5) (hs5 : v1.heap.size ≤ wp.heap.size) (h56 : Below wq.heap.size wq w') (h6 : Nrm w' A6 n6 c6 (y / G)) (ho6 : Off wq.heap.size A6) (hs6 : v1.heap.size ≤ wq.heap.size) (hk : Below v1.heap.size v1 w') :
    RN (((w'.setCell ⟨gw + 1, 0, none⟩ (.bool s)).setCell ⟨gw + 1, 1, none⟩ (.slice A5 n5 c5)).setCell ⟨gw + 1, 2, none⟩ (.slice A6 n6 c6)) s A5 n5 c5 A6 n6 c6 q k ∧ Off w.heap.size A5 ∧ Off w.heap.size A6 ∧
      Below w.heap.size w (((w'.setCell ⟨gw + 1, 0, none⟩ (.bool s)).setCell ⟨gw + 1, 1, none⟩ (.slice A5 n5 c5)).setCell ⟨gw + 1, 2, none⟩ (.slice A6 n6 c6)) := by
  have l5 := h5.short (ediv_lt_pw (G := G) hx.nonneg (pw_up hx.lt hn))
  have l6 := h6.short (ediv_lt_pw (G := G) hy.nonneg (pw_up hy.lt hm))
  have hb0 := hb3.size
  refine ⟨⟨hs.symm, ?_, ?_, l5, l6⟩, ho5.mono (by omega), ho6.mono (by omega), ?_⟩
  · rw [ha]
    exact (h5.below h56).far3 (fun _ a e => by have := ho5 a e; omega) _ _ _ _ _ _
  · rw [hd]
    exact h6.far3 (fun _ a e => by have := ho6 a e; omega) _ _ _ _ _ _
  · exact (((nextB hb3 hk).setCell (by simp; omega) _).setCell (by simp; omega) _).setCell (by simp; omega) _

set_option maxHeartbeats 4000000 in
theorem normal_any {w : World} {s : Bool} {A B : Option Addr} {n c m d k : Nat} {q : Rat} (hl : Laid w) (h : Frac w s A n c B m d q k) (hk8 : k ≤ 800000) :
    Calls Tryz.prog 57 #[.agg #[.bool s, .slice A n c, .slice B m d]] w (GivesR w q k) := by
  obtain ⟨x, y, hx, hy, y0, hq, hn, hm⟩ := h
  have x0 := hx.nonneg
  have hb2 := ((Below.refl w.heap.size w).alloc (Nat.le_refl _) (.cells #[.bool s, .slice A n c, .slice B m d] 101)).alloc (by simp) (.cells #[.bool false, .slice none 0 0, .slice none 0 0] 42)
  have HGC := Lib.hid (gcd_n (hl.below hb2) (hx.below hb2) (hy.below hb2) (by omega) (by omega))
  have g0 := gcd_pos_of (x := x) y0
  have ha : Hid ((q.num.natAbs : Int) = x / (Int.gcd x y : Int)) := by show _ = _; rw [← hq]; exact rat_abs s x0 y0
  have hd : Hid ((q.den : Int) = y / (Int.gcd x y : Int)) := by show _ = _; rw [← hq]; exact rat_den s y0
  have hs : Hid (decide (q.num < 0) = (s && !decide (x = 0))) := by show _ = _; rw [← hq]; exact rat_neg s x0 y0
  generalize (Int.gcd x y : Int) = G at *
  have HQ := Lib.hid hq
  clear hq
  go_enter Tryz.func57, Tryz.ntmps57
  go_wp2_with fail
  refine HGC.out.mono ?_
  rintro e v1 ⟨A1, n1, c1, rfl, hG, hB⟩
  clear HGC
  have hb3 := nextB hb2 hB
  have hx1 := hx.below hb3
  have hy1 := hy.below hb3
  have hsz : w.heap.size + 1 < v1.heap.size := by have := hB.size; simp at this; omega
  have HC := Lib.hid (three_cells (v := v1) (g := w.heap.size) (a := .bool s) (b := .slice A n c) (c := .slice B m d) (by omega)
    (by rw [hB.cell (p := ⟨w.heap.size, 0, none⟩) (by simp; omega)]; simp) (by rw [hB.cell (p := ⟨w.heap.size, 1, none⟩) (by simp; omega)]; simp) (by rw [hB.cell (p := ⟨w.heap.size, 2, none⟩) (by simp; omega)]; simp))
  have HO := Lib.hid (three_cells (v := v1) (g := w.heap.size + 1) (a := .bool false) (b := .slice none 0 0) (c := .slice none 0 0) (by omega)
    (by rw [hB.cell (p := ⟨w.heap.size + 1, 0, none⟩) (by simp)]; simp) (by rw [hB.cell (p := ⟨w.heap.size + 1, 1, none⟩) (by simp)]; simp) (by rw [hB.cell (p := ⟨w.heap.size + 1, 2, none⟩) (by simp)]; simp))
  have HF := Lib.hid (three_free (v := v1) (g := w.heap.size + 1) (by omega) (fun i => by rw [hB.frozen (p := ⟨w.heap.size + 1, i, none⟩) (by simp)]; simp))
  have hG1 := hG.num
  obtain ⟨gw, hgw⟩ : ∃ gw, gw = w.heap.size := ⟨_, rfl⟩
  rw [← hgw] at HC HO HF hsz ⊢
  have HGW := Lib.hid hgw
  obtain ⟨c0, c1', c2'⟩ := HC.out v1 (Below.refl _ _)
  clear hb2 hx hy hB hgw
  have hk : Below v1.heap.size v1 v1.drew := (Below.refl _ _).drew
  cases s
  · go_wp2_with fail
    refine wp_region_held_drew (S := (fun W => W.cell? ⟨gw, 0, none⟩ = some (.bool false) ∧ W.cell? ⟨gw, 1, none⟩ = some (.slice A n c) ∧ W.cell? ⟨gw, 2, none⟩ = some (.slice B m d))) (by kernel_rfl) ?_ (fun hHeld => ?_)
    · exact HC.out _ hk
    refine wpAnyH_take (i := 0) (oi := ⟨some 11, _, _, _, _, _⟩) (v := ?_) rfl (by kernel_rfl) (by kernel_rfl) (by kernel_rfl) (fun _ _ _ h => h) (Or.inl ⟨by rfl, ?_⟩) (by assumption) ?_
    rotate_left
    · intro w hSw
      (try dsimp only at hSw)
      go_simp
      try with_reducible rfl
    try simp only [Act.put, List.setIfInBounds_toArray, List.set_cons_zero, List.set_cons_succ]
    refine wpAnyH_take (i := 1) (oi := ⟨some 12, _, _, _, _, _⟩) (v := ?_) rfl (by kernel_rfl) (by kernel_rfl) (by kernel_rfl) (fun _ _ _ h => h) (Or.inl ⟨by rfl, ?_⟩) (by assumption) ?_
    rotate_left
    · intro w hSw
      (try dsimp only at hSw)
      go_simp
      try with_reducible rfl
    try simp only [Act.put, List.setIfInBounds_toArray, List.set_cons_zero, List.set_cons_succ]
    refine wpAnyH_take (i := 2) (oi := ⟨some 13, _, _, _, _, _⟩) (v := ?_) rfl (by kernel_rfl) (by kernel_rfl) (by kernel_rfl) (fun _ _ _ h => h) (Or.inl ⟨by rfl, ?_⟩) (by assumption) ?_
    rotate_left
    · intro w hSw
      (try dsimp only at hSw)
      go_simp
      try with_reducible rfl
    try simp only [Act.put, List.setIfInBounds_toArray, List.set_cons_zero, List.set_cons_succ]
    refine wpAnyH_take (i := 3) (oi := ⟨some 14, _, _, _, _, _⟩) (v := ?_) rfl (by kernel_rfl) (by kernel_rfl) (by kernel_rfl) (fun _ _ _ h => h) (Or.inl ⟨by rfl, ?_⟩) (by assumption) ?_
    rotate_left
    · intro w hSw
      (try dsimp only at hSw)
      go_simp
      try with_reducible rfl
    try simp only [Act.put, List.setIfInBounds_toArray, List.set_cons_zero, List.set_cons_succ]
    refine wpAnyH_take (i := 10) (oi := ⟨some 21, _, _, _, _, _⟩) (v := ?_) rfl (by kernel_rfl) (by kernel_rfl) (by kernel_rfl) (fun _ _ _ h => h) (Or.inl ⟨by rfl, ?_⟩) (by assumption) ?_
    rotate_left
    · intro w hSw
      (try dsimp only at hSw)
      go_simp
      try with_reducible rfl
    try simp only [Act.put, List.setIfInBounds_toArray, List.set_cons_zero, List.set_cons_succ]
    refine wpAnyH_take (i := 11) (oi := ⟨some 22, _, _, _, _, _⟩) (v := ?_) rfl (by kernel_rfl) (by kernel_rfl) (by kernel_rfl) (fun _ _ _ h => h) (Or.inl ⟨by rfl, ?_⟩) (by assumption) ?_
    rotate_left
    · intro w hSw
      (try dsimp only at hSw)
      go_simp
      try with_reducible rfl
    try simp only [Act.put, List.setIfInBounds_toArray, List.set_cons_zero, List.set_cons_succ]
    refine wpAnyH_take (i := 12) (oi := ⟨some 23, _, _, _, _, _⟩) (v := ?_) rfl (by kernel_rfl) (by kernel_rfl) (by kernel_rfl) (fun _ _ _ h => h) (Or.inl ⟨by rfl, ?_⟩) (by assumption) ?_
    rotate_left
    · intro w hSw
      (try dsimp only at hSw)
      go_simp
      try with_reducible rfl
    try simp only [Act.put, List.setIfInBounds_toArray, List.set_cons_zero, List.set_cons_succ]
    refine wpAnyH_take (i := 13) (oi := ⟨some 24, _, _, _, _, _⟩) (v := ?_) rfl (by kernel_rfl) (by kernel_rfl) (by kernel_rfl) (fun _ _ _ h => h) (Or.inl ⟨by rfl, ?_⟩) (by assumption) ?_
    rotate_left
    · intro w hSw
      (try dsimp only at hSw)
      go_simp
      try with_reducible rfl
    try simp only [Act.put, List.setIfInBounds_toArray, List.set_cons_zero, List.set_cons_succ]
    refine wpAnyH_take (i := 15) (oi := ⟨some 26, _, _, _, _, _⟩) (v := ?_) rfl (by kernel_rfl) (by kernel_rfl) (by kernel_rfl) (fun _ _ _ h => h) (Or.inl ⟨by rfl, ?_⟩) (by assumption) ?_
    rotate_left
    · intro w hSw
      (try dsimp only at hSw)
      go_simp
      try with_reducible rfl
    try simp only [Act.put, List.setIfInBounds_toArray, List.set_cons_zero, List.set_cons_succ]
    refine wpAnyH_take (i := 16) (oi := ⟨some 27, _, _, _, _, _⟩) (v := ?_) rfl (by kernel_rfl) (by kernel_rfl) (by kernel_rfl) (fun _ _ _ h => h) (Or.inl ⟨by rfl, ?_⟩) (by assumption) ?_
    rotate_left
    · intro w hSw
      (try dsimp only at hSw)
      go_simp
      try with_reducible rfl
    try simp only [Act.put, List.setIfInBounds_toArray, List.set_cons_zero, List.set_cons_succ]
    refine wpAnyH_take (i := 17) (oi := ⟨some 28, _, _, _, _, _⟩) (v := ?_) rfl (by kernel_rfl) (by kernel_rfl) (by kernel_rfl) (fun _ _ _ h => h) (Or.inl ⟨by rfl, ?_⟩) (by assumption) ?_
    rotate_left
    · intro w hSw
      (try dsimp only at hSw)
      go_simp
      try with_reducible rfl
    try simp only [Act.put, List.setIfInBounds_toArray, List.set_cons_zero, List.set_cons_succ]
    refine wpAnyH_take (i := 18) (oi := ⟨some 29, _, _, _, _, _⟩) (v := ?_) rfl (by kernel_rfl) (by kernel_rfl) (by kernel_rfl) (fun _ _ _ h => h) (Or.inl ⟨by rfl, ?_⟩) (by assumption) ?_
    rotate_left
    · intro w hSw
      (try dsimp only at hSw)
      go_simp
      try with_reducible rfl
    try simp only [Act.put, List.setIfInBounds_toArray, List.set_cons_zero, List.set_cons_succ]
    refine wpAnyH_take (i := 4) (oi := ⟨some 15, _, _, _, _, _⟩) (v := undef) rfl (by kernel_rfl) (by kernel_rfl) (by kernel_rfl) (fun _ _ _ h => h) (Or.inr ⟨by rfl, rfl⟩) (by assumption) ?_
    try simp only [Act.put, List.setIfInBounds_toArray, List.set_cons_zero, List.set_cons_succ]
    refine wpAnyH_take (i := 5) (oi := ⟨some 16, _, _, _, _, _⟩) (v := undef) rfl (by kernel_rfl) (by kernel_rfl) (by kernel_rfl) (fun _ _ _ h => h) (Or.inr ⟨by rfl, rfl⟩) (by assumption) ?_
    try simp only [Act.put, List.setIfInBounds_toArray, List.set_cons_zero, List.set_cons_succ]
    refine wpAnyH_take (i := 6) (oi := ⟨some 17, _, _, _, _, _⟩) (v := undef) rfl (by kernel_rfl) (by kernel_rfl) (by kernel_rfl) (fun _ _ _ h => h) (Or.inr ⟨by rfl, rfl⟩) (by assumption) ?_
    try simp only [Act.put, List.setIfInBounds_toArray, List.set_cons_zero, List.set_cons_succ]
    refine wpAnyH_take (i := 7) (oi := ⟨some 18, _, _, _, _, _⟩) (v := undef) rfl (by kernel_rfl) (by kernel_rfl) (by kernel_rfl) (fun _ _ _ h => h) (Or.inr ⟨by rfl, rfl⟩) (by assumption) ?_
    try simp only [Act.put, List.setIfInBounds_toArray, List.set_cons_zero, List.set_cons_succ]
    refine wpAnyH_take (i := 8) (oi := ⟨some 19, _, _, _, _, _⟩) (v := undef) rfl (by kernel_rfl) (by kernel_rfl) (by kernel_rfl) (fun _ _ _ h => h) (Or.inr ⟨by rfl, rfl⟩) (by assumption) ?_
    try simp only [Act.put, List.setIfInBounds_toArray, List.set_cons_zero, List.set_cons_succ]
    refine wpAnyH_take (i := 9) (oi := ⟨some 20, _, _, _, _, _⟩) (v := ?_) rfl (by kernel_rfl) (by kernel_rfl) (by kernel_rfl) (fun _ _ _ h => h) (Or.inl ⟨by rfl, ?_⟩) (by assumption) ?_
    rotate_left
    · intro w hSw
      (try dsimp only at hSw)
      go_simp
      try with_reducible rfl
    try simp only [Act.put, List.setIfInBounds_toArray, List.set_cons_zero, List.set_cons_succ]
    refine wpAnyH_ready (rs := [14]) (by kernel_rfl) (by simp) ?_
    refine AllReadyH.cons (o := ⟨some 25, _, _, _, _, _⟩) rfl (fun K hK => ?_) AllReadyH.nil
    go_simp
    go_at_call 76
    refine (quotient_n (hx1.below hk) (hG1.below hk) (by omega) (by omega)).mono ?_
    rintro e w' ⟨A5, n5, c5, rfl, hq5, ho5, hB5⟩
    have hsz5 := hk.size
    have hkk5 := hk
    replace hk := nextB hk hB5
    go_wp2_with fail
    refine hK.out _ _ (HC.out _ hk) (fun hHeld => ?_)
    clear hK K
    try simp only [Act.put, List.setIfInBounds_toArray, List.set_cons_zero, List.set_cons_succ]
    refine wpAnyH_ready (rs := [19]) (by kernel_rfl) (by simp) ?_
    refine AllReadyH.cons (o := ⟨some 30, _, _, _, _, _⟩) rfl (fun K hK => ?_) AllReadyH.nil
    go_simp
    go_at_call 76
    refine (quotient_n (hy1.below hk) (hG1.below hk) (by omega) (by omega)).mono ?_
    rintro e w' ⟨A6, n6, c6, rfl, hq6, ho6, hB6⟩
    have hsz6 := hk.size
    replace hk := nextB hk hB6
    obtain ⟨o0, o1, o2⟩ := HO.out _ hk
    obtain ⟨f0, f1, f2⟩ := HF.out _ hk
    go_wp2_with fail
    refine hK.out _ _ (HC.out _ hk) (fun hHeld => ?_)
    clear hK K
    try simp only [Act.put, List.setIfInBounds_toArray, List.set_cons_zero, List.set_cons_succ]
    refine wpAnyH_take (i := 20) (oi := ⟨some 31, _, _, _, _, _⟩) (v := ?_) rfl (by kernel_rfl) (by kernel_rfl) (by kernel_rfl) (fun _ _ _ h => h) (Or.inl ⟨by rfl, ?_⟩) (by assumption) ?_
    rotate_left
    · intro w hSw
      (try dsimp only at hSw)
      go_simp
      try with_reducible rfl
    try simp only [Act.put, List.setIfInBounds_toArray, List.set_cons_zero, List.set_cons_succ]
    refine wpAnyH_ready (rs := [21]) (by kernel_rfl) (by simp) ?_
    refine AllReadyH.cons (o := ⟨none, _, _, _, _, _⟩) rfl (fun K hK => ?_) AllReadyH.nil
    go_simp
    refine hK.out _ _ (by go_keep) (fun hHeld => ?_)
    clear hK K
    try simp only [Act.put, List.setIfInBounds_toArray, List.set_cons_zero, List.set_cons_succ]
    refine wpAnyH_done (by kernel_rfl) ?_ _
    go_wp2
    exact bodyPost_ret (v := .agg #[.bool false, .slice A5 n5 c5, .slice A6 n6 c6]) (by simp [results, Tryz.results57, go_sem, o0, o1, o2]) rfl ⟨_, _, _, _, _, _, _, rfl, normal_end hb3 HGW.out hsz hx1 hy1 hn hm ha.out hd.out hs.out hq5 ho5 hsz5 hB6 hq6 ho6 hsz6 hk⟩
  · go_wp2_with fail
    go_region_held3 (fun W => W.cell? ⟨gw, 0, none⟩ = some (.bool true) ∧ W.cell? ⟨gw, 1, none⟩ = some (.slice A n c) ∧ W.cell? ⟨gw, 2, none⟩ = some (.slice B m d)) (first | exact HC.out _ hk | go_keep)
      (first
        | (go_at_call 73; refine (isZero_b (hx1.below hk)).mono ?_; rintro e w' ⟨rfl, hB4⟩; have hk := nextB hk hB4)
        | (go_at_call_of 76 B; refine (quotient_n (hy1.below hk) (hG1.below hk) (by omega) (by omega)).mono ?_; rintro e w' ⟨A6, n6, c6, rfl, hq6, ho6, hB6⟩; have hsz6 := hk.size; have hk := nextB hk hB6; obtain ⟨o0, o1, o2⟩ := HO.out _ hk; obtain ⟨f0, f1, f2⟩ := HF.out _ hk)
        | (go_at_call_of 76 A; refine (quotient_n (hx1.below hk) (hG1.below hk) (by omega) (by omega)).mono ?_; rintro e w' ⟨A5, n5, c5, rfl, hq5, ho5, hB5⟩; have hsz5 := hk.size; have hk := nextB hk hB5; obtain ⟨o0, o1, o2⟩ := HO.out _ hk; obtain ⟨f0, f1, f2⟩ := HF.out _ hk))
    all_goals
      go_wp2
      exact bodyPost_ret (v := .agg #[.bool (!decide (x = 0)), .slice A5 n5 c5, .slice A6 n6 c6]) (by simp [results, Tryz.results57, go_sem, o0, o1, o2]) rfl ⟨_, _, _, _, _, _, _, rfl, normal_end hb3 HGW.out hsz hx1 hy1 hn hm ha.out hd.out hs.out hq5 ho5 hsz5 hB6 hq6 ho6 hsz6 hk⟩
end Go.Proofs.YtebbnmjmjoklmaaGreatDoor
