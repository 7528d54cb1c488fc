/-
  A sum in memory: its terms, and what they denote.
-/
import Derived.Test.YtgopolmmeadmpaaGreatDoorAddNew
namespace Go.Proofs.YtgopolmmeadmpaaGreatDoor
open Go Go.RowKit Go.WideMaps
set_option maxRecDepth 20000

/-- Limbs whose block is as it was. -/
theorem Rd.apart {w w' : World} {A : Option Addr} {n c : Nat} {L : List Int} (h : Rd w A n c L) (hs : w.heap.size ≤ w'.heap.size) (hk : 0 < n → ∀ a, A = some a → w'.heap[a.block]? = w.heap[a.block]?) : Rd w' A n c L :=
  ⟨h.len, h.lims, h.cap, h.top, fun hn => by
    obtain ⟨ad, e, hb, hc⟩ := h.at_ hn
    exact ⟨ad, e, Nat.lt_of_lt_of_le hb hs, fun i hi => (World.cell?_of_block (w := w) (by rw [addr_block]; exact hk hn ad e)).trans (hc i hi)⟩⟩
theorem Nrm.apart {w w' : World} {A : Option Addr} {n c : Nat} {x : Int} (h : Nrm w A n c x) (hs : w.heap.size ≤ w'.heap.size) (hk : 0 < n → ∀ a, A = some a → w'.heap[a.block]? = w.heap[a.block]?) : Nrm w' A n c x := by
  obtain ⟨L, h1, h2⟩ := h
  exact ⟨L, h1.apart hs hk, h2⟩
theorem Num.apart {w w' : World} {A : Option Addr} {n c : Nat} {x : Int} (h : Num w A n c x) (hs : w.heap.size ≤ w'.heap.size) (hk : 0 < n → ∀ a, A = some a → w'.heap[a.block]? = w.heap[a.block]?) : Num w' A n c x := by
  obtain ⟨L, h1, h2⟩ := h
  exact ⟨L, h1.apart hs hk, h2⟩
/-- All limbs of a term's coefficient lie in blocks of P. -/
def Tm.lies (t : Tm) (P : Nat → Prop) : Prop := (0 < t.n → ∀ a, t.A = some a → P a.block) ∧ (0 < t.m → ∀ a, t.B = some a → P a.block)
theorem Tm.lies.mono {t : Tm} {P Q : Nat → Prop} (h : t.lies P) (hP : ∀ b, P b → Q b) : t.lies Q := ⟨fun hn a ha => hP _ (h.1 hn a ha), fun hn a ha => hP _ (h.2 hn a ha)⟩
theorem Tm.lies.and {t : Tm} {P Q : Nat → Prop} (h : t.lies P) (h' : t.lies Q) : t.lies fun b => P b ∧ Q b := ⟨fun hn a ha => ⟨h.1 hn a ha, h'.1 hn a ha⟩, fun hn a ha => ⟨h.2 hn a ha, h'.2 hn a ha⟩⟩
/-- The coefficient in normal form; the coefficient in any form. -/
def Tm.rn (t : Tm) (w : World) (q : Rat) (k : Nat) : Prop := RN w t.s t.A t.n t.c t.B t.m t.d q k
def Tm.loose (t : Tm) (w : World) (q : Rat) (k : Nat) : Prop := Loose w t.s t.A t.n t.c t.B t.m t.d q k
theorem Tm.rn.loose {t : Tm} {w : World} {q : Rat} {k : Nat} (h : t.rn w q k) : t.loose w q k := RN.loose h
theorem Tm.rn.old {t : Tm} {w : World} {q : Rat} {k : Nat} (h : t.rn w q k) : t.lies (· < w.heap.size) := ⟨h.2.1.old, h.2.2.1.old⟩
theorem Tm.loose.old {t : Tm} {w : World} {q : Rat} {k : Nat} (h : t.loose w q k) : t.lies (· < w.heap.size) := by
  obtain ⟨x, y, h1, h2, _⟩ := h
  exact ⟨h1.old, h2.old⟩
theorem Tm.rn.apart {t : Tm} {w w' : World} {q : Rat} {k : Nat} (h : t.rn w q k) (hs : w.heap.size ≤ w'.heap.size) (hk : t.lies fun b => w'.heap[b]? = w.heap[b]?) : t.rn w' q k :=
  ⟨h.1, h.2.1.apart hs hk.1, h.2.2.1.apart hs hk.2, h.2.2.2⟩
theorem Tm.loose.apart {t : Tm} {w w' : World} {q : Rat} {k : Nat} (h : t.loose w q k) (hs : w.heap.size ≤ w'.heap.size) (hk : t.lies fun b => w'.heap[b]? = w.heap[b]?) : t.loose w' q k := by
  obtain ⟨x, y, h1, h2, h3⟩ := h
  exact ⟨x, y, h1.apart hs hk.1, h2.apart hs hk.2, h3⟩
theorem Tm.rn.mono {t : Tm} {w : World} {q : Rat} {k j : Nat} (h : t.rn w q k) (hk : k ≤ j) : t.rn w q j := RN.mono h hk
theorem Tm.loose.mono {t : Tm} {w : World} {q : Rat} {k j : Nat} (h : t.loose w q k) (hk : k ≤ j) : t.loose w q j := Loose.mono h hk
theorem Tm.rn.below {t : Tm} {w w' : World} {q : Rat} {k : Nat} (h : t.rn w q k) (hb : Below w.heap.size w w') : t.rn w' q k := RN.below h hb
theorem Tm.loose.below {t : Tm} {w w' : World} {q : Rat} {k : Nat} (h : t.loose w q k) (hb : Below w.heap.size w w') : t.loose w' q k := Loose.below h hb
theorem Off.lies {base : Nat} {t : Tm} (h : Off base t.A) (h' : Off base t.B) : t.lies (base ≤ ·) := ⟨fun _ a ha => h a ha, fun _ a ha => h' a ha⟩

/-- A term with what its coefficient denotes. -/
abbrev Tq := Tm × Rat
def tms (cs : List Tq) : List Tm := cs.map Prod.fst
def trms (cs : List Tq) : List Trm := cs.map fun x => (x.1.L, x.2)
def mons (cs : List Tq) : List Mon := cs.map fun x => x.1.L
theorem tms_append (cs ds : List Tq) : tms (cs ++ ds) = tms cs ++ tms ds := List.map_append
theorem trms_append (cs ds : List Tq) : trms (cs ++ ds) = trms cs ++ trms ds := List.map_append
theorem mons_append (cs ds : List Tq) : mons (cs ++ ds) = mons cs ++ mons ds := List.map_append
theorem mons_tms (cs : List Tq) : (tms cs).map Tm.L = mons cs := by unfold tms mons; rw [List.map_map]; rfl
theorem tms_length (cs : List Tq) : (tms cs).length = cs.length := List.length_map ..
theorem mons_length (cs : List Tq) : (mons cs).length = cs.length := List.length_map ..
theorem lin_set {cs : List Tq} {i : Nat} {x y : Tq} (h : cs[i]? = some x) (hL : y.1.L = x.1.L) (q : Rat) (hq : y.2 = x.2 + q) (f : Mon → Rat) : lin (trms (cs.set i y)) f = lin (trms cs ++ [(x.1.L, q)]) f := by
  induction cs generalizing i with
  | nil => simp at h
  | cons c cs ih =>
    cases i with
    | zero =>
      simp only [List.getElem?_cons_zero, Option.some.injEq] at h
      subst h
      show lin ((y.1.L, y.2) :: trms cs) f = lin ((c.1.L, c.2) :: (trms cs ++ [(c.1.L, q)])) f
      rw [lin_cons, lin_cons, lin_append, lin_cons, lin_nil, hL, hq, Rat.add_mul, Rat.add_zero, Rat.add_assoc, Rat.add_comm (q * f c.1.L)]
    | succ i =>
      have := ih (i := i) (by simpa using h)
      show lin ((c.1.L, c.2) :: trms (cs.set i y)) f = lin ((c.1.L, c.2) :: (trms cs ++ [(x.1.L, q)])) f
      rw [lin_cons, lin_cons, this]
theorem mons_set {cs : List Tq} {i : Nat} {x y : Tq} (h : cs[i]? = some x) (hL : y.1.L = x.1.L) : mons (cs.set i y) = mons cs := by
  induction cs generalizing i with
  | nil => simp at h
  | cons c cs ih =>
    cases i with
    | zero =>
      simp only [List.getElem?_cons_zero, Option.some.injEq] at h
      subst h
      show y.1.L :: mons cs = c.1.L :: mons cs
      rw [hL]
    | succ i =>
      show c.1.L :: mons (cs.set i y) = c.1.L :: mons cs
      rw [ih (by simpa using h)]
theorem tms_set (cs : List Tq) (i : Nat) (y : Tq) : tms (cs.set i y) = (tms cs).set i y.1 := by unfold tms; rw [List.map_set]
theorem trms_filter (cs : List Tq) : trms (cs.filter fun x => !decide (x.2 = 0)) = (trms cs).filter fun t => !decide (t.2 = 0) := by
  unfold trms; rw [List.filter_map]; rfl
theorem mlt_asymm {a b : Mon} (h : mlt a b = true) : mlt b a = false := by
  cases h' : mlt b a with
  | false => rfl
  | true => have := mlt_trans h h'; rw [mlt_irrefl] at this; cases this
/-- No monomial less than an earlier.. sorted, none twice, none zero: a normal form. -/
theorem norml_of_sorted {cs : List Tq} (hs : cs.Pairwise fun x y => mlt x.1.L y.1.L = false) (hn : (mons cs).Nodup) (hz : ∀ x ∈ cs, x.2 ≠ 0) : Norml (trms cs) := by
  refine ⟨?_, ?_⟩
  · unfold trms
    rw [List.pairwise_map]
    have hn' : cs.Pairwise fun x y => x.1.L ≠ y.1.L := by
      unfold mons List.Nodup at hn
      rwa [List.pairwise_map] at hn
    refine (hs.and hn').imp ?_
    rintro x y ⟨h1, h2⟩
    rcases mlt_tri y.1.L x.1.L with h | h | h
    · exact h
    · exact absurd h.symm h2
    · rw [h] at h1; cases h1
  · intro t ht
    obtain ⟨x, hx, rfl⟩ := List.mem_map.1 ht
    exact hz x hx
/-- Eight exponents from 0 to E. -/
def MonoE (E : Int) (L : List Int) : Prop := L.length = 8 ∧ ∀ x ∈ L, 0 ≤ x ∧ x ≤ E
theorem MonoE.mono8 {E : Int} {L : List Int} (h : MonoE E L) (hE : E ≤ 1000000000) : Mono8 L := ⟨h.1, fun x hx => by have := h.2 x hx; unfold Expo; omega⟩
theorem MonoE.le {E F : Int} {L : List Int} (h : MonoE E L) (hE : E ≤ F) : MonoE F L := ⟨h.1, fun x hx => by have := h.2 x hx; omega⟩
theorem MonoE.add {E F : Int} {L M : List Int} (h : MonoE E L) (h' : MonoE F M) : MonoE (E + F) (madd L M) := by
  obtain ⟨x0, x1, x2, x3, x4, x5, x6, x7, rfl⟩ := eight h.1
  obtain ⟨y0, y1, y2, y3, y4, y5, y6, y7, rfl⟩ := eight h'.1
  have hx := h.2
  have hy := h'.2
  simp only [List.mem_cons, List.not_mem_nil, or_false, forall_eq_or_imp, forall_eq] at hx hy
  refine ⟨rfl, ?_⟩
  show ∀ x ∈ [x0 + y0, x1 + y1, x2 + y2, x3 + y3, x4 + y4, x5 + y5, x6 + y6, x7 + y7], _
  simp only [List.mem_cons, List.not_mem_nil, or_false, forall_eq_or_imp, forall_eq]
  omega

/-- The sum at p holds the terms cs: its map (block b) has their places, its row (block g) their cells; their coefficients are in normal form and lie in other blocks. All its blocks lie at base or above. -/
structure SumAt (w : World) (base p b g cap : Nat) (D : DataW Unit) (cs : List Tq) (k : Nat) (E : Int) : Prop where
  cell0 : w.cell? ⟨p, 0, none⟩ = some (.map (some b))
  cell1 : w.cell? ⟨p, 1, none⟩ = some (.slice (some ⟨g, 0, none⟩) cs.length cap)
  free : ∀ j, w.frozen? ⟨p, j, none⟩ = false
  map : w.ownsMap Tryz.prog 38 (plainElem Tryz.prog 3) b cs.length D
  places : Places D (mons cs)
  row : w.ownsRow base 43 11 (.slice (some ⟨g, 0, none⟩) cs.length cap) cs.length (rowOf (tms cs))
  mono : ∀ x ∈ cs, MonoE E x.1.L
  nodup : (mons cs).Nodup
  coef : ∀ x ∈ cs, x.1.rn w x.2 k ∧ x.1.lies fun i => i ≠ p ∧ i ≠ b ∧ i ≠ g
  lt : p < w.heap.size
  pb : p ≠ b
  gb : g ≠ b
  pg : p ≠ g
  basep : base ≤ p
  baseb : base ≤ b
  baseg : base ≤ g
/-- The same, for some blocks. -/
def SumIs (w : World) (base p : Nat) (cs : List Tq) (k : Nat) (E : Int) : Prop := ∃ b g cap D, SumAt w base p b g cap D cs k E

theorem Keeps.below_base {p b g base : Nat} {w w' : World} (h : Keeps p b g w w') (hp : base ≤ p) (hb : base ≤ b) (hg : base ≤ g) (hw : base ≤ w.heap.size) : Below base w w' :=
  ⟨h.os, h.tape, h.output, h.size, fun k hk => h.block k (by omega) (by omega) (by omega) (by omega)⟩
theorem Tm.rn.keeps {t : Tm} {p b g : Nat} {w w' : World} {q : Rat} {k : Nat} (h : t.rn w q k) (hk : Keeps p b g w w') (hl : t.lies fun i => i ≠ p ∧ i ≠ b ∧ i ≠ g) : t.rn w' q k :=
  h.apart hk.size ((h.old.and hl).mono fun i hi => hk.block i hi.1 hi.2.1 hi.2.2.1 hi.2.2.2)
theorem Tm.lies.reown {t : Tm} {p b g g' h : Nat} (hl : t.lies fun i => i ≠ p ∧ i ≠ b ∧ i ≠ g) (ho : t.lies (· < h)) (hg : g' = g ∨ h ≤ g') : t.lies fun i => i ≠ p ∧ i ≠ b ∧ i ≠ g' :=
  (hl.and ho).mono fun i hi => ⟨hi.1.1, hi.1.2.1, by rcases hg with rfl | hg; exact hi.1.2.2; have := hi.2; omega⟩

/-- A new monomial is added. -/
theorem SumAt.new {w : World} {base p b g cap k : Nat} {E : Int} {D : DataW Unit} {cs : List Tq} {t : Tm} {q : Rat} (h : SumAt w base p b g cap D cs k E) (hE : E ≤ 1000000000) (hM : MonoE E t.L) (hin : t.L ∉ mons cs) (hc : t.rn w q k) (hl : t.lies fun i => i ≠ p ∧ i ≠ b ∧ i ≠ g) (hn : cs.length < 1000000) :
    Calls Tryz.prog 53 #[.pointer (some ⟨p, 0, none⟩), monV t.L, .agg #[.bool t.s, .slice t.A t.n t.c, .slice t.B t.m t.d]] w fun e w' => e = .returned (.bool true) ∧ Keeps p b g w w' ∧
      ∃ g' cap', (g' = g ∨ w.heap.size ≤ g') ∧ SumAt w' base p b g' cap' (D.put (keyLit t.L) (.lit (.int .i64 (cs.length : Int)))) (cs ++ [(t, q)]) k E := by
  have hw : base ≤ w.heap.size := by have := h.basep; have := h.lt; omega
  refine (sumAdd_new h.cell0 h.cell1 h.free h.map (by rw [mons_tms]; exact h.places) (hM.mono8 hE) h.row h.lt (by rw [mons_tms]; exact hin) hn hn h.pb h.gb h.pg hw).mono ?_
  rintro e w' ⟨rfl, g', cap', c0, c1, fr, mp, rw', hg', K⟩
  refine ⟨rfl, K, g', cap', hg', ?_⟩
  have hlen : (cs ++ [(t, q)]).length = cs.length + 1 := by simp
  refine ⟨c0, by rw [hlen]; exact c1, fr, by rw [hlen]; exact mp, ?_, ?_, ?_, ?_, ?_, Nat.lt_of_lt_of_le h.lt K.size, h.pb, ?_, ?_, h.basep, h.baseb, ?_⟩
  · have := h.places.push (hM.mono8 hE) hin
    rw [mons_length] at this
    rw [mons_append]; exact this
  · rw [hlen, tms_append, show tms [(t, q)] = [t] from rfl, rowOf_push]; exact rw'
  · intro x hx
    rcases List.mem_append.1 hx with hx | hx
    · exact h.mono x hx
    · rw [List.mem_singleton.1 hx]; exact hM
  · rw [mons_append]
    refine List.nodup_append.2 ⟨h.nodup, by simp [mons], ?_⟩
    intro a ha b hb e
    rw [e, List.mem_singleton.1 hb] at ha
    exact hin ha
  · intro x hx
    rcases List.mem_append.1 hx with hx | hx
    · have hx' := h.coef x hx
      exact ⟨hx'.1.keeps K hx'.2, hx'.2.reown hx'.1.old hg'⟩
    · rw [List.mem_singleton.1 hx]
      exact ⟨Tm.rn.keeps hc K hl, hl.reown hc.old hg'⟩
  · rcases hg' with rfl | hg'
    · exact h.gb
    · have := h.map.lt; omega
  · rcases hg' with rfl | hg'
    · exact h.pg
    · have := h.lt; omega
  · rcases hg' with rfl | hg'
    · exact h.baseg
    · omega
theorem belowGrew {w w' : World} (hb : Below w.heap.size w w') : w.grownBy w' none := ⟨hb.os, hb.tape, hb.output, hb.size, fun k hk _ => hb.block k hk⟩
theorem SumAt.below {w w' : World} {base p b g cap k : Nat} {E : Int} {D : DataW Unit} {cs : List Tq} (h : SumAt w base p b g cap D cs k E) (hb : Below w.heap.size w w') : SumAt w' base p b g cap D cs k E :=
  { h with
    cell0 := (hb.cell (p := ⟨p, 0, none⟩) h.lt).trans h.cell0
    cell1 := (hb.cell (p := ⟨p, 1, none⟩) h.lt).trans h.cell1
    free := fun j => (hb.frozen (p := ⟨p, j, none⟩) h.lt).trans (h.free j)
    map := h.map.kept (belowGrew hb) (fun e => by cases e)
    row := h.row.kept (belowGrew hb) (.inr (fun e => by cases e))
    coef := fun x hx => ⟨(h.coef x hx).1.below hb, (h.coef x hx).2⟩
    lt := Nat.lt_of_lt_of_le h.lt hb.size }
theorem SumIs.below {w w' : World} {base p k : Nat} {E : Int} {cs : List Tq} (h : SumIs w base p cs k E) (hb : Below w.heap.size w w') : SumIs w' base p cs k E := by
  obtain ⟨b, g, cap, D, h⟩ := h
  exact ⟨b, g, cap, D, h.below hb⟩
theorem SumIs.mono {w : World} {base p k j : Nat} {E F : Int} {cs : List Tq} (h : SumIs w base p cs k E) (hk : k ≤ j) (hE : E ≤ F) : SumIs w base p cs j F := by
  obtain ⟨b, g, cap, D, h⟩ := h
  exact ⟨b, g, cap, D, { h with coef := fun x hx => ⟨(h.coef x hx).1.mono hk, (h.coef x hx).2⟩, mono := fun x hx => (h.mono x hx).le hE }⟩
end Go.Proofs.YtgopolmmeadmpaaGreatDoor
