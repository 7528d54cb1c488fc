/-
  Insertion into a normal form: what the reference's Insert does, on lists of terms.
  The reference's Greater of two monomials; rows of terms in blocks of their own that grow.
-/
import Derived.Test.YtnkfmbjpbfpfkaaGreatDoorPoly
import Derived.Test.YtnkfmbjpbfpfkaaGreatDoorTmAt
namespace Go.Proofs.YtnkfmbjpbfpfkaaGreatDoor

theorem norml_two {a b : List Trm} (ha : Norml a) (hb : Norml b) (h : ∀ u ∈ a, ∀ v ∈ b, mlt v.1 u.1 = true) : Norml (a ++ b) :=
  ⟨List.pairwise_append.2 ⟨ha.1, hb.1, h⟩, fun u hu => by
    rcases List.mem_append.1 hu with hu | hu
    · exact ha.2 u hu
    · exact hb.2 u hu⟩
theorem norml_mid {a b : List Trm} {t : Trm} (ha : Norml a) (hb : Norml b) (h1 : ∀ u ∈ a, mlt t.1 u.1 = true) (h2 : ∀ u ∈ b, mlt u.1 t.1 = true) (ht : t.2 ≠ 0) : Norml (a ++ t :: b) := by
  refine norml_two ha ⟨List.pairwise_cons.2 ⟨h2, hb.1⟩, fun u hu => ?_⟩ fun u hu v hv => ?_
  · rcases List.mem_cons.1 hu with rfl | hu
    · exact ht
    · exact hb.2 u hu
  · rcases List.mem_cons.1 hv with rfl | hv
    · exact h1 u hu
    · exact mlt_trans (h2 v hv) (h1 u hu)
theorem Norml.take {l : List Trm} (h : Norml l) (m : Nat) : Norml (l.take m) := ⟨h.1.sublist (List.take_sublist m l), fun u hu => h.2 u (List.mem_of_mem_take hu)⟩
theorem Norml.drop {l : List Trm} (h : Norml l) (m : Nat) : Norml (l.drop m) := ⟨h.1.sublist (List.drop_sublist m l), fun u hu => h.2 u (List.mem_of_mem_drop hu)⟩
theorem Norml.apart {l : List Trm} (h : Norml l) (m : Nat) : ∀ u ∈ l.take m, ∀ v ∈ l.drop m, mlt v.1 u.1 = true := by
  have h1 := h.1
  rw [← List.take_append_drop m l] at h1
  exact (List.pairwise_append.1 h1).2.2
/-- What Insert makes of a normal form: m terms are greater. -/
def insT (l : List Trm) (m : Nat) (t : Trm) : List Trm :=
  if l[m]?.map Prod.fst = some t.1 then l.take m ++ (if t.2 + (l[m]?.map Prod.snd).getD 0 = 0 then [] else [(t.1, t.2 + (l[m]?.map Prod.snd).getD 0)]) ++ l.drop (m + 1)
  else l.take m ++ (if t.2 = 0 then [] else [t]) ++ l.drop m
theorem lin_split {l : List Trm} {m : Nat} {u : Trm} (h : l[m]? = some u) (f : Mon → Rat) : lin l f = lin (l.take m) f + (u.2 * f u.1 + lin (l.drop (m + 1)) f) := by
  have hm : m < l.length := (List.getElem?_eq_some_iff.1 h).1
  have e : l.drop m = u :: l.drop (m + 1) := by
    rw [List.drop_eq_getElem_cons hm]
    rw [List.getElem?_eq_getElem hm] at h
    injection h with h
    rw [h]
  conv => lhs; rw [← List.take_append_drop m l]
  rw [lin_append, e, lin_cons]
theorem rat_mid (a b c : Rat) : a + (b + c) = (a + c) + b := by rw [Rat.add_comm b c, Rat.add_assoc]
theorem insT_eqv (l : List Trm) (m : Nat) (t : Trm) : Eqv (insT l m t) (l ++ [t]) := fun f => by
  unfold insT
  have hone : lin [t] f = t.2 * f t.1 := by rw [lin_cons, lin_nil, Rat.add_zero]
  rw [lin_append l, hone]
  split
  · rename_i h
    obtain ⟨u, hu⟩ : ∃ u, l[m]? = some u := by
      cases hl : l[m]? with
      | none => rw [hl] at h; cases h
      | some u => exact ⟨u, rfl⟩
    rw [hu] at h ⊢
    simp only [Option.map_some, Option.some.injEq, Option.getD_some] at h ⊢
    rw [lin_split hu f, lin_append, lin_append]
    have hmid : lin (if t.2 + u.2 = 0 then [] else [(t.1, t.2 + u.2)]) f = t.2 * f t.1 + u.2 * f u.1 := by
      rw [h, ← Rat.add_mul]
      split
      · rename_i h0; rw [h0, lin_nil, Rat.zero_mul]
      · rw [lin_cons, lin_nil, Rat.add_zero]
    rw [hmid, Rat.add_assoc, Rat.add_assoc, Rat.add_assoc]
    congr 1
    rw [Rat.add_comm (t.2 * f t.1), Rat.add_assoc]
  · rw [lin_append, lin_append]
    have hmid : lin (if t.2 = 0 then [] else [t]) f = t.2 * f t.1 := by
      split
      · rename_i h0; rw [h0, lin_nil, Rat.zero_mul]
      · exact hone
    rw [hmid]
    conv => rhs; rw [← List.take_append_drop m l]
    rw [lin_append, Rat.add_assoc, Rat.add_assoc, Rat.add_comm (t.2 * f t.1)]
theorem insT_norml {l : List Trm} {m : Nat} {t : Trm} (h : Norml l) (h1 : ∀ u ∈ l.take m, mlt t.1 u.1 = true) (h2 : ∀ u ∈ l.drop m, mlt t.1 u.1 = false) : Norml (insT l m t) := by
  have hap := h.apart m
  unfold insT
  split
  · rename_i he
    obtain ⟨u, hu⟩ : ∃ u, l[m]? = some u := by
      cases hl : l[m]? with
      | none => rw [hl] at he; cases he
      | some u => exact ⟨u, rfl⟩
    have hm : m < l.length := (List.getElem?_eq_some_iff.1 hu).1
    have e : l.drop m = u :: l.drop (m + 1) := by
      rw [List.drop_eq_getElem_cons hm]
      rw [List.getElem?_eq_getElem hm] at hu
      injection hu with hu
      rw [hu]
    have hut : u.1 = t.1 := by rw [hu] at he; simpa using he
    rw [e] at hap
    have hd1 : ∀ v ∈ l.drop (m + 1), mlt v.1 t.1 = true := fun v hv => by
      have hh := (h.drop m).1
      rw [e] at hh
      rw [← hut]
      exact (List.pairwise_cons.1 hh).1 v hv
    split
    · rw [List.append_nil]
      exact norml_two (h.take m) (h.drop (m + 1)) fun a ha b hb => hap a ha b (List.mem_cons_of_mem _ hb)
    · rename_i hz
      rw [List.append_assoc]
      exact norml_mid (h.take m) (h.drop (m + 1)) h1 hd1 hz
  · rename_i he
    have hd1 : ∀ v ∈ l.drop m, mlt v.1 t.1 = true := fun v hv => by
      rcases mlt_tri v.1 t.1 with h3 | h3 | h3
      · exact h3
      · exfalso
        -- v stands at m: all behind it are less
        cases hl : l.drop m with
        | nil => rw [hl] at hv; cases hv
        | cons u r =>
          have hum : l[m]? = some u := by
            have := List.getElem?_drop (xs := l) (i := m) (j := 0)
            rw [hl] at this
            simpa using this.symm
          rw [hl] at hv h2
          rcases List.mem_cons.1 hv with rfl | hv
          · exact he (by rw [hum, Option.map_some, h3])
          · have hh := (h.drop m).1
            rw [hl] at hh
            have h4 := (List.pairwise_cons.1 hh).1 v hv
            rw [h3] at h4
            have := h2 u (List.mem_cons_self ..)
            rw [this] at h4; cases h4
      · rw [h2 v hv] at h3; cases h3
    split
    · rw [List.append_nil]
      exact norml_two (h.take m) (h.drop m) hap
    · rename_i hz
      rw [List.append_assoc]
      exact norml_mid (h.take m) (h.drop m) h1 hd1 hz
theorem insT_length (l : List Trm) (m : Nat) (t : Trm) : (insT l m t).length ≤ l.length + 1 := by
  unfold insT
  split <;> split <;> simp only [List.length_append, List.length_take, List.length_drop, List.length_cons, List.length_nil] <;> omega
end Go.Proofs.YtnkfmbjpbfpfkaaGreatDoor

namespace Go.Proofs.YtnkfmbjpbfpfkaaGreatDoor
open Go Go.RowKit Go.WideMaps
set_option maxRecDepth 20000

theorem belowN {B : Nat} {w v : World} (h : Below B w v) (q : Nat) : Below B w (v.drewN q) := h.trans ⟨rfl, rfl, rfl, Nat.le_refl _, fun _ _ => rfl⟩
theorem mlt_step {X Y : List Int} {i : Nat} (hi : i < X.length) (hj : i < Y.length) : mlt (Y.drop i) (X.drop i) = if X.getD i 0 = Y.getD i 0 then mlt (Y.drop (i + 1)) (X.drop (i + 1)) else decide (Y.getD i 0 < X.getD i 0) := by
  rw [List.drop_eq_getElem_cons hi, List.drop_eq_getElem_cons hj]
  have e1 : X.getD i 0 = X[i] := by simp [hi]
  have e2 : Y.getD i 0 = Y[i] := by simp [hj]
  rw [e1, e2]
  simp only [mlt]
  by_cases h : X[i] = Y[i]
  · rw [if_pos h, h]; simp
  · rw [if_neg h]
    have h' : ¬ Y[i] = X[i] := fun e => h e.symm
    simp [h']

set_option maxHeartbeats 4000000 in
theorem refGreater_x {x0 x1 x2 x3 x4 x5 x6 x7 y0 y1 y2 y3 y4 y5 y6 y7 : Int} (w : World) :
    Calls Tryz.prog 79 #[.agg #[.int .i64 x0, .int .i64 x1, .int .i64 x2, .int .i64 x3, .int .i64 x4, .int .i64 x5, .int .i64 x6, .int .i64 x7], .agg #[.int .i64 y0, .int .i64 y1, .int .i64 y2, .int .i64 y3, .int .i64 y4, .int .i64 y5, .int .i64 y6, .int .i64 y7]] w fun e w' => e = .returned (.bool (mlt [y0, y1, y2, y3, y4, y5, y6, y7] [x0, x1, x2, x3, x4, x5, x6, x7])) ∧ Below w.heap.size w w' := by
  obtain ⟨u, hu⟩ : ∃ u, (w.alloc (.cells #[.int .i64 x0, .int .i64 x1, .int .i64 x2, .int .i64 x3, .int .i64 x4, .int .i64 x5, .int .i64 x6, .int .i64 x7] 50)).alloc (.cells #[.int .i64 y0, .int .i64 y1, .int .i64 y2, .int .i64 y3, .int .i64 y4, .int .i64 y5, .int .i64 y6, .int .i64 y7] 50) = u := ⟨_, rfl⟩
  have hbu : Below w.heap.size w u := hu ▸ ((Below.refl _ w).alloc (Nat.le_refl _) _).alloc (by simp) _
  have hus : u.heap.size = w.heap.size + 2 := by rw [← hu]; simp
  have M1 := MonoAt.lit (w.alloc (.cells #[.int .i64 x0, .int .i64 x1, .int .i64 x2, .int .i64 x3, .int .i64 x4, .int .i64 x5, .int .i64 x6, .int .i64 x7] 50)) y0 y1 y2 y3 y4 y5 y6 y7
  rw [World.size_alloc, hu] at M1
  have M0 := (MonoAt.lit w x0 x1 x2 x3 x4 x5 x6 x7).far (W' := u) (by rw [← hu]; exact Below.heap_alloc _ _ _ (by simp))
  obtain ⟨b, hb⟩ : ∃ b, w.heap.size = b := ⟨_, rfl⟩
  rw [hb] at M0 M1
  have HU := Lib.hid hu
  have HB := Lib.hid hb
  have HM0 := Lib.hid M0
  have HM1 := Lib.hid M1
  have HBU := Lib.hid hbu
  have HUS := Lib.hid hus
  obtain ⟨X, hX⟩ : ∃ X, [x0, x1, x2, x3, x4, x5, x6, x7] = X := ⟨_, rfl⟩
  obtain ⟨Y, hY⟩ : ∃ Y, [y0, y1, y2, y3, y4, y5, y6, y7] = Y := ⟨_, rfl⟩
  have HX8 : Hid (X.length = 8) := by show _ = _; rw [← hX]; rfl
  have HY8 : Hid (Y.length = 8) := by show _ = _; rw [← hY]; rfl
  rw [hX] at HM0
  rw [hY] at HM1
  rw [hX, hY]
  clear hu hb M0 M1 hbu hX hY hus
  go_enter Tryz.func79, Tryz.ntmps79
  go_wp2
  rw [HU.out, HB.out]
  go_loopw [5] (fun iv wr => ∃ i : Nat, i ≤ 8 ∧ iv = .int .i64 i ∧ Below u.heap.size u wr ∧ Hid (mlt Y X = mlt (Y.drop i) (X.drop i))) (fun iv _ => 8 - (intOf iv).toNat)
  case atStart => exact ⟨0, by decide, rfl, Below.refl _ _, rfl⟩
  case round =>
    obtain ⟨i, hi, rfl, hB, HM⟩ := hrel
    by_cases hlt : i < 8
    · have hi2 : (i : Int) < 8 := by omega
      have hi3 : (0 : Int) ≤ i := by omega
      have c0 := (HM0.out.far (hB.block b (by have := HB.out; have := HUS.out; omega))).1 i hlt
      have c1 := (HM1.out.far (hB.block (b + 1) (by have := HB.out; have := HUS.out; omega))).1 i hlt
      have hst := mlt_step (X := X) (Y := Y) (i := i) (by have := HX8.out; omega) (by have := HY8.out; omega)
      obtain ⟨x, hx⟩ : ∃ x, X.getD i 0 = x := ⟨_, rfl⟩
      obtain ⟨y, hy⟩ : ∃ y, Y.getD i 0 = y := ⟨_, rfl⟩
      rw [hx] at c0 hst
      rw [hy] at c1 hst
      have HST := Lib.hid hst
      clear hx hy hst
      by_cases hxy : x = y
      · subst hxy
        have HN : Hid (mlt Y X = mlt (Y.drop (i + 1)) (X.drop (i + 1))) := by show _ = _; rw [HM.out, HST.out, if_pos rfl]
        clear HM HST
        go_wp2_with fail
        go_quiet (fail)
        go_wp2
        go_roundw
        case rel => exact ⟨i + 1, by omega, by go_num, belowN hB _, HN⟩
        case measure => simp [intOf] <;> omega
      · have hne : (x == y) = false := by rw [beq_eq_false_iff_ne]; exact hxy
        have hne2 : (x != y) = true := by simp [bne, hne]
        have HN : Hid (mlt Y X = decide (y < x)) := by show _ = _; rw [HM.out, HST.out, if_neg hxy]
        have hB2 : Below w.heap.size w wr := nextB HBU.out hB
        clear HM HST
        go_wp2_with fail
        go_quiet (fail)
        go_wp2_with fail
        go_quiet (fail)
        go_wp2
        go_ret
        exact ⟨congrArg (fun b => Ending.returned (Value.bool b)) HN.out.symm, belowN (belowN hB2 _) _⟩
    · obtain rfl : i = 8 := by omega
      have HN : Hid (mlt Y X = false) := by
        show _ = _
        rw [HM.out, List.drop_of_length_le (l := X) (by rw [HX8.out]; exact Nat.le_refl _), List.drop_of_length_le (l := Y) (by rw [HY8.out]; exact Nat.le_refl _)]
        rfl
      have hB2 : Below w.heap.size w wr := nextB HBU.out hB
      clear HM
      go_wp2
      go_ret
      exact ⟨congrArg (fun b => Ending.returned (Value.bool b)) HN.out.symm, hB2⟩

/-- A row of terms in blocks of its own; the terms' coefficients lie elsewhere. -/
structure OutRow (base : Nat) (A : Option Addr) (n c : Nat) (ds : List Tq) (k : Nat) (W : World) : Prop where
  len : n = ds.length
  row : W.ownsRow base 55 11 (.slice A n c) n (rowOf (tms ds))
  rn : ∀ x ∈ ds, x.1.rn W x.2 k
  apart : ∀ x ∈ ds, x.1.lies fun i => ∀ a, A = some a → i ≠ a.block
theorem OutRow.nil (base k : Nat) (W : World) : OutRow base none 0 0 [] k W := ⟨rfl, World.ownsRow_nil W base _ _, fun x hx => (by cases hx), fun x hx => (by cases hx)⟩
theorem OutRow.below {base n c k : Nat} {A : Option Addr} {ds : List Tq} {W W' : World} (h : OutRow base A n c ds k W) (hb : Below W.heap.size W W') : OutRow base A n c ds k W' :=
  ⟨h.len, ownsRow_below h.row hb, fun x hx => (h.rn x hx).below hb, h.apart⟩
/-- Behind an append of the terms es. -/
theorem OutRow.push {base n c k : Nat} {A : Option Addr} {ds es : List Tq} {W W' : World} {v' : Value} (h : OutRow base A n c ds k W)
    (hown : W'.ownsRow base 55 11 v' (n + es.length) (rowOf (tms ds) ++ rowOf (tms es))) (hg : W.grownBy W' (Value.slice A n c).ownBlock) (hat : v'.ownBlock = (Value.slice A n c).ownBlock ∨ v'.ownBlock = some W.heap.size)
    (hr : ∀ x ∈ es, x.1.rn W x.2 k) (ha : ∀ x ∈ es, x.1.lies fun i => ∀ a, A = some a → i ≠ a.block) :
    ∃ A' c', v' = .slice A' (n + es.length) c' ∧ OutRow base A' (n + es.length) c' (ds ++ es) k W' := by
  obtain ⟨A', c', rfl⟩ := row_form hown
  have keep : ∀ (u : Tm) (p : Rat), u.rn W p k → (u.lies fun k => ∀ a, A = some a → k ≠ a.block) → u.rn W' p k ∧ u.lies fun k => ∀ a, A' = some a → k ≠ a.block := fun u p hu hau => by
    refine ⟨hu.apart hg.size ((hu.old.and hau).mono fun k hk => hg.block k hk.1 ?_), (hu.old.and hau).mono fun k hk a e he => ?_⟩
    · cases A with
      | none => intro e; cases e
      | some a0 => intro e; simp [Value.ownBlock] at e; exact hk.2 a0 rfl (by omega)
    · subst e
      rcases hat with hat | hat
      · cases A with
        | none => simp [Value.ownBlock] at hat
        | some a0 => simp [Value.ownBlock] at hat; exact hk.2 a0 rfl (by omega)
      · simp [Value.ownBlock] at hat; have := hk.1; omega
  have hall : ∀ x ∈ ds ++ es, x.1.rn W x.2 k ∧ x.1.lies fun i => ∀ a, A = some a → i ≠ a.block := fun x hx => by
    rcases List.mem_append.1 hx with hx | hx
    · exact ⟨h.rn x hx, h.apart x hx⟩
    · exact ⟨hr x hx, ha x hx⟩
  refine ⟨A', c', rfl, by rw [List.length_append, ← h.len], ?_, fun x hx => (keep _ _ (hall x hx).1 (hall x hx).2).1, fun x hx => (keep _ _ (hall x hx).1 (hall x hx).2).2⟩
  rw [tms_append, rowOf_append]
  exact hown
theorem OutRow.rd {base n c k : Nat} {E : Int} {A : Option Addr} {ds : List Tq} {W : World} (h : OutRow base A n c ds k W) (hn : n < 1000000) (hM : ∀ x ∈ ds, MonoE E x.1.L) : PolyRd W A n c ds k E := by
  have hform : n ≤ c ∧ (0 < n → ∃ g, A = some ⟨g, 0, none⟩) := by
    rcases h.row.2 with ⟨h', h2⟩ | ⟨g', cap', cur, h', _, _, hnc, _⟩
    · simp only [Value.slice.injEq] at h'
      obtain ⟨rfl, rfl, rfl⟩ := h'
      exact ⟨Nat.le_refl _, fun h => absurd h (by omega)⟩
    · simp only [Value.slice.injEq] at h'
      obtain ⟨rfl, _, rfl⟩ := h'
      exact ⟨hnc, fun _ => ⟨g', rfl⟩⟩
  refine ⟨h.len, hform.1, hn, fun h0 => ?_, hM, fun x hx => (h.rn x hx).loose⟩
  obtain ⟨g, rfl⟩ := hform.2 h0
  exact ⟨g, rfl, ownsRow_zero h.row⟩
theorem OutRow.nilCap {base n c k : Nat} {A : Option Addr} {ds : List Tq} {W : World} (h : OutRow base A n c ds k W) (e : A = none) : c = 0 := by
  rcases h.row.2 with ⟨h', h2⟩ | ⟨g', cap', cur, h', _, _, hnc, _⟩
  · simp only [Value.slice.injEq] at h'
    exact h'.2.2
  · simp only [Value.slice.injEq] at h'
    rw [h'.1] at e; cases e
/-- Such a row is a polynomial. -/
theorem OutRow.nf {base n c k : Nat} {E : Int} {A : Option Addr} {ds : List Tq} {W : World} (h : OutRow base A n c ds k W) (hn : n < 1000000) (hM : ∀ x ∈ ds, MonoE E x.1.L) (hN : Norml (trms ds)) : PolyNf W A n c ds k E := by
  have hform : n ≤ c ∧ (0 < n → ∃ g, A = some ⟨g, 0, none⟩) := by
    rcases h.row.2 with ⟨h', h2⟩ | ⟨g', cap', cur, h', _, _, hnc, _⟩
    · simp only [Value.slice.injEq] at h'
      obtain ⟨rfl, rfl, rfl⟩ := h'
      exact ⟨Nat.le_refl _, fun h => absurd h (by omega)⟩
    · simp only [Value.slice.injEq] at h'
      obtain ⟨rfl, _, rfl⟩ := h'
      exact ⟨hnc, fun _ => ⟨g', rfl⟩⟩
  refine ⟨⟨h.len, hform.1, hn, fun h0 => ?_, hM, fun x hx => (h.rn x hx).loose⟩, hN, h.rn⟩
  obtain ⟨g, rfl⟩ := hform.2 h0
  exact ⟨g, rfl, ownsRow_zero h.row⟩
end Go.Proofs.YtnkfmbjpbfpfkaaGreatDoor
