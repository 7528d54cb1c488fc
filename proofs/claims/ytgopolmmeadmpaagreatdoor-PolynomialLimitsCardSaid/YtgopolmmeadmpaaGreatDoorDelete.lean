/-
  slices.DeleteFunc over a row of terms, with isZero: the terms that are not zero, in their order.
-/
import Derived.Test.YtgopolmmeadmpaaGreatDoorRowFn
import Derived.Laws.IdiomCopy
namespace Go.Proofs.YtgopolmmeadmpaaGreatDoor
open Go Go.RowKit Go.WideMaps
set_option maxRecDepth 20000

/-- Values put one behind the other from a place on. -/
def sets {α : Type} (l : List α) : Nat → List α → List α
  | _, [] => l
  | o, v :: vs => sets (l.set o v) (o + 1) vs
theorem sets_length {α : Type} : ∀ (vs l : List α) (o : Nat), (sets l o vs).length = l.length
  | [], _, _ => rfl
  | v :: vs, l, o => by unfold sets; rw [sets_length vs]; exact List.length_set
theorem sets_append {α : Type} : ∀ (vs l a : List α) (o : Nat), sets (a ++ l) (a.length + o) vs = a ++ sets l o vs
  | [], _, _, _ => rfl
  | v :: vs, l, a, o => by
    unfold sets
    rw [List.set_append_right _ _ (by omega), show a.length + o - a.length = o by omega, Nat.add_assoc, sets_append vs]
theorem sets_full {α : Type} : ∀ (vs x l : List α), x.length = vs.length → sets (x ++ l) 0 vs = vs ++ l
  | [], x, l, h => by rw [List.eq_nil_of_length_eq_zero h]; rfl
  | v :: vs, [], l, h => by simp at h
  | v :: vs, y :: x, l, h => by
    have h1 := sets_append vs (x ++ l) [v] 0
    have h2 := sets_full vs x l (by simpa using h)
    show sets (v :: (x ++ l)) 1 vs = v :: (vs ++ l)
    rw [h2] at h1
    exact h1
theorem sets_far {α : Type} : ∀ (vs l : List α) (o j : Nat), j < o → (sets l o vs)[j]? = l[j]?
  | [], _, _, _, _ => rfl
  | v :: vs, l, o, j, h => by
    unfold sets
    rw [sets_far vs _ _ j (by omega), List.getElem?_set_ne (by omega)]
theorem rowOf_append (a b : List Tm) : rowOf (a ++ b) = rowOf a ++ rowOf b := by simp [rowOf]
theorem rowOf_take {us : List Tm} {i : Nat} (h8 : ∀ u ∈ us, u.L.length = 8) (hi : i ≤ us.length) : rowOf (us.take i) = (rowOf us).take (i * 11) := by
  have hl : (rowOf (us.take i)).length = i * 11 := by rw [rowOf_length fun u hu => h8 u (List.mem_of_mem_take hu), List.length_take, Nat.min_eq_left hi]
  have e := rowOf_append (us.take i) (us.drop i)
  rw [List.take_append_drop] at e
  rw [e, List.take_left' hl]
/-- A term is put into a row. -/
theorem rowOf_put {us : List Tm} {i : Nat} {t : Tm} (h8 : ∀ u ∈ us, u.L.length = 8) (ht : t.L.length = 8) (hi : i < us.length) : sets (rowOf us) (i * 11) t.cells = rowOf (us.set i t) := by
  have e : us = us.take i ++ us[i] :: us.drop (i + 1) := by rw [← List.drop_eq_getElem_cons hi, List.take_append_drop]
  have hl : (rowOf (us.take i)).length = i * 11 := by rw [rowOf_length fun u hu => h8 u (List.mem_of_mem_take hu), List.length_take, Nat.min_eq_left (by omega)]
  have hs : us.set i t = us.take i ++ t :: us.drop (i + 1) := List.set_eq_take_append_cons_drop .. |>.trans (by rw [if_pos hi])
  rw [hs]
  conv => lhs; rw [e]
  rw [rowOf_append, rowOf_append]
  have h1 : sets (rowOf (us.take i) ++ rowOf (us[i] :: us.drop (i + 1))) (i * 11) t.cells = rowOf (us.take i) ++ sets (rowOf (us[i] :: us.drop (i + 1))) 0 t.cells := by
    have h := sets_append t.cells (rowOf (us[i] :: us.drop (i + 1))) (rowOf (us.take i)) 0
    rw [hl] at h
    exact h
  rw [h1]
  congr 1
  show sets (us[i].cells ++ rowOf (us.drop (i + 1))) 0 t.cells = t.cells ++ rowOf (us.drop (i + 1))
  exact sets_full _ _ _ (by rw [Tm.length ht, Tm.length (h8 _ (List.getElem_mem hi))])
theorem Keeps.refl (p b g : Nat) (w : World) : Keeps p b g w w := ⟨rfl, rfl, rfl, Nat.le_refl _, fun _ _ _ _ _ => rfl⟩
theorem ownsRow_sets {base : Nat} {e : TypeId} {size g n cap : Nat} : ∀ {vs : List Value} {w : World} {o : Nat} {xs : List Value}, w.ownsRow base e size (.slice (some ⟨g, 0, none⟩) n cap) n xs →
    (w.setCells g o vs).ownsRow base e size (.slice (some ⟨g, 0, none⟩) n cap) n (sets xs o vs) ∧ Keeps g g g w (w.setCells g o vs)
  | [], w, o, xs, h => ⟨h, Keeps.refl ..⟩
  | v :: vs, w, o, xs, h => by
    obtain ⟨h1, h2⟩ := h.stored o v
    obtain ⟨h3, h4⟩ := ownsRow_sets (vs := vs) (o := o + 1) h1
    exact ⟨h3, (Keeps.grown h2 (.inr rfl)).trans h4⟩
/-- The first elements of a row. -/
theorem ownsRow_take {w : World} {base : Nat} {e : TypeId} {size g n m cap : Nat} {xs : List Value} (h : w.ownsRow base e size (.slice (some ⟨g, 0, none⟩) n cap) n xs) (hm : m ≤ n) :
    w.ownsRow base e size (.slice (some ⟨g, 0, none⟩) m cap) m (xs.take (m * size)) := by
  obtain ⟨h1, h2⟩ := h
  have hle : m * size ≤ n * size := Nat.mul_le_mul_right _ hm
  refine ⟨by rw [List.length_take, h1]; omega, .inr ?_⟩
  rcases h2 with ⟨h', _⟩ | ⟨g', cap', cur, h', hb, hg, hnc, hcm, hcs, ht⟩
  · simp at h'
  · simp only [Value.slice.injEq, Option.some.injEq, Addr.mk.injEq, and_true, true_and] at h'
    obtain ⟨rfl, rfl⟩ := h'
    exact ⟨g, cap, cur, rfl, hb, hg, by omega, hcm, hcs, by rw [← ht, List.take_take, Nat.min_eq_left hle]⟩
theorem ownsRow_keep {w w' : World} {base : Nat} {e : TypeId} {size g n cap : Nat} {xs : List Value} {p b h : Nat} (hr : w.ownsRow base e size (.slice (some ⟨g, 0, none⟩) n cap) n xs) (hk : Keeps p b h w w') (h1 : g ≠ p) (h2 : g ≠ b) (h3 : g ≠ h) : w'.ownsRow base e size (.slice (some ⟨g, 0, none⟩) n cap) n xs := by
  have hlt := (hr.lt g rfl).2
  obtain ⟨h0, h4⟩ := hr
  refine ⟨h0, .inr ?_⟩
  rcases h4 with ⟨h', _⟩ | ⟨g', cap', cur, h', hb, hg, hx⟩
  · simp at h'
  · simp only [Value.slice.injEq, Option.some.injEq, Addr.mk.injEq, and_true, true_and] at h'
    obtain ⟨rfl, rfl⟩ := h'
    exact ⟨g, cap, cur, rfl, hb, by rw [hk.block g hlt h1 h2 h3]; exact hg, hx⟩
theorem Tm.loose.keeps {t : Tm} {p b g : Nat} {w w' : World} {q : Rat} {k : Nat} (h : t.loose w q k) (hk : Keeps p b g w w') (hl : t.lies fun i => i ≠ p ∧ i ≠ b ∧ i ≠ g) : t.loose w' q k :=
  h.apart hk.size ((h.old.and hl).mono fun i hi => hk.block i hi.1 hi.2.1 hi.2.2.1 hi.2.2.2)

/-- The terms that are not zero. -/
def nz (cs : List Tq) : List Tq := cs.filter fun x => !decide (x.2 = 0)
theorem nz_length (cs : List Tq) : (nz cs).length ≤ cs.length := List.length_filter_le _ _
theorem nz_take_step {cs : List Tq} {j : Nat} {x : Tq} (h : cs[j]? = some x) : nz (cs.take (j + 1)) = if x.2 = 0 then nz (cs.take j) else nz (cs.take j) ++ [x] := by
  unfold nz
  rw [List.take_add_one, h, List.filter_append]
  by_cases hq : x.2 = 0
  · rw [if_pos hq]; simp [hq]
  · rw [if_neg hq]; simp [hq]
theorem zeroAt_spec : ∀ (cs : List Tq) (i : Nat), (zeroAt cs i = -1 ∧ nz cs = cs) ∨ ∃ m : Nat, m < cs.length ∧ zeroAt cs i = ((i + m : Nat) : Int) ∧ nz (cs.take m) = cs.take m ∧ nz (cs.take (m + 1)) = cs.take m
  | [], _ => .inl ⟨rfl, rfl⟩
  | x :: cs, i => by
    by_cases hq : x.2 = 0
    · refine .inr ⟨0, by simp, by simp [zeroAt, hq], rfl, by simp [nz, hq]⟩
    · rcases zeroAt_spec cs (i + 1) with ⟨h1, h2⟩ | ⟨m, h1, h2, h3, h4⟩
      · refine .inl ⟨by simp [zeroAt, hq, h1], ?_⟩
        have : nz (x :: cs) = x :: nz cs := by simp [nz, hq]
        rw [this, h2]
      · refine .inr ⟨m + 1, by simpa using h1, ?_, ?_, ?_⟩
        · simp only [zeroAt, if_neg hq, h2]; congr 1; omega
        · have : nz (x :: cs.take m) = x :: nz (cs.take m) := by simp [nz, hq]
          rw [List.take_succ_cons, this, h3]
        · have : nz (x :: cs.take (m + 1)) = x :: nz (cs.take (m + 1)) := by simp [nz, hq]
          rw [List.take_succ_cons, this, h4]
          simp

theorem termZero : ∃ zv : Value, (∀ w, (zeroValue 43).run Tryz.prog w = .ok zv w) ∧ zv.cells.size = 11 ∧ ∀ v ∈ zv.cells.toList, v.oneCell' = true :=
  ⟨.agg #[.int .i64 0, .int .i64 0, .int .i64 0, .int .i64 0, .int .i64 0, .int .i64 0, .int .i64 0, .int .i64 0, .bool false, .slice none 0 0, .slice none 0 0], fun w => by kernel_rfl, rfl, by decide⟩
theorem run_clear_terms {w : World} {base g n cap i : Nat} {xs : List Value} (h : w.ownsRow base 43 11 (.slice (some ⟨g, 0, none⟩) n cap) n xs) (hi : i < n) :
    ∃ vs, ∀ (ty : TypeId) (c : Nat), (Builtin.clear_ #[25] ty #[.slice (some ⟨g, i * 11, none⟩) (n - i) c]).run Tryz.prog w = .ok (.tuple #[]) (w.setCells g (i * 11) vs) := by
  obtain ⟨zv, hz, hs, h1⟩ := termZero
  have hlen := h.1
  refine ⟨(Builtin.zeroCells zv.cells (n - i)).toList, fun ty c => ?_⟩
  have hsz : (Builtin.zeroCells zv.cells (n - i)).toList.length = (n - i) * 11 := by simp [Builtin.zeroCells, hs]
  have hst := run_storeCells_cells (P := Tryz.prog) g (i * 11) (Builtin.zeroCells zv.cells (n - i)).toList 0 w (fun j hj => by
      rw [hsz] at hj
      have hlt : i * 11 + j < n * 11 := by omega
      rw [Nat.add_zero, h.cellAt _ hlt, List.getElem?_eq_getElem (by omega)]; rfl) (fun j _ => h.frozenAt _) (fun v hv => by
      simp only [Builtin.zeroCells, Array.toList_map, List.mem_map] at hv
      obtain ⟨k, _, rfl⟩ := hv
      have hk : k % zv.cells.size < zv.cells.size := Nat.mod_lt _ (by omega)
      rw [getElem!_pos zv.cells (k % zv.cells.size) hk]
      exact h1 _ (Array.getElem_mem_toList hk))
  rw [Nat.add_zero] at hst
  obtain ⟨m, hm⟩ : ∃ m, n - i = m + 1 := ⟨n - i - 1, by omega⟩
  rw [hm] at hst ⊢
  simp [Builtin.clear_, run_underlying Tryz.underlying25, hz, hst]

/-- The state of the loop: the row us has the terms of the first j that are not zero, then anything, then the rest. -/
structure DelAt (w wr : World) (base g n cap i j : Nat) (cs : List Tq) (us : List Tm) : Prop where
  row : wr.ownsRow base 43 11 (.slice (some ⟨g, 0, none⟩) n cap) n (rowOf us)
  len : us.length = n
  u8 : ∀ u ∈ us, u.L.length = 8
  take : us.take i = tms (nz (cs.take j))
  drop : us.drop j = tms (cs.drop j)
  lt : i < j
  le : j ≤ n
  keeps : Keeps g g g w wr
theorem DelAt.i_eq {w wr : World} {base g n cap i j : Nat} {cs : List Tq} {us : List Tm} (h : DelAt w wr base g n cap i j cs us) : i = (nz (cs.take j)).length := by
  have h1 := congrArg List.length h.take
  rw [List.length_take, tms_length, h.len] at h1
  have := h.lt
  have := h.le
  omega
theorem DelAt.skip {w wr wr' : World} {base g n cap i j : Nat} {cs : List Tq} {us : List Tm} {x : Tq} (h : DelAt w wr base g n cap i j cs us) (hx : cs[j]? = some x) (hj : j < n) (hq : x.2 = 0) (hb : Below wr.heap.size wr wr') : DelAt w wr' base g n cap i (j + 1) cs us :=
  ⟨ownsRow_below h.row hb, h.len, h.u8, by rw [h.take, nz_take_step hx, if_pos hq], by
    have := congrArg (List.drop 1) h.drop
    rw [List.drop_drop] at this
    rw [this]; unfold tms; rw [← List.map_drop, List.drop_drop], by have := h.lt; omega, hj, h.keeps.trans (Keeps.below hb)⟩
theorem DelAt.store {w wr wr' : World} {base g n cap i j : Nat} {cs : List Tq} {us : List Tm} {x : Tq} (h : DelAt w wr base g n cap i j cs us) (hx : cs[j]? = some x) (hj : j < n) (hq : x.2 ≠ 0) (h8 : x.1.L.length = 8) (hb : Below wr.heap.size wr wr') : DelAt w (wr'.setCells g (i * 11) x.1.cells) base g n cap (i + 1) (j + 1) cs (us.set i x.1) := by
  have hl := h.len
  have hlt := h.lt
  obtain ⟨h1, h2⟩ := ownsRow_sets (vs := x.1.cells) (o := i * 11) (ownsRow_below h.row hb)
  rw [rowOf_put h.u8 h8 (by omega)] at h1
  refine ⟨h1, by rw [List.length_set]; exact hl, ?_, ?_, ?_, by omega, hj, (h.keeps.trans (Keeps.below hb)).trans h2⟩
  · intro u hu
    rcases List.mem_or_eq_of_mem_set hu with hu | rfl
    · exact h.u8 u hu
    · exact h8
  · rw [nz_take_step hx, if_neg hq, tms_append, ← h.take, List.take_add_one, List.getElem?_set_self (by omega), List.take_set_of_le (Nat.le_refl _)]
    rfl
  · rw [List.drop_set_of_lt (by omega)]
    have := congrArg (List.drop 1) h.drop
    rw [List.drop_drop] at this
    rw [this]; unfold tms; rw [← List.map_drop, List.drop_drop]

set_option maxHeartbeats 8000000 in
theorem deleteZero_x {w : World} {base g cap k : Nat} {cs : List Tq} (hrow : w.ownsRow base 43 11 (.slice (some ⟨g, 0, none⟩) cs.length cap) cs.length (rowOf (tms cs))) (h8 : ∀ x ∈ cs, x.1.L.length = 8) (hc : ∀ x ∈ cs, x.1.loose w x.2 k ∧ x.1.lies fun i => i ≠ g) (k0 : 1 ≤ k) (hn : cs.length < 1000000) :
    Calls Tryz.prog 54 #[.slice (some ⟨g, 0, none⟩) cs.length cap, .func (.func 55) #[] #[]] w fun e w' => e = .returned (.slice (some ⟨g, 0, none⟩) (nz cs).length cap) ∧
      w'.ownsRow base 43 11 (.slice (some ⟨g, 0, none⟩) (nz cs).length cap) (nz cs).length (rowOf (tms (nz cs))) ∧ Keeps g g g w w' := by
  have HI := Lib.hid (indexZero_x hrow h8 (fun x hx => (hc x hx).1) k0 hn)
  have hcap : cs.length ≤ cap := by
    rcases hrow.2 with ⟨h', _⟩ | ⟨g', cap', cur, h', _, _, hnc, _⟩
    · simp at h'
    · simp only [Value.slice.injEq] at h'
      obtain ⟨_, _, rfl⟩ := h'
      exact hnc
  obtain ⟨n, hlen⟩ : ∃ n, cs.length = n := ⟨_, rfl⟩
  rw [hlen] at hrow hn hcap HI ⊢
  obtain ⟨m, hm⟩ : ∃ m, (nz cs).length = m := ⟨_, rfl⟩
  rw [hm]
  have HLEN := Lib.hid hlen
  have HROW := Lib.hid hrow
  have HC := Lib.hid hc
  have HM := Lib.hid hm
  have hspec := Lib.hid (zeroAt_spec cs 0)
  clear hrow hc hlen hm
  go_enter Tryz.func54, Tryz.ntmps54
  go_wp2_with fail
  refine HI.out.mono ?_
  rintro e w1 ⟨rfl, hb1⟩
  rcases hspec.out with ⟨hz, hall⟩ | ⟨i, hi, hz, ht, ht1⟩
  · rw [hz]
    have hmn : m = n := by rw [← HM.out, hall, HLEN.out]
    subst hmn
    clear HI hspec hz
    go_wp2
    go_ret
    refine ⟨rfl, ?_, Keeps.below hb1⟩
    rw [hall]
    exact ownsRow_below HROW.out hb1
  · rw [hz, Nat.zero_add]
    have hin : i < n := by rw [← HLEN.out]; exact hi
    have hnm1 : ((i : Int) == -1) = false := by rw [beq_eq_false_iff_ne]; omega
    have D0 : Hid (DelAt w w1 base g n cap i (i + 1) cs (tms cs)) := by
      refine ⟨ownsRow_below HROW.out hb1, by rw [tms_length, HLEN.out], fun u hu => ?_, ?_, ?_, by omega, by omega, Keeps.below hb1⟩
      · obtain ⟨x, hx, rfl⟩ := List.mem_map.1 hu
        exact h8 x hx
      · unfold tms; rw [← List.map_take, ht1]
      · unfold tms; rw [← List.map_drop]
    clear HI hspec hz ht ht1 hi
    go_wp2
    go_loopw [5, 6] (fun iv jv wr => ∃ (i j : Nat) (us : List Tm), iv = .int .i64 i ∧ jv = .int .i64 j ∧ Hid (DelAt w wr base g n cap i j cs us)) (fun _ jv _ => n - (intOf jv).toNat)
    case atStart => exact ⟨i, i + 1, _, rfl, by go_num, D0⟩
    case round =>
      clear hin hnm1 D0 hb1 w1
      obtain ⟨i, j, us, rfl, rfl, D⟩ := hrel
      have hij := D.out.lt
      have hjn := D.out.le
      have hul := D.out.len
      by_cases hlt : j < n
      · have hj2 : (j : Int) < n := by omega
        have hj3 : (0 : Int) ≤ j := by omega
        have hi2 : (i : Int) < n := by omega
        have hi3 : (0 : Int) ≤ i := by omega
        have hi4 : wrap64 ((i : Int) + 1) = i + 1 := by unfold wrap64; omega
        have hj4 : wrap64 ((j : Int) + 1) = j + 1 := by unfold wrap64; omega
        obtain ⟨x, hx⟩ : ∃ x, cs[j]? = some x := ⟨cs[j]'(by rw [HLEN.out]; exact hlt), List.getElem?_eq_getElem _⟩
        have hxm := List.mem_of_getElem? hx
        have huj : us[j]? = some x.1 := by
          have h := congrArg (fun l : List Tm => l[0]?) D.out.drop
          simp only [List.getElem?_drop, Nat.add_zero] at h
          rw [h]; unfold tms; rw [List.getElem?_map, List.getElem?_drop, Nat.add_zero, hx]; rfl
        obtain ⟨u, hu⟩ : ∃ u, us[i]? = some u := ⟨us[i]'(by omega), List.getElem?_eq_getElem _⟩
        have hl : x.1.loose wr x.2 k := (HC.out x hxm).1.keeps D.out.keeps ((HC.out x hxm).2.mono fun _ h => ⟨h, h, h⟩)
        have hx8 := h8 x hxm
        obtain ⟨y0, y1, y2, y3, y4, y5, y6, y7, hY⟩ := eight (D.out.u8 u (List.mem_of_getElem? hu))
        obtain ⟨x0, x1, x2, x3, x4, x5, x6, x7, hL⟩ := eight hx8
        have hV := Tm.val_eq hL
        obtain ⟨c0, c1, c2, c3, c4, c5, c6, c7, c8, c9, c10⟩ := row_cells D.out.row D.out.u8 hul.symm huj hL
        obtain ⟨v, hv⟩ : ∃ v, wr.alloc (.cells #[.int .i64 x0, .int .i64 x1, .int .i64 x2, .int .i64 x3, .int .i64 x4, .int .i64 x5, .int .i64 x6, .int .i64 x7, .bool x.1.s, .slice x.1.A x.1.n x.1.c, .slice x.1.B x.1.m x.1.d] 43) = v := ⟨_, rfl⟩
        have hbv : Below wr.heap.size wr v := hv ▸ (Below.refl _ wr).alloc (Nat.le_refl _) _
        have A3 := alloc_facts hv
        have HS2 : Hid (Calls Tryz.prog 55 #[.agg #[.int .i64 x0, .int .i64 x1, .int .i64 x2, .int .i64 x3, .int .i64 x4, .int .i64 x5, .int .i64 x6, .int .i64 x7, .bool x.1.s, .slice x.1.A x.1.n x.1.c, .slice x.1.B x.1.m x.1.d]] v fun e w' => e = .returned (.bool (decide (x.2 = 0))) ∧ Below v.heap.size v w') := by
          show Calls _ _ _ _ _
          rw [← hV]; exact isZero_tm hx8 (hl.below hbv) k0
        have NEWS : Hid (∀ (q : Nat) (z : Value), [Value.int .i64 x0, .int .i64 x1, .int .i64 x2, .int .i64 x3, .int .i64 x4, .int .i64 x5, .int .i64 x6, .int .i64 x7, .bool x.1.s, .slice x.1.A x.1.n x.1.c, .slice x.1.B x.1.m x.1.d][q]? = some z → v.cell? ⟨wr.heap.size, q, none⟩ = some z) := fun q z hz => by
          have := A3.2.2.1 q z hz
          have ha : (⟨wr.heap.size, 0, none⟩ : Addr).add q = ⟨wr.heap.size, q, none⟩ := by unfold Addr.add; split <;> simp_all
          rwa [ha] at this
        have hcells : Hid (x.1.cells = [Value.int .i64 x0, .int .i64 x1, .int .i64 x2, .int .i64 x3, .int .i64 x4, .int .i64 x5, .int .i64 x6, .int .i64 x7, .bool x.1.s, .slice x.1.A x.1.n x.1.c, .slice x.1.B x.1.m x.1.d]) := by
          show _ = _
          unfold Tm.cells; rw [hL]; rfl
        have hvs : Hid (v.heap.size = wr.heap.size + 1) := A3.2.2.2
        have HX := Lib.hid hx
        have HU := Lib.hid hu
        have HY := Lib.hid hY
        have HBV := Lib.hid hbv
        have HV := Lib.hid hv
        clear hV hL hx hu hY hxm huj hl hbv A3 hv
        go_wp2_with fail
        rw [HV.out]
        refine HS2.out.mono ?_
        rintro e w2 ⟨rfl, hb2⟩
        have hbw : Below wr.heap.size wr w2 := HBV.out.trans (hb2.mono (by rw [hvs.out]; omega))
        clear c0 c1 c2 c3 c4 c5 c6 c7 c8 c9 c10 HS2
        by_cases hq : x.2 = 0
        · have DN := Lib.hid (D.out.skip HX.out hlt hq hbw)
          rw [decide_eq_true hq]
          clear NEWS hcells hvs HX HU HY HBV HV hq hb2 hbw D hij hjn hul hi2 hi3 hi4
          go_wp2
          go_roundw
          case rel => exact ⟨i, j + 1, us, rfl, by go_num, DN⟩
          case measure => simp [intOf] <;> omega
        · have DN := Lib.hid (D.out.store HX.out hlt hq hx8 hbw)
          have DN2 : Hid (DelAt w (w2.setCells g (i * 11) [Value.int .i64 x0, .int .i64 x1, .int .i64 x2, .int .i64 x3, .int .i64 x4, .int .i64 x5, .int .i64 x6, .int .i64 x7, .bool x.1.s, .slice x.1.A x.1.n x.1.c, .slice x.1.B x.1.m x.1.d]) base g n cap (i + 1) (j + 1) cs (us.set i x.1)) := by
            show DelAt _ _ _ _ _ _ _ _ _ _
            rw [← hcells.out]; exact DN.out
          rw [decide_eq_false hq]
          have row2 := ownsRow_below D.out.row hbw
          have hfz := row2.frozenAt
          obtain ⟨d0, d1, d2, d3, d4, d5, d6, d7, d8, d9, d10⟩ := row_cells row2 D.out.u8 hul.symm HU.out HY.out
          have z0 := hfz (i * 11)
          have z1 := hfz (i * 11 + 1)
          have z2 := hfz (i * 11 + 2)
          have z3 := hfz (i * 11 + 3)
          have z4 := hfz (i * 11 + 4)
          have z5 := hfz (i * 11 + 5)
          have z6 := hfz (i * 11 + 6)
          have z7 := hfz (i * 11 + 7)
          have z8 := hfz (i * 11 + 8)
          have z9 := hfz (i * 11 + 9)
          have z10 := hfz (i * 11 + 10)
          have kb : ∀ (q : Nat) (z : Value), [Value.int .i64 x0, .int .i64 x1, .int .i64 x2, .int .i64 x3, .int .i64 x4, .int .i64 x5, .int .i64 x6, .int .i64 x7, .bool x.1.s, .slice x.1.A x.1.n x.1.c, .slice x.1.B x.1.m x.1.d][q]? = some z → w2.cell? ⟨wr.heap.size, q, none⟩ = some z := fun q z hz => (hb2.cell (p := ⟨wr.heap.size, q, none⟩) (by rw [hvs.out]; exact Nat.lt_succ_self _)).trans (NEWS.out q z hz)
          have b0 := kb 0 _ rfl
          have b1 := kb 1 _ rfl
          have b2 := kb 2 _ rfl
          have b3 := kb 3 _ rfl
          have b4 := kb 4 _ rfl
          have b5 := kb 5 _ rfl
          have b6 := kb 6 _ rfl
          have b7 := kb 7 _ rfl
          have b8 := kb 8 _ rfl
          have b9 := kb 9 _ rfl
          have b10 := kb 10 _ rfl
          clear kb hfz row2 NEWS hcells hvs HX HU HY HBV HV hq hb2 hbw D hij hjn hul DN
          go_wp2
          go_roundw
          case rel => exact ⟨i + 1, j + 1, us.set i x.1, by go_num, by go_num, DN2⟩
          case measure => simp [intOf] <;> omega
      · obtain rfl : j = n := by omega
        have him : i = m := by
          rw [D.out.i_eq, List.take_of_length_le (by rw [HLEN.out]; exact Nat.le_refl _)]
          exact HM.out
        subst him
        obtain ⟨vs, hcl⟩ := run_clear_terms D.out.row hij
        obtain ⟨rowS, K⟩ := ownsRow_sets (vs := vs) (o := i * 11) D.out.row
        have rowT := ownsRow_take rowS (Nat.le_of_lt hij)
        have hrl : (rowOf us).length = j * 11 := by rw [rowOf_length D.out.u8, hul]
        have hcut : (sets (rowOf us) (i * 11) vs).take (i * 11) = rowOf (tms (nz cs)) := by
          have h1 : rowOf (tms (nz cs)) = (rowOf us).take (i * 11) := by
            have h := D.out.take
            rw [List.take_of_length_le (l := cs) (by rw [HLEN.out]; exact Nat.le_refl _)] at h
            rw [← h]
            exact rowOf_take D.out.u8 (by omega)
          rw [h1]
          apply List.ext_getElem?
          intro q
          rw [List.getElem?_take, List.getElem?_take]
          by_cases hq : q < i * 11
          · rw [if_pos hq, if_pos hq, sets_far _ _ _ _ hq]
          · rw [if_neg hq, if_neg hq]
        rw [hcut] at rowT
        have KK := Lib.hid (D.out.keeps.trans K)
        have ROW := Lib.hid rowT
        have hi2 : (i : Int) ≤ j := by omega
        have hi3 : (0 : Int) ≤ i := by omega
        have hc2 : (j : Int) ≤ cap := by omega
        clear K rowS rowT hrl hcut D
        go_wp2
        go_ret
        exact ⟨rfl, ROW.out, KK.out⟩
end Go.Proofs.YtgopolmmeadmpaaGreatDoor
