/-
  sum.add of a monomial that is there already.
  slices.IndexFunc and slices.DeleteFunc over a row of terms, with isZero.
  slices.DeleteFunc over a row of terms, with isZero: the terms that are not zero, in their order.
-/
import Derived.Test.YtebbnmjmjoklmaaGreatDoorSumIs
import Derived.Deep.LoopGhost
import Derived.Laws.IdiomCopy
namespace Go.Proofs.YtebbnmjmjoklmaaGreatDoor
open Go Go.RowKit Go.WideMaps
set_option maxRecDepth 20000

theorem ownsRow_below' {w w' : World} {base : Nat} {e : TypeId} {size : Nat} {v : Value} {n : Nat} {xs : List Value} (h : w.ownsRow base e size v n xs) (hb : Below w.heap.size w w') : w'.ownsRow base e size v n xs := h.kept (row := none) ⟨hb.os, hb.tape, hb.output, hb.size, fun k hk _ => hb.block k hk⟩ (by
  cases hv : v.ownBlock with
  | none => exact .inl rfl
  | some k => exact .inr (fun e => by cases e))
theorem drewN_row {w : World} {base : Nat} {e : TypeId} {size : Nat} {v : Value} {n : Nat} {xs : List Value} (h : w.ownsRow base e size v n xs) (j : Nat) : (w.drewN j).ownsRow base e size v n xs := h
set_option maxHeartbeats 2000000 in
theorem sumAdd_old {w : World} {p b g N n cap base i k k' : Nat} {D : DataW Unit} {ts : List Tm} {t0 : Tm} {q0 q : Rat} {M : List Int} {s : Bool} {A B : Option Addr} {an ac bm bd : Nat} (hl : Laid w)
    (hp0 : w.cell? ⟨p, 0, none⟩ = some (.map (some b))) (hp1 : w.cell? ⟨p, 1, none⟩ = some (.slice (some ⟨g, 0, none⟩) n cap)) (hpf : ∀ j, w.frozen? ⟨p, j, none⟩ = false)
    (hmap : w.ownsMap Tryz.prog 45 (plainElem Tryz.prog 3) b N D) (hD : Places D (ts.map Tm.L)) (hM : Mono8 M) (hrow : w.ownsRow base 47 11 (.slice (some ⟨g, 0, none⟩) n cap) n (rowOf ts)) (hpl : p < w.heap.size) (hi : ts[i]? = some t0) (ht0 : t0.L = M) (h8 : ∀ t ∈ ts, t.L.length = 8) (hlen : n = ts.length)
    (hr0 : t0.rn w q0 k) (hr : Loose w s A an ac B bm bd q k') (k0 : 1 ≤ k) (k1 : 1 ≤ k') (hk8 : k ≤ 300000) (hk9 : k' ≤ 300000) (hgb : g ≠ b) (hpg : p ≠ g) :
    Calls Tryz.prog 61 #[.pointer (some ⟨p, 0, none⟩), monV M, .agg #[.bool s, .slice A an ac, .slice B bm bd]] w fun e w' => e = .returned (.bool false) ∧ ∃ s' A' n' c' B' m' d', w'.cell? ⟨p, 0, none⟩ = some (.map (some b)) ∧ w'.cell? ⟨p, 1, none⟩ = some (.slice (some ⟨g, 0, none⟩) n cap) ∧ (∀ j, w'.frozen? ⟨p, j, none⟩ = false) ∧
      w'.ownsMap Tryz.prog 45 (plainElem Tryz.prog 3) b N D ∧ w'.ownsRow base 47 11 (.slice (some ⟨g, 0, none⟩) n cap) n (rowOf (ts.set i (t0.with s' A' n' c' B' m' d'))) ∧
      (t0.with s' A' n' c' B' m' d').rn w' (q0 + q) (k + k' + 1) ∧ Off w.heap.size A' ∧ Off w.heap.size B' ∧ Keeps p b g w w' := by
  obtain ⟨x0, x1, x2, x3, x4, x5, x6, x7, rfl⟩ := eight hM.1
  have hkey := keyLit_eq hM
  have hz : ∀ w : World, (zeroValue 3).run Tryz.prog w = .ok (.int .i64 0) w := fun w => by rfl
  have hin : [x0, x1, x2, x3, x4, x5, x6, x7] ∈ ts.map Tm.L := List.mem_map.2 ⟨t0, List.mem_of_getElem? hi, ht0⟩
  have hiM : (ts.map Tm.L)[i]? = some [x0, x1, x2, x3, x4, x5, x6, x7] := by rw [List.getElem?_map, hi, ← ht0]; rfl
  have hat := hD.atKey _ hM i hiM
  have hilt : i < n := by
    rw [hlen]
    rcases Nat.lt_or_ge i ts.length with h | h
    · exact h
    · rw [List.getElem?_eq_none h] at hi; cases hi
  show Calls Tryz.prog 61 #[.pointer (some ⟨p, 0, none⟩), .agg #[.int .i64 x0, .int .i64 x1, .int .i64 x2, .int .i64 x3, .int .i64 x4, .int .i64 x5, .int .i64 x6, .int .i64 x7], .agg #[.bool s, .slice A an ac, .slice B bm bd]] w _
  obtain ⟨v1, hv1⟩ : ∃ v1, ((w.alloc (.cells #[.int .i64 x0, .int .i64 x1, .int .i64 x2, .int .i64 x3, .int .i64 x4, .int .i64 x5, .int .i64 x6, .int .i64 x7] 45)).alloc (.cells #[.bool s, .slice A an ac, .slice B bm bd] 42)) = v1 := ⟨_, rfl⟩
  have hb1 : Below w.heap.size w v1 := hv1 ▸ (((Below.refl _ w).alloc (Nat.le_refl _) _).alloc (by simp) _)
  have hsz : v1.heap.size = w.heap.size + 1 + 1 := by rw [← hv1]; simp
  have hc0 : v1.cell? ⟨p, 0, none⟩ = some (.map (some b)) := by rw [hb1.cell (by exact hpl)]; exact hp0
  have hc1 : v1.cell? ⟨p, 1, none⟩ = some (.slice (some ⟨g, 0, none⟩) n cap) := by rw [hb1.cell (by exact hpl)]; exact hp1
  have hM0 : v1.cell? ⟨w.heap.size, 0, none⟩ = some (.int .i64 x0) ∧ v1.cell? ⟨w.heap.size, 1, none⟩ = some (.int .i64 x1) ∧ v1.cell? ⟨w.heap.size, 2, none⟩ = some (.int .i64 x2) ∧ v1.cell? ⟨w.heap.size, 3, none⟩ = some (.int .i64 x3) ∧ v1.cell? ⟨w.heap.size, 4, none⟩ = some (.int .i64 x4) ∧ v1.cell? ⟨w.heap.size, 5, none⟩ = some (.int .i64 x5) ∧ v1.cell? ⟨w.heap.size, 6, none⟩ = some (.int .i64 x6) ∧ v1.cell? ⟨w.heap.size, 7, none⟩ = some (.int .i64 x7) := by
    rw [← hv1]; clear hb1 hsz hc0 hc1 hv1; refine ⟨?_, ?_, ?_, ?_, ?_, ?_, ?_, ?_⟩ <;> go_simp
  have hC0 : v1.cell? ⟨w.heap.size + 1, 0, none⟩ = some (.bool s) ∧ v1.cell? ⟨w.heap.size + 1, 1, none⟩ = some (.slice A an ac) ∧ v1.cell? ⟨w.heap.size + 1, 2, none⟩ = some (.slice B bm bd) := by
    rw [← hv1]; clear hM0 hb1 hsz hc0 hc1 hv1; refine ⟨?_, ?_, ?_⟩ <;> go_simp
  have hmap1 : v1.ownsMap Tryz.prog 45 (plainElem Tryz.prog 3) b N D := hv1 ▸ ((hmap.alloc _).alloc _)
  have hrow1 : v1.ownsRow base 47 11 (.slice (some ⟨g, 0, none⟩) n cap) n (rowOf ts) := hv1 ▸ ((hrow.alloc _).alloc _)
  obtain ⟨n0, n1, n2⟩ := hC0
  obtain ⟨m0, m1, m2, m3, m4, m5, m6, m7⟩ := hM0
  obtain ⟨vv, ps, hlook, hv⟩ := hmap1.drew.look_ok monoKeyed Tryz.underlying77 (hz v1.drew) (plainElem_int Tryz.underlying3 (by decide)) hkey
  obtain ⟨cc, rfl, hcc, hwc⟩ := plainElem_int_inv Tryz.underlying3 hv
  have hlook' : (Instr.lookup 77 (.map (some b)) (.agg #[.int .i64 x0, .int .i64 x1, .int .i64 x2, .int .i64 x3, .int .i64 x4, .int .i64 x5, .int .i64 x6, .int .i64 x7]) true).run Tryz.prog v1.drew = .ok (.tuple #[.int .i64 cc, .bool (Maps.has D (keyLit [x0, x1, x2, x3, x4, x5, x6, x7]))]) v1.drew := hlook
  have hci : cc = (i : Int) := by
    have h0 := congrArg Prod.fst hcc
    simp only at h0
    rw [h0] at hat
    injection hat with h1
    injection h1
  subst hci
  rw [hD.has _ hM, decide_eq_true hin] at hlook'
  clear hlook hv hcc
  have hcoefs := Tm.coefs (t := t0) (h8 t0 (List.mem_of_getElem? hi))
  have hrl := rowOf_length h8
  have r0 : v1.cell? ⟨g, i * 11 + 8, none⟩ = some (.bool t0.s) := by rw [hrow1.cellAt _ (by omega), rowOf_get h8 hi 8 (by omega)]; exact hcoefs.1
  have r1 : v1.cell? ⟨g, i * 11 + 9, none⟩ = some (.slice t0.A t0.n t0.c) := by rw [hrow1.cellAt _ (by omega), rowOf_get h8 hi 9 (by omega)]; exact hcoefs.2.1
  have r2 : v1.cell? ⟨g, i * 11 + 10, none⟩ = some (.slice t0.B t0.m t0.d) := by rw [hrow1.cellAt _ (by omega), rowOf_get h8 hi 10 (by omega)]; exact hcoefs.2.2
  have SC : Hid (∀ j, Calls Tryz.prog 81 #[.agg #[.bool t0.s, .slice t0.A t0.n t0.c, .slice t0.B t0.m t0.d], .agg #[.bool s, .slice A an ac, .slice B bm bd]] (v1.drewN j) (GivesR (v1.drewN j) (q0 + q) (k + k' + 1))) := fun j =>
    have hb : Below w.heap.size w (v1.drewN j) := drewN_below hb1 j
    add_r (hl.below hb) (Tm.rn.loose (Tm.rn.below hr0 hb)) (hr.below hb) k0 k1 hk8 hk9
  have hgl : g < w.heap.size := (hrow.lt g rfl).2
  have hgl2 : g < (v1.drewN 2).heap.size := by show g < v1.heap.size; omega
  have HV := Lib.hid hv1
  clear hv1 hcoefs hrl
  go_enter Tryz.func61, Tryz.ntmps61
  go_wp2_with fail
  have hv1 := HV.out
  rw [hv1]
  go_region
  go_wp2_with fail
  go_region_with (go_at_call 81; refine (SC.out 2).mono ?_; rintro e w' ⟨s', A', n', c', B', m', d', rfl, hr', oA, oB, hb'⟩; have rw' := ownsRow_below' (drewN_row hrow1 2) hb'; have f0 := rw'.frozenAt (i * 11 + 8); have f1 := rw'.frozenAt (i * 11 + 9); have f2 := rw'.frozenAt (i * 11 + 10); have e0 := (hb'.cell (p := ⟨g, i * 11 + 8, none⟩) hgl2).trans r0; have e1 := (hb'.cell (p := ⟨g, i * 11 + 9, none⟩) hgl2).trans r1; have e2 := (hb'.cell (p := ⟨g, i * 11 + 10, none⟩) hgl2).trans r2)
  all_goals
    go_wp2
    obtain ⟨u0, v0⟩ := rw'.stored (i * 11 + 8) (.bool s')
    obtain ⟨u1, v1'⟩ := u0.stored (i * 11 + 9) (.slice A' n' c')
    obtain ⟨u2, v2⟩ := u1.stored (i * 11 + 10) (.slice B' m' d')
    rw [rowOf_set h8 hi] at u2
    have hbw : Below w.heap.size w w' := (drewN_below hb1 2).trans (hb'.mono (by show w.heap.size ≤ v1.heap.size; omega))
    have hbs : w.heap.size ≤ (v1.drewN 2).heap.size := by show w.heap.size ≤ v1.heap.size; omega
    have K0 : Keeps g g g w' _ := ((Keeps.grown v0 (.inr rfl)).trans (Keeps.grown v1' (.inr rfl))).trans (Keeps.grown v2 (.inr rfl))
    have K1 : Keeps g g g w _ := (Keeps.below hbw).trans K0
    have K4 : Keeps p b g w _ := (Keeps.below hbw).trans (((Keeps.grown v0 (.inr rfl)).trans (Keeps.grown v1' (.inr rfl))).trans (Keeps.grown v2 (.inr rfl)))
    have hne : ∀ k : Nat, (v1.drewN 2).heap.size ≤ k → k ≠ g := fun k hk e => by rw [e] at hk; omega
    have hrn : Tm.rn (t0.with s' A' n' c' B' m' d') _ (q0 + q) (k + k' + 1) := Tm.rn.apart (t := t0.with s' A' n' c' B' m' d') (w := w') hr' K0.size
      ⟨fun hn a ha => K0.block a.block (hr'.2.1.old hn a ha) (hne _ (oA a ha)) (hne _ (oA a ha)) (hne _ (oA a ha)), fun hn a ha => K0.block a.block (hr'.2.2.1.old hn a ha) (hne _ (oB a ha)) (hne _ (oB a ha)) (hne _ (oB a ha))⟩
    refine bodyPost_ret (v := .bool false) (by simp [results, Tryz.results61, go_sem]) rfl ⟨rfl, s', A', n', c', B', m', d', ?_, ?_, ?_, ?_, u2, hrn, oA.mono hbs, oB.mono hbs, K4⟩
    · exact (World.cell?_of_block (K1.block p hpl hpg hpg hpg)).trans hp0
    · exact (World.cell?_of_block (K1.block p hpl hpg hpg hpg)).trans hp1
    · exact fun j => (World.frozen?_of_block (K1.block p hpl hpg hpg hpg)).trans (hpf j)
    · exact hmap.kept (row := some g) ⟨K1.os, K1.tape, K1.output, K1.size, fun k hk hk' => K1.block k hk (fun e => hk' (by rw [e])) (fun e => hk' (by rw [e])) (fun e => hk' (by rw [e]))⟩ (fun e => hgb (by injection e with e; exact e.symm))

theorem mem_set {cs : List Tq} {i : Nat} {x y : Tq} (h : x ∈ cs.set i y) : x ∈ cs ∨ x = y := by
  rcases List.mem_or_eq_of_mem_set h with h | h
  · exact .inl h
  · exact .inr h
/-- A term is added to a monomial that is there. -/
theorem SumAt.old {w : World} {base p b g cap k k' i : Nat} {E : Int} {D : DataW Unit} {cs : List Tq} {t : Tm} {q : Rat} {x : Tq} (hl : Laid w) (h : SumAt w base p b g cap D cs k E) (hE : E ≤ 1000000000) (hi : cs[i]? = some x) (hx : x.1.L = t.L) (hr : t.loose w q k') (k0 : 1 ≤ k) (k1 : 1 ≤ k') (hk8 : k ≤ 300000) (hk9 : k' ≤ 300000) :
    Calls Tryz.prog 61 #[.pointer (some ⟨p, 0, none⟩), monV t.L, .agg #[.bool t.s, .slice t.A t.n t.c, .slice t.B t.m t.d]] w fun e w' => e = .returned (.bool false) ∧ Keeps p b g w w' ∧
      ∃ y : Tm, y.L = x.1.L ∧ SumAt w' base p b g cap D (cs.set i (y, x.2 + q)) (k + k' + 1) E := by
  have hw : base ≤ w.heap.size := by have := h.basep; have := h.lt; omega
  have hxm := List.mem_of_getElem? hi
  have hti : (tms cs)[i]? = some x.1 := by unfold tms; rw [List.getElem?_map, hi]; rfl
  have h8 : ∀ t ∈ tms cs, t.L.length = 8 := fun t ht => by
    obtain ⟨y, hy, rfl⟩ := List.mem_map.1 ht
    exact (h.mono y hy).1
  refine (sumAdd_old hl h.cell0 h.cell1 h.free h.map (by rw [mons_tms]; exact h.places) (hx ▸ (h.mono x hxm).mono8 hE) h.row h.lt hti hx h8 (by rw [tms_length]) (h.coef x hxm).1 hr k0 k1 hk8 hk9 h.gb h.pg).mono ?_
  rintro e w' ⟨rfl, s', A', n', c', B', m', d', c0, c1, fr, mp, rw', hrn, oA, oB, K⟩
  refine ⟨rfl, K, x.1.with s' A' n' c' B' m' d', rfl, ?_⟩
  have hlen : (cs.set i (x.1.with s' A' n' c' B' m' d', x.2 + q)).length = cs.length := List.length_set
  have hmons : mons (cs.set i (x.1.with s' A' n' c' B' m' d', x.2 + q)) = mons cs := mons_set hi rfl
  refine ⟨c0, by rw [hlen]; exact c1, fr, by rw [hlen]; exact mp, by rw [hmons]; exact h.places, ?_, ?_, by rw [hmons]; exact h.nodup, ?_, Nat.lt_of_lt_of_le h.lt K.size, h.pb, h.gb, h.pg, h.basep, h.baseb, h.baseg⟩
  · rw [hlen, tms_set]; exact rw'
  · intro y hy
    rcases mem_set hy with hy | rfl
    · exact h.mono y hy
    · exact h.mono x hxm
  · intro y hy
    rcases mem_set hy with hy | rfl
    · have hy' := h.coef y hy
      exact ⟨(hy'.1.keeps K hy'.2).mono (by omega), hy'.2⟩
    · refine ⟨hrn, (Off.lies (t := x.1.with s' A' n' c' B' m' d') oA oB).mono fun j hj => ?_⟩
      have := h.lt
      have := h.map.lt
      have := (h.row.lt g rfl).2
      omega
/-- A term is added: the sum denotes what it denoted, and the term besides; what was laid since w0 is as it was. -/
theorem SumIs.add {w0 w : World} {base p k k' : Nat} {E : Int} {cs : List Tq} {t : Tm} {q : Rat} (hl : Laid w) (h : SumIs w0 base p cs k E) (hb : Below w0.heap.size w0 w) (hE : E ≤ 1000000000) (hM : MonoE E t.L) (hr : t.rn w q k') (ht : t.lies (w0.heap.size ≤ ·) ∨ t.lies fun i => i < base) (k0 : 1 ≤ k) (k1 : 1 ≤ k') (hk8 : k ≤ 300000) (hk9 : k' ≤ 300000) (hn : cs.length < 1000000) :
    Calls Tryz.prog 61 #[.pointer (some ⟨p, 0, none⟩), monV t.L, .agg #[.bool t.s, .slice t.A t.n t.c, .slice t.B t.m t.d]] w fun e w' => ∃ v, e = .returned (.bool v) ∧ Below base w w' ∧ (∀ i, w0.heap.size ≤ i → i < w.heap.size → w'.heap[i]? = w.heap[i]?) ∧
      ∃ cs', SumIs w' base p cs' (k + k' + 1) E ∧ Eqv (trms cs') (trms cs ++ [(t.L, q)]) ∧ cs'.length ≤ cs.length + 1 := by
  obtain ⟨b, g, cap, D, h⟩ := h
  have hpl := h.lt
  have hbl := h.map.lt
  have hgl := (h.row.lt g rfl).2
  have hp := h.basep
  have hb' := h.baseb
  have hg := h.baseg
  replace h := h.below hb
  have hsz := hb.size
  have hw : base ≤ w.heap.size := by omega
  by_cases hin : t.L ∈ mons cs
  · obtain ⟨i, hi⟩ := List.mem_iff_getElem?.mp hin
    unfold mons at hi
    rw [List.getElem?_map] at hi
    obtain ⟨x, hx, hxL⟩ := Option.map_eq_some_iff.1 hi
    refine (h.old hl hE hx hxL hr.loose k0 k1 hk8 hk9).mono ?_
    rintro e w' ⟨rfl, K, y, hy, hs⟩
    refine ⟨_, rfl, K.below_base hp hb' hg hw, fun i h1 h2 => K.block i h2 (by omega) (by omega) (by omega), _, ⟨b, g, cap, D, hs⟩, fun f => ?_, by rw [List.length_set]; omega⟩
    have := lin_set hx (y := (y, x.2 + q)) hy q rfl f
    rw [hxL] at this
    exact this
  · have hm : SumAt w base p b g cap D cs (k + k' + 1) E := { h with coef := fun x hx => ⟨(h.coef x hx).1.mono (by omega), (h.coef x hx).2⟩ }
    refine (hm.new hE hM hin (hr.mono (by omega)) ?_ hn).mono ?_
    · rcases ht with ht | ht
      · exact ht.mono fun i hi => by omega
      · exact ht.mono fun i hi => by omega
    rintro e w' ⟨rfl, K, g', cap', _, hs⟩
    refine ⟨_, rfl, K.below_base hp hb' hg hw, fun i h1 h2 => K.block i h2 (by omega) (by omega) (by omega), _, ⟨b, g', cap', _, hs⟩, fun f => by rw [trms_append]; rfl, by rw [List.length_append]; simp⟩
end Go.Proofs.YtebbnmjmjoklmaaGreatDoor

namespace Go.Proofs.YtebbnmjmjoklmaaGreatDoor
open Go Go.RowKit Go.WideMaps
set_option maxRecDepth 20000

theorem Below.grew {w w' : World} (hb : Below w.heap.size w w') : w.grownBy w' none := ⟨hb.os, hb.tape, hb.output, hb.size, fun k hk _ => hb.block k hk⟩
theorem ownsRow_below {w w' : World} {base : Nat} {e : TypeId} {size : Nat} {v : Value} {n : Nat} {xs : List Value} (h : w.ownsRow base e size v n xs) (hb : Below w.heap.size w w') : w'.ownsRow base e size v n xs := h.kept (Below.grew hb) (by
  cases hv : v.ownBlock with
  | none => exact .inl rfl
  | some k => exact .inr (by simp))
/-- The cells of a term of a row. -/
theorem row_cells {w : World} {base g n cap i : Nat} {ts : List Tm} {t : Tm} {x0 x1 x2 x3 x4 x5 x6 x7 : Int} (h : w.ownsRow base 47 11 (.slice (some ⟨g, 0, none⟩) n cap) n (rowOf ts)) (h8 : ∀ t ∈ ts, t.L.length = 8) (hn : n = ts.length) (hi : ts[i]? = some t) (hL : t.L = [x0, x1, x2, x3, x4, x5, x6, x7]) :
    w.cell? ⟨g, i * 11, none⟩ = some (.int .i64 x0) ∧ w.cell? ⟨g, i * 11 + 1, none⟩ = some (.int .i64 x1) ∧ w.cell? ⟨g, i * 11 + 2, none⟩ = some (.int .i64 x2) ∧ w.cell? ⟨g, i * 11 + 3, none⟩ = some (.int .i64 x3) ∧ w.cell? ⟨g, i * 11 + 4, none⟩ = some (.int .i64 x4) ∧ w.cell? ⟨g, i * 11 + 5, none⟩ = some (.int .i64 x5) ∧ w.cell? ⟨g, i * 11 + 6, none⟩ = some (.int .i64 x6) ∧ w.cell? ⟨g, i * 11 + 7, none⟩ = some (.int .i64 x7) ∧ w.cell? ⟨g, i * 11 + 8, none⟩ = some (.bool t.s) ∧ w.cell? ⟨g, i * 11 + 9, none⟩ = some (.slice t.A t.n t.c) ∧ w.cell? ⟨g, i * 11 + 10, none⟩ = some (.slice t.B t.m t.d) := by
  have hlt : i < n := by
    rw [hn]
    rcases Nat.lt_or_ge i ts.length with h | h
    · exact h
    · rw [List.getElem?_eq_none h] at hi; cases hi
  have key : ∀ j, j < 11 → w.cell? ⟨g, i * 11 + j, none⟩ = t.cells[j]? := fun j hj => by rw [h.cellAt _ (by omega), rowOf_get h8 hi j hj]
  have hc : t.cells = [.int .i64 x0, .int .i64 x1, .int .i64 x2, .int .i64 x3, .int .i64 x4, .int .i64 x5, .int .i64 x6, .int .i64 x7, .bool t.s, .slice t.A t.n t.c, .slice t.B t.m t.d] := by unfold Tm.cells; rw [hL]; rfl
  rw [hc] at key
  exact ⟨key 0 (by decide), key 1 (by decide), key 2 (by decide), key 3 (by decide), key 4 (by decide), key 5 (by decide), key 6 (by decide), key 7 (by decide), key 8 (by decide), key 9 (by decide), key 10 (by decide)⟩
/-- The first place from i on at which the coefficient is zero, or -1. -/
def zeroAt : List Tq → Nat → Int
  | [], _ => -1
  | x :: cs, i => if x.2 = 0 then (i : Int) else zeroAt cs (i + 1)
theorem zeroAt_step {cs : List Tq} {i : Nat} {x : Tq} (h : cs[i]? = some x) : zeroAt (cs.drop i) i = if x.2 = 0 then (i : Int) else zeroAt (cs.drop (i + 1)) (i + 1) := by
  have hlt : i < cs.length := by
    rcases Nat.lt_or_ge i cs.length with h' | h'
    · exact h'
    · rw [List.getElem?_eq_none h'] at h; cases h
  rw [List.drop_eq_getElem_cons hlt]
  rw [List.getElem?_eq_getElem hlt] at h
  injection h with h
  rw [h]; rfl
theorem Tm.val_eq {t : Tm} {x0 x1 x2 x3 x4 x5 x6 x7 : Int} (hL : t.L = [x0, x1, x2, x3, x4, x5, x6, x7]) : t.val = .agg #[.int .i64 x0, .int .i64 x1, .int .i64 x2, .int .i64 x3, .int .i64 x4, .int .i64 x5, .int .i64 x6, .int .i64 x7, .bool t.s, .slice t.A t.n t.c, .slice t.B t.m t.d] := by
  unfold Tm.val; rw [hL]; rfl
theorem isZero_tm {t : Tm} {k : Nat} {q : Rat} {w : World} (h8 : t.L.length = 8) (h : t.loose w q k) (k0 : 1 ≤ k) :
    Calls Tryz.prog 63 #[t.val] w fun e w' => e = .returned (.bool (decide (q = 0))) ∧ Below w.heap.size w w' := isZero_t h8 w h k0

set_option maxHeartbeats 4000000 in
theorem indexZero_x {w : World} {base g cap k : Nat} {cs : List Tq} (hrow : w.ownsRow base 47 11 (.slice (some ⟨g, 0, none⟩) cs.length cap) cs.length (rowOf (tms cs))) (h8 : ∀ x ∈ cs, x.1.L.length = 8) (hc : ∀ x ∈ cs, x.1.loose w x.2 k) (k0 : 1 ≤ k) (hn : cs.length < 1000000) :
    Calls Tryz.prog 82 #[.slice (some ⟨g, 0, none⟩) cs.length cap, .func (.func 63) #[] #[]] w fun e w' => e = .returned (.int .i64 (zeroAt cs 0)) ∧ Below w.heap.size w w' := by
  obtain ⟨R, hR⟩ : ∃ R, zeroAt cs 0 = R := ⟨_, rfl⟩
  obtain ⟨n, hlen⟩ : ∃ n, cs.length = n := ⟨_, rfl⟩
  rw [hlen] at hrow hn ⊢
  rw [hR]
  have HR : Hid (zeroAt (cs.drop 0) 0 = R) := hR
  have h8' : ∀ t ∈ tms cs, t.L.length = 8 := fun t ht => by
    obtain ⟨x, hx, rfl⟩ := List.mem_map.1 ht
    exact h8 x hx
  have H8 := Lib.hid h8'
  have HLEN := Lib.hid hlen
  have HROW := Lib.hid hrow
  have HC := Lib.hid hc
  clear hR hrow hc hlen h8'
  go_enter Tryz.func82, Tryz.ntmps82
  go_wp2
  go_loopw [8] (fun iv wr => ∃ i : Nat, i ≤ n ∧ iv = .int .i64 i ∧ Below w.heap.size w wr ∧ Hid (zeroAt (cs.drop i) i = R)) (fun iv _ => n - (intOf iv).toNat)
  case atStart => exact ⟨0, Nat.zero_le _, rfl, Below.refl _ _, HR⟩
  case round =>
    obtain ⟨i, hi, rfl, hb, hI⟩ := hrel
    by_cases hlt : i < n
    · have hi2 : (i : Int) < n := by omega
      have hi3 : (0 : Int) ≤ i := by omega
      obtain ⟨x, hx⟩ : ∃ x, cs[i]? = some x := ⟨cs[i]'(by rw [HLEN.out]; exact hlt), List.getElem?_eq_getElem _⟩
      have hxm := List.mem_of_getElem? hx
      have hz := zeroAt_step hx
      rw [hI.out] at hz
      have hl := (HC.out x hxm).below hb
      have hx8 := h8 x hxm
      have hxt : (tms cs)[i]? = some x.1 := by unfold tms; rw [List.getElem?_map, hx]; rfl
      have HS := Lib.hid (isZero_tm hx8 hl k0)
      obtain ⟨x0, x1, x2, x3, x4, x5, x6, x7, hL⟩ := eight hx8
      have HV := Tm.val_eq hL
      obtain ⟨c0, c1, c2, c3, c4, c5, c6, c7, c8, c9, c10⟩ := row_cells (ownsRow_below HROW.out hb) H8.out (by rw [tms_length, HLEN.out]) hxt hL
      have HS2 : Hid (Calls Tryz.prog 63 #[.agg #[.int .i64 x0, .int .i64 x1, .int .i64 x2, .int .i64 x3, .int .i64 x4, .int .i64 x5, .int .i64 x6, .int .i64 x7, .bool x.1.s, .slice x.1.A x.1.n x.1.c, .slice x.1.B x.1.m x.1.d]] wr fun e w' => e = .returned (.bool (decide (x.2 = 0))) ∧ Below wr.heap.size wr w') := by
        show Calls _ _ _ _ _
        rw [← HV]; exact HS.out
      have HZ := Lib.hid hz
      clear hz hl hx8 hxt hxm hx HV hL HS hI
      go_wp2_with fail
      refine HS2.out.mono ?_
      rintro e w' ⟨rfl, hb'⟩
      have hb2 := nextB hb hb'
      clear c0 c1 c2 c3 c4 c5 c6 c7 c8 c9 c10 HS2
      by_cases hq : x.2 = 0
      · have hf : R = i := by have := HZ.out; rw [if_pos hq] at this; exact this
        subst hf
        rw [decide_eq_true hq]
        clear HZ hq
        go_wp2
        go_ret
        exact ⟨rfl, hb2⟩
      · have hnext : Hid (zeroAt (cs.drop (i + 1)) (i + 1) = R) := by
          show _ = _
          have := HZ.out
          rw [if_neg hq] at this
          exact this.symm
        rw [decide_eq_false hq]
        clear HZ hq
        go_wp2
        go_roundw
        case rel => exact ⟨i + 1, by omega, by go_num, hb2, hnext⟩
        case measure => simp [intOf] <;> omega
    · obtain rfl : i = n := by omega
      have hf : R = -1 := by
        have := hI.out
        rw [List.drop_of_length_le (by rw [HLEN.out]; exact Nat.le_refl _)] at this
        exact this.symm
      subst hf
      clear hI hlt hi
      go_wp2
      go_ret
      exact ⟨rfl, hb⟩
end Go.Proofs.YtebbnmjmjoklmaaGreatDoor

namespace Go.Proofs.YtebbnmjmjoklmaaGreatDoor
open Go Go.RowKit Go.WideMaps
set_option maxRecDepth 20000

/-- Values put one behind the other from a place on. -/
def sets {α : Type} (l : List α) : Nat → List α → List α
  | _, [] => l
  | o, v :: vs => sets (l.set o v) (o + 1) vs
theorem sets_length {α : Type} : ∀ (vs l : List α) (o : Nat), (sets l o vs).length = l.length
  | [], _, _ => rfl
  | v :: vs, l, o => by unfold sets; rw [sets_length vs]; exact List.length_set
theorem sets_append {α : Type} : ∀ (vs l a : List α) (o : Nat), sets (a ++ l) (a.length + o) vs = a ++ sets l o vs
  | [], _, _, _ => rfl
  | v :: vs, l, a, o => by
    unfold sets
    rw [List.set_append_right _ _ (by omega), show a.length + o - a.length = o by omega, Nat.add_assoc, sets_append vs]
theorem sets_full {α : Type} : ∀ (vs x l : List α), x.length = vs.length → sets (x ++ l) 0 vs = vs ++ l
  | [], x, l, h => by rw [List.eq_nil_of_length_eq_zero h]; rfl
  | v :: vs, [], l, h => by simp at h
  | v :: vs, y :: x, l, h => by
    have h1 := sets_append vs (x ++ l) [v] 0
    have h2 := sets_full vs x l (by simpa using h)
    show sets (v :: (x ++ l)) 1 vs = v :: (vs ++ l)
    rw [h2] at h1
    exact h1
theorem sets_far {α : Type} : ∀ (vs l : List α) (o j : Nat), j < o → (sets l o vs)[j]? = l[j]?
  | [], _, _, _, _ => rfl
  | v :: vs, l, o, j, h => by
    unfold sets
    rw [sets_far vs _ _ j (by omega), List.getElem?_set_ne (by omega)]
theorem rowOf_append (a b : List Tm) : rowOf (a ++ b) = rowOf a ++ rowOf b := by simp [rowOf]
theorem rowOf_take {us : List Tm} {i : Nat} (h8 : ∀ u ∈ us, u.L.length = 8) (hi : i ≤ us.length) : rowOf (us.take i) = (rowOf us).take (i * 11) := by
  have hl : (rowOf (us.take i)).length = i * 11 := by rw [rowOf_length fun u hu => h8 u (List.mem_of_mem_take hu), List.length_take, Nat.min_eq_left hi]
  have e := rowOf_append (us.take i) (us.drop i)
  rw [List.take_append_drop] at e
  rw [e, List.take_left' hl]
/-- A term is put into a row. -/
theorem rowOf_put {us : List Tm} {i : Nat} {t : Tm} (h8 : ∀ u ∈ us, u.L.length = 8) (ht : t.L.length = 8) (hi : i < us.length) : sets (rowOf us) (i * 11) t.cells = rowOf (us.set i t) := by
  have e : us = us.take i ++ us[i] :: us.drop (i + 1) := by rw [← List.drop_eq_getElem_cons hi, List.take_append_drop]
  have hl : (rowOf (us.take i)).length = i * 11 := by rw [rowOf_length fun u hu => h8 u (List.mem_of_mem_take hu), List.length_take, Nat.min_eq_left (by omega)]
  have hs : us.set i t = us.take i ++ t :: us.drop (i + 1) := List.set_eq_take_append_cons_drop .. |>.trans (by rw [if_pos hi])
  rw [hs]
  conv => lhs; rw [e]
  rw [rowOf_append, rowOf_append]
  have h1 : sets (rowOf (us.take i) ++ rowOf (us[i] :: us.drop (i + 1))) (i * 11) t.cells = rowOf (us.take i) ++ sets (rowOf (us[i] :: us.drop (i + 1))) 0 t.cells := by
    have h := sets_append t.cells (rowOf (us[i] :: us.drop (i + 1))) (rowOf (us.take i)) 0
    rw [hl] at h
    exact h
  rw [h1]
  congr 1
  show sets (us[i].cells ++ rowOf (us.drop (i + 1))) 0 t.cells = t.cells ++ rowOf (us.drop (i + 1))
  exact sets_full _ _ _ (by rw [Tm.length ht, Tm.length (h8 _ (List.getElem_mem hi))])
theorem Keeps.refl (p b g : Nat) (w : World) : Keeps p b g w w := ⟨rfl, rfl, rfl, Nat.le_refl _, fun _ _ _ _ _ => rfl⟩
theorem ownsRow_sets {base : Nat} {e : TypeId} {size g n cap : Nat} : ∀ {vs : List Value} {w : World} {o : Nat} {xs : List Value}, w.ownsRow base e size (.slice (some ⟨g, 0, none⟩) n cap) n xs →
    (w.setCells g o vs).ownsRow base e size (.slice (some ⟨g, 0, none⟩) n cap) n (sets xs o vs) ∧ Keeps g g g w (w.setCells g o vs)
  | [], w, o, xs, h => ⟨h, Keeps.refl ..⟩
  | v :: vs, w, o, xs, h => by
    obtain ⟨h1, h2⟩ := h.stored o v
    obtain ⟨h3, h4⟩ := ownsRow_sets (vs := vs) (o := o + 1) h1
    exact ⟨h3, (Keeps.grown h2 (.inr rfl)).trans h4⟩
/-- The first elements of a row. -/
theorem ownsRow_take {w : World} {base : Nat} {e : TypeId} {size g n m cap : Nat} {xs : List Value} (h : w.ownsRow base e size (.slice (some ⟨g, 0, none⟩) n cap) n xs) (hm : m ≤ n) :
    w.ownsRow base e size (.slice (some ⟨g, 0, none⟩) m cap) m (xs.take (m * size)) := by
  obtain ⟨h1, h2⟩ := h
  have hle : m * size ≤ n * size := Nat.mul_le_mul_right _ hm
  refine ⟨by rw [List.length_take, h1]; omega, .inr ?_⟩
  rcases h2 with ⟨h', _⟩ | ⟨g', cap', cur, h', hb, hg, hnc, hcm, hcs, ht⟩
  · simp at h'
  · simp only [Value.slice.injEq, Option.some.injEq, Addr.mk.injEq, and_true, true_and] at h'
    obtain ⟨rfl, rfl⟩ := h'
    exact ⟨g, cap, cur, rfl, hb, hg, by omega, hcm, hcs, by rw [← ht, List.take_take, Nat.min_eq_left hle]⟩
theorem ownsRow_keep {w w' : World} {base : Nat} {e : TypeId} {size g n cap : Nat} {xs : List Value} {p b h : Nat} (hr : w.ownsRow base e size (.slice (some ⟨g, 0, none⟩) n cap) n xs) (hk : Keeps p b h w w') (h1 : g ≠ p) (h2 : g ≠ b) (h3 : g ≠ h) : w'.ownsRow base e size (.slice (some ⟨g, 0, none⟩) n cap) n xs := by
  have hlt := (hr.lt g rfl).2
  obtain ⟨h0, h4⟩ := hr
  refine ⟨h0, .inr ?_⟩
  rcases h4 with ⟨h', _⟩ | ⟨g', cap', cur, h', hb, hg, hx⟩
  · simp at h'
  · simp only [Value.slice.injEq, Option.some.injEq, Addr.mk.injEq, and_true, true_and] at h'
    obtain ⟨rfl, rfl⟩ := h'
    exact ⟨g, cap, cur, rfl, hb, by rw [hk.block g hlt h1 h2 h3]; exact hg, hx⟩
theorem Tm.loose.keeps {t : Tm} {p b g : Nat} {w w' : World} {q : Rat} {k : Nat} (h : t.loose w q k) (hk : Keeps p b g w w') (hl : t.lies fun i => i ≠ p ∧ i ≠ b ∧ i ≠ g) : t.loose w' q k :=
  h.apart hk.size ((h.old.and hl).mono fun i hi => hk.block i hi.1 hi.2.1 hi.2.2.1 hi.2.2.2)

/-- The terms that are not zero. -/
def nz (cs : List Tq) : List Tq := cs.filter fun x => !decide (x.2 = 0)
theorem nz_length (cs : List Tq) : (nz cs).length ≤ cs.length := List.length_filter_le _ _
theorem nz_take_step {cs : List Tq} {j : Nat} {x : Tq} (h : cs[j]? = some x) : nz (cs.take (j + 1)) = if x.2 = 0 then nz (cs.take j) else nz (cs.take j) ++ [x] := by
  unfold nz
  rw [List.take_add_one, h, List.filter_append]
  by_cases hq : x.2 = 0
  · rw [if_pos hq]; simp [hq]
  · rw [if_neg hq]; simp [hq]
theorem zeroAt_spec : ∀ (cs : List Tq) (i : Nat), (zeroAt cs i = -1 ∧ nz cs = cs) ∨ ∃ m : Nat, m < cs.length ∧ zeroAt cs i = ((i + m : Nat) : Int) ∧ nz (cs.take m) = cs.take m ∧ nz (cs.take (m + 1)) = cs.take m
  | [], _ => .inl ⟨rfl, rfl⟩
  | x :: cs, i => by
    by_cases hq : x.2 = 0
    · refine .inr ⟨0, by simp, by simp [zeroAt, hq], rfl, by simp [nz, hq]⟩
    · rcases zeroAt_spec cs (i + 1) with ⟨h1, h2⟩ | ⟨m, h1, h2, h3, h4⟩
      · refine .inl ⟨by simp [zeroAt, hq, h1], ?_⟩
        have : nz (x :: cs) = x :: nz cs := by simp [nz, hq]
        rw [this, h2]
      · refine .inr ⟨m + 1, by simpa using h1, ?_, ?_, ?_⟩
        · simp only [zeroAt, if_neg hq, h2]; congr 1; omega
        · have : nz (x :: cs.take m) = x :: nz (cs.take m) := by simp [nz, hq]
          rw [List.take_succ_cons, this, h3]
        · have : nz (x :: cs.take (m + 1)) = x :: nz (cs.take (m + 1)) := by simp [nz, hq]
          rw [List.take_succ_cons, this, h4]
          simp

theorem termZero : ∃ zv : Value, (∀ w, (zeroValue 47).run Tryz.prog w = .ok zv w) ∧ zv.cells.size = 11 ∧ ∀ v ∈ zv.cells.toList, v.oneCell' = true :=
  ⟨.agg #[.int .i64 0, .int .i64 0, .int .i64 0, .int .i64 0, .int .i64 0, .int .i64 0, .int .i64 0, .int .i64 0, .bool false, .slice none 0 0, .slice none 0 0], fun w => by kernel_rfl, rfl, by decide⟩
theorem run_clear_terms {w : World} {base g n cap i : Nat} {xs : List Value} (h : w.ownsRow base 47 11 (.slice (some ⟨g, 0, none⟩) n cap) n xs) (hi : i < n) :
    ∃ vs, ∀ (ty : TypeId) (c : Nat), (Builtin.clear_ #[25] ty #[.slice (some ⟨g, i * 11, none⟩) (n - i) c]).run Tryz.prog w = .ok (.tuple #[]) (w.setCells g (i * 11) vs) := by
  obtain ⟨zv, hz, hs, h1⟩ := termZero
  have hlen := h.1
  refine ⟨(Builtin.zeroCells zv.cells (n - i)).toList, fun ty c => ?_⟩
  have hsz : (Builtin.zeroCells zv.cells (n - i)).toList.length = (n - i) * 11 := by simp [Builtin.zeroCells, hs]
  have hst := run_storeCells_cells (P := Tryz.prog) g (i * 11) (Builtin.zeroCells zv.cells (n - i)).toList 0 w (fun j hj => by
      rw [hsz] at hj
      have hlt : i * 11 + j < n * 11 := by omega
      rw [Nat.add_zero, h.cellAt _ hlt, List.getElem?_eq_getElem (by omega)]; rfl) (fun j _ => h.frozenAt _) (fun v hv => by
      simp only [Builtin.zeroCells, Array.toList_map, List.mem_map] at hv
      obtain ⟨k, _, rfl⟩ := hv
      have hk : k % zv.cells.size < zv.cells.size := Nat.mod_lt _ (by omega)
      rw [getElem!_pos zv.cells (k % zv.cells.size) hk]
      exact h1 _ (Array.getElem_mem_toList hk))
  rw [Nat.add_zero] at hst
  obtain ⟨m, hm⟩ : ∃ m, n - i = m + 1 := ⟨n - i - 1, by omega⟩
  rw [hm] at hst ⊢
  simp [Builtin.clear_, run_underlying Tryz.underlying25, hz, hst]

/-- The state of the loop: the row us has the terms of the first j that are not zero, then anything, then the rest. -/
structure DelAt (w wr : World) (base g n cap i j : Nat) (cs : List Tq) (us : List Tm) : Prop where
  row : wr.ownsRow base 47 11 (.slice (some ⟨g, 0, none⟩) n cap) n (rowOf us)
  len : us.length = n
  u8 : ∀ u ∈ us, u.L.length = 8
  take : us.take i = tms (nz (cs.take j))
  drop : us.drop j = tms (cs.drop j)
  lt : i < j
  le : j ≤ n
  keeps : Keeps g g g w wr
theorem DelAt.i_eq {w wr : World} {base g n cap i j : Nat} {cs : List Tq} {us : List Tm} (h : DelAt w wr base g n cap i j cs us) : i = (nz (cs.take j)).length := by
  have h1 := congrArg List.length h.take
  rw [List.length_take, tms_length, h.len] at h1
  have := h.lt
  have := h.le
  omega
theorem DelAt.skip {w wr wr' : World} {base g n cap i j : Nat} {cs : List Tq} {us : List Tm} {x : Tq} (h : DelAt w wr base g n cap i j cs us) (hx : cs[j]? = some x) (hj : j < n) (hq : x.2 = 0) (hb : Below wr.heap.size wr wr') : DelAt w wr' base g n cap i (j + 1) cs us :=
  ⟨ownsRow_below h.row hb, h.len, h.u8, by rw [h.take, nz_take_step hx, if_pos hq], by
    have := congrArg (List.drop 1) h.drop
    rw [List.drop_drop] at this
    rw [this]; unfold tms; rw [← List.map_drop, List.drop_drop], by have := h.lt; omega, hj, h.keeps.trans (Keeps.below hb)⟩
theorem DelAt.store {w wr wr' : World} {base g n cap i j : Nat} {cs : List Tq} {us : List Tm} {x : Tq} (h : DelAt w wr base g n cap i j cs us) (hx : cs[j]? = some x) (hj : j < n) (hq : x.2 ≠ 0) (h8 : x.1.L.length = 8) (hb : Below wr.heap.size wr wr') : DelAt w (wr'.setCells g (i * 11) x.1.cells) base g n cap (i + 1) (j + 1) cs (us.set i x.1) := by
  have hl := h.len
  have hlt := h.lt
  obtain ⟨h1, h2⟩ := ownsRow_sets (vs := x.1.cells) (o := i * 11) (ownsRow_below h.row hb)
  rw [rowOf_put h.u8 h8 (by omega)] at h1
  refine ⟨h1, by rw [List.length_set]; exact hl, ?_, ?_, ?_, by omega, hj, (h.keeps.trans (Keeps.below hb)).trans h2⟩
  · intro u hu
    rcases List.mem_or_eq_of_mem_set hu with hu | rfl
    · exact h.u8 u hu
    · exact h8
  · rw [nz_take_step hx, if_neg hq, tms_append, ← h.take, List.take_add_one, List.getElem?_set_self (by omega), List.take_set_of_le (Nat.le_refl _)]
    rfl
  · rw [List.drop_set_of_lt (by omega)]
    have := congrArg (List.drop 1) h.drop
    rw [List.drop_drop] at this
    rw [this]; unfold tms; rw [← List.map_drop, List.drop_drop]

set_option maxHeartbeats 8000000 in
theorem deleteZero_x {w : World} {base g cap k : Nat} {cs : List Tq} (hrow : w.ownsRow base 47 11 (.slice (some ⟨g, 0, none⟩) cs.length cap) cs.length (rowOf (tms cs))) (h8 : ∀ x ∈ cs, x.1.L.length = 8) (hc : ∀ x ∈ cs, x.1.loose w x.2 k ∧ x.1.lies fun i => i ≠ g) (k0 : 1 ≤ k) (hn : cs.length < 1000000) :
    Calls Tryz.prog 62 #[.slice (some ⟨g, 0, none⟩) cs.length cap, .func (.func 63) #[] #[]] w fun e w' => e = .returned (.slice (some ⟨g, 0, none⟩) (nz cs).length cap) ∧
      w'.ownsRow base 47 11 (.slice (some ⟨g, 0, none⟩) (nz cs).length cap) (nz cs).length (rowOf (tms (nz cs))) ∧ Keeps g g g w w' := by
  have HI := Lib.hid (indexZero_x hrow h8 (fun x hx => (hc x hx).1) k0 hn)
  have hcap : cs.length ≤ cap := by
    rcases hrow.2 with ⟨h', _⟩ | ⟨g', cap', cur, h', _, _, hnc, _⟩
    · simp at h'
    · simp only [Value.slice.injEq] at h'
      obtain ⟨_, _, rfl⟩ := h'
      exact hnc
  obtain ⟨n, hlen⟩ : ∃ n, cs.length = n := ⟨_, rfl⟩
  rw [hlen] at hrow hn hcap HI ⊢
  obtain ⟨m, hm⟩ : ∃ m, (nz cs).length = m := ⟨_, rfl⟩
  rw [hm]
  have HLEN := Lib.hid hlen
  have HROW := Lib.hid hrow
  have HC := Lib.hid hc
  have HM := Lib.hid hm
  have hspec := Lib.hid (zeroAt_spec cs 0)
  clear hrow hc hlen hm
  go_enter Tryz.func62, Tryz.ntmps62
  go_wp2_with fail
  refine HI.out.mono ?_
  rintro e w1 ⟨rfl, hb1⟩
  rcases hspec.out with ⟨hz, hall⟩ | ⟨i, hi, hz, ht, ht1⟩
  · rw [hz]
    have hmn : m = n := by rw [← HM.out, hall, HLEN.out]
    subst hmn
    clear HI hspec hz
    go_wp2
    go_ret
    refine ⟨rfl, ?_, Keeps.below hb1⟩
    rw [hall]
    exact ownsRow_below HROW.out hb1
  · rw [hz, Nat.zero_add]
    have hin : i < n := by rw [← HLEN.out]; exact hi
    have hnm1 : ((i : Int) == -1) = false := by rw [beq_eq_false_iff_ne]; omega
    have D0 : Hid (DelAt w w1 base g n cap i (i + 1) cs (tms cs)) := by
      refine ⟨ownsRow_below HROW.out hb1, by rw [tms_length, HLEN.out], fun u hu => ?_, ?_, ?_, by omega, by omega, Keeps.below hb1⟩
      · obtain ⟨x, hx, rfl⟩ := List.mem_map.1 hu
        exact h8 x hx
      · unfold tms; rw [← List.map_take, ht1]
      · unfold tms; rw [← List.map_drop]
    clear HI hspec hz ht ht1 hi
    go_wp2
    go_loopw [5, 6] (fun iv jv wr => ∃ (i j : Nat) (us : List Tm), iv = .int .i64 i ∧ jv = .int .i64 j ∧ Hid (DelAt w wr base g n cap i j cs us)) (fun _ jv _ => n - (intOf jv).toNat)
    case atStart => exact ⟨i, i + 1, _, rfl, by go_num, D0⟩
    case round =>
      clear hin hnm1 D0 hb1 w1
      obtain ⟨i, j, us, rfl, rfl, D⟩ := hrel
      have hij := D.out.lt
      have hjn := D.out.le
      have hul := D.out.len
      by_cases hlt : j < n
      · have hj2 : (j : Int) < n := by omega
        have hj3 : (0 : Int) ≤ j := by omega
        have hi2 : (i : Int) < n := by omega
        have hi3 : (0 : Int) ≤ i := by omega
        have hi4 : wrap64 ((i : Int) + 1) = i + 1 := by unfold wrap64; omega
        have hj4 : wrap64 ((j : Int) + 1) = j + 1 := by unfold wrap64; omega
        obtain ⟨x, hx⟩ : ∃ x, cs[j]? = some x := ⟨cs[j]'(by rw [HLEN.out]; exact hlt), List.getElem?_eq_getElem _⟩
        have hxm := List.mem_of_getElem? hx
        have huj : us[j]? = some x.1 := by
          have h := congrArg (fun l : List Tm => l[0]?) D.out.drop
          simp only [List.getElem?_drop, Nat.add_zero] at h
          rw [h]; unfold tms; rw [List.getElem?_map, List.getElem?_drop, Nat.add_zero, hx]; rfl
        obtain ⟨u, hu⟩ : ∃ u, us[i]? = some u := ⟨us[i]'(by omega), List.getElem?_eq_getElem _⟩
        have hl : x.1.loose wr x.2 k := (HC.out x hxm).1.keeps D.out.keeps ((HC.out x hxm).2.mono fun _ h => ⟨h, h, h⟩)
        have hx8 := h8 x hxm
        obtain ⟨y0, y1, y2, y3, y4, y5, y6, y7, hY⟩ := eight (D.out.u8 u (List.mem_of_getElem? hu))
        obtain ⟨x0, x1, x2, x3, x4, x5, x6, x7, hL⟩ := eight hx8
        have hV := Tm.val_eq hL
        obtain ⟨c0, c1, c2, c3, c4, c5, c6, c7, c8, c9, c10⟩ := row_cells D.out.row D.out.u8 hul.symm huj hL
        obtain ⟨v, hv⟩ : ∃ v, wr.alloc (.cells #[.int .i64 x0, .int .i64 x1, .int .i64 x2, .int .i64 x3, .int .i64 x4, .int .i64 x5, .int .i64 x6, .int .i64 x7, .bool x.1.s, .slice x.1.A x.1.n x.1.c, .slice x.1.B x.1.m x.1.d] 47) = v := ⟨_, rfl⟩
        have hbv : Below wr.heap.size wr v := hv ▸ (Below.refl _ wr).alloc (Nat.le_refl _) _
        have A3 := alloc_facts hv
        have HS2 : Hid (Calls Tryz.prog 63 #[.agg #[.int .i64 x0, .int .i64 x1, .int .i64 x2, .int .i64 x3, .int .i64 x4, .int .i64 x5, .int .i64 x6, .int .i64 x7, .bool x.1.s, .slice x.1.A x.1.n x.1.c, .slice x.1.B x.1.m x.1.d]] v fun e w' => e = .returned (.bool (decide (x.2 = 0))) ∧ Below v.heap.size v w') := by
          show Calls _ _ _ _ _
          rw [← hV]; exact isZero_tm hx8 (hl.below hbv) k0
        have NEWS : Hid (∀ (q : Nat) (z : Value), [Value.int .i64 x0, .int .i64 x1, .int .i64 x2, .int .i64 x3, .int .i64 x4, .int .i64 x5, .int .i64 x6, .int .i64 x7, .bool x.1.s, .slice x.1.A x.1.n x.1.c, .slice x.1.B x.1.m x.1.d][q]? = some z → v.cell? ⟨wr.heap.size, q, none⟩ = some z) := fun q z hz => by
          have := A3.2.2.1 q z hz
          have ha : (⟨wr.heap.size, 0, none⟩ : Addr).add q = ⟨wr.heap.size, q, none⟩ := by unfold Addr.add; split <;> simp_all
          rwa [ha] at this
        have hcells : Hid (x.1.cells = [Value.int .i64 x0, .int .i64 x1, .int .i64 x2, .int .i64 x3, .int .i64 x4, .int .i64 x5, .int .i64 x6, .int .i64 x7, .bool x.1.s, .slice x.1.A x.1.n x.1.c, .slice x.1.B x.1.m x.1.d]) := by
          show _ = _
          unfold Tm.cells; rw [hL]; rfl
        have hvs : Hid (v.heap.size = wr.heap.size + 1) := A3.2.2.2
        have HX := Lib.hid hx
        have HU := Lib.hid hu
        have HY := Lib.hid hY
        have HBV := Lib.hid hbv
        have HV := Lib.hid hv
        clear hV hL hx hu hY hxm huj hl hbv A3 hv
        go_wp2_with fail
        rw [HV.out]
        refine HS2.out.mono ?_
        rintro e w2 ⟨rfl, hb2⟩
        have hbw : Below wr.heap.size wr w2 := HBV.out.trans (hb2.mono (by rw [hvs.out]; omega))
        clear c0 c1 c2 c3 c4 c5 c6 c7 c8 c9 c10 HS2
        by_cases hq : x.2 = 0
        · have DN := Lib.hid (D.out.skip HX.out hlt hq hbw)
          rw [decide_eq_true hq]
          clear NEWS hcells hvs HX HU HY HBV HV hq hb2 hbw D hij hjn hul hi2 hi3 hi4
          go_wp2
          go_roundw
          case rel => exact ⟨i, j + 1, us, rfl, by go_num, DN⟩
          case measure => simp [intOf] <;> omega
        · have DN := Lib.hid (D.out.store HX.out hlt hq hx8 hbw)
          have DN2 : Hid (DelAt w (w2.setCells g (i * 11) [Value.int .i64 x0, .int .i64 x1, .int .i64 x2, .int .i64 x3, .int .i64 x4, .int .i64 x5, .int .i64 x6, .int .i64 x7, .bool x.1.s, .slice x.1.A x.1.n x.1.c, .slice x.1.B x.1.m x.1.d]) base g n cap (i + 1) (j + 1) cs (us.set i x.1)) := by
            show DelAt _ _ _ _ _ _ _ _ _ _
            rw [← hcells.out]; exact DN.out
          rw [decide_eq_false hq]
          have row2 := ownsRow_below D.out.row hbw
          have hfz := row2.frozenAt
          obtain ⟨d0, d1, d2, d3, d4, d5, d6, d7, d8, d9, d10⟩ := row_cells row2 D.out.u8 hul.symm HU.out HY.out
          have z0 := hfz (i * 11)
          have z1 := hfz (i * 11 + 1)
          have z2 := hfz (i * 11 + 2)
          have z3 := hfz (i * 11 + 3)
          have z4 := hfz (i * 11 + 4)
          have z5 := hfz (i * 11 + 5)
          have z6 := hfz (i * 11 + 6)
          have z7 := hfz (i * 11 + 7)
          have z8 := hfz (i * 11 + 8)
          have z9 := hfz (i * 11 + 9)
          have z10 := hfz (i * 11 + 10)
          have kb : ∀ (q : Nat) (z : Value), [Value.int .i64 x0, .int .i64 x1, .int .i64 x2, .int .i64 x3, .int .i64 x4, .int .i64 x5, .int .i64 x6, .int .i64 x7, .bool x.1.s, .slice x.1.A x.1.n x.1.c, .slice x.1.B x.1.m x.1.d][q]? = some z → w2.cell? ⟨wr.heap.size, q, none⟩ = some z := fun q z hz => (hb2.cell (p := ⟨wr.heap.size, q, none⟩) (by rw [hvs.out]; exact Nat.lt_succ_self _)).trans (NEWS.out q z hz)
          have b0 := kb 0 _ rfl
          have b1 := kb 1 _ rfl
          have b2 := kb 2 _ rfl
          have b3 := kb 3 _ rfl
          have b4 := kb 4 _ rfl
          have b5 := kb 5 _ rfl
          have b6 := kb 6 _ rfl
          have b7 := kb 7 _ rfl
          have b8 := kb 8 _ rfl
          have b9 := kb 9 _ rfl
          have b10 := kb 10 _ rfl
          clear kb hfz row2 NEWS hcells hvs HX HU HY HBV HV hq hb2 hbw D hij hjn hul DN
          go_wp2
          go_roundw
          case rel => exact ⟨i + 1, j + 1, us.set i x.1, by go_num, by go_num, DN2⟩
          case measure => simp [intOf] <;> omega
      · obtain rfl : j = n := by omega
        have him : i = m := by
          rw [D.out.i_eq, List.take_of_length_le (by rw [HLEN.out]; exact Nat.le_refl _)]
          exact HM.out
        subst him
        obtain ⟨vs, hcl⟩ := run_clear_terms D.out.row hij
        obtain ⟨rowS, K⟩ := ownsRow_sets (vs := vs) (o := i * 11) D.out.row
        have rowT := ownsRow_take rowS (Nat.le_of_lt hij)
        have hrl : (rowOf us).length = j * 11 := by rw [rowOf_length D.out.u8, hul]
        have hcut : (sets (rowOf us) (i * 11) vs).take (i * 11) = rowOf (tms (nz cs)) := by
          have h1 : rowOf (tms (nz cs)) = (rowOf us).take (i * 11) := by
            have h := D.out.take
            rw [List.take_of_length_le (l := cs) (by rw [HLEN.out]; exact Nat.le_refl _)] at h
            rw [← h]
            exact rowOf_take D.out.u8 (by omega)
          rw [h1]
          apply List.ext_getElem?
          intro q
          rw [List.getElem?_take, List.getElem?_take]
          by_cases hq : q < i * 11
          · rw [if_pos hq, if_pos hq, sets_far _ _ _ _ hq]
          · rw [if_neg hq, if_neg hq]
        rw [hcut] at rowT
        have KK := Lib.hid (D.out.keeps.trans K)
        have ROW := Lib.hid rowT
        have hi2 : (i : Int) ≤ j := by omega
        have hi3 : (0 : Int) ≤ i := by omega
        have hc2 : (j : Int) ≤ cap := by omega
        clear K rowS rowT hrl hcut D
        go_wp2
        go_ret
        exact ⟨rfl, ROW.out, KK.out⟩
end Go.Proofs.YtebbnmjmjoklmaaGreatDoor
