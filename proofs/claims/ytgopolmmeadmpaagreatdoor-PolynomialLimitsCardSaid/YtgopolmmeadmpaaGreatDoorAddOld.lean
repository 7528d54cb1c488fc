/-
  sum.add of a monomial that is there already.
-/
import Derived.Test.YtgopolmmeadmpaaGreatDoorSumIs
namespace Go.Proofs.YtgopolmmeadmpaaGreatDoor
open Go Go.RowKit Go.WideMaps
set_option maxRecDepth 20000

theorem ownsRow_below' {w w' : World} {base : Nat} {e : TypeId} {size : Nat} {v : Value} {n : Nat} {xs : List Value} (h : w.ownsRow base e size v n xs) (hb : Below w.heap.size w w') : w'.ownsRow base e size v n xs := h.kept (row := none) ⟨hb.os, hb.tape, hb.output, hb.size, fun k hk _ => hb.block k hk⟩ (by
  cases hv : v.ownBlock with
  | none => exact .inl rfl
  | some k => exact .inr (fun e => by cases e))
theorem drewN_row {w : World} {base : Nat} {e : TypeId} {size : Nat} {v : Value} {n : Nat} {xs : List Value} (h : w.ownsRow base e size v n xs) (j : Nat) : (w.drewN j).ownsRow base e size v n xs := h
set_option maxHeartbeats 2000000 in
theorem sumAdd_old {w : World} {p b g N n cap base i k k' : Nat} {D : DataW Unit} {ts : List Tm} {t0 : Tm} {q0 q : Rat} {M : List Int} {s : Bool} {A B : Option Addr} {an ac bm bd : Nat} (hl : Laid w)
    (hp0 : w.cell? ⟨p, 0, none⟩ = some (.map (some b))) (hp1 : w.cell? ⟨p, 1, none⟩ = some (.slice (some ⟨g, 0, none⟩) n cap)) (hpf : ∀ j, w.frozen? ⟨p, j, none⟩ = false)
    (hmap : w.ownsMap Tryz.prog 38 (plainElem Tryz.prog 3) b N D) (hD : Places D (ts.map Tm.L)) (hM : Mono8 M) (hrow : w.ownsRow base 43 11 (.slice (some ⟨g, 0, none⟩) n cap) n (rowOf ts)) (hpl : p < w.heap.size) (hi : ts[i]? = some t0) (ht0 : t0.L = M) (h8 : ∀ t ∈ ts, t.L.length = 8) (hlen : n = ts.length)
    (hr0 : t0.rn w q0 k) (hr : Loose w s A an ac B bm bd q k') (k0 : 1 ≤ k) (k1 : 1 ≤ k') (hk8 : k ≤ 300000) (hk9 : k' ≤ 300000) (hgb : g ≠ b) (hpg : p ≠ g) :
    Calls Tryz.prog 53 #[.pointer (some ⟨p, 0, none⟩), monV M, .agg #[.bool s, .slice A an ac, .slice B bm bd]] w fun e w' => e = .returned (.bool false) ∧ ∃ s' A' n' c' B' m' d', w'.cell? ⟨p, 0, none⟩ = some (.map (some b)) ∧ w'.cell? ⟨p, 1, none⟩ = some (.slice (some ⟨g, 0, none⟩) n cap) ∧ (∀ j, w'.frozen? ⟨p, j, none⟩ = false) ∧
      w'.ownsMap Tryz.prog 38 (plainElem Tryz.prog 3) b N D ∧ w'.ownsRow base 43 11 (.slice (some ⟨g, 0, none⟩) n cap) n (rowOf (ts.set i (t0.with s' A' n' c' B' m' d'))) ∧
      (t0.with s' A' n' c' B' m' d').rn w' (q0 + q) (k + k' + 1) ∧ Off w.heap.size A' ∧ Off w.heap.size B' ∧ Keeps p b g w w' := by
  obtain ⟨x0, x1, x2, x3, x4, x5, x6, x7, rfl⟩ := eight hM.1
  have hkey := keyLit_eq hM
  have hz : ∀ w : World, (zeroValue 3).run Tryz.prog w = .ok (.int .i64 0) w := fun w => by rfl
  have hin : [x0, x1, x2, x3, x4, x5, x6, x7] ∈ ts.map Tm.L := List.mem_map.2 ⟨t0, List.mem_of_getElem? hi, ht0⟩
  have hiM : (ts.map Tm.L)[i]? = some [x0, x1, x2, x3, x4, x5, x6, x7] := by rw [List.getElem?_map, hi, ← ht0]; rfl
  have hat := hD.atKey _ hM i hiM
  have hilt : i < n := by
    rw [hlen]
    rcases Nat.lt_or_ge i ts.length with h | h
    · exact h
    · rw [List.getElem?_eq_none h] at hi; cases hi
  show Calls Tryz.prog 53 #[.pointer (some ⟨p, 0, none⟩), .agg #[.int .i64 x0, .int .i64 x1, .int .i64 x2, .int .i64 x3, .int .i64 x4, .int .i64 x5, .int .i64 x6, .int .i64 x7], .agg #[.bool s, .slice A an ac, .slice B bm bd]] w _
  obtain ⟨v1, hv1⟩ : ∃ v1, ((w.alloc (.cells #[.int .i64 x0, .int .i64 x1, .int .i64 x2, .int .i64 x3, .int .i64 x4, .int .i64 x5, .int .i64 x6, .int .i64 x7] 38)).alloc (.cells #[.bool s, .slice A an ac, .slice B bm bd] 41)) = v1 := ⟨_, rfl⟩
  have hb1 : Below w.heap.size w v1 := hv1 ▸ (((Below.refl _ w).alloc (Nat.le_refl _) _).alloc (by simp) _)
  have hsz : v1.heap.size = w.heap.size + 1 + 1 := by rw [← hv1]; simp
  have hc0 : v1.cell? ⟨p, 0, none⟩ = some (.map (some b)) := by rw [hb1.cell (by exact hpl)]; exact hp0
  have hc1 : v1.cell? ⟨p, 1, none⟩ = some (.slice (some ⟨g, 0, none⟩) n cap) := by rw [hb1.cell (by exact hpl)]; exact hp1
  have hM0 : v1.cell? ⟨w.heap.size, 0, none⟩ = some (.int .i64 x0) ∧ v1.cell? ⟨w.heap.size, 1, none⟩ = some (.int .i64 x1) ∧ v1.cell? ⟨w.heap.size, 2, none⟩ = some (.int .i64 x2) ∧ v1.cell? ⟨w.heap.size, 3, none⟩ = some (.int .i64 x3) ∧ v1.cell? ⟨w.heap.size, 4, none⟩ = some (.int .i64 x4) ∧ v1.cell? ⟨w.heap.size, 5, none⟩ = some (.int .i64 x5) ∧ v1.cell? ⟨w.heap.size, 6, none⟩ = some (.int .i64 x6) ∧ v1.cell? ⟨w.heap.size, 7, none⟩ = some (.int .i64 x7) := by
    rw [← hv1]; clear hb1 hsz hc0 hc1 hv1; refine ⟨?_, ?_, ?_, ?_, ?_, ?_, ?_, ?_⟩ <;> go_simp
  have hC0 : v1.cell? ⟨w.heap.size + 1, 0, none⟩ = some (.bool s) ∧ v1.cell? ⟨w.heap.size + 1, 1, none⟩ = some (.slice A an ac) ∧ v1.cell? ⟨w.heap.size + 1, 2, none⟩ = some (.slice B bm bd) := by
    rw [← hv1]; clear hM0 hb1 hsz hc0 hc1 hv1; refine ⟨?_, ?_, ?_⟩ <;> go_simp
  have hmap1 : v1.ownsMap Tryz.prog 38 (plainElem Tryz.prog 3) b N D := hv1 ▸ ((hmap.alloc _).alloc _)
  have hrow1 : v1.ownsRow base 43 11 (.slice (some ⟨g, 0, none⟩) n cap) n (rowOf ts) := hv1 ▸ ((hrow.alloc _).alloc _)
  obtain ⟨n0, n1, n2⟩ := hC0
  obtain ⟨m0, m1, m2, m3, m4, m5, m6, m7⟩ := hM0
  obtain ⟨vv, ps, hlook, hv⟩ := hmap1.drew.look_ok monoKeyed Tryz.underlying59 (hz v1.drew) (plainElem_int Tryz.underlying3 (by decide)) hkey
  obtain ⟨cc, rfl, hcc, hwc⟩ := plainElem_int_inv Tryz.underlying3 hv
  have hlook' : (Instr.lookup 59 (.map (some b)) (.agg #[.int .i64 x0, .int .i64 x1, .int .i64 x2, .int .i64 x3, .int .i64 x4, .int .i64 x5, .int .i64 x6, .int .i64 x7]) true).run Tryz.prog v1.drew = .ok (.tuple #[.int .i64 cc, .bool (Maps.has D (keyLit [x0, x1, x2, x3, x4, x5, x6, x7]))]) v1.drew := hlook
  have hci : cc = (i : Int) := by
    have h0 := congrArg Prod.fst hcc
    simp only at h0
    rw [h0] at hat
    injection hat with h1
    injection h1
  subst hci
  rw [hD.has _ hM, decide_eq_true hin] at hlook'
  clear hlook hv hcc
  have hcoefs := Tm.coefs (t := t0) (h8 t0 (List.mem_of_getElem? hi))
  have hrl := rowOf_length h8
  have r0 : v1.cell? ⟨g, i * 11 + 8, none⟩ = some (.bool t0.s) := by rw [hrow1.cellAt _ (by omega), rowOf_get h8 hi 8 (by omega)]; exact hcoefs.1
  have r1 : v1.cell? ⟨g, i * 11 + 9, none⟩ = some (.slice t0.A t0.n t0.c) := by rw [hrow1.cellAt _ (by omega), rowOf_get h8 hi 9 (by omega)]; exact hcoefs.2.1
  have r2 : v1.cell? ⟨g, i * 11 + 10, none⟩ = some (.slice t0.B t0.m t0.d) := by rw [hrow1.cellAt _ (by omega), rowOf_get h8 hi 10 (by omega)]; exact hcoefs.2.2
  have SC : Hid (∀ j, Calls Tryz.prog 71 #[.agg #[.bool t0.s, .slice t0.A t0.n t0.c, .slice t0.B t0.m t0.d], .agg #[.bool s, .slice A an ac, .slice B bm bd]] (v1.drewN j) (GivesR (v1.drewN j) (q0 + q) (k + k' + 1))) := fun j =>
    have hb : Below w.heap.size w (v1.drewN j) := drewN_below hb1 j
    add_r (hl.below hb) (Tm.rn.loose (Tm.rn.below hr0 hb)) (hr.below hb) k0 k1 hk8 hk9
  have hgl : g < w.heap.size := (hrow.lt g rfl).2
  have hgl2 : g < (v1.drewN 2).heap.size := by show g < v1.heap.size; omega
  have HV := Lib.hid hv1
  clear hv1 hcoefs hrl
  go_enter Tryz.func53, Tryz.ntmps53
  go_wp2_with fail
  have hv1 := HV.out
  rw [hv1]
  go_region
  go_wp2_with fail
  go_region_with (go_at_call 71; refine (SC.out 2).mono ?_; rintro e w' ⟨s', A', n', c', B', m', d', rfl, hr', oA, oB, hb'⟩; have rw' := ownsRow_below' (drewN_row hrow1 2) hb'; have f0 := rw'.frozenAt (i * 11 + 8); have f1 := rw'.frozenAt (i * 11 + 9); have f2 := rw'.frozenAt (i * 11 + 10); have e0 := (hb'.cell (p := ⟨g, i * 11 + 8, none⟩) hgl2).trans r0; have e1 := (hb'.cell (p := ⟨g, i * 11 + 9, none⟩) hgl2).trans r1; have e2 := (hb'.cell (p := ⟨g, i * 11 + 10, none⟩) hgl2).trans r2)
  all_goals
    go_wp2
    obtain ⟨u0, v0⟩ := rw'.stored (i * 11 + 8) (.bool s')
    obtain ⟨u1, v1'⟩ := u0.stored (i * 11 + 9) (.slice A' n' c')
    obtain ⟨u2, v2⟩ := u1.stored (i * 11 + 10) (.slice B' m' d')
    rw [rowOf_set h8 hi] at u2
    have hbw : Below w.heap.size w w' := (drewN_below hb1 2).trans (hb'.mono (by show w.heap.size ≤ v1.heap.size; omega))
    have hbs : w.heap.size ≤ (v1.drewN 2).heap.size := by show w.heap.size ≤ v1.heap.size; omega
    have K0 : Keeps g g g w' _ := ((Keeps.grown v0 (.inr rfl)).trans (Keeps.grown v1' (.inr rfl))).trans (Keeps.grown v2 (.inr rfl))
    have K1 : Keeps g g g w _ := (Keeps.below hbw).trans K0
    have K4 : Keeps p b g w _ := (Keeps.below hbw).trans (((Keeps.grown v0 (.inr rfl)).trans (Keeps.grown v1' (.inr rfl))).trans (Keeps.grown v2 (.inr rfl)))
    have hne : ∀ k : Nat, (v1.drewN 2).heap.size ≤ k → k ≠ g := fun k hk e => by rw [e] at hk; omega
    have hrn : Tm.rn (t0.with s' A' n' c' B' m' d') _ (q0 + q) (k + k' + 1) := Tm.rn.apart (t := t0.with s' A' n' c' B' m' d') (w := w') hr' K0.size
      ⟨fun hn a ha => K0.block a.block (hr'.2.1.old hn a ha) (hne _ (oA a ha)) (hne _ (oA a ha)) (hne _ (oA a ha)), fun hn a ha => K0.block a.block (hr'.2.2.1.old hn a ha) (hne _ (oB a ha)) (hne _ (oB a ha)) (hne _ (oB a ha))⟩
    refine bodyPost_ret (v := .bool false) (by simp [results, Tryz.results53, go_sem]) rfl ⟨rfl, s', A', n', c', B', m', d', ?_, ?_, ?_, ?_, u2, hrn, oA.mono hbs, oB.mono hbs, K4⟩
    · exact (World.cell?_of_block (K1.block p hpl hpg hpg hpg)).trans hp0
    · exact (World.cell?_of_block (K1.block p hpl hpg hpg hpg)).trans hp1
    · exact fun j => (World.frozen?_of_block (K1.block p hpl hpg hpg hpg)).trans (hpf j)
    · exact hmap.kept (row := some g) ⟨K1.os, K1.tape, K1.output, K1.size, fun k hk hk' => K1.block k hk (fun e => hk' (by rw [e])) (fun e => hk' (by rw [e])) (fun e => hk' (by rw [e]))⟩ (fun e => hgb (by injection e with e; exact e.symm))

theorem mem_set {cs : List Tq} {i : Nat} {x y : Tq} (h : x ∈ cs.set i y) : x ∈ cs ∨ x = y := by
  rcases List.mem_or_eq_of_mem_set h with h | h
  · exact .inl h
  · exact .inr h
/-- A term is added to a monomial that is there. -/
theorem SumAt.old {w : World} {base p b g cap k k' i : Nat} {E : Int} {D : DataW Unit} {cs : List Tq} {t : Tm} {q : Rat} {x : Tq} (hl : Laid w) (h : SumAt w base p b g cap D cs k E) (hE : E ≤ 1000000000) (hi : cs[i]? = some x) (hx : x.1.L = t.L) (hr : t.loose w q k') (k0 : 1 ≤ k) (k1 : 1 ≤ k') (hk8 : k ≤ 300000) (hk9 : k' ≤ 300000) :
    Calls Tryz.prog 53 #[.pointer (some ⟨p, 0, none⟩), monV t.L, .agg #[.bool t.s, .slice t.A t.n t.c, .slice t.B t.m t.d]] w fun e w' => e = .returned (.bool false) ∧ Keeps p b g w w' ∧
      ∃ y : Tm, y.L = x.1.L ∧ SumAt w' base p b g cap D (cs.set i (y, x.2 + q)) (k + k' + 1) E := by
  have hw : base ≤ w.heap.size := by have := h.basep; have := h.lt; omega
  have hxm := List.mem_of_getElem? hi
  have hti : (tms cs)[i]? = some x.1 := by unfold tms; rw [List.getElem?_map, hi]; rfl
  have h8 : ∀ t ∈ tms cs, t.L.length = 8 := fun t ht => by
    obtain ⟨y, hy, rfl⟩ := List.mem_map.1 ht
    exact (h.mono y hy).1
  refine (sumAdd_old hl h.cell0 h.cell1 h.free h.map (by rw [mons_tms]; exact h.places) (hx ▸ (h.mono x hxm).mono8 hE) h.row h.lt hti hx h8 (by rw [tms_length]) (h.coef x hxm).1 hr k0 k1 hk8 hk9 h.gb h.pg).mono ?_
  rintro e w' ⟨rfl, s', A', n', c', B', m', d', c0, c1, fr, mp, rw', hrn, oA, oB, K⟩
  refine ⟨rfl, K, x.1.with s' A' n' c' B' m' d', rfl, ?_⟩
  have hlen : (cs.set i (x.1.with s' A' n' c' B' m' d', x.2 + q)).length = cs.length := List.length_set
  have hmons : mons (cs.set i (x.1.with s' A' n' c' B' m' d', x.2 + q)) = mons cs := mons_set hi rfl
  refine ⟨c0, by rw [hlen]; exact c1, fr, by rw [hlen]; exact mp, by rw [hmons]; exact h.places, ?_, ?_, by rw [hmons]; exact h.nodup, ?_, Nat.lt_of_lt_of_le h.lt K.size, h.pb, h.gb, h.pg, h.basep, h.baseb, h.baseg⟩
  · rw [hlen, tms_set]; exact rw'
  · intro y hy
    rcases mem_set hy with hy | rfl
    · exact h.mono y hy
    · exact h.mono x hxm
  · intro y hy
    rcases mem_set hy with hy | rfl
    · have hy' := h.coef y hy
      exact ⟨(hy'.1.keeps K hy'.2).mono (by omega), hy'.2⟩
    · refine ⟨hrn, (Off.lies (t := x.1.with s' A' n' c' B' m' d') oA oB).mono fun j hj => ?_⟩
      have := h.lt
      have := h.map.lt
      have := (h.row.lt g rfl).2
      omega
/-- A term is added: the sum denotes what it denoted, and the term besides; what was laid since w0 is as it was. -/
theorem SumIs.add {w0 w : World} {base p k k' : Nat} {E : Int} {cs : List Tq} {t : Tm} {q : Rat} (hl : Laid w) (h : SumIs w0 base p cs k E) (hb : Below w0.heap.size w0 w) (hE : E ≤ 1000000000) (hM : MonoE E t.L) (hr : t.rn w q k') (ht : t.lies (w0.heap.size ≤ ·) ∨ t.lies fun i => i < base) (k0 : 1 ≤ k) (k1 : 1 ≤ k') (hk8 : k ≤ 300000) (hk9 : k' ≤ 300000) (hn : cs.length < 1000000) :
    Calls Tryz.prog 53 #[.pointer (some ⟨p, 0, none⟩), monV t.L, .agg #[.bool t.s, .slice t.A t.n t.c, .slice t.B t.m t.d]] w fun e w' => ∃ v, e = .returned (.bool v) ∧ Below base w w' ∧ (∀ i, w0.heap.size ≤ i → i < w.heap.size → w'.heap[i]? = w.heap[i]?) ∧
      ∃ cs', SumIs w' base p cs' (k + k' + 1) E ∧ Eqv (trms cs') (trms cs ++ [(t.L, q)]) ∧ cs'.length ≤ cs.length + 1 := by
  obtain ⟨b, g, cap, D, h⟩ := h
  have hpl := h.lt
  have hbl := h.map.lt
  have hgl := (h.row.lt g rfl).2
  have hp := h.basep
  have hb' := h.baseb
  have hg := h.baseg
  replace h := h.below hb
  have hsz := hb.size
  have hw : base ≤ w.heap.size := by omega
  by_cases hin : t.L ∈ mons cs
  · obtain ⟨i, hi⟩ := List.mem_iff_getElem?.mp hin
    unfold mons at hi
    rw [List.getElem?_map] at hi
    obtain ⟨x, hx, hxL⟩ := Option.map_eq_some_iff.1 hi
    refine (h.old hl hE hx hxL hr.loose k0 k1 hk8 hk9).mono ?_
    rintro e w' ⟨rfl, K, y, hy, hs⟩
    refine ⟨_, rfl, K.below_base hp hb' hg hw, fun i h1 h2 => K.block i h2 (by omega) (by omega) (by omega), _, ⟨b, g, cap, D, hs⟩, fun f => ?_, by rw [List.length_set]; omega⟩
    have := lin_set hx (y := (y, x.2 + q)) hy q rfl f
    rw [hxL] at this
    exact this
  · have hm : SumAt w base p b g cap D cs (k + k' + 1) E := { h with coef := fun x hx => ⟨(h.coef x hx).1.mono (by omega), (h.coef x hx).2⟩ }
    refine (hm.new hE hM hin (hr.mono (by omega)) ?_ hn).mono ?_
    · rcases ht with ht | ht
      · exact ht.mono fun i hi => by omega
      · exact ht.mono fun i hi => by omega
    rintro e w' ⟨rfl, K, g', cap', _, hs⟩
    refine ⟨_, rfl, K.below_base hp hb' hg hw, fun i h1 h2 => K.block i h2 (by omega) (by omega) (by omega), _, ⟨b, g', cap', _, hs⟩, fun f => by rw [trms_append]; rfl, by rw [List.length_append]; simp⟩
end Go.Proofs.YtgopolmmeadmpaaGreatDoor
