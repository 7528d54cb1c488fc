/-
  The reference's Insert: a term comes into a normal form.
-/
import Derived.Test.YtnkfmbjpbfpfkaaGreatDoorGreater
import Derived.Test.YtnkfmbjpbfpfkaaGreatDoorTmAt
import Derived.Test.YtnkfmbjpbfpfkaaGreatDoorRefR5
import Derived.Test.YtnkfmbjpbfpfkaaGreatDoorEqMono
import Derived.Maps.AppendAt
import Derived.Laws.AppendOwnNone
namespace Go.Proofs.YtnkfmbjpbfpfkaaGreatDoor
open Go Go.RowKit Go.WideMaps
set_option maxRecDepth 20000

theorem tq_apart {ds : List Tq} (h : Norml (trms ds)) (m : Nat) : ∀ x ∈ ds.take m, ∀ y ∈ ds.drop m, mlt y.1.L x.1.L = true := fun x hx y hy => by
  have h1 := h.apart m (x.1.L, x.2) (by unfold trms; rw [← List.map_take]; exact List.mem_map.2 ⟨x, hx, rfl⟩) (y.1.L, y.2) (by unfold trms; rw [← List.map_drop]; exact List.mem_map.2 ⟨y, hy, rfl⟩)
  exact h1
theorem take_gt {ds : List Tq} (hN : Norml (trms ds)) {m : Nat} {x : Tq} (hx : ds[m]? = some x) {L : Mon} (h : mlt L x.1.L = true) : ∀ y ∈ ds.take (m + 1), mlt L y.1.L = true := fun y hy => by
  rw [List.take_add_one, hx] at hy
  rcases List.mem_append.1 hy with hy | hy
  · have hm : m < ds.length := (List.getElem?_eq_some_iff.1 hx).1
    have h2 := tq_apart hN m y hy x (by
      rw [List.drop_eq_getElem_cons hm]
      rw [List.getElem?_eq_getElem hm] at hx
      injection hx with hx
      rw [hx]; exact List.mem_cons_self)
    exact mlt_trans h h2
  · simp only [Option.toList_some, List.mem_singleton] at hy
    subst hy; exact h
theorem drop_le {ds : List Tq} (hN : Norml (trms ds)) {m : Nat} {x : Tq} (hx : ds[m]? = some x) {L : Mon} (h : mlt L x.1.L = false) : ∀ y ∈ ds.drop m, mlt L y.1.L = false := fun y hy => by
  have hm : m < ds.length := (List.getElem?_eq_some_iff.1 hx).1
  have hh := (hN.drop m).1
  unfold trms at hh
  rw [← List.map_drop, List.drop_eq_getElem_cons hm] at hh
  rw [List.drop_eq_getElem_cons hm] at hy
  rw [List.getElem?_eq_getElem hm] at hx
  injection hx with hx
  rw [hx] at hh hy
  rcases List.mem_cons.1 hy with rfl | hy
  · exact h
  · rw [List.map_cons] at hh
    have h2 := (List.pairwise_cons.1 hh).1 (y.1.L, y.2) (List.mem_map.2 ⟨y, hy, rfl⟩)
    cases h3 : mlt L y.1.L with
    | false => rfl
    | true => rw [mlt_trans h3 h2] at h; cases h

theorem rowOf_drop {us : List Tm} {i : Nat} (h8 : ∀ u ∈ us, u.L.length = 8) (hi : i ≤ us.length) : rowOf (us.drop i) = (rowOf us).drop (i * 11) := by
  have h1 : rowOf us = rowOf (us.take i) ++ rowOf (us.drop i) := by rw [← rowOf_append, List.take_append_drop]
  have h2 : (rowOf (us.take i)).length = i * 11 := by
    rw [rowOf_length (fun u hu => h8 u (List.mem_of_mem_take hu)), List.length_take]
    congr 1; omega
  rw [h1, ← h2, List.drop_left]
theorem rowOf_one (us : List Tm) : ∀ u ∈ rowOf us, u.oneCell' = true := fun u hu => by
  obtain ⟨t, _, ht⟩ := List.mem_flatMap.1 hu
  unfold Tm.cells at ht
  rcases List.mem_append.1 ht with ht | ht
  · obtain ⟨x, _, rfl⟩ := List.mem_map.1 ht
    rfl
  · simp only [List.mem_cons, List.not_mem_nil, or_false] at ht
    rcases ht with rfl | rfl | rfl <;> rfl
theorem PolyRd.eights {w : World} {A : Option Addr} {n c k : Nat} {E : Int} {ds : List Tq} (h : PolyRd w A n c ds k E) : ∀ u ∈ tms ds, u.L.length = 8 := fun u hu => by
  obtain ⟨x, hx, rfl⟩ := List.mem_map.1 hu
  exact (h.mono x hx).1
theorem PolyRd.newsLen {w : World} {A : Option Addr} {n c k : Nat} {E : Int} {ds : List Tq} (h : PolyRd w A n c ds k E) (m : Nat) (hm : m ≤ n) : (rowOf (tms (ds.take m))).length = m * 11 := by
  have : tms (ds.take m) = (tms ds).take m := by unfold tms; rw [List.map_take]
  rw [this, rowOf_length (fun u hu => h.eights u (List.mem_of_mem_take hu)), List.length_take, tms_length, ← h.len]
  congr 1; omega
theorem PolyRd.restLen {w : World} {A : Option Addr} {n c k : Nat} {E : Int} {ds : List Tq} (h : PolyRd w A n c ds k E) (m : Nat) : (rowOf (tms (ds.drop m))).length = (n - m) * 11 := by
  have : tms (ds.drop m) = (tms ds).drop m := by unfold tms; rw [List.map_drop]
  rw [this, rowOf_length (fun u hu => h.eights u (List.mem_of_mem_drop hu)), List.length_drop, tms_length, ← h.len]
theorem PolyRd.news {w : World} {ad : Addr} {n c k : Nat} {E : Int} {ds : List Tq} (h : PolyRd w (some ad) n c ds k E) (m : Nat) (hm : m ≤ n) : ∀ j u, (rowOf (tms (ds.take m)))[j]? = some u → w.cell? (ad.add j) = some u := by
  intro j u hj
  rcases Nat.eq_zero_or_pos n with h0 | h0
  · have : ds = [] := List.eq_nil_of_length_eq_zero (by rw [← h.len, h0])
    subst this
    simp [tms, rowOf] at hj
  · obtain ⟨g, e, hr⟩ := h.row h0
    injection e with e
    subst e
    have e1 : tms (ds.take m) = (tms ds).take m := by unfold tms; rw [List.map_take]
    rw [e1, rowOf_take h.eights (by rw [tms_length, ← h.len]; exact hm)] at hj
    have hj2 : (rowOf (tms ds))[j]? = some u := by
      rw [List.getElem?_take] at hj
      split at hj
      · exact hj
      · cases hj
    exact hr.cells rfl j u hj2
theorem PolyRd.rest {w : World} {g : Nat} {n c k : Nat} {E : Int} {ds : List Tq} (h : PolyRd w (some ⟨g, 0, none⟩) n c ds k E) (m : Nat) (hm : m < n) : ∀ j u, (rowOf (tms (ds.drop m)))[j]? = some u → w.cell? ((⟨g, m * 11, none⟩ : Addr).add j) = some u := by
  intro j u hj
  obtain ⟨g', e, hr⟩ := h.row (by omega)
  injection e with e
  injection e with e
  subst e
  have e1 : tms (ds.drop m) = (tms ds).drop m := by unfold tms; rw [List.map_drop]
  rw [e1, rowOf_drop h.eights (by rw [tms_length, ← h.len]; omega), List.getElem?_drop] at hj
  have h1 := hr.cells (g := g) rfl _ _ hj
  have ha : ∀ b o q, (⟨b, o, none⟩ : Addr).add q = ⟨b, o + q, none⟩ := fun b o q => by
    unfold Addr.add; split <;> simp_all
  rw [ha] at h1 ⊢
  rwa [Nat.zero_add] at h1

theorem TmAt.coef {b n c m d : Nat} {t : Tm} {W : World} {s : Bool} {A B : Option Addr} (h : TmAt b t W) : TmAt b (t.with s A n c B m d) (((W.setCell ⟨b, 8, none⟩ (.bool s)).setCell ⟨b, 9, none⟩ (.slice A n c)).setCell ⟨b, 10, none⟩ (.slice B m d)) := by
  obtain ⟨x0, x1, x2, x3, x4, x5, x6, x7, hL⟩ := eight h.len
  have e1 : t.cells.set 8 (.bool s) = (⟨t.L, s, t.A, t.n, t.c, t.B, t.m, t.d⟩ : Tm).cells := by unfold Tm.cells; rw [hL]; rfl
  have e2 : (⟨t.L, s, t.A, t.n, t.c, t.B, t.m, t.d⟩ : Tm).cells.set 9 (.slice A n c) = (⟨t.L, s, A, n, c, t.B, t.m, t.d⟩ : Tm).cells := by unfold Tm.cells; rw [hL]; rfl
  have e3 : (⟨t.L, s, A, n, c, t.B, t.m, t.d⟩ : Tm).cells.set 10 (.slice B m d) = (t.with s A n c B m d).cells := by unfold Tm.cells Tm.with; rw [hL]; rfl
  exact ((h.one (by decide) _ e1 h.len).one (by decide) _ e2 h.len).one (by decide) _ e3 h.len
theorem keeps3 {w : World} {p : Nat} {u v z : Value} : Keeps p p p w (((w.setCell ⟨p, 8, none⟩ u).setCell ⟨p, 9, none⟩ v).setCell ⟨p, 10, none⟩ z) := ((Keeps.set 8 u).trans (Keeps.set 9 v)).trans (Keeps.set 10 z)
theorem OutRow.keeps {base n c k p : Nat} {A : Option Addr} {ds : List Tq} {W W' : World} (h : OutRow base A n c ds k W) (hk : Keeps p p p W W') (hp : p < base) (hl : ∀ x ∈ ds, x.1.lies (· ≠ p)) : OutRow base A n c ds k W' := by
  refine ⟨h.len, h.row.kept (row := some p) ⟨hk.os, hk.tape, hk.output, hk.size, fun j hj hne => hk.block j hj (fun e => hne (by rw [e])) (fun e => hne (by rw [e])) (fun e => hne (by rw [e]))⟩ ?_, fun x hx => (h.rn x hx).keeps hk ((hl x hx).mono fun i hi => ⟨hi, hi, hi⟩), h.apart⟩
  cases A with
  | none => exact .inl rfl
  | some a => refine .inr (fun e => ?_); simp [Value.ownBlock] at e; have := (h.row.lt a.block (by simp [Value.ownBlock])).1; omega
theorem OutRow.mono {base n c k j : Nat} {A : Option Addr} {ds : List Tq} {W : World} (h : OutRow base A n c ds k W) (hk : k ≤ j) : OutRow base A n c ds j W := ⟨h.len, h.row, fun x hx => (h.rn x hx).mono hk, h.apart⟩
theorem insT_case {ds mid : List Tq} {lo o : Nat} {L : Mon} {q q2 : Rat} (hmid : trms mid = if q2 = 0 then [] else [(L, q2)])
    (h : (o = lo + 1 ∧ ∃ x, ds[lo]? = some x ∧ x.1.L = L ∧ q2 = q + x.2) ∨ (o = lo ∧ (∀ x, ds[lo]? = some x → x.1.L ≠ L) ∧ q2 = q)) :
    trms ((ds.take lo ++ mid) ++ ds.drop o) = insT (trms ds) lo (L, q) := by
  have e1 : ∀ m, trms (ds.take m) = (trms ds).take m := fun m => by unfold trms; rw [List.map_take]
  have e2 : ∀ m, trms (ds.drop m) = (trms ds).drop m := fun m => by unfold trms; rw [List.map_drop]
  have e3 : (trms ds)[lo]? = ds[lo]?.map fun x => (x.1.L, x.2) := by unfold trms; rw [List.getElem?_map]
  rw [trms_append, trms_append, e1, e2, hmid]
  unfold insT
  rw [e3]
  rcases h with ⟨rfl, x, hx, hL, rfl⟩ | ⟨rfl, hne, rfl⟩
  · rw [hx]
    simp only [Option.map_some, hL, if_pos, Option.getD_some]
  · cases hx : ds[o]? with
    | none => simp
    | some x =>
      have := hne x hx
      simp [this]

set_option maxHeartbeats 8000000 in
theorem refInsert_x {w : World} {A : Option Addr} {n c k k' : Nat} {E : Int} {ds : List Tq} {t : Tm} {q : Rat} (hd : PolyNf w A n c ds k E) (hE : E ≤ 1000000000) (hM : MonoE E t.L) (ht : t.loose w q k') (k0 : 1 ≤ k) (k1 : 1 ≤ k') (hk8 : k ≤ 100000) (hk9 : k' ≤ 100000) (hn : n + 1 < 1000000) (hnil : A = none → c = 0) :
    Calls Tryz.prog 47 #[.slice A n c, t.val] w fun e w' => ∃ P r d rs, e = .returned (.slice P r d) ∧ PolyNf w' P r d rs (k + k' + 1) E ∧ Eqv (trms rs) (trms ds ++ [(t.L, q)]) ∧ rs.length ≤ n + 1 ∧ (P = none → d = 0) ∧ Below w.heap.size w w' := by
  obtain ⟨x0, x1, x2, x3, x4, x5, x6, x7, hL⟩ := eight hM.1
  rw [Tm.val_eq hL]
  obtain ⟨h0, hh0⟩ : ∃ h0, w.heap.size = h0 := ⟨_, rfl⟩
  have T0 : TmAt h0 t (w.alloc (.cells t.cells.toArray 55)) := by rw [← hh0]; exact TmAt.new w _ hM.1
  have hcl : t.cells = [.int .i64 x0, .int .i64 x1, .int .i64 x2, .int .i64 x3, .int .i64 x4, .int .i64 x5, .int .i64 x6, .int .i64 x7, .bool t.s, .slice t.A t.n t.c, .slice t.B t.m t.d] := by unfold Tm.cells; rw [hL]; rfl
  rw [hcl] at T0
  obtain ⟨u, hu⟩ : ∃ u, w.alloc (.cells #[.int .i64 x0, .int .i64 x1, .int .i64 x2, .int .i64 x3, .int .i64 x4, .int .i64 x5, .int .i64 x6, .int .i64 x7, .bool t.s, .slice t.A t.n t.c, .slice t.B t.m t.d] 55) = u := ⟨_, rfl⟩
  have hbu : Below w.heap.size w u := hu ▸ (Below.refl _ w).alloc (Nat.le_refl _) _
  have hus : u.heap.size = h0 + 1 := by rw [← hu, ← hh0]; simp
  have T0 : TmAt h0 t u := by rw [← hu]; exact T0
  have HT := Lib.hid T0
  have HU := Lib.hid hu
  have HH := Lib.hid hh0
  have HLL := Lib.hid hL
  have HD := Lib.hid (hd.below hbu)
  have HDW := Lib.hid hd
  have HBU := Lib.hid hbu
  have HLO := Lib.hid (ht.below hbu)
  have HM := Lib.hid hM
  have HLOW : Hid (∀ x ∈ ds, x.1.lies (· ≠ h0)) := fun x hx => (hd.rn x hx).old.mono fun i hi => by omega
  have hlen := hd.rd.len
  have HLEN := Lib.hid hlen
  clear hu T0 hh0 hL hd hbu ht hcl hM hlen
  go_enter Tryz.func47, Tryz.ntmps47
  go_wp2
  rw [HU.out, HH.out]
  go_loopw [5, 6] (fun lv hv wr => ∃ lo hi : Nat, lv = .int .i64 lo ∧ hv = .int .i64 hi ∧ lo ≤ hi ∧ hi ≤ n ∧ Below u.heap.size u wr ∧ Hid (∀ x ∈ ds.take lo, mlt t.L x.1.L = true) ∧ Hid (∀ x ∈ ds.drop hi, mlt t.L x.1.L = false)) (fun lv hv _ => (intOf hv).toNat - (intOf lv).toNat)
  case atStart => exact ⟨0, n, rfl, rfl, Nat.zero_le _, Nat.le_refl _, Below.refl _ _, fun x hx => by simp at hx, fun x hx => by rw [List.drop_of_length_le (by rw [← HLEN.out]; exact Nat.le_refl _)] at hx; cases hx⟩
  case round =>
    obtain ⟨lo, hi, rfl, rfl, hlh, hhn, hB, HG, HL⟩ := hrel
    by_cases hlt : lo < hi
    · have hlt2 : (lo : Int) < hi := by omega
      obtain ⟨m, hm⟩ : ∃ m : Nat, ((lo : Int) + hi) / 2 = m := ⟨(lo + hi) / 2, by omega⟩
      have hml : lo ≤ m := by omega
      have hmh : m < hi := by omega
      have hmn : m < n := by omega
      have hmi : (m : Int) < n := by omega
      obtain ⟨g, x, rfl, hgl, hx, hMx, hlo, hxt, hrow, h8⟩ := ((HD.out.below hB).rd).get hmn
      obtain ⟨y0, y1, y2, y3, y4, y5, y6, y7, hY⟩ := eight hMx.1
      obtain ⟨c0, c1, c2, c3, c4, c5, c6, c7, c8, c9, c10⟩ := row_cells hrow h8 (by rw [tms_length, HLEN.out]) hxt hY
      obtain ⟨f0, f1, f2, f3, f4, f5, f6, f7, f8, f9, f10⟩ := (HT.out.far (hB.block h0 (by omega))).box HLL.out
      obtain ⟨r, hr⟩ : ∃ r, mlt t.L x.1.L = r := ⟨_, rfl⟩
      have HGR : Hid (∀ W, Calls Tryz.prog 79 #[.agg #[.int .i64 y0, .int .i64 y1, .int .i64 y2, .int .i64 y3, .int .i64 y4, .int .i64 y5, .int .i64 y6, .int .i64 y7], .agg #[.int .i64 x0, .int .i64 x1, .int .i64 x2, .int .i64 x3, .int .i64 x4, .int .i64 x5, .int .i64 x6, .int .i64 x7]] W fun e w' => e = .returned (.bool r) ∧ Below W.heap.size W w') := fun W => by
        have h := refGreater_x (x0 := y0) (x1 := y1) (x2 := y2) (x3 := y3) (x4 := y4) (x5 := y5) (x6 := y6) (x7 := y7) (y0 := x0) (y1 := x1) (y2 := x2) (y3 := x3) (y4 := x4) (y5 := x5) (y6 := x6) (y7 := x7) W
        rw [← HLL.out, ← hY, hr] at h
        exact h
      have HX := Lib.hid hx
      have HR := Lib.hid hr
      clear hx hMx hlo hxt hrow h8 hY hr
      go_wp2_with fail
      rw [hm]
      have HMM := Lib.hid hm
      clear hm
      go_region_with (go_at_call 79; refine (HGR.out _).mono ?_; rintro e w2 ⟨rfl, b2⟩)
      all_goals
        have hB2 := nextB hB.drew b2
        clear c0 c1 c2 c3 c4 c5 c6 c7 c8 c9 c10 f0 f1 f2 f3 f4 f5 f6 f7 f8 f9 f10 HGR b2
        cases r with
        | true =>
          have HN : Hid (∀ y ∈ ds.take (m + 1), mlt t.L y.1.L = true) := take_gt HD.out.norml HX.out HR.out
          clear HG
          go_wp2
          go_roundw
          case rel => exact ⟨m + 1, hi, by go_num, rfl, by omega, hhn, hB2, HN, HL⟩
          case measure => simp [intOf] <;> omega
        | false =>
          have HN : Hid (∀ y ∈ ds.drop m, mlt t.L y.1.L = false) := drop_le HD.out.norml HX.out HR.out
          clear HL
          go_wp2
          go_roundw
          case rel => exact ⟨lo, m, rfl, by go_num, by omega, by omega, hB2, HG, HN⟩
          case measure => simp [intOf] <;> omega
    · obtain rfl : lo = hi := by omega
      have hbase : h0 + 1 ≤ wr.heap.size := hus ▸ hB.size
      have hBw := nextB HBU.out hB
      obtain ⟨ti, zt, hti, hz1, hz2, hs1, hbt⟩ := termInfo2
      have hby : (0 + lo) * ti.bytes ≤ 140737488355328 := Nat.le_trans (Nat.mul_le_mul (show 0 + lo ≤ 1000000 by omega) hbt) (by decide)
      go_upto_region 7 with fail
      go_cut [8] (fun u8 wx => ∃ A1 c1, u8 = .slice A1 lo c1 ∧ Hid (OutRow (h0 + 1) A1 lo c1 (ds.take lo) k wx) ∧ Below u.heap.size u wx)
      case first =>
        cases A with
        | none =>
          obtain rfl : c = 0 := hnil rfl
          have hn0 : n = 0 := by
            rcases Nat.eq_zero_or_pos n with h | h
            · exact h
            · obtain ⟨g, e, _⟩ := HD.out.rd.row h; cases e
          obtain rfl : lo = 0 := by omega
          subst hn0
          have HB := Lib.hid hB
          clear hB hBw
          go_wp2_with (at_builtin; refine wpList_append_own_none rfl _ _ 26 rfl (h0 + 1) 55 ti 11 Tryz.underlying26 hti (.slice none 0 0) 0 [] rfl (World.ownsRow_nil _ _ _ _) rfl ?_)
          go_meet
          exact ⟨none, 0, rfl, (OutRow.nil (h0 + 1) k wr : OutRow _ _ _ _ (ds.take 0) _ _), HB.out⟩
        | some ad =>
          have hnews := (HD.out.below hB).rd.news lo hhn
          have hlens : (rowOf (tms (ds.take lo))).length = lo * 11 := (HD.out.rd.newsLen lo hhn)
          have hone := rowOf_one (tms (ds.take lo))
          have hnc := HD.out.rd.cap
          have HN := Lib.hid hnews
          have HLS := Lib.hid hlens
          clear hnews hlens
          go_wp2_with (at_builtin; refine wpList_append_own_at _ rfl _ _ 26 rfl (h0 + 1) 55 ti zt 11 ti.bytes Tryz.underlying26 hti hz1 hs1 rfl hz2 (by decide) (.slice none 0 0) 0 [] rfl (World.ownsRow_nil _ _ _ _) ad lo c (rowOf (tms (ds.take lo))) rfl HLS.out HN.out hone (by simp [maxLen]; omega) hby hbase ?_)
          intro v' w8 hown hgrow _ hat
          have hll : (ds.take lo).length = lo := by rw [List.length_take, ← HLEN.out]; omega
          obtain ⟨A1, c1, hv', hO⟩ := (OutRow.nil (h0 + 1) k wr).push (es := ds.take lo) (v' := v') (W' := w8) (by rw [hll, Nat.zero_add]; exact hown) hgrow (hat.imp id fun h => h) (fun x hx => (HD.out.below hB).rn x (List.mem_of_mem_take hx)) (fun x hx => ⟨fun _ _ _ _ hb => (nomatch hb), fun _ _ _ _ hb => (nomatch hb)⟩)
          rw [hll, Nat.zero_add] at hv' hO
          subst hv'
          have hB8 : Below u.heap.size u w8 := hB.trans ⟨hgrow.os, hgrow.tape, hgrow.output, hgrow.size, fun j hj => hgrow.block j (by omega) (by simp [Value.ownBlock])⟩
          have HO := Lib.hid hO
          clear hO hown hgrow hat hB hBw HN
          go_wp2
          go_meet
          exact ⟨A1, c1, rfl, HO, hB8⟩
      case rest =>
        obtain ⟨A1, c1, rfl, HO, hB8⟩ := hcut
        clear hB hBw hbase
        go_upto_region 8 with fail
        go_cut [46] (fun u46 wy => ∃ b : Bool, u46 = .bool b ∧ Hid (if b then lo < n ∧ ∃ x, ds[lo]? = some x ∧ x.1.L = t.L else ∀ x, ds[lo]? = some x → x.1.L ≠ t.L) ∧ Hid (OutRow (h0 + 1) A1 lo c1 (ds.take lo) k wy) ∧ Below u.heap.size u wy)
        case first =>
          have hBw8 := nextB HBU.out hB8
          have T8 := HT.out.far (hB8.block h0 (by omega))
          by_cases hmn : lo < n
          · have hmi : (lo : Int) < n := by omega
            obtain ⟨g, x, rfl, hgl, hx, hMx, hlo, hxt, hrow, h8⟩ := ((HD.out.below hB8).rd).get hmn
            obtain ⟨y0, y1, y2, y3, y4, y5, y6, y7, hY⟩ := eight hMx.1
            have hgu : g < u.heap.size := (HD.out.rd.get hmn).elim fun g' h => by
              obtain ⟨x', e, h', _⟩ := h
              injection e with e; injection e with e; omega

            have RB : RowBox g lo y0 y1 y2 y3 y4 y5 y6 y7 x.1 wc := row_cells hrow h8 (by rw [tms_length, HLEN.out]) hxt hY
            have TB := T8.box HLL.out
            have hgx : g < wc.heap.size := by have := hB8.size; omega
            have HSB : Hid (∀ W, Below wc.heap.size wc W → RowBox g lo y0 y1 y2 y3 y4 y5 y6 y7 x.1 W ∧ TermBox h0 x0 x1 x2 x3 x4 x5 x6 x7 t W) := fun W hW => ⟨RB.below hW hgx, TB.far (hW.block h0 (by have := hB8.size; omega))⟩
            have hek : Expo y0 ∧ Expo y1 ∧ Expo y2 ∧ Expo y3 ∧ Expo y4 ∧ Expo y5 ∧ Expo y6 ∧ Expo y7 := by
              have h := (hMx.mono8 hE).2
              rw [hY] at h
              simpa using h
            have hex : Expo x0 ∧ Expo x1 ∧ Expo x2 ∧ Expo x3 ∧ Expo x4 ∧ Expo x5 ∧ Expo x6 ∧ Expo x7 := by
              have h := (HM.out.mono8 hE).2
              rw [HLL.out] at h
              simpa using h
            obtain ⟨r, hr⟩ : ∃ r, decide ([y0, y1, y2, y3, y4, y5, y6, y7] = [x0, x1, x2, x3, x4, x5, x6, x7]) = r := ⟨_, rfl⟩
            have HEQ : Hid (∀ w, (Op.equalIn 10000 50 (.agg #[.int .i64 y0, .int .i64 y1, .int .i64 y2, .int .i64 y3, .int .i64 y4, .int .i64 y5, .int .i64 y6, .int .i64 y7]) (.agg #[.int .i64 x0, .int .i64 x1, .int .i64 x2, .int .i64 x3, .int .i64 x4, .int .i64 x5, .int .i64 x6, .int .i64 x7])).run Tryz.prog w = .ok r w) := fun w => by rw [← hr]; exact equalIn_dec hek hex w
            have HR := Lib.hid hr
            have HX := Lib.hid hx
            have HY := Lib.hid hY
            have HLX := Lib.hid ((HD.out.rn x (List.mem_of_getElem? hx)).loose)

            have HO8 := Lib.hid HO.out
            clear hr hx hY hMx hlo hxt hrow h8 hek hex RB TB HO

            cases r with
            | true =>
              go_wp2_with fail
              refine wp_region_held_drew (S := (fun W => RowBox g lo y0 y1 y2 y3 y4 y5 y6 y7 x.1 W ∧ TermBox h0 x0 x1 x2 x3 x4 x5 x6 x7 t W)) (by kernel_rfl) ?_ (fun hHeld => ?_)
              · exact HSB.out _ (Below.refl _ _).drew
              refine wpAnyH_take (i := 0) (oi := ⟨some 33, _, _, _, _, _⟩) (v := ?_) rfl (by kernel_rfl) (by kernel_rfl) (by kernel_rfl) (fun _ _ _ h => h) (Or.inl ⟨by rfl, ?_⟩) (by assumption) ?_
              rotate_left
              · intro w hSw
                (try dsimp only at hSw)
                unfold RowBox TermBox at hSw
                obtain ⟨⟨h0, h1, h2, h3, h4, h5, h6, h7, h8, h9, h10⟩, j0, j1, j2, j3, j4, j5, j6, j7, j8, j9, j10⟩ := hSw
                go_simp
                try with_reducible rfl
              try simp only [Act.put, List.setIfInBounds_toArray, List.set_cons_zero, List.set_cons_succ]
              refine wpAnyH_take (i := 1) (oi := ⟨some 34, _, _, _, _, _⟩) (v := ?_) rfl (by kernel_rfl) (by kernel_rfl) (by kernel_rfl) (fun _ _ _ h => h) (Or.inl ⟨by rfl, ?_⟩) (by assumption) ?_
              rotate_left
              · intro w hSw
                (try dsimp only at hSw)
                unfold RowBox TermBox at hSw
                obtain ⟨⟨h0, h1, h2, h3, h4, h5, h6, h7, h8, h9, h10⟩, j0, j1, j2, j3, j4, j5, j6, j7, j8, j9, j10⟩ := hSw
                go_simp
                try with_reducible rfl
              try simp only [Act.put, List.setIfInBounds_toArray, List.set_cons_zero, List.set_cons_succ]
              refine wpAnyH_take (i := 2) (oi := ⟨some 35, _, _, _, _, _⟩) (v := ?_) rfl (by kernel_rfl) (by kernel_rfl) (by kernel_rfl) (fun _ _ _ h => h) (Or.inl ⟨by rfl, ?_⟩) (by assumption) ?_
              rotate_left
              · intro w hSw
                (try dsimp only at hSw)
                unfold RowBox TermBox at hSw
                obtain ⟨⟨h0, h1, h2, h3, h4, h5, h6, h7, h8, h9, h10⟩, j0, j1, j2, j3, j4, j5, j6, j7, j8, j9, j10⟩ := hSw
                go_simp
                try with_reducible rfl
              try simp only [Act.put, List.setIfInBounds_toArray, List.set_cons_zero, List.set_cons_succ]
              refine wpAnyH_take (i := 3) (oi := ⟨some 36, _, _, _, _, _⟩) (v := ?_) rfl (by kernel_rfl) (by kernel_rfl) (by kernel_rfl) (fun _ _ _ h => h) (Or.inl ⟨by rfl, ?_⟩) (by assumption) ?_
              rotate_left
              · intro w hSw
                (try dsimp only at hSw)
                unfold RowBox TermBox at hSw
                obtain ⟨⟨h0, h1, h2, h3, h4, h5, h6, h7, h8, h9, h10⟩, j0, j1, j2, j3, j4, j5, j6, j7, j8, j9, j10⟩ := hSw
                go_simp
                try with_reducible rfl
              try simp only [Act.put, List.setIfInBounds_toArray, List.set_cons_zero, List.set_cons_succ]
              refine wpAnyH_take (i := 4) (oi := ⟨some 37, _, _, _, _, _⟩) (v := ?_) rfl (by kernel_rfl) (by kernel_rfl) (by kernel_rfl) (fun _ _ _ h => h) (Or.inl ⟨by rfl, ?_⟩) (by assumption) ?_
              rotate_left
              · intro w hSw
                (try dsimp only at hSw)
                unfold RowBox TermBox at hSw
                obtain ⟨⟨h0, h1, h2, h3, h4, h5, h6, h7, h8, h9, h10⟩, j0, j1, j2, j3, j4, j5, j6, j7, j8, j9, j10⟩ := hSw
                go_simp
                try with_reducible rfl
              try simp only [Act.put, List.setIfInBounds_toArray, List.set_cons_zero, List.set_cons_succ]
              refine wpAnyH_take (i := 5) (oi := ⟨some 38, _, _, _, _, _⟩) (v := ?_) rfl (by kernel_rfl) (by kernel_rfl) (by kernel_rfl) (fun _ _ _ h => h) (Or.inl ⟨by rfl, ?_⟩) (by assumption) ?_
              rotate_left
              · intro w hSw
                (try dsimp only at hSw)
                unfold RowBox TermBox at hSw
                obtain ⟨⟨h0, h1, h2, h3, h4, h5, h6, h7, h8, h9, h10⟩, j0, j1, j2, j3, j4, j5, j6, j7, j8, j9, j10⟩ := hSw
                go_simp
                try with_reducible rfl
              try simp only [Act.put, List.setIfInBounds_toArray, List.set_cons_zero, List.set_cons_succ]
              refine wpAnyH_take (i := 6) (oi := ⟨some 39, _, _, _, _, _⟩) (v := ?_) rfl (by kernel_rfl) (by kernel_rfl) (by kernel_rfl) (fun _ _ _ h => h) (Or.inl ⟨by rfl, ?_⟩) (by assumption) ?_
              rotate_left
              · intro w hSw
                (try dsimp only at hSw)
                unfold RowBox TermBox at hSw
                obtain ⟨⟨h0, h1, h2, h3, h4, h5, h6, h7, h8, h9, h10⟩, j0, j1, j2, j3, j4, j5, j6, j7, j8, j9, j10⟩ := hSw
                go_simp
                try with_reducible rfl
              try simp only [Act.put, List.setIfInBounds_toArray, List.set_cons_zero, List.set_cons_succ]
              refine wpAnyH_take (i := 7) (oi := ⟨some 40, _, _, _, _, _⟩) (v := ?_) rfl (by kernel_rfl) (by kernel_rfl) (by kernel_rfl) (fun _ _ _ h => h) (Or.inl ⟨by rfl, ?_⟩) (by assumption) ?_
              rotate_left
              · intro w hSw
                (try dsimp only at hSw)
                unfold RowBox TermBox at hSw
                obtain ⟨⟨h0, h1, h2, h3, h4, h5, h6, h7, h8, h9, h10⟩, j0, j1, j2, j3, j4, j5, j6, j7, j8, j9, j10⟩ := hSw
                go_simp
                try with_reducible rfl
              try simp only [Act.put, List.setIfInBounds_toArray, List.set_cons_zero, List.set_cons_succ]
              refine wpAnyH_take (i := 8) (oi := ⟨some 41, _, _, _, _, _⟩) (v := ?_) rfl (by kernel_rfl) (by kernel_rfl) (by kernel_rfl) (fun _ _ _ h => h) (Or.inl ⟨by rfl, ?_⟩) (by assumption) ?_
              rotate_left
              · intro w hSw
                (try dsimp only at hSw)
                unfold RowBox TermBox at hSw
                obtain ⟨⟨h0, h1, h2, h3, h4, h5, h6, h7, h8, h9, h10⟩, j0, j1, j2, j3, j4, j5, j6, j7, j8, j9, j10⟩ := hSw
                go_simp
                try with_reducible rfl
              try simp only [Act.put, List.setIfInBounds_toArray, List.set_cons_zero, List.set_cons_succ]
              refine wpAnyH_take (i := 9) (oi := ⟨some 42, _, _, _, _, _⟩) (v := ?_) rfl (by kernel_rfl) (by kernel_rfl) (by kernel_rfl) (fun _ _ _ h => h) (Or.inl ⟨by rfl, ?_⟩) (by assumption) ?_
              rotate_left
              · intro w hSw
                (try dsimp only at hSw)
                unfold RowBox TermBox at hSw
                obtain ⟨⟨h0, h1, h2, h3, h4, h5, h6, h7, h8, h9, h10⟩, j0, j1, j2, j3, j4, j5, j6, j7, j8, j9, j10⟩ := hSw
                go_simp
                try with_reducible rfl
              try simp only [Act.put, List.setIfInBounds_toArray, List.set_cons_zero, List.set_cons_succ]
              refine wpAnyH_take (i := 10) (oi := ⟨some 43, _, _, _, _, _⟩) (v := ?_) rfl (by kernel_rfl) (by kernel_rfl) (by kernel_rfl) (fun _ _ _ h => h) (Or.inl ⟨by rfl, ?_⟩) (by assumption) ?_
              rotate_left
              · intro w hSw
                (try dsimp only at hSw)
                unfold RowBox TermBox at hSw
                obtain ⟨⟨h0, h1, h2, h3, h4, h5, h6, h7, h8, h9, h10⟩, j0, j1, j2, j3, j4, j5, j6, j7, j8, j9, j10⟩ := hSw
                go_simp
                try with_reducible rfl
              try simp only [Act.put, List.setIfInBounds_toArray, List.set_cons_zero, List.set_cons_succ]
              refine wpAnyH_take (i := 11) (oi := ⟨some 44, _, _, _, _, _⟩) (v := ?_) rfl (by kernel_rfl) (by kernel_rfl) (by kernel_rfl) (fun _ _ _ h => h) (Or.inl ⟨by rfl, ?_⟩) (by assumption) ?_
              rotate_left
              · intro w hSw
                (try dsimp only at hSw)
                unfold RowBox TermBox at hSw
                obtain ⟨⟨h0, h1, h2, h3, h4, h5, h6, h7, h8, h9, h10⟩, j0, j1, j2, j3, j4, j5, j6, j7, j8, j9, j10⟩ := hSw
                go_simp
                try with_reducible rfl
              try simp only [Act.put, List.setIfInBounds_toArray, List.set_cons_zero, List.set_cons_succ]
              refine wpAnyH_take (i := 12) (oi := ⟨some 45, _, _, _, _, _⟩) (v := ?_) rfl (by kernel_rfl) (by kernel_rfl) (by kernel_rfl) (fun _ _ _ h => h) (Or.inl ⟨by rfl, ?_⟩) (by assumption) ?_
              rotate_left
              · intro w hSw
                (try dsimp only at hSw)
                unfold RowBox TermBox at hSw
                obtain ⟨⟨h0, h1, h2, h3, h4, h5, h6, h7, h8, h9, h10⟩, j0, j1, j2, j3, j4, j5, j6, j7, j8, j9, j10⟩ := hSw
                go_simp
                rw [HEQ.out]
                simp only [Result.andThen_ok]
                try with_reducible rfl
              try simp only [Act.put, List.setIfInBounds_toArray, List.set_cons_zero, List.set_cons_succ]
              refine wpAnyH_take (i := 13) (oi := ⟨some 46, _, _, _, _, _⟩) (v := ?_) rfl (by kernel_rfl) (by kernel_rfl) (by kernel_rfl) (fun _ _ _ h => h) (Or.inl ⟨by rfl, ?_⟩) (by assumption) ?_
              rotate_left
              · intro w hSw
                (try dsimp only at hSw)
                unfold RowBox TermBox at hSw
                obtain ⟨⟨h0, h1, h2, h3, h4, h5, h6, h7, h8, h9, h10⟩, j0, j1, j2, j3, j4, j5, j6, j7, j8, j9, j10⟩ := hSw
                go_simp
                try with_reducible rfl
              try simp only [Act.put, List.setIfInBounds_toArray, List.set_cons_zero, List.set_cons_succ]
              refine wpAnyH_done (by kernel_rfl) ?_ _
              have hmeq : Hid (x.1.L = t.L) := by
                show _ = _
                rw [HY.out, HLL.out]
                exact of_decide_eq_true HR.out
              have HO9 := Lib.hid (HO8.out.below (Below.refl _ wc).drew)
              go_wp2
              go_meet
              exact ⟨true, rfl, ⟨hmn, x, HX.out, hmeq.out⟩, HO9, hB8.drew⟩
            | false =>
              go_wp2_with fail
              refine wp_region_held_drew (S := (fun W => RowBox g lo y0 y1 y2 y3 y4 y5 y6 y7 x.1 W ∧ TermBox h0 x0 x1 x2 x3 x4 x5 x6 x7 t W)) (by kernel_rfl) ?_ (fun hHeld => ?_)
              · exact HSB.out _ (Below.refl _ _).drew
              refine wpAnyH_take (i := 0) (oi := ⟨some 33, _, _, _, _, _⟩) (v := ?_) rfl (by kernel_rfl) (by kernel_rfl) (by kernel_rfl) (fun _ _ _ h => h) (Or.inl ⟨by rfl, ?_⟩) (by assumption) ?_
              rotate_left
              · intro w hSw
                (try dsimp only at hSw)
                unfold RowBox TermBox at hSw
                obtain ⟨⟨h0, h1, h2, h3, h4, h5, h6, h7, h8, h9, h10⟩, j0, j1, j2, j3, j4, j5, j6, j7, j8, j9, j10⟩ := hSw
                go_simp
                try with_reducible rfl
              try simp only [Act.put, List.setIfInBounds_toArray, List.set_cons_zero, List.set_cons_succ]
              refine wpAnyH_take (i := 1) (oi := ⟨some 34, _, _, _, _, _⟩) (v := ?_) rfl (by kernel_rfl) (by kernel_rfl) (by kernel_rfl) (fun _ _ _ h => h) (Or.inl ⟨by rfl, ?_⟩) (by assumption) ?_
              rotate_left
              · intro w hSw
                (try dsimp only at hSw)
                unfold RowBox TermBox at hSw
                obtain ⟨⟨h0, h1, h2, h3, h4, h5, h6, h7, h8, h9, h10⟩, j0, j1, j2, j3, j4, j5, j6, j7, j8, j9, j10⟩ := hSw
                go_simp
                try with_reducible rfl
              try simp only [Act.put, List.setIfInBounds_toArray, List.set_cons_zero, List.set_cons_succ]
              refine wpAnyH_take (i := 2) (oi := ⟨some 35, _, _, _, _, _⟩) (v := ?_) rfl (by kernel_rfl) (by kernel_rfl) (by kernel_rfl) (fun _ _ _ h => h) (Or.inl ⟨by rfl, ?_⟩) (by assumption) ?_
              rotate_left
              · intro w hSw
                (try dsimp only at hSw)
                unfold RowBox TermBox at hSw
                obtain ⟨⟨h0, h1, h2, h3, h4, h5, h6, h7, h8, h9, h10⟩, j0, j1, j2, j3, j4, j5, j6, j7, j8, j9, j10⟩ := hSw
                go_simp
                try with_reducible rfl
              try simp only [Act.put, List.setIfInBounds_toArray, List.set_cons_zero, List.set_cons_succ]
              refine wpAnyH_take (i := 3) (oi := ⟨some 36, _, _, _, _, _⟩) (v := ?_) rfl (by kernel_rfl) (by kernel_rfl) (by kernel_rfl) (fun _ _ _ h => h) (Or.inl ⟨by rfl, ?_⟩) (by assumption) ?_
              rotate_left
              · intro w hSw
                (try dsimp only at hSw)
                unfold RowBox TermBox at hSw
                obtain ⟨⟨h0, h1, h2, h3, h4, h5, h6, h7, h8, h9, h10⟩, j0, j1, j2, j3, j4, j5, j6, j7, j8, j9, j10⟩ := hSw
                go_simp
                try with_reducible rfl
              try simp only [Act.put, List.setIfInBounds_toArray, List.set_cons_zero, List.set_cons_succ]
              refine wpAnyH_take (i := 4) (oi := ⟨some 37, _, _, _, _, _⟩) (v := ?_) rfl (by kernel_rfl) (by kernel_rfl) (by kernel_rfl) (fun _ _ _ h => h) (Or.inl ⟨by rfl, ?_⟩) (by assumption) ?_
              rotate_left
              · intro w hSw
                (try dsimp only at hSw)
                unfold RowBox TermBox at hSw
                obtain ⟨⟨h0, h1, h2, h3, h4, h5, h6, h7, h8, h9, h10⟩, j0, j1, j2, j3, j4, j5, j6, j7, j8, j9, j10⟩ := hSw
                go_simp
                try with_reducible rfl
              try simp only [Act.put, List.setIfInBounds_toArray, List.set_cons_zero, List.set_cons_succ]
              refine wpAnyH_take (i := 5) (oi := ⟨some 38, _, _, _, _, _⟩) (v := ?_) rfl (by kernel_rfl) (by kernel_rfl) (by kernel_rfl) (fun _ _ _ h => h) (Or.inl ⟨by rfl, ?_⟩) (by assumption) ?_
              rotate_left
              · intro w hSw
                (try dsimp only at hSw)
                unfold RowBox TermBox at hSw
                obtain ⟨⟨h0, h1, h2, h3, h4, h5, h6, h7, h8, h9, h10⟩, j0, j1, j2, j3, j4, j5, j6, j7, j8, j9, j10⟩ := hSw
                go_simp
                try with_reducible rfl
              try simp only [Act.put, List.setIfInBounds_toArray, List.set_cons_zero, List.set_cons_succ]
              refine wpAnyH_take (i := 6) (oi := ⟨some 39, _, _, _, _, _⟩) (v := ?_) rfl (by kernel_rfl) (by kernel_rfl) (by kernel_rfl) (fun _ _ _ h => h) (Or.inl ⟨by rfl, ?_⟩) (by assumption) ?_
              rotate_left
              · intro w hSw
                (try dsimp only at hSw)
                unfold RowBox TermBox at hSw
                obtain ⟨⟨h0, h1, h2, h3, h4, h5, h6, h7, h8, h9, h10⟩, j0, j1, j2, j3, j4, j5, j6, j7, j8, j9, j10⟩ := hSw
                go_simp
                try with_reducible rfl
              try simp only [Act.put, List.setIfInBounds_toArray, List.set_cons_zero, List.set_cons_succ]
              refine wpAnyH_take (i := 7) (oi := ⟨some 40, _, _, _, _, _⟩) (v := ?_) rfl (by kernel_rfl) (by kernel_rfl) (by kernel_rfl) (fun _ _ _ h => h) (Or.inl ⟨by rfl, ?_⟩) (by assumption) ?_
              rotate_left
              · intro w hSw
                (try dsimp only at hSw)
                unfold RowBox TermBox at hSw
                obtain ⟨⟨h0, h1, h2, h3, h4, h5, h6, h7, h8, h9, h10⟩, j0, j1, j2, j3, j4, j5, j6, j7, j8, j9, j10⟩ := hSw
                go_simp
                try with_reducible rfl
              try simp only [Act.put, List.setIfInBounds_toArray, List.set_cons_zero, List.set_cons_succ]
              refine wpAnyH_take (i := 8) (oi := ⟨some 41, _, _, _, _, _⟩) (v := ?_) rfl (by kernel_rfl) (by kernel_rfl) (by kernel_rfl) (fun _ _ _ h => h) (Or.inl ⟨by rfl, ?_⟩) (by assumption) ?_
              rotate_left
              · intro w hSw
                (try dsimp only at hSw)
                unfold RowBox TermBox at hSw
                obtain ⟨⟨h0, h1, h2, h3, h4, h5, h6, h7, h8, h9, h10⟩, j0, j1, j2, j3, j4, j5, j6, j7, j8, j9, j10⟩ := hSw
                go_simp
                try with_reducible rfl
              try simp only [Act.put, List.setIfInBounds_toArray, List.set_cons_zero, List.set_cons_succ]
              refine wpAnyH_take (i := 9) (oi := ⟨some 42, _, _, _, _, _⟩) (v := ?_) rfl (by kernel_rfl) (by kernel_rfl) (by kernel_rfl) (fun _ _ _ h => h) (Or.inl ⟨by rfl, ?_⟩) (by assumption) ?_
              rotate_left
              · intro w hSw
                (try dsimp only at hSw)
                unfold RowBox TermBox at hSw
                obtain ⟨⟨h0, h1, h2, h3, h4, h5, h6, h7, h8, h9, h10⟩, j0, j1, j2, j3, j4, j5, j6, j7, j8, j9, j10⟩ := hSw
                go_simp
                try with_reducible rfl
              try simp only [Act.put, List.setIfInBounds_toArray, List.set_cons_zero, List.set_cons_succ]
              refine wpAnyH_take (i := 10) (oi := ⟨some 43, _, _, _, _, _⟩) (v := ?_) rfl (by kernel_rfl) (by kernel_rfl) (by kernel_rfl) (fun _ _ _ h => h) (Or.inl ⟨by rfl, ?_⟩) (by assumption) ?_
              rotate_left
              · intro w hSw
                (try dsimp only at hSw)
                unfold RowBox TermBox at hSw
                obtain ⟨⟨h0, h1, h2, h3, h4, h5, h6, h7, h8, h9, h10⟩, j0, j1, j2, j3, j4, j5, j6, j7, j8, j9, j10⟩ := hSw
                go_simp
                try with_reducible rfl
              try simp only [Act.put, List.setIfInBounds_toArray, List.set_cons_zero, List.set_cons_succ]
              refine wpAnyH_take (i := 11) (oi := ⟨some 44, _, _, _, _, _⟩) (v := ?_) rfl (by kernel_rfl) (by kernel_rfl) (by kernel_rfl) (fun _ _ _ h => h) (Or.inl ⟨by rfl, ?_⟩) (by assumption) ?_
              rotate_left
              · intro w hSw
                (try dsimp only at hSw)
                unfold RowBox TermBox at hSw
                obtain ⟨⟨h0, h1, h2, h3, h4, h5, h6, h7, h8, h9, h10⟩, j0, j1, j2, j3, j4, j5, j6, j7, j8, j9, j10⟩ := hSw
                go_simp
                try with_reducible rfl
              try simp only [Act.put, List.setIfInBounds_toArray, List.set_cons_zero, List.set_cons_succ]
              refine wpAnyH_take (i := 12) (oi := ⟨some 45, _, _, _, _, _⟩) (v := ?_) rfl (by kernel_rfl) (by kernel_rfl) (by kernel_rfl) (fun _ _ _ h => h) (Or.inl ⟨by rfl, ?_⟩) (by assumption) ?_
              rotate_left
              · intro w hSw
                (try dsimp only at hSw)
                unfold RowBox TermBox at hSw
                obtain ⟨⟨h0, h1, h2, h3, h4, h5, h6, h7, h8, h9, h10⟩, j0, j1, j2, j3, j4, j5, j6, j7, j8, j9, j10⟩ := hSw
                go_simp
                rw [HEQ.out]
                simp only [Result.andThen_ok]
                try with_reducible rfl
              try simp only [Act.put, List.setIfInBounds_toArray, List.set_cons_zero, List.set_cons_succ]
              refine wpAnyH_take (i := 13) (oi := ⟨some 46, _, _, _, _, _⟩) (v := ?_) rfl (by kernel_rfl) (by kernel_rfl) (by kernel_rfl) (fun _ _ _ h => h) (Or.inl ⟨by rfl, ?_⟩) (by assumption) ?_
              rotate_left
              · intro w hSw
                (try dsimp only at hSw)
                unfold RowBox TermBox at hSw
                obtain ⟨⟨h0, h1, h2, h3, h4, h5, h6, h7, h8, h9, h10⟩, j0, j1, j2, j3, j4, j5, j6, j7, j8, j9, j10⟩ := hSw
                go_simp
                try with_reducible rfl
              try simp only [Act.put, List.setIfInBounds_toArray, List.set_cons_zero, List.set_cons_succ]
              refine wpAnyH_done (by kernel_rfl) ?_ _
              have hmne : Hid (∀ x', ds[lo]? = some x' → x'.1.L ≠ t.L) := fun x' hx' e => by
                rw [HX.out] at hx'
                injection hx' with hx'
                subst hx'
                rw [HY.out, HLL.out] at e
                exact of_decide_eq_false HR.out e
              have HO9 := Lib.hid (HO8.out.below (Below.refl _ wc).drew)
              go_wp2
              go_meet
              exact ⟨false, rfl, hmne.out, HO9, hB8.drew⟩
          · obtain rfl : lo = n := by omega
            go_wp2_with fail
            refine wp_region_held_drew (S := (fun _ => True)) (by kernel_rfl) ?_ (fun hHeld => ?_)
            · trivial
            refine wpAnyH_take (i := 0) (oi := ⟨some 33, _, _, _, _, _⟩) (v := ?_) rfl (by kernel_rfl) (by kernel_rfl) (by kernel_rfl) (fun _ _ _ h => h) (Or.inl ⟨by rfl, ?_⟩) (by assumption) ?_
            rotate_left
            · intro w hSw
              (try dsimp only at hSw)
              go_simp
              try with_reducible rfl
            try simp only [Act.put, List.setIfInBounds_toArray, List.set_cons_zero, List.set_cons_succ]
            refine wpAnyH_take (i := 1) (oi := ⟨some 34, _, _, _, _, _⟩) (v := ?_) rfl (by kernel_rfl) (by kernel_rfl) (by kernel_rfl) (fun _ _ _ h => h) (Or.inl ⟨by rfl, ?_⟩) (by assumption) ?_
            rotate_left
            · intro w hSw
              (try dsimp only at hSw)
              go_simp
              try with_reducible rfl
            try simp only [Act.put, List.setIfInBounds_toArray, List.set_cons_zero, List.set_cons_succ]
            refine wpAnyH_take (i := 2) (oi := ⟨some 35, _, _, _, _, _⟩) (v := ?_) rfl (by kernel_rfl) (by kernel_rfl) (by kernel_rfl) (fun _ _ _ h => h) (Or.inl ⟨by rfl, ?_⟩) (by assumption) ?_
            rotate_left
            · intro w hSw
              (try dsimp only at hSw)
              go_simp
              try with_reducible rfl
            try simp only [Act.put, List.setIfInBounds_toArray, List.set_cons_zero, List.set_cons_succ]
            refine wpAnyH_take (i := 3) (oi := ⟨some 36, _, _, _, _, _⟩) (v := ?_) rfl (by kernel_rfl) (by kernel_rfl) (by kernel_rfl) (fun _ _ _ h => h) (Or.inl ⟨by rfl, ?_⟩) (by assumption) ?_
            rotate_left
            · intro w hSw
              (try dsimp only at hSw)
              go_simp
              try with_reducible rfl
            try simp only [Act.put, List.setIfInBounds_toArray, List.set_cons_zero, List.set_cons_succ]
            refine wpAnyH_take (i := 4) (oi := ⟨some 37, _, _, _, _, _⟩) (v := ?_) rfl (by kernel_rfl) (by kernel_rfl) (by kernel_rfl) (fun _ _ _ h => h) (Or.inl ⟨by rfl, ?_⟩) (by assumption) ?_
            rotate_left
            · intro w hSw
              (try dsimp only at hSw)
              go_simp
              try with_reducible rfl
            try simp only [Act.put, List.setIfInBounds_toArray, List.set_cons_zero, List.set_cons_succ]
            refine wpAnyH_take (i := 5) (oi := ⟨some 38, _, _, _, _, _⟩) (v := undef) rfl (by kernel_rfl) (by kernel_rfl) (by kernel_rfl) (fun _ _ _ h => h) (Or.inr ⟨by rfl, rfl⟩) (by assumption) ?_
            try simp only [Act.put, List.setIfInBounds_toArray, List.set_cons_zero, List.set_cons_succ]
            refine wpAnyH_take (i := 6) (oi := ⟨some 39, _, _, _, _, _⟩) (v := undef) rfl (by kernel_rfl) (by kernel_rfl) (by kernel_rfl) (fun _ _ _ h => h) (Or.inr ⟨by rfl, rfl⟩) (by assumption) ?_
            try simp only [Act.put, List.setIfInBounds_toArray, List.set_cons_zero, List.set_cons_succ]
            refine wpAnyH_take (i := 7) (oi := ⟨some 40, _, _, _, _, _⟩) (v := undef) rfl (by kernel_rfl) (by kernel_rfl) (by kernel_rfl) (fun _ _ _ h => h) (Or.inr ⟨by rfl, rfl⟩) (by assumption) ?_
            try simp only [Act.put, List.setIfInBounds_toArray, List.set_cons_zero, List.set_cons_succ]
            refine wpAnyH_take (i := 8) (oi := ⟨some 41, _, _, _, _, _⟩) (v := undef) rfl (by kernel_rfl) (by kernel_rfl) (by kernel_rfl) (fun _ _ _ h => h) (Or.inr ⟨by rfl, rfl⟩) (by assumption) ?_
            try simp only [Act.put, List.setIfInBounds_toArray, List.set_cons_zero, List.set_cons_succ]
            refine wpAnyH_take (i := 9) (oi := ⟨some 42, _, _, _, _, _⟩) (v := undef) rfl (by kernel_rfl) (by kernel_rfl) (by kernel_rfl) (fun _ _ _ h => h) (Or.inr ⟨by rfl, rfl⟩) (by assumption) ?_
            try simp only [Act.put, List.setIfInBounds_toArray, List.set_cons_zero, List.set_cons_succ]
            refine wpAnyH_take (i := 10) (oi := ⟨some 43, _, _, _, _, _⟩) (v := undef) rfl (by kernel_rfl) (by kernel_rfl) (by kernel_rfl) (fun _ _ _ h => h) (Or.inr ⟨by rfl, rfl⟩) (by assumption) ?_
            try simp only [Act.put, List.setIfInBounds_toArray, List.set_cons_zero, List.set_cons_succ]
            refine wpAnyH_take (i := 11) (oi := ⟨some 44, _, _, _, _, _⟩) (v := undef) rfl (by kernel_rfl) (by kernel_rfl) (by kernel_rfl) (fun _ _ _ h => h) (Or.inr ⟨by rfl, rfl⟩) (by assumption) ?_
            try simp only [Act.put, List.setIfInBounds_toArray, List.set_cons_zero, List.set_cons_succ]
            refine wpAnyH_take (i := 12) (oi := ⟨some 45, _, _, _, _, _⟩) (v := undef) rfl (by kernel_rfl) (by kernel_rfl) (by kernel_rfl) (fun _ _ _ h => h) (Or.inr ⟨by rfl, rfl⟩) (by assumption) ?_
            try simp only [Act.put, List.setIfInBounds_toArray, List.set_cons_zero, List.set_cons_succ]
            refine wpAnyH_take (i := 13) (oi := ⟨some 46, _, _, _, _, _⟩) (v := ?_) rfl (by kernel_rfl) (by kernel_rfl) (by kernel_rfl) (fun _ _ _ h => h) (Or.inl ⟨by rfl, ?_⟩) (by assumption) ?_
            rotate_left
            · intro w hSw
              (try dsimp only at hSw)
              go_simp
              try with_reducible rfl
            try simp only [Act.put, List.setIfInBounds_toArray, List.set_cons_zero, List.set_cons_succ]
            refine wpAnyH_done (by kernel_rfl) ?_ _
            go_wp2
            go_meet
            exact ⟨false, rfl, fun x hx => (by rw [List.getElem?_eq_none (by rw [← HLEN.out]; exact Nat.le_refl _)] at hx; cases hx), HO.out.below (Below.refl _ wc).drew, hB8.drew⟩
        case rest =>
          obtain ⟨b, rfl, HBC, HO2, hB9⟩ := hcut
          clear hB8 HO
          have HO := HO2
          clear HO2
          go_upto_if 46 with fail
          go_cut [6] (fun u6 wy => ∃ (o : Nat) (t2 : Tm) (q2 : Rat), u6 = .int .i64 o ∧ Hid (TmAt h0 t2 wy) ∧ Hid (t2.loose wy q2 (k + k' + 1)) ∧ Hid (t2.L = t.L) ∧ Hid (OutRow (h0 + 1) A1 lo c1 (ds.take lo) k wy) ∧ Hid (Below w.heap.size w wy) ∧ o ≤ n ∧ Hid ((o = lo + 1 ∧ ∃ x, ds[lo]? = some x ∧ x.1.L = t.L ∧ q2 = q + x.2) ∨ (o = lo ∧ (∀ x, ds[lo]? = some x → x.1.L ≠ t.L) ∧ q2 = q)))
          case first =>
            have hBw9 := nextB HBU.out hB9
            have T9 := HT.out.far (hB9.block h0 (by omega))
            cases b with
            | false =>
              have HNE := Lib.hid (show ∀ x, ds[lo]? = some x → x.1.L ≠ t.L from HBC.out)
              clear HBC
              go_wp2
              go_meet
              exact ⟨lo, t, q, rfl, T9, ((HLO.out.below hB9).mono (by omega)), rfl, HO, hBw9, hhn, (by show _ ∨ _; exact .inr ⟨rfl, HNE.out, rfl⟩)⟩
            | true =>
              obtain ⟨hmn, x, hx, hmeq⟩ := show lo < n ∧ ∃ x, ds[lo]? = some x ∧ x.1.L = t.L from HBC.out
              have hmi : (lo : Int) < n := by omega
              obtain ⟨g, x', rfl, hgl, hx', hMx, hlo, hxt, hrow, h8⟩ := ((HD.out.below hB9).rd).get hmn
              obtain rfl : x' = x := by rw [hx] at hx'; injection hx' with h; exact h.symm
              obtain ⟨y0, y1, y2, y3, y4, y5, y6, y7, hY⟩ := eight hMx.1
              obtain ⟨c0, c1', c2, c3, c4, c5, c6, c7, c8, c9, c10⟩ := row_cells hrow h8 (by rw [tms_length, HLEN.out]) hxt hY
              obtain ⟨f0, f1, f2, f3, f4, f5, f6, f7, f8, f9, f10⟩ := T9.box HLL.out
              have HX := Lib.hid hx
              have HMEQ := Lib.hid hmeq
              have HLX := Lib.hid ((HD.out.rn x' (List.mem_of_getElem? hx)).loose)
              have HAD : Hid (∀ W, Below u.heap.size u W → Calls Tryz.prog 80 #[.agg #[.bool t.s, .slice t.A t.n t.c, .slice t.B t.m t.d], .agg #[.bool x'.1.s, .slice x'.1.A x'.1.n x'.1.c, .slice x'.1.B x'.1.m x'.1.d]] W (GivesR W (q + x'.2) (k' + k + 1))) := fun W hW => refAddR (HLO.out.below hW) (HLX.out.below hW) k1 k0 hk9 hk8
              have HFZ : Hid (∀ W, Below u.heap.size u W → ∀ j, W.frozen? ⟨h0, j, none⟩ = false) := fun W hW => (HT.out.far (hW.block h0 (by omega))).free
              clear hx hx' hMx hlo hxt hrow h8 hY hmeq HBC T9
              go_wp2_with fail
              go_region_with (go_at_call 80; refine (HAD.out _ hB9.drew).mono ?_; rintro e w9 ⟨s9, A9, n9, c9', B9, m9, d9, rfl, r9, oA9, oB9, e9⟩; have hB10 : Below u.heap.size u w9 := nextB hB9.drew e9; have fz := HFZ.out w9 hB10; have fz8 := fz 8; have fz9 := fz 9; have fz10 := fz 10; obtain ⟨k0', k1', k2', k3', k4', k5', k6', k7', k8', k9', k10'⟩ := (HT.out.far (hB10.block h0 (by omega))).box HLL.out)
              all_goals
                have h0w : w.heap.size ≤ h0 := Nat.le_of_eq HH.out
                have hT10 := (HT.out.far (hB10.block h0 (by omega))).coef (s := s9) (A := A9) (n := n9) (c := c9') (B := B9) (m := m9) (d := d9)
                have hO10 := ((HO.out.below (Below.refl _ _).drew).below e9).keeps (keeps3 (p := h0) (u := .bool s9) (v := .slice A9 n9 c9') (z := .slice B9 m9 d9)) (Nat.lt_succ_self _) (fun x hx => HLOW.out x (List.mem_of_mem_take hx))
                have hBw : Below w.heap.size w (((w9.setCell ⟨h0, 8, none⟩ (.bool s9)).setCell ⟨h0, 9, none⟩ (.slice A9 n9 c9')).setCell ⟨h0, 10, none⟩ (.slice B9 m9 d9)) := (((nextB HBU.out hB10).setCell (p := ⟨h0, 8, none⟩) h0w _).setCell (p := ⟨h0, 9, none⟩) h0w _).setCell (p := ⟨h0, 10, none⟩) h0w _
                have hsd : h0 < (World.drew _).heap.size := Nat.lt_of_lt_of_le (by omega) hB9.drew.size
                have hr10 : (t.with s9 A9 n9 c9' B9 m9 d9).loose (((w9.setCell ⟨h0, 8, none⟩ (.bool s9)).setCell ⟨h0, 9, none⟩ (.slice A9 n9 c9')).setCell ⟨h0, 10, none⟩ (.slice B9 m9 d9)) (q + x'.2) (k + k' + 1) := by
                  have h1 : (t.with s9 A9 n9 c9' B9 m9 d9).rn w9 (q + x'.2) (k' + k + 1) := r9
                  have h2 : (t.with s9 A9 n9 c9' B9 m9 d9).lies (· ≠ h0) := (Off.lies (t := t.with s9 A9 n9 c9' B9 m9 d9) oA9 oB9).mono fun i hi => by omega
                  exact ((h1.keeps keeps3 (h2.mono fun i hi => ⟨hi, hi, hi⟩)).mono (by omega)).loose
                have HT10 := Lib.hid hT10
                have HO10 := Lib.hid hO10
                have HB10 := Lib.hid hBw
                have HR10 := Lib.hid hr10
                clear hT10 hO10 hBw hr10 c0 c1' c2 c3 c4 c5 c6 c7 c8 c9 c10 f0 f1 f2 f3 f4 f5 f6 f7 f8 f9 f10 k0' k1' k2' k3' k4' k5' k6' k7' k8' k9' k10' fz fz8 fz9 fz10 HAD HFZ
                go_wp2
                go_meet
                exact ⟨lo + 1, t.with s9 A9 n9 c9' B9 m9 d9, q + x'.2, by go_num, HT10, HR10, rfl, HO10, HB10, by omega, (by show _ ∨ _; exact .inl ⟨rfl, x', HX.out, HMEQ.out, rfl⟩)⟩
          case rest =>
            obtain ⟨o, t2, q2, rfl, HT2, HL2, HLT, HO2, HB2, hon, HCASE⟩ := hcut
            have HNM := Lib.hid (refNorm_r HL2.out (by omega) (by omega))
            clear hB9 HO HBC
            obtain ⟨f0, f1, f2, f3, f4, f5, f6, f7, f8, f9, f10⟩ := HT2.out.box (HLT.out.trans HLL.out)
            go_wp2_with fail
            refine HNM.out.mono ?_
            rintro e w11 ⟨s3, A3, n3, c3, B3, m3, d3, rfl, r3, oA3, oB3, e11⟩
            have hB11 : Below w.heap.size w w11 := nextB HB2.out e11
            have h0w : w.heap.size ≤ h0 := Nat.le_of_eq HH.out
            have hz0 : h0 < _ := World.block_lt_of_cell? _ ⟨h0, 0, none⟩ f0
            have T11 := HT2.out.far (e11.block h0 hz0)
            have fz8 := T11.free 8
            have fz9 := T11.free 9
            have fz10 := T11.free 10
            obtain ⟨k0', k1', k2', k3', k4', k5', k6', k7', k8', k9', k10'⟩ := T11.box (HLT.out.trans HLL.out)
            obtain ⟨w12, hw12⟩ : ∃ w12, ((w11.setCell ⟨h0, 8, none⟩ (.bool s3)).setCell ⟨h0, 9, none⟩ (.slice A3 n3 c3)).setCell ⟨h0, 10, none⟩ (.slice B3 m3 d3) = w12 := ⟨_, rfl⟩
            have hL3 : (t2.with s3 A3 n3 c3 B3 m3 d3).L = [x0, x1, x2, x3, x4, x5, x6, x7] := HLT.out.trans HLL.out
            have K12 : Keeps h0 h0 h0 w11 w12 := hw12 ▸ keeps3
            have T12 : TmAt h0 (t2.with s3 A3 n3 c3 B3 m3 d3) w12 := hw12 ▸ T11.coef
            have lies3 : (t2.with s3 A3 n3 c3 B3 m3 d3).lies (fun i => i ≠ h0 ∧ ∀ a, A1 = some a → i ≠ a.block) := (Off.lies (t := t2.with s3 A3 n3 c3 B3 m3 d3) oA3 oB3).mono fun i hi => ⟨by omega, fun a ha => by
              have := (HO2.out.row.lt a.block (by rw [ha]; rfl)).2; omega⟩
            have r12 : (t2.with s3 A3 n3 c3 B3 m3 d3).rn w12 q2 (k + k' + 1) := by
              have h1 : (t2.with s3 A3 n3 c3 B3 m3 d3).rn w11 q2 (k + k' + 1) := r3
              exact h1.keeps K12 (lies3.mono fun i hi => ⟨hi.1, hi.1, hi.1⟩)
            have O12 := ((HO2.out.below e11).keeps K12 (Nat.lt_succ_self _) (fun x hx => HLOW.out x (List.mem_of_mem_take hx))).mono (show k ≤ k + k' + 1 by omega)
            have B12 : Below w.heap.size w w12 := by
              rw [← hw12]
              exact ((hB11.setCell (p := ⟨h0, 8, none⟩) h0w _).setCell (p := ⟨h0, 9, none⟩) h0w _).setCell (p := ⟨h0, 10, none⟩) h0w _
            have hs12 : h0 < w12.heap.size := by rw [← hw12]; simp; have := e11.size; omega
            have HSG := Lib.hid (refSign_r (Tm.rn.loose r12) (by omega) (by omega))
            have HW12 := Lib.hid hw12
            have HL3 := Lib.hid hL3
            have HT12 := Lib.hid T12
            have HR12 := Lib.hid r12
            have HO12 := Lib.hid O12
            have HLI3 := Lib.hid lies3
            clear hw12 hL3 K12 T12 r12 O12 T11 r3 oA3 oB3 lies3 HNM hB11 f0 f1 f2 f3 f4 f5 f6 f7 f8 f9 f10
            go_wp2_with fail
            rw [HW12.out]
            refine HSG.out.mono ?_
            rintro e w13 ⟨rfl, e13⟩
            have B13 := nextB B12 e13
            clear k0' k1' k2' k3' k4' k5' k6' k7' k8' k9' k10' fz8 fz9 fz10 HSG
            go_upto_if 65 with fail
            go_cut [8] (fun u8 wy => ∃ (mid : List Tq) (A4 : Option Addr) (n4 c4 : Nat), u8 = .slice A4 n4 c4 ∧ Hid (OutRow (h0 + 1) A4 n4 c4 (ds.take lo ++ mid) (k + k' + 1) wy) ∧ Hid (trms mid = if q2 = 0 then [] else [(t.L, q2)]) ∧ Hid (∀ x ∈ mid, MonoE E x.1.L) ∧ n4 ≤ lo + 1 ∧ h0 + 1 ≤ wy.heap.size ∧ Below w.heap.size w wy)
            case first =>
              by_cases hq0 : q2 = 0
              · have hz : sgnR q2 = 0 := by
                  rcases sgnR_cases q2 with ⟨h1, _⟩ | ⟨_, h2⟩ | ⟨h1, _⟩
                  · rw [hq0] at h1; exact absurd h1 (by decide)
                  · exact h2
                  · rw [hq0] at h1; exact absurd h1 (by decide)
                rw [hz]
                have HO13 := Lib.hid (HO12.out.below e13)
                have HQ0 := Lib.hid hq0
                clear hz hq0
                go_wp2
                go_meet
                exact ⟨[], A1, lo, c1, rfl, (by rw [List.append_nil]; exact HO13), (by show trms [] = _; rw [if_pos HQ0.out]; rfl), fun x hx => (by cases hx), by omega, (by have := e13.size; omega), B13⟩
              · obtain ⟨z, hz⟩ : ∃ z, sgnR q2 = z := ⟨_, rfl⟩
                have hzz : z ≠ 0 := by
                  rcases sgnR_cases q2 with ⟨_, h2⟩ | ⟨h1, _⟩ | ⟨_, h2⟩
                  · omega
                  · exact absurd h1 hq0
                  · omega
                rw [hz]
                have hzb : (z == 0) = false := by rw [beq_eq_false_iff_ne]; exact hzz
                have hzn : (z != 0) = true := by simp [bne, hzb]
                have T13 := HT12.out.far (e13.block h0 hs12)
                obtain ⟨f0, f1, f2, f3, f4, f5, f6, f7, f8, f9, f10⟩ := T13.box HL3.out
                have f8' : w13.cell? ⟨h0, 8, none⟩ = some (.bool s3) := f8
                have f9' : w13.cell? ⟨h0, 9, none⟩ = some (.slice A3 n3 c3) := f9
                have f10' : w13.cell? ⟨h0, 10, none⟩ = some (.slice B3 m3 d3) := f10
                obtain ⟨wa, hwa⟩ : ∃ wa, w13.alloc (.cells #[.int .i64 x0, .int .i64 x1, .int .i64 x2, .int .i64 x3, .int .i64 x4, .int .i64 x5, .int .i64 x6, .int .i64 x7, .bool s3, .slice A3 n3 c3, .slice B3 m3 d3] 55) = wa := ⟨_, rfl⟩
                have hba : Below w13.heap.size w13 wa := hwa ▸ (Below.refl _ w13).alloc (Nat.le_refl _) _
                have NEWS := Lib.hid (alloc_facts hwa).2.2.1
                have hcells : rowOf (tms [(t2.with s3 A3 n3 c3 B3 m3 d3, q2)]) = [.int .i64 x0, .int .i64 x1, .int .i64 x2, .int .i64 x3, .int .i64 x4, .int .i64 x5, .int .i64 x6, .int .i64 x7, .bool s3, .slice A3 n3 c3, .slice B3 m3 d3] := by
                  have e1 : rowOf (tms [(t2.with s3 A3 n3 c3 B3 m3 d3, q2)]) = (t2.with s3 A3 n3 c3 B3 m3 d3).cells := by simp [tms, rowOf]
                  rw [e1]
                  unfold Tm.cells
                  rw [HL3.out]; rfl
                have HOA := Lib.hid ((HO12.out.below e13).below hba)
                have HRN := Lib.hid ((HR12.out.below e13).below hba)
                have HWA := Lib.hid hwa
                have HCC := Lib.hid hcells
                have HQ0 := Lib.hid hq0
                have BA := nextB B13 hba
                have hwsa : h0 + 1 ≤ wa.heap.size := by have := hba.size; have := e13.size; omega
                have hby1 : (lo + 1) * ti.bytes ≤ 140737488355328 := Nat.le_trans (Nat.mul_le_mul (show lo + 1 ≤ 1000000 by omega) hbt) (by decide)
                clear hwa hcells hz hq0 T13 hba f8 f9 f10
                go_wp2_with (at_builtin; (rw [HWA.out]; refine wpList_append_own_at _ rfl (.tmp 66) (.tmp 68) 26 rfl (h0 + 1) 55 ti zt 11 ti.bytes Tryz.underlying26 hti hz1 hs1 rfl hz2 (by decide) (.slice A1 lo c1) lo (rowOf (tms (ds.take lo))) rfl HOA.out.row ⟨w13.heap.size, 0, none⟩ 1 1 [.int .i64 x0, .int .i64 x1, .int .i64 x2, .int .i64 x3, .int .i64 x4, .int .i64 x5, .int .i64 x6, .int .i64 x7, .bool s3, .slice A3 n3 c3, .slice B3 m3 d3] rfl rfl NEWS.out (by simp [Value.oneCell']) (by simp [maxLen]; omega) hby1 hwsa ?_))
                intro v' w14 hown hgrow _ hat
                rw [← HCC.out] at hown
                obtain ⟨A4, c4, rfl, hO4⟩ := HOA.out.push (es := [(t2.with s3 A3 n3 c3 B3 m3 d3, q2)]) hown hgrow hat (fun x hx => by rw [List.mem_singleton.1 hx]; exact HRN.out) (fun x hx => by rw [List.mem_singleton.1 hx]; exact HLI3.out.mono fun i hi => hi.2)
                have B14 : Below w.heap.size w w14 := grown_below BA HOA.out.row hgrow BA.size (by omega)
                have hs14 : h0 + 1 ≤ w14.heap.size := Nat.le_trans hwsa hgrow.size
                have HO4 := Lib.hid hO4
                clear hO4 hown hgrow hat NEWS HOA HRN HWA HCC BA f0 f1 f2 f3 f4 f5 f6 f7 f8' f9' f10'
                go_wp2
                go_meet
                exact ⟨[(t2.with s3 A3 n3 c3 B3 m3 d3, q2)], A4, lo + 1, c4, rfl, HO4, (by show trms _ = _; rw [if_neg HQ0.out]; show [(t2.L, q2)] = _; rw [HLT.out]), fun x hx => (by rw [List.mem_singleton.1 hx]; show MonoE E t2.L; rw [HLT.out]; exact HM.out), by omega, hs14, B14⟩
            case rest =>
              obtain ⟨mid, A4, n4, c4, rfl, HO4, HMID, HMM, hn4, hs4, hB4⟩ := hcut
              clear B12 B13 e13
              have hdn : (rowOf (tms (ds.drop o))).length = (n - o) * 11 := HD.out.rd.restLen o
              have HIT : Hid (trms ((ds.take lo ++ mid) ++ ds.drop o) = insT (trms ds) lo (t.L, q)) := insT_case HMID.out HCASE.out
              have hN1 : Norml (insT (trms ds) lo (t.L, q)) := by
                refine insT_norml HD.out.norml (fun y hy => ?_) (fun y hy => ?_)
                · unfold trms at hy
                  rw [← List.map_take] at hy
                  obtain ⟨x, hx, rfl⟩ := List.mem_map.1 hy
                  exact HG.out x hx
                · unfold trms at hy
                  rw [← List.map_drop] at hy
                  obtain ⟨x, hx, rfl⟩ := List.mem_map.1 hy
                  exact HL.out x hx
              rw [← HIT.out] at hN1
              have HN1 := Lib.hid hN1
              have HEV : Hid (Eqv (trms ((ds.take lo ++ mid) ++ ds.drop o)) (trms ds ++ [(t.L, q)])) := by
                show Eqv _ _
                rw [HIT.out]
                exact insT_eqv _ _ _
              have HLN : Hid (((ds.take lo ++ mid) ++ ds.drop o).length ≤ n + 1) := by
                show _ ≤ _
                have h1 := insT_length (trms ds) lo (t.L, q)
                rw [← HIT.out] at h1
                have h2 : ∀ l : List Tq, (trms l).length = l.length := fun l => List.length_map ..
                rw [h2, h2, ← HLEN.out] at h1
                exact h1
              have HME : Hid (∀ x ∈ (ds.take lo ++ mid) ++ ds.drop o, MonoE E x.1.L) := fun x hx => by
                rcases List.mem_append.1 hx with hx | hx
                · rcases List.mem_append.1 hx with hx | hx
                  · exact HD.out.rd.mono x (List.mem_of_mem_take hx)
                  · exact HMM.out x hx
                · exact HD.out.rd.mono x (List.mem_of_mem_drop hx)
              have hlm : (ds.take lo ++ mid).length = n4 := HO4.out.len.symm
              have hll4 := HLN.out
              rw [List.length_append, hlm, List.length_drop, ← HLEN.out] at hll4
              have hby4 : (n4 + (n - o)) * ti.bytes ≤ 140737488355328 := Nat.le_trans (Nat.mul_le_mul (show n4 + (n - o) ≤ 1000000 by omega) hbt) (by decide)
              clear hN1 HIT hlm
              have hsw : h0 + 1 ≤ wc.heap.size := hs4
              cases A with
              | none =>
                obtain rfl : c = 0 := hnil rfl
                have hn0 : n = 0 := by
                  rcases Nat.eq_zero_or_pos n with h | h
                  · exact h
                  · obtain ⟨g, e, _⟩ := HD.out.rd.row h; cases e
                subst hn0
                obtain rfl : o = 0 := by omega
                go_wp2_with (at_builtin; refine wpList_append_own_none rfl _ _ 26 rfl (h0 + 1) 55 ti 11 Tryz.underlying26 hti (.slice A4 n4 c4) n4 _ rfl HO4.out.row rfl ?_)
                have hdr : ds.drop 0 = [] := List.eq_nil_of_length_eq_zero (by rw [List.length_drop, ← HLEN.out])
                have HF := Lib.hid (And.intro HME.out (And.intro HN1.out (And.intro HEV.out HLN.out)))
                have hf := HF.out
                rw [hdr, List.append_nil] at hf
                have NF : Hid (PolyNf wc A4 n4 c4 (ds.take lo ++ mid) (k + k' + 1) E) := HO4.out.nf (by omega) hf.1 hf.2.1
                have EV := Lib.hid hf.2.2.1
                have LN := Lib.hid hf.2.2.2
                have NIL : Hid (A4 = none → c4 = 0) := fun e => HO4.out.nilCap e
                clear hf hdr hdn
                go_wp2
                go_ret
                first
                  | exact ⟨A4, n4, c4, rfl, ds.take lo ++ mid, NF.out, EV.out, LN.out, NIL.out, hB4⟩
                  | exact ⟨A4, n4, c4, ds.take lo ++ mid, rfl, NF.out, EV.out, LN.out, NIL.out, hB4⟩
              | some ad =>
                have hnc := HD.out.rd.cap
                have hdl : (ds.drop o).length = n - o := by rw [List.length_drop, ← HLEN.out]
                have hone := rowOf_one (tms (ds.drop o))
                have HDN := Lib.hid hdn
                clear hdn
                by_cases hon2 : o < n
                · obtain ⟨g, e, _⟩ := HD.out.rd.row (by omega)
                  injection e with e
                  subst e
                  have hnews := (HDW.out.below hB4).rd.rest o hon2
                  have HNW := Lib.hid hnews
                  have hco : ¬ c = o := by omega
                  have hco2 : ¬ c - o = 0 := by omega
                  clear hnews
                  go_wp2_with (at_builtin; refine wpList_append_own_at _ rfl (.tmp 70) (.tmp 73) 26 rfl (h0 + 1) 55 ti zt 11 ti.bytes Tryz.underlying26 hti hz1 hs1 rfl hz2 (by decide) (.slice A4 n4 c4) n4 (rowOf (tms (ds.take lo ++ mid))) rfl HO4.out.row ⟨g, o * 11, none⟩ (n - o) (c - o) (rowOf (tms (ds.drop o))) rfl HDN.out HNW.out hone (by simp [maxLen]; omega) hby4 hsw ?_)
                  intro v' w15 hown hgrow _ hat
                  rw [← hdl] at hown
                  obtain ⟨A5, c5, hv5, hO5⟩ := HO4.out.push (es := ds.drop o) hown hgrow hat (fun x hx => ((HDW.out.below hB4).rn x (List.mem_of_mem_drop hx)).mono (by omega)) (fun x hx => (HDW.out.rn x (List.mem_of_mem_drop hx)).old.mono fun i hi a ha => by
                    have := (HO4.out.row.lt a.block (by rw [ha]; rfl)).1; omega)
                  subst hv5
                  have NF : Hid (PolyNf w15 A5 (n4 + (ds.drop o).length) c5 ((ds.take lo ++ mid) ++ ds.drop o) (k + k' + 1) E) := hO5.nf (by omega) HME.out HN1.out
                  have NIL : Hid (A5 = none → c5 = 0) := fun e => hO5.nilCap e
                  have B15 : Below w.heap.size w w15 := grown_below hB4 HO4.out.row hgrow hB4.size (by omega)
                  clear hO5 hown hgrow hat HO4
                  go_wp2
                  go_ret
                  first
                    | exact ⟨A5, n4 + (ds.drop o).length, c5, rfl, (ds.take lo ++ mid) ++ ds.drop o, NF.out, HEV.out, HLN.out, NIL.out, B15⟩
                    | exact ⟨A5, n4 + (ds.drop o).length, c5, (ds.take lo ++ mid) ++ ds.drop o, rfl, NF.out, HEV.out, HLN.out, NIL.out, B15⟩
                · have hz : n - o = 0 := by omega
                  have hdr : ds.drop o = [] := List.eq_nil_of_length_eq_zero (by omega)
                  have HF := Lib.hid (And.intro HME.out (And.intro HN1.out (And.intro HEV.out HLN.out)))
                  have hf := HF.out
                  rw [hdr, List.append_nil] at hf
                  have hby0 : (n4 + 0) * ti.bytes ≤ 140737488355328 := Nat.le_trans (Nat.mul_le_mul (show n4 + 0 ≤ 1000000 by omega) hbt) (by decide)
                  clear hdr hdl
                  by_cases hco : c = o
                  · subst hco
                    go_wp2_with (at_builtin; refine wpList_append_own_at _ rfl (.tmp 70) (.tmp 73) 26 rfl (h0 + 1) 55 ti zt 11 ti.bytes Tryz.underlying26 hti hz1 hs1 rfl hz2 (by decide) (.slice A4 n4 c4) n4 (rowOf (tms (ds.take lo ++ mid))) rfl HO4.out.row _ 0 _ [] rfl rfl (fun _ _ h => nomatch h) (fun _ h => nomatch h) (by simp [maxLen]; omega) hby0 hsw ?_)
                    intro v' w15 hown hgrow _ hat
                    obtain ⟨A5, c5, hv5, hO5⟩ := HO4.out.push (es := []) (by show World.ownsRow _ _ _ _ _ _ (rowOf _ ++ []); rw [List.append_nil]; exact hown) hgrow hat (fun x hx => nomatch hx) (fun x hx => nomatch hx)
                    subst hv5
                    rw [List.append_nil] at hO5
                    have NF : Hid (PolyNf w15 A5 (n4 + ([] : List Tq).length) c5 (ds.take lo ++ mid) (k + k' + 1) E) := hO5.nf (by simp; omega) hf.1 hf.2.1
                    have EV := Lib.hid hf.2.2.1
                    have LN := Lib.hid hf.2.2.2
                    have NIL : Hid (A5 = none → c5 = 0) := fun e => hO5.nilCap e
                    have B15 : Below w.heap.size w w15 := grown_below hB4 HO4.out.row hgrow hB4.size (by omega)
                    clear hO5 hown hgrow hat HO4 hf
                    go_wp2
                    go_ret
                    first
                      | exact ⟨A5, n4 + ([] : List Tq).length, c5, rfl, ds.take lo ++ mid, NF.out, EV.out, LN.out, NIL.out, B15⟩
                      | exact ⟨A5, n4 + ([] : List Tq).length, c5, ds.take lo ++ mid, rfl, NF.out, EV.out, LN.out, NIL.out, B15⟩
                  · have hco2 : ¬ c - o = 0 := by omega
                    go_wp2_with (at_builtin; refine wpList_append_own_at _ rfl (.tmp 70) (.tmp 73) 26 rfl (h0 + 1) 55 ti zt 11 ti.bytes Tryz.underlying26 hti hz1 hs1 rfl hz2 (by decide) (.slice A4 n4 c4) n4 (rowOf (tms (ds.take lo ++ mid))) rfl HO4.out.row _ 0 _ [] rfl rfl (fun _ _ h => nomatch h) (fun _ h => nomatch h) (by simp [maxLen]; omega) hby0 hsw ?_)
                    intro v' w15 hown hgrow _ hat
                    obtain ⟨A5, c5, hv5, hO5⟩ := HO4.out.push (es := []) (by show World.ownsRow _ _ _ _ _ _ (rowOf _ ++ []); rw [List.append_nil]; exact hown) hgrow hat (fun x hx => nomatch hx) (fun x hx => nomatch hx)
                    subst hv5
                    rw [List.append_nil] at hO5
                    have NF : Hid (PolyNf w15 A5 (n4 + ([] : List Tq).length) c5 (ds.take lo ++ mid) (k + k' + 1) E) := hO5.nf (by simp; omega) hf.1 hf.2.1
                    have EV := Lib.hid hf.2.2.1
                    have LN := Lib.hid hf.2.2.2
                    have NIL : Hid (A5 = none → c5 = 0) := fun e => hO5.nilCap e
                    have B15 : Below w.heap.size w w15 := grown_below hB4 HO4.out.row hgrow hB4.size (by omega)
                    clear hO5 hown hgrow hat HO4 hf
                    go_wp2
                    go_ret
                    first
                      | exact ⟨A5, n4 + ([] : List Tq).length, c5, rfl, ds.take lo ++ mid, NF.out, EV.out, LN.out, NIL.out, B15⟩
                      | exact ⟨A5, n4 + ([] : List Tq).length, c5, ds.take lo ++ mid, rfl, NF.out, EV.out, LN.out, NIL.out, B15⟩
end Go.Proofs.YtnkfmbjpbfpfkaaGreatDoor
