/-
  wide.split, wide.Coefs and polynomial.Coefs: the coefficients of the powers of a variable.
-/
import Derived.Test.YtnkfmbjpbfpfkaaGreatDoorDegree
import Derived.Test.YtnkfmbjpbfpfkaaGreatDoorCoefP
import Derived.Test.YtnkfmbjpbfpfkaaGreatDoorRefVar
namespace Go.Proofs.YtnkfmbjpbfpfkaaGreatDoor
open Go Go.RowKit Go.WideMaps
set_option maxRecDepth 20000

theorem infoPoly : (Tryz.prog.info? 26).map (fun i => (i.zero, i.size, i.bytes)) = some (some (.slice none 0 0), 1, 24) := by kernel_rfl
abbrev Sl := Option Addr × Nat × Nat
/-- The coefficients in memory: the row of slices at g, each slice a row of its own behind g. -/
structure SplitAt (g D : Nat) (f : Nat → Sl) (v : Nat) (cs : List Tq) (k : Nat) (W : World) : Prop where
  cell : ∀ e, e ≤ D → W.cell? ⟨g, e, none⟩ = some (.slice (f e).1 (f e).2.1 (f e).2.2)
  free : ∀ j, W.frozen? ⟨g, j, none⟩ = false
  lt : g < W.heap.size
  row : ∀ e, e ≤ D → OutRow (g + 1) (f e).1 (f e).2.1 (f e).2.2 (coefAt v e cs) k W
  apart : ∀ e e', e ≤ D → e' ≤ D → e ≠ e' → ∀ a a', (f e).1 = some a → (f e').1 = some a' → a.block ≠ a'.block
  low : ∀ x ∈ cs, x.1.lies (· < g)
theorem SplitAt.below {g D v k : Nat} {f : Nat → Sl} {cs : List Tq} {W W' : World} (h : SplitAt g D f v cs k W) (hb : Below W.heap.size W W') : SplitAt g D f v cs k W' :=
  ⟨fun e he => (World.cell?_of_block (a := ⟨g, e, none⟩) (hb.block g h.lt)).trans (h.cell e he), fun j => (World.frozen?_of_block (a := ⟨g, j, none⟩) (hb.block g h.lt)).trans (h.free j), Nat.lt_of_lt_of_le h.lt hb.size, fun e he => (h.row e he).below hb, h.apart, h.low⟩
theorem OutRow.grown {base n c k : Nat} {A : Option Addr} {ds : List Tq} {W W' : World} {r : Option Nat} (h : OutRow base A n c ds k W) (hg : W.grownBy W' r) (hne : ∀ a, A = some a → r ≠ some a.block) (hl : ∀ x ∈ ds, x.1.lies fun i => r ≠ some i) : OutRow base A n c ds k W' := by
  refine ⟨h.len, h.row.kept hg ?_, fun x hx => (h.rn x hx).apart hg.size (((h.rn x hx).old.and (hl x hx)).mono fun i hi => hg.block i hi.1 (fun e => hi.2 e.symm)), h.apart⟩
  cases A with
  | none => exact .inl rfl
  | some a => exact .inr (fun e => hne a rfl (by simp [Value.ownBlock] at e; exact e.symm))
theorem clr_lies {v : Nat} {x : Tq} {P : Nat → Prop} (h : x.1.lies P) : (clr v x).1.lies P := h
theorem clr_rn {v : Nat} {x : Tq} {W : World} {k : Nat} (h : x.1.rn W x.2 k) : (clr v x).1.rn W (clr v x).2 k := h
/-- One term more. -/
theorem SplitAt.step {g D v k e0 g' n' c' cap' i : Nat} {A' : Option Addr} {f : Nat → Sl} {ds : List Tq} {x : Tq} {W W4 : World} {news : List Value} (h : SplitAt g D f v (ds.take i) k W) (hx : ds[i]? = some x) (he0 : x.1.L.getD v 0 = (e0 : Int)) (hD : e0 ≤ D) (hf : f e0 = (A', n', c')) (hr : x.1.rn W x.2 k) (hl : x.1.lies (· < g)) (hcc : rowOf (tms [clr v x]) = news)
    (hown : W4.ownsRow (g + 1) 55 11 (.slice (some ⟨g', 0, none⟩) (n' + 1) cap') (n' + 1) (rowOf (tms (coefAt v e0 (ds.take i))) ++ news)) (hg : W.grownBy W4 (Value.slice A' n' c').ownBlock) (hat : (Value.slice A' n' c').ownBlock = some g' ∨ g' = W.heap.size) :
    SplitAt g D (fun e => if e = e0 then (some ⟨g', 0, none⟩, n' + 1, cap') else f e) v (ds.take (i + 1)) k (W4.setCell ⟨g, e0, none⟩ (.slice (some ⟨g', 0, none⟩) (n' + 1) cap')) := by
  have hrow0 := h.row e0 hD
  rw [hf] at hrow0
  have hAg : ∀ a, A' = some a → g < a.block ∧ a.block < W.heap.size := fun a ha => by
    have := hrow0.row.lt a.block (by rw [ha]; rfl); omega
  have hnb : ∀ j, j ≤ g → some j ≠ (Value.slice A' n' c').ownBlock := fun j hj => by
    cases A' with
    | none => simp [Value.ownBlock]
    | some a => intro e; simp [Value.ownBlock] at e; have := (hAg a rfl).1; omega
  have hgh : W4.heap[g]? = W.heap[g]? := hg.block g h.lt (hnb g (Nat.le_refl _))
  rw [← hcc] at hown
  obtain ⟨A5, c5, hv5, hO5⟩ := hrow0.push (es := [clr v x]) hown hg (hat.imp (fun h => by rw [h]; rfl) (fun h => by rw [h]; rfl)) (fun y hy => by rw [List.mem_singleton.1 hy]; exact clr_rn hr) (fun y hy => by rw [List.mem_singleton.1 hy]; exact (clr_lies hl).mono fun j hj a ha => by have := (hAg a ha).1; omega)
  injection hv5 with e1 e2 e3
  subst e1 e3
  have hK : Keeps g g g W4 (W4.setCell ⟨g, e0, none⟩ (.slice (some ⟨g', 0, none⟩) (n' + 1) cap')) := Keeps.set e0 _
  have htk : ds.take (i + 1) = ds.take i ++ [x] := by rw [List.take_add_one, hx]; rfl
  have hlow : ∀ y ∈ ds.take i ++ [x], y.1.lies (· < g) := fun y hy => by
    rcases List.mem_append.1 hy with hy | hy
    · exact h.low y hy
    · rw [List.mem_singleton.1 hy]; exact hl
  have hlc : ∀ e, ∀ y ∈ coefAt v e (ds.take i ++ [x]), y.1.lies (· < g) := fun e y hy => by
    obtain ⟨z, hz, _, rfl⟩ := mem_coefAt hy
    exact clr_lies (hlow z hz)
  rw [htk]
  refine ⟨fun e he => ?_, fun j => ?_, ?_, fun e he => ?_, fun e e' he he' hne a a' ha ha' => ?_, hlow⟩
  · by_cases hee : e = e0
    · subst hee
      rw [if_pos rfl]
      exact cell_set_eq (u := .slice (f e).1 (f e).2.1 (f e).2.2) ((World.cell?_of_block (a := ⟨g, e, none⟩) hgh).trans (h.cell e he))
    · rw [if_neg hee, cell_set_ne hee]
      exact (World.cell?_of_block (a := ⟨g, e, none⟩) hgh).trans (h.cell e he)
  · rw [World.frozen?_setCell]
    exact (World.frozen?_of_block (a := ⟨g, j, none⟩) hgh).trans (h.free j)
  · have := hg.size; have := h.lt; simp; omega
  · by_cases hee : e = e0
    · subst hee
      rw [if_pos rfl, coefAt_snoc, if_pos he0]
      exact hO5.keeps hK (Nat.lt_succ_self _) (fun y hy => ((hlc e y (by rw [coefAt_snoc, if_pos he0]; exact hy))).mono fun j hj => by omega)
    · have hne0 : ¬ x.1.L.getD v 0 = (e : Int) := by omega
      rw [if_neg hee, coefAt_snoc, if_neg hne0]
      have hlc' : ∀ y ∈ coefAt v e (ds.take i), y.1.lies (· < g) := fun y hy => hlc e y (by rw [coefAt_snoc, if_neg hne0]; exact hy)
      refine ((h.row e he).grown hg (fun a ha e' => ?_) (fun y hy => (hlc' y hy).mono fun j hj => fun e => hnb j (by omega) e.symm)).keeps hK (Nat.lt_succ_self _) (fun y hy => (hlc' y hy).mono fun j hj => by omega)
      cases hA : A' with
      | none => rw [hA] at e'; simp [Value.ownBlock] at e'
      | some b => rw [hA] at e'; simp [Value.ownBlock] at e'; exact h.apart e0 e hD he (fun e => hee e.symm) b a (by rw [hf, hA]) ha e'
  · have hother : ∀ e1 a1, e1 ≤ D → e1 ≠ e0 → (f e1).1 = some a1 → a1.block ≠ g' := fun e1 a1 h1 h2 h3 => by
      have hb1 := ((h.row e1 h1).row.lt a1.block (by rw [h3]; rfl)).2
      rcases hat with hat | hat
      · cases hA : A' with
        | none => rw [hA] at hat; simp [Value.ownBlock] at hat
        | some b => rw [hA] at hat; simp [Value.ownBlock] at hat; rw [← hat]; exact h.apart e1 e0 h1 hD h2 a1 b h3 (by rw [hf, hA])
      · omega
    by_cases hee : e = e0
    · rw [if_pos hee] at ha
      injection ha with ha
      subst ha
      rw [if_neg (by omega)] at ha'
      exact fun e1 => hother e' a' he' (by omega) ha' e1.symm
    · rw [if_neg hee] at ha
      by_cases hee' : e' = e0
      · rw [if_pos hee'] at ha'
        injection ha' with ha'
        subst ha'
        exact hother e a he hee ha
      · rw [if_neg hee'] at ha'
        exact h.apart e e' he he' hne a a' ha ha'
theorem TermBox.drew0 {h : Nat} {x0 x1 x2 x3 x4 x5 x6 x7 : Int} {t : Tm} {W : World} (hb : TermBox h x0 x1 x2 x3 x4 x5 x6 x7 t W) : TermBox h x0 x1 x2 x3 x4 x5 x6 x7 t W.drew := hb

set_option maxHeartbeats 16000000 in
theorem split_x {w : World} {A : Option Addr} {n c k v D : Nat} {E : Int} {ds : List Tq} (hd : PolyNf w A n c ds k E) (_hE : E ≤ 1000) (hv : v < 8) (hn : 0 < n) (hn2 : n ≤ 1000) (hD : (degs ds).getD v 0 = D) (hDs : ∀ x ∈ ds, x.1.L.getD v 0 ≤ D) (hD2 : D ≤ 1000) :
    Calls Tryz.prog 78 #[.slice A n c, .int .i64 v] w fun e w' => ∃ g f, e = .returned (.slice (some ⟨g, 0, none⟩) (D + 1) (D + 1)) ∧ SplitAt g D f v ds k w' ∧ Below w.heap.size w w' := by
  obtain ⟨a0, a1, a2, a3, a4, a5, a6, a7, hDA⟩ := eight (degs_8 (ds := ds) fun x hx => (hd.rd.mono x hx).1)
  have HDG : Hid (Calls Tryz.prog 45 #[.slice A n c] w fun e w' => e = .returned (.agg #[.int .i64 a0, .int .i64 a1, .int .i64 a2, .int .i64 a3, .int .i64 a4, .int .i64 a5, .int .i64 a6, .int .i64 a7]) ∧ Below w.heap.size w w') := by
    have h := degrees_x hd.rd
    rw [hDA] at h
    exact h
  have hix := fun w => mono_ix (x0 := a0) (x1 := a1) (x2 := a2) (x3 := a3) (x4 := a4) (x5 := a5) (x6 := a6) (x7 := a7) hv w
  rw [← hDA, hD] at hix
  have HD := Lib.hid hd
  have HDS := Lib.hid hDs
  have HLEN := Lib.hid hd.rd.len
  have hni : ¬ (n : Int) = 0 := by omega
  have hvi : (v : Int) < 8 := by omega
  have hvi0 : (0 : Int) ≤ v := by omega
  have HLOW : Hid (∀ x ∈ ds, x.1.lies (· < w.heap.size)) := fun x hx => (hd.rn x hx).old
  obtain ⟨i0, hi, hz0, hz1, hz2⟩ := info_parts infoPoly
  clear hd hD hDs hDA
  go_enter Tryz.func78, Tryz.ntmps78
  go_wp2_with fail
  refine HDG.out.mono ?_
  rintro e w1 ⟨rfl, b1⟩
  have HB1 := Lib.hid b1
  clear b1 HDG
  go_wp2_with (at_make; refine wpList_make_full _ rfl _ _ 37 rfl w1.heap.size 26 i0 (.slice none 0 0) 1 Tryz.underlying37 hi hz0 hz1 _ _ _ _ (D + 1) rfl rfl ?b0 ?b1 ?b2 ?b3 (Nat.le_refl _) ?_)
  case b0 => go_num
  case b1 => go_num
  case b2 => rw [hz2]; omega
  case b3 => unfold maxLen; omega
  intro w2 hown hgrow
  obtain ⟨g, hg⟩ : ∃ g, w1.heap.size = g := ⟨_, rfl⟩
  rw [hg] at hown ⊢
  have hb2 := below_of_grown hgrow
  have hwg : w.heap.size ≤ g := by rw [← hg]; exact HB1.out.size
  have hg2 : g < w2.heap.size := (hown.lt g rfl).2
  have HB2 := Lib.hid (nextB HB1.out hb2)
  have HS0 : Hid (SplitAt g D (fun _ => (none, 0, 0)) v (ds.take 0) k w2) := by
    refine ⟨fun e he => ?_, fun j => hown.frozenAt j, hg2, fun e _ => OutRow.nil _ _ _, fun e e' _ _ _ a a' ha => (by cases ha), fun x hx => (by cases hx)⟩
    rw [hown.cellAt e (by omega)]
    rw [toList_madeCells_one, List.getElem?_replicate, if_pos (by omega)]
  clear hown hgrow hb2 hg hi hz0 hz1 hz2 hix
  go_wp2
  go_loopw [20] (fun iv wr => ∃ (f : Nat → Sl) (i : Nat), iv = .int .i64 i ∧ i ≤ n ∧ Hid (SplitAt g D f v (ds.take i) k wr) ∧ Hid (Below w.heap.size w wr)) (fun iv _ => n - (intOf iv).toNat)
  case atStart => exact ⟨_, 0, rfl, Nat.zero_le _, HS0, HB2⟩
  case round =>
    obtain ⟨f, i, rfl, hi, HSP, HBR⟩ := hrel
    by_cases hlt : i < n
    · have hi2 : (i : Int) < n := by omega
      have hi3 : (0 : Int) ≤ i := by omega
      obtain ⟨gx, x, rfl, hgl, hx, hMx, hlo, hxt, hrow, h8⟩ := ((HD.out.below HBR.out).rd).get hlt
      obtain ⟨x0, x1, x2, x3, x4, x5, x6, x7, hXL⟩ := eight hMx.1
      obtain ⟨c0, c1, c2, c3, c4, c5, c6, c7, c8, c9, c10⟩ := row_cells hrow h8 (by rw [tms_length, HLEN.out]) hxt hXL
      have hxm := List.mem_of_getElem? hx
      obtain ⟨r0, r1⟩ := getD_range hMx hv
      obtain ⟨e0, he0⟩ : ∃ e0 : Nat, x.1.L.getD v 0 = e0 := ⟨(x.1.L.getD v 0).toNat, by omega⟩
      have he0D : e0 ≤ D := by have := HDS.out x hxm; omega
      obtain ⟨b, hbe⟩ : ∃ b, wr.heap.size = b := ⟨_, rfl⟩
      have hxc : x.1.cells = [.int .i64 x0, .int .i64 x1, .int .i64 x2, .int .i64 x3, .int .i64 x4, .int .i64 x5, .int .i64 x6, .int .i64 x7, .bool x.1.s, .slice x.1.A x.1.n x.1.c, .slice x.1.B x.1.m x.1.d] := by unfold Tm.cells; rw [hXL]; rfl
      have TX : TmAt b x.1 (wr.alloc (.cells x.1.cells.toArray 55)) := by rw [← hbe]; exact TmAt.new wr _ hMx.1
      rw [hxc] at TX
      obtain ⟨u1, hu1⟩ : ∃ u, wr.alloc (.cells #[.int .i64 x0, .int .i64 x1, .int .i64 x2, .int .i64 x3, .int .i64 x4, .int .i64 x5, .int .i64 x6, .int .i64 x7, .bool x.1.s, .slice x.1.A x.1.n x.1.c, .slice x.1.B x.1.m x.1.d] 55) = u := ⟨_, rfl⟩
      have T1 : TmAt b x.1 u1 := by rw [← hu1]; exact TX
      have bu1 : Below wr.heap.size wr u1 := hu1 ▸ (Below.refl _ wr).alloc (Nat.le_refl _) _
      have su1 : u1.heap.size = b + 1 := by rw [← hu1, ← hbe]; simp
      have cv := T1.mono_cell hv
      rw [he0] at cv
      have fv := T1.free v
      obtain ⟨u2, hu2⟩ : ∃ u, u1.setCell ⟨b, v, none⟩ (.int .i64 0) = u := ⟨_, rfl⟩
      have T2 : TmAt b (clr v x).1 u2 := by
        rw [← hu2]
        exact T1.one (by omega) _ (cells_set T1.len hv 0) (by show (x.1.L.set v 0).length = 8; rw [List.length_set]; exact T1.len)
      have bu2 : Below wr.heap.size wr u2 := hu2 ▸ bu1.setCell (p := ⟨b, v, none⟩) (by simp only; omega) _
      have su2 : u2.heap.size = b + 1 := by rw [← hu2]; simpa using su1
      obtain ⟨z0, z1, z2, z3, z4, z5, z6, z7, hZ⟩ := eight T2.len
      have TB : TermBox b z0 z1 z2 z3 z4 z5 z6 z7 x.1 u2 := T2.box hZ
      have hgb : g < b := by rw [← hbe]; exact HSP.out.lt
      obtain ⟨A', n', c', hfe⟩ : ∃ A' n' c', f e0 = (A', n', c') := ⟨_, _, _, rfl⟩
      have SP2 := HSP.out.below bu2
      have cA0 := SP2.cell e0 he0D
      rw [hfe] at cA0
      have fA0 := SP2.free e0
      obtain ⟨wd, hwd⟩ : ∃ wd, u2.drew = wd := ⟨_, rfl⟩
      have bwd : Below wr.heap.size wr wd := hwd ▸ bu2.drew
      have swd : wd.heap.size = b + 1 := by rw [← hwd]; exact su2
      obtain ⟨wa, hwa⟩ : ∃ wa, wd.alloc (.cells #[.int .i64 z0, .int .i64 z1, .int .i64 z2, .int .i64 z3, .int .i64 z4, .int .i64 z5, .int .i64 z6, .int .i64 z7, .bool x.1.s, .slice x.1.A x.1.n x.1.c, .slice x.1.B x.1.m x.1.d] 55) = wa := ⟨_, rfl⟩
      have bwa : Below wr.heap.size wr wa := nextB bwd (hwa ▸ (Below.refl _ wd).alloc (Nat.le_refl _) _)
      have swa : wa.heap.size = b + 2 := by rw [← hwa]; simp; omega
      have NEWS := Lib.hid (alloc_facts hwa).2.2.1


      have SPA := HSP.out.below bwa
      have cA := SPA.cell e0 he0D
      rw [hfe] at cA
      have fA := SPA.free e0
      have TBA : TermBox b z0 z1 z2 z3 z4 z5 z6 z7 x.1 wa := (TermBox.drew0 TB).far (by rw [hwd, ← hwa]; exact Below.heap_alloc _ _ _ (by omega))
      have HRW := SPA.row e0 he0D
      rw [hfe] at HRW
      have hNB : ∀ j, j = g ∨ j = b → some j ≠ (Value.slice A' n' c').ownBlock := fun j hj => by
        cases hA : A' with
        | none => simp [Value.ownBlock]
        | some a =>
          intro e
          simp [Value.ownBlock] at e
          have h1 := HSP.out.row e0 he0D
          rw [hfe] at h1
          have := h1.row.lt a.block (by rw [hA]; rfl)
          omega
      have hnl : n' ≤ 1000 := by
        have h1 : n' = (coefAt v e0 (ds.take i)).length := HRW.len
        have h2 : (coefAt v e0 (ds.take i)).length ≤ (ds.take i).length := by unfold coefAt; rw [List.length_map]; exact List.length_filter_le _ _
        rw [List.length_take] at h2
        omega
      obtain ⟨ti, zt, hti, hz1, hz2, hs1, hbt⟩ := termInfo2
      have hby1 : (n' + 1) * ti.bytes ≤ 140737488355328 := Nat.le_trans (Nat.mul_le_mul (show n' + 1 ≤ 1000000 by omega) hbt) (by decide)
      have hcc : rowOf (tms [clr v x]) = [.int .i64 z0, .int .i64 z1, .int .i64 z2, .int .i64 z3, .int .i64 z4, .int .i64 z5, .int .i64 z6, .int .i64 z7, .bool x.1.s, .slice x.1.A x.1.n x.1.c, .slice x.1.B x.1.m x.1.d] := by
        have e1 : rowOf (tms [clr v x]) = (clr v x).1.cells := by simp [tms, rowOf]
        rw [e1]
        unfold Tm.cells
        rw [hZ]; rfl
      have hgwa : g < wa.heap.size := by omega
      have hei : (e0 : Int) < (D : Int) + 1 := by omega
      have hei0 : (0 : Int) ≤ e0 := by omega
      have cAd : wd.cell? ⟨g, e0, none⟩ = some (.slice A' n' c') := by rw [← hwd]; exact cA0
      have TBd : TermBox b z0 z1 z2 z3 z4 z5 z6 z7 x.1 wd := by rw [← hwd]; exact TB
      have hga : g + 1 ≤ wa.heap.size := hgwa
      have hbwa : b < wa.heap.size := by omega
      have hgb2 : g ≠ b := by omega
      have HX := Lib.hid hx
      have HE0 := Lib.hid he0
      have HFE := Lib.hid hfe
      have HRX := Lib.hid ((HD.out.rn x hxm).below (HBR.out.trans (bwa.mono HBR.out.size)))
      have HLX : Hid (x.1.lies (· < g)) := (HLOW.out x hxm).mono fun j hj => by omega
      have HCC := Lib.hid hcc
      have HSA := Lib.hid SPA
      have HBA := Lib.hid (nextB HBR.out bwa)
      have HNB := Lib.hid hNB
      have HWA := Lib.hid hwa
      have HWD := Lib.hid hwd

      have HU1 := Lib.hid hu1
      have HU2 := Lib.hid hu2
      have HBE := Lib.hid hbe
      have HRW := Lib.hid HRW
      clear hx he0 hfe hcc SPA SP2 hNB hwa hwd hu1 hu2 hbe hMx hlo hxt hrow h8 hXL hxc TX T1 T2 bu1 su1 bu2 su2 bwd swd bwa swa hZ
      go_upto_region 7 with fail
      rw [HU1.out, HBE.out]
      go_upto_region 8 with fail
      clear c0 c1 c2 c3 c4 c5 c6 c7 c8 c9 c10
      go_upto_region 9 with fail
      rw [HU2.out]
      clear cv fv
      refine wp_region_held_drew (S := (fun W => TermBox b z0 z1 z2 z3 z4 z5 z6 z7 x.1 W)) (by kernel_rfl) ?_ (fun hHeld => ?_)
      · exact TermBox.drew0 TB
      refine wpAnyH_take (i := 0) (oi := ⟨some 31, _, _, _, _, _⟩) (v := ?_) rfl (by kernel_rfl) (by kernel_rfl) (by kernel_rfl) (fun _ _ _ h => h) (Or.inl ⟨by rfl, ?_⟩) (by assumption) ?_
      rotate_left
      · intro w hSw
        (try dsimp only at hSw)
        unfold TermBox at hSw
        obtain ⟨h0, h1, h2, h3, h4, h5, h6, h7, h8, h9, h10⟩ := hSw
        go_simp
        try with_reducible rfl
      try simp only [Act.put, List.setIfInBounds_toArray, List.set_cons_zero, List.set_cons_succ]
      refine wpAnyH_take (i := 1) (oi := ⟨some 32, _, _, _, _, _⟩) (v := ?_) rfl (by kernel_rfl) (by kernel_rfl) (by kernel_rfl) (fun _ _ _ h => h) (Or.inl ⟨by rfl, ?_⟩) (by assumption) ?_
      rotate_left
      · intro w hSw
        (try dsimp only at hSw)
        unfold TermBox at hSw
        obtain ⟨h0, h1, h2, h3, h4, h5, h6, h7, h8, h9, h10⟩ := hSw
        go_simp
        try with_reducible rfl
      try simp only [Act.put, List.setIfInBounds_toArray, List.set_cons_zero, List.set_cons_succ]
      refine wpAnyH_take (i := 2) (oi := ⟨some 33, _, _, _, _, _⟩) (v := ?_) rfl (by kernel_rfl) (by kernel_rfl) (by kernel_rfl) (fun _ _ _ h => h) (Or.inl ⟨by rfl, ?_⟩) (by assumption) ?_
      rotate_left
      · intro w hSw
        (try dsimp only at hSw)
        unfold TermBox at hSw
        obtain ⟨h0, h1, h2, h3, h4, h5, h6, h7, h8, h9, h10⟩ := hSw
        go_simp
        try with_reducible rfl
      try simp only [Act.put, List.setIfInBounds_toArray, List.set_cons_zero, List.set_cons_succ]
      refine wpAnyH_take (i := 3) (oi := ⟨some 34, _, _, _, _, _⟩) (v := ?_) rfl (by kernel_rfl) (by kernel_rfl) (by kernel_rfl) (fun _ _ _ h => h) (Or.inl ⟨by rfl, ?_⟩) (by assumption) ?_
      rotate_left
      · intro w hSw
        (try dsimp only at hSw)
        unfold TermBox at hSw
        obtain ⟨h0, h1, h2, h3, h4, h5, h6, h7, h8, h9, h10⟩ := hSw
        go_simp
        try with_reducible rfl
      try simp only [Act.put, List.setIfInBounds_toArray, List.set_cons_zero, List.set_cons_succ]
      refine wpAnyH_take (i := 4) (oi := ⟨some 35, _, _, _, _, _⟩) (v := ?_) rfl (by kernel_rfl) (by kernel_rfl) (by kernel_rfl) (fun _ _ _ h => h) (Or.inl ⟨by rfl, ?_⟩) (by assumption) ?_
      rotate_left
      · intro w hSw
        (try dsimp only at hSw)
        unfold TermBox at hSw
        obtain ⟨h0, h1, h2, h3, h4, h5, h6, h7, h8, h9, h10⟩ := hSw
        go_simp
        try with_reducible rfl
      try simp only [Act.put, List.setIfInBounds_toArray, List.set_cons_zero, List.set_cons_succ]
      refine wpAnyH_take (i := 6) (oi := ⟨some 37, _, _, _, _, _⟩) (v := ?_) rfl (by kernel_rfl) (by kernel_rfl) (by kernel_rfl) (fun _ _ _ h => h) (Or.inl ⟨by rfl, ?_⟩) (by assumption) ?_
      rotate_left
      · intro w hSw
        (try dsimp only at hSw)
        unfold TermBox at hSw
        obtain ⟨h0, h1, h2, h3, h4, h5, h6, h7, h8, h9, h10⟩ := hSw
        go_simp
        try with_reducible rfl
      try simp only [Act.put, List.setIfInBounds_toArray, List.set_cons_zero, List.set_cons_succ]

      have hHd := hHeld
      rw [HWD.out] at hHd ⊢
      clear hHeld
      have hHeld := hHd
      clear hHd
      refine wpAnyH_ready (rs := [5, 7]) (by kernel_rfl) (by simp) ?_
      refine AllReadyH.cons (o := ⟨some 36, _, _, _, _, _⟩) rfl (fun K hK => ?_) ?_
      · go_simp
        have HL := hHeld
        refine hK.out _ _ HL (fun hHeld => ?_); clear hK K
        try simp only [Act.put, List.setIfInBounds_toArray, List.set_cons_zero, List.set_cons_succ]
        refine wpAnyH_ready (rs := [7]) (by kernel_rfl) (by simp) ?_
        refine AllReadyH.cons (o := ⟨some 38, _, _, _, _, _⟩) rfl (fun K hK => ?_) AllReadyH.nil
        go_simp
        have HL := hHeld
        rw [HWA.out]
        refine hK.out _ _ TBA (fun hHeld => ?_); clear hK K HL
        try simp only [Act.put, List.setIfInBounds_toArray, List.set_cons_zero, List.set_cons_succ]

        refine wpAnyH_ready (rs := [8]) (by kernel_rfl) (by simp) ?_
        refine AllReadyH.cons (o := ⟨some 39, _, _, _, _, _⟩) rfl (fun K hK => ?_) AllReadyH.nil
        have HL := hHeld
        refine step_append_lies _ rfl _ _ 26 rfl (g + 1) 55 ti zt 11 ti.bytes Tryz.underlying26 hti hz1 hs1 rfl hz2 (by decide) (.slice A' n' c') n' (rowOf (tms (coefAt v e0 (ds.take i)))) rfl HRW.out.row ⟨wd.heap.size, 0, none⟩ 1 1 [.int .i64 z0, .int .i64 z1, .int .i64 z2, .int .i64 z3, .int .i64 z4, .int .i64 z5, .int .i64 z6, .int .i64 z7, .bool x.1.s, .slice x.1.A x.1.n x.1.c, .slice x.1.B x.1.m x.1.d] rfl rfl NEWS.out (by simp [Value.oneCell']) (by decide) (by simp [maxLen]; omega) hby1 hga wa.heap.size rfl ?_
        intro g' cap' w4 hown hgrow hat hlt4
        have TB4 : TermBox b z0 z1 z2 z3 z4 z5 z6 z7 x.1 w4 := TBA.far (hgrow.block b hbwa (HNB.out b (Or.inr rfl)))
        have c5 : w4.cell? ⟨g, e0, none⟩ = some (.slice A' n' c') := (World.cell?_of_block (a := ⟨g, e0, none⟩) (hgrow.block g hgwa (HNB.out g (Or.inl rfl)))).trans cA
        have f5 : w4.frozen? ⟨g, e0, none⟩ = false := (World.frozen?_of_block (a := ⟨g, e0, none⟩) (hgrow.block g hgwa (HNB.out g (Or.inl rfl)))).trans fA
        have HOWN := Lib.hid hown
        have HGROW := Lib.hid hgrow
        have HAT := Lib.hid hat
        clear hown hgrow hat
        refine hK.out _ _ TB4 (fun hHeld => ?_); clear hK K
        try simp only [Act.put, List.setIfInBounds_toArray, List.set_cons_zero, List.set_cons_succ]
        refine wpAnyH_take (i := 9) (oi := ⟨some 40, _, _, _, _, _⟩) (v := ?_) rfl (by kernel_rfl) (by kernel_rfl) (by kernel_rfl) (fun _ _ _ h => h) (Or.inl ⟨by rfl, ?_⟩) (by assumption) ?_
        rotate_left
        · intro w hSw
          go_simp
          try with_reducible rfl
        try simp only [Act.put, List.setIfInBounds_toArray, List.set_cons_zero, List.set_cons_succ]
        refine wpAnyH_ready (rs := [10]) (by kernel_rfl) (by simp) ?_
        refine AllReadyH.cons (o := ⟨none, _, _, _, _, _⟩) rfl (fun K hK => ?_) AllReadyH.nil
        go_simp
        refine hK.out _ _ (TB4.far (Below.heap_setCell _ _ _ _ (by simp only; omega))) (fun hHeld => ?_); clear hK K
        try simp only [Act.put, List.setIfInBounds_toArray, List.set_cons_zero, List.set_cons_succ]
        refine wpAnyH_done (by kernel_rfl) ?_ _
        have HSN := Lib.hid (HSA.out.step HX.out HE0.out he0D HFE.out HRX.out HLX.out HCC.out HOWN.out HGROW.out HAT.out)
        have HBN : Hid (Below w.heap.size w (w4.setCell ⟨g, e0, none⟩ (.slice (some ⟨g', 0, none⟩) (n' + 1) cap'))) := ((grown_below HBA.out HRW.out.row HGROW.out HBA.out.size (by omega)).setCell (p := ⟨g, e0, none⟩) hwg _)
        clear hHeld HL TB4 c5 f5 cA fA HOWN HGROW HAT
        go_wp2
        go_roundw
        case rel => exact ⟨_, i + 1, by go_num, by omega, HSN.out, HBN⟩
        case measure => simp [intOf] <;> omega

      refine AllReadyH.cons (o := ⟨some 38, _, _, _, _, _⟩) rfl (fun K hK => ?_) AllReadyH.nil
      go_simp
      have HL := hHeld
      rw [HWA.out]
      refine hK.out _ _ TBA (fun hHeld => ?_); clear hK K HL
      try simp only [Act.put, List.setIfInBounds_toArray, List.set_cons_zero, List.set_cons_succ]

      refine wpAnyH_ready (rs := [5]) (by kernel_rfl) (by simp) ?_
      refine AllReadyH.cons (o := ⟨some 36, _, _, _, _, _⟩) rfl (fun K hK => ?_) AllReadyH.nil
      go_simp; have HL := hHeld; refine hK.out _ _ HL (fun hHeld => ?_); clear hK K; try simp only [Act.put, List.setIfInBounds_toArray, List.set_cons_zero, List.set_cons_succ]

      refine wpAnyH_ready (rs := [8]) (by kernel_rfl) (by simp) ?_
      refine AllReadyH.cons (o := ⟨some 39, _, _, _, _, _⟩) rfl (fun K hK => ?_) AllReadyH.nil
      have HL := hHeld
      refine step_append_lies _ rfl _ _ 26 rfl (g + 1) 55 ti zt 11 ti.bytes Tryz.underlying26 hti hz1 hs1 rfl hz2 (by decide) (.slice A' n' c') n' (rowOf (tms (coefAt v e0 (ds.take i)))) rfl HRW.out.row ⟨wd.heap.size, 0, none⟩ 1 1 [.int .i64 z0, .int .i64 z1, .int .i64 z2, .int .i64 z3, .int .i64 z4, .int .i64 z5, .int .i64 z6, .int .i64 z7, .bool x.1.s, .slice x.1.A x.1.n x.1.c, .slice x.1.B x.1.m x.1.d] rfl rfl NEWS.out (by simp [Value.oneCell']) (by decide) (by simp [maxLen]; omega) hby1 hga wa.heap.size rfl ?_
      intro g' cap' w4 hown hgrow hat hlt4
      have TB4 : TermBox b z0 z1 z2 z3 z4 z5 z6 z7 x.1 w4 := TBA.far (hgrow.block b hbwa (HNB.out b (Or.inr rfl)))
      have c5 : w4.cell? ⟨g, e0, none⟩ = some (.slice A' n' c') := (World.cell?_of_block (a := ⟨g, e0, none⟩) (hgrow.block g hgwa (HNB.out g (Or.inl rfl)))).trans cA
      have f5 : w4.frozen? ⟨g, e0, none⟩ = false := (World.frozen?_of_block (a := ⟨g, e0, none⟩) (hgrow.block g hgwa (HNB.out g (Or.inl rfl)))).trans fA
      have HOWN := Lib.hid hown
      have HGROW := Lib.hid hgrow
      have HAT := Lib.hid hat
      clear hown hgrow hat
      refine hK.out _ _ TB4 (fun hHeld => ?_); clear hK K
      try simp only [Act.put, List.setIfInBounds_toArray, List.set_cons_zero, List.set_cons_succ]
      refine wpAnyH_take (i := 9) (oi := ⟨some 40, _, _, _, _, _⟩) (v := ?_) rfl (by kernel_rfl) (by kernel_rfl) (by kernel_rfl) (fun _ _ _ h => h) (Or.inl ⟨by rfl, ?_⟩) (by assumption) ?_
      rotate_left
      · intro w hSw
        go_simp
        try with_reducible rfl
      try simp only [Act.put, List.setIfInBounds_toArray, List.set_cons_zero, List.set_cons_succ]
      refine wpAnyH_ready (rs := [10]) (by kernel_rfl) (by simp) ?_
      refine AllReadyH.cons (o := ⟨none, _, _, _, _, _⟩) rfl (fun K hK => ?_) AllReadyH.nil
      go_simp
      refine hK.out _ _ (TB4.far (Below.heap_setCell _ _ _ _ (by simp only; omega))) (fun hHeld => ?_); clear hK K
      try simp only [Act.put, List.setIfInBounds_toArray, List.set_cons_zero, List.set_cons_succ]
      refine wpAnyH_done (by kernel_rfl) ?_ _
      have HSN := Lib.hid (HSA.out.step HX.out HE0.out he0D HFE.out HRX.out HLX.out HCC.out HOWN.out HGROW.out HAT.out)
      have HBN : Hid (Below w.heap.size w (w4.setCell ⟨g, e0, none⟩ (.slice (some ⟨g', 0, none⟩) (n' + 1) cap'))) := ((grown_below HBA.out HRW.out.row HGROW.out HBA.out.size (by omega)).setCell (p := ⟨g, e0, none⟩) hwg _)
      clear hHeld HL TB4 c5 f5 cA fA HOWN HGROW HAT
      go_wp2
      go_roundw
      case rel => exact ⟨_, i + 1, by go_num, by omega, HSN.out, HBN⟩
      case measure => simp [intOf] <;> omega

    · obtain rfl : i = n := by omega
      have hdt : ds.take i = ds := List.take_of_length_le (by rw [← HLEN.out]; exact Nat.le_refl _)
      have hq := HSP.out
      rw [hdt] at hq
      have HQ2 := Lib.hid hq
      clear HSP hq hdt
      go_wp2
      go_ret
      exact ⟨g, f, rfl, HQ2.out, HBR.out⟩
end Go.Proofs.YtnkfmbjpbfpfkaaGreatDoor
