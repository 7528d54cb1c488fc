/-
  wide.Reach: how far the exponents of a product go; the test of polynomial.Mul.
  polynomial.Mul: normal forms first, then how far the exponents go, then the product.
-/
import Derived.Test.YtebbnmjmjoklmaaGreatDoorPolyOps2
namespace Go.Proofs.YtebbnmjmjoklmaaGreatDoor
open Go Go.RowKit Go.WideMaps
set_option maxRecDepth 20000

theorem mono_ix {x0 x1 x2 x3 x4 x5 x6 x7 : Int} {v : Nat} (hv : v < 8) (w : World) : (Instr.index 45 (.agg #[.int .i64 x0, .int .i64 x1, .int .i64 x2, .int .i64 x3, .int .i64 x4, .int .i64 x5, .int .i64 x6, .int .i64 x7]) (.int .i64 (v : Int))).run Tryz.prog w = .ok (.int .i64 ([x0, x1, x2, x3, x4, x5, x6, x7].getD v 0)) w := by
  match v, hv with
  | 0, _ => exact mix0 _ _ _ _ _ _ _ _ w
  | 1, _ => exact mix1 _ _ _ _ _ _ _ _ w
  | 2, _ => exact mix2 _ _ _ _ _ _ _ _ w
  | 3, _ => exact mix3 _ _ _ _ _ _ _ _ w
  | 4, _ => exact mix4 _ _ _ _ _ _ _ _ w
  | 5, _ => exact mix5 _ _ _ _ _ _ _ _ w
  | 6, _ => exact mix6 _ _ _ _ _ _ _ _ w
  | 7, _ => exact mix7 _ _ _ _ _ _ _ _ w
/-- A Reach that began empty: the most is f, and it is sure where it is not 0. -/
structure ReachF (b : Nat) (f : Nat → Int) (W : World) : Prop where
  most : ∀ j, j < 8 → W.cell? ⟨b, j, none⟩ = some (.int .i64 (f j))
  sure : ∀ j, j < 8 → W.cell? ⟨b, 8 + j, none⟩ = some (.bool (decide (0 < f j)))
  free : ∀ j, W.frozen? ⟨b, j, none⟩ = false
theorem ReachF.far {b : Nat} {f : Nat → Int} {W W' : World} (h : ReachF b f W) (hf : W'.heap[b]? = W.heap[b]?) : ReachF b f W' :=
  ⟨fun j hj => (World.cell?_of_block (w := W) (a := ⟨b, j, none⟩) hf).trans (h.most j hj), fun j hj => (World.cell?_of_block (w := W) (a := ⟨b, 8 + j, none⟩) hf).trans (h.sure j hj), fun j => (World.frozen?_of_block (w := W) (a := ⟨b, j, none⟩) hf).trans (h.free j)⟩
theorem ReachF.congr {b : Nat} {f g : Nat → Int} {W : World} (h : ReachF b f W) (e : ∀ j, j < 8 → f j = g j) : ReachF b g W :=
  ⟨fun j hj => by rw [← e j hj]; exact h.most j hj, fun j hj => by rw [← e j hj]; exact h.sure j hj, h.free⟩
theorem ReachF.drew {b : Nat} {f : Nat → Int} {W : World} (h : ReachF b f W) : ReachF b f W.drew := ⟨h.most, h.sure, h.free⟩
theorem cell_set_ne {w : World} {b j i : Nat} {v : Value} (h : j ≠ i) : (w.setCell ⟨b, i, none⟩ v).cell? ⟨b, j, none⟩ = w.cell? ⟨b, j, none⟩ :=
  World.cell?_setCell_other _ _ _ _ (by intro e; injection e with _ e; exact h e.symm)
theorem cell_set_eq {w : World} {b j : Nat} {u v : Value} (h : w.cell? ⟨b, j, none⟩ = some u) : (w.setCell ⟨b, j, none⟩ v).cell? ⟨b, j, none⟩ = some v := by
  go_simp
/-- The value e is put at i. -/
theorem ReachF.put {b i : Nat} {f : Nat → Int} {W : World} {e : Int} (h : ReachF b f W) (hi : i < 8) (he : 0 < e) : ReachF b (fun j => if j = i then e else f j) ((W.setCell ⟨b, i, none⟩ (.int .i64 e)).setCell ⟨b, 8 + i, none⟩ (.bool true)) := by
  refine ⟨fun j hj => ?_, fun j hj => ?_, fun j => by rw [World.frozen?_setCell, World.frozen?_setCell]; exact h.free j⟩
  · rw [cell_set_ne (by omega)]
    by_cases hji : j = i
    · subst hji
      rw [if_pos rfl]
      exact cell_set_eq (h.most j hj)
    · rw [if_neg hji, cell_set_ne hji]
      exact h.most j hj
  · by_cases hji : j = i
    · subst hji
      rw [if_pos rfl, decide_eq_true he]
      exact cell_set_eq (u := .bool (decide (0 < f j))) (by rw [cell_set_ne (by omega)]; exact h.sure j hj)
    · rw [if_neg hji, cell_set_ne (by omega), cell_set_ne (by omega)]
      exact h.sure j hj
theorem ReachF.stay {b i : Nat} {f : Nat → Int} {W : World} (h : ReachF b f W) (hi : i < 8) (h0 : f i = 0) : ReachF b f (W.setCell ⟨b, 8 + i, none⟩ (.bool false)) := by
  refine ⟨fun j hj => ?_, fun j hj => ?_, fun j => by rw [World.frozen?_setCell]; exact h.free j⟩
  · rw [cell_set_ne (by omega)]
    exact h.most j hj
  · by_cases hji : j = i
    · subst hji
      rw [h0]
      exact cell_set_eq (h.sure j hj)
    · rw [cell_set_ne (by omega)]
      exact h.sure j hj

set_option maxHeartbeats 8000000 in
theorem reach_add {w : World} {b : Nat} {x0 x1 x2 x3 x4 x5 x6 x7 : Int} (h : ReachF b (fun _ => 0) w) (hp : ∀ e ∈ [x0, x1, x2, x3, x4, x5, x6, x7], 0 ≤ e) :
    Calls Tryz.prog 38 #[.pointer (some ⟨b, 0, none⟩), .agg #[.int .i64 x0, .int .i64 x1, .int .i64 x2, .int .i64 x3, .int .i64 x4, .int .i64 x5, .int .i64 x6, .int .i64 x7]] w fun e w' => e = .returned (.tuple #[]) ∧ ReachF b (fun j => [x0, x1, x2, x3, x4, x5, x6, x7].getD j 0) w' ∧ Keeps b b b w w' := by
  have hbl : b < w.heap.size := World.block_lt_of_cell? w ⟨b, 0, none⟩ (h.most 0 (by decide))
  obtain ⟨u, hu⟩ : ∃ u, w.alloc (.cells #[.int .i64 x0, .int .i64 x1, .int .i64 x2, .int .i64 x3, .int .i64 x4, .int .i64 x5, .int .i64 x6, .int .i64 x7] 45) = u := ⟨_, rfl⟩
  have hbu : Below w.heap.size w u := hu ▸ (Below.refl _ w).alloc (Nat.le_refl _) _
  have hR : Hid (ReachF b (fun _ => 0) u) := h.far (hbu.block b hbl)
  have hK : Hid (Keeps b b b w u) := Keeps.below hbu
  have hm := (MonoAt.lit w x0 x1 x2 x3 x4 x5 x6 x7)
  rw [hu] at hm
  obtain ⟨c0, c1, c2, c3, c4, c5, c6, c7⟩ := hm.cells
  have HU := Lib.hid hu
  have HP := Lib.hid hp
  clear hu hbu h hm hp
  go_enter Tryz.func38, Tryz.ntmps38
  go_wp2_with fail
  rw [HU.out]
  go_wp2
  clear c0 c1 c2 c3 c4 c5 c6 c7
  go_loopw [7] (fun iv wr => ∃ i : Nat, i ≤ 8 ∧ iv = .int .i64 i ∧ Hid (ReachF b (fun j => if j < i then [x0, x1, x2, x3, x4, x5, x6, x7].getD j 0 else 0) wr) ∧ Hid (Keeps b b b w wr)) (fun iv _ => 8 - (intOf iv).toNat)
  case atStart => exact ⟨0, by decide, rfl, hR.out.congr (fun j _ => by rw [if_neg (by omega)]), hK.out⟩
  case round =>
    obtain ⟨i, hi, rfl, HR, HK⟩ := hrel
    by_cases hlt : i < 8
    · have hix := fun w => mono_ix (x0 := x0) (x1 := x1) (x2 := x2) (x3 := x3) (x4 := x4) (x5 := x5) (x6 := x6) (x7 := x7) hlt w
      obtain ⟨e, he⟩ : ∃ e, [x0, x1, x2, x3, x4, x5, x6, x7].getD i 0 = e := ⟨_, rfl⟩
      have he0 : 0 ≤ e := by
        rw [← he, List.getD_eq_getElem?_getD, List.getElem?_eq_getElem (by simpa using hlt)]
        exact HP.out _ (List.getElem_mem _)
      rw [he] at hix
      have hi2 : (i : Int) < 8 := by omega
      have hi3 : (0 : Int) ≤ i := by omega
      have cm : wr.cell? ⟨b, i, none⟩ = some (.int .i64 0) := by
        have h := HR.out.most i hlt
        rw [if_neg (by omega)] at h
        exact h
      have cs : wr.cell? ⟨b, 8 + i, none⟩ = some (.bool false) := by
        have h := HR.out.sure i hlt
        rw [if_neg (by omega)] at h
        exact h
      have fm := HR.out.free i
      have fs := HR.out.free (8 + i)
      have HE := Lib.hid he
      clear he
      by_cases hpos : 0 < e
      · have HN : Hid (ReachF b (fun j => if j < i + 1 then [x0, x1, x2, x3, x4, x5, x6, x7].getD j 0 else 0) ((wr.setCell ⟨b, i, none⟩ (.int .i64 e)).setCell ⟨b, 8 + i, none⟩ (.bool true))) := (HR.out.put hlt hpos).congr fun j hj => by
          by_cases hji : j = i
          · subst hji; rw [if_pos rfl, if_pos (by omega), HE.out]
          · rw [if_neg hji]
            by_cases hj2 : j < i
            · rw [if_pos hj2, if_pos (by omega)]
            · rw [if_neg hj2, if_neg (by omega)]
        have HK2 : Hid (Keeps b b b w ((wr.setCell ⟨b, i, none⟩ (.int .i64 e)).setCell ⟨b, 8 + i, none⟩ (.bool true))) := (HK.out.trans (Keeps.set i _)).trans (Keeps.set (8 + i) _)
        go_wp2
        go_region
        go_wp2
        go_roundw
        case rel => exact ⟨i + 1, by omega, by go_num, HN.out.drew, HK2.out.drewn⟩
        case measure => simp [intOf] <;> omega
      · obtain rfl : e = 0 := by omega
        have HN : Hid (ReachF b (fun j => if j < i + 1 then [x0, x1, x2, x3, x4, x5, x6, x7].getD j 0 else 0) (wr.setCell ⟨b, 8 + i, none⟩ (.bool false))) := (HR.out.stay hlt (by rw [if_neg (by omega)])).congr fun j hj => by
          by_cases hji : j = i
          · subst hji; rw [if_neg (by omega), if_pos (by omega), HE.out]
          · by_cases hj2 : j < i
            · rw [if_pos hj2, if_pos (by omega)]
            · rw [if_neg hj2, if_neg (by omega)]
        have HK2 : Hid (Keeps b b b w (wr.setCell ⟨b, 8 + i, none⟩ (.bool false))) := HK.out.trans (Keeps.set (8 + i) _)
        go_wp2
        go_roundw
        case rel => exact ⟨i + 1, by omega, by go_num, HN.out, HK2.out⟩
        case measure => simp [intOf] <;> omega
    · obtain rfl : i = 8 := by omega
      have HN : Hid (ReachF b (fun j => [x0, x1, x2, x3, x4, x5, x6, x7].getD j 0) wr) := HR.out.congr fun j hj => by rw [if_pos hj]
      clear HR
      go_wp2
      go_end0
      exact ⟨rfl, HN.out, HK.out⟩

/-- A slice of two polynomials. -/
def TwoAt (h : Nat) (A : Option Addr) (n c : Nat) (B : Option Addr) (m d : Nat) (W : World) : Prop := W.cell? ⟨h, 0, none⟩ = some (.slice A n c) ∧ W.cell? ⟨h, 1, none⟩ = some (.slice B m d)
theorem TwoAt.far {h : Nat} {A : Option Addr} {n c : Nat} {B : Option Addr} {m d : Nat} {W W' : World} (hh : TwoAt h A n c B m d W) (hf : W'.heap[h]? = W.heap[h]?) : TwoAt h A n c B m d W' :=
  ⟨(World.cell?_of_block (w := W) (a := ⟨h, 0, none⟩) hf).trans hh.1, (World.cell?_of_block (w := W) (a := ⟨h, 1, none⟩) hf).trans hh.2⟩
theorem madd_zero {L : List Int} (h : L.length = 8) : madd [0, 0, 0, 0, 0, 0, 0, 0] L = L := by
  obtain ⟨x0, x1, x2, x3, x4, x5, x6, x7, rfl⟩ := eight h
  simp [madd]
/-- The greatest exponents of a product. -/
def reachOf (n m : Nat) (ds es : List Tq) (j : Nat) : Int := if n = 0 ∨ m = 0 then 0 else (madd (degs ds) (degs es)).getD j 0
theorem degs_monoE {ds : List Tq} {E : Int} (hE : 0 ≤ E) (h : ∀ x ∈ ds, MonoE E x.1.L) : MonoE E (degs ds) := by
  have key : ∀ (l : List Tq) (m : List Int), (∀ x ∈ l, MonoE E x.1.L) → MonoE E m → MonoE E (l.foldl (fun m x => mmax m x.1.L) m) := by
    intro l
    induction l with
    | nil => intro m _ h; exact h
    | cons x l ih =>
      intro m hl hm
      refine ih _ (fun y hy => hl y (List.mem_cons_of_mem _ hy)) ?_
      have hx := hl x (List.mem_cons_self ..)
      obtain ⟨a0, a1, a2, a3, a4, a5, a6, a7, rfl⟩ := eight hm.1
      obtain ⟨b0, b1, b2, b3, b4, b5, b6, b7, hb⟩ := eight hx.1
      refine ⟨mmax_8 hm.1 hx.1, ?_⟩
      have h1 := hm.2
      have h2 := hx.2
      rw [hb] at h2
      show ∀ e ∈ mmax [a0, a1, a2, a3, a4, a5, a6, a7] x.1.L, 0 ≤ e ∧ e ≤ E
      rw [hb]
      show ∀ e ∈ [max a0 b0, max a1 b1, max a2 b2, max a3 b3, max a4 b4, max a5 b5, max a6 b6, max a7 b7], 0 ≤ e ∧ e ≤ E
      simp only [List.mem_cons, List.not_mem_nil, or_false, forall_eq_or_imp, forall_eq] at h1 h2 ⊢
      omega
  exact key ds _ h ⟨rfl, by simp; exact hE⟩

set_option maxHeartbeats 16000000 in
theorem reach_two {w : World} {b h : Nat} {A B : Option Addr} {n c m d kd ke : Nat} {E F : Int} {ds es : List Tq} (hr : ReachF b (fun _ => 0) w) (ht : TwoAt h A n c B m d w) (hd : PolyRd w A n c ds kd E) (he : PolyRd w B m d es ke F) (hE : E ≤ 1000000000) (hF : F ≤ 1000000000) (hE0 : 0 ≤ E) (hF0 : 0 ≤ F) :
    Calls Tryz.prog 19 #[.pointer (some ⟨b, 0, none⟩), .slice (some ⟨h, 0, none⟩) 2 2] w fun e w' => e = .returned (.tuple #[]) ∧ ReachF b (reachOf n m ds es) w' ∧ Keeps b b b w w' := by
  have hbl : b < w.heap.size := World.block_lt_of_cell? w ⟨b, 0, none⟩ (hr.most 0 (by decide))
  have hhl : h < w.heap.size := World.block_lt_of_cell? w ⟨h, 0, none⟩ ht.1
  obtain ⟨g, hg⟩ : ∃ g, w.heap.size = g := ⟨_, rfl⟩
  obtain ⟨u, hu⟩ : ∃ u, w.alloc (.cells #[.int .i64 0, .int .i64 0, .int .i64 0, .int .i64 0, .int .i64 0, .int .i64 0, .int .i64 0, .int .i64 0] 45) = u := ⟨_, rfl⟩
  have hbu : Below w.heap.size w u := hu ▸ (Below.refl _ w).alloc (Nat.le_refl _) _
  have hus : u.heap.size = g + 1 := by rw [← hu, ← hg]; simp
  have hm := MonoAt.lit w 0 0 0 0 0 0 0 0
  rw [hu, hg] at hm
  have HRW := Lib.hid hr
  have HTW := Lib.hid ht
  have HR : Hid (ReachF b (fun _ => 0) u) := hr.far (hbu.block b hbl)
  have HT : Hid (TwoAt h A n c B m d u) := ht.far (hbu.block h hhl)
  have HK : Hid (Keeps b b b w u) := Keeps.below hbu
  obtain ⟨a0, a1, a2, a3, a4, a5, a6, a7, hDA⟩ := eight (degs_8 (ds := ds) fun x hx => (hd.mono x hx).1)
  obtain ⟨y0, y1, y2, y3, y4, y5, y6, y7, hDB⟩ := eight (degs_8 (ds := es) fun x hx => (he.mono x hx).1)
  have MA := degs_monoE hE0 hd.mono
  have MB := degs_monoE hF0 he.mono
  rw [hDA] at MA
  rw [hDB] at MB
  have HDD : Hid (∀ W, Below g w W → Calls Tryz.prog 37 #[.slice A n c] W fun e w' => e = .returned (.agg #[.int .i64 a0, .int .i64 a1, .int .i64 a2, .int .i64 a3, .int .i64 a4, .int .i64 a5, .int .i64 a6, .int .i64 a7]) ∧ Below W.heap.size W w') := fun W hW => by
    have h := degrees_x (hd.below (by rw [hg]; exact hW))
    rw [hDA] at h
    exact h
  have HDE : Hid (∀ W, Below g w W → Calls Tryz.prog 37 #[.slice B m d] W fun e w' => e = .returned (.agg #[.int .i64 y0, .int .i64 y1, .int .i64 y2, .int .i64 y3, .int .i64 y4, .int .i64 y5, .int .i64 y6, .int .i64 y7]) ∧ Below W.heap.size W w') := fun W hW => by
    have h := degrees_x (he.below (by rw [hg]; exact hW))
    rw [hDB] at h
    exact h
  have HM1 : Hid (∀ W, Calls Tryz.prog 36 #[.agg #[.int .i64 0, .int .i64 0, .int .i64 0, .int .i64 0, .int .i64 0, .int .i64 0, .int .i64 0, .int .i64 0], .agg #[.int .i64 a0, .int .i64 a1, .int .i64 a2, .int .i64 a3, .int .i64 a4, .int .i64 a5, .int .i64 a6, .int .i64 a7]] W fun e w' => e = .returned (.agg #[.int .i64 a0, .int .i64 a1, .int .i64 a2, .int .i64 a3, .int .i64 a4, .int .i64 a5, .int .i64 a6, .int .i64 a7]) ∧ Below W.heap.size W w') := fun W => by
    have h := monoProduct_any (L := [0, 0, 0, 0, 0, 0, 0, 0]) (M := [a0, a1, a2, a3, a4, a5, a6, a7]) W ⟨rfl, by simp [Expo]⟩ (MA.mono8 hE)
    rw [madd_zero rfl] at h
    exact h
  have HM2 : Hid (∀ W, Calls Tryz.prog 36 #[.agg #[.int .i64 a0, .int .i64 a1, .int .i64 a2, .int .i64 a3, .int .i64 a4, .int .i64 a5, .int .i64 a6, .int .i64 a7], .agg #[.int .i64 y0, .int .i64 y1, .int .i64 y2, .int .i64 y3, .int .i64 y4, .int .i64 y5, .int .i64 y6, .int .i64 y7]] W fun e w' => e = .returned (.agg #[.int .i64 (a0 + y0), .int .i64 (a1 + y1), .int .i64 (a2 + y2), .int .i64 (a3 + y3), .int .i64 (a4 + y4), .int .i64 (a5 + y5), .int .i64 (a6 + y6), .int .i64 (a7 + y7)]) ∧ Below W.heap.size W w') := fun W =>
    monoProduct_any (L := [a0, a1, a2, a3, a4, a5, a6, a7]) (M := [y0, y1, y2, y3, y4, y5, y6, y7]) W (MA.mono8 hE) (MB.mono8 hF)
  have HPOS : Hid (∀ e ∈ [a0 + y0, a1 + y1, a2 + y2, a3 + y3, a4 + y4, a5 + y5, a6 + y6, a7 + y7], 0 ≤ e) := by
    have h1 := MA.2
    have h2 := MB.2
    simp only [List.mem_cons, List.not_mem_nil, or_false, forall_eq_or_imp, forall_eq] at h1 h2
    show ∀ e ∈ _, _
    simp only [List.mem_cons, List.not_mem_nil, or_false, forall_eq_or_imp, forall_eq]
    omega
  have HRO : Hid (¬ (n = 0 ∨ m = 0) → ∀ j, reachOf n m ds es j = [a0 + y0, a1 + y1, a2 + y2, a3 + y3, a4 + y4, a5 + y5, a6 + y6, a7 + y7].getD j 0) := fun hne j => by
    unfold reachOf
    rw [if_neg hne, hDA, hDB]; rfl
  have HU := Lib.hid hu
  have HG := Lib.hid hg
  have HMG := Lib.hid hm
  have hbg : b < g := by omega
  have hhg : h < g := by omega
  have ct := ht.far (hbu.block h hhl)
  obtain ⟨ct0, ct1⟩ := ct
  have hbg0 : Below g w u := hg ▸ hbu
  clear hu hg hm hr ht hd he MA MB hDA hDB hbu
  go_enter Tryz.func19, Tryz.ntmps19
  go_wp2_with fail
  rw [HU.out, HG.out]
  refine wp_loop_rounds 3 ?_
  rw [rounds_succ]
  by_cases hn : n = 0
  · subst hn
    go_wp2
    exact bodyPost_ret (results_none rfl _ _ _) rfl ⟨rfl, HR.out.congr fun j _ => by simp [reachOf], HK.out⟩
  · have hn2 : ¬ (n : Int) = 0 := by omega
    obtain ⟨e0, e1, e2, e3, e4, e5, e6, e7⟩ := HMG.out.cells
    have fz := HMG.out.2
    go_wp2_with fail
    go_region_with (first | (go_at_call 37; refine (HDD.out _ hbg0.drew).mono ?_; rintro e w1 ⟨rfl, b1⟩; have N1 := HMG.out.far (b1.block g (by simp [hus])); obtain ⟨k0, k1, k2, k3, k4, k5, k6, k7⟩ := N1.cells; have kz := N1.2) | (go_at_call 36; refine (HM1.out _).mono ?_; rintro e w2 ⟨rfl, b2⟩; have N2 := N1.far (b2.block g (by have := b1.size; simp at this; omega)); have c2 := N2.cells; have l0 := c2.1; have l1 := c2.2.1; have l2 := c2.2.2.1; have l3 := c2.2.2.2.1; have l4 := c2.2.2.2.2.1; have l5 := c2.2.2.2.2.2.1; have l6 := c2.2.2.2.2.2.2.1; have l7 := c2.2.2.2.2.2.2.2; clear c2; have lz := N2.2))
    all_goals
      have P2 := put8_mono N2 a0 a1 a2 a3 a4 a5 a6 a7
      have s1 := b1.size
      have s2 := b2.size
      have s1 : u.heap.size ≤ w1.heap.size := s1
      have B2 : Below g w (put8 w2 g a0 a1 a2 a3 a4 a5 a6 a7) := put8_below ((hbg0.drew.trans (b1.mono (by simp; omega))).trans (b2.mono (by omega))) (Nat.le_refl _) _ _ _ _ _ _ _ _
      obtain ⟨v2, hv2⟩ : ∃ v2, put8 w2 g a0 a1 a2 a3 a4 a5 a6 a7 = v2 := ⟨_, rfl⟩
      rw [hv2] at P2 B2
      have sv : g < v2.heap.size := by rw [← hv2]; simp; omega
      have HV2 := Lib.hid hv2
      clear hv2 e0 e1 e2 e3 e4 e5 e6 e7 k0 k1 k2 k3 k4 k5 k6 k7 l0 l1 l2 l3 l4 l5 l6 l7 lz kz fz N1 N2
      go_wp2_with fail
      have hv2 := HV2.out
      unfold put8 at hv2
      rw [hv2]
      rw [rounds_succ]
      have R2 := Lib.hid (HRW.out.far (B2.block b (by have := HG.out; omega)))
      have T2 := HTW.out.far (B2.block h (by have := HG.out; omega))
      obtain ⟨ct0', ct1'⟩ := T2
      have K2 : Hid (Keeps b b b w v2) := Keeps.below (by rw [HG.out]; exact B2)
      have HP2 := Lib.hid P2
      have HB2 := Lib.hid B2
      clear hv2 HV2 P2 B2 b1 b2 s1 s2 ct0 ct1 HM1 HDD
      by_cases hm : m = 0
      · subst hm
        go_wp2
        exact bodyPost_ret (results_none rfl _ _ _) rfl ⟨rfl, R2.out.congr fun j _ => by simp [reachOf], K2.out⟩
      · have hm2 : ¬ (m : Int) = 0 := by omega
        obtain ⟨e0, e1, e2, e3, e4, e5, e6, e7⟩ := HP2.out.cells
        have fz := HP2.out.2
        go_wp2_with fail
        go_region_with (first | (go_at_call 37; refine (HDE.out _ HB2.out.drew).mono ?_; rintro e w3 ⟨rfl, b1⟩; have N1 := HP2.out.far (b1.block g (by simp; omega)); obtain ⟨k0, k1, k2, k3, k4, k5, k6, k7⟩ := N1.cells; have kz := N1.2) | (go_at_call 36; refine (HM2.out _).mono ?_; rintro e w4 ⟨rfl, b2⟩; have N2 := N1.far (b2.block g (by have := b1.size; simp at this; omega)); have c2 := N2.cells; have l0 := c2.1; have l1 := c2.2.1; have l2 := c2.2.2.1; have l3 := c2.2.2.2.1; have l4 := c2.2.2.2.2.1; have l5 := c2.2.2.2.2.2.1; have l6 := c2.2.2.2.2.2.2.1; have l7 := c2.2.2.2.2.2.2.2; clear c2; have lz := N2.2))
        all_goals
          have P3 := put8_mono N2 (a0 + y0) (a1 + y1) (a2 + y2) (a3 + y3) (a4 + y4) (a5 + y5) (a6 + y6) (a7 + y7)
          have s1 := b1.size
          have s2 := b2.size
          have s1 : v2.heap.size ≤ w3.heap.size := s1
          have B3 : Below g w (put8 w4 g (a0 + y0) (a1 + y1) (a2 + y2) (a3 + y3) (a4 + y4) (a5 + y5) (a6 + y6) (a7 + y7)) := put8_below ((HB2.out.drew.trans (b1.mono (by simp; omega))).trans (b2.mono (by omega))) (Nat.le_refl _) _ _ _ _ _ _ _ _
          obtain ⟨v3, hv3⟩ : ∃ v3, put8 w4 g (a0 + y0) (a1 + y1) (a2 + y2) (a3 + y3) (a4 + y4) (a5 + y5) (a6 + y6) (a7 + y7) = v3 := ⟨_, rfl⟩
          rw [hv3] at P3 B3
          have HV3 := Lib.hid hv3
          clear hv3 e0 e1 e2 e3 e4 e5 e6 e7 k0 k1 k2 k3 k4 k5 k6 k7 l0 l1 l2 l3 l4 l5 l6 l7 lz kz fz N1 N2
          go_wp2_with fail
          have hv3 := HV3.out
          unfold put8 at hv3
          rw [hv3]
          rw [rounds_succ]
          have R3 := Lib.hid (reach_add (HRW.out.far (B3.block b (by have := HG.out; omega))) HPOS.out)
          have K3 : Hid (Keeps b b b w v3) := Keeps.below (by rw [HG.out]; exact B3)
          obtain ⟨e0, e1, e2, e3, e4, e5, e6, e7⟩ := P3.cells
          clear hv3 HV3 B3 b1 b2 s1 s2 P3 HM2 HDE HB2 HP2 K2 R2
          go_wp2_with fail
          refine R3.out.mono ?_
          rintro e w5 ⟨rfl, h1, h2⟩
          have H1 := Lib.hid h1
          have H2 := Lib.hid (K3.out.trans h2)
          clear h1 h2 R3
          go_wp2
          go_end0
          exact ⟨rfl, H1.out.congr fun j _ => (HRO.out (by omega) j).symm, H2.out⟩

set_option maxHeartbeats 8000000 in
theorem beyond_x {f0 f1 f2 f3 f4 f5 f6 f7 : Int} (w : World) (hf : ∀ e ∈ [f0, f1, f2, f3, f4, f5, f6, f7], 0 ≤ e ∧ e ≤ 2000000000) :
    Calls Tryz.prog 20 #[.agg #[.int .i64 f0, .int .i64 f1, .int .i64 f2, .int .i64 f3, .int .i64 f4, .int .i64 f5, .int .i64 f6, .int .i64 f7, .bool (decide (0 < f0)), .bool (decide (0 < f1)), .bool (decide (0 < f2)), .bool (decide (0 < f3)), .bool (decide (0 < f4)), .bool (decide (0 < f5)), .bool (decide (0 < f6)), .bool (decide (0 < f7))], .agg #[.int .i64 0, .int .i64 0, .int .i64 0, .int .i64 0, .int .i64 0, .int .i64 0, .int .i64 0, .int .i64 0]] w fun e w' => e = .returned (.bool (decide (∃ e ∈ [f0, f1, f2, f3, f4, f5, f6, f7], 1024 < e))) ∧ Below w.heap.size w w' := by
  obtain ⟨R, hR⟩ : ∃ R, decide (∃ e ∈ [f0, f1, f2, f3, f4, f5, f6, f7], 1024 < e) = R := ⟨_, rfl⟩
  rw [hR]
  obtain ⟨g, hg⟩ : ∃ g, w.heap.size = g := ⟨_, rfl⟩
  obtain ⟨u, hu⟩ : ∃ u, (w.alloc (.cells #[.int .i64 f0, .int .i64 f1, .int .i64 f2, .int .i64 f3, .int .i64 f4, .int .i64 f5, .int .i64 f6, .int .i64 f7, .bool (decide (0 < f0)), .bool (decide (0 < f1)), .bool (decide (0 < f2)), .bool (decide (0 < f3)), .bool (decide (0 < f4)), .bool (decide (0 < f5)), .bool (decide (0 < f6)), .bool (decide (0 < f7))] 53)).alloc (.cells #[.int .i64 0, .int .i64 0, .int .i64 0, .int .i64 0, .int .i64 0, .int .i64 0, .int .i64 0, .int .i64 0] 45) = u := ⟨_, rfl⟩
  have hbu : Below w.heap.size w u := hu ▸ ((Below.refl _ w).alloc (Nat.le_refl _) _).alloc (by simp) _
  have hus : u.heap.size = g + 2 := by rw [← hu, ← hg]; simp
  have hm := MonoAt.lit (w.alloc (.cells #[.int .i64 f0, .int .i64 f1, .int .i64 f2, .int .i64 f3, .int .i64 f4, .int .i64 f5, .int .i64 f6, .int .i64 f7, .bool (decide (0 < f0)), .bool (decide (0 < f1)), .bool (decide (0 < f2)), .bool (decide (0 < f3)), .bool (decide (0 < f4)), .bool (decide (0 < f5)), .bool (decide (0 < f6)), .bool (decide (0 < f7))] 53)) 0 0 0 0 0 0 0 0
  rw [World.size_alloc, hu, hg] at hm
  obtain ⟨L, hL⟩ : ∃ L, [f0, f1, f2, f3, f4, f5, f6, f7] = L := ⟨_, rfl⟩
  have HRF : Hid (∀ j, j < 8 → u.cell? ⟨g, j, none⟩ = some (.int .i64 (L.getD j 0)) ∧ u.cell? ⟨g, 8 + j, none⟩ = some (.bool (decide (0 < L.getD j 0)))) := by
    have key : ∀ j, u.cell? ⟨g, j, none⟩ = (#[.int .i64 f0, .int .i64 f1, .int .i64 f2, .int .i64 f3, .int .i64 f4, .int .i64 f5, .int .i64 f6, .int .i64 f7, .bool (decide (0 < f0)), .bool (decide (0 < f1)), .bool (decide (0 < f2)), .bool (decide (0 < f3)), .bool (decide (0 < f4)), .bool (decide (0 < f5)), .bool (decide (0 < f6)), .bool (decide (0 < f7))] : Array Value)[j]? := fun j => by
      rw [← hu, ← hg, World.cell?_of_block (w := w.alloc (.cells #[.int .i64 f0, .int .i64 f1, .int .i64 f2, .int .i64 f3, .int .i64 f4, .int .i64 f5, .int .i64 f6, .int .i64 f7, .bool (decide (0 < f0)), .bool (decide (0 < f1)), .bool (decide (0 < f2)), .bool (decide (0 < f3)), .bool (decide (0 < f4)), .bool (decide (0 < f5)), .bool (decide (0 < f6)), .bool (decide (0 < f7))] 53)) (a := ⟨w.heap.size, j, none⟩) (Below.heap_alloc _ _ _ (by simp))]
      rw [World.cell?_alloc_new]
    rw [← hL]
    intro j hj
    rw [key, key]
    match j, hj with
    | 0, _ | 1, _ | 2, _ | 3, _ | 4, _ | 5, _ | 6, _ | 7, _ => exact ⟨rfl, rfl⟩
  have cells : u.cell? ⟨g, 0, none⟩ = some (.int .i64 f0) ∧ u.cell? ⟨g, 1, none⟩ = some (.int .i64 f1) ∧ u.cell? ⟨g, 2, none⟩ = some (.int .i64 f2) ∧ u.cell? ⟨g, 3, none⟩ = some (.int .i64 f3) ∧ u.cell? ⟨g, 4, none⟩ = some (.int .i64 f4) ∧ u.cell? ⟨g, 5, none⟩ = some (.int .i64 f5) ∧ u.cell? ⟨g, 6, none⟩ = some (.int .i64 f6) ∧ u.cell? ⟨g, 7, none⟩ = some (.int .i64 f7) := by
    have h := HRF.out
    rw [← hL] at h
    exact ⟨(h 0 (by decide)).1, (h 1 (by decide)).1, (h 2 (by decide)).1, (h 3 (by decide)).1, (h 4 (by decide)).1, (h 5 (by decide)).1, (h 6 (by decide)).1, (h 7 (by decide)).1⟩
  obtain ⟨c0, c1, c2, c3, c4, c5, c6, c7⟩ := cells
  have HF : Hid (∀ j, j < 8 → 0 ≤ L.getD j 0 ∧ L.getD j 0 ≤ 2000000000) := by
    intro j hj
    rw [← hL]
    rw [List.getD_eq_getElem?_getD, List.getElem?_eq_getElem (by simpa using hj)]
    exact hf _ (List.getElem_mem _)
  have HIX : Hid (∀ i : Nat, i < 8 → ∀ w, (Instr.index 45 (.agg #[.int .i64 f0, .int .i64 f1, .int .i64 f2, .int .i64 f3, .int .i64 f4, .int .i64 f5, .int .i64 f6, .int .i64 f7]) (.int .i64 (i : Int))).run Tryz.prog w = .ok (.int .i64 (L.getD i 0)) w) := by
    intro i hi w
    rw [← hL]
    exact mono_ix hi w
  have HRR : Hid (R = true ↔ ∃ j, j < 8 ∧ 1024 < L.getD j 0) := by
    show _ ↔ _
    rw [← hR, decide_eq_true_eq, hL]
    have h8 : L.length = 8 := by rw [← hL]; rfl
    constructor
    · rintro ⟨e, he, h⟩
      obtain ⟨j, hj, rfl⟩ := List.getElem_of_mem he
      exact ⟨j, by omega, by simpa [hj] using h⟩
    · rintro ⟨j, hj, h⟩
      refine ⟨L[j], List.getElem_mem _, ?_⟩
      simpa [show j < L.length by omega] using h
  have HMZ := Lib.hid hm
  have HU := Lib.hid hu
  have HG := Lib.hid hg
  have HBU := Lib.hid hbu
  clear hR hu hg hm hbu hf hL
  go_enter Tryz.func20, Tryz.ntmps20
  go_wp2_with fail
  rw [HU.out, HG.out]
  go_wp2
  clear c0 c1 c2 c3 c4 c5 c6 c7
  go_loopw [9] (fun iv wr => ∃ i : Nat, i ≤ 8 ∧ iv = .int .i64 i ∧ wr = u ∧ Hid (∀ j, j < i → ¬ 1024 < L.getD j 0)) (fun iv _ => 8 - (intOf iv).toNat)
  case atStart => exact ⟨0, by decide, rfl, rfl, fun j hj => by omega⟩
  case round =>
    obtain ⟨i, hi, rfl, rfl, HN⟩ := hrel
    by_cases hlt : i < 8
    · have hix := HIX.out i hlt
      obtain ⟨cm, cs⟩ := HRF.out i hlt
      have cd := HMZ.out.1 i hlt
      have hz : ([0, 0, 0, 0, 0, 0, 0, 0] : List Int).getD i 0 = 0 := by
        match i, hlt with
        | 0, _ | 1, _ | 2, _ | 3, _ | 4, _ | 5, _ | 6, _ | 7, _ => rfl
      rw [hz] at cd
      obtain ⟨b0, b1⟩ := HF.out i hlt
      obtain ⟨e, he⟩ : ∃ e, L.getD i 0 = e := ⟨_, rfl⟩
      rw [he] at hix cm cs b0 b1
      have HE := Lib.hid he
      have hi2 : (i : Int) < 8 := by omega
      have hi3 : (0 : Int) ≤ i := by omega
      clear he hz
      by_cases hbig : 1024 < e
      · have hf : R = true := HRR.out.2 ⟨i, hlt, by rw [HE.out]; exact hbig⟩
        subst hf
        rw [decide_eq_true (by omega)] at cs
        clear HN HRR
        go_wp2
        go_ret
        exact ⟨rfl, HBU.out⟩
      · have HN2 : Hid (∀ j, j < i + 1 → ¬ 1024 < L.getD j 0) := fun j hj => by
          by_cases hji : j = i
          · subst hji; rw [HE.out]; exact hbig
          · exact HN.out j (by omega)
        clear HN
        by_cases hpos : 0 < e
        · rw [decide_eq_true hpos] at cs
          go_wp2
          go_roundw
          case rel => exact ⟨i + 1, by omega, by go_num, by trivial, HN2⟩
          case measure => simp [intOf] <;> omega
        · rw [decide_eq_false hpos] at cs
          go_wp2
          go_roundw
          case rel => exact ⟨i + 1, by omega, by go_num, by trivial, HN2⟩
          case measure => simp [intOf] <;> omega
    · obtain rfl : i = 8 := by omega
      have hf : R = false := by
        cases R with
        | false => rfl
        | true => obtain ⟨j, hj, h⟩ := HRR.out.1 rfl; exact absurd h (HN.out j hj)
      subst hf
      clear HN HRR
      go_wp2
      go_ret
      exact ⟨rfl, HBU.out⟩
end Go.Proofs.YtebbnmjmjoklmaaGreatDoor

namespace Go.Proofs.YtebbnmjmjoklmaaGreatDoor
open Go Go.RowKit Go.WideMaps
set_option maxRecDepth 20000

theorem PolyNf.le {w : World} {A : Option Addr} {n c : Nat} {ds : List Tq} {k j : Nat} {E F : Int} (h : PolyNf w A n c ds k E) (hk : k ≤ j) (hE : E ≤ F) : PolyNf w A n c ds j F :=
  ⟨h.rd.le hk hE, h.norml, fun x hx => (h.rn x hx).mono hk⟩
/-- Two polynomials and an error. -/
def Three (A : Option Addr) (n c : Nat) (B : Option Addr) (m d : Nat) (z : Int) : Ending := .returned (.tuple #[.slice A n c, .slice B m d, .int .i64 z])

set_option maxHeartbeats 8000000 in
theorem normBoth_x {w : World} {A B : Option Addr} {n c m d kd ke : Nat} {E F : Int} {ds es : List Tq} (hl : Laid w) (hd : PolyRd w A n c ds kd E) (he : PolyRd w B m d es ke F) (hE : E ≤ 1000000000) (hF : F ≤ 1000000000) (kd0 : 1 ≤ kd) (ke0 : 1 ≤ ke) (hk8 : kd ≤ 300000) (hk9 : ke ≤ 300000) (hb1 : 1 + n * (kd + 1) ≤ 300000) (hb2 : 1 + m * (ke + 1) ≤ 300000) (hn : n ≤ 49) (hm : m ≤ 49) (hi1 : inLim ds) (hi2 : inLim es) :
    Calls Tryz.prog 18 #[.slice A n c, .slice B m d] w fun e w' => ∃ P r q rs Q s t ss, e = Three P r q Q s t 0 ∧ PolyNf w' P r q rs (1 + n * (kd + 1)) E ∧ PolyNf w' Q s t ss (1 + m * (ke + 1)) F ∧ Eqv (trms rs) (trms ds) ∧ Eqv (trms ss) (trms es) ∧ rs.length ≤ n ∧ ss.length ≤ m ∧ Below w.heap.size w w' := by
  have H1 := Lib.hid (norm_x hl hd hE kd0 hk8 hb1 hn hi1)
  have H2 : Hid (∀ w1, Below w.heap.size w w1 → Calls Tryz.prog 11 #[.slice B m d] w1 fun e w' => ∃ P r q rs, e = Two P r q 0 ∧ PolyNf w' P r q rs (1 + m * (ke + 1)) F ∧ Eqv (trms rs) (trms es) ∧ rs.length ≤ m ∧ Below w1.heap.size w1 w') := fun w1 h1 => norm_x (hl.below h1) (he.below h1) hF ke0 hk9 hb2 hm hi2
  clear hl hd he hi1 hi2 hb1 hb2
  go_enter Tryz.func18, Tryz.ntmps18
  go_wp2_with fail
  refine H1.out.mono ?_
  rintro e w1 ⟨P, r, q, rs, rfl, nf1, eq1, ln1, b1⟩
  have NF1 := Lib.hid nf1
  have EQ1 := Lib.hid eq1
  clear nf1 eq1 H1
  unfold Two
  go_wp2_with fail
  refine (H2.out w1 b1).mono ?_
  rintro e w2 ⟨Q, s, t, ss, rfl, nf2, eq2, ln2, b2⟩
  have B := nextB b1 b2
  have NF1' := Lib.hid (NF1.out.below b2)
  have NF2 := Lib.hid nf2
  have EQ2 := Lib.hid eq2
  clear nf2 eq2 H2 NF1
  unfold Two
  go_wp2
  refine bodyPost_ret (v := .tuple #[.slice P r q, .slice Q s t, .int .i64 0]) (by simp [results, Tryz.results18, go_sem]) rfl ⟨P, r, q, rs, Q, s, t, ss, rfl, NF1'.out, NF2.out, EQ1.out, EQ2.out, ln1, ln2, B⟩

/-- The product of two normal forms keeps the limit. -/
def Fits (ds es : List Tq) : Prop := ∀ j, j < 8 → reachOf ds.length es.length ds es j ≤ 1024
theorem fits_small {ds es : List Tq} {E F : Int} (hE0 : 0 ≤ E) (hF0 : 0 ≤ F) (h1 : ∀ x ∈ ds, MonoE E x.1.L) (h2 : ∀ x ∈ es, MonoE F x.1.L) (h : E + F ≤ 1024) : Fits ds es := fun j hj => by
  unfold reachOf
  split
  · omega
  · have h3 := (degs_monoE hE0 h1).add (degs_monoE hF0 h2)
    rw [List.getD_eq_getElem?_getD, List.getElem?_eq_getElem (by rw [h3.1]; exact hj)]
    have := h3.2 _ (List.getElem_mem (by rw [h3.1]; exact hj : j < (madd (degs ds) (degs es)).length))
    simp only [Option.getD_some]
    omega
theorem reachOf_pos {n m : Nat} {ds es : List Tq} {E F : Int} (hE0 : 0 ≤ E) (hF0 : 0 ≤ F) (h1 : ∀ x ∈ ds, MonoE E x.1.L) (h2 : ∀ x ∈ es, MonoE F x.1.L) (j : Nat) (hj : j < 8) : 0 ≤ reachOf n m ds es j ∧ reachOf n m ds es j ≤ E + F := by
  unfold reachOf
  split
  · omega
  · have h3 := (degs_monoE hE0 h1).add (degs_monoE hF0 h2)
    rw [List.getD_eq_getElem?_getD, List.getElem?_eq_getElem (by rw [h3.1]; exact hj)]
    have := h3.2 _ (List.getElem_mem (by rw [h3.1]; exact hj : j < (madd (degs ds) (degs es)).length))
    simp only [Option.getD_some]
    omega

set_option maxHeartbeats 16000000 in
theorem mul_x {w : World} {A B : Option Addr} {n c m d kd ke kd' ke' : Nat} {E F : Int} {ds es : List Tq} (hl : Laid w) (hd : PolyRd w A n c ds kd E) (he : PolyRd w B m d es ke F) (hE0 : 0 ≤ E) (hF0 : 0 ≤ F) (hE : E ≤ 1000000000) (hF : F ≤ 1000000000) (hEF : E + F ≤ 1000000000) (kd0 : 1 ≤ kd) (ke0 : 1 ≤ ke) (hk8 : kd ≤ 300000) (hk9 : ke ≤ 300000) (hkd : 1 + n * (kd + 1) ≤ kd') (hke : 1 + m * (ke + 1) ≤ ke') (hbig : 1 + n * (m * (kd' + ke' + 1)) ≤ 300000) (hkde : kd' + ke' ≤ 300000) (hn : n ≤ 49) (hm : m ≤ 49) (h12 : n * m ≤ 49) (hi1 : inLim ds) (hi2 : inLim es) :
    Calls Tryz.prog 7 #[.slice A n c, .slice B m d] w fun e w' => ∃ ds' es', Norml (trms ds') ∧ Norml (trms es') ∧ Eqv (trms ds') (trms ds) ∧ Eqv (trms es') (trms es) ∧ (∀ x ∈ ds', MonoE E x.1.L) ∧ (∀ x ∈ es', MonoE F x.1.L) ∧ Below w.heap.size w w' ∧
      ((Fits ds' es' ∧ ∃ P r q rs, e = Two P r q 0 ∧ PolyNf w' P r q rs (1 + n * (m * (kd' + ke' + 1))) (E + F) ∧ Eqv (trms rs) (prods (trms ds) (trms es)) ∧ rs.length ≤ n * m) ∨ (¬ Fits ds' es' ∧ e = Two none 0 0 9)) := by
  have HB := Lib.hid (normBoth_x hl hd he hE hF kd0 ke0 hk8 hk9 (by omega) (by omega) hn hm hi1 hi2)
  have HL := Lib.hid hl
  clear hl hd he hi1 hi2
  go_enter Tryz.func7, Tryz.ntmps7
  go_wp2_with fail
  refine HB.out.mono ?_
  rintro e w1 ⟨P, r, q, rs, Q, s, t, ss, rfl, nf1, nf2, eq1, eq2, ln1, ln2, b1⟩
  have NF1 := Lib.hid (nf1.le hkd (Int.le_refl _))
  have NF2 := Lib.hid (nf2.le hke (Int.le_refl _))
  have EQ1 := Lib.hid eq1
  have EQ2 := Lib.hid eq2
  have HRL := Lib.hid nf1.rd.len
  have HSL := Lib.hid nf2.rd.len
  have hrn : r ≤ n := by have := nf1.rd.len; omega
  have hsm : s ≤ m := by have := nf2.rd.len; omega
  clear nf1 nf2 eq1 eq2 HB
  obtain ⟨v1, hv1⟩ : ∃ v, w1.alloc (.cells #[.int .i64 0, .int .i64 0, .int .i64 0, .int .i64 0, .int .i64 0, .int .i64 0, .int .i64 0, .int .i64 0, .bool false, .bool false, .bool false, .bool false, .bool false, .bool false, .bool false, .bool false] 53) = v := ⟨_, rfl⟩
  obtain ⟨g, hg⟩ : ∃ g, w1.heap.size = g := ⟨_, rfl⟩
  have hbv1 : Below w1.heap.size w1 v1 := hv1 ▸ (Below.refl _ w1).alloc (Nat.le_refl _) _
  have hsv1 : v1.heap.size = g + 1 := by rw [← hv1, ← hg]; simp
  have R0 : ReachF g (fun _ => 0) v1 := by
    have key : ∀ j, v1.cell? ⟨g, j, none⟩ = (#[.int .i64 0, .int .i64 0, .int .i64 0, .int .i64 0, .int .i64 0, .int .i64 0, .int .i64 0, .int .i64 0, .bool false, .bool false, .bool false, .bool false, .bool false, .bool false, .bool false, .bool false] : Array Value)[j]? := fun j => by
      rw [← hv1, ← hg, World.cell?_alloc_new]
    refine ⟨fun j hj => ?_, fun j hj => ?_, fun j => by rw [← hv1, ← hg]; exact frozen_of_row _ _ j _ _ (heap_alloc_new w1 _)⟩
    · rw [key]
      match j, hj with
      | 0, _ | 1, _ | 2, _ | 3, _ | 4, _ | 5, _ | 6, _ | 7, _ => rfl
    · rw [key]
      match j, hj with
      | 0, _ | 1, _ | 2, _ | 3, _ | 4, _ | 5, _ | 6, _ | 7, _ => rfl
  obtain ⟨v2, hv2⟩ : ∃ v, v1.alloc (.cells #[.slice P r q, .slice Q s t] 26) = v := ⟨_, rfl⟩
  have hbv2 : Below v1.heap.size v1 v2 := hv2 ▸ (Below.refl _ v1).alloc (Nat.le_refl _) _
  have T0 : TwoAt (g + 1) P r q Q s t v2 := by
    have key : ∀ j, v2.cell? ⟨g + 1, j, none⟩ = (#[.slice P r q, .slice Q s t] : Array Value)[j]? := fun j => by
      rw [← hv2, ← hsv1, World.cell?_alloc_new]
    exact ⟨key 0, key 1⟩
  have B2 := nextB hbv1 hbv2
  have HRT := Lib.hid (reach_two (R0.far (hbv2.block g (by omega))) T0 (NF1.out.rd.below B2) (NF2.out.rd.below B2) hE hF hE0 hF0)
  have HV1 := Lib.hid hv1
  have HV2 := Lib.hid hv2
  have HG := Lib.hid hg
  have HS1 := Lib.hid hsv1
  have hB2 := nextB b1 B2
  have hg0 : w.heap.size ≤ g := by rw [← hg]; exact b1.size
  have HB20 := Lib.hid B2
  have hgv2 : g < v2.heap.size := by have := hbv2.size; omega
  clear hv1 hg hv2 R0 T0 hbv1 hbv2 B2 hsv1
  unfold Three
  go_wp2_with fail
  rw [HV1.out, HG.out]
  go_wp2_with fail
  rw [HV2.out]
  refine HRT.out.mono ?_
  rintro e w2 ⟨rfl, h1, h2⟩
  obtain ⟨f0, hf0⟩ : ∃ x, reachOf r s rs ss 0 = x := ⟨_, rfl⟩
  obtain ⟨f1, hf1⟩ : ∃ x, reachOf r s rs ss 1 = x := ⟨_, rfl⟩
  obtain ⟨f2, hf2⟩ : ∃ x, reachOf r s rs ss 2 = x := ⟨_, rfl⟩
  obtain ⟨f3, hf3⟩ : ∃ x, reachOf r s rs ss 3 = x := ⟨_, rfl⟩
  obtain ⟨f4, hf4⟩ : ∃ x, reachOf r s rs ss 4 = x := ⟨_, rfl⟩
  obtain ⟨f5, hf5⟩ : ∃ x, reachOf r s rs ss 5 = x := ⟨_, rfl⟩
  obtain ⟨f6, hf6⟩ : ∃ x, reachOf r s rs ss 6 = x := ⟨_, rfl⟩
  obtain ⟨f7, hf7⟩ : ∃ x, reachOf r s rs ss 7 = x := ⟨_, rfl⟩
  have RP := reachOf_pos (n := r) (m := s) hE0 hF0 NF1.out.rd.mono NF2.out.rd.mono
  have HFF : Hid (Fits rs ss ↔ ¬ ∃ e ∈ [f0, f1, f2, f3, f4, f5, f6, f7], 1024 < e) := by
    show _ ↔ _
    unfold Fits
    rw [← HRL.out, ← HSL.out]
    constructor
    · intro h
      have a0 := h 0 (by decide)
      have a1 := h 1 (by decide)
      have a2 := h 2 (by decide)
      have a3 := h 3 (by decide)
      have a4 := h 4 (by decide)
      have a5 := h 5 (by decide)
      have a6 := h 6 (by decide)
      have a7 := h 7 (by decide)
      simp only [List.mem_cons, List.not_mem_nil, or_false, exists_eq_or_imp, exists_eq_left]
      omega
    · intro h j hj
      simp only [List.mem_cons, List.not_mem_nil, or_false, exists_eq_or_imp, exists_eq_left] at h
      match j, hj with
      | 0, _ | 1, _ | 2, _ | 3, _ | 4, _ | 5, _ | 6, _ | 7, _ => omega
  have HBY := Lib.hid (fun w => beyond_x (f0 := f0) (f1 := f1) (f2 := f2) (f3 := f3) (f4 := f4) (f5 := f5) (f6 := f6) (f7 := f7) w (by
    have a0 := RP 0 (by decide)
    have a1 := RP 1 (by decide)
    have a2 := RP 2 (by decide)
    have a3 := RP 3 (by decide)
    have a4 := RP 4 (by decide)
    have a5 := RP 5 (by decide)
    have a6 := RP 6 (by decide)
    have a7 := RP 7 (by decide)
    simp only [List.mem_cons, List.not_mem_nil, or_false, forall_eq_or_imp, forall_eq]
    omega))
  have m0 := h1.most 0 (by decide)
  have m1 := h1.most 1 (by decide)
  have m2 := h1.most 2 (by decide)
  have m3 := h1.most 3 (by decide)
  have m4 := h1.most 4 (by decide)
  have m5 := h1.most 5 (by decide)
  have m6 := h1.most 6 (by decide)
  have m7 := h1.most 7 (by decide)
  have u0 := h1.sure 0 (by decide)
  have u1 := h1.sure 1 (by decide)
  have u2 := h1.sure 2 (by decide)
  have u3 := h1.sure 3 (by decide)
  have u4 := h1.sure 4 (by decide)
  have u5 := h1.sure 5 (by decide)
  have u6 := h1.sure 6 (by decide)
  have u7 := h1.sure 7 (by decide)
  rw [hf0] at m0 u0
  rw [hf1] at m1 u1
  rw [hf2] at m2 u2
  rw [hf3] at m3 u3
  rw [hf4] at m4 u4
  rw [hf5] at m5 u5
  rw [hf6] at m6 u6
  rw [hf7] at m7 u7
  have B3 : Below w1.heap.size w1 w2 := HB20.out.trans (h2.below_base (by rw [HG.out]; exact Nat.le_refl _) (by rw [HG.out]; exact Nat.le_refl _) (by rw [HG.out]; exact Nat.le_refl _) HB20.out.size)
  have HB3 := Lib.hid B3
  clear h1 h2 B3 RP hf0 hf1 hf2 hf3 hf4 hf5 hf6 hf7 HRT
  go_wp2_with fail
  refine (HBY.out w2).mono ?_
  rintro e w3 ⟨rfl, e3⟩
  have B4 := nextB HB3.out e3
  have hB4 := nextB b1 B4
  have HT := Lib.hid (times_x (HL.out.below hB4) (NF1.out.rd.below B4) (NF2.out.rd.below B4) hE hF hEF (by omega) (by omega) (by
    have h1 : s * (kd' + ke' + 1) ≤ m * (kd' + ke' + 1) := Nat.mul_le_mul_right _ (by omega)
    have h2 := Nat.mul_le_mul (show r ≤ n by omega) h1
    omega) hkde (Nat.le_trans (Nat.mul_le_mul (show r ≤ n by omega) (show s ≤ m by omega)) h12) (by omega))
  clear m0 m1 m2 m3 m4 m5 m6 m7 u0 u1 u2 u3 u4 u5 u6 u7 HBY
  obtain ⟨bb, hbb⟩ : ∃ bb, decide (∃ e ∈ [f0, f1, f2, f3, f4, f5, f6, f7], 1024 < e) = bb := ⟨_, rfl⟩
  rw [hbb]
  have HBB := Lib.hid hbb
  clear hbb
  cases bb with
  | true =>
    have HNF : Hid (¬ Fits rs ss) := fun h => HFF.out.1 h (of_decide_eq_true HBB.out)
    clear HT HFF HBB
    go_wp2
    go_ret2
    exact ⟨rs, ss, NF1.out.norml, NF2.out.norml, EQ1.out, EQ2.out, NF1.out.rd.mono, NF2.out.rd.mono, hB4, .inr ⟨HNF.out, rfl⟩⟩
  | false =>
    have HNF : Hid (Fits rs ss) := HFF.out.2 (of_decide_eq_false HBB.out)
    clear HFF HBB
    go_wp2_with fail
    refine HT.out.mono ?_
    rintro e w4 ⟨P4, r4, q4, rs4, rfl, nf4, eq4, ln4, b4⟩
    have N4 := Lib.hid nf4
    have E4 := Lib.hid eq4
    have L4 := Lib.hid ln4
    have hB5 := nextB hB4 b4
    clear nf4 eq4 ln4 HT
    go_wp2
    go_ret2
    refine ⟨rs, ss, NF1.out.norml, NF2.out.norml, EQ1.out, EQ2.out, NF1.out.rd.mono, NF2.out.rd.mono, hB5, .inl ⟨HNF.out, P4, r4, q4, rs4, rfl, N4.out.le ?_ (Int.le_refl _), E4.out.trans (Eqv.prods EQ1.out EQ2.out), Nat.le_trans L4.out (Nat.mul_le_mul (by omega) (by omega))⟩⟩
    have h1 : s * (kd' + ke' + 1) ≤ m * (kd' + ke' + 1) := Nat.mul_le_mul_right _ (by omega)
    have h2 := Nat.mul_le_mul (show r ≤ n by omega) h1
    omega
theorem mul_ok {w : World} {A B : Option Addr} {n c m d kd ke kd' ke' : Nat} {E F : Int} {ds es : List Tq} (hl : Laid w) (hd : PolyRd w A n c ds kd E) (he : PolyRd w B m d es ke F) (hE0 : 0 ≤ E) (hF0 : 0 ≤ F) (hEF : E + F ≤ 1024) (kd0 : 1 ≤ kd) (ke0 : 1 ≤ ke) (hk8 : kd ≤ 300000) (hk9 : ke ≤ 300000) (hkd : 1 + n * (kd + 1) ≤ kd') (hke : 1 + m * (ke + 1) ≤ ke') (hbig : 1 + n * (m * (kd' + ke' + 1)) ≤ 300000) (hkde : kd' + ke' ≤ 300000) (hn : n ≤ 49) (hm : m ≤ 49) (h12 : n * m ≤ 49) :
    Calls Tryz.prog 7 #[.slice A n c, .slice B m d] w fun e w' => ∃ P r q rs, e = Two P r q 0 ∧ PolyNf w' P r q rs (1 + n * (m * (kd' + ke' + 1))) (E + F) ∧ Eqv (trms rs) (prods (trms ds) (trms es)) ∧ rs.length ≤ n * m ∧ Below w.heap.size w w' := by
  refine (mul_x hl hd he hE0 hF0 (by omega) (by omega) (by omega) kd0 ke0 hk8 hk9 hkd hke hbig hkde hn hm h12 (fun x hx e h => ?_) (fun x hx e h => ?_)).mono ?_
  · have := (hd.mono x hx).2 e h; omega
  · have := (he.mono x hx).2 e h; omega
  · rintro e w' ⟨ds', es', _, _, _, _, h1, h2, hb, h | ⟨h, _⟩⟩
    · obtain ⟨_, P, r, q, rs, a1, a2, a3, a4⟩ := h
      exact ⟨P, r, q, rs, a1, a2, a3, a4, hb⟩
    · exact absurd (fits_small hE0 hF0 h1 h2 hEF) h
end Go.Proofs.YtebbnmjmjoklmaaGreatDoor
