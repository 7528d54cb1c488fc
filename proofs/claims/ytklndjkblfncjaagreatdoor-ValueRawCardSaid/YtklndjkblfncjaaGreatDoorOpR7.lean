/-
  A type, a value and a list of ints that come in as arguments: the trees that they stand for.
-/
import Derived.Test.YtklndjkblfncjaaGreatDoorRaw7
import Derived.Test.YtklndjkblfncjaaGreatDoorOpen7
namespace Go.Proofs.YtklndjkblfncjaaGreatDoor
open Go Go.ChangeShapes Go.WideShapes Go.ChangeAt Go.RowKit
set_option maxRecDepth 20000

theorem cells_ty : Tryz.prog.cellsOf 24 = 5 := by kernel_rfl
theorem cells_vl : Tryz.prog.cellsOf 27 = 2 := by kernel_rfl
theorem cells_int : Tryz.prog.cellsOf 3 = 1 := by kernel_rfl
theorem cells_tys : Tryz.prog.cellsOf 22 = 1 := by kernel_rfl
theorem cells_vls : Tryz.prog.cellsOf 25 = 1 := by kernel_rfl
theorem cells_get {w : World} {a : Addr} {n : Nat} {cs : List Value} (h : w.cells? 0 a n = some cs) : cs.length = n ∧ ∀ j, j < n → w.cell? (a.add j) = cs[j]? := by
  unfold World.cells? at h
  rw [if_pos (Nat.zero_le _)] at h
  exact ⟨by simpa using mapM_some_length h, fun j hj => mapM_some_get h j j (by simp [hj])⟩
theorem spot_none {w : World} {a : Addr} {v : Value} (h : w.cell? a = some v) : a.spot = none := by
  unfold World.cell? at h
  split at h
  · split at h
    · cases h
    · cases hs : a.spot with
      | none => rfl
      | some x => rename_i h2; rw [hs] at h2; simp at h2
  · cases h
theorem add_none (b o k : Nat) : (⟨b, o, none⟩ : Addr).add k = ⟨b, o + k, none⟩ := by
  unfold Addr.add
  by_cases h : k = 0
  · rw [if_pos h, h]; rfl
  · rw [if_neg h]
theorem pick_all {α : Type} {P : Nat → α → Prop} (a0 : α) : ∀ {n : Nat}, (∀ i, i < n → ∃ x, P i x) → ∃ l : List α, l.length = n ∧ ∀ i x, l[i]? = some x → P i x
  | 0, _ => ⟨[], rfl, fun i x h => by simp at h⟩
  | n + 1, h => by
    obtain ⟨l, hl, hp⟩ := pick_all a0 (n := n) fun i hi => h i (by omega)
    obtain ⟨y, hy⟩ := h n (by omega)
    refine ⟨l ++ [y], by simp [hl], fun i x hx => ?_⟩
    by_cases hi : i < n
    · rw [List.getElem?_append_left (by omega)] at hx; exact hp i x hx
    · rw [List.getElem?_append_right (by omega)] at hx
      by_cases hi2 : i = n
      · subst hi2
        rw [hl, Nat.sub_self] at hx
        simp at hx; subst hx; exact hy
      · rw [List.getElem?_eq_none (by simp; omega)] at hx; cases hx
section
variable {H : Type} {enc : TypeId × Value → H} {W : World} {sp : Nat → Bool} {held : Bool}

theorem ty_of : ∀ (fuel : Nat) (cs : List Value) (x : DataW H × List MemPlace), DataW.trod enc Tryz.prog W 0 sp held fuel 24 cs = some x →
    ∃ T A n c, cs = [.int .i64 T.k, .int .i64 T.lo, .int .i64 T.hi, .int .i64 T.mx, .slice A n c] ∧ TyRd (fun _ => True) W fuel T A n c := by
  intro fuel
  induction fuel using Nat.strongRecOn with
  | _ fuel IH =>
    intro cs x h
    obtain ⟨xs, n, rfl, _, hlen, hxs, hf⟩ := DataW.trod_struct Tryz.underlying24 h
    rw [cells_ty] at hlen
    obtain ⟨c0, c1, c2, c3, c4, rfl⟩ : ∃ c0 c1 c2 c3 c4, cs = [c0, c1, c2, c3, c4] := by
      match cs, hlen with
      | [a, b, c, d, e], _ => exact ⟨a, b, c, d, e, rfl⟩
    have hx5 : xs.length = 5 := hxs
    have hsome : ∀ i, i < 5 → ∃ y, xs[i]? = some y := fun i hi => ⟨_, List.getElem?_eq_getElem (by omega)⟩
    obtain ⟨y0, e0⟩ := hsome 0 (by omega)
    obtain ⟨y1, e1⟩ := hsome 1 (by omega)
    obtain ⟨y2, e2⟩ := hsome 2 (by omega)
    obtain ⟨y3, e3⟩ := hsome 3 (by omega)
    obtain ⟨y4, e4⟩ := hsome 4 (by omega)
    have g0 := (hf 0 _ rfl).trans e0
    have g1 := (hf 1 _ rfl).trans e1
    have g2 := (hf 2 _ rfl).trans e2
    have g3 := (hf 3 _ rfl).trans e3
    have g4 := (hf 4 _ rfl).trans e4
    have g0' : DataW.trod enc Tryz.prog W 0 sp held n 3 [c0] = some y0 := g0
    have g1' : DataW.trod enc Tryz.prog W 0 sp held n 3 [c1] = some y1 := g1
    have g2' : DataW.trod enc Tryz.prog W 0 sp held n 3 [c2] = some y2 := g2
    have g3' : DataW.trod enc Tryz.prog W 0 sp held n 3 [c3] = some y3 := g3
    have g4' : DataW.trod enc Tryz.prog W 0 sp held n 22 [c4] = some y4 := g4
    obtain ⟨k, hk, _, _⟩ := DataW.trod_int Tryz.underlying3 g0'
    obtain ⟨lo, hlo, _, _⟩ := DataW.trod_int Tryz.underlying3 g1'
    obtain ⟨hi, hhi, _, _⟩ := DataW.trod_int Tryz.underlying3 g2'
    obtain ⟨mx, hmx, _, _⟩ := DataW.trod_int Tryz.underlying3 g3'
    simp only [List.cons.injEq, and_true] at hk hlo hhi hmx
    subst hk hlo hhi hmx
    rcases DataW.trod_slice Tryz.underlying22 g4' with ⟨hc, _⟩ | ⟨a, len, cap, elems, rest, m, rfl, hc, _, _, hlc, hcm, hel, hat, _⟩
    · simp only [List.cons.injEq, and_true] at hc
      subst hc
      exact ⟨.mk k lo hi mx [], none, 0, 0, rfl, TyRd.nil _ _ rfl⟩
    · simp only [List.cons.injEq, and_true] at hc
      subst hc
      rcases Nat.eq_zero_or_pos len with rfl | hpos
      · exact ⟨.mk k lo hi mx [], some a, 0, cap, rfl, TyRd.up (d := m + 1) (show TyRd (fun _ => True) W (m + 1) (.mk k lo hi mx []) (some a) 0 cap from ⟨⟨rfl, hlc, hcm⟩, fun i e he => by simp [Ty.es] at he⟩)⟩
      have hs0 : a.spot = none := by
        have h1 := hat 0 hpos
        rw [List.getElem?_eq_getElem (by omega), cells_ty] at h1
        obtain ⟨ccs, hcc, _⟩ := Option.bind_eq_some_iff.1 h1
        obtain ⟨hcl, hce⟩ := cells_get hcc
        have q0 := hce 0 (by omega)
        rw [List.getElem?_eq_getElem (by omega)] at q0
        have := spot_none q0
        simpa [Addr.add] using this
      obtain ⟨ab, ao, asp⟩ := a
      simp only at hs0
      subst hs0
      have hall : ∀ i, i < len → ∃ e : Ty, ∃ A' n' c', TyCells W ab (ao + i * 5) e A' n' c' ∧ TyRd (fun _ => True) W m e A' n' c' ∧ ab < W.heap.size := by
        intro i hi'
        have h1 := hat i hi'
        rw [List.getElem?_eq_getElem (by omega), cells_ty] at h1
        obtain ⟨ccs, hcc, htr⟩ := Option.bind_eq_some_iff.1 h1
        obtain ⟨T, A', n', c', rfl, hr⟩ := IH m (by omega) ccs _ htr
        obtain ⟨_, hce⟩ := cells_get hcc
        have q0 := hce 0 (by omega)
        have hb := World.block_lt_of_cell? W _ q0
        rw [add_none, add_none] at hb
        have key : ∀ j, j < 5 → W.cell? ⟨ab, ao + i * 5 + j, none⟩ = [Value.int .i64 T.k, .int .i64 T.lo, .int .i64 T.hi, .int .i64 T.mx, .slice A' n' c'][j]? := fun j hj => by
          have := hce j hj
          rw [add_none, add_none] at this
          exact this
        exact ⟨T, A', n', c', ⟨key 0 (by omega), key 1 (by omega), key 2 (by omega), key 3 (by omega), key 4 (by omega)⟩, hr, hb⟩
      obtain ⟨es, hes, hp⟩ := pick_all (.mk 0 0 0 0 []) hall
      refine ⟨.mk k lo hi mx es, some ⟨ab, ao, none⟩, len, cap, rfl, ?_⟩
      have h2 : TyRd (fun _ => True) W (m + 1) (.mk k lo hi mx es) (some ⟨ab, ao, none⟩) len cap := by
        refine ⟨⟨hes, hlc, hcm⟩, fun i e he => ?_⟩
        obtain ⟨A', n', c', h3, h4, h6⟩ := hp i e he
        exact ⟨ab, ao, A', n', c', rfl, trivial, h6, h3, h4⟩
      exact h2.up
theorem vl_of : ∀ (fuel : Nat) (cs : List Value) (x : DataW H × List MemPlace), DataW.trod enc Tryz.prog W 0 sp held fuel 27 cs = some x →
    ∃ V A n c, cs = [.int .i64 V.i, .slice A n c] ∧ VlRd (fun _ => True) W fuel V A n c ∧ V.i ≤ 9223372036854775807 := by
  intro fuel
  induction fuel using Nat.strongRecOn with
  | _ fuel IH =>
    intro cs x h
    obtain ⟨xs, n, rfl, _, hlen, hxs, hf⟩ := DataW.trod_struct Tryz.underlying27 h
    rw [cells_vl] at hlen
    obtain ⟨c0, c4, rfl⟩ : ∃ c0 c4, cs = [c0, c4] := by
      match cs, hlen with
      | [a, e], _ => exact ⟨a, e, rfl⟩
    have hx5 : xs.length = 2 := hxs
    have hsome : ∀ i, i < 2 → ∃ y, xs[i]? = some y := fun i hi => ⟨_, List.getElem?_eq_getElem (by omega)⟩
    obtain ⟨y0, e0⟩ := hsome 0 (by omega)
    obtain ⟨y4, e4⟩ := hsome 1 (by omega)
    have g0 := (hf 0 _ rfl).trans e0
    have g4 := (hf 1 _ rfl).trans e4
    have g0' : DataW.trod enc Tryz.prog W 0 sp held n 3 [c0] = some y0 := g0
    have g4' : DataW.trod enc Tryz.prog W 0 sp held n 25 [c4] = some y4 := g4
    obtain ⟨k, hk, _, hwf⟩ := DataW.trod_int Tryz.underlying3 g0'
    simp only [List.cons.injEq, and_true] at hk
    subst hk
    have hk1 : k ≤ 9223372036854775807 := by have := bounds_i64 hwf; omega
    rcases DataW.trod_slice Tryz.underlying25 g4' with ⟨hc, _⟩ | ⟨a, len, cap, elems, rest, m, rfl, hc, _, _, hlc, hcm, hel, hat, _⟩
    · simp only [List.cons.injEq, and_true] at hc
      subst hc
      exact ⟨.mk k [], none, 0, 0, rfl, VlRd.nil _ _ rfl, hk1⟩
    · simp only [List.cons.injEq, and_true] at hc
      subst hc
      rcases Nat.eq_zero_or_pos len with rfl | hpos
      · exact ⟨.mk k [], some a, 0, cap, rfl, VlRd.up (d := m + 1) (show VlRd (fun _ => True) W (m + 1) (.mk k []) (some a) 0 cap from ⟨⟨rfl, hlc, hcm⟩, fun i e he => by simp [Vl.es] at he⟩), hk1⟩
      have hs0 : a.spot = none := by
        have h1 := hat 0 hpos
        rw [List.getElem?_eq_getElem (by omega), cells_vl] at h1
        obtain ⟨ccs, hcc, _⟩ := Option.bind_eq_some_iff.1 h1
        obtain ⟨hcl, hce⟩ := cells_get hcc
        have q0 := hce 0 (by omega)
        rw [List.getElem?_eq_getElem (by omega)] at q0
        have := spot_none q0
        simpa [Addr.add] using this
      obtain ⟨ab, ao, asp⟩ := a
      simp only at hs0
      subst hs0
      have hall : ∀ i, i < len → ∃ e : Vl, ∃ A' n' c', VlCells W ab (ao + i * 2) e A' n' c' ∧ VlRd (fun _ => True) W m e A' n' c' ∧ ab < W.heap.size := by
        intro i hi'
        have h1 := hat i hi'
        rw [List.getElem?_eq_getElem (by omega), cells_vl] at h1
        obtain ⟨ccs, hcc, htr⟩ := Option.bind_eq_some_iff.1 h1
        obtain ⟨T, A', n', c', rfl, hr, _⟩ := IH m (by omega) ccs _ htr
        obtain ⟨_, hce⟩ := cells_get hcc
        have q0 := hce 0 (by omega)
        have hb := World.block_lt_of_cell? W _ q0
        rw [add_none, add_none] at hb
        have key : ∀ j, j < 2 → W.cell? ⟨ab, ao + i * 2 + j, none⟩ = [Value.int .i64 T.i, .slice A' n' c'][j]? := fun j hj => by
          have := hce j hj
          rw [add_none, add_none] at this
          exact this
        exact ⟨T, A', n', c', ⟨key 0 (by omega), key 1 (by omega)⟩, hr, hb⟩
      obtain ⟨es, hes, hp⟩ := pick_all (.mk 0 []) hall
      refine ⟨.mk k es, some ⟨ab, ao, none⟩, len, cap, rfl, ?_, hk1⟩
      have h2 : VlRd (fun _ => True) W (m + 1) (.mk k es) (some ⟨ab, ao, none⟩) len cap := by
        refine ⟨⟨hes, hlc, hcm⟩, fun i e he => ?_⟩
        obtain ⟨A', n', c', h3, h4, h6⟩ := hp i e he
        exact ⟨ab, ao, A', n', c', rfl, trivial, h6, h3, h4⟩
      exact h2.up
end
theorem open_ty {H : Type} {enc : TypeId × Value → H} {W : World} {base : Nat} {v : Value} {d : DataW H} {p : List MemPlace} (ok : Value.okWide Tryz.prog W .any base 24 v)
    (h : DataW.Trod enc Tryz.prog W 0 (fun _ => true) true 24 v d p) : ∃ D T A n c, v = tyV T A n c ∧ TyRd (fun _ => True) W D T A n c := by
  obtain ⟨cs, rfl, hsz⟩ := okWide_struct Tryz.underlying24 ok
  obtain ⟨fuel, hf⟩ := h
  obtain ⟨T, A, n, c, hc, hr⟩ := ty_of fuel _ _ hf
  refine ⟨fuel, T, A, n, c, ?_, hr⟩
  have hc' : cs.toList = [.int .i64 T.k, .int .i64 T.lo, .int .i64 T.hi, .int .i64 T.mx, .slice A n c] := hc
  rw [← Array.toArray_toList (xs := cs), hc']
theorem open_vl {H : Type} {enc : TypeId × Value → H} {W : World} {base : Nat} {v : Value} {d : DataW H} {p : List MemPlace} (ok : Value.okWide Tryz.prog W .any base 27 v)
    (h : DataW.Trod enc Tryz.prog W 0 (fun _ => true) true 27 v d p) : ∃ D V A n c, v = vlV V A n c ∧ VlRd (fun _ => True) W D V A n c ∧ V.i ≤ 9223372036854775807 := by
  obtain ⟨cs, rfl, hsz⟩ := okWide_struct Tryz.underlying27 ok
  obtain ⟨fuel, hf⟩ := h
  obtain ⟨T, A, n, c, hc, hr, hi⟩ := vl_of fuel _ _ hf
  refine ⟨fuel, T, A, n, c, ?_, hr, hi⟩
  have hc' : cs.toList = [.int .i64 T.i, .slice A n c] := hc
  rw [← Array.toArray_toList (xs := cs), hc']
end Go.Proofs.YtklndjkblfncjaaGreatDoor
