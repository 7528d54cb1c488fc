/-
  A form and a list of ints that come in as arguments: the tree and the numbers that they stand for. The tree has at most as many parts as the data that was read has values.
-/
import Derived.Test.YtlhncmnhpnhfhaaFxB
import Derived.Test.YtlhncmnhpnhfhaaOpen13
namespace Go.Proofs.Ytlhncmnhpnhfhaa
open Go Go.ChangeShapes Go.WideShapes Go.ChangeAt Go.RowKit
set_option maxRecDepth 20000
namespace Fx

theorem bulk_part {H : Type} {d : DataW H} {l : List (DataW H)} (h : d ∈ l) : Rows.uptoBulk d ≤ Rows.uptoBulkAll l := by
  induction l with
  | nil => cases h
  | cons x r ih =>
    simp only [Rows.uptoBulkAll]
    rcases List.mem_cons.1 h with e | e
    · subst e; omega
    · have := ih e; omega
theorem bulk_slice {H : Type} (a b : List (DataW H)) : Rows.uptoBulkAll a + 1 ≤ Rows.uptoBulk (.slice a b) := by
  simp only [Rows.uptoBulk]; omega
theorem bulk_agg {H : Type} (a : List (DataW H)) : Rows.uptoBulkAll a ≤ Rows.uptoBulk (.agg a) := by
  simp only [Rows.uptoBulk]; omega
theorem bulk_one {H : Type} (d : DataW H) : 1 ≤ Rows.uptoBulk d := by
  cases d with
  | lit l => cases l <;> simp [Rows.uptoBulk]
  | _ => simp [Rows.uptoBulk]
theorem bulk_sum {H : Type} : ∀ (es : List Fm) (ds : List (DataW H)), es.length = ds.length → (∀ (i : Nat) e d, es[i]? = some e → ds[i]? = some d → sz e ≤ Rows.uptoBulk d) → (es.map sz).sum ≤ Rows.uptoBulkAll ds
  | [], [], _, _ => by simp
  | e :: es, d :: ds, hl, h => by
    have h1 := h 0 e d rfl rfl
    have h2 := bulk_sum es ds (by simpa using hl) fun i e d he hd => h (i + 1) e d (by simpa using he) (by simpa using hd)
    simp only [List.map_cons, List.sum_cons, Rows.uptoBulkAll]
    omega

theorem cells_fm : Try.prog.cellsOf 27 = 6 := by kernel_rfl
theorem cells_get {w : World} {a : Addr} {n : Nat} {cs : List Value} (h : w.cells? 0 a n = some cs) : cs.length = n ∧ ∀ j, j < n → w.cell? (a.add j) = cs[j]? := by
  unfold World.cells? at h
  rw [if_pos (Nat.zero_le _)] at h
  exact ⟨by simpa using mapM_some_length h, fun j hj => mapM_some_get h j j (by simp [hj])⟩
theorem spot_none {w : World} {a : Addr} {v : Value} (h : w.cell? a = some v) : a.spot = none := by
  unfold World.cell? at h
  split at h
  · split at h
    · cases h
    · cases hs : a.spot with
      | none => rfl
      | some x => rename_i h2; rw [hs] at h2; simp at h2
  · cases h
theorem pick_all {α : Type} {P : Nat → α → Prop} (a0 : α) : ∀ {n : Nat}, (∀ i, i < n → ∃ x, P i x) → ∃ l : List α, l.length = n ∧ ∀ i x, l[i]? = some x → P i x
  | 0, _ => ⟨[], rfl, fun i x h => by simp at h⟩
  | n + 1, h => by
    obtain ⟨l, hl, hp⟩ := pick_all a0 (n := n) fun i hi => h i (by omega)
    obtain ⟨y, hy⟩ := h n (by omega)
    refine ⟨l ++ [y], by simp [hl], fun i x hx => ?_⟩
    by_cases hi : i < n
    · rw [List.getElem?_append_left (by omega)] at hx; exact hp i x hx
    · rw [List.getElem?_append_right (by omega)] at hx
      by_cases hi2 : i = n
      · subst hi2
        rw [hl, Nat.sub_self] at hx
        simp at hx; subst hx; exact hy
      · rw [List.getElem?_eq_none (by simp; omega)] at hx; cases hx
abbrev All : Nat → Prop := fun _ => True
section
variable {H : Type} {enc : TypeId × Value → H} {W : World} {sp : Nat → Bool} {held : Bool}

theorem form_of : ∀ (fuel : Nat) (cs : List Value) (x : DataW H × List MemPlace), DataW.trod enc Try.prog W 0 sp held fuel 27 cs = some x →
    ∃ f va vb vc A c, cs = [.int .i64 f.op, .int .i64 f.num, va, vb, vc, .slice A f.args.length c] ∧ Rd All W (.l 6 (fds f.args)) (.slice A f.args.length c) ∧ sz f ≤ Rows.uptoBulk x.1 := by
  intro fuel
  induction fuel using Nat.strongRecOn with
  | _ fuel IH =>
    intro cs x h
    obtain ⟨xs, n, rfl, rfl, hlen, hxs, hf⟩ := DataW.trod_struct Try.underlying27 h
    rw [cells_fm] at hlen
    obtain ⟨c0, c1, c2, c3, c4, c5, rfl⟩ : ∃ c0 c1 c2 c3 c4 c5, cs = [c0, c1, c2, c3, c4, c5] := by
      match cs, hlen with
      | [a, b, c, d, e, f], _ => exact ⟨a, b, c, d, e, f, rfl⟩
    have hx4 : xs.length = 4 := hxs
    have hsome : ∀ i, i < 4 → ∃ y, xs[i]? = some y := fun i hi => ⟨_, List.getElem?_eq_getElem (by omega)⟩
    obtain ⟨y0, e0⟩ := hsome 0 (by omega)
    obtain ⟨y1, e1⟩ := hsome 1 (by omega)
    obtain ⟨y3, e3⟩ := hsome 3 (by omega)
    have g0 := (hf 0 _ rfl).trans e0
    have g1 := (hf 1 _ rfl).trans e1
    have g3 := (hf 3 _ rfl).trans e3
    have g0' : DataW.trod enc Try.prog W 0 sp held n 3 [c0] = some y0 := g0
    have g1' : DataW.trod enc Try.prog W 0 sp held n 3 [c1] = some y1 := g1
    have g3' : DataW.trod enc Try.prog W 0 sp held n 25 [c5] = some y3 := g3
    obtain ⟨op, hop, _, _⟩ := DataW.trod_int Try.underlying3 g0'
    obtain ⟨k, hk, _, _⟩ := DataW.trod_int Try.underlying3 g1'
    simp only [List.cons.injEq, and_true] at hop hk
    subst hop hk
    have hb3 : Rows.uptoBulk y3.1 ≤ Rows.uptoBulk (DataW.agg (xs.map (·.1))) := Nat.le_trans (bulk_part (List.mem_map_of_mem (List.mem_of_getElem? e3))) (bulk_agg _)
    rcases DataW.trod_slice Try.underlying25 g3' with ⟨hc, _⟩ | ⟨a, len, cap, elems, rest, m, rfl, hc, hy, _, hlc, hcm, hel, hat, _⟩
    · simp only [List.cons.injEq, and_true] at hc
      subst hc
      exact ⟨.mk op k [], c2, c3, c4, none, 0, rfl, Rd.nil _, by have := bulk_one y3.1; simp only [sz, szs]; omega⟩
    · simp only [List.cons.injEq, and_true] at hc
      subst hc
      subst hy
      have hbs := bulk_slice (elems.map (·.1)) (rest.map (·.1))
      rcases Nat.eq_zero_or_pos len with rfl | hpos
      · exact ⟨.mk op k [], c2, c3, c4, some a, cap, rfl, Rd.nil _, Nat.le_trans (by simp only [sz, szs]; omega) (Nat.le_trans hbs hb3)⟩
      have hs0 : a.spot = none := by
        have h1 := hat 0 hpos
        rw [List.getElem?_eq_getElem (by omega), cells_fm] at h1
        obtain ⟨ccs, hcc, _⟩ := Option.bind_eq_some_iff.1 h1
        obtain ⟨hcl, hce⟩ := cells_get hcc
        have q0 := hce 0 (by omega)
        rw [List.getElem?_eq_getElem (by omega)] at q0
        have := spot_none q0
        simpa [Addr.add] using this
      obtain ⟨ab, ao, asp⟩ := a
      simp only at hs0
      subst hs0
      have hall : ∀ i, i < len → ∃ e : Fm, (∃ va vb vc A' c', (∀ j, j < 6 → W.cell? ⟨ab, ao + i * 6 + j, none⟩ = [Value.int .i64 e.op, .int .i64 e.num, va, vb, vc, .slice A' e.args.length c'][j]?) ∧ Rd All W (.l 6 (fds e.args)) (.slice A' e.args.length c')) ∧ ab < W.heap.size ∧ ∀ d, (elems.map (·.1))[i]? = some d → sz e ≤ Rows.uptoBulk d := by
        intro i hi'
        have h1 := hat i hi'
        rw [List.getElem?_eq_getElem (by omega), cells_fm] at h1
        obtain ⟨ccs, hcc, htr⟩ := Option.bind_eq_some_iff.1 h1
        obtain ⟨T, va, vb, vc, A', c', rfl, hr, hsz⟩ := IH m (by omega) ccs _ htr
        obtain ⟨_, hce⟩ := cells_get hcc
        have q0 := hce 0 (by omega)
        have hb := World.block_lt_of_cell? W _ q0
        rw [add_plain, add_plain] at hb
        refine ⟨T, ⟨va, vb, vc, A', c', fun j hj => ?_, hr⟩, hb, fun d hd => ?_⟩
        · have := hce j hj
          rw [add_plain, add_plain] at this
          exact this
        · rw [List.getElem?_map, List.getElem?_eq_getElem (by omega)] at hd
          simp only [Option.map_some, Option.some.injEq] at hd
          subst hd
          exact hsz
      obtain ⟨es, hes, hp⟩ := pick_all (.mk 0 0 []) hall
      refine ⟨.mk op k es, c2, c3, c4, some ⟨ab, ao, none⟩, cap, by simp [Fm.op, Fm.num, Fm.args, hes], ?_, ?_⟩
      · have hget : ∀ i, i < (fds es).length → ∃ q r e, i = q * 6 + r ∧ r < 6 ∧ es[q]? = some e := by
          intro i hi
          rw [fds_len] at hi
          exact ⟨i / 6, i % 6, _, by omega, by omega, List.getElem?_eq_getElem (by omega)⟩
        show Rd All W (.l 6 (fds es)) (.slice (some ⟨ab, ao, none⟩) es.length cap)
        refine Rd.l 6 (fds es) ab ao es.length cap (fun i => (W.cell? ⟨ab, ao + i, none⟩).getD undef) (fds_len es) (by omega) hcm trivial (hp 0 es[0] (List.getElem?_eq_getElem (by omega))).2.1 (fun i hi => ?_) (fun i d hd => ?_)
        · obtain ⟨q, r, e, rfl, hr, he⟩ := hget i hi
          obtain ⟨⟨va, vb, vc, A', c', hc, _⟩, _, _⟩ := hp q e he
          rw [← Nat.add_assoc, hc r hr, List.getElem?_eq_getElem (by simpa using hr)]
          rfl
        · obtain ⟨q, r, e, rfl, hr, he⟩ := hget i (List.getElem?_eq_some_iff.1 hd).1
          obtain ⟨⟨va, vb, vc, A', c', hc, hrd⟩, _, _⟩ := hp q e he
          rw [fds_get he r hr, fd_eq] at hd
          show Rd All W d ((W.cell? ⟨ab, ao + (q * 6 + r), none⟩).getD undef)
          rw [← Nat.add_assoc, hc r hr]
          match r, hr with
          | 0, _ => simp at hd; subst hd; exact Rd.n _ _
          | 1, _ => simp at hd; subst hd; exact Rd.n _ _
          | 2, _ => simp at hd; subst hd; exact Rd.u _
          | 3, _ => simp at hd; subst hd; exact Rd.u _
          | 4, _ => simp at hd; subst hd; exact Rd.u _
          | 5, _ => simp at hd; subst hd; exact hrd
      · have := bulk_sum es (elems.map (·.1)) (by simp [hes, hel]) fun i e d he hd => (hp i e he).2.2 d hd
        rw [sz_eq]
        exact Nat.le_trans (show 1 + (es.map sz).sum ≤ _ by omega) (Nat.le_trans hbs hb3)
end
theorem open_form {H : Type} {enc : TypeId × Value → H} {W : World} {base : Nat} {v : Value} {d : DataW H} {p : List MemPlace} (ok : Value.okWide Try.prog W .any base 27 v)
    (h : DataW.Trod enc Try.prog W 0 (fun _ => true) true 27 v d p) : ∃ f fv, v = .agg fv ∧ FV All W f fv ∧ sz f ≤ Rows.uptoBulk d := by
  obtain ⟨cs, rfl, hsz⟩ := okWide_struct Try.underlying27 ok
  obtain ⟨fuel, hf⟩ := h
  obtain ⟨f, va, vb, vc, A, c, hc, hr, hb⟩ := form_of fuel _ _ hf
  refine ⟨f, cs, rfl, ⟨va, vb, vc, A, c, ?_, hr⟩, hb⟩
  have hc' : cs.toList = [.int .i64 f.op, .int .i64 f.num, va, vb, vc, .slice A f.args.length c] := hc
  rw [← Array.toArray_toList (xs := cs), hc']
/-- A list of ints of the caller's, as a state. -/
theorem st_open {W : World} {A : Option Addr} {n : Nat} (gi : 0 < n → ∃ ad, A = some ad ∧ IntsAt W ad n (-9223372036854775808) 9223372036854775807) : ∃ s, St W n s A := by
  rcases Nat.eq_zero_or_pos n with h0 | h0
  · exact ⟨fun _ => 0, fun i hi => absurd hi (by omega)⟩
  · obtain ⟨ad, rfl, h⟩ := gi h0
    refine ⟨fun i => match W.cell? (ad.add i) with | some (.int _ z) => z | _ => 0, fun i hi => ⟨ad, rfl, ?_⟩⟩
    obtain ⟨z, hz, _⟩ := h.2 i hi
    simp only [hz]
end Fx
end Go.Proofs.Ytlhncmnhpnhfhaa
