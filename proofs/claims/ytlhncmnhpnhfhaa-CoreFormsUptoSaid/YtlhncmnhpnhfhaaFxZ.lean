/-
  The reference's With: a number comes into an ascending list.
-/
import Derived.Test.YtlhncmnhpnhfhaaFxY
namespace Go.Proofs.Ytlhncmnhpnhfhaa
open Go Go.RowKit Go.Shelf
set_option maxRecDepth 20000
namespace Fx

/-- A number comes into an ascending list. -/
def ins : List Int → Int → List Int
  | [], x => [x]
  | y :: l, x => if y < x then y :: ins l x else if y = x then y :: l else x :: y :: l
theorem ins_at : ∀ (zs : List Int) (x : Int) (k : Nat), k ≤ zs.length → (∀ j z, j < k → zs[j]? = some z → z < x) → (∀ z, zs[k]? = some z → ¬ z < x) → ins zs x = if zs[k]? = some x then zs else zs.take k ++ x :: zs.drop k
  | [], x, k, hk, _, _ => by
    obtain rfl : k = 0 := by simpa using hk
    rfl
  | y :: l, x, 0, _, _, h => by
    have hy := h y rfl
    by_cases e : y = x
    · simp [ins, e]
    · simp [ins, e, hy]
  | y :: l, x, k + 1, hk, h1, h2 => by
    have hy := h1 0 y (by omega) rfl
    have ih := ins_at l x k (by simpa using hk) (fun j z hj hz => h1 (j + 1) z (by omega) (by simpa using hz)) (fun z hz => h2 z (by simpa using hz))
    simp only [ins, if_pos hy, ih, List.getElem?_cons_succ]
    split <;> simp
theorem ins_mem : ∀ (zs : List Int) (x z : Int), z ∈ ins zs x ↔ z = x ∨ z ∈ zs
  | [], x, z => by simp [ins]
  | y :: l, x, z => by
    unfold ins
    split
    · simp only [List.mem_cons, ins_mem l x z]
      constructor
      · rintro (h | h | h) <;> simp [h]
      · rintro (h | h | h) <;> simp [h]
    · split
      · rename_i h; subst h; simp
      · simp
theorem ins_asc : ∀ (zs : List Int) (x : Int), zs.Pairwise (· < ·) → (ins zs x).Pairwise (· < ·)
  | [], x, _ => by simp [ins]
  | y :: l, x, h => by
    obtain ⟨h1, h2⟩ := List.pairwise_cons.1 h
    unfold ins
    split
    · rename_i hy
      refine List.pairwise_cons.2 ⟨fun z hz => ?_, ins_asc l x h2⟩
      rcases (ins_mem l x z).1 hz with rfl | hz
      · exact hy
      · exact h1 z hz
    · split
      · exact h
      · rename_i hy hn
        refine List.pairwise_cons.2 ⟨fun z hz => ?_, h⟩
        rcases List.mem_cons.1 hz with rfl | hz
        · omega
        · have := h1 z hz; omega
theorem ins_len : ∀ (zs : List Int) (x : Int), (ins zs x).length ≤ zs.length + 1
  | [], _ => by simp [ins]
  | y :: l, x => by
    have := ins_len l x
    unfold ins
    split
    · simp; omega
    · split <;> simp
theorem asc_uniq : ∀ (a b : List Int), a.Pairwise (· < ·) → b.Pairwise (· < ·) → (∀ z, z ∈ a ↔ z ∈ b) → a = b
  | [], [], _, _, _ => rfl
  | [], y :: b, _, _, h => by have := (h y).2 (by simp); simp at this
  | x :: a, [], _, _, h => by have := (h x).1 (by simp); simp at this
  | x :: a, y :: b, ha, hb, h => by
    obtain ⟨a1, a2⟩ := List.pairwise_cons.1 ha
    obtain ⟨b1, b2⟩ := List.pairwise_cons.1 hb
    have e : x = y := by
      rcases List.mem_cons.1 ((h x).1 (by simp)) with e | hx
      · exact e
      rcases List.mem_cons.1 ((h y).2 (by simp)) with e | hy
      · exact e.symm
      have := a1 y hy; have := b1 x hx; omega
    subst e
    congr 1
    refine asc_uniq a b a2 b2 fun z => ⟨fun hz => ?_, fun hz => ?_⟩
    · have := a1 z hz
      rcases List.mem_cons.1 ((h z).1 (by simp [hz])) with rfl | h
      · omega
      · exact h
    · have := b1 z hz
      rcases List.mem_cons.1 ((h z).2 (by simp [hz])) with rfl | h
      · omega
      · exact h

/-- A list of ints: nil, or a row that is not empty. -/
def LR (w : World) (v : Value) (zs : List Int) : Prop := (v = .slice none 0 0 ∧ zs = []) ∨ ∃ b c, v = .slice (some ⟨b, 0, none⟩) zs.length c ∧ zs.length ≤ c ∧ c ≤ maxLen ∧ 0 < zs.length ∧ ∀ i z, zs[i]? = some z → w.cell? ⟨b, i, none⟩ = some (.int .i64 z)
theorem LR.below {w w' : World} {v : Value} {zs : List Int} (h : LR w v zs) (hb : Below w.heap.size w w') : LR w' v zs := by
  rcases h with h | ⟨b, c, e, h1, h2, h3, h4⟩
  · exact .inl h
  · exact .inr ⟨b, c, e, h1, h2, h3, fun i z hz => (hb.cell (World.block_lt_of_cell? w _ (h4 i z hz))).trans (h4 i z hz)⟩
theorem lr_own {w : World} {base : Nat} {v : Value} {n : Nat} {zs : List Int} (h : w.ownsRow base 3 1 v n (zs.map (.int .i64))) (hn : 0 < n) : LR w v zs := by
  have hl : zs.length = n := by have := h.1; simpa using this
  rcases h.2 with ⟨_, h0⟩ | ⟨g, cap, cur, hv, hb, hg, h1, h2, _⟩
  · omega
  · subst hv
    exact .inr ⟨g, cap, by rw [hl], by omega, h2, by omega, fun i z hz => by
      have hi := (List.getElem?_eq_some_iff.1 hz).1
      rw [h.cellAt i (by omega), List.getElem?_map, hz]; rfl⟩

/-- append onto a row of the call's own, or onto nil, of any other row. -/
theorem step_app {w : World} {o : Oper} {a : Act} {K : Act → World → Prop} {Q : Exit → Act → World → Prop} {ops : Array Oper} {E : Prop} (hgd : o.guard = none) (s x : Operand)
    (ho : o.op = .call { callee := .builtin .append, args := #[s, x], argTypes := #[28, 28] }) (base : Nat) (v : Value) (n : Nat) (xs : List Value) (hs : a.eval s = v) (hown : w.ownsRow base 3 1 v n xs)
    (A : Option Addr) (m c : Nat) (news : List Value) (hx : a.eval x = .slice A m c) (hsrc : (A = none ∧ m = 0 ∧ c = 0 ∧ news = []) ∨ ∃ ad, A = some ad ∧ news.length = m ∧ ∀ j u, news[j]? = some u → w.cell? (ad.add j) = some u) (h1 : ∀ u ∈ news, u.oneCell' = true)
    (hle : n + m ≤ 4000000) (hbase : base ≤ w.heap.size)
    (h : ∀ v' w', w'.ownsRow base 3 1 v' (n + m) (xs ++ news) → w.grownBy w' v.ownBlock → K (a.put o.dst v') w') :
    if Region.wanted o (yielded ops a.tmps) = true then Oper.wp Try.prog o a w K Q else E := by
  obtain ⟨i0, hin, hz0, hz1, hz2⟩ := info_parts infoInt'
  have hw : Region.wanted o (yielded ops a.tmps) = true := by simp [Region.wanted, hgd]
  rw [if_pos hw]
  rcases hsrc with ⟨rfl, rfl, rfl, rfl⟩ | ⟨ad, rfl, hl, hc⟩
  · have hr := run_append_owned_none (P := Try.prog) (w := w) base 28 o.type 3 i0 1 Try.underlying28 hin v n xs hown
    unfold Oper.wp execOp
    simp only [ho, resolve, invoke, builtin, Sem.run_bind, Sem.run_pure, Result.andThen_ok, List.map_toArray, List.map_cons, List.map_nil, hs, hx, hr]
    exact h _ _ (by simpa using hown) ⟨rfl, rfl, rfl, Nat.le_refl _, fun _ _ _ => rfl⟩
  · obtain ⟨v', w', hr, h2, h3, _, _⟩ := run_append_own_at (P := Try.prog) w base 28 o.type 3 i0 (.int .i64 0) 1 8 Try.underlying28 hin hz0 hz1 hz2 rfl (by decide) v n xs hown ad m c news (by omega) hc h1 (by unfold maxLen; omega) (by omega) hbase
    unfold Oper.wp execOp
    simp only [ho, resolve, invoke, builtin, Sem.run_bind, Sem.run_pure, Result.andThen_ok, List.map_toArray, List.map_cons, List.map_nil, hs, hx, hr]
    exact h v' w' h2 h3

theorem src_take {w W : World} {b : Nat} {zs : List Int} (hc : ∀ (i : Nat) (z : Int), zs[i]? = some z → w.cell? ⟨b, i, none⟩ = some (.int .i64 z)) (hb : Below w.heap.size w W) (k : Nat) (j : Nat) (u : Value) (h : ((zs.take k).map (Value.int .i64))[j]? = some u) : W.cell? ((⟨b, 0, none⟩ : Addr).add j) = some u := by
  rw [add_plain, Nat.zero_add]
  rw [List.getElem?_map, List.getElem?_take] at h
  split at h
  · obtain ⟨z, hz, rfl⟩ := Option.map_eq_some_iff.1 h
    have := hc j z hz
    exact (hb.cell (World.block_lt_of_cell? w _ this)).trans this
  · cases h
theorem src_drop {w W : World} {b : Nat} {zs : List Int} (hc : ∀ (i : Nat) (z : Int), zs[i]? = some z → w.cell? ⟨b, i, none⟩ = some (.int .i64 z)) (hb : Below w.heap.size w W) (k : Nat) (j : Nat) (u : Value) (h : ((zs.drop k).map (Value.int .i64))[j]? = some u) : W.cell? ((⟨b, k, none⟩ : Addr).add j) = some u := by
  rw [add_plain]
  rw [List.getElem?_map, List.getElem?_drop] at h
  obtain ⟨z, hz, rfl⟩ := Option.map_eq_some_iff.1 h
  have := hc (k + j) z hz
  exact (hb.cell (World.block_lt_of_cell? w _ this)).trans this
set_option maxHeartbeats 8000000 in
theorem with_ref (v : Value) (zs : List Int) (x : Int) (w : World) (hv : LR w v zs) (hn : zs.length ≤ 1999999) :
    Calls Try.prog 43 #[v, .int .i64 x] w fun e w' => ∃ v', e = .returned v' ∧ LR w' v' (ins zs x) ∧ Below w.heap.size w w' := by
  rcases hv with ⟨rfl, rfl⟩ | ⟨b, c, rfl, hlc, hcm, hpos, hcell⟩
  · go_enter Try.func43, Try.ntmps43
    go_wp2_with fail
    go_loopw [5] (fun q wr => q = .int .i64 0 ∧ w = wr) (fun _ _ => 0)
    case atStart => exact ⟨rfl, rfl⟩
    case round =>
    obtain ⟨rfl, rfl⟩ := hrel
    go_wp2_with fail
    refine wp_region_held_drew (S := fun _ => True) (by kernel_rfl) trivial (fun hHeld => ?_)
    refine tkH (i := 0) (oi := ⟨some 33, _, _, _, _, _⟩) (v := ?_) ?_ ?_
    rotate_left
    · intro W hSw
      go_simp
      try (first | with_reducible rfl | exact rfl)
    try simp only [Act.put, List.setIfInBounds_toArray, List.set_cons_zero, List.set_cons_succ]
    refine tkH (i := 1) (oi := ⟨some 34, _, _, _, _, _⟩) (v := ?_) ?_ ?_
    rotate_left
    · intro W hSw
      go_simp
      try (first | with_reducible rfl | exact rfl)
    try simp only [Act.put, List.setIfInBounds_toArray, List.set_cons_zero, List.set_cons_succ]
    refine tkH (i := 2) (oi := ⟨some 35, _, _, _, _, _⟩) (v := ?_) ?_ ?_
    rotate_left
    · intro W hSw
      go_simp
      try (first | with_reducible rfl | exact rfl)
    try simp only [Act.put, List.setIfInBounds_toArray, List.set_cons_zero, List.set_cons_succ]
    refine tkH (i := 4) (oi := ⟨some 37, _, _, _, _, _⟩) (v := ?_) ?_ ?_
    rotate_left
    · intro W hSw
      go_simp
      try (first | with_reducible rfl | exact rfl)
    try simp only [Act.put, List.setIfInBounds_toArray, List.set_cons_zero, List.set_cons_succ]
    refine tkH (i := 7) (oi := ⟨some 40, _, _, _, _, _⟩) (v := ?_) ?_ ?_
    rotate_left
    · intro W hSw
      go_simp
      try (first | with_reducible rfl | exact rfl)
    try simp only [Act.put, List.setIfInBounds_toArray, List.set_cons_zero, List.set_cons_succ]
    refine tkH (i := 8) (oi := ⟨some 41, _, _, _, _, _⟩) (v := ?_) ?_ ?_
    rotate_left
    · intro W hSw
      go_simp
      try (first | with_reducible rfl | exact rfl)
    try simp only [Act.put, List.setIfInBounds_toArray, List.set_cons_zero, List.set_cons_succ]
    refine tkH (i := 9) (oi := ⟨some 42, _, _, _, _, _⟩) (v := ?_) ?_ ?_
    rotate_left
    · intro W hSw
      go_simp
      try (first | with_reducible rfl | exact rfl)
    try simp only [Act.put, List.setIfInBounds_toArray, List.set_cons_zero, List.set_cons_succ]
    refine wpAnyH_ready (rs := [3, 5]) (by kernel_rfl) (by simp) ?_
    refine AllReadyH.cons (o := ⟨some 36, _, _, _, _, _⟩) rfl (fun K hK => ?_) (AllReadyH.cons (o := ⟨some 38, _, _, _, _, _⟩) rfl (fun K hK => ?_) AllReadyH.nil)
    · refine step_app rfl (.const (.slice none 0 0)) (.tmp 35) rfl w.heap.size (.slice none 0 0) 0 [] rfl (World.ownsRow_nil _ _ _ _) none 0 0 [] rfl (.inl ⟨rfl, rfl, rfl, rfl⟩) (by simp) (by omega) (Nat.le_refl _) ?_
      intro v1 w1 own1 gr1
      simp only [Nat.zero_add, List.nil_append] at own1
      have B1 : Below w.heap.size w w1 := (drewN_below (Below.refl _ _) _).grown gr1 (Nat.le_refl _) (fun j hj => by cases hj)
      refine hK.out _ _ trivial (fun hHeld => ?_)
      clear hK K
      try simp only [Act.put, List.setIfInBounds_toArray, List.set_cons_zero, List.set_cons_succ]
      refine wpAnyH_ready (rs := [5]) (by kernel_rfl) (by simp) ?_
      refine AllReadyH.cons (o := ⟨some 38, _, _, _, _, _⟩) rfl (fun K hK => ?_) AllReadyH.nil
      go_simp
      refine hK.out _ _ trivial (fun hHeld => ?_)
      clear hK K
      try simp only [Act.put, List.setIfInBounds_toArray, List.set_cons_zero, List.set_cons_succ]
      refine wpAnyH_ready (rs := [6]) (by kernel_rfl) (by simp) ?_
      refine AllReadyH.cons (o := ⟨some 39, _, _, _, _, _⟩) rfl (fun K hK => ?_) AllReadyH.nil
      refine step_app rfl (.tmp 36) (.tmp 38) rfl w.heap.size (v1) 0 [] rfl (own1.alloc _) (some ⟨w1.heap.size, 0, none⟩) 1 1 [.int .i64 x] rfl (.inr ⟨_, rfl, rfl, cell_one_new _ _ _⟩) (by simp [Value.oneCell']) (by omega) (by have := B1.size; simp; omega) ?_
      intro v2 w2 own2 gr2
      have B2 : Below w.heap.size w w2 := ((B1.alloc B1.size _)).grown gr2 (by have := B1.size; simp; omega) (fun j hj => (own1.lt j hj).1)
      have S2 := B2.size
      refine hK.out _ _ trivial (fun hHeld => ?_)
      clear hK K
      try simp only [Act.put, List.setIfInBounds_toArray, List.set_cons_zero, List.set_cons_succ]
      refine wpAnyH_ready (rs := [10]) (by kernel_rfl) (by simp) ?_
      refine AllReadyH.cons (o := ⟨some 43, _, _, _, _, _⟩) rfl (fun K hK => ?_) AllReadyH.nil
      refine step_app rfl (.tmp 39) (.tmp 42) rfl w.heap.size (v2) (0 + 1) ([] ++ [.int .i64 x]) rfl own2 none 0 0 [] rfl (.inl ⟨rfl, rfl, rfl, rfl⟩) (by simp) (by omega) S2 ?_
      intro v3 w3 own3 gr3
      refine hK.out _ _ trivial (fun hHeld => ?_)
      clear hK K
      try simp only [Act.put, List.setIfInBounds_toArray, List.set_cons_zero, List.set_cons_succ]
      refine tkH (i := 11) (oi := ⟨some 4, _, _, _, _, _⟩) (v := ?_) ?_ ?_
      rotate_left
      · intro W hSw
        go_simp
        try (first | with_reducible rfl | exact rfl)
      try simp only [Act.put, List.setIfInBounds_toArray, List.set_cons_zero, List.set_cons_succ]
      refine wpAnyH_done (by kernel_rfl) ?_ _
      go_wp2
      all_goals
        go_ret
        refine ⟨v3, rfl, ?_, ?_⟩
        · refine lr_own (n := 1) (base := w.heap.size) ?_ (by omega)
          simpa [ins] using own3
        · exact B2.grown gr3 S2 (fun j hj => (own2.lt j hj).1)
    · go_simp
      refine hK.out _ _ trivial (fun hHeld => ?_)
      clear hK K
      try simp only [Act.put, List.setIfInBounds_toArray, List.set_cons_zero, List.set_cons_succ]
      refine wpAnyH_ready (rs := [3]) (by kernel_rfl) (by simp) ?_
      refine AllReadyH.cons (o := ⟨some 36, _, _, _, _, _⟩) rfl (fun K hK => ?_) AllReadyH.nil
      refine step_app rfl (.const (.slice none 0 0)) (.tmp 35) rfl w.heap.size (.slice none 0 0) 0 [] rfl (World.ownsRow_nil _ _ _ _) none 0 0 [] rfl (.inl ⟨rfl, rfl, rfl, rfl⟩) (by simp) (by omega) (by simp) ?_
      intro v1 w1 own1 gr1
      simp only [Nat.zero_add, List.nil_append] at own1
      have B1 : Below w.heap.size w w1 := (((drewN_below (Below.refl _ _) _).alloc (Nat.le_refl _) _)).grown gr1 (by simp) (fun j hj => by cases hj)
      have X1 : ∀ (j : Nat) (u : Value), [Value.int .i64 x][j]? = some u → w1.cell? ((⟨w.heap.size, 0, none⟩ : Addr).add j) = some u := fun j u hj => (World.cell?_of_block (by rw [addr_block]; exact gr1.block _ (by simp) (by simp [Value.ownBlock]))).trans (cell_one_new _ _ _ j u hj)
      refine hK.out _ _ trivial (fun hHeld => ?_)
      clear hK K
      try simp only [Act.put, List.setIfInBounds_toArray, List.set_cons_zero, List.set_cons_succ]
      refine wpAnyH_ready (rs := [6]) (by kernel_rfl) (by simp) ?_
      refine AllReadyH.cons (o := ⟨some 39, _, _, _, _, _⟩) rfl (fun K hK => ?_) AllReadyH.nil
      refine step_app rfl (.tmp 36) (.tmp 38) rfl w.heap.size (v1) 0 [] rfl own1 (some ⟨w.heap.size, 0, none⟩) 1 1 [.int .i64 x] rfl (.inr ⟨_, rfl, rfl, X1⟩) (by simp [Value.oneCell']) (by omega) B1.size ?_
      intro v2 w2 own2 gr2
      have B2 : Below w.heap.size w w2 := B1.grown gr2 B1.size (fun j hj => (own1.lt j hj).1)
      have S2 := B2.size
      refine hK.out _ _ trivial (fun hHeld => ?_)
      clear hK K
      try simp only [Act.put, List.setIfInBounds_toArray, List.set_cons_zero, List.set_cons_succ]
      refine wpAnyH_ready (rs := [10]) (by kernel_rfl) (by simp) ?_
      refine AllReadyH.cons (o := ⟨some 43, _, _, _, _, _⟩) rfl (fun K hK => ?_) AllReadyH.nil
      refine step_app rfl (.tmp 39) (.tmp 42) rfl w.heap.size (v2) (0 + 1) ([] ++ [.int .i64 x]) rfl own2 none 0 0 [] rfl (.inl ⟨rfl, rfl, rfl, rfl⟩) (by simp) (by omega) S2 ?_
      intro v3 w3 own3 gr3
      refine hK.out _ _ trivial (fun hHeld => ?_)
      clear hK K
      try simp only [Act.put, List.setIfInBounds_toArray, List.set_cons_zero, List.set_cons_succ]
      refine tkH (i := 11) (oi := ⟨some 4, _, _, _, _, _⟩) (v := ?_) ?_ ?_
      rotate_left
      · intro W hSw
        go_simp
        try (first | with_reducible rfl | exact rfl)
      try simp only [Act.put, List.setIfInBounds_toArray, List.set_cons_zero, List.set_cons_succ]
      refine wpAnyH_done (by kernel_rfl) ?_ _
      go_wp2
      all_goals
        go_ret
        refine ⟨v3, rfl, ?_, ?_⟩
        · refine lr_own (n := 1) (base := w.heap.size) ?_ (by omega)
          simpa [ins] using own3
        · exact B2.grown gr3 S2 (fun j hj => (own2.lt j hj).1)
  · unfold maxLen at hcm
    have HC := Lib.hid hcell
    clear hcell
    go_enter Try.func43, Try.ntmps43
    go_wp2_with fail
    go_loopw [5] (fun q wr => w = wr ∧ ∃ k : Nat, q = .int .i64 k ∧ k ≤ zs.length ∧ Hid (∀ j z, j < k → zs[j]? = some z → z < x)) (fun q _ => zs.length - (intOf q).toNat)
    case atStart => exact ⟨rfl, 0, rfl, Nat.zero_le _, fun j z h => absurd h (by omega)⟩
    case round =>
      obtain ⟨rfl, k, rfl, hk, HP⟩ := hrel
      have hkc : k ≤ c := by omega
      have hkc' : (k : Int) ≤ (c : Int) := by omega
      by_cases hlt : k < zs.length
      · have hlt' : (k : Int) < (zs.length : Int) := by omega
        obtain ⟨z, hz⟩ : ∃ z, zs[k]? = some z := ⟨_, List.getElem?_eq_getElem hlt⟩
        have ck := HC.out k z hz
        have HZ := Lib.hid hz
        clear hz
        by_cases hzx : z < x
        · go_wp2
          go_roundw
          case rel =>
            refine ⟨trivial, k + 1, by go_num, by omega, fun j y hj hy => ?_⟩
            by_cases e : j = k
            · subst e
              rw [HZ.out] at hy; cases hy; exact hzx
            · exact HP.out j y (by omega) hy
          case measure => simp [intOf] <;> omega
        · by_cases hze : z = x
          · subst hze
            have HI := Lib.hid (ins_at zs z k hk HP.out (fun y hy => by rw [HZ.out] at hy; cases hy; omega))
            go_wp2
            go_ret
            refine ⟨_, rfl, ?_, Below.refl _ _⟩
            rw [HI.out, if_pos HZ.out]
            exact .inr ⟨b, c, rfl, hlc, hcm, hpos, HC.out⟩
          · have HI := Lib.hid ((ins_at zs x k hk HP.out (fun y hy => by rw [HZ.out] at hy; cases hy; exact hzx)).trans (if_neg (by rw [HZ.out]; simpa using hze)))
            have hck : ¬ c = k := by omega
            go_wp2_with fail
            refine wp_region_held_drew (S := fun _ => True) (by kernel_rfl) trivial (fun hHeld => ?_)
            refine tkH (i := 0) (oi := ⟨some 33, _, _, _, _, _⟩) (v := ?_) ?_ ?_
            rotate_left
            · intro W hSw
              go_simp
              try (first | with_reducible rfl | exact rfl)
            try simp only [Act.put, List.setIfInBounds_toArray, List.set_cons_zero, List.set_cons_succ]
            refine tkH (i := 1) (oi := ⟨some 34, _, _, _, _, _⟩) (v := ?_) ?_ ?_
            rotate_left
            · intro W hSw
              go_simp
              try (first | with_reducible rfl | exact rfl)
            try simp only [Act.put, List.setIfInBounds_toArray, List.set_cons_zero, List.set_cons_succ]
            refine tkH (i := 2) (oi := ⟨some 35, _, _, _, _, _⟩) (v := ?_) ?_ ?_
            rotate_left
            · intro W hSw
              go_simp
              try (first | with_reducible rfl | exact rfl)
            try simp only [Act.put, List.setIfInBounds_toArray, List.set_cons_zero, List.set_cons_succ]
            refine tkH (i := 4) (oi := ⟨some 37, _, _, _, _, _⟩) (v := ?_) ?_ ?_
            rotate_left
            · intro W hSw
              go_simp
              try (first | with_reducible rfl | exact rfl)
            try simp only [Act.put, List.setIfInBounds_toArray, List.set_cons_zero, List.set_cons_succ]
            refine tkH (i := 7) (oi := ⟨some 40, _, _, _, _, _⟩) (v := ?_) ?_ ?_
            rotate_left
            · intro W hSw
              go_simp
              try (first | with_reducible rfl | exact rfl)
            try simp only [Act.put, List.setIfInBounds_toArray, List.set_cons_zero, List.set_cons_succ]
            refine tkH (i := 8) (oi := ⟨some 41, _, _, _, _, _⟩) (v := ?_) ?_ ?_
            rotate_left
            · intro W hSw
              go_simp
              try (first | with_reducible rfl | exact rfl)
            try simp only [Act.put, List.setIfInBounds_toArray, List.set_cons_zero, List.set_cons_succ]
            refine tkH (i := 9) (oi := ⟨some 42, _, _, _, _, _⟩) (v := ?_) ?_ ?_
            rotate_left
            · intro W hSw
              go_simp
              try (first | with_reducible rfl | exact rfl)
            try simp only [Act.put, List.setIfInBounds_toArray, List.set_cons_zero, List.set_cons_succ]
            refine wpAnyH_ready (rs := [3, 5]) (by kernel_rfl) (by simp) ?_
            refine AllReadyH.cons (o := ⟨some 36, _, _, _, _, _⟩) rfl (fun K hK => ?_) (AllReadyH.cons (o := ⟨some 38, _, _, _, _, _⟩) rfl (fun K hK => ?_) AllReadyH.nil)
            · refine step_app rfl (.const (.slice none 0 0)) (.tmp 35) rfl w.heap.size (.slice none 0 0) 0 [] rfl (World.ownsRow_nil _ _ _ _) (some ⟨b, 0, none⟩) k c ((zs.take k).map (.int .i64)) rfl (.inr ⟨_, rfl, by simp; omega, src_take HC.out ((drewN_below (Below.refl _ _) _)) k⟩) (fun u hu => by obtain ⟨z, _, rfl⟩ := List.mem_map.1 hu; rfl) (by omega) (Nat.le_refl _) ?_
              intro v1 w1 own1 gr1
              simp only [Nat.zero_add, List.nil_append] at own1
              have B1 : Below w.heap.size w w1 := (drewN_below (Below.refl _ _) _).grown gr1 (Nat.le_refl _) (fun j hj => by cases hj)
              refine hK.out _ _ trivial (fun hHeld => ?_)
              clear hK K
              try simp only [Act.put, List.setIfInBounds_toArray, List.set_cons_zero, List.set_cons_succ]
              refine wpAnyH_ready (rs := [5]) (by kernel_rfl) (by simp) ?_
              refine AllReadyH.cons (o := ⟨some 38, _, _, _, _, _⟩) rfl (fun K hK => ?_) AllReadyH.nil
              go_simp
              refine hK.out _ _ trivial (fun hHeld => ?_)
              clear hK K
              try simp only [Act.put, List.setIfInBounds_toArray, List.set_cons_zero, List.set_cons_succ]
              refine wpAnyH_ready (rs := [6]) (by kernel_rfl) (by simp) ?_
              refine AllReadyH.cons (o := ⟨some 39, _, _, _, _, _⟩) rfl (fun K hK => ?_) AllReadyH.nil
              refine step_app rfl (.tmp 36) (.tmp 38) rfl w.heap.size (v1) k ((zs.take k).map (.int .i64)) rfl (own1.alloc _) (some ⟨w1.heap.size, 0, none⟩) 1 1 [.int .i64 x] rfl (.inr ⟨_, rfl, rfl, cell_one_new _ _ _⟩) (by simp [Value.oneCell']) (by omega) (by have := B1.size; simp; omega) ?_
              intro v2 w2 own2 gr2
              have B2 : Below w.heap.size w w2 := ((B1.alloc B1.size _)).grown gr2 (by have := B1.size; simp; omega) (fun j hj => (own1.lt j hj).1)
              have S2 := B2.size
              refine hK.out _ _ trivial (fun hHeld => ?_)
              clear hK K
              try simp only [Act.put, List.setIfInBounds_toArray, List.set_cons_zero, List.set_cons_succ]
              refine wpAnyH_ready (rs := [10]) (by kernel_rfl) (by simp) ?_
              refine AllReadyH.cons (o := ⟨some 43, _, _, _, _, _⟩) rfl (fun K hK => ?_) AllReadyH.nil
              refine step_app rfl (.tmp 39) (.tmp 42) rfl w.heap.size (v2) (k + 1) (((zs.take k).map (.int .i64)) ++ [.int .i64 x]) rfl own2 (some ⟨b, k, none⟩) (zs.length - k) (c - k) ((zs.drop k).map (.int .i64)) rfl (.inr ⟨_, rfl, by simp, src_drop HC.out B2 k⟩) (fun u hu => by obtain ⟨z, _, rfl⟩ := List.mem_map.1 hu; rfl) (by omega) S2 ?_
              intro v3 w3 own3 gr3
              refine hK.out _ _ trivial (fun hHeld => ?_)
              clear hK K
              try simp only [Act.put, List.setIfInBounds_toArray, List.set_cons_zero, List.set_cons_succ]
              refine tkH (i := 11) (oi := ⟨some 4, _, _, _, _, _⟩) (v := ?_) ?_ ?_
              rotate_left
              · intro W hSw
                go_simp
                try (first | with_reducible rfl | exact rfl)
              try simp only [Act.put, List.setIfInBounds_toArray, List.set_cons_zero, List.set_cons_succ]
              refine wpAnyH_done (by kernel_rfl) ?_ _
              go_wp2
              all_goals
                go_ret
                refine ⟨v3, rfl, ?_, B2.grown gr3 S2 (fun j hj => (own2.lt j hj).1)⟩
                rw [HI.out]
                refine lr_own (n := k + 1 + (zs.length - k)) (base := w.heap.size) ?_ (by omega)
                simpa using own3
            · go_simp
              refine hK.out _ _ trivial (fun hHeld => ?_)
              clear hK K
              try simp only [Act.put, List.setIfInBounds_toArray, List.set_cons_zero, List.set_cons_succ]
              refine wpAnyH_ready (rs := [3]) (by kernel_rfl) (by simp) ?_
              refine AllReadyH.cons (o := ⟨some 36, _, _, _, _, _⟩) rfl (fun K hK => ?_) AllReadyH.nil
              refine step_app rfl (.const (.slice none 0 0)) (.tmp 35) rfl w.heap.size (.slice none 0 0) 0 [] rfl (World.ownsRow_nil _ _ _ _) (some ⟨b, 0, none⟩) k c ((zs.take k).map (.int .i64)) rfl (.inr ⟨_, rfl, by simp; omega, src_take HC.out (((drewN_below (Below.refl _ _) _).alloc (Nat.le_refl _) _)) k⟩) (fun u hu => by obtain ⟨z, _, rfl⟩ := List.mem_map.1 hu; rfl) (by omega) (by simp) ?_
              intro v1 w1 own1 gr1
              simp only [Nat.zero_add, List.nil_append] at own1
              have B1 : Below w.heap.size w w1 := (((drewN_below (Below.refl _ _) _).alloc (Nat.le_refl _) _)).grown gr1 (by simp) (fun j hj => by cases hj)
              have X1 : ∀ (j : Nat) (u : Value), [Value.int .i64 x][j]? = some u → w1.cell? ((⟨w.heap.size, 0, none⟩ : Addr).add j) = some u := fun j u hj => (World.cell?_of_block (by rw [addr_block]; exact gr1.block _ (by simp) (by simp [Value.ownBlock]))).trans (cell_one_new _ _ _ j u hj)
              refine hK.out _ _ trivial (fun hHeld => ?_)
              clear hK K
              try simp only [Act.put, List.setIfInBounds_toArray, List.set_cons_zero, List.set_cons_succ]
              refine wpAnyH_ready (rs := [6]) (by kernel_rfl) (by simp) ?_
              refine AllReadyH.cons (o := ⟨some 39, _, _, _, _, _⟩) rfl (fun K hK => ?_) AllReadyH.nil
              refine step_app rfl (.tmp 36) (.tmp 38) rfl w.heap.size (v1) k ((zs.take k).map (.int .i64)) rfl own1 (some ⟨w.heap.size, 0, none⟩) 1 1 [.int .i64 x] rfl (.inr ⟨_, rfl, rfl, X1⟩) (by simp [Value.oneCell']) (by omega) B1.size ?_
              intro v2 w2 own2 gr2
              have B2 : Below w.heap.size w w2 := B1.grown gr2 B1.size (fun j hj => (own1.lt j hj).1)
              have S2 := B2.size
              refine hK.out _ _ trivial (fun hHeld => ?_)
              clear hK K
              try simp only [Act.put, List.setIfInBounds_toArray, List.set_cons_zero, List.set_cons_succ]
              refine wpAnyH_ready (rs := [10]) (by kernel_rfl) (by simp) ?_
              refine AllReadyH.cons (o := ⟨some 43, _, _, _, _, _⟩) rfl (fun K hK => ?_) AllReadyH.nil
              refine step_app rfl (.tmp 39) (.tmp 42) rfl w.heap.size (v2) (k + 1) (((zs.take k).map (.int .i64)) ++ [.int .i64 x]) rfl own2 (some ⟨b, k, none⟩) (zs.length - k) (c - k) ((zs.drop k).map (.int .i64)) rfl (.inr ⟨_, rfl, by simp, src_drop HC.out B2 k⟩) (fun u hu => by obtain ⟨z, _, rfl⟩ := List.mem_map.1 hu; rfl) (by omega) S2 ?_
              intro v3 w3 own3 gr3
              refine hK.out _ _ trivial (fun hHeld => ?_)
              clear hK K
              try simp only [Act.put, List.setIfInBounds_toArray, List.set_cons_zero, List.set_cons_succ]
              refine tkH (i := 11) (oi := ⟨some 4, _, _, _, _, _⟩) (v := ?_) ?_ ?_
              rotate_left
              · intro W hSw
                go_simp
                try (first | with_reducible rfl | exact rfl)
              try simp only [Act.put, List.setIfInBounds_toArray, List.set_cons_zero, List.set_cons_succ]
              refine wpAnyH_done (by kernel_rfl) ?_ _
              go_wp2
              all_goals
                go_ret
                refine ⟨v3, rfl, ?_, B2.grown gr3 S2 (fun j hj => (own2.lt j hj).1)⟩
                rw [HI.out]
                refine lr_own (n := k + 1 + (zs.length - k)) (base := w.heap.size) ?_ (by omega)
                simpa using own3
      · obtain rfl : k = zs.length := by omega
        have HI := Lib.hid ((ins_at zs x zs.length hk HP.out (fun y hy => by simp at hy)).trans (if_neg (by simp)))
        go_wp2_with fail
        refine wp_region_held_drew (S := fun _ => True) (by kernel_rfl) trivial (fun hHeld => ?_)
        refine tkH (i := 0) (oi := ⟨some 33, _, _, _, _, _⟩) (v := ?_) ?_ ?_
        rotate_left
        · intro W hSw
          go_simp
          try (first | with_reducible rfl | exact rfl)
        try simp only [Act.put, List.setIfInBounds_toArray, List.set_cons_zero, List.set_cons_succ]
        refine tkH (i := 1) (oi := ⟨some 34, _, _, _, _, _⟩) (v := ?_) ?_ ?_
        rotate_left
        · intro W hSw
          go_simp
          try (first | with_reducible rfl | exact rfl)
        try simp only [Act.put, List.setIfInBounds_toArray, List.set_cons_zero, List.set_cons_succ]
        refine tkH (i := 2) (oi := ⟨some 35, _, _, _, _, _⟩) (v := ?_) ?_ ?_
        rotate_left
        · intro W hSw
          go_simp
          try (first | with_reducible rfl | exact rfl)
        try simp only [Act.put, List.setIfInBounds_toArray, List.set_cons_zero, List.set_cons_succ]
        refine tkH (i := 4) (oi := ⟨some 37, _, _, _, _, _⟩) (v := ?_) ?_ ?_
        rotate_left
        · intro W hSw
          go_simp
          try (first | with_reducible rfl | exact rfl)
        try simp only [Act.put, List.setIfInBounds_toArray, List.set_cons_zero, List.set_cons_succ]
        refine tkH (i := 7) (oi := ⟨some 40, _, _, _, _, _⟩) (v := ?_) ?_ ?_
        rotate_left
        · intro W hSw
          go_simp
          try (first | with_reducible rfl | exact rfl)
        try simp only [Act.put, List.setIfInBounds_toArray, List.set_cons_zero, List.set_cons_succ]
        refine tkH (i := 8) (oi := ⟨some 41, _, _, _, _, _⟩) (v := ?_) ?_ ?_
        rotate_left
        · intro W hSw
          go_simp
          try (first | with_reducible rfl | exact rfl)
        try simp only [Act.put, List.setIfInBounds_toArray, List.set_cons_zero, List.set_cons_succ]
        refine tkH (i := 9) (oi := ⟨some 42, _, _, _, _, _⟩) (v := ?_) ?_ ?_
        rotate_left
        · intro W hSw
          go_simp
          try (first | with_reducible rfl | exact rfl)
        try simp only [Act.put, List.setIfInBounds_toArray, List.set_cons_zero, List.set_cons_succ]
        refine wpAnyH_ready (rs := [3, 5]) (by kernel_rfl) (by simp) ?_
        refine AllReadyH.cons (o := ⟨some 36, _, _, _, _, _⟩) rfl (fun K hK => ?_) (AllReadyH.cons (o := ⟨some 38, _, _, _, _, _⟩) rfl (fun K hK => ?_) AllReadyH.nil)
        · refine step_app rfl (.const (.slice none 0 0)) (.tmp 35) rfl w.heap.size (.slice none 0 0) 0 [] rfl (World.ownsRow_nil _ _ _ _) (some ⟨b, 0, none⟩) zs.length c ((zs.take zs.length).map (.int .i64)) rfl (.inr ⟨_, rfl, by simp, src_take HC.out ((drewN_below (Below.refl _ _) _)) zs.length⟩) (fun u hu => by obtain ⟨z, _, rfl⟩ := List.mem_map.1 hu; rfl) (by omega) (Nat.le_refl _) ?_
          intro v1 w1 own1 gr1
          simp only [Nat.zero_add, List.nil_append] at own1
          have B1 : Below w.heap.size w w1 := (drewN_below (Below.refl _ _) _).grown gr1 (Nat.le_refl _) (fun j hj => by cases hj)
          refine hK.out _ _ trivial (fun hHeld => ?_)
          clear hK K
          try simp only [Act.put, List.setIfInBounds_toArray, List.set_cons_zero, List.set_cons_succ]
          refine wpAnyH_ready (rs := [5]) (by kernel_rfl) (by simp) ?_
          refine AllReadyH.cons (o := ⟨some 38, _, _, _, _, _⟩) rfl (fun K hK => ?_) AllReadyH.nil
          go_simp
          refine hK.out _ _ trivial (fun hHeld => ?_)
          clear hK K
          try simp only [Act.put, List.setIfInBounds_toArray, List.set_cons_zero, List.set_cons_succ]
          refine wpAnyH_ready (rs := [6]) (by kernel_rfl) (by simp) ?_
          refine AllReadyH.cons (o := ⟨some 39, _, _, _, _, _⟩) rfl (fun K hK => ?_) AllReadyH.nil
          refine step_app rfl (.tmp 36) (.tmp 38) rfl w.heap.size (v1) zs.length ((zs.take zs.length).map (.int .i64)) rfl (own1.alloc _) (some ⟨w1.heap.size, 0, none⟩) 1 1 [.int .i64 x] rfl (.inr ⟨_, rfl, rfl, cell_one_new _ _ _⟩) (by simp [Value.oneCell']) (by omega) (by have := B1.size; simp; omega) ?_
          intro v2 w2 own2 gr2
          have B2 : Below w.heap.size w w2 := ((B1.alloc B1.size _)).grown gr2 (by have := B1.size; simp; omega) (fun j hj => (own1.lt j hj).1)
          have S2 := B2.size
          refine hK.out _ _ trivial (fun hHeld => ?_)
          clear hK K
          try simp only [Act.put, List.setIfInBounds_toArray, List.set_cons_zero, List.set_cons_succ]
          refine wpAnyH_ready (rs := [10]) (by kernel_rfl) (by simp) ?_
          refine AllReadyH.cons (o := ⟨some 43, _, _, _, _, _⟩) rfl (fun K hK => ?_) AllReadyH.nil
          refine step_app rfl (.tmp 39) (.tmp 42) rfl w.heap.size (v2) (zs.length + 1) (((zs.take zs.length).map (.int .i64)) ++ [.int .i64 x]) rfl own2 (if c = zs.length then some ⟨b, 0, none⟩ else some ⟨b, zs.length, none⟩) 0 (c - zs.length) ((zs.drop zs.length).map (.int .i64)) rfl (.inr ⟨if c = zs.length then ⟨b, 0, none⟩ else ⟨b, zs.length, none⟩, by split <;> rfl, by simp, fun j u h => by simp at h⟩) (fun u hu => by obtain ⟨z, _, rfl⟩ := List.mem_map.1 hu; rfl) (by omega) S2 ?_
          intro v3 w3 own3 gr3
          refine hK.out _ _ trivial (fun hHeld => ?_)
          clear hK K
          try simp only [Act.put, List.setIfInBounds_toArray, List.set_cons_zero, List.set_cons_succ]
          refine tkH (i := 11) (oi := ⟨some 4, _, _, _, _, _⟩) (v := ?_) ?_ ?_
          rotate_left
          · intro W hSw
            go_simp
            try (first | with_reducible rfl | exact rfl)
          try simp only [Act.put, List.setIfInBounds_toArray, List.set_cons_zero, List.set_cons_succ]
          refine wpAnyH_done (by kernel_rfl) ?_ _
          go_wp2
          all_goals
            go_ret
            refine ⟨v3, rfl, ?_, B2.grown gr3 S2 (fun j hj => (own2.lt j hj).1)⟩
            rw [HI.out]
            refine lr_own (n := zs.length + 1 + 0) (base := w.heap.size) ?_ (by omega)
            simpa using own3
        · go_simp
          refine hK.out _ _ trivial (fun hHeld => ?_)
          clear hK K
          try simp only [Act.put, List.setIfInBounds_toArray, List.set_cons_zero, List.set_cons_succ]
          refine wpAnyH_ready (rs := [3]) (by kernel_rfl) (by simp) ?_
          refine AllReadyH.cons (o := ⟨some 36, _, _, _, _, _⟩) rfl (fun K hK => ?_) AllReadyH.nil
          refine step_app rfl (.const (.slice none 0 0)) (.tmp 35) rfl w.heap.size (.slice none 0 0) 0 [] rfl (World.ownsRow_nil _ _ _ _) (some ⟨b, 0, none⟩) zs.length c ((zs.take zs.length).map (.int .i64)) rfl (.inr ⟨_, rfl, by simp, src_take HC.out (((drewN_below (Below.refl _ _) _).alloc (Nat.le_refl _) _)) zs.length⟩) (fun u hu => by obtain ⟨z, _, rfl⟩ := List.mem_map.1 hu; rfl) (by omega) (by simp) ?_
          intro v1 w1 own1 gr1
          simp only [Nat.zero_add, List.nil_append] at own1
          have B1 : Below w.heap.size w w1 := (((drewN_below (Below.refl _ _) _).alloc (Nat.le_refl _) _)).grown gr1 (by simp) (fun j hj => by cases hj)
          have X1 : ∀ (j : Nat) (u : Value), [Value.int .i64 x][j]? = some u → w1.cell? ((⟨w.heap.size, 0, none⟩ : Addr).add j) = some u := fun j u hj => (World.cell?_of_block (by rw [addr_block]; exact gr1.block _ (by simp) (by simp [Value.ownBlock]))).trans (cell_one_new _ _ _ j u hj)
          refine hK.out _ _ trivial (fun hHeld => ?_)
          clear hK K
          try simp only [Act.put, List.setIfInBounds_toArray, List.set_cons_zero, List.set_cons_succ]
          refine wpAnyH_ready (rs := [6]) (by kernel_rfl) (by simp) ?_
          refine AllReadyH.cons (o := ⟨some 39, _, _, _, _, _⟩) rfl (fun K hK => ?_) AllReadyH.nil
          refine step_app rfl (.tmp 36) (.tmp 38) rfl w.heap.size (v1) zs.length ((zs.take zs.length).map (.int .i64)) rfl own1 (some ⟨w.heap.size, 0, none⟩) 1 1 [.int .i64 x] rfl (.inr ⟨_, rfl, rfl, X1⟩) (by simp [Value.oneCell']) (by omega) B1.size ?_
          intro v2 w2 own2 gr2
          have B2 : Below w.heap.size w w2 := B1.grown gr2 B1.size (fun j hj => (own1.lt j hj).1)
          have S2 := B2.size
          refine hK.out _ _ trivial (fun hHeld => ?_)
          clear hK K
          try simp only [Act.put, List.setIfInBounds_toArray, List.set_cons_zero, List.set_cons_succ]
          refine wpAnyH_ready (rs := [10]) (by kernel_rfl) (by simp) ?_
          refine AllReadyH.cons (o := ⟨some 43, _, _, _, _, _⟩) rfl (fun K hK => ?_) AllReadyH.nil
          refine step_app rfl (.tmp 39) (.tmp 42) rfl w.heap.size (v2) (zs.length + 1) (((zs.take zs.length).map (.int .i64)) ++ [.int .i64 x]) rfl own2 (if c = zs.length then some ⟨b, 0, none⟩ else some ⟨b, zs.length, none⟩) 0 (c - zs.length) ((zs.drop zs.length).map (.int .i64)) rfl (.inr ⟨if c = zs.length then ⟨b, 0, none⟩ else ⟨b, zs.length, none⟩, by split <;> rfl, by simp, fun j u h => by simp at h⟩) (fun u hu => by obtain ⟨z, _, rfl⟩ := List.mem_map.1 hu; rfl) (by omega) S2 ?_
          intro v3 w3 own3 gr3
          refine hK.out _ _ trivial (fun hHeld => ?_)
          clear hK K
          try simp only [Act.put, List.setIfInBounds_toArray, List.set_cons_zero, List.set_cons_succ]
          refine tkH (i := 11) (oi := ⟨some 4, _, _, _, _, _⟩) (v := ?_) ?_ ?_
          rotate_left
          · intro W hSw
            go_simp
            try (first | with_reducible rfl | exact rfl)
          try simp only [Act.put, List.setIfInBounds_toArray, List.set_cons_zero, List.set_cons_succ]
          refine wpAnyH_done (by kernel_rfl) ?_ _
          go_wp2
          all_goals
            go_ret
            refine ⟨v3, rfl, ?_, B2.grown gr3 S2 (fun j hj => (own2.lt j hj).1)⟩
            rw [HI.out]
            refine lr_own (n := zs.length + 1 + 0) (base := w.heap.size) ?_ (by omega)
            simpa using own3
end Fx
end Go.Proofs.Ytlhncmnhpnhfhaa
