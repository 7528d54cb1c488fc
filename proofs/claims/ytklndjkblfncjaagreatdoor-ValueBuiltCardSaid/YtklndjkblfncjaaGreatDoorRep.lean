/-
  slices.Repeat of a slice of one type.
-/
import Derived.Test.YtklndjkblfncjaaGreatDoorTyW
import Derived.Laws.CopyRow
import Derived.Laws.CopyOwn
namespace Go.Proofs.YtklndjkblfncjaaGreatDoor
open Go Go.RowKit
set_option maxRecDepth 20000

theorem mul64_x (k : Nat) (hk : k ≤ 4) (w : World) : Calls Tryz.prog 81 #[.int .u64 1, .int .u64 k] w fun e w' => e = .returned (.tuple #[.int .u64 0, .int .u64 k]) ∧ w = w' := by
  match k, hk with
  | 0, _ | 1, _ | 2, _ | 3, _ | 4, _ =>
    go_enter Tryz.func81, Tryz.ntmps81
    go_wp2
    go_ret2
    exact ⟨rfl, rfl⟩
theorem mul_x (k : Nat) (hk : k ≤ 4) (w : World) : Calls Tryz.prog 65 #[.int .u64 1, .int .u64 k] w fun e w' => e = .returned (.tuple #[.int .u64 0, .int .u64 k]) ∧ w = w' := by
  have H := Lib.hid (mul64_x k hk w)
  go_enter Tryz.func65, Tryz.ntmps65
  go_wp2_with fail
  refine H.out.mono ?_
  rintro e w' ⟨rfl, rfl⟩
  go_wp2
  go_ret2
  exact ⟨rfl, rfl⟩

theorem run_copy5 {P : Program} (w : World) (dT sT ty elem : TypeId) (g o dLen dCap : Nat) (a : Addr) (sLen sCap sz : Nat) (cur : Array Value) (t : TypeId) (cs : List Value)
    (hu : P.underlying dT = some (.slice elem)) (hs : (P.info? elem).map (·.size) = some sz)
    (hg : w.heap[g]? = some (.cells cur t (0, 0))) (hn : cs.length = Nat.min sLen dLen * sz)
    (hsrc : ∀ j v, cs[j]? = some v → w.cell? (a.add j) = some v) (hfit : o + cs.length ≤ cur.size) (h1 : ∀ v ∈ cs, v.oneCell' = true) :
    (Builtin.copy_ #[dT, sT] ty #[.slice (some ⟨g, o, none⟩) dLen dCap, .slice (some a) sLen sCap]).run P w =
      .ok (goInt (Nat.min sLen dLen)) (w.setRow g (cur.toList.take o ++ cs ++ cur.toList.drop (o + cs.length)).toArray) := by
  have hl := run_firstCells_some (P := P) w sz (Nat.min sLen dLen) a sLen sCap cs hn hsrc
  have hst := run_storeCells_at P g o t cs 0 cur w hg (by simpa using hfit) h1
  cases hq : P.info? elem with
  | none => simp [hq] at hs
  | some i =>
    have hi : i.size = sz := by simpa [hq] using hs
    simp [Builtin.copy_, run_underlying hu, Builtin.lenOf, sizeOf, typeInfo, hq, hi, hl, hst]
theorem step_copy5 {P : Program} {ops : Array Oper} {o : Oper} {a : Act} {w : World} {K : Act → World → Prop} {Q : Exit → Act → World → Prop} {E : Prop} (hgd : o.guard = none) (d s : Operand) (dT sT : TypeId)
    (ho : o.op = .call { callee := .builtin .copy, args := #[d, s], argTypes := #[dT, sT] }) (elem : TypeId) (sz : Nat) (hu : P.underlying dT = some (.slice elem)) (hsz : (P.info? elem).map (·.size) = some sz)
    (g off dLen dCap : Nat) (ad : Addr) (sLen sCap : Nat) (hd : a.eval d = .slice (some ⟨g, off, none⟩) dLen dCap) (hs : a.eval s = .slice (some ad) sLen sCap)
    (cur : Array Value) (t : TypeId) (hg : w.heap[g]? = some (.cells cur t (0, 0))) (cs : List Value) (hn : cs.length = Nat.min sLen dLen * sz)
    (hsrc : ∀ j v, cs[j]? = some v → w.cell? (ad.add j) = some v) (hfit : off + cs.length ≤ cur.size) (h1 : ∀ v ∈ cs, v.oneCell' = true)
    (h : K (a.put o.dst (goInt (Nat.min sLen dLen))) (w.setRow g (cur.toList.take off ++ cs ++ cur.toList.drop (off + cs.length)).toArray)) :
    if Region.wanted o (yielded ops a.tmps) = true then Oper.wp P o a w K Q else E := by
  have hw : Region.wanted o (yielded ops a.tmps) = true := by simp [Region.wanted, hgd]
  rw [if_pos hw]
  have hrun := run_copy5 (P := P) w dT sT o.type elem g off dLen dCap ad sLen sCap sz cur t cs hu hsz hg hn hsrc hfit h1
  unfold Oper.wp execOp
  simp only [ho, resolve, invoke, builtin, Sem.run_bind, Sem.run_pure, Result.andThen_ok, List.map_toArray, List.map_cons, List.map_nil, hd, hs, hrun]
  exact h
theorem info_type : (Tryz.prog.info? 24).map (fun i => (i.zero, i.size, i.bytes)) = some (some (.agg #[.int .i64 0, .int .i64 0, .int .i64 0, .int .i64 0, .slice none 0 0]), 5, 56) := by kernel_rfl
theorem info_value : (Tryz.prog.info? 27).map (fun i => (i.zero, i.size, i.bytes)) = some (some (.agg #[.int .i64 0, .slice none 0 0]), 2, 32) := by kernel_rfl
theorem size_type : (Tryz.prog.info? 24).map (·.size) = some 5 := by kernel_rfl
theorem info_parts {t : TypeId} {z : Value} {n b : Nat} (h : (Tryz.prog.info? t).map (fun i => (i.zero, i.size, i.bytes)) = some (some z, n, b)) :
    ∃ i, Tryz.prog.info? t = some i ∧ i.zero = some z ∧ i.size = n ∧ i.bytes = b := by
  cases hi : Tryz.prog.info? t with
  | none => rw [hi] at h; cases h
  | some i =>
    rw [hi] at h
    simp at h
    exact ⟨i, rfl, h.1, h.2.1, h.2.2⟩

theorem rep_length (x : TyAt) (n : Nat) : (List.replicate n x.cells).flatten.length = n * 5 := by
  induction n with
  | zero => rfl
  | succ n ih => rw [List.replicate_succ, List.flatten_cons, List.length_append, ih]; show 5 + _ = _; omega
theorem rep_add (x : TyAt) (n m : Nat) : (List.replicate (n + m) x.cells).flatten = (List.replicate n x.cells).flatten ++ (List.replicate m x.cells).flatten := by
  induction n with
  | zero => simp
  | succ n ih => rw [Nat.add_right_comm, List.replicate_succ, List.flatten_cons, ih, List.replicate_succ, List.flatten_cons, List.append_assoc]
theorem rep_oneCell (x : TyAt) (n : Nat) : ∀ u ∈ (List.replicate n x.cells).flatten, u.oneCell' = true := by
  intro u hu
  obtain ⟨l, hl, hu⟩ := List.mem_flatten.1 hu
  rw [List.eq_of_mem_replicate hl] at hu
  exact x.oneCell u hu

/-- A block whose first n elements are copies of x, of k in all. -/
def RepAt (W : World) (g n k : Nat) (x : TyAt) : Prop := ∃ rest : List Value, rest.length = (k - n) * 5 ∧ W.heap[g]? = some (.cells ((List.replicate n x.cells).flatten ++ rest).toArray 24 (0, 0))
theorem RepAt.drew {W : World} {g n k : Nat} {x : TyAt} (h : RepAt W g n k x) : RepAt W.drew g n k x := h
/-- m more copies are stored behind the first n. -/
theorem rep_put {W : World} {g n k m : Nat} {x : TyAt} {rest : List Value} (hr : rest.length = (k - n) * 5) (_ : n + m ≤ k) (hg : W.heap[g]? = some (.cells ((List.replicate n x.cells).flatten ++ rest).toArray 24 (0, 0))) :
    RepAt (W.setRow g ((((List.replicate n x.cells).flatten ++ rest).toArray.toList.take (n * 5) ++ (List.replicate m x.cells).flatten ++ ((List.replicate n x.cells).flatten ++ rest).toArray.toList.drop (n * 5 + (List.replicate m x.cells).flatten.length))).toArray) g (n + m) k x := by
  refine ⟨rest.drop (m * 5), by rw [List.length_drop, hr, ← Nat.sub_mul]; congr 1; omega, ?_⟩
  rw [setRow_heap W g _ _ 24 _ hg, rep_add, rep_length]
  have h1 : ((List.replicate n x.cells).flatten ++ rest).take (n * 5) = (List.replicate n x.cells).flatten := by rw [← rep_length x n]; exact List.take_left
  have h2 : ((List.replicate n x.cells).flatten ++ rest).drop (n * 5 + m * 5) = rest.drop (m * 5) := by
    rw [← List.drop_drop, ← rep_length x n, List.drop_left]
  simp only [h1, h2]
theorem RepAt.cells {W : World} {g n k : Nat} {x : TyAt} (h : RepAt W g n k x) : ∀ j v, ((List.replicate n x.cells).flatten)[j]? = some v → W.cell? ((⟨g, 0, none⟩ : Addr).add j) = some v := by
  obtain ⟨rest, _, hg⟩ := h
  intro j v hj
  rw [add_plain, Nat.zero_add, cell_of_row W g j _ _ _ hg]
  have hlt : j < (List.replicate n x.cells).flatten.length := by
    rcases Nat.lt_or_ge j (List.replicate n x.cells).flatten.length with h | h
    · exact h
    · rw [List.getElem?_eq_none h] at hj; cases hj
  simp only [List.getElem?_toArray]
  rw [List.getElem?_append_left hlt]; exact hj

set_option maxHeartbeats 4000000 in
theorem rep_x (k : Nat) (hk : k ≤ 4) (S : Nat → Prop) (d : Nat) (x : Ty) (A : Option Addr) (c : Nat) (w : World) (h : TyRd S w (d + 1) (.mk 0 0 0 0 [x]) A 1 c) :
    Calls Tryz.prog 51 #[.slice A 1 c, .int .i64 k] w fun e w' => ∃ B q, e = .returned (.slice B k q) ∧ TyRd (fun b => S b ∨ w.heap.size ≤ b) w' (d + 1) (.mk 0 0 0 0 (List.replicate k x)) B k q ∧ Below w.heap.size w w' := by
  obtain ⟨i0, hi, hz0, hz1, hz2⟩ := info_parts info_type
  have HM := Lib.hid (mul_x k (by omega) w)
  obtain ⟨hl, hcap, htop⟩ := h.len
  obtain ⟨e, g, o, A', n', c', he, rfl, hSg, hg, hc, hr⟩ := h.get (i := 0) (by omega)
  obtain rfl : e = x := by simpa [Ty.es] using he.symm
  obtain ⟨X, hX⟩ : ∃ X : TyAt, X = ⟨e, A', n', c'⟩ := ⟨_, rfl⟩
  have HS := Lib.hid hSg
  have HR : Hid (TyRd S w d X.T X.A X.n X.c) := by rw [hX]; exact hr
  have HXT : Hid (X.T = e) := by rw [hX]; rfl
  have HSRC : Hid (∀ W, Below w.heap.size w W → ∀ j v, X.cells[j]? = some v → W.cell? ((⟨g, o, none⟩ : Addr).add j) = some v) := by
    intro W hW j v hj
    have hcw := hc.keep (hW.block g hg)
    obtain ⟨c0, c1, c2, c3, c4⟩ := hcw
    rw [add_plain]
    rw [hX] at hj
    simp only [Nat.zero_mul, Nat.add_zero] at c0 c1 c2 c3 c4
    match j, hj with
    | 0, hj | 1, hj | 2, hj | 3, hj | 4, hj => simp [TyAt.cells] at hj; rw [← hj]; assumption
    | j + 5, hj => simp [TyAt.cells] at hj
  clear h hl hr hc he hX hSg
  go_enter Tryz.func51, Tryz.ntmps51
  go_wp2_with fail
  refine HM.out.mono ?_
  rintro e1 w' ⟨rfl, rfl⟩
  clear HM
  go_wp2_with (at_make; refine wpList_make_full _ rfl _ _ 22 rfl w.heap.size 24 i0 (.agg #[.int .i64 0, .int .i64 0, .int .i64 0, .int .i64 0, .slice none 0 0]) 5 Tryz.underlying22 hi hz0 hz1 _ _ _ _ k rfl rfl ?b0 ?b1 ?b2 ?b3 (Nat.le_refl _) ?_)
  case b0 => rfl
  case b1 => rfl
  case b2 => rw [hz2]; omega
  case b3 => unfold maxLen; omega
  intro w0 hown hgrow
  have hB0 := below_of_grown hgrow
  have HOWN := Lib.hid hown
  clear hown hgrow
  go_wp2_with fail
  obtain ⟨_, h0 | ⟨g0, cap, cur, hv, _, hgc, _, _, hsz, _⟩⟩ := HOWN.out
  · exact absurd h0.1 (by simp)
  injection hv with hv1 _ hv2
  injection hv1 with hv1
  injection hv1 with hv1
  subst hv1
  subst hv2
  have hmin : Nat.min 1 k * 5 = (List.replicate (min 1 k) X.cells).flatten.length := by rw [rep_length]
  rw [run_copy5 w0 _ _ _ 24 _ _ _ _ _ _ _ 5 cur 24 (List.replicate (min 1 k) X.cells).flatten Tryz.underlying22 size_type hgc hmin.symm ?src ?fit (rep_oneCell X _)]
  case fit => rw [rep_length, hsz]; omega
  case src =>
    intro j v hj
    have h1 : min 1 k = 1 ∨ min 1 k = 0 := by omega
    rcases h1 with h1 | h1
    · rw [h1] at hj
      exact HSRC.out w0 hB0 j v (by simpa using hj)
    · rw [h1] at hj; cases hj
  have hput : RepAt (w0.setRow w.heap.size (List.take 0 cur.toList ++ (List.replicate (min 1 k) X.cells).flatten ++ List.drop (0 + (List.replicate (min 1 k) X.cells).flatten.length) cur.toList).toArray) w.heap.size (min 1 k) k X := by
    have := rep_put (W := w0) (g := w.heap.size) (n := 0) (k := k) (m := min 1 k) (x := X) (rest := cur.toList) (by rw [Array.length_toList, hsz]; simp) (by omega) (by simpa using hgc)
    simpa using this
  have hB1 : Below w.heap.size w (w0.setRow w.heap.size (List.take 0 cur.toList ++ (List.replicate (min 1 k) X.cells).flatten ++ List.drop (0 + (List.replicate (min 1 k) X.cells).flatten.length) cur.toList).toArray) := below_setRow hB0 (Nat.le_refl _) _
  generalize w0.setRow w.heap.size (List.take 0 cur.toList ++ (List.replicate (min 1 k) X.cells).flatten ++ List.drop (0 + (List.replicate (min 1 k) X.cells).flatten.length) cur.toList).toArray = w1 at hput hB1 ⊢
  obtain ⟨n1, hn1⟩ : ∃ n1, Nat.min 1 k = n1 := ⟨_, rfl⟩
  have hn2 : n1 ≤ k ∧ (1 ≤ n1 ∨ k = 0) := by have : min 1 k = n1 := hn1; omega
  have HPUT : Hid (RepAt w1 w.heap.size n1 k X) := by rw [← hn1]; exact hput
  rw [hn1, Result.andThen_ok]
  have HB1 := Lib.hid hB1
  clear hput hB1 hgc hsz hmin HOWN hB0 hn1
  go_wp2
  go_loopw [8] (fun nv wr => ∃ n : Nat, nv = .int .i64 n ∧ (n ≤ k ∧ (1 ≤ n ∨ k = 0)) ∧ Hid (RepAt wr w.heap.size n k X) ∧ Hid (Below w.heap.size w wr)) (fun nv _ => k - (intOf nv).toNat)
  case atStart => exact ⟨n1, rfl, hn2, HPUT, HB1⟩
  case round =>
    obtain ⟨n, rfl, ⟨hnk, hn0⟩, HP, HB⟩ := hrel
    clear hn2 HPUT HB1
    by_cases hlt : n < k
    · have hn1 : 1 ≤ n := by omega
      have l1 : (n : Int) < k := by omega
      have l2 : (0 : Int) ≤ n := by omega
      have l3 : (n : Int) ≤ k := by omega
      obtain ⟨rest, hrl, hrow⟩ := HP.out
      have HROW : Hid (wr.drew.heap[w.heap.size]? = some (.cells ((List.replicate n X.cells).flatten ++ rest).toArray 24 (0, 0))) := hrow
      have HSR : Hid (∀ j v, ((List.replicate (min n (k - n)) X.cells).flatten)[j]? = some v → wr.drew.cell? ((⟨w.heap.size, 0, none⟩ : Addr).add j) = some v) := by
        intro j v hj
        refine HP.out.drew.cells j v ?_
        have e : (List.replicate n X.cells).flatten = (List.replicate (min n (k - n)) X.cells).flatten ++ (List.replicate (n - min n (k - n)) X.cells).flatten := by rw [← rep_add]; congr 2; omega
        have hlt : j < (List.replicate (min n (k - n)) X.cells).flatten.length := by
          rcases Nat.lt_or_ge j (List.replicate (min n (k - n)) X.cells).flatten.length with h | h
          · exact h
          · rw [List.getElem?_eq_none h] at hj; cases hj
        rw [e, List.getElem?_append_left hlt]; exact hj
      have HFT : Hid (n * 5 + (List.replicate (min n (k - n)) X.cells).flatten.length ≤ ((List.replicate n X.cells).flatten ++ rest).toArray.size) := by
        show _ ≤ _
        rw [rep_length, List.size_toArray, List.length_append, rep_length, hrl]; omega
      have HPT : Hid (RepAt (wr.drew.setRow w.heap.size (((List.replicate n X.cells).flatten ++ rest).toArray.toList.take (n * 5) ++ (List.replicate (min n (k - n)) X.cells).flatten ++ ((List.replicate n X.cells).flatten ++ rest).toArray.toList.drop (n * 5 + (List.replicate (min n (k - n)) X.cells).flatten.length)).toArray) w.heap.size (n + min n (k - n)) k X) := rep_put hrl (by omega) hrow
      have HBB : Hid (Below w.heap.size w (wr.drew.setRow w.heap.size (((List.replicate n X.cells).flatten ++ rest).toArray.toList.take (n * 5) ++ (List.replicate (min n (k - n)) X.cells).flatten ++ ((List.replicate n X.cells).flatten ++ rest).toArray.toList.drop (n * 5 + (List.replicate (min n (k - n)) X.cells).flatten.length)).toArray)) := below_setRow HB.out.drew (Nat.le_refl _) _
      clear hn0 hrow HP HB hrl
      have hne : ¬ k = n := by omega
      go_wp2_with fail
      refine wp_region_held_drew (S := fun _ => True) (by kernel_rfl) ?_ (fun hHeld => ?_)
      · trivial
      refine tkH (i := 0) (oi := ⟨some 38, _, _, _, _, _⟩) (v := ?_) ?_ ?_
      rotate_left
      · intro w hSw; go_simp; try with_reducible rfl
      try simp only [Act.put, List.setIfInBounds_toArray, List.set_cons_zero, List.set_cons_succ]
      refine tkH (i := 1) (oi := ⟨some 39, _, _, _, _, _⟩) (v := ?_) ?_ ?_
      rotate_left
      · intro w hSw; go_simp; try with_reducible rfl
      try simp only [Act.put, List.setIfInBounds_toArray, List.set_cons_zero, List.set_cons_succ]
      refine tkH (i := 2) (oi := ⟨some 40, _, _, _, _, _⟩) (v := ?_) ?_ ?_
      rotate_left
      · intro w hSw; go_simp; try with_reducible rfl
      try simp only [Act.put, List.setIfInBounds_toArray, List.set_cons_zero, List.set_cons_succ]
      refine tkH (i := 3) (oi := ⟨some 41, _, _, _, _, _⟩) (v := ?_) ?_ ?_
      rotate_left
      · intro w hSw; go_simp; try with_reducible rfl
      try simp only [Act.put, List.setIfInBounds_toArray, List.set_cons_zero, List.set_cons_succ]
      refine tkH (i := 4) (oi := ⟨some 42, _, _, _, _, _⟩) (v := ?_) ?_ ?_
      rotate_left
      · intro w hSw; go_simp; try with_reducible rfl
      try simp only [Act.put, List.setIfInBounds_toArray, List.set_cons_zero, List.set_cons_succ]
      refine tkH (i := 5) (oi := ⟨some 43, _, _, _, _, _⟩) (v := ?_) ?_ ?_
      rotate_left
      · intro w hSw; go_simp; try with_reducible rfl
      try simp only [Act.put, List.setIfInBounds_toArray, List.set_cons_zero, List.set_cons_succ]
      refine tkH (i := 6) (oi := ⟨some 44, _, _, _, _, _⟩) (v := ?_) ?_ ?_
      rotate_left
      · intro w hSw; go_simp; try with_reducible rfl
      try simp only [Act.put, List.setIfInBounds_toArray, List.set_cons_zero, List.set_cons_succ]
      refine wpAnyH_ready (rs := [7]) (by kernel_rfl) (by simp) ?_
      refine AllReadyH.cons (o := ⟨some 45, _, _, _, _, _⟩) rfl (fun K hK => ?_) AllReadyH.nil
      refine step_copy5 rfl (.tmp 41) (.tmp 44) 22 22 rfl 24 5 Tryz.underlying22 size_type w.heap.size (n * 5) (k - n) (k - n) ⟨w.heap.size, 0, none⟩ n k rfl rfl _ 24 HROW.out (List.replicate (min n (k - n)) X.cells).flatten ?len ?src ?fit (rep_oneCell X _) ?_
      case len => rw [rep_length]
      case src => exact HSR.out
      case fit => exact HFT.out
      refine hK.out _ _ trivial (fun hHeld => ?_)
      clear hK K
      try simp only [Act.put, List.setIfInBounds_toArray, List.set_cons_zero, List.set_cons_succ]
      refine tkH (i := 8) (oi := ⟨some 46, _, _, _, _, _⟩) (v := ?_) ?_ ?_
      rotate_left
      · intro w hSw; go_simp; try with_reducible rfl
      try simp only [Act.put, List.setIfInBounds_toArray, List.set_cons_zero, List.set_cons_succ]
      refine tkH (i := 9) (oi := ⟨some 8, _, _, _, _, _⟩) (v := ?_) ?_ ?_
      rotate_left
      · intro w hSw; go_simp; try with_reducible rfl
      try simp only [Act.put, List.setIfInBounds_toArray, List.set_cons_zero, List.set_cons_succ]
      refine wpAnyH_done (by kernel_rfl) ?_ _
      have eW : IntKind.i64.wrap ((n : Int) + ((Nat.min n (k - n) : Nat) : Int)) = ((n + min n (k - n) : Nat) : Int) := by
        have : Nat.min n (k - n) = min n (k - n) := rfl
        rw [IntKind.wrap_i64, this]; omega
      rw [eW]
      clear hHeld
      go_roundw
      case rel => exact ⟨_, _, _, _, _, _, _, _, _, _, _, _, _, _, ⟨n + min n (k - n), rfl, by omega, HPT.out, HBB.out⟩, rfl⟩
      case measure => simp [intOf] <;> omega
    · obtain rfl : n = k := by omega
      go_wp2
      go_ret
      refine ⟨_, _, rfl, ?_, HB.out⟩
      have hT := HXT.out
      subst hT
      refine ⟨⟨by simp [Ty.es], Nat.le_refl _, by unfold maxLen; omega⟩, fun i e' he' => ?_⟩
      have hlt : i < n := by
        rcases Nat.lt_or_ge i n with h | h
        · exact h
        · simp only [Ty.es] at he'; rw [List.getElem?_eq_none (by rw [List.length_replicate]; exact h)] at he'; cases he'
      have hx : (List.replicate n X)[i]? = some X := by rw [List.getElem?_replicate, if_pos hlt]
      obtain rfl : e' = X.T := by
        simp only [Ty.es] at he'
        rw [List.getElem?_replicate, if_pos hlt] at he'
        injection he' with he'; exact he'.symm
      have key : ∀ j v, j < 5 → X.cells[j]? = some v → wr.cell? ⟨w.heap.size, i * 5 + j, none⟩ = some v := fun j v hj hv => by
        have h1 := flat_get TyAt.cells 5 (fun _ => rfl) (List.replicate n X) i j X hx hj
        rw [List.map_replicate] at h1
        have h2 := HP.out.cells (i * 5 + j) v (h1.trans hv)
        rwa [add_plain, Nat.zero_add] at h2
      obtain ⟨rest, _, hrow⟩ := HP.out
      refine ⟨w.heap.size, 0, X.A, X.n, X.c, rfl, Or.inr (Nat.le_refl _), (Array.getElem?_eq_some_iff.1 hrow).1, ?_, (HR.out.below HB.out).in fun _ hb => Or.inl hb⟩
      rw [Nat.zero_add]
      exact ⟨key 0 _ (by omega) rfl, key 1 _ (by omega) rfl, key 2 _ (by omega) rfl, key 3 _ (by omega) rfl, key 4 _ (by omega) rfl⟩
end Go.Proofs.YtklndjkblfncjaaGreatDoor
