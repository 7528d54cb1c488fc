/-
  Package types on valid types: cell, Equal with an empty type, unusedFault, rangeFault, tupleFault, listFault, fault: no fault is found.
-/
import Derived.Test.YtklndjkblfncjaaDoorTyRd
import Derived.Deep.RegionHeld3
import Derived.Deep.RegionWith
import Derived.Deep.DeepCutAuto
import Derived.Deep.CutBlock
import Derived.Laws.StructEq
namespace Go.Proofs.YtklndjkblfncjaaDoor
open Go Go.RowKit
set_option maxRecDepth 20000

/-- An operation of a drawn region that yields its value in every world of S; one whose guard does not come up. -/
theorem tkH {P : Program} {md : Region.Mode} {ops : Array Oper} {Q : Exit → Act → World → Prop} {S : World → Prop} {i : Nat} {oi : Oper} {v : Value} {fuel : Nat} {listed : Array Bool} {a : Act} {w : World}
    (hy : ∀ w, S w → (execOp a.eval oi).run P w = .ok (.value v) w) (h : wpAnyH P md ops Q S fuel (listed.setIfInBounds i true) (a.put oi.dst v) w) (hS : S w := by assumption) (hi : ops[i]? = some oi := by rfl) (hg : Region.wanted oi (yielded ops a.tmps) = true := by rfl)
    (hs : Region.noSelect ops = true := by kernel_rfl) (hf : Region.free md ops listed i = true := by kernel_rfl) (hr : (Region.ready md ops listed).contains i = true := by kernel_rfl) (hQ : ∀ c a w, Q (.panic c) (a.put oi.dst v) w → Q (.panic c) a w := by exact fun _ _ _ h => h) : wpAnyH P md ops Q S (fuel + 1) listed a w :=
  wpAnyH_take hi hs hf hr hQ (.inl ⟨hg, hy⟩) hS h
theorem tkU {P : Program} {md : Region.Mode} {ops : Array Oper} {Q : Exit → Act → World → Prop} {S : World → Prop} {i : Nat} {oi : Oper} {fuel : Nat} {listed : Array Bool} {a : Act} {w : World}
    (h : wpAnyH P md ops Q S fuel (listed.setIfInBounds i true) (a.put oi.dst undef) w) (hS : S w := by assumption) (hi : ops[i]? = some oi := by rfl) (hg : Region.wanted oi (yielded ops a.tmps) = false := by rfl)
    (hs : Region.noSelect ops = true := by kernel_rfl) (hf : Region.free md ops listed i = true := by kernel_rfl) (hr : (Region.ready md ops listed).contains i = true := by kernel_rfl) (hQ : ∀ c a w, Q (.panic c) (a.put oi.dst undef) w → Q (.panic c) a w := by exact fun _ _ _ h => h) : wpAnyH P md ops Q S (fuel + 1) listed a w :=
  wpAnyH_take hi hs hf hr hQ (.inr ⟨hg, rfl⟩) hS h

/-- A type's struct as a value. -/
@[reducible] def tyV (T : Ty) (A : Option Addr) (n c : Nat) : Value := .agg #[.int .i64 T.k, .int .i64 T.lo, .int .i64 T.hi, .int .i64 T.mx, .slice A n c]
@[reducible] def vlV (V : Vl) (A : Option Addr) (n c : Nat) : Value := .agg #[.int .i64 V.i, .slice A n c]

theorem cell_x (k lo hi mx : Int) (A : Option Addr) (n c : Nat) (w : World) :
    Calls Tryd.prog 53 #[.agg #[.int .i64 k, .int .i64 lo, .int .i64 hi, .int .i64 mx, .slice A n c]] w fun e w' => e = .returned (.agg #[.int .i64 k, .int .i64 lo, .int .i64 hi]) ∧ Below w.heap.size w w' := by
  go_enter Tryd.func53, Tryd.ntmps53
  go_wp2
  refine bodyPost_ret (v := .agg #[.int .i64 k, .int .i64 lo, .int .i64 hi]) (by simp [results, Tryd.results53, go_sem]) rfl ⟨rfl, ?_⟩
  exact ((Below.refl _ _).alloc (Nat.le_refl _) _).alloc (by simp) _

theorem equalNil_x (A : Option Addr) (c : Nat) (f : Value) (w : World) :
    Calls Tryd.prog 81 #[.slice A 0 c, .slice none 0 0, f] w fun e w' => e = .returned (.bool true) ∧ w = w' := by
  go_enter Tryd.func81, Tryd.ntmps81
  go_wp2
  refine wp_loop_rounds 1 ?_
  rw [rounds_succ]
  go_wp2
  go_ret
  exact ⟨rfl, rfl⟩

theorem eqCell (x y z : Int) (w : World) : (Op.equalIn 10000 81 (.agg #[.int .i64 x, .int .i64 y, .int .i64 z]) (.agg #[.int .i64 x, .int .i64 y, .int .i64 z])).run Tryd.prog w = .ok true w := by
  have hS : Tryd.prog.underlying 81 = some (.struct (Tryd.prog.fieldsOf 81)) := by kernel_rfl
  have hp : Tryd.prog.stoodInHeld 81 = false := by kernel_rfl
  rw [show (10000 : Nat) = 9999 + 1 from rfl, run_equalIn_struct w 9999 81 _ _ hS hp]
  simp only [Program.fieldsOf, Tryd.underlying81]
  go_simp
  try simp

/-- Five cells of a box. -/
def Box5 (W : World) (b : Nat) (x0 x1 x2 x3 x4 : Value) : Prop := W.cell? ⟨b, 0, none⟩ = some x0 ∧ W.cell? ⟨b, 1, none⟩ = some x1 ∧ W.cell? ⟨b, 2, none⟩ = some x2 ∧ W.cell? ⟨b, 3, none⟩ = some x3 ∧ W.cell? ⟨b, 4, none⟩ = some x4
theorem box5_new (w : World) (x0 x1 x2 x3 x4 : Value) (t : TypeId) : Box5 (w.alloc (.cells #[x0, x1, x2, x3, x4] t)) w.heap.size x0 x1 x2 x3 x4 := by
  unfold Box5
  simp only [World.cell?_alloc_new]
  exact ⟨rfl, rfl, rfl, rfl, rfl⟩
theorem Box5.below {w W : World} {b : Nat} {x0 x1 x2 x3 x4 : Value} (h : Box5 w b x0 x1 x2 x3 x4) (hb : Below w.heap.size w W) (hl : b < w.heap.size) : Box5 W b x0 x1 x2 x3 x4 := by
  have hc : ∀ j, W.cell? ⟨b, j, none⟩ = w.cell? ⟨b, j, none⟩ := fun j => World.cell?_of_block (w := w) (a := ⟨b, j, none⟩) (hb.block b hl)
  obtain ⟨h0, h1, h2, h3, h4⟩ := h
  exact ⟨(hc _).trans h0, (hc _).trans h1, (hc _).trans h2, (hc _).trans h3, (hc _).trans h4⟩

set_option maxHeartbeats 4000000 in
/-- A type of the kind alone equals the empty type of the kind. -/
theorem equal_x (k : Int) (A : Option Addr) (c : Nat) (w : World) :
    Calls Tryd.prog 73 #[.agg #[.int .i64 k, .int .i64 0, .int .i64 0, .int .i64 0, .slice A 0 c], .agg #[.int .i64 k, .int .i64 0, .int .i64 0, .int .i64 0, .slice none 0 0]] w fun e w' => e = .returned (.bool true) ∧ Below w.heap.size w w' := by
  obtain ⟨v, hv⟩ : ∃ v, (w.alloc (.cells #[.int .i64 k, .int .i64 0, .int .i64 0, .int .i64 0, .slice A 0 c] 27)).alloc (.cells #[.int .i64 k, .int .i64 0, .int .i64 0, .int .i64 0, .slice none 0 0] 27) = v := ⟨_, rfl⟩
  have hS : Hid (∀ W, Below v.heap.size v W → Box5 W w.heap.size (.int .i64 k) (.int .i64 0) (.int .i64 0) (.int .i64 0) (.slice A 0 c) ∧ Box5 W (w.heap.size + 1) (.int .i64 k) (.int .i64 0) (.int .i64 0) (.int .i64 0) (.slice none 0 0)) := by
    intro W hW
    have h1 := (box5_new w (.int .i64 k) (.int .i64 0) (.int .i64 0) (.int .i64 0) (.slice A 0 c) 27).below (allocB _ (.cells #[.int .i64 k, .int .i64 0, .int .i64 0, .int .i64 0, .slice none 0 0] 27)) (by simp)
    have h2 := box5_new (w.alloc (.cells #[.int .i64 k, .int .i64 0, .int .i64 0, .int .i64 0, .slice A 0 c] 27)) (.int .i64 k) (.int .i64 0) (.int .i64 0) (.int .i64 0) (.slice none 0 0) 27
    rw [hv] at h1 h2
    rw [World.size_alloc] at h2
    exact ⟨h1.below hW (by rw [← hv]; simp; omega), h2.below hW (by rw [← hv]; simp)⟩
  have hwv : Below w.heap.size w v := by rw [← hv]; exact ((Below.refl _ _).alloc (Nat.le_refl _) _).alloc (by simp) _
  have HE : Hid (∀ W, (Op.equalIn 10000 81 (.agg #[.int .i64 k, .int .i64 0, .int .i64 0]) (.agg #[.int .i64 k, .int .i64 0, .int .i64 0])).run Tryd.prog W = .ok true W) := eqCell k 0 0
  have HV := Lib.hid hv
  clear hv
  go_enter Tryd.func73, Tryd.ntmps73
  go_wp2_with fail
  rw [HV.out]
  have hk := (Below.refl v.heap.size v).drew
  refine wp_region_held_drew (S := fun W => Below v.heap.size v W) (by kernel_rfl) ?_ (fun hHeld => ?_)
  · exact hk
  refine tkH (i := 0) (oi := ⟨some 5, _, _, _, _, _⟩) (v := ?_) ?_ ?_
  rotate_left
  · intro w hSw
    obtain ⟨⟨p0, p1, p2, p3, p4⟩, ⟨q0, q1, q2, q3, q4⟩⟩ := hS.out w hSw
    go_simp
    try with_reducible rfl
  try simp only [Act.put, List.setIfInBounds_toArray, List.set_cons_zero, List.set_cons_succ]
  refine tkH (i := 2) (oi := ⟨some 7, _, _, _, _, _⟩) (v := ?_) ?_ ?_
  rotate_left
  · intro w hSw
    obtain ⟨⟨p0, p1, p2, p3, p4⟩, ⟨q0, q1, q2, q3, q4⟩⟩ := hS.out w hSw
    go_simp
    try with_reducible rfl
  try simp only [Act.put, List.setIfInBounds_toArray, List.set_cons_zero, List.set_cons_succ]
  refine wpAnyH_ready (rs := [1]) (by kernel_rfl) (by simp) ?_
  refine AllReadyH.cons (o := ⟨some 6, _, _, _, _, _⟩) rfl (fun K hK => ?_) AllReadyH.nil
  go_simp
  go_at_call 53
  refine (cell_x _ _ _ _ _ _ _ _).mono ?_
  rintro e w' ⟨rfl, e1⟩
  replace hk := nextB hk e1
  go_wp2_with fail
  refine hK.out _ _ hk (fun hHeld => ?_)
  clear hK K
  try simp only [Act.put, List.setIfInBounds_toArray, List.set_cons_zero, List.set_cons_succ]
  refine wpAnyH_ready (rs := [3]) (by kernel_rfl) (by simp) ?_
  refine AllReadyH.cons (o := ⟨some 8, _, _, _, _, _⟩) rfl (fun K hK => ?_) AllReadyH.nil
  go_simp
  go_at_call 53
  refine (cell_x _ _ _ _ _ _ _ _).mono ?_
  rintro e w' ⟨rfl, e2⟩
  replace hk := nextB hk e2
  go_wp2_with fail
  refine hK.out _ _ hk (fun hHeld => ?_)
  clear hK K
  try simp only [Act.put, List.setIfInBounds_toArray, List.set_cons_zero, List.set_cons_succ]
  refine tkH (i := 4) (oi := ⟨some 9, _, _, _, _, _⟩) (v := ?_) ?_ ?_
  rotate_left
  · intro w hSw
    obtain ⟨⟨p0, p1, p2, p3, p4⟩, ⟨q0, q1, q2, q3, q4⟩⟩ := hS.out w hSw
    go_simp
    try rw [HE.out]
    try go_simp
    try with_reducible rfl
  try simp only [Act.put, List.setIfInBounds_toArray, List.set_cons_zero, List.set_cons_succ]
  refine tkH (i := 5) (oi := ⟨some 10, _, _, _, _, _⟩) (v := ?_) ?_ ?_
  rotate_left
  · intro w hSw
    obtain ⟨⟨p0, p1, p2, p3, p4⟩, ⟨q0, q1, q2, q3, q4⟩⟩ := hS.out w hSw
    go_simp
    try with_reducible rfl
  try simp only [Act.put, List.setIfInBounds_toArray, List.set_cons_zero, List.set_cons_succ]
  refine tkH (i := 6) (oi := ⟨some 11, _, _, _, _, _⟩) (v := ?_) ?_ ?_
  rotate_left
  · intro w hSw
    obtain ⟨⟨p0, p1, p2, p3, p4⟩, ⟨q0, q1, q2, q3, q4⟩⟩ := hS.out w hSw
    go_simp
    try with_reducible rfl
  try simp only [Act.put, List.setIfInBounds_toArray, List.set_cons_zero, List.set_cons_succ]
  refine tkH (i := 7) (oi := ⟨some 12, _, _, _, _, _⟩) (v := ?_) ?_ ?_
  rotate_left
  · intro w hSw
    obtain ⟨⟨p0, p1, p2, p3, p4⟩, ⟨q0, q1, q2, q3, q4⟩⟩ := hS.out w hSw
    go_simp
    try with_reducible rfl
  try simp only [Act.put, List.setIfInBounds_toArray, List.set_cons_zero, List.set_cons_succ]
  refine tkH (i := 8) (oi := ⟨some 13, _, _, _, _, _⟩) (v := ?_) ?_ ?_
  rotate_left
  · intro w hSw
    obtain ⟨⟨p0, p1, p2, p3, p4⟩, ⟨q0, q1, q2, q3, q4⟩⟩ := hS.out w hSw
    go_simp
    try with_reducible rfl
  try simp only [Act.put, List.setIfInBounds_toArray, List.set_cons_zero, List.set_cons_succ]
  refine tkH (i := 9) (oi := ⟨some 14, _, _, _, _, _⟩) (v := ?_) ?_ ?_
  rotate_left
  · intro w hSw
    obtain ⟨⟨p0, p1, p2, p3, p4⟩, ⟨q0, q1, q2, q3, q4⟩⟩ := hS.out w hSw
    go_simp
    try with_reducible rfl
  try simp only [Act.put, List.setIfInBounds_toArray, List.set_cons_zero, List.set_cons_succ]
  refine tkH (i := 10) (oi := ⟨some 15, _, _, _, _, _⟩) (v := ?_) ?_ ?_
  rotate_left
  · intro w hSw
    obtain ⟨⟨p0, p1, p2, p3, p4⟩, ⟨q0, q1, q2, q3, q4⟩⟩ := hS.out w hSw
    go_simp
    try with_reducible rfl
  try simp only [Act.put, List.setIfInBounds_toArray, List.set_cons_zero, List.set_cons_succ]
  refine tkH (i := 11) (oi := ⟨some 16, _, _, _, _, _⟩) (v := ?_) ?_ ?_
  rotate_left
  · intro w hSw
    obtain ⟨⟨p0, p1, p2, p3, p4⟩, ⟨q0, q1, q2, q3, q4⟩⟩ := hS.out w hSw
    go_simp
    try with_reducible rfl
  try simp only [Act.put, List.setIfInBounds_toArray, List.set_cons_zero, List.set_cons_succ]
  refine tkH (i := 12) (oi := ⟨some 17, _, _, _, _, _⟩) (v := ?_) ?_ ?_
  rotate_left
  · intro w hSw
    obtain ⟨⟨p0, p1, p2, p3, p4⟩, ⟨q0, q1, q2, q3, q4⟩⟩ := hS.out w hSw
    go_simp
    try with_reducible rfl
  try simp only [Act.put, List.setIfInBounds_toArray, List.set_cons_zero, List.set_cons_succ]
  refine tkH (i := 13) (oi := ⟨some 18, _, _, _, _, _⟩) (v := ?_) ?_ ?_
  rotate_left
  · intro w hSw
    obtain ⟨⟨p0, p1, p2, p3, p4⟩, ⟨q0, q1, q2, q3, q4⟩⟩ := hS.out w hSw
    go_simp
    try with_reducible rfl
  try simp only [Act.put, List.setIfInBounds_toArray, List.set_cons_zero, List.set_cons_succ]
  refine tkH (i := 14) (oi := ⟨some 19, _, _, _, _, _⟩) (v := ?_) ?_ ?_
  rotate_left
  · intro w hSw
    obtain ⟨⟨p0, p1, p2, p3, p4⟩, ⟨q0, q1, q2, q3, q4⟩⟩ := hS.out w hSw
    go_simp
    try with_reducible rfl
  try simp only [Act.put, List.setIfInBounds_toArray, List.set_cons_zero, List.set_cons_succ]
  refine tkH (i := 15) (oi := ⟨some 20, _, _, _, _, _⟩) (v := ?_) ?_ ?_
  rotate_left
  · intro w hSw
    obtain ⟨⟨p0, p1, p2, p3, p4⟩, ⟨q0, q1, q2, q3, q4⟩⟩ := hS.out w hSw
    go_simp
    try with_reducible rfl
  try simp only [Act.put, List.setIfInBounds_toArray, List.set_cons_zero, List.set_cons_succ]
  refine tkH (i := 16) (oi := ⟨some 21, _, _, _, _, _⟩) (v := ?_) ?_ ?_
  rotate_left
  · intro w hSw
    obtain ⟨⟨p0, p1, p2, p3, p4⟩, ⟨q0, q1, q2, q3, q4⟩⟩ := hS.out w hSw
    go_simp
    try with_reducible rfl
  try simp only [Act.put, List.setIfInBounds_toArray, List.set_cons_zero, List.set_cons_succ]
  refine wpAnyH_ready (rs := [17]) (by kernel_rfl) (by simp) ?_
  refine AllReadyH.cons (o := ⟨some 22, _, _, _, _, _⟩) rfl (fun K hK => ?_) AllReadyH.nil
  go_simp
  go_at_call 81
  refine (equalNil_x _ _ _ _).mono ?_
  rintro e w' ⟨rfl, rfl⟩
  go_wp2_with fail
  refine hK.out _ _ hk (fun hHeld => ?_)
  clear hK K
  try simp only [Act.put, List.setIfInBounds_toArray, List.set_cons_zero, List.set_cons_succ]
  refine tkH (i := 18) (oi := ⟨some 23, _, _, _, _, _⟩) (v := ?_) ?_ ?_
  rotate_left
  · intro w hSw
    obtain ⟨⟨p0, p1, p2, p3, p4⟩, ⟨q0, q1, q2, q3, q4⟩⟩ := hS.out w hSw
    go_simp
    try with_reducible rfl
  try simp only [Act.put, List.setIfInBounds_toArray, List.set_cons_zero, List.set_cons_succ]
  refine tkH (i := 19) (oi := ⟨some 4, _, _, _, _, _⟩) (v := ?_) ?_ ?_
  rotate_left
  · intro w hSw
    obtain ⟨⟨p0, p1, p2, p3, p4⟩, ⟨q0, q1, q2, q3, q4⟩⟩ := hS.out w hSw
    go_simp
    try with_reducible rfl
  try simp only [Act.put, List.setIfInBounds_toArray, List.set_cons_zero, List.set_cons_succ]
  refine wpAnyH_done (by kernel_rfl) ?_ _
  go_wp2
  go_ret
  exact ⟨rfl, nextB hwv hk⟩

/-- Nothing was found; what was there before is as it was. -/
def Fine (w : World) (e : Ending) (w' : World) : Prop := e = .returned (.int .i64 0) ∧ Below w.heap.size w w'

set_option maxHeartbeats 4000000 in
theorem unused_x (T : Ty) (A : Option Addr) (n c : Nat) (w : World) (h : tunused T = 0) (hn : T.es.length = n) :
    Calls Tryd.prog 62 #[tyV T A n c] w (Fine w) := by
  obtain ⟨k, lo, hi, mx, es⟩ := T
  unfold tunused at h
  simp only [Ty.k, Ty.lo, Ty.hi, Ty.mx, Ty.es, tyV] at h hn ⊢
  have hcases : (k = 2 ∧ mx = 0 ∧ n = 0) ∨ (k = 6 ∧ lo = 0 ∧ hi = 0) ∨ (k = 5 ∧ lo = 0 ∧ hi = 0 ∧ mx = 0) ∨ ((k = 1 ∨ k = 3 ∨ k = 4) ∧ lo = 0 ∧ hi = 0 ∧ mx = 0 ∧ n = 0) := by
    repeat' split at h
    all_goals omega
  clear h hn
  rcases hcases with ⟨rfl, rfl, rfl⟩ | ⟨rfl, rfl, rfl⟩ | ⟨rfl, rfl, rfl, rfl⟩ | ⟨rfl | rfl | rfl, rfl, rfl, rfl, rfl⟩
  all_goals
    go_enter Tryd.func62, Tryd.ntmps62
    go_wp2_with fail
    refine (equal_x _ _ _ _).mono ?_
    rintro e w' ⟨rfl, hb⟩
    have hb2 : Below w.heap.size w w' := (((Below.refl _ _).alloc (Nat.le_refl _) _).alloc (by simp) _).trans (hb.mono (by simp; omega))
    clear hb
    go_wp2
    go_ret
    exact ⟨rfl, hb2⟩

set_option maxHeartbeats 4000000 in
theorem range_x (T : Ty) (A : Option Addr) (n c : Nat) (w : World) (h : -1000 ≤ T.lo ∧ T.lo ≤ T.hi ∧ T.hi ≤ 1000) :
    Calls Tryd.prog 63 #[tyV T A n c] w (Fine w) := by
  obtain ⟨h1, h2, h3⟩ := h
  go_enter Tryd.func63, Tryd.ntmps63
  go_wp2
  go_ret
  exact ⟨rfl, allocB _ _⟩

/-- What a type's element shows. -/
theorem TyRd.get {S : Nat → Prop} {w : World} {d : Nat} {T : Ty} {A : Option Addr} {n c : Nat} (h : TyRd S w (d + 1) T A n c) {i : Nat} (hi : i < n) :
    ∃ e g o A' n' c', T.es[i]? = some e ∧ A = some ⟨g, o, none⟩ ∧ S g ∧ g < w.heap.size ∧ TyCells w g (o + i * 5) e A' n' c' ∧ TyRd S w d e A' n' c' := by
  have hl : i < T.es.length := by rw [h.1.1]; exact hi
  obtain ⟨g, o, A', n', c', h1⟩ := h.2 i T.es[i] (List.getElem?_eq_getElem hl)
  exact ⟨T.es[i], g, o, A', n', c', List.getElem?_eq_getElem hl, h1⟩
theorem VlRd.get {S : Nat → Prop} {w : World} {d : Nat} {V : Vl} {A : Option Addr} {n c : Nat} (h : VlRd S w (d + 1) V A n c) {i : Nat} (hi : i < n) :
    ∃ e g o A' n' c', V.es[i]? = some e ∧ A = some ⟨g, o, none⟩ ∧ S g ∧ g < w.heap.size ∧ VlCells w g (o + i * 2) e A' n' c' ∧ VlRd S w d e A' n' c' := by
  have hl : i < V.es.length := by rw [h.1.1]; exact hi
  obtain ⟨g, o, A', n', c', h1⟩ := h.2 i V.es[i] (List.getElem?_eq_getElem hl)
  exact ⟨V.es[i], g, o, A', n', c', List.getElem?_eq_getElem hl, h1⟩

end Go.Proofs.YtklndjkblfncjaaDoor
