/-
  Package types: cell, Equal with an empty type, unusedFault, rangeFault.
-/
import Derived.Test.YtklndjkblfncjaaGreatDoorTyRd
import Derived.Deep.RegionHeld3
import Derived.Deep.RegionWith
import Derived.Deep.DeepCutAuto
import Derived.Deep.CutBlock
import Derived.Laws.StructEq
namespace Go.Proofs.YtklndjkblfncjaaGreatDoor
open Go Go.RowKit
set_option maxRecDepth 20000

/-- An operation of a drawn region that yields its value in every world of S; one whose guard does not come up. -/
theorem tkH {P : Program} {md : Region.Mode} {ops : Array Oper} {Q : Exit → Act → World → Prop} {S : World → Prop} {i : Nat} {oi : Oper} {v : Value} {fuel : Nat} {listed : Array Bool} {a : Act} {w : World}
    (hy : ∀ w, S w → (execOp a.eval oi).run P w = .ok (.value v) w) (h : wpAnyH P md ops Q S fuel (listed.setIfInBounds i true) (a.put oi.dst v) w) (hS : S w := by assumption) (hi : ops[i]? = some oi := by rfl) (hg : Region.wanted oi (yielded ops a.tmps) = true := by rfl)
    (hs : Region.noSelect ops = true := by kernel_rfl) (hf : Region.free md ops listed i = true := by kernel_rfl) (hr : (Region.ready md ops listed).contains i = true := by kernel_rfl) (hQ : ∀ c a w, Q (.panic c) (a.put oi.dst v) w → Q (.panic c) a w := by exact fun _ _ _ h => h) : wpAnyH P md ops Q S (fuel + 1) listed a w :=
  wpAnyH_take hi hs hf hr hQ (.inl ⟨hg, hy⟩) hS h
theorem tkU {P : Program} {md : Region.Mode} {ops : Array Oper} {Q : Exit → Act → World → Prop} {S : World → Prop} {i : Nat} {oi : Oper} {fuel : Nat} {listed : Array Bool} {a : Act} {w : World}
    (h : wpAnyH P md ops Q S fuel (listed.setIfInBounds i true) (a.put oi.dst undef) w) (hS : S w := by assumption) (hi : ops[i]? = some oi := by rfl) (hg : Region.wanted oi (yielded ops a.tmps) = false := by rfl)
    (hs : Region.noSelect ops = true := by kernel_rfl) (hf : Region.free md ops listed i = true := by kernel_rfl) (hr : (Region.ready md ops listed).contains i = true := by kernel_rfl) (hQ : ∀ c a w, Q (.panic c) (a.put oi.dst undef) w → Q (.panic c) a w := by exact fun _ _ _ h => h) : wpAnyH P md ops Q S (fuel + 1) listed a w :=
  wpAnyH_take hi hs hf hr hQ (.inr ⟨hg, rfl⟩) hS h

/-- A type's struct as a value. -/
@[reducible] def tyV (T : Ty) (A : Option Addr) (n c : Nat) : Value := .agg #[.int .i64 T.k, .int .i64 T.lo, .int .i64 T.hi, .int .i64 T.mx, .slice A n c]
@[reducible] def vlV (V : Vl) (A : Option Addr) (n c : Nat) : Value := .agg #[.int .i64 V.i, .slice A n c]

theorem cell_x (k lo hi mx : Int) (A : Option Addr) (n c : Nat) (w : World) :
    Calls Tryz.prog 64 #[.agg #[.int .i64 k, .int .i64 lo, .int .i64 hi, .int .i64 mx, .slice A n c]] w fun e w' => e = .returned (.agg #[.int .i64 k, .int .i64 lo, .int .i64 hi]) ∧ Below w.heap.size w w' := by
  go_enter Tryz.func64, Tryz.ntmps64
  go_wp2
  refine bodyPost_ret (v := .agg #[.int .i64 k, .int .i64 lo, .int .i64 hi]) (by simp [results, Tryz.results64, go_sem]) rfl ⟨rfl, ?_⟩
  exact ((Below.refl _ _).alloc (Nat.le_refl _) _).alloc (by simp) _

theorem equalNil_x (A : Option Addr) (c : Nat) (f : Value) (w : World) :
    Calls Tryz.prog 101 #[.slice A 0 c, .slice none 0 0, f] w fun e w' => e = .returned (.bool true) ∧ w = w' := by
  go_enter Tryz.func101, Tryz.ntmps101
  go_wp2
  refine wp_loop_rounds 1 ?_
  rw [rounds_succ]
  go_wp2
  go_ret
  exact ⟨rfl, rfl⟩

theorem eqCell (x y z : Int) (w : World) : (Op.equalIn 10000 76 (.agg #[.int .i64 x, .int .i64 y, .int .i64 z]) (.agg #[.int .i64 x, .int .i64 y, .int .i64 z])).run Tryz.prog w = .ok true w := by
  have hS : Tryz.prog.underlying 76 = some (.struct (Tryz.prog.fieldsOf 76)) := by kernel_rfl
  have hp : Tryz.prog.stoodInHeld 76 = false := by kernel_rfl
  rw [show (10000 : Nat) = 9999 + 1 from rfl, run_equalIn_struct w 9999 76 _ _ hS hp]
  simp only [Program.fieldsOf, Tryz.underlying76]
  go_simp
  try simp

/-- Five cells of a box. -/
def Box5 (W : World) (b : Nat) (x0 x1 x2 x3 x4 : Value) : Prop := W.cell? ⟨b, 0, none⟩ = some x0 ∧ W.cell? ⟨b, 1, none⟩ = some x1 ∧ W.cell? ⟨b, 2, none⟩ = some x2 ∧ W.cell? ⟨b, 3, none⟩ = some x3 ∧ W.cell? ⟨b, 4, none⟩ = some x4
theorem box5_new (w : World) (x0 x1 x2 x3 x4 : Value) (t : TypeId) : Box5 (w.alloc (.cells #[x0, x1, x2, x3, x4] t)) w.heap.size x0 x1 x2 x3 x4 := by
  unfold Box5
  simp only [World.cell?_alloc_new]
  exact ⟨rfl, rfl, rfl, rfl, rfl⟩
theorem Box5.below {w W : World} {b : Nat} {x0 x1 x2 x3 x4 : Value} (h : Box5 w b x0 x1 x2 x3 x4) (hb : Below w.heap.size w W) (hl : b < w.heap.size) : Box5 W b x0 x1 x2 x3 x4 := by
  have hc : ∀ j, W.cell? ⟨b, j, none⟩ = w.cell? ⟨b, j, none⟩ := fun j => World.cell?_of_block (w := w) (a := ⟨b, j, none⟩) (hb.block b hl)
  obtain ⟨h0, h1, h2, h3, h4⟩ := h
  exact ⟨(hc _).trans h0, (hc _).trans h1, (hc _).trans h2, (hc _).trans h3, (hc _).trans h4⟩

theorem equalNe_x (A : Option Addr) (n c : Nat) (f : Value) (hn : ((n : Int) != 0) = true) (w : World) :
    Calls Tryz.prog 101 #[.slice A n c, .slice none 0 0, f] w fun e w' => e = .returned (.bool false) ∧ w = w' := by
  go_enter Tryz.func101, Tryz.ntmps101
  go_wp2
  go_ret
  exact ⟨rfl, rfl⟩
set_option maxHeartbeats 4000000 in
/-- A range is left over. -/
theorem equalCell_x (k lo hi mx : Int) (hne : lo ≠ 0 ∨ hi ≠ 0) (A : Option Addr) (n c : Nat) (w : World) :
    Calls Tryz.prog 91 #[.agg #[.int .i64 k, .int .i64 lo, .int .i64 hi, .int .i64 mx, .slice A n c], .agg #[.int .i64 k, .int .i64 0, .int .i64 0, .int .i64 0, .slice none 0 0]] w fun e w' => e = .returned (.bool false) ∧ Below w.heap.size w w' := by
  obtain ⟨v, hv⟩ : ∃ v, (w.alloc (.cells #[.int .i64 k, .int .i64 lo, .int .i64 hi, .int .i64 mx, .slice A n c] 24)).alloc (.cells #[.int .i64 k, .int .i64 0, .int .i64 0, .int .i64 0, .slice none 0 0] 24) = v := ⟨_, rfl⟩
  have HS : Hid (∀ W, Below v.heap.size v W → Box5 W w.heap.size (.int .i64 k) (.int .i64 lo) (.int .i64 hi) (.int .i64 mx) (.slice A n c) ∧ Box5 W (w.heap.size + 1) (.int .i64 k) (.int .i64 0) (.int .i64 0) (.int .i64 0) (.slice none 0 0)) := by
    intro W hW
    have h1 := (box5_new w (.int .i64 k) (.int .i64 lo) (.int .i64 hi) (.int .i64 mx) (.slice A n c) 24).below (allocB _ (.cells #[.int .i64 k, .int .i64 0, .int .i64 0, .int .i64 0, .slice none 0 0] 24)) (by simp)
    have h2 := box5_new (w.alloc (.cells #[.int .i64 k, .int .i64 lo, .int .i64 hi, .int .i64 mx, .slice A n c] 24)) (.int .i64 k) (.int .i64 0) (.int .i64 0) (.int .i64 0) (.slice none 0 0) 24
    rw [hv] at h1 h2
    rw [World.size_alloc] at h2
    exact ⟨h1.below hW (by rw [← hv]; simp; omega), h2.below hW (by rw [← hv]; simp)⟩
  have hwv : Below w.heap.size w v := by rw [← hv]; exact ((Below.refl _ _).alloc (Nat.le_refl _) _).alloc (by simp) _
  have HV := Lib.hid hv
  clear hv
  have HN := Lib.hid hne
  clear hne
  go_enter Tryz.func91, Tryz.ntmps91
  go_wp2_with fail
  rw [HV.out]
  have hk := (Below.refl v.heap.size v).drew
  refine wp_region_held_drew (S := fun W => Below v.heap.size v W) (by kernel_rfl) hk (fun hHeld => ?_)
  refine tkH (i := 0) (oi := ⟨some 5, _, _, _, _, _⟩) (v := ?_) ?_ ?_
  rotate_left
  · intro w hSw
    obtain ⟨⟨p0, p1, p2, p3, p4⟩, ⟨q0, q1, q2, q3, q4⟩⟩ := HS.out w hSw
    go_simp
    try with_reducible rfl
  try simp only [Act.put, List.setIfInBounds_toArray, List.set_cons_zero, List.set_cons_succ]
  refine tkH (i := 2) (oi := ⟨some 7, _, _, _, _, _⟩) (v := ?_) ?_ ?_
  rotate_left
  · intro w hSw
    obtain ⟨⟨p0, p1, p2, p3, p4⟩, ⟨q0, q1, q2, q3, q4⟩⟩ := HS.out w hSw
    go_simp
    try with_reducible rfl
  try simp only [Act.put, List.setIfInBounds_toArray, List.set_cons_zero, List.set_cons_succ]
  refine wpAnyH_ready (rs := [1]) (by kernel_rfl) (by simp) ?_
  refine AllReadyH.cons (o := ⟨some 6, _, _, _, _, _⟩) rfl (fun K hK => ?_) AllReadyH.nil
  go_simp
  go_at_call 64
  refine (cell_x _ _ _ _ _ _ _ _).mono ?_
  rintro e w' ⟨rfl, e1⟩
  replace hk := nextB hk e1
  go_wp2_with fail
  refine hK.out _ _ hk (fun hHeld => ?_)
  clear hK K
  try simp only [Act.put, List.setIfInBounds_toArray, List.set_cons_zero, List.set_cons_succ]
  refine wpAnyH_ready (rs := [3]) (by kernel_rfl) (by simp) ?_
  refine AllReadyH.cons (o := ⟨some 8, _, _, _, _, _⟩) rfl (fun K hK => ?_) AllReadyH.nil
  go_simp
  go_at_call 64
  refine (cell_x _ _ _ _ _ _ _ _).mono ?_
  rintro e w' ⟨rfl, e1⟩
  replace hk := nextB hk e1
  go_wp2_with fail
  refine hK.out _ _ hk (fun hHeld => ?_)
  clear hK K
  try simp only [Act.put, List.setIfInBounds_toArray, List.set_cons_zero, List.set_cons_succ]
  refine tkH (i := 4) (oi := ⟨some 9, _, _, _, _, _⟩) (v := .bool false) ?_ ?_
  · intro w hSw
    have hn := HN.out
    go_simp
    omega
  try simp only [Act.put, List.setIfInBounds_toArray, List.set_cons_zero, List.set_cons_succ]
  refine tkH (i := 5) (oi := ⟨some 10, _, _, _, _, _⟩) (v := ?_) ?_ ?_
  rotate_left
  · intro w hSw
    obtain ⟨⟨p0, p1, p2, p3, p4⟩, ⟨q0, q1, q2, q3, q4⟩⟩ := HS.out w hSw
    go_simp
    try with_reducible rfl
  try simp only [Act.put, List.setIfInBounds_toArray, List.set_cons_zero, List.set_cons_succ]
  refine tkU (i := 6) (oi := ⟨some 11, _, _, _, _, _⟩) ?_
  try simp only [Act.put, List.setIfInBounds_toArray, List.set_cons_zero, List.set_cons_succ]
  refine tkU (i := 7) (oi := ⟨some 12, _, _, _, _, _⟩) ?_
  try simp only [Act.put, List.setIfInBounds_toArray, List.set_cons_zero, List.set_cons_succ]
  refine tkU (i := 8) (oi := ⟨some 13, _, _, _, _, _⟩) ?_
  try simp only [Act.put, List.setIfInBounds_toArray, List.set_cons_zero, List.set_cons_succ]
  refine tkU (i := 9) (oi := ⟨some 14, _, _, _, _, _⟩) ?_
  try simp only [Act.put, List.setIfInBounds_toArray, List.set_cons_zero, List.set_cons_succ]
  refine tkU (i := 10) (oi := ⟨some 15, _, _, _, _, _⟩) ?_
  try simp only [Act.put, List.setIfInBounds_toArray, List.set_cons_zero, List.set_cons_succ]
  refine tkH (i := 11) (oi := ⟨some 16, _, _, _, _, _⟩) (v := ?_) ?_ ?_
  rotate_left
  · intro w hSw
    obtain ⟨⟨p0, p1, p2, p3, p4⟩, ⟨q0, q1, q2, q3, q4⟩⟩ := HS.out w hSw
    go_simp
    try with_reducible rfl
  try simp only [Act.put, List.setIfInBounds_toArray, List.set_cons_zero, List.set_cons_succ]
  refine tkH (i := 12) (oi := ⟨some 17, _, _, _, _, _⟩) (v := ?_) ?_ ?_
  rotate_left
  · intro w hSw
    obtain ⟨⟨p0, p1, p2, p3, p4⟩, ⟨q0, q1, q2, q3, q4⟩⟩ := HS.out w hSw
    go_simp
    try with_reducible rfl
  try simp only [Act.put, List.setIfInBounds_toArray, List.set_cons_zero, List.set_cons_succ]
  refine tkU (i := 13) (oi := ⟨some 18, _, _, _, _, _⟩) ?_
  try simp only [Act.put, List.setIfInBounds_toArray, List.set_cons_zero, List.set_cons_succ]
  refine tkU (i := 14) (oi := ⟨some 19, _, _, _, _, _⟩) ?_
  try simp only [Act.put, List.setIfInBounds_toArray, List.set_cons_zero, List.set_cons_succ]
  refine tkU (i := 15) (oi := ⟨some 20, _, _, _, _, _⟩) ?_
  try simp only [Act.put, List.setIfInBounds_toArray, List.set_cons_zero, List.set_cons_succ]
  refine tkU (i := 16) (oi := ⟨some 21, _, _, _, _, _⟩) ?_
  try simp only [Act.put, List.setIfInBounds_toArray, List.set_cons_zero, List.set_cons_succ]
  refine tkU (i := 17) (oi := ⟨some 22, _, _, _, _, _⟩) ?_
  try simp only [Act.put, List.setIfInBounds_toArray, List.set_cons_zero, List.set_cons_succ]
  refine tkH (i := 18) (oi := ⟨some 23, _, _, _, _, _⟩) (v := ?_) ?_ ?_
  rotate_left
  · intro w hSw
    obtain ⟨⟨p0, p1, p2, p3, p4⟩, ⟨q0, q1, q2, q3, q4⟩⟩ := HS.out w hSw
    go_simp
    try with_reducible rfl
  try simp only [Act.put, List.setIfInBounds_toArray, List.set_cons_zero, List.set_cons_succ]
  refine tkH (i := 19) (oi := ⟨some 4, _, _, _, _, _⟩) (v := ?_) ?_ ?_
  rotate_left
  · intro w hSw
    obtain ⟨⟨p0, p1, p2, p3, p4⟩, ⟨q0, q1, q2, q3, q4⟩⟩ := HS.out w hSw
    go_simp
    try with_reducible rfl
  try simp only [Act.put, List.setIfInBounds_toArray, List.set_cons_zero, List.set_cons_succ]
  refine wpAnyH_done (by kernel_rfl) ?_ _
  go_wp2
  go_ret
  exact ⟨rfl, nextB hwv hk⟩

set_option maxHeartbeats 4000000 in
/-- A greatest length is left over. -/
theorem equalMax_x (k mx : Int) (hm : (mx == 0) = false) (A : Option Addr) (n c : Nat) (w : World) :
    Calls Tryz.prog 91 #[.agg #[.int .i64 k, .int .i64 0, .int .i64 0, .int .i64 mx, .slice A n c], .agg #[.int .i64 k, .int .i64 0, .int .i64 0, .int .i64 0, .slice none 0 0]] w fun e w' => e = .returned (.bool false) ∧ Below w.heap.size w w' := by
  obtain ⟨v, hv⟩ : ∃ v, (w.alloc (.cells #[.int .i64 k, .int .i64 0, .int .i64 0, .int .i64 mx, .slice A n c] 24)).alloc (.cells #[.int .i64 k, .int .i64 0, .int .i64 0, .int .i64 0, .slice none 0 0] 24) = v := ⟨_, rfl⟩
  have HS : Hid (∀ W, Below v.heap.size v W → Box5 W w.heap.size (.int .i64 k) (.int .i64 0) (.int .i64 0) (.int .i64 mx) (.slice A n c) ∧ Box5 W (w.heap.size + 1) (.int .i64 k) (.int .i64 0) (.int .i64 0) (.int .i64 0) (.slice none 0 0)) := by
    intro W hW
    have h1 := (box5_new w (.int .i64 k) (.int .i64 0) (.int .i64 0) (.int .i64 mx) (.slice A n c) 24).below (allocB _ (.cells #[.int .i64 k, .int .i64 0, .int .i64 0, .int .i64 0, .slice none 0 0] 24)) (by simp)
    have h2 := box5_new (w.alloc (.cells #[.int .i64 k, .int .i64 0, .int .i64 0, .int .i64 mx, .slice A n c] 24)) (.int .i64 k) (.int .i64 0) (.int .i64 0) (.int .i64 0) (.slice none 0 0) 24
    rw [hv] at h1 h2
    rw [World.size_alloc] at h2
    exact ⟨h1.below hW (by rw [← hv]; simp; omega), h2.below hW (by rw [← hv]; simp)⟩
  have hwv : Below w.heap.size w v := by rw [← hv]; exact ((Below.refl _ _).alloc (Nat.le_refl _) _).alloc (by simp) _
  have HE : Hid (∀ W, (Op.equalIn 10000 76 (.agg #[.int .i64 k, .int .i64 0, .int .i64 0]) (.agg #[.int .i64 k, .int .i64 0, .int .i64 0])).run Tryz.prog W = .ok true W) := eqCell k 0 0
  have HV := Lib.hid hv
  clear hv
  go_enter Tryz.func91, Tryz.ntmps91
  go_wp2_with fail
  rw [HV.out]
  have hk := (Below.refl v.heap.size v).drew
  refine wp_region_held_drew (S := fun W => Below v.heap.size v W) (by kernel_rfl) hk (fun hHeld => ?_)
  refine tkH (i := 0) (oi := ⟨some 5, _, _, _, _, _⟩) (v := ?_) ?_ ?_
  rotate_left
  · intro w hSw
    obtain ⟨⟨p0, p1, p2, p3, p4⟩, ⟨q0, q1, q2, q3, q4⟩⟩ := HS.out w hSw
    go_simp
    try with_reducible rfl
  try simp only [Act.put, List.setIfInBounds_toArray, List.set_cons_zero, List.set_cons_succ]
  refine tkH (i := 2) (oi := ⟨some 7, _, _, _, _, _⟩) (v := ?_) ?_ ?_
  rotate_left
  · intro w hSw
    obtain ⟨⟨p0, p1, p2, p3, p4⟩, ⟨q0, q1, q2, q3, q4⟩⟩ := HS.out w hSw
    go_simp
    try with_reducible rfl
  try simp only [Act.put, List.setIfInBounds_toArray, List.set_cons_zero, List.set_cons_succ]
  refine wpAnyH_ready (rs := [1]) (by kernel_rfl) (by simp) ?_
  refine AllReadyH.cons (o := ⟨some 6, _, _, _, _, _⟩) rfl (fun K hK => ?_) AllReadyH.nil
  go_simp
  go_at_call 64
  refine (cell_x _ _ _ _ _ _ _ _).mono ?_
  rintro e w' ⟨rfl, e1⟩
  replace hk := nextB hk e1
  go_wp2_with fail
  refine hK.out _ _ hk (fun hHeld => ?_)
  clear hK K
  try simp only [Act.put, List.setIfInBounds_toArray, List.set_cons_zero, List.set_cons_succ]
  refine wpAnyH_ready (rs := [3]) (by kernel_rfl) (by simp) ?_
  refine AllReadyH.cons (o := ⟨some 8, _, _, _, _, _⟩) rfl (fun K hK => ?_) AllReadyH.nil
  go_simp
  go_at_call 64
  refine (cell_x _ _ _ _ _ _ _ _).mono ?_
  rintro e w' ⟨rfl, e1⟩
  replace hk := nextB hk e1
  go_wp2_with fail
  refine hK.out _ _ hk (fun hHeld => ?_)
  clear hK K
  try simp only [Act.put, List.setIfInBounds_toArray, List.set_cons_zero, List.set_cons_succ]
  refine tkH (i := 4) (oi := ⟨some 9, _, _, _, _, _⟩) (v := ?_) ?_ ?_
  rotate_left
  · intro w hSw
    obtain ⟨⟨p0, p1, p2, p3, p4⟩, ⟨q0, q1, q2, q3, q4⟩⟩ := HS.out w hSw
    go_simp
    try rw [HE.out]
    try go_simp
    try with_reducible rfl
  try simp only [Act.put, List.setIfInBounds_toArray, List.set_cons_zero, List.set_cons_succ]
  refine tkH (i := 5) (oi := ⟨some 10, _, _, _, _, _⟩) (v := ?_) ?_ ?_
  rotate_left
  · intro w hSw
    obtain ⟨⟨p0, p1, p2, p3, p4⟩, ⟨q0, q1, q2, q3, q4⟩⟩ := HS.out w hSw
    go_simp
    try with_reducible rfl
  try simp only [Act.put, List.setIfInBounds_toArray, List.set_cons_zero, List.set_cons_succ]
  refine tkH (i := 6) (oi := ⟨some 11, _, _, _, _, _⟩) (v := ?_) ?_ ?_
  rotate_left
  · intro w hSw
    obtain ⟨⟨p0, p1, p2, p3, p4⟩, ⟨q0, q1, q2, q3, q4⟩⟩ := HS.out w hSw
    go_simp
    try with_reducible rfl
  try simp only [Act.put, List.setIfInBounds_toArray, List.set_cons_zero, List.set_cons_succ]
  refine tkH (i := 7) (oi := ⟨some 12, _, _, _, _, _⟩) (v := ?_) ?_ ?_
  rotate_left
  · intro w hSw
    obtain ⟨⟨p0, p1, p2, p3, p4⟩, ⟨q0, q1, q2, q3, q4⟩⟩ := HS.out w hSw
    go_simp
    try with_reducible rfl
  try simp only [Act.put, List.setIfInBounds_toArray, List.set_cons_zero, List.set_cons_succ]
  refine tkH (i := 8) (oi := ⟨some 13, _, _, _, _, _⟩) (v := ?_) ?_ ?_
  rotate_left
  · intro w hSw
    obtain ⟨⟨p0, p1, p2, p3, p4⟩, ⟨q0, q1, q2, q3, q4⟩⟩ := HS.out w hSw
    go_simp
    try with_reducible rfl
  try simp only [Act.put, List.setIfInBounds_toArray, List.set_cons_zero, List.set_cons_succ]
  refine tkH (i := 9) (oi := ⟨some 14, _, _, _, _, _⟩) (v := ?_) ?_ ?_
  rotate_left
  · intro w hSw
    obtain ⟨⟨p0, p1, p2, p3, p4⟩, ⟨q0, q1, q2, q3, q4⟩⟩ := HS.out w hSw
    go_simp
    try with_reducible rfl
  try simp only [Act.put, List.setIfInBounds_toArray, List.set_cons_zero, List.set_cons_succ]
  refine tkH (i := 10) (oi := ⟨some 15, _, _, _, _, _⟩) (v := ?_) ?_ ?_
  rotate_left
  · intro w hSw
    obtain ⟨⟨p0, p1, p2, p3, p4⟩, ⟨q0, q1, q2, q3, q4⟩⟩ := HS.out w hSw
    go_simp
    try with_reducible rfl
  try simp only [Act.put, List.setIfInBounds_toArray, List.set_cons_zero, List.set_cons_succ]
  refine tkH (i := 11) (oi := ⟨some 16, _, _, _, _, _⟩) (v := ?_) ?_ ?_
  rotate_left
  · intro w hSw
    obtain ⟨⟨p0, p1, p2, p3, p4⟩, ⟨q0, q1, q2, q3, q4⟩⟩ := HS.out w hSw
    go_simp
    try with_reducible rfl
  try simp only [Act.put, List.setIfInBounds_toArray, List.set_cons_zero, List.set_cons_succ]
  refine tkH (i := 12) (oi := ⟨some 17, _, _, _, _, _⟩) (v := ?_) ?_ ?_
  rotate_left
  · intro w hSw
    obtain ⟨⟨p0, p1, p2, p3, p4⟩, ⟨q0, q1, q2, q3, q4⟩⟩ := HS.out w hSw
    go_simp
    try with_reducible rfl
  try simp only [Act.put, List.setIfInBounds_toArray, List.set_cons_zero, List.set_cons_succ]
  refine tkU (i := 13) (oi := ⟨some 18, _, _, _, _, _⟩) ?_
  try simp only [Act.put, List.setIfInBounds_toArray, List.set_cons_zero, List.set_cons_succ]
  refine tkU (i := 14) (oi := ⟨some 19, _, _, _, _, _⟩) ?_
  try simp only [Act.put, List.setIfInBounds_toArray, List.set_cons_zero, List.set_cons_succ]
  refine tkU (i := 15) (oi := ⟨some 20, _, _, _, _, _⟩) ?_
  try simp only [Act.put, List.setIfInBounds_toArray, List.set_cons_zero, List.set_cons_succ]
  refine tkU (i := 16) (oi := ⟨some 21, _, _, _, _, _⟩) ?_
  try simp only [Act.put, List.setIfInBounds_toArray, List.set_cons_zero, List.set_cons_succ]
  refine tkU (i := 17) (oi := ⟨some 22, _, _, _, _, _⟩) ?_
  try simp only [Act.put, List.setIfInBounds_toArray, List.set_cons_zero, List.set_cons_succ]
  refine tkH (i := 18) (oi := ⟨some 23, _, _, _, _, _⟩) (v := ?_) ?_ ?_
  rotate_left
  · intro w hSw
    obtain ⟨⟨p0, p1, p2, p3, p4⟩, ⟨q0, q1, q2, q3, q4⟩⟩ := HS.out w hSw
    go_simp
    try with_reducible rfl
  try simp only [Act.put, List.setIfInBounds_toArray, List.set_cons_zero, List.set_cons_succ]
  refine tkH (i := 19) (oi := ⟨some 4, _, _, _, _, _⟩) (v := ?_) ?_ ?_
  rotate_left
  · intro w hSw
    obtain ⟨⟨p0, p1, p2, p3, p4⟩, ⟨q0, q1, q2, q3, q4⟩⟩ := HS.out w hSw
    go_simp
    try with_reducible rfl
  try simp only [Act.put, List.setIfInBounds_toArray, List.set_cons_zero, List.set_cons_succ]
  refine wpAnyH_done (by kernel_rfl) ?_ _
  go_wp2
  go_ret
  exact ⟨rfl, nextB hwv hk⟩

set_option maxHeartbeats 4000000 in
/-- Elements are left over. -/
theorem equalEls_x (k : Int) (A : Option Addr) (n c : Nat) (hn : ((n : Int) != 0) = true) (w : World) :
    Calls Tryz.prog 91 #[.agg #[.int .i64 k, .int .i64 0, .int .i64 0, .int .i64 0, .slice A n c], .agg #[.int .i64 k, .int .i64 0, .int .i64 0, .int .i64 0, .slice none 0 0]] w fun e w' => e = .returned (.bool false) ∧ Below w.heap.size w w' := by
  obtain ⟨v, hv⟩ : ∃ v, (w.alloc (.cells #[.int .i64 k, .int .i64 0, .int .i64 0, .int .i64 0, .slice A n c] 24)).alloc (.cells #[.int .i64 k, .int .i64 0, .int .i64 0, .int .i64 0, .slice none 0 0] 24) = v := ⟨_, rfl⟩
  have HS : Hid (∀ W, Below v.heap.size v W → Box5 W w.heap.size (.int .i64 k) (.int .i64 0) (.int .i64 0) (.int .i64 0) (.slice A n c) ∧ Box5 W (w.heap.size + 1) (.int .i64 k) (.int .i64 0) (.int .i64 0) (.int .i64 0) (.slice none 0 0)) := by
    intro W hW
    have h1 := (box5_new w (.int .i64 k) (.int .i64 0) (.int .i64 0) (.int .i64 0) (.slice A n c) 24).below (allocB _ (.cells #[.int .i64 k, .int .i64 0, .int .i64 0, .int .i64 0, .slice none 0 0] 24)) (by simp)
    have h2 := box5_new (w.alloc (.cells #[.int .i64 k, .int .i64 0, .int .i64 0, .int .i64 0, .slice A n c] 24)) (.int .i64 k) (.int .i64 0) (.int .i64 0) (.int .i64 0) (.slice none 0 0) 24
    rw [hv] at h1 h2
    rw [World.size_alloc] at h2
    exact ⟨h1.below hW (by rw [← hv]; simp; omega), h2.below hW (by rw [← hv]; simp)⟩
  have hwv : Below w.heap.size w v := by rw [← hv]; exact ((Below.refl _ _).alloc (Nat.le_refl _) _).alloc (by simp) _
  have HE : Hid (∀ W, (Op.equalIn 10000 76 (.agg #[.int .i64 k, .int .i64 0, .int .i64 0]) (.agg #[.int .i64 k, .int .i64 0, .int .i64 0])).run Tryz.prog W = .ok true W) := eqCell k 0 0
  have HV := Lib.hid hv
  clear hv
  go_enter Tryz.func91, Tryz.ntmps91
  go_wp2_with fail
  rw [HV.out]
  have hk := (Below.refl v.heap.size v).drew
  refine wp_region_held_drew (S := fun W => Below v.heap.size v W) (by kernel_rfl) hk (fun hHeld => ?_)
  refine tkH (i := 0) (oi := ⟨some 5, _, _, _, _, _⟩) (v := ?_) ?_ ?_
  rotate_left
  · intro w hSw
    obtain ⟨⟨p0, p1, p2, p3, p4⟩, ⟨q0, q1, q2, q3, q4⟩⟩ := HS.out w hSw
    go_simp
    try with_reducible rfl
  try simp only [Act.put, List.setIfInBounds_toArray, List.set_cons_zero, List.set_cons_succ]
  refine tkH (i := 2) (oi := ⟨some 7, _, _, _, _, _⟩) (v := ?_) ?_ ?_
  rotate_left
  · intro w hSw
    obtain ⟨⟨p0, p1, p2, p3, p4⟩, ⟨q0, q1, q2, q3, q4⟩⟩ := HS.out w hSw
    go_simp
    try with_reducible rfl
  try simp only [Act.put, List.setIfInBounds_toArray, List.set_cons_zero, List.set_cons_succ]
  refine wpAnyH_ready (rs := [1]) (by kernel_rfl) (by simp) ?_
  refine AllReadyH.cons (o := ⟨some 6, _, _, _, _, _⟩) rfl (fun K hK => ?_) AllReadyH.nil
  go_simp
  go_at_call 64
  refine (cell_x _ _ _ _ _ _ _ _).mono ?_
  rintro e w' ⟨rfl, e1⟩
  replace hk := nextB hk e1
  go_wp2_with fail
  refine hK.out _ _ hk (fun hHeld => ?_)
  clear hK K
  try simp only [Act.put, List.setIfInBounds_toArray, List.set_cons_zero, List.set_cons_succ]
  refine wpAnyH_ready (rs := [3]) (by kernel_rfl) (by simp) ?_
  refine AllReadyH.cons (o := ⟨some 8, _, _, _, _, _⟩) rfl (fun K hK => ?_) AllReadyH.nil
  go_simp
  go_at_call 64
  refine (cell_x _ _ _ _ _ _ _ _).mono ?_
  rintro e w' ⟨rfl, e1⟩
  replace hk := nextB hk e1
  go_wp2_with fail
  refine hK.out _ _ hk (fun hHeld => ?_)
  clear hK K
  try simp only [Act.put, List.setIfInBounds_toArray, List.set_cons_zero, List.set_cons_succ]
  refine tkH (i := 4) (oi := ⟨some 9, _, _, _, _, _⟩) (v := ?_) ?_ ?_
  rotate_left
  · intro w hSw
    obtain ⟨⟨p0, p1, p2, p3, p4⟩, ⟨q0, q1, q2, q3, q4⟩⟩ := HS.out w hSw
    go_simp
    try rw [HE.out]
    try go_simp
    try with_reducible rfl
  try simp only [Act.put, List.setIfInBounds_toArray, List.set_cons_zero, List.set_cons_succ]
  refine tkH (i := 5) (oi := ⟨some 10, _, _, _, _, _⟩) (v := ?_) ?_ ?_
  rotate_left
  · intro w hSw
    obtain ⟨⟨p0, p1, p2, p3, p4⟩, ⟨q0, q1, q2, q3, q4⟩⟩ := HS.out w hSw
    go_simp
    try with_reducible rfl
  try simp only [Act.put, List.setIfInBounds_toArray, List.set_cons_zero, List.set_cons_succ]
  refine tkH (i := 6) (oi := ⟨some 11, _, _, _, _, _⟩) (v := ?_) ?_ ?_
  rotate_left
  · intro w hSw
    obtain ⟨⟨p0, p1, p2, p3, p4⟩, ⟨q0, q1, q2, q3, q4⟩⟩ := HS.out w hSw
    go_simp
    try with_reducible rfl
  try simp only [Act.put, List.setIfInBounds_toArray, List.set_cons_zero, List.set_cons_succ]
  refine tkH (i := 7) (oi := ⟨some 12, _, _, _, _, _⟩) (v := ?_) ?_ ?_
  rotate_left
  · intro w hSw
    obtain ⟨⟨p0, p1, p2, p3, p4⟩, ⟨q0, q1, q2, q3, q4⟩⟩ := HS.out w hSw
    go_simp
    try with_reducible rfl
  try simp only [Act.put, List.setIfInBounds_toArray, List.set_cons_zero, List.set_cons_succ]
  refine tkH (i := 8) (oi := ⟨some 13, _, _, _, _, _⟩) (v := ?_) ?_ ?_
  rotate_left
  · intro w hSw
    obtain ⟨⟨p0, p1, p2, p3, p4⟩, ⟨q0, q1, q2, q3, q4⟩⟩ := HS.out w hSw
    go_simp
    try with_reducible rfl
  try simp only [Act.put, List.setIfInBounds_toArray, List.set_cons_zero, List.set_cons_succ]
  refine tkH (i := 9) (oi := ⟨some 14, _, _, _, _, _⟩) (v := ?_) ?_ ?_
  rotate_left
  · intro w hSw
    obtain ⟨⟨p0, p1, p2, p3, p4⟩, ⟨q0, q1, q2, q3, q4⟩⟩ := HS.out w hSw
    go_simp
    try with_reducible rfl
  try simp only [Act.put, List.setIfInBounds_toArray, List.set_cons_zero, List.set_cons_succ]
  refine tkH (i := 10) (oi := ⟨some 15, _, _, _, _, _⟩) (v := ?_) ?_ ?_
  rotate_left
  · intro w hSw
    obtain ⟨⟨p0, p1, p2, p3, p4⟩, ⟨q0, q1, q2, q3, q4⟩⟩ := HS.out w hSw
    go_simp
    try with_reducible rfl
  try simp only [Act.put, List.setIfInBounds_toArray, List.set_cons_zero, List.set_cons_succ]
  refine tkH (i := 11) (oi := ⟨some 16, _, _, _, _, _⟩) (v := ?_) ?_ ?_
  rotate_left
  · intro w hSw
    obtain ⟨⟨p0, p1, p2, p3, p4⟩, ⟨q0, q1, q2, q3, q4⟩⟩ := HS.out w hSw
    go_simp
    try with_reducible rfl
  try simp only [Act.put, List.setIfInBounds_toArray, List.set_cons_zero, List.set_cons_succ]
  refine tkH (i := 12) (oi := ⟨some 17, _, _, _, _, _⟩) (v := ?_) ?_ ?_
  rotate_left
  · intro w hSw
    obtain ⟨⟨p0, p1, p2, p3, p4⟩, ⟨q0, q1, q2, q3, q4⟩⟩ := HS.out w hSw
    go_simp
    try with_reducible rfl
  try simp only [Act.put, List.setIfInBounds_toArray, List.set_cons_zero, List.set_cons_succ]
  refine tkH (i := 13) (oi := ⟨some 18, _, _, _, _, _⟩) (v := ?_) ?_ ?_
  rotate_left
  · intro w hSw
    obtain ⟨⟨p0, p1, p2, p3, p4⟩, ⟨q0, q1, q2, q3, q4⟩⟩ := HS.out w hSw
    go_simp
    try with_reducible rfl
  try simp only [Act.put, List.setIfInBounds_toArray, List.set_cons_zero, List.set_cons_succ]
  refine tkH (i := 14) (oi := ⟨some 19, _, _, _, _, _⟩) (v := ?_) ?_ ?_
  rotate_left
  · intro w hSw
    obtain ⟨⟨p0, p1, p2, p3, p4⟩, ⟨q0, q1, q2, q3, q4⟩⟩ := HS.out w hSw
    go_simp
    try with_reducible rfl
  try simp only [Act.put, List.setIfInBounds_toArray, List.set_cons_zero, List.set_cons_succ]
  refine tkH (i := 15) (oi := ⟨some 20, _, _, _, _, _⟩) (v := ?_) ?_ ?_
  rotate_left
  · intro w hSw
    obtain ⟨⟨p0, p1, p2, p3, p4⟩, ⟨q0, q1, q2, q3, q4⟩⟩ := HS.out w hSw
    go_simp
    try with_reducible rfl
  try simp only [Act.put, List.setIfInBounds_toArray, List.set_cons_zero, List.set_cons_succ]
  refine tkH (i := 16) (oi := ⟨some 21, _, _, _, _, _⟩) (v := ?_) ?_ ?_
  rotate_left
  · intro w hSw
    obtain ⟨⟨p0, p1, p2, p3, p4⟩, ⟨q0, q1, q2, q3, q4⟩⟩ := HS.out w hSw
    go_simp
    try with_reducible rfl
  try simp only [Act.put, List.setIfInBounds_toArray, List.set_cons_zero, List.set_cons_succ]
  refine wpAnyH_ready (rs := [17]) (by kernel_rfl) (by simp) ?_
  refine AllReadyH.cons (o := ⟨some 22, _, _, _, _, _⟩) rfl (fun K hK => ?_) AllReadyH.nil
  go_simp
  go_at_call 101
  refine (equalNe_x _ _ _ _ hn _).mono ?_
  rintro e w' ⟨rfl, rfl⟩
  go_wp2_with fail
  refine hK.out _ _ hk (fun hHeld => ?_)
  clear hK K
  try simp only [Act.put, List.setIfInBounds_toArray, List.set_cons_zero, List.set_cons_succ]
  refine tkH (i := 18) (oi := ⟨some 23, _, _, _, _, _⟩) (v := ?_) ?_ ?_
  rotate_left
  · intro w hSw
    obtain ⟨⟨p0, p1, p2, p3, p4⟩, ⟨q0, q1, q2, q3, q4⟩⟩ := HS.out w hSw
    go_simp
    try with_reducible rfl
  try simp only [Act.put, List.setIfInBounds_toArray, List.set_cons_zero, List.set_cons_succ]
  refine tkH (i := 19) (oi := ⟨some 4, _, _, _, _, _⟩) (v := ?_) ?_ ?_
  rotate_left
  · intro w hSw
    obtain ⟨⟨p0, p1, p2, p3, p4⟩, ⟨q0, q1, q2, q3, q4⟩⟩ := HS.out w hSw
    go_simp
    try with_reducible rfl
  try simp only [Act.put, List.setIfInBounds_toArray, List.set_cons_zero, List.set_cons_succ]
  refine wpAnyH_done (by kernel_rfl) ?_ _
  go_wp2
  go_ret
  exact ⟨rfl, nextB hwv hk⟩

set_option maxHeartbeats 4000000 in
/-- A type of the kind alone equals the empty type of the kind. -/
theorem equalNone_x (k : Int) (A : Option Addr) (c : Nat) (w : World) :
    Calls Tryz.prog 91 #[.agg #[.int .i64 k, .int .i64 0, .int .i64 0, .int .i64 0, .slice A 0 c], .agg #[.int .i64 k, .int .i64 0, .int .i64 0, .int .i64 0, .slice none 0 0]] w fun e w' => e = .returned (.bool true) ∧ Below w.heap.size w w' := by
  obtain ⟨v, hv⟩ : ∃ v, (w.alloc (.cells #[.int .i64 k, .int .i64 0, .int .i64 0, .int .i64 0, .slice A 0 c] 24)).alloc (.cells #[.int .i64 k, .int .i64 0, .int .i64 0, .int .i64 0, .slice none 0 0] 24) = v := ⟨_, rfl⟩
  have HS : Hid (∀ W, Below v.heap.size v W → Box5 W w.heap.size (.int .i64 k) (.int .i64 0) (.int .i64 0) (.int .i64 0) (.slice A 0 c) ∧ Box5 W (w.heap.size + 1) (.int .i64 k) (.int .i64 0) (.int .i64 0) (.int .i64 0) (.slice none 0 0)) := by
    intro W hW
    have h1 := (box5_new w (.int .i64 k) (.int .i64 0) (.int .i64 0) (.int .i64 0) (.slice A 0 c) 24).below (allocB _ (.cells #[.int .i64 k, .int .i64 0, .int .i64 0, .int .i64 0, .slice none 0 0] 24)) (by simp)
    have h2 := box5_new (w.alloc (.cells #[.int .i64 k, .int .i64 0, .int .i64 0, .int .i64 0, .slice A 0 c] 24)) (.int .i64 k) (.int .i64 0) (.int .i64 0) (.int .i64 0) (.slice none 0 0) 24
    rw [hv] at h1 h2
    rw [World.size_alloc] at h2
    exact ⟨h1.below hW (by rw [← hv]; simp; omega), h2.below hW (by rw [← hv]; simp)⟩
  have hwv : Below w.heap.size w v := by rw [← hv]; exact ((Below.refl _ _).alloc (Nat.le_refl _) _).alloc (by simp) _
  have HE : Hid (∀ W, (Op.equalIn 10000 76 (.agg #[.int .i64 k, .int .i64 0, .int .i64 0]) (.agg #[.int .i64 k, .int .i64 0, .int .i64 0])).run Tryz.prog W = .ok true W) := eqCell k 0 0
  have HV := Lib.hid hv
  clear hv
  go_enter Tryz.func91, Tryz.ntmps91
  go_wp2_with fail
  rw [HV.out]
  have hk := (Below.refl v.heap.size v).drew
  refine wp_region_held_drew (S := fun W => Below v.heap.size v W) (by kernel_rfl) hk (fun hHeld => ?_)
  refine tkH (i := 0) (oi := ⟨some 5, _, _, _, _, _⟩) (v := ?_) ?_ ?_
  rotate_left
  · intro w hSw
    obtain ⟨⟨p0, p1, p2, p3, p4⟩, ⟨q0, q1, q2, q3, q4⟩⟩ := HS.out w hSw
    go_simp
    try with_reducible rfl
  try simp only [Act.put, List.setIfInBounds_toArray, List.set_cons_zero, List.set_cons_succ]
  refine tkH (i := 2) (oi := ⟨some 7, _, _, _, _, _⟩) (v := ?_) ?_ ?_
  rotate_left
  · intro w hSw
    obtain ⟨⟨p0, p1, p2, p3, p4⟩, ⟨q0, q1, q2, q3, q4⟩⟩ := HS.out w hSw
    go_simp
    try with_reducible rfl
  try simp only [Act.put, List.setIfInBounds_toArray, List.set_cons_zero, List.set_cons_succ]
  refine wpAnyH_ready (rs := [1]) (by kernel_rfl) (by simp) ?_
  refine AllReadyH.cons (o := ⟨some 6, _, _, _, _, _⟩) rfl (fun K hK => ?_) AllReadyH.nil
  go_simp
  go_at_call 64
  refine (cell_x _ _ _ _ _ _ _ _).mono ?_
  rintro e w' ⟨rfl, e1⟩
  replace hk := nextB hk e1
  go_wp2_with fail
  refine hK.out _ _ hk (fun hHeld => ?_)
  clear hK K
  try simp only [Act.put, List.setIfInBounds_toArray, List.set_cons_zero, List.set_cons_succ]
  refine wpAnyH_ready (rs := [3]) (by kernel_rfl) (by simp) ?_
  refine AllReadyH.cons (o := ⟨some 8, _, _, _, _, _⟩) rfl (fun K hK => ?_) AllReadyH.nil
  go_simp
  go_at_call 64
  refine (cell_x _ _ _ _ _ _ _ _).mono ?_
  rintro e w' ⟨rfl, e1⟩
  replace hk := nextB hk e1
  go_wp2_with fail
  refine hK.out _ _ hk (fun hHeld => ?_)
  clear hK K
  try simp only [Act.put, List.setIfInBounds_toArray, List.set_cons_zero, List.set_cons_succ]
  refine tkH (i := 4) (oi := ⟨some 9, _, _, _, _, _⟩) (v := ?_) ?_ ?_
  rotate_left
  · intro w hSw
    obtain ⟨⟨p0, p1, p2, p3, p4⟩, ⟨q0, q1, q2, q3, q4⟩⟩ := HS.out w hSw
    go_simp
    try rw [HE.out]
    try go_simp
    try with_reducible rfl
  try simp only [Act.put, List.setIfInBounds_toArray, List.set_cons_zero, List.set_cons_succ]
  refine tkH (i := 5) (oi := ⟨some 10, _, _, _, _, _⟩) (v := ?_) ?_ ?_
  rotate_left
  · intro w hSw
    obtain ⟨⟨p0, p1, p2, p3, p4⟩, ⟨q0, q1, q2, q3, q4⟩⟩ := HS.out w hSw
    go_simp
    try with_reducible rfl
  try simp only [Act.put, List.setIfInBounds_toArray, List.set_cons_zero, List.set_cons_succ]
  refine tkH (i := 6) (oi := ⟨some 11, _, _, _, _, _⟩) (v := ?_) ?_ ?_
  rotate_left
  · intro w hSw
    obtain ⟨⟨p0, p1, p2, p3, p4⟩, ⟨q0, q1, q2, q3, q4⟩⟩ := HS.out w hSw
    go_simp
    try with_reducible rfl
  try simp only [Act.put, List.setIfInBounds_toArray, List.set_cons_zero, List.set_cons_succ]
  refine tkH (i := 7) (oi := ⟨some 12, _, _, _, _, _⟩) (v := ?_) ?_ ?_
  rotate_left
  · intro w hSw
    obtain ⟨⟨p0, p1, p2, p3, p4⟩, ⟨q0, q1, q2, q3, q4⟩⟩ := HS.out w hSw
    go_simp
    try with_reducible rfl
  try simp only [Act.put, List.setIfInBounds_toArray, List.set_cons_zero, List.set_cons_succ]
  refine tkH (i := 8) (oi := ⟨some 13, _, _, _, _, _⟩) (v := ?_) ?_ ?_
  rotate_left
  · intro w hSw
    obtain ⟨⟨p0, p1, p2, p3, p4⟩, ⟨q0, q1, q2, q3, q4⟩⟩ := HS.out w hSw
    go_simp
    try with_reducible rfl
  try simp only [Act.put, List.setIfInBounds_toArray, List.set_cons_zero, List.set_cons_succ]
  refine tkH (i := 9) (oi := ⟨some 14, _, _, _, _, _⟩) (v := ?_) ?_ ?_
  rotate_left
  · intro w hSw
    obtain ⟨⟨p0, p1, p2, p3, p4⟩, ⟨q0, q1, q2, q3, q4⟩⟩ := HS.out w hSw
    go_simp
    try with_reducible rfl
  try simp only [Act.put, List.setIfInBounds_toArray, List.set_cons_zero, List.set_cons_succ]
  refine tkH (i := 10) (oi := ⟨some 15, _, _, _, _, _⟩) (v := ?_) ?_ ?_
  rotate_left
  · intro w hSw
    obtain ⟨⟨p0, p1, p2, p3, p4⟩, ⟨q0, q1, q2, q3, q4⟩⟩ := HS.out w hSw
    go_simp
    try with_reducible rfl
  try simp only [Act.put, List.setIfInBounds_toArray, List.set_cons_zero, List.set_cons_succ]
  refine tkH (i := 11) (oi := ⟨some 16, _, _, _, _, _⟩) (v := ?_) ?_ ?_
  rotate_left
  · intro w hSw
    obtain ⟨⟨p0, p1, p2, p3, p4⟩, ⟨q0, q1, q2, q3, q4⟩⟩ := HS.out w hSw
    go_simp
    try with_reducible rfl
  try simp only [Act.put, List.setIfInBounds_toArray, List.set_cons_zero, List.set_cons_succ]
  refine tkH (i := 12) (oi := ⟨some 17, _, _, _, _, _⟩) (v := ?_) ?_ ?_
  rotate_left
  · intro w hSw
    obtain ⟨⟨p0, p1, p2, p3, p4⟩, ⟨q0, q1, q2, q3, q4⟩⟩ := HS.out w hSw
    go_simp
    try with_reducible rfl
  try simp only [Act.put, List.setIfInBounds_toArray, List.set_cons_zero, List.set_cons_succ]
  refine tkH (i := 13) (oi := ⟨some 18, _, _, _, _, _⟩) (v := ?_) ?_ ?_
  rotate_left
  · intro w hSw
    obtain ⟨⟨p0, p1, p2, p3, p4⟩, ⟨q0, q1, q2, q3, q4⟩⟩ := HS.out w hSw
    go_simp
    try with_reducible rfl
  try simp only [Act.put, List.setIfInBounds_toArray, List.set_cons_zero, List.set_cons_succ]
  refine tkH (i := 14) (oi := ⟨some 19, _, _, _, _, _⟩) (v := ?_) ?_ ?_
  rotate_left
  · intro w hSw
    obtain ⟨⟨p0, p1, p2, p3, p4⟩, ⟨q0, q1, q2, q3, q4⟩⟩ := HS.out w hSw
    go_simp
    try with_reducible rfl
  try simp only [Act.put, List.setIfInBounds_toArray, List.set_cons_zero, List.set_cons_succ]
  refine tkH (i := 15) (oi := ⟨some 20, _, _, _, _, _⟩) (v := ?_) ?_ ?_
  rotate_left
  · intro w hSw
    obtain ⟨⟨p0, p1, p2, p3, p4⟩, ⟨q0, q1, q2, q3, q4⟩⟩ := HS.out w hSw
    go_simp
    try with_reducible rfl
  try simp only [Act.put, List.setIfInBounds_toArray, List.set_cons_zero, List.set_cons_succ]
  refine tkH (i := 16) (oi := ⟨some 21, _, _, _, _, _⟩) (v := ?_) ?_ ?_
  rotate_left
  · intro w hSw
    obtain ⟨⟨p0, p1, p2, p3, p4⟩, ⟨q0, q1, q2, q3, q4⟩⟩ := HS.out w hSw
    go_simp
    try with_reducible rfl
  try simp only [Act.put, List.setIfInBounds_toArray, List.set_cons_zero, List.set_cons_succ]
  refine wpAnyH_ready (rs := [17]) (by kernel_rfl) (by simp) ?_
  refine AllReadyH.cons (o := ⟨some 22, _, _, _, _, _⟩) rfl (fun K hK => ?_) AllReadyH.nil
  go_simp
  go_at_call 101
  refine (equalNil_x _ _ _ _).mono ?_
  rintro e w' ⟨rfl, rfl⟩
  go_wp2_with fail
  refine hK.out _ _ hk (fun hHeld => ?_)
  clear hK K
  try simp only [Act.put, List.setIfInBounds_toArray, List.set_cons_zero, List.set_cons_succ]
  refine tkH (i := 18) (oi := ⟨some 23, _, _, _, _, _⟩) (v := ?_) ?_ ?_
  rotate_left
  · intro w hSw
    obtain ⟨⟨p0, p1, p2, p3, p4⟩, ⟨q0, q1, q2, q3, q4⟩⟩ := HS.out w hSw
    go_simp
    try with_reducible rfl
  try simp only [Act.put, List.setIfInBounds_toArray, List.set_cons_zero, List.set_cons_succ]
  refine tkH (i := 19) (oi := ⟨some 4, _, _, _, _, _⟩) (v := ?_) ?_ ?_
  rotate_left
  · intro w hSw
    obtain ⟨⟨p0, p1, p2, p3, p4⟩, ⟨q0, q1, q2, q3, q4⟩⟩ := HS.out w hSw
    go_simp
    try with_reducible rfl
  try simp only [Act.put, List.setIfInBounds_toArray, List.set_cons_zero, List.set_cons_succ]
  refine wpAnyH_done (by kernel_rfl) ?_ _
  go_wp2
  go_ret
  exact ⟨rfl, nextB hwv hk⟩

def isBare (lo hi mx : Int) (n : Nat) : Bool := decide (lo = 0 ∧ hi = 0 ∧ mx = 0 ∧ n = 0)
theorem equal_e (k lo hi mx : Int) (A : Option Addr) (n c : Nat) (w : World) :
    Calls Tryz.prog 91 #[.agg #[.int .i64 k, .int .i64 lo, .int .i64 hi, .int .i64 mx, .slice A n c], .agg #[.int .i64 k, .int .i64 0, .int .i64 0, .int .i64 0, .slice none 0 0]] w fun e w' => e = .returned (.bool (isBare lo hi mx n)) ∧ Below w.heap.size w w' := by
  by_cases h1 : lo ≠ 0 ∨ hi ≠ 0
  · have hb : isBare lo hi mx n = false := by unfold isBare; rw [decide_eq_false_iff_not]; omega
    rw [hb]
    exact equalCell_x k lo hi mx h1 A n c w
  · obtain ⟨rfl, rfl⟩ : lo = 0 ∧ hi = 0 := by omega
    by_cases h2 : mx = 0
    · subst h2
      by_cases h3 : n = 0
      · subst h3
        exact equalNone_x k A c w
      · have hb : isBare 0 0 0 n = false := by unfold isBare; rw [decide_eq_false_iff_not]; omega
        rw [hb]
        exact equalEls_x k A n c (by simp; omega) w
    · have hb : isBare 0 0 mx n = false := by unfold isBare; rw [decide_eq_false_iff_not]; omega
      rw [hb]
      exact equalMax_x k mx (by simpa using h2) A n c w

/-- Nothing was found; what was there before is as it was. -/
def Fine (w : World) (e : Ending) (w' : World) : Prop := e = .returned (.int .i64 0) ∧ Below w.heap.size w w'
/-- The error x comes back. -/
def FaultIs (x : Int) (w : World) (e : Ending) (w' : World) : Prop := e = .returned (.int .i64 x) ∧ Below w.heap.size w w'

set_option maxHeartbeats 4000000 in
theorem unused_e (T : Ty) (A : Option Addr) (n c : Nat) (w : World) (hn : T.es.length = n) :
    Calls Tryz.prog 76 #[tyV T A n c] w (FaultIs (tunused T) w) := by
  obtain ⟨k, lo, hi, mx, es⟩ := T
  have hu : tunused (.mk k lo hi mx es) = if k = 2 then (if mx = 0 ∧ n = 0 then 0 else 2) else if k = 6 then (if lo = 0 ∧ hi = 0 then 0 else 2) else if k = 5 then (if lo = 0 ∧ hi = 0 ∧ mx = 0 then 0 else 2) else if k = 1 ∨ k = 3 ∨ k = 4 then (if lo = 0 ∧ hi = 0 ∧ mx = 0 ∧ n = 0 then 0 else 2) else 14 := by
    subst hn; rfl
  rw [hu]
  simp only [tyV, Ty.k, Ty.lo, Ty.hi, Ty.mx]
  clear hn hu
  have hcases : (k = 2) ∨ (k = 6) ∨ (k = 5) ∨ (k = 1) ∨ (k = 3) ∨ (k = 4) ∨ (k ≠ 1 ∧ k ≠ 2 ∧ k ≠ 3 ∧ k ≠ 4 ∧ k ≠ 5 ∧ k ≠ 6) := by omega
  have key : ∀ (p : Bool) (q : Prop) [Decidable q], (p = true ↔ q) → (if q then (0 : Int) else 2) = if p then 0 else 2 := by
    intro p q _ h
    by_cases hq : q
    · rw [if_pos hq, h.2 hq]; rfl
    · rw [if_neg hq]
      cases p
      · rfl
      · exact absurd (h.1 rfl) hq
  rcases hcases with rfl | rfl | rfl | rfl | rfl | rfl | ⟨n1, n2, n3, n4, n5, n6⟩
  · have hx : Hid ((if mx = 0 ∧ n = 0 then 0 else 2 : Int) = if isBare 0 0 mx n then (0 : Int) else 2) := by
      show _ = _
      exact key _ _ (by unfold isBare; rw [decide_eq_true_iff] <;> omega)
    rw [if_pos rfl]
    obtain ⟨X, hX⟩ : ∃ X, (if mx = 0 ∧ n = 0 then 0 else 2 : Int) = X := ⟨_, rfl⟩
    rw [hX] at hx ⊢
    obtain ⟨b, hb⟩ : ∃ b, isBare 0 0 mx n = b := ⟨_, rfl⟩
    rw [hb] at hx
    have HB := Lib.hid hb
    clear hX hb key
    go_enter Tryz.func76, Tryz.ntmps76
    go_wp2_with fail
    refine (equal_e _ _ _ _ _ _ _ _).mono ?_
    rintro e w' ⟨rfl, hb⟩
    have hb2 : Below w.heap.size w w' := (((Below.refl _ _).alloc (Nat.le_refl _) _).alloc (by simp) _).trans (hb.mono (by simp; omega))
    clear hb
    rw [HB.out]
    cases b
    · go_wp2
      go_ret
      exact ⟨by rw [hx.out]; rfl, hb2⟩
    · go_wp2
      go_ret
      exact ⟨by rw [hx.out]; rfl, hb2⟩
  · have hx : Hid ((if lo = 0 ∧ hi = 0 then 0 else 2 : Int) = if isBare lo hi 0 0 then (0 : Int) else 2) := by
      show _ = _
      exact key _ _ (by unfold isBare; rw [decide_eq_true_iff] <;> omega)
    rw [if_neg (by decide), if_pos rfl]
    obtain ⟨X, hX⟩ : ∃ X, (if lo = 0 ∧ hi = 0 then 0 else 2 : Int) = X := ⟨_, rfl⟩
    rw [hX] at hx ⊢
    obtain ⟨b, hb⟩ : ∃ b, isBare lo hi 0 0 = b := ⟨_, rfl⟩
    rw [hb] at hx
    have HB := Lib.hid hb
    clear hX hb key
    go_enter Tryz.func76, Tryz.ntmps76
    go_wp2_with fail
    refine (equal_e _ _ _ _ _ _ _ _).mono ?_
    rintro e w' ⟨rfl, hb⟩
    have hb2 : Below w.heap.size w w' := (((Below.refl _ _).alloc (Nat.le_refl _) _).alloc (by simp) _).trans (hb.mono (by simp; omega))
    clear hb
    rw [HB.out]
    cases b
    · go_wp2
      go_ret
      exact ⟨by rw [hx.out]; rfl, hb2⟩
    · go_wp2
      go_ret
      exact ⟨by rw [hx.out]; rfl, hb2⟩
  · have hx : Hid ((if lo = 0 ∧ hi = 0 ∧ mx = 0 then 0 else 2 : Int) = if isBare lo hi mx 0 then (0 : Int) else 2) := by
      show _ = _
      exact key _ _ (by unfold isBare; rw [decide_eq_true_iff] <;> omega)
    rw [if_neg (by decide), if_neg (by decide), if_pos rfl]
    obtain ⟨X, hX⟩ : ∃ X, (if lo = 0 ∧ hi = 0 ∧ mx = 0 then 0 else 2 : Int) = X := ⟨_, rfl⟩
    rw [hX] at hx ⊢
    obtain ⟨b, hb⟩ : ∃ b, isBare lo hi mx 0 = b := ⟨_, rfl⟩
    rw [hb] at hx
    have HB := Lib.hid hb
    clear hX hb key
    go_enter Tryz.func76, Tryz.ntmps76
    go_wp2_with fail
    refine (equal_e _ _ _ _ _ _ _ _).mono ?_
    rintro e w' ⟨rfl, hb⟩
    have hb2 : Below w.heap.size w w' := (((Below.refl _ _).alloc (Nat.le_refl _) _).alloc (by simp) _).trans (hb.mono (by simp; omega))
    clear hb
    rw [HB.out]
    cases b
    · go_wp2
      go_ret
      exact ⟨by rw [hx.out]; rfl, hb2⟩
    · go_wp2
      go_ret
      exact ⟨by rw [hx.out]; rfl, hb2⟩
  · have hx : Hid ((if lo = 0 ∧ hi = 0 ∧ mx = 0 ∧ n = 0 then 0 else 2 : Int) = if isBare lo hi mx n then (0 : Int) else 2) := by
      show _ = _
      exact key _ _ (by unfold isBare; rw [decide_eq_true_iff] <;> omega)
    rw [if_neg (by decide), if_neg (by decide), if_neg (by decide), if_pos (by decide)]
    obtain ⟨X, hX⟩ : ∃ X, (if lo = 0 ∧ hi = 0 ∧ mx = 0 ∧ n = 0 then 0 else 2 : Int) = X := ⟨_, rfl⟩
    rw [hX] at hx ⊢
    obtain ⟨b, hb⟩ : ∃ b, isBare lo hi mx n = b := ⟨_, rfl⟩
    rw [hb] at hx
    have HB := Lib.hid hb
    clear hX hb key
    go_enter Tryz.func76, Tryz.ntmps76
    go_wp2_with fail
    refine (equal_e _ _ _ _ _ _ _ _).mono ?_
    rintro e w' ⟨rfl, hb⟩
    have hb2 : Below w.heap.size w w' := (((Below.refl _ _).alloc (Nat.le_refl _) _).alloc (by simp) _).trans (hb.mono (by simp; omega))
    clear hb
    rw [HB.out]
    cases b
    · go_wp2
      go_ret
      exact ⟨by rw [hx.out]; rfl, hb2⟩
    · go_wp2
      go_ret
      exact ⟨by rw [hx.out]; rfl, hb2⟩
  · have hx : Hid ((if lo = 0 ∧ hi = 0 ∧ mx = 0 ∧ n = 0 then 0 else 2 : Int) = if isBare lo hi mx n then (0 : Int) else 2) := by
      show _ = _
      exact key _ _ (by unfold isBare; rw [decide_eq_true_iff] <;> omega)
    rw [if_neg (by decide), if_neg (by decide), if_neg (by decide), if_pos (by decide)]
    obtain ⟨X, hX⟩ : ∃ X, (if lo = 0 ∧ hi = 0 ∧ mx = 0 ∧ n = 0 then 0 else 2 : Int) = X := ⟨_, rfl⟩
    rw [hX] at hx ⊢
    obtain ⟨b, hb⟩ : ∃ b, isBare lo hi mx n = b := ⟨_, rfl⟩
    rw [hb] at hx
    have HB := Lib.hid hb
    clear hX hb key
    go_enter Tryz.func76, Tryz.ntmps76
    go_wp2_with fail
    refine (equal_e _ _ _ _ _ _ _ _).mono ?_
    rintro e w' ⟨rfl, hb⟩
    have hb2 : Below w.heap.size w w' := (((Below.refl _ _).alloc (Nat.le_refl _) _).alloc (by simp) _).trans (hb.mono (by simp; omega))
    clear hb
    rw [HB.out]
    cases b
    · go_wp2
      go_ret
      exact ⟨by rw [hx.out]; rfl, hb2⟩
    · go_wp2
      go_ret
      exact ⟨by rw [hx.out]; rfl, hb2⟩
  · have hx : Hid ((if lo = 0 ∧ hi = 0 ∧ mx = 0 ∧ n = 0 then 0 else 2 : Int) = if isBare lo hi mx n then (0 : Int) else 2) := by
      show _ = _
      exact key _ _ (by unfold isBare; rw [decide_eq_true_iff] <;> omega)
    rw [if_neg (by decide), if_neg (by decide), if_neg (by decide), if_pos (by decide)]
    obtain ⟨X, hX⟩ : ∃ X, (if lo = 0 ∧ hi = 0 ∧ mx = 0 ∧ n = 0 then 0 else 2 : Int) = X := ⟨_, rfl⟩
    rw [hX] at hx ⊢
    obtain ⟨b, hb⟩ : ∃ b, isBare lo hi mx n = b := ⟨_, rfl⟩
    rw [hb] at hx
    have HB := Lib.hid hb
    clear hX hb key
    go_enter Tryz.func76, Tryz.ntmps76
    go_wp2_with fail
    refine (equal_e _ _ _ _ _ _ _ _).mono ?_
    rintro e w' ⟨rfl, hb⟩
    have hb2 : Below w.heap.size w w' := (((Below.refl _ _).alloc (Nat.le_refl _) _).alloc (by simp) _).trans (hb.mono (by simp; omega))
    clear hb
    rw [HB.out]
    cases b
    · go_wp2
      go_ret
      exact ⟨by rw [hx.out]; rfl, hb2⟩
    · go_wp2
      go_ret
      exact ⟨by rw [hx.out]; rfl, hb2⟩
  · rw [if_neg n2, if_neg n6, if_neg n5, if_neg (by omega)]
    have b1 : (k == 1) = false := by simpa using n1
    have b2 : (k == 2) = false := by simpa using n2
    have b3 : (k == 3) = false := by simpa using n3
    have b4 : (k == 4) = false := by simpa using n4
    have b5 : (k == 5) = false := by simpa using n5
    have b6 : (k == 6) = false := by simpa using n6
    clear n1 n2 n3 n4 n5 n6 key
    go_enter Tryz.func76, Tryz.ntmps76
    go_wp2
    go_ret
    exact ⟨rfl, ((Below.refl _ _).alloc (Nat.le_refl _) _).alloc (by simp) _⟩

set_option maxHeartbeats 4000000 in
theorem range_e (T : Ty) (A : Option Addr) (n c : Nat) (w : World) :
    Calls Tryz.prog 77 #[tyV T A n c] w (FaultIs (if -1000 ≤ T.lo ∧ T.lo ≤ T.hi ∧ T.hi ≤ 1000 then 0 else 1) w) := by
  by_cases hc : -1000 ≤ T.lo ∧ T.lo ≤ T.hi ∧ T.hi ≤ 1000
  · rw [if_pos hc]
    obtain ⟨h1, h2, h3⟩ := hc
    go_enter Tryz.func77, Tryz.ntmps77
    go_wp2
    go_ret
    exact ⟨rfl, allocB _ _⟩
  · rw [if_neg hc]
    by_cases h1 : -1000 ≤ T.lo
    · by_cases h2 : T.lo ≤ T.hi
      · have h3 : 1000 < T.hi := by omega
        clear hc
        go_enter Tryz.func77, Tryz.ntmps77
        go_wp2
        go_ret
        exact ⟨rfl, allocB _ _⟩
      · clear hc
        go_enter Tryz.func77, Tryz.ntmps77
        go_wp2
        go_ret
        exact ⟨rfl, allocB _ _⟩
    · clear hc
      go_enter Tryz.func77, Tryz.ntmps77
      go_wp2
      go_ret
      exact ⟨rfl, allocB _ _⟩

/-- What a type's element shows. -/
theorem TyRd.get {S : Nat → Prop} {w : World} {d : Nat} {T : Ty} {A : Option Addr} {n c : Nat} (h : TyRd S w (d + 1) T A n c) {i : Nat} (hi : i < n) :
    ∃ e g o A' n' c', T.es[i]? = some e ∧ A = some ⟨g, o, none⟩ ∧ S g ∧ g < w.heap.size ∧ TyCells w g (o + i * 5) e A' n' c' ∧ TyRd S w d e A' n' c' := by
  have hl : i < T.es.length := by rw [h.1.1]; exact hi
  obtain ⟨g, o, A', n', c', h1⟩ := h.2 i T.es[i] (List.getElem?_eq_getElem hl)
  exact ⟨T.es[i], g, o, A', n', c', List.getElem?_eq_getElem hl, h1⟩
theorem VlRd.get {S : Nat → Prop} {w : World} {d : Nat} {V : Vl} {A : Option Addr} {n c : Nat} (h : VlRd S w (d + 1) V A n c) {i : Nat} (hi : i < n) :
    ∃ e g o A' n' c', V.es[i]? = some e ∧ A = some ⟨g, o, none⟩ ∧ S g ∧ g < w.heap.size ∧ VlCells w g (o + i * 2) e A' n' c' ∧ VlRd S w d e A' n' c' := by
  have hl : i < V.es.length := by rw [h.1.1]; exact hi
  obtain ⟨g, o, A', n', c', h1⟩ := h.2 i V.es[i] (List.getElem?_eq_getElem hl)
  exact ⟨V.es[i], g, o, A', n', c', List.getElem?_eq_getElem hl, h1⟩

end Go.Proofs.YtklndjkblfncjaaGreatDoor
