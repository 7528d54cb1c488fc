/-
  exactppllaw02.RationalNormal returns true for every two fractions, whatever the memory, if noStep holds what the program's text lays.
-/
import Derived.Test.YthnmjaaelhcbpaaDoorRatF
import Derived.Test.YthnmjaaelhcbpaaDoorRefR1
import Derived.Test.YthnmjaaelhcbpaaDoorRatDiv
import Derived.Deep.AppendLies
namespace Go.Proofs.YthnmjaaelhcbpaaDoor
open Go.RowKit
set_option maxRecDepth 100000

theorem short2_yes {A B : Option Addr} {n c m d : Nat} (s : Bool) (w : World) (h1 : n ≤ 12) (h2 : m ≤ 12) :
    Calls Tryd.prog 25 #[.agg #[.bool s, .slice A n c, .slice B m d]] w (True1 w) := by
  go_enter Tryd.func25, Tryd.ntmps25
  go_wp2
  go_ret
  exact ⟨by simp <;> omega, (Below.refl _ _).alloc (Nat.le_refl _) _⟩
theorem short2_no {A B : Option Addr} {n c m d : Nat} (s : Bool) (w : World) (h : 12 < n ∨ 12 < m) :
    Calls Tryd.prog 25 #[.agg #[.bool s, .slice A n c, .slice B m d]] w fun e w' => e = .returned (.bool false) ∧ Below w.heap.size w w' := by
  by_cases h1 : 12 < n
  · go_enter Tryd.func25, Tryd.ntmps25
    go_wp2
    go_ret
    exact ⟨by simp <;> omega, (Below.refl _ _).alloc (Nat.le_refl _) _⟩
  · have h2 : 12 < m := by omega
    go_enter Tryd.func25, Tryd.ntmps25
    go_wp2
    go_ret
    exact ⟨by simp <;> omega, (Below.refl _ _).alloc (Nat.le_refl _) _⟩

theorem refNormal_yes {w : World} {A : Option Addr} {n c : Nat} {x : Int} (h : Nrm w A n c x) : Calls Tryd.prog 34 #[.slice A n c] w (True1 w) := by
  obtain ⟨L, hr, hI⟩ := h
  have hcap := hr.cap
  have htop := hr.top
  unfold maxLen at htop
  rcases Nat.eq_zero_or_pos n with h0 | h0
  · subst h0
    clear hr hI
    go_enter Tryd.func34, Tryd.ntmps34
    go_wp2
    go_ret
    exact ⟨rfl, Below.refl _ _⟩
  · obtain ⟨k, rfl⟩ : ∃ k, n = k + 1 := ⟨n - 1, by omega⟩
    have hne := last_ne hI.nrm k hr.len
    obtain ⟨ad, rfl, _, hc⟩ := hr.at_ h0
    have hck := hc k (by omega)
    generalize L.getD k 0 = z at hne hck
    have hz : (z != 0) = true := by simpa using hne
    clear hr hI hc
    go_enter Tryd.func34, Tryd.ntmps34
    go_wp2
    go_ret
    exact ⟨rfl, Below.refl _ _⟩


/-- A fraction's three parts. -/
structure It where
  s : Bool
  A : Option Addr
  n : Nat
  c : Nat
  B : Option Addr
  m : Nat
  d : Nat
def It.cs (t : It) : List Value := [.bool t.s, .slice t.A t.n t.c, .slice t.B t.m t.d]
def icells : List It → List Value
  | [] => []
  | t :: r => t.cs ++ icells r
def It.ok (w : World) (t : It) : Prop := ∃ q, RN w t.s t.A t.n t.c t.B t.m t.d q 60
theorem It.ok.below {w w' : World} {t : It} (h : t.ok w) (hb : Below w.heap.size w w') : t.ok w' := by
  obtain ⟨q, h⟩ := h
  exact ⟨q, h.below hb⟩
theorem icells_length (l : List It) : (icells l).length = l.length * 3 := by
  induction l with
  | nil => rfl
  | cons t r ih => simp only [icells, It.cs, List.length_append, ih, List.length_cons, List.length_nil]; omega
theorem icells_append (l r : List It) : icells (l ++ r) = icells l ++ icells r := by
  induction l with
  | nil => rfl
  | cons t l ih => simp only [icells, List.cons_append, ih, List.append_assoc]
theorem icells_get (l : List It) : ∀ i, (h : i < l.length) → (icells l)[i * 3]? = some (.bool l[i].s) ∧ (icells l)[i * 3 + 1]? = some (.slice l[i].A l[i].n l[i].c) ∧ (icells l)[i * 3 + 2]? = some (.slice l[i].B l[i].m l[i].d) := by
  induction l with
  | nil => intro i h; simp at h
  | cons t r ih =>
    intro i h
    match i, h with
    | 0, _ => exact ⟨rfl, rfl, rfl⟩
    | j + 1, h =>
      have e : ∀ k, (icells (t :: r))[(j + 1) * 3 + k]? = (icells r)[j * 3 + k]? := fun k => by
        show (t.cs ++ icells r)[(j + 1) * 3 + k]? = _
        rw [List.getElem?_append_right (by simp only [It.cs, List.length_cons, List.length_nil]; omega)]
        congr 1
        simp only [It.cs, List.length_cons, List.length_nil]; omega
      have h' : j < r.length := by simpa using h
      obtain ⟨h1, h2, h3⟩ := ih j h'
      exact ⟨(e 0).trans h1, (e 1).trans h2, (e 2).trans h3⟩
theorem oneCell_icells (l : List It) : ∀ u ∈ icells l, u.oneCell' = true := by
  induction l with
  | nil => intro u h; cases h
  | cons t r ih =>
    intro u h
    rcases List.mem_append.1 h with h | h
    · simp only [It.cs, List.mem_cons, List.not_mem_nil, or_false] at h
      rcases h with rfl | rfl | rfl <;> rfl
    · exact ih u h
theorem RN.neg_ne {w : World} {s : Bool} {A B : Option Addr} {n c m d k : Nat} {q : Rat} (h : RN w s A n c B m d q k) (hs : s = true) : n ≠ 0 := by
  obtain ⟨h1, h2, _⟩ := h
  intro e
  have h3 := h2.len_iff.1 e
  rw [hs] at h1
  have h4 : q.num < 0 := of_decide_eq_true h1.symm
  omega
theorem RN.den_ne {w : World} {s : Bool} {A B : Option Addr} {n c m d k : Nat} {q : Rat} (h : RN w s A n c B m d q k) : m ≠ 0 := by
  obtain ⟨h1, _, h2, _⟩ := h
  intro e
  have h3 := h2.len_iff.1 e
  have h4 := q.den_nz
  omega
theorem same_c {w : World} {A B : Option Addr} {n c m d : Nat} {x y : Int} (hx : Nrm w A n c x) (hy : Nrm w B m d y) (e : x = y) : Calls Tryd.prog 16 #[.slice A n c, .slice B m d] w (True1 w) :=
  (same_n hx hy e).mono fun e w' h => by
    obtain ⟨he, k, rfl⟩ := h
    exact ⟨he, drewN_below (Below.refl _ _) k⟩
theorem nrm_one (w : World) : Nrm (w.alloc (.cells #[.int .u32 1] 48)) (some ⟨w.heap.size, 0, none⟩) 1 1 1 := ⟨[1], lit1 w 1 (by decide) (by decide), is_one (by decide) (by decide)⟩
theorem gcd_lowest (q : Rat) : ((Int.gcd (q.num.natAbs : Int) (q.den : Int) : Nat) : Int) = 1 := by
  have h := q.reduced
  unfold Nat.Coprime at h
  show ((Nat.gcd q.num.natAbs q.den : Nat) : Int) = 1
  rw [h]; rfl
theorem Nrm.grew {w w' : World} {A : Option Addr} {n c g : Nat} {x : Int} (h : Nrm w A n c x) (hne : 0 < n → ∀ a, A = some a → a.block ≠ g) (hg : w.grownBy w' (some g)) : Nrm w' A n c x := by
  obtain ⟨L, hr, hI⟩ := h
  refine ⟨L, ⟨hr.len, hr.lims, hr.cap, hr.top, fun hn => ?_⟩, hI⟩
  obtain ⟨ad, e, hbl, hc⟩ := hr.at_ hn
  have h2 := hne hn ad e
  exact ⟨ad, e, Nat.lt_of_lt_of_le hbl hg.size, fun i hi => (hg.cell_far (ad.add i) (by rw [addr_block]; exact hbl) (by rw [addr_block]; intro e; injection e with e; exact h2 e)).trans (hc i hi)⟩
/-- In normal form, and none of its slices in block g. -/
def It.okg (w : World) (g : Nat) (t : It) : Prop := ∃ q, RN w t.s t.A t.n t.c t.B t.m t.d q 60 ∧ (0 < t.n → ∀ a, t.A = some a → a.block ≠ g) ∧ (0 < t.m → ∀ a, t.B = some a → a.block ≠ g)
theorem It.okg.ok {w : World} {g : Nat} {t : It} (h : t.okg w g) : t.ok w := by
  obtain ⟨q, h, _⟩ := h
  exact ⟨q, h⟩
theorem It.okg.below {w w' : World} {g : Nat} {t : It} (h : t.okg w g) (hb : Below w.heap.size w w') : t.okg w' g := by
  obtain ⟨q, h, h2⟩ := h
  exact ⟨q, h.below hb, h2⟩
theorem It.okg.grew {w w' : World} {g : Nat} {t : It} (h : t.okg w g) (hg : w.grownBy w' (some g)) : t.ok w' := by
  obtain ⟨q, h, h1, h2⟩ := h
  exact ⟨q, h.1, h.2.1.grew h1 hg, h.2.2.1.grew h2 hg, h.2.2.2⟩
theorem It.okg.mk {w u : World} {s : Bool} {A B : Option Addr} {n c m d k : Nat} {q : Rat} (h : RN w s A n c B m d q k) (hk : k ≤ 60) (hb : Below w.heap.size w u) {g : Nat} (hg : w.heap.size ≤ g) : (It.mk s A n c B m d).okg u g :=
  ⟨q, (h.below hb).mono hk, fun h0 a e => by have := h.2.1.old h0 a e; omega, fun h0 a e => by have := h.2.2.1.old h0 a e; omega⟩
theorem three_new (w : World) (x y z : Value) (t : TypeId) : ∀ j u, [x, y, z][j]? = some u → (w.alloc (.cells #[x, y, z] t)).cell? ((⟨w.heap.size, 0, none⟩ : Addr).add j) = some u := by
  intro j u hj
  rw [add_plain, Nat.zero_add, World.cell?_alloc_new]
  rw [← hj]
  match j with
  | 0 | 1 | 2 => rfl
  | k + 3 => rfl
theorem info_rat : (Tryd.prog.info? 40).map (fun i => (i.zero, i.size, i.bytes)) = some (some (.agg #[.bool false, .slice none 0 0, .slice none 0 0]), 3, 56) := by kernel_rfl


set_option maxHeartbeats 40000000 in
theorem rationalNormal.walk {Aa Ba Ab Bb : Option Addr} {na ca ma da nb cb mb db : Nat} {sa sb : Bool} {xa ya xb yb : Int} {w : World} (hl : Laid w) (gx : Num w Aa na ca xa) (gy : Num w Ba ma da ya) (hx : Num w Ab nb cb xb) (hy : Num w Bb mb db yb) :
    Calls Tryd.prog 5 #[.agg #[.bool sa, .slice Aa na ca, .slice Ba ma da], .agg #[.bool sb, .slice Ab nb cb, .slice Bb mb db]] w (True1 w) := by
  obtain ⟨v, hv⟩ : ∃ v, (w.alloc (.cells #[.bool sa, .slice Aa na ca, .slice Ba ma da] 40)).alloc (.cells #[.bool sb, .slice Ab nb cb, .slice Bb mb db] 40) = v := ⟨_, rfl⟩
  obtain ⟨p, hp, _, bv, h_a, h_b, _⟩ := boxes1 w _ _ _ _ _ _ _ _ v hv
  have HCA := Lib.hid h_a
  have HCB := Lib.hid h_b
  have HP := Lib.hid hp
  have HV := Lib.hid hv
  replace gx := gx.below bv
  replace gy := gy.below bv
  replace hx := hx.below bv
  replace hy := hy.below bv
  have hl0 := hl
  replace hl := hl.below bv
  clear h_a h_b hp hv
  go_enter Tryd.func5, Tryd.ntmps5
  obtain ⟨a0, a1, a2⟩ := HCA.out _ (Below.refl _ _)
  obtain ⟨b0, b1, b2⟩ := HCB.out _ (Below.refl _ _)
  rw [← HV.out, HP.out] at a0 a1 a2 b0 b1 b2
  go_wp2_with fail
  rw [HV.out, ← HP.out]
  clear a0 a1 a2 b0 b1 b2
  by_cases h1 : 12 < na ∨ 12 < ma
  · refine (short2_no sa v h1).mono ?_
    rintro e w1 ⟨rfl, k1⟩
    obtain ⟨a0, a1, a2⟩ := HCA.out _ k1
    obtain ⟨b0, b1, b2⟩ := HCB.out _ k1
    go_wp2_with fail
    refine (awake2_any w1 (hl.below k1)).mono ?_
    rintro e w2 ⟨rfl, k2⟩
    go_wp2
    go_ret
    exact ⟨rfl, nextB bv (nextB k1 k2)⟩
  refine (short2_yes sa v (by omega) (by omega)).mono ?_
  rintro e w1 ⟨rfl, k1⟩
  obtain ⟨a0, a1, a2⟩ := HCA.out _ k1
  obtain ⟨b0, b1, b2⟩ := HCB.out _ k1
  go_wp2_with fail
  clear a0 a1 a2 b0 b1 b2
  by_cases h2 : 12 < nb ∨ 12 < mb
  · refine (short2_no sb w1 h2).mono ?_
    rintro e w2 ⟨rfl, k2⟩
    obtain ⟨a0, a1, a2⟩ := HCA.out _ (nextB k1 k2)
    obtain ⟨b0, b1, b2⟩ := HCB.out _ (nextB k1 k2)
    go_wp2_with fail
    refine (awake2_any w2 (hl.below (nextB k1 k2))).mono ?_
    rintro e w3 ⟨rfl, k3⟩
    go_wp2
    go_ret
    exact ⟨rfl, nextB bv (nextB (nextB k1 k2) k3)⟩
  refine (short2_yes sb w1 (by omega) (by omega)).mono ?_
  rintro e w2 ⟨rfl, k2⟩
  have k12 := nextB k1 k2
  obtain ⟨qa, hqa⟩ : ∃ qa, rat sa xa ya = qa := ⟨_, rfl⟩
  obtain ⟨qb, hqb⟩ : ∃ qb, rat sb xb yb = qb := ⟨_, rfl⟩
  have la : Loose w2 sa Aa na ca Ba ma da qa 12 := ⟨xa, ya, gx.below k12, gy.below k12, hqa, by omega, by omega⟩
  have lb : Loose w2 sb Ab nb cb Bb mb db qb 12 := ⟨xb, yb, hx.below k12, hy.below k12, hqb, by omega, by omega⟩
  have hlu := hl.below k12
  have bwu := nextB bv k12
  have HCA2 := Lib.hid (fun W (hb : Below w2.heap.size w2 W) => HCA.out W (nextB k12 hb))
  have HCB2 := Lib.hid (fun W (hb : Below w2.heap.size w2 W) => HCB.out W (nextB k12 hb))
  have hna : na ≤ 12 := by omega
  clear HCA HCB gx gy hx hy hl bv k1 k2 k12 h1 h2 hqa hqb
  go_upto_region 3 with fail
  have hk : Below w2.heap.size w2 w2.drew := (Below.refl _ _).drew
  refine wp_region_held_drew (S := (fun W => (W.cell? ⟨p, 0, none⟩ = some (.bool sa) ∧ W.cell? ⟨p, 1, none⟩ = some (.slice Aa na ca) ∧ W.cell? ⟨p, 2, none⟩ = some (.slice Ba ma da)) ∧ (W.cell? ⟨p + 1, 0, none⟩ = some (.bool sb) ∧ W.cell? ⟨p + 1, 1, none⟩ = some (.slice Ab nb cb) ∧ W.cell? ⟨p + 1, 2, none⟩ = some (.slice Bb mb db)))) (by kernel_rfl) ?_ (fun hHeld => ?_)
  · exact ⟨HCA2.out _ hk, HCB2.out _ hk⟩
  refine wpAnyH_take (i := 0) (oi := ⟨some 19, _, _, _, _, _⟩) (v := ?_) rfl (by kernel_rfl) (by kernel_rfl) (by kernel_rfl) (fun _ _ _ h => h) (Or.inl ⟨by rfl, ?_⟩) (by assumption) ?_
  rotate_left
  · intro w hSw
    (try dsimp only at hSw)
    go_simp
    try with_reducible rfl
  try simp only [Act.put, List.setIfInBounds_toArray, List.set_cons_zero, List.set_cons_succ]
  refine wpAnyH_take (i := 2) (oi := ⟨some 21, _, _, _, _, _⟩) (v := ?_) rfl (by kernel_rfl) (by kernel_rfl) (by kernel_rfl) (fun _ _ _ h => h) (Or.inl ⟨by rfl, ?_⟩) (by assumption) ?_
  rotate_left
  · intro w hSw
    (try dsimp only at hSw)
    go_simp
    try with_reducible rfl
  try simp only [Act.put, List.setIfInBounds_toArray, List.set_cons_zero, List.set_cons_succ]
  refine wpAnyH_take (i := 3) (oi := ⟨some 22, _, _, _, _, _⟩) (v := ?_) rfl (by kernel_rfl) (by kernel_rfl) (by kernel_rfl) (fun _ _ _ h => h) (Or.inl ⟨by rfl, ?_⟩) (by assumption) ?_
  rotate_left
  · intro w hSw
    (try dsimp only at hSw)
    go_simp
    try with_reducible rfl
  try simp only [Act.put, List.setIfInBounds_toArray, List.set_cons_zero, List.set_cons_succ]
  refine wpAnyH_take (i := 5) (oi := ⟨some 24, _, _, _, _, _⟩) (v := ?_) rfl (by kernel_rfl) (by kernel_rfl) (by kernel_rfl) (fun _ _ _ h => h) (Or.inl ⟨by rfl, ?_⟩) (by assumption) ?_
  rotate_left
  · intro w hSw
    (try dsimp only at hSw)
    go_simp
    try with_reducible rfl
  try simp only [Act.put, List.setIfInBounds_toArray, List.set_cons_zero, List.set_cons_succ]
  refine wpAnyH_take (i := 6) (oi := ⟨some 25, _, _, _, _, _⟩) (v := ?_) rfl (by kernel_rfl) (by kernel_rfl) (by kernel_rfl) (fun _ _ _ h => h) (Or.inl ⟨by rfl, ?_⟩) (by assumption) ?_
  rotate_left
  · intro w hSw
    (try dsimp only at hSw)
    go_simp
    try with_reducible rfl
  try simp only [Act.put, List.setIfInBounds_toArray, List.set_cons_zero, List.set_cons_succ]
  refine wpAnyH_take (i := 8) (oi := ⟨some 27, _, _, _, _, _⟩) (v := ?_) rfl (by kernel_rfl) (by kernel_rfl) (by kernel_rfl) (fun _ _ _ h => h) (Or.inl ⟨by rfl, ?_⟩) (by assumption) ?_
  rotate_left
  · intro w hSw
    (try dsimp only at hSw)
    go_simp
    try with_reducible rfl
  try simp only [Act.put, List.setIfInBounds_toArray, List.set_cons_zero, List.set_cons_succ]
  refine wpAnyH_take (i := 9) (oi := ⟨some 28, _, _, _, _, _⟩) (v := ?_) rfl (by kernel_rfl) (by kernel_rfl) (by kernel_rfl) (fun _ _ _ h => h) (Or.inl ⟨by rfl, ?_⟩) (by assumption) ?_
  rotate_left
  · intro w hSw
    (try dsimp only at hSw)
    go_simp
    try with_reducible rfl
  try simp only [Act.put, List.setIfInBounds_toArray, List.set_cons_zero, List.set_cons_succ]
  refine wpAnyH_take (i := 11) (oi := ⟨some 30, _, _, _, _, _⟩) (v := ?_) rfl (by kernel_rfl) (by kernel_rfl) (by kernel_rfl) (fun _ _ _ h => h) (Or.inl ⟨by rfl, ?_⟩) (by assumption) ?_
  rotate_left
  · intro w hSw
    (try dsimp only at hSw)
    go_simp
    try with_reducible rfl
  try simp only [Act.put, List.setIfInBounds_toArray, List.set_cons_zero, List.set_cons_succ]
  refine wpAnyH_take (i := 13) (oi := ⟨some 32, _, _, _, _, _⟩) (v := ?_) rfl (by kernel_rfl) (by kernel_rfl) (by kernel_rfl) (fun _ _ _ h => h) (Or.inl ⟨by rfl, ?_⟩) (by assumption) ?_
  rotate_left
  · intro w hSw
    (try dsimp only at hSw)
    go_simp
    try with_reducible rfl
  try simp only [Act.put, List.setIfInBounds_toArray, List.set_cons_zero, List.set_cons_succ]
  refine wpAnyH_take (i := 14) (oi := ⟨some 33, _, _, _, _, _⟩) (v := ?_) rfl (by kernel_rfl) (by kernel_rfl) (by kernel_rfl) (fun _ _ _ h => h) (Or.inl ⟨by rfl, ?_⟩) (by assumption) ?_
  rotate_left
  · intro w hSw
    (try dsimp only at hSw)
    go_simp
    try with_reducible rfl
  try simp only [Act.put, List.setIfInBounds_toArray, List.set_cons_zero, List.set_cons_succ]
  refine wpAnyH_take (i := 15) (oi := ⟨some 34, _, _, _, _, _⟩) (v := ?_) rfl (by kernel_rfl) (by kernel_rfl) (by kernel_rfl) (fun _ _ _ h => h) (Or.inl ⟨by rfl, ?_⟩) (by assumption) ?_
  rotate_left
  · intro w hSw
    (try dsimp only at hSw)
    go_simp
    try with_reducible rfl
  try simp only [Act.put, List.setIfInBounds_toArray, List.set_cons_zero, List.set_cons_succ]
  refine wpAnyH_take (i := 16) (oi := ⟨some 35, _, _, _, _, _⟩) (v := ?_) rfl (by kernel_rfl) (by kernel_rfl) (by kernel_rfl) (fun _ _ _ h => h) (Or.inl ⟨by rfl, ?_⟩) (by assumption) ?_
  rotate_left
  · intro w hSw
    (try dsimp only at hSw)
    go_simp
    try with_reducible rfl
  try simp only [Act.put, List.setIfInBounds_toArray, List.set_cons_zero, List.set_cons_succ]
  refine wpAnyH_ready (rs := [1]) (by kernel_rfl) (by simp) ?_
  refine AllReadyH.cons (o := ⟨some 20, _, _, _, _, _⟩) rfl (fun K hK => ?_) AllReadyH.nil
  go_simp
  go_at_call 27
  refine (norm_r (hlu.below hk) (la.below hk) (by omega) (by omega)).mono ?_
  rintro e w' ⟨s1, A1, n1, c1, B1, m1, d1, rfl, r1, _, _, e1⟩
  replace hk := nextB hk e1
  go_wp2_with fail
  refine hK.out _ _ ⟨HCA2.out _ hk, HCB2.out _ hk⟩ (fun hHeld => ?_)
  clear hK K
  try simp only [Act.put, List.setIfInBounds_toArray, List.set_cons_zero, List.set_cons_succ]
  refine wpAnyH_ready (rs := [4]) (by kernel_rfl) (by simp) ?_
  refine AllReadyH.cons (o := ⟨some 23, _, _, _, _, _⟩) rfl (fun K hK => ?_) AllReadyH.nil
  go_simp
  go_at_call 28
  refine (add_r (hlu.below hk) (la.below hk) (lb.below hk) (by omega) (by omega) (by omega) (by omega)).mono ?_
  rintro e w' ⟨s2, A2, n2, c2, B2, m2, d2, rfl, r2, _, _, e2⟩
  replace hk := nextB hk e2
  go_wp2_with fail
  refine hK.out _ _ ⟨HCA2.out _ hk, HCB2.out _ hk⟩ (fun hHeld => ?_)
  clear hK K
  try simp only [Act.put, List.setIfInBounds_toArray, List.set_cons_zero, List.set_cons_succ]
  refine wpAnyH_ready (rs := [7]) (by kernel_rfl) (by simp) ?_
  refine AllReadyH.cons (o := ⟨some 26, _, _, _, _, _⟩) rfl (fun K hK => ?_) AllReadyH.nil
  go_simp
  go_at_call 29
  refine (sub_r (hlu.below hk) (la.below hk) (lb.below hk) (by omega) (by omega) (by omega) (by omega)).mono ?_
  rintro e w' ⟨s3, A3, n3, c3, B3, m3, d3, rfl, r3, _, _, e3⟩
  replace hk := nextB hk e3
  go_wp2_with fail
  refine hK.out _ _ ⟨HCA2.out _ hk, HCB2.out _ hk⟩ (fun hHeld => ?_)
  clear hK K
  try simp only [Act.put, List.setIfInBounds_toArray, List.set_cons_zero, List.set_cons_succ]
  refine wpAnyH_ready (rs := [10]) (by kernel_rfl) (by simp) ?_
  refine AllReadyH.cons (o := ⟨some 29, _, _, _, _, _⟩) rfl (fun K hK => ?_) AllReadyH.nil
  go_simp
  go_at_call 30
  refine (mul_r (hlu.below hk) (la.below hk) (lb.below hk) (by omega) (by omega) (by omega) (by omega)).mono ?_
  rintro e w' ⟨s4, A4, n4, c4, B4, m4, d4, rfl, r4, _, _, e4⟩
  replace hk := nextB hk e4
  go_wp2_with fail
  refine hK.out _ _ ⟨HCA2.out _ hk, HCB2.out _ hk⟩ (fun hHeld => ?_)
  clear hK K
  try simp only [Act.put, List.setIfInBounds_toArray, List.set_cons_zero, List.set_cons_succ]
  refine wpAnyH_ready (rs := [12]) (by kernel_rfl) (by simp) ?_
  refine AllReadyH.cons (o := ⟨some 31, _, _, _, _, _⟩) rfl (fun K hK => ?_) AllReadyH.nil
  go_simp
  go_at_call 31
  refine (neg_r (hlu.below hk) (la.below hk) (by omega) (by omega)).mono ?_
  rintro e w' ⟨s5, A5, n5, c5, B5, m5, d5, rfl, r5, _, _, e5⟩
  replace hk := nextB hk e5
  go_wp2_with fail
  refine hK.out _ _ ⟨HCA2.out _ hk, HCB2.out _ hk⟩ (fun hHeld => ?_)
  clear hK K
  try simp only [Act.put, List.setIfInBounds_toArray, List.set_cons_zero, List.set_cons_succ]
  refine wpAnyH_ready (rs := [17]) (by kernel_rfl) (by simp) ?_
  refine AllReadyH.cons (o := ⟨some 36, _, _, _, _, _⟩) rfl (fun K hK => ?_) AllReadyH.nil
  go_simp
  go_at_call 32
  refine (int_r (hlu.below hk) (by rw [IntKind.wrap_i64]; omega) (by rw [IntKind.wrap_i64]; omega)).mono ?_
  rintro e w' ⟨s6, A6, n6, c6, B6, m6, d6, rfl, r6, _, _, e6⟩
  replace hk := nextB hk e6
  go_wp2_with fail
  refine hK.out _ _ ⟨HCA2.out _ hk, HCB2.out _ hk⟩ (fun hHeld => ?_)
  clear hK K
  try simp only [Act.put, List.setIfInBounds_toArray, List.set_cons_zero, List.set_cons_succ]
  refine wpAnyH_ready (rs := [18]) (by kernel_rfl) (by simp) ?_
  refine AllReadyH.cons (o := ⟨some 37, _, _, _, _, _⟩) rfl (fun K hK => ?_) AllReadyH.nil
  go_simp
  skip
  refine hK.out _ _ ⟨HCA2.out _ (hk.alloc hk.size _), HCB2.out _ (hk.alloc hk.size _)⟩ (fun hHeld => ?_)
  clear hK K
  try simp only [Act.put, List.setIfInBounds_toArray, List.set_cons_zero, List.set_cons_succ]
  refine wpAnyH_take (i := 19) (oi := ⟨some 5, _, _, _, _, _⟩) (v := ?_) rfl (by kernel_rfl) (by kernel_rfl) (by kernel_rfl) (fun _ _ _ h => h) (Or.inl ⟨by rfl, ?_⟩) (by assumption) ?_
  rotate_left
  · intro w hSw
    (try dsimp only at hSw)
    go_simp
    try with_reducible rfl
  try simp only [Act.put, List.setIfInBounds_toArray, List.set_cons_zero, List.set_cons_succ]
  refine wpAnyH_done (by kernel_rfl) ?_ _
  obtain ⟨u, hu⟩ : ∃ u, w'.alloc (.cells #[.bool s1, .slice A1 n1 c1, .slice B1 m1 d1, .bool s2, .slice A2 n2 c2, .slice B2 m2 d2, .bool s3, .slice A3 n3 c3, .slice B3 m3 d3, .bool s4, .slice A4 n4 c4, .slice B4 m4 d4, .bool s5, .slice A5 n5 c5, .slice B5 m5 d5, .bool s6, .slice A6 n6 c6, .slice B6 m6 d6] 40) = u := ⟨_, rfl⟩
  have hrow : (w'.alloc (.cells #[.bool s1, .slice A1 n1 c1, .slice B1 m1 d1, .bool s2, .slice A2 n2 c2, .slice B2 m2 d2, .bool s3, .slice A3 n3 c3, .slice B3 m3 d3, .bool s4, .slice A4 n4 c4, .slice B4 m4 d4, .bool s5, .slice A5 n5 c5, .slice B5 m5 d5, .bool s6, .slice A6 n6 c6, .slice B6 m6 d6] 40)).ownsRow w2.heap.size 40 3 (.slice (some ⟨w'.heap.size, 0, none⟩) 6 6) 6 (icells [⟨s1, A1, n1, c1, B1, m1, d1⟩, ⟨s2, A2, n2, c2, B2, m2, d2⟩, ⟨s3, A3, n3, c3, B3, m3, d3⟩, ⟨s4, A4, n4, c4, B4, m4, d4⟩, ⟨s5, A5, n5, c5, B5, m5, d5⟩, ⟨s6, A6, n6, c6, B6, m6, d6⟩]) := World.ownsRow_lit w' _ 6 hk.size (by decide) rfl
  have bu : Below w'.heap.size w' u := by rw [← hu]; exact (Below.refl _ _).alloc (Nat.le_refl _) _
  rw [hu] at hrow ⊢
  obtain ⟨l6, hl6⟩ : ∃ l6 : List It, [⟨s1, A1, n1, c1, B1, m1, d1⟩, ⟨s2, A2, n2, c2, B2, m2, d2⟩, ⟨s3, A3, n3, c3, B3, m3, d3⟩, ⟨s4, A4, n4, c4, B4, m4, d4⟩, ⟨s5, A5, n5, c5, B5, m5, d5⟩, ⟨s6, A6, n6, c6, B6, m6, d6⟩] = l6 := ⟨_, rfl⟩
  have hlen : l6.length = 6 := by rw [← hl6]; rfl
  have hok : ∀ t ∈ l6, It.okg u w'.heap.size t := by
    rw [← hl6]
    intro t ht
    simp only [List.mem_cons, List.not_mem_nil, or_false] at ht
    rcases ht with rfl | rfl | rfl | rfl | rfl | rfl
    · exact It.okg.mk r1 (by omega) (nextB (nextB (nextB (nextB (nextB e2 e3) e4) e5) e6) bu) (by have := e2.size; have := e3.size; have := e4.size; have := e5.size; have := e6.size; omega)
    · exact It.okg.mk r2 (by omega) (nextB (nextB (nextB (nextB e3 e4) e5) e6) bu) (by have := e3.size; have := e4.size; have := e5.size; have := e6.size; omega)
    · exact It.okg.mk r3 (by omega) (nextB (nextB (nextB e4 e5) e6) bu) (by have := e4.size; have := e5.size; have := e6.size; omega)
    · exact It.okg.mk r4 (by omega) (nextB (nextB e5 e6) bu) (by have := e5.size; have := e6.size; omega)
    · exact It.okg.mk r5 (by omega) (nextB e6 bu) (by have := e6.size; omega)
    · exact It.okg.mk r6 (by omega) bu (by omega)
  rw [hl6] at hrow
  have HR := Lib.hid hrow
  have HO := Lib.hid hok
  have HL := Lib.hid hlen
  replace hk := nextB hk bu
  clear hrow hok hlen hl6 hu bu hHeld r1 r2 r3 r4 r5 r6 e1 e2 e3 e4 e5 e6
  obtain ⟨g, hg⟩ : ∃ g, w'.heap.size = g := ⟨_, rfl⟩
  rw [hg] at HR HO ⊢
  clear hg
  have hgu := (World.ownsRow.lt HR.out g rfl).2
  have hw2s := bwu.size
  obtain ⟨a0, a1, a2⟩ := HCA2.out _ hk
  obtain ⟨b0, b1, b2⟩ := HCB2.out _ hk
  have bwk := nextB bwu hk
  have hlk := hlu.below hk
  replace la := la.below hk
  replace lb := lb.below hk
  have hbase := hk.size
  clear HCA2 HCB2 bwu hlu hk hna
  by_cases q0 : qb = 0
  · have HD := Lib.hid (div_zero la lb (by omega) q0)
    clear q0
    go_wp2_with fail
    refine HD.out.mono ?_
    rintro e w3 ⟨rfl, b3⟩
    clear HD a0 a1 a2 b0 b1 b2
    go_upto_region 7 with fail
    obtain ⟨w4, hw4⟩ : ∃ w4, w3.alloc (.cells #[.bool false, .slice none 0 0, .slice none 0 0] 40) = w4 := ⟨_, rfl⟩
    rw [hw4]
    have b34 : Below u.heap.size u w4 := nextB b3 (by rw [← hw4]; exact (Below.refl _ _).alloc (Nat.le_refl _) _)
    have HR4 := Lib.hid (row_below HR.out b34)
    have HO4 : Hid (∀ t ∈ l6, It.ok w4 t) := fun t h => ((HO.out t h).below b34).ok
    have bw4 := nextB bwk b34
    have hl4 := hlk.below b34
    clear HR HO b34 b3 hw4 hlk bwk la lb
    go_wp2_with fail
    go_loopw [8] (fun iv wr => ∃ i : Nat, iv = .int .i64 i ∧ i ≤ 6 ∧ Below w4.heap.size w4 wr) (fun iv _ => 6 - (intOf iv).toNat)
    case atStart => exact ⟨0, rfl, by omega, Below.refl _ _⟩
    case round =>
      obtain ⟨i, rfl, hi, hbr⟩ := hrel
      by_cases hlt : i < 6
      · have hrow' := row_below HR4.out hbr
        have hil : i < l6.length := by rw [HL.out]; exact hlt
        obtain ⟨y0, y1, y2⟩ := icells_get l6 i hil
        have hokt := (HO4.out _ (List.getElem_mem hil)).below hbr
        generalize l6[i] = t at y0 y1 y2 hokt
        obtain ⟨ts, tA, tn, tc, tB, tm, td⟩ := t
        have x0 := (hrow'.cellAt (i * 3) (by omega)).trans y0
        have x1 := (hrow'.cellAt (i * 3 + 1) (by omega)).trans y1
        have x2 := (hrow'.cellAt (i * 3 + 2) (by omega)).trans y2
        obtain ⟨qt, rt⟩ := hokt
        dsimp only at x0 x1 x2 rt
        have hdn := rt.den_ne
        have hnn := rt.neg_ne
        obtain ⟨hd1, hd2, hd3, hd4, hd5⟩ := id rt
        have HD2 := Lib.hid hd2
        have HD3 := Lib.hid hd3
        have HRT := Lib.hid rt
        have hm0 : ((tm : Int) == 0) = false := by simp; omega
        clear hrow' y0 y1 y2 hil hd1 hd2 hd3 rt
        obtain ⟨bx, hbx⟩ : ∃ bx, wr.alloc (.cells #[.bool ts, .slice tA tn tc, .slice tB tm td] 40) = bx := ⟨_, rfl⟩
        obtain ⟨pb, hpb, _, bb, h_b, _⟩ := boxes0 wr _ _ _ _ bx hbx
        have HCB := Lib.hid h_b
        have HPB := Lib.hid hpb
        have HBX := Lib.hid hbx
        clear hbx hpb h_b
        go_upto_region 11 with fail
        rw [HBX.out, ← HPB.out]
        obtain ⟨z0, z1, z2⟩ := HCB.out _ (Below.refl _ _)
        clear x0 x1 x2
        go_wp2_with fail
        refine (refNormal_yes (HD2.out.below bb)).mono ?_
        rintro e w5 ⟨rfl, b5⟩
        clear z0 z1 z2
        obtain ⟨z0, z1, z2⟩ := HCB.out _ b5
        go_wp2_with fail
        refine (refNormal_yes (HD3.out.below (nextB bb b5))).mono ?_
        rintro e w6 ⟨rfl, b6⟩
        have k6 := nextB b5 b6
        clear z0 z1 z2
        obtain ⟨z0, z1, z2⟩ := HCB.out _ k6
        have hn0 : ts = true → ((tn : Int) == 0) = false := fun h => by have := hnn h; simp; omega
        cases ts
        · go_wp2_with fail
          refine (refGcd_n (HD2.out.below (nextB bb k6)).num (HD3.out.below (nextB bb k6)).num (by omega) (by omega)).mono ?_
          rintro e w7 ⟨A7, n7, c7, rfl, h7, b7⟩
          have k7 := nextB k6 b7
          have ba := (Below.refl w7.heap.size w7).alloc (Nat.le_refl _) (.cells #[.int .u32 1] 48)
          have HSM := Lib.hid (same_c (h7.below ba) (nrm_one w7) (gcd_lowest qt))
          clear z0 z1 z2 h7
          go_wp2_with fail
          refine HSM.out.mono ?_
          rintro e w8 ⟨rfl, b8⟩
          have k8 := nextB hbr (nextB bb (nextB k7 (nextB ba b8)))
          clear HSM ba b8 k7 k6 b5 b6 b7
          go_wp2
          go_roundw
          case rel => exact ⟨i + 1, by go_num, by omega, k8⟩
          case measure => simp [intOf] <;> omega
        · have hn1 := hn0 rfl
          clear hnn hn0
          go_wp2_with fail
          refine (refGcd_n (HD2.out.below (nextB bb k6)).num (HD3.out.below (nextB bb k6)).num (by omega) (by omega)).mono ?_
          rintro e w7 ⟨A7, n7, c7, rfl, h7, b7⟩
          have k7 := nextB k6 b7
          have ba := (Below.refl w7.heap.size w7).alloc (Nat.le_refl _) (.cells #[.int .u32 1] 48)
          have HSM := Lib.hid (same_c (h7.below ba) (nrm_one w7) (gcd_lowest qt))
          clear z0 z1 z2 h7
          go_wp2_with fail
          refine HSM.out.mono ?_
          rintro e w8 ⟨rfl, b8⟩
          have k8 := nextB hbr (nextB bb (nextB k7 (nextB ba b8)))
          clear HSM ba b8 k7 k6 b5 b6 b7
          go_wp2
          go_roundw
          case rel => exact ⟨i + 1, by go_num, by omega, k8⟩
          case measure => simp [intOf] <;> omega
      · go_wp2_with fail
        refine (awake2_any wr (hl4.below hbr)).mono ?_
        rintro e w9 ⟨rfl, b9⟩
        go_wp2
        go_ret
        exact ⟨rfl, nextB bw4 (nextB hbr b9)⟩
  · have HD := Lib.hid (div_r hlk la lb (by omega) (by omega) (by omega) (by omega) q0)
    clear q0
    go_wp2_with fail
    refine HD.out.mono ?_
    rintro e w3 ⟨s7, A7, n7, c7, B7, m7, d7, rfl, r7, o7, o7', b3⟩
    clear HD a0 a1 a2 b0 b1 b2
    go_upto_region 6 with fail
    obtain ⟨w4, hw4⟩ : ∃ w4, w3.alloc (.cells #[.bool s7, .slice A7 n7 c7, .slice B7 m7 d7] 40) = w4 := ⟨_, rfl⟩
    obtain ⟨p7, hp7, hs7, b4, h_7, _⟩ := boxes0 w3 _ _ _ _ w4 hw4
    clear hs7
    rw [hw4, ← hp7]
    obtain ⟨z0, z1, z2⟩ := h_7 _ (Below.refl _ _)
    have b34 : Below u.heap.size u w4 := nextB b3 b4
    have bw4 := nextB bwk b34
    have hl4 := hlk.below b34
    have hbase4 : w2.heap.size ≤ w4.heap.size := Nat.le_trans hbase b34.size
    have hrow4 := row_below HR.out b34
    have HO4 : Hid (∀ t ∈ l6, It.okg w4 g t) := fun t h => (HO.out t h).below b34
    have h7 : It.okg w4 g ⟨s7, A7, n7, c7, B7, m7, d7⟩ := ⟨_, (r7.below b4).mono (by omega), fun _ a e => by have := o7 a e; omega, fun _ a e => by have := o7' a e; omega⟩
    clear HR HO b34 b3 b4 hlk bwk la lb h_7 hp7 hw4 r7 o7 o7'
    obtain ⟨i0, hi0, hz0, hz1, hz2⟩ := info_parts info_rat
    have ba := (Below.refl w4.heap.size w4).alloc (Nat.le_refl _) (.cells #[.bool s7, .slice A7 n7 c7, .slice B7 m7 d7] 40)
    have hrow5 := Lib.hid (row_below hrow4 ba)
    have bw5 := nextB bw4 ba
    have hsz5 := Nat.le_trans hbase4 ba.size
    have hone : ∀ u ∈ [Value.bool s7, .slice A7 n7 c7, .slice B7 m7 d7], u.oneCell' = true := oneCell_icells [⟨s7, A7, n7, c7, B7, m7, d7⟩]
    have h63 : 6 + 1 ≤ maxLen := by unfold maxLen; omega
    have h56 : (6 + 1) * 56 ≤ 140737488355328 := by omega
    clear hrow4
    go_wp2_with (at_builtin; refine wpList_append_own _ rfl _ _ 45 rfl w2.heap.size 40 i0 (.agg #[.bool false, .slice none 0 0, .slice none 0 0]) 3 56 Tryd.underlying45 hi0 hz0 hz1 hz2 rfl (by decide) _ _ _ rfl hrow5.out ⟨w4.heap.size, 0, none⟩ 1 1 [.bool s7, .slice A7 n7 c7, .slice B7 m7 d7] rfl rfl (three_new _ _ _ _ _) hone h63 h56 hsz5 ?_)
    intro v' w5 hown hgrow _
    have HO5 : Hid (∀ t ∈ l6 ++ [⟨s7, A7, n7, c7, B7, m7, d7⟩], It.ok w5 t) := fun t ht => by
      rcases List.mem_append.1 ht with h | h
      · exact ((HO4.out t h).below ba).grew hgrow
      · rw [List.mem_singleton] at h
        subst h
        exact (h7.below ba).grew hgrow
    have bw6 := grown_below bw5 hrow5.out hgrow (by have := bw5.size; omega) hw2s
    have hl6 := hl0.below bw6
    obtain ⟨g5, c5, e5, _⟩ := hown.form (by omega)
    subst e5
    have hic : icells l6 ++ [.bool s7, .slice A7 n7 c7, .slice B7 m7 d7] = icells (l6 ++ [⟨s7, A7, n7, c7, B7, m7, d7⟩]) := by rw [icells_append]; rfl
    rw [hic] at hown
    have HL7 : Hid ((l6 ++ [It.mk s7 A7 n7 c7 B7 m7 d7]).length = 7) := by show _ = _; rw [List.length_append, HL.out]; rfl
    generalize l6 ++ [It.mk s7 A7 n7 c7 B7 m7 d7] = l7 at hown HO5 HL7
    have HR5 : Hid (w5.ownsRow w2.heap.size 40 3 (.slice (some ⟨g5, 0, none⟩) 7 c5) 7 (icells l7)) := hown
    clear hown hgrow hic HO4 h7 ba hrow5 bw5 hl4 bw4 z0 z1 z2
    go_wp2_with fail
    go_loopw [8] (fun iv wr => ∃ i : Nat, iv = .int .i64 i ∧ i ≤ 7 ∧ Below w5.heap.size w5 wr) (fun iv _ => 7 - (intOf iv).toNat)
    case atStart => exact ⟨0, rfl, by omega, Below.refl _ _⟩
    case round =>
      obtain ⟨i, rfl, hi, hbr⟩ := hrel
      by_cases hlt : i < 7
      · have hrow' := row_below HR5.out hbr
        have hil : i < l7.length := by rw [HL7.out]; exact hlt
        obtain ⟨y0, y1, y2⟩ := icells_get l7 i hil
        have hokt := (HO5.out _ (List.getElem_mem hil)).below hbr
        generalize l7[i] = t at y0 y1 y2 hokt
        obtain ⟨ts, tA, tn, tc, tB, tm, td⟩ := t
        have x0 := (hrow'.cellAt (i * 3) (by omega)).trans y0
        have x1 := (hrow'.cellAt (i * 3 + 1) (by omega)).trans y1
        have x2 := (hrow'.cellAt (i * 3 + 2) (by omega)).trans y2
        obtain ⟨qt, rt⟩ := hokt
        dsimp only at x0 x1 x2 rt
        have hdn := rt.den_ne
        have hnn := rt.neg_ne
        obtain ⟨hd1, hd2, hd3, hd4, hd5⟩ := id rt
        have HD2 := Lib.hid hd2
        have HD3 := Lib.hid hd3
        have HRT := Lib.hid rt
        have hm0 : ((tm : Int) == 0) = false := by simp; omega
        clear hrow' y0 y1 y2 hil hd1 hd2 hd3 rt
        obtain ⟨bx, hbx⟩ : ∃ bx, wr.alloc (.cells #[.bool ts, .slice tA tn tc, .slice tB tm td] 40) = bx := ⟨_, rfl⟩
        obtain ⟨pb, hpb, _, bb, h_b, _⟩ := boxes0 wr _ _ _ _ bx hbx
        have HCB := Lib.hid h_b
        have HPB := Lib.hid hpb
        have HBX := Lib.hid hbx
        clear hbx hpb h_b
        go_upto_region 11 with fail
        rw [HBX.out, ← HPB.out]
        obtain ⟨z0, z1, z2⟩ := HCB.out _ (Below.refl _ _)
        clear x0 x1 x2
        go_wp2_with fail
        refine (refNormal_yes (HD2.out.below bb)).mono ?_
        rintro e w5 ⟨rfl, b5⟩
        clear z0 z1 z2
        obtain ⟨z0, z1, z2⟩ := HCB.out _ b5
        go_wp2_with fail
        refine (refNormal_yes (HD3.out.below (nextB bb b5))).mono ?_
        rintro e w6 ⟨rfl, b6⟩
        have k6 := nextB b5 b6
        clear z0 z1 z2
        obtain ⟨z0, z1, z2⟩ := HCB.out _ k6
        have hn0 : ts = true → ((tn : Int) == 0) = false := fun h => by have := hnn h; simp; omega
        cases ts
        · go_wp2_with fail
          refine (refGcd_n (HD2.out.below (nextB bb k6)).num (HD3.out.below (nextB bb k6)).num (by omega) (by omega)).mono ?_
          rintro e w7 ⟨A7, n7, c7, rfl, h7, b7⟩
          have k7 := nextB k6 b7
          have ba := (Below.refl w7.heap.size w7).alloc (Nat.le_refl _) (.cells #[.int .u32 1] 48)
          have HSM := Lib.hid (same_c (h7.below ba) (nrm_one w7) (gcd_lowest qt))
          clear z0 z1 z2 h7
          go_wp2_with fail
          refine HSM.out.mono ?_
          rintro e w8 ⟨rfl, b8⟩
          have k8 := nextB hbr (nextB bb (nextB k7 (nextB ba b8)))
          clear HSM ba b8 k7 k6 b5 b6 b7
          go_wp2
          go_roundw
          case rel => exact ⟨i + 1, by go_num, by omega, k8⟩
          case measure => simp [intOf] <;> omega
        · have hn1 := hn0 rfl
          clear hnn hn0
          go_wp2_with fail
          refine (refGcd_n (HD2.out.below (nextB bb k6)).num (HD3.out.below (nextB bb k6)).num (by omega) (by omega)).mono ?_
          rintro e w7 ⟨A7, n7, c7, rfl, h7, b7⟩
          have k7 := nextB k6 b7
          have ba := (Below.refl w7.heap.size w7).alloc (Nat.le_refl _) (.cells #[.int .u32 1] 48)
          have HSM := Lib.hid (same_c (h7.below ba) (nrm_one w7) (gcd_lowest qt))
          clear z0 z1 z2 h7
          go_wp2_with fail
          refine HSM.out.mono ?_
          rintro e w8 ⟨rfl, b8⟩
          have k8 := nextB hbr (nextB bb (nextB k7 (nextB ba b8)))
          clear HSM ba b8 k7 k6 b5 b6 b7
          go_wp2
          go_roundw
          case rel => exact ⟨i + 1, by go_num, by omega, k8⟩
          case measure => simp [intOf] <;> omega
      · go_wp2_with fail
        refine (awake2_any wr (hl6.below hbr)).mono ?_
        rintro e w9 ⟨rfl, b9⟩
        go_wp2
        go_ret
        exact ⟨rfl, nextB bw6 (nextB hbr b9)⟩
end Go.Proofs.YthnmjaaelhcbpaaDoor
