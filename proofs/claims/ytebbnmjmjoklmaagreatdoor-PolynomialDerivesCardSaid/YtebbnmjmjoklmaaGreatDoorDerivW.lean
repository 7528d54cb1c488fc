/-
  The derivative of a list of terms by a variable: the rule for products; two derivatives commute.
  The program's polynomials by what they denote; its Derivative; PolynomialDerives: the law's walk.
-/
import Derived.Test.YtebbnmjmjoklmaaGreatDoorAwake3
import Derived.Test.YtebbnmjmjoklmaaGreatDoorSrcP
import Derived.Test.YtebbnmjmjoklmaaGreatDoorEqMono
namespace Go.Proofs.YtebbnmjmjoklmaaGreatDoor
open Go Go.RowKit Go.WideMaps
set_option maxRecDepth 20000

def dwn (v : Nat) (L : Mon) : Mon := L.set v (L.getD v 0 - 1)
def dterm (v : Nat) (t : Trm) : Trm := (dwn v t.1, t.2 * (t.1.getD v 0 : Rat))
def deriv (v : Nat) (l : List Trm) : List Trm := (l.filter fun t => decide (0 < t.1.getD v 0)).map (dterm v)
def dfun (v : Nat) (f : Mon → Rat) (m : Mon) : Rat := if 0 < m.getD v 0 then (m.getD v 0 : Rat) * f (dwn v m) else 0
theorem lin_deriv (v : Nat) (f : Mon → Rat) : ∀ l : List Trm, lin (deriv v l) f = lin l (dfun v f)
  | [] => rfl
  | t :: l => by
    have ih := lin_deriv v f l
    unfold deriv at ih ⊢
    rw [lin_cons, ← ih]
    by_cases h : 0 < t.1.getD v 0
    · rw [List.filter_cons_of_pos (by simpa using h), List.map_cons, lin_cons]
      have e : (dterm v t).2 * f (dterm v t).1 = t.2 * dfun v f t.1 := by
        unfold dfun dterm
        rw [if_pos h]
        exact Rat.mul_assoc ..
      rw [e]
    · rw [List.filter_cons_of_neg (by simpa using h)]
      have e : t.2 * dfun v f t.1 = 0 := by
        unfold dfun
        rw [if_neg h, Rat.mul_zero]
      rw [e, Rat.zero_add]
theorem Eqv.deriv {l r : List Trm} (h : Eqv l r) (v : Nat) : Eqv (deriv v l) (deriv v r) := fun f => by rw [lin_deriv, lin_deriv, h]
theorem deriv_push (v : Nat) (l : List Trm) (t : Trm) : deriv v (l ++ [t]) = deriv v l ++ if 0 < t.1.getD v 0 then [dterm v t] else [] := by
  unfold deriv
  rw [List.filter_append, List.map_append]
  by_cases h : 0 < t.1.getD v 0
  · rw [if_pos h, List.filter_cons_of_pos (by simpa using h)]; rfl
  · rw [if_neg h, List.filter_cons_of_neg (by simpa using h)]; rfl
theorem dwn_succ (x : Int) (a : Mon) (v : Nat) : dwn (v + 1) (x :: a) = x :: dwn v a := rfl
theorem mlt_dwn : ∀ (v : Nat) (a b : Mon), mlt (dwn v a) (dwn v b) = mlt a b
  | _, [], [] => rfl
  | 0, [], _ :: _ => rfl
  | 0, _ :: _, [] => rfl
  | 0, x :: a, y :: b => by
    show mlt ((x - 1) :: a) ((y - 1) :: b) = mlt (x :: a) (y :: b)
    unfold mlt
    have e1 : decide (x - 1 < y - 1) = decide (x < y) := decide_eq_decide.2 (by omega)
    have e2 : decide (x - 1 = y - 1) = decide (x = y) := decide_eq_decide.2 (by omega)
    rw [e1, e2]
  | _ + 1, [], _ :: _ => rfl
  | _ + 1, _ :: _, [] => rfl
  | v + 1, x :: a, y :: b => by
    rw [dwn_succ, dwn_succ]
    unfold mlt
    rw [mlt_dwn v a b]
theorem deriv_norml {v : Nat} {l : List Trm} (h : Norml l) : Norml (deriv v l) := by
  unfold deriv
  refine ⟨?_, fun u hu => ?_⟩
  · rw [List.pairwise_map]
    refine (h.1.sublist List.filter_sublist).imp fun {a b} hab => ?_
    show mlt (dwn v b.1) (dwn v a.1) = true
    rw [mlt_dwn]; exact hab
  · obtain ⟨t, ht, rfl⟩ := List.mem_map.1 hu
    obtain ⟨h1, h2⟩ := List.mem_filter.1 ht
    have h3 : 0 < t.1.getD v 0 := by simpa using h2
    show t.2 * (t.1.getD v 0 : Rat) ≠ 0
    intro h0
    rcases Rat.mul_eq_zero.1 h0 with h4 | h4
    · exact h.2 t h1 h4
    · have : (t.1.getD v 0 : Int) = 0 := by exact_mod_cast h4
      omega
theorem dwn_len (v : Nat) (L : Mon) : (dwn v L).length = L.length := by unfold dwn; rw [List.length_set]
theorem dwn_other {v i : Nat} {L : Mon} (h : v ≠ i) : (dwn v L).getD i 0 = L.getD i 0 := by
  unfold dwn
  rw [List.getD_eq_getElem?_getD, List.getElem?_set_ne h, ← List.getD_eq_getElem?_getD]
theorem dwn_comm {v i : Nat} {L : Mon} (h : v ≠ i) : dwn v (dwn i L) = dwn i (dwn v L) := by
  have e1 : (dwn i L).getD v 0 = L.getD v 0 := dwn_other (Ne.symm h)
  have e2 : (dwn v L).getD i 0 = L.getD i 0 := dwn_other h
  show (dwn i L).set v ((dwn i L).getD v 0 - 1) = (dwn v L).set i ((dwn v L).getD i 0 - 1)
  rw [e1, e2]
  unfold dwn
  exact List.set_comm _ _ (Ne.symm h)
theorem madd_at : ∀ (v : Nat) (a b : Mon), a.length = b.length → (madd a b).getD v 0 = a.getD v 0 + b.getD v 0
  | _, [], [], _ => by simp [madd]
  | 0, _ :: _, _ :: _, _ => rfl
  | v + 1, _ :: a, _ :: b, h => madd_at v a b (by simpa using h)
  | _, [], _ :: _, h => by simp at h
  | _, _ :: _, [], h => by simp at h
theorem madd_dwn_left : ∀ (v : Nat) (a b : Mon), a.length = b.length → madd (dwn v a) b = dwn v (madd a b)
  | _, [], [], _ => rfl
  | 0, x :: a, y :: b, _ => by
    show (x - 1 + y) :: madd a b = (x + y - 1) :: madd a b
    rw [show x - 1 + y = x + y - 1 by omega]
  | v + 1, x :: a, y :: b, h => by
    show (x + y) :: madd (dwn v a) b = (x + y) :: dwn v (madd a b)
    rw [madd_dwn_left v a b (by simpa using h)]
  | _, [], _ :: _, h => by simp at h
  | _, _ :: _, [], h => by simp at h
theorem madd_dwn_right (v : Nat) (a b : Mon) (h : a.length = b.length) : madd a (dwn v b) = dwn v (madd a b) := by
  rw [madd_comm, madd_dwn_left v b a h.symm, madd_comm]
theorem deriv_prods {v : Nat} {l r : List Trm} (hl : ∀ t ∈ l, t.1.length = 8 ∧ 0 ≤ t.1.getD v 0) (hr : ∀ t ∈ r, t.1.length = 8 ∧ 0 ≤ t.1.getD v 0) :
    Eqv (deriv v (prods l r)) (prods (deriv v l) r ++ prods l (deriv v r)) := fun f => by
  rw [lin_deriv, lin_prods, lin_append, lin_prods, lin_prods, lin_deriv, ← lin_add]
  refine lin_congr fun t ht => ?_
  obtain ⟨t8, t0⟩ := hl t ht
  rw [lin_deriv]
  have key : ∀ u ∈ r, dfun v f (madd t.1 u.1) = (if 0 < t.1.getD v 0 then (t.1.getD v 0 : Rat) * f (madd (dwn v t.1) u.1) else 0) + dfun v (fun b => f (madd t.1 b)) u.1 := fun u hu => by
    obtain ⟨u8, u0⟩ := hr u hu
    have hlen : t.1.length = u.1.length := by omega
    have es := madd_at v t.1 u.1 hlen
    have ea := madd_dwn_left v t.1 u.1 hlen
    have eb := madd_dwn_right v t.1 u.1 hlen
    simp only [dfun]
    rw [es, ea, eb]
    generalize t.1.getD v 0 = x at t0 ⊢
    generalize u.1.getD v 0 = y at u0 ⊢
    generalize f (dwn v (madd t.1 u.1)) = z
    by_cases hx : 0 < x
    · by_cases hy : 0 < y
      · rw [if_pos (by omega), if_pos hx, if_pos hy, Rat.intCast_add, Rat.add_mul]
      · obtain rfl : y = 0 := by omega
        rw [if_pos (by omega), if_pos hx, if_neg hy, Int.add_zero, Rat.add_zero]
    · obtain rfl : x = 0 := by omega
      by_cases hy : 0 < y
      · rw [if_pos (by omega), if_neg hx, if_pos hy, Int.zero_add, Rat.zero_add]
      · obtain rfl : y = 0 := by omega
        simp
        exact (Rat.add_zero 0).symm
  rw [lin_congr (f := fun b => dfun v f (madd t.1 b)) (g := fun b => (if 0 < t.1.getD v 0 then (t.1.getD v 0 : Rat) * f (madd (dwn v t.1) b) else 0) + dfun v (fun b => f (madd t.1 b)) b) key, lin_add]
  refine congrArg (fun z => z + lin r (dfun v fun b => f (madd t.1 b))) ?_
  by_cases hx : 0 < t.1.getD v 0
  · simp only [dfun, if_pos hx]
    rw [lin_smul]
  · simp only [dfun, if_neg hx]
    exact lin_zero r
theorem deriv_comm (i k : Nat) (l : List Trm) : Eqv (deriv i (deriv k l)) (deriv k (deriv i l)) := fun f => by
  by_cases h : i = k
  · subst h; rfl
  rw [lin_deriv, lin_deriv, lin_deriv, lin_deriv]
  refine lin_congr fun t _ => ?_
  have e1 : (dwn k t.1).getD i 0 = t.1.getD i 0 := dwn_other (Ne.symm h)
  have e2 : (dwn i t.1).getD k 0 = t.1.getD k 0 := dwn_other h
  unfold dfun
  rw [e1, e2, dwn_comm h]
  generalize t.1.getD i 0 = x
  generalize t.1.getD k 0 = y
  generalize f (dwn k (dwn i t.1)) = z
  by_cases hx : 0 < x
  · by_cases hy : 0 < y
    · rw [if_pos hx, if_pos hy, if_pos hy, if_pos hx, ← Rat.mul_assoc, ← Rat.mul_assoc, Rat.mul_comm (y : Rat)]
    · simp [hx, hy]
  · by_cases hy : 0 < y
    · simp [hx, hy]
    · simp [hx, hy]
structure OutRow (base : Nat) (A : Option Addr) (n c : Nat) (ds : List Tq) (k : Nat) (W : World) : Prop where
  len : n = ds.length
  row : W.ownsRow base 47 11 (.slice A n c) n (rowOf (tms ds))
  rn : ∀ x ∈ ds, x.1.rn W x.2 k
  apart : ∀ x ∈ ds, x.1.lies fun i => ∀ a, A = some a → i ≠ a.block
theorem OutRow.nil (base k : Nat) (W : World) : OutRow base none 0 0 [] k W := ⟨rfl, World.ownsRow_nil W base _ _, fun x hx => (by cases hx), fun x hx => (by cases hx)⟩
theorem OutRow.below {base n c k : Nat} {A : Option Addr} {ds : List Tq} {W W' : World} (h : OutRow base A n c ds k W) (hb : Below W.heap.size W W') : OutRow base A n c ds k W' :=
  ⟨h.len, ownsRow_below h.row hb, fun x hx => (h.rn x hx).below hb, h.apart⟩
theorem OutRow.push {base n c k : Nat} {A : Option Addr} {ds es : List Tq} {W W' : World} {v' : Value} (h : OutRow base A n c ds k W)
    (hown : W'.ownsRow base 47 11 v' (n + es.length) (rowOf (tms ds) ++ rowOf (tms es))) (hg : W.grownBy W' (Value.slice A n c).ownBlock) (hat : v'.ownBlock = (Value.slice A n c).ownBlock ∨ v'.ownBlock = some W.heap.size)
    (hr : ∀ x ∈ es, x.1.rn W x.2 k) (ha : ∀ x ∈ es, x.1.lies fun i => ∀ a, A = some a → i ≠ a.block) :
    ∃ A' c', v' = .slice A' (n + es.length) c' ∧ OutRow base A' (n + es.length) c' (ds ++ es) k W' := by
  obtain ⟨A', c', rfl⟩ := row_form hown
  have keep : ∀ (u : Tm) (p : Rat), u.rn W p k → (u.lies fun k => ∀ a, A = some a → k ≠ a.block) → u.rn W' p k ∧ u.lies fun k => ∀ a, A' = some a → k ≠ a.block := fun u p hu hau => by
    refine ⟨hu.apart hg.size ((hu.old.and hau).mono fun k hk => hg.block k hk.1 ?_), (hu.old.and hau).mono fun k hk a e he => ?_⟩
    · cases A with
      | none => intro e; cases e
      | some a0 => intro e; simp [Value.ownBlock] at e; exact hk.2 a0 rfl (by omega)
    · subst e
      rcases hat with hat | hat
      · cases A with
        | none => simp [Value.ownBlock] at hat
        | some a0 => simp [Value.ownBlock] at hat; exact hk.2 a0 rfl (by omega)
      · simp [Value.ownBlock] at hat; have := hk.1; omega
  have hall : ∀ x ∈ ds ++ es, x.1.rn W x.2 k ∧ x.1.lies fun i => ∀ a, A = some a → i ≠ a.block := fun x hx => by
    rcases List.mem_append.1 hx with hx | hx
    · exact ⟨h.rn x hx, h.apart x hx⟩
    · exact ⟨hr x hx, ha x hx⟩
  refine ⟨A', c', rfl, by rw [List.length_append, ← h.len], ?_, fun x hx => (keep _ _ (hall x hx).1 (hall x hx).2).1, fun x hx => (keep _ _ (hall x hx).1 (hall x hx).2).2⟩
  rw [tms_append, rowOf_append]
  exact hown
theorem OutRow.nf {base n c k : Nat} {E : Int} {A : Option Addr} {ds : List Tq} {W : World} (h : OutRow base A n c ds k W) (hn : n < 1000000) (hM : ∀ x ∈ ds, MonoE E x.1.L) (hN : Norml (trms ds)) : PolyNf W A n c ds k E := by
  have hform : n ≤ c ∧ (0 < n → ∃ g, A = some ⟨g, 0, none⟩) := by
    rcases h.row.2 with ⟨h', h2⟩ | ⟨g', cap', cur, h', _, _, hnc, _⟩
    · simp only [Value.slice.injEq] at h'
      obtain ⟨rfl, rfl, rfl⟩ := h'
      exact ⟨Nat.le_refl _, fun h => absurd h (by omega)⟩
    · simp only [Value.slice.injEq] at h'
      obtain ⟨rfl, _, rfl⟩ := h'
      exact ⟨hnc, fun _ => ⟨g', rfl⟩⟩
  refine ⟨⟨h.len, hform.1, hn, fun h0 => ?_, hM, fun x hx => (h.rn x hx).loose⟩, hN, h.rn⟩
  obtain ⟨g, rfl⟩ := hform.2 h0
  exact ⟨g, rfl, ownsRow_zero h.row⟩
def Pol (W : World) (A : Option Addr) (n c : Nat) (l : List Trm) (N k : Nat) (E : Int) : Prop := ∃ ds, PolyRd W A n c ds k E ∧ Eqv (trms ds) l ∧ n ≤ N
def Nol (W : World) (A : Option Addr) (n c : Nat) (l : List Trm) (N k : Nat) (E : Int) : Prop := ∃ ds, PolyNf W A n c ds k E ∧ Eqv (trms ds) l ∧ n ≤ N
theorem Pol.below {w w' : World} {A : Option Addr} {n c N k : Nat} {l : List Trm} {E : Int} (h : Pol w A n c l N k E) (hb : Below w.heap.size w w') : Pol w' A n c l N k E := by
  obtain ⟨ds, h1, h2⟩ := h
  exact ⟨ds, h1.below hb, h2⟩
theorem Nol.below {w w' : World} {A : Option Addr} {n c N k : Nat} {l : List Trm} {E : Int} (h : Nol w A n c l N k E) (hb : Below w.heap.size w w') : Nol w' A n c l N k E := by
  obtain ⟨ds, h1, h2⟩ := h
  exact ⟨ds, h1.below hb, h2⟩
theorem Nol.pol {w : World} {A : Option Addr} {n c N k : Nat} {l : List Trm} {E : Int} (h : Nol w A n c l N k E) : Pol w A n c l N k E := by
  obtain ⟨ds, h1, h2⟩ := h
  exact ⟨ds, h1.rd, h2⟩
theorem Pol.le {w : World} {A : Option Addr} {n c N k j : Nat} {l : List Trm} {E F : Int} (h : Pol w A n c l N k E) (hk : k ≤ j) (hE : E ≤ F) : Pol w A n c l N j F := by
  obtain ⟨ds, h1, h2⟩ := h
  exact ⟨ds, h1.le hk hE, h2⟩
theorem rd_lim {w : World} {A : Option Addr} {n c k : Nat} {ds : List Tq} {E : Int} (h : PolyRd w A n c ds k E) (hE : E ≤ 1024) : inLim ds := fun x hx e he => by have := (h.mono x hx).2 e he; omega
theorem Pol.of_row {base n c N : Nat} {A : Option Addr} {ds : List Tq} {W : World} (h : SrcRow base A n c ds W) (hn : n ≤ N) (hN : N ≤ 49) : Pol W A n c (trms ds) N 4 2 := ⟨ds, h.rd (by omega), Eqv.refl _, hn⟩
def GivesPN (w : World) (l : List Trm) (N k : Nat) (E : Int) (e : Ending) (w' : World) : Prop := ∃ A n c, e = Two A n c 0 ∧ Nol w' A n c l N k E ∧ Below w.heap.size w w'
theorem mulN {w : World} {A B : Option Addr} {n c m d N M k j K : Nat} {l r : List Trm} {E F : Int} (hl : Laid w) (h1 : Pol w A n c l N k E) (h2 : Pol w B m d r M j F) (hE0 : 0 ≤ E) (hF0 : 0 ≤ F) (hEF : E + F ≤ 1024) (k0 : 1 ≤ k) (j0 : 1 ≤ j) (hk : k ≤ 300000) (hj : j ≤ 300000)
    (hK : 1 + N * (M * (1 + N * (k + 1) + (1 + M * (j + 1)) + 1)) ≤ K) (hK3 : K ≤ 300000) (hs : 1 + N * (k + 1) + (1 + M * (j + 1)) ≤ 300000) (hN : N ≤ 49) (hM : M ≤ 49) (hNM : N * M ≤ 49) :
    Calls Tryz.prog 7 #[.slice A n c, .slice B m d] w (GivesPN w (prods l r) (N * M) K (E + F)) := by
  obtain ⟨ds, d1, d2, d3⟩ := h1
  obtain ⟨es, e1, e2, e3⟩ := h2
  have i1 : n * (k + 1) ≤ N * (k + 1) := Nat.mul_le_mul_right _ d3
  have i2 : m * (j + 1) ≤ M * (j + 1) := Nat.mul_le_mul_right _ e3
  have i3 : n * m ≤ N * M := Nat.mul_le_mul d3 e3
  have i4 : n * (m * (1 + N * (k + 1) + (1 + M * (j + 1)) + 1)) ≤ N * (M * (1 + N * (k + 1) + (1 + M * (j + 1)) + 1)) := Nat.mul_le_mul d3 (Nat.mul_le_mul_right _ e3)
  refine (mul_ok (kd' := 1 + N * (k + 1)) (ke' := 1 + M * (j + 1)) hl d1 e1 hE0 hF0 hEF k0 j0 hk hj (by omega) (by omega) (by omega) hs (by omega) (by omega) (by omega)).mono ?_
  rintro e w' ⟨P, r', q, rs, rfl, nf, eq, ln, b⟩
  have hr := nf.rd.len
  exact ⟨P, r', q, rfl, ⟨rs, nf.le (by omega) (Int.le_refl _), eq.trans (Eqv.prods d2 e2), by omega⟩, b⟩
theorem addN {w : World} {A B : Option Addr} {n c m d N M k K : Nat} {l r : List Trm} {E : Int} (hl : Laid w) (h1 : Pol w A n c l N k E) (h2 : Pol w B m d r M k E) (hE : E ≤ 1024) (k0 : 1 ≤ k) (hk : k ≤ 300000)
    (hK : 1 + N * (k + 1) + M * (k + 1) ≤ K) (hK3 : K ≤ 300000) (hNM : N + M ≤ 49) : Calls Tryz.prog 9 #[.slice A n c, .slice B m d] w (GivesPN w (l ++ r) (N + M) K E) := by
  obtain ⟨ds, d1, d2, d3⟩ := h1
  obtain ⟨es, e1, e2, e3⟩ := h2
  have i1 : n * (k + 1) ≤ N * (k + 1) := Nat.mul_le_mul_right _ d3
  have i2 : m * (k + 1) ≤ M * (k + 1) := Nat.mul_le_mul_right _ e3
  refine (add_x hl d1 e1 (by omega) k0 hk (by omega) (by omega) (rd_lim d1 hE) (rd_lim e1 hE)).mono ?_
  rintro e w' ⟨P, r', q, rs, rfl, nf, eq, ln, b⟩
  have hr := nf.rd.len
  exact ⟨P, r', q, rfl, ⟨rs, nf.le (by omega) (Int.le_refl _), eq.trans (d2.append e2), by omega⟩, b⟩
theorem sameN {w : World} {A B : Option Addr} {n c m d N M k j : Nat} {l r : List Trm} {E F : Int} (h1 : Nol w A n c l N k E) (h2 : Nol w B m d r M j F) (hq : Eqv l r) (hE : E ≤ 1024) : Calls Tryz.prog 8 #[.slice A n c, .slice B m d] w (BoolB w true) := by
  obtain ⟨ds, d1, d2, _⟩ := h1
  obtain ⟨es, e1, e2, _⟩ := h2
  exact sameP_true d1 e1 ((d2.trans hq).trans e2.symm) (by omega)


theorem at_range {E : Int} {L : List Int} (h : MonoE E L) {j : Nat} (hj : j < 8) : 0 ≤ L.getD j 0 ∧ L.getD j 0 ≤ E := by
  rw [List.getD_eq_getElem?_getD, List.getElem?_eq_getElem (by rw [h.1]; exact hj), Option.getD_some]
  exact h.2 _ (List.getElem_mem _)
theorem TmAt.exp_cell {b j : Nat} {t : Tm} {W : World} (h : TmAt b t W) (hj : j < 8) : W.cell? ⟨b, j, none⟩ = some (.int .i64 (t.L.getD j 0)) := by
  rw [h.cell j (by omega)]
  obtain ⟨x0, x1, x2, x3, x4, x5, x6, x7, hL⟩ := eight h.len
  unfold Tm.cells
  rw [hL]
  match j, hj with
  | 0, _ | 1, _ | 2, _ | 3, _ | 4, _ | 5, _ | 6, _ | 7, _ => rfl
theorem SrcRow.exps {base n c v : Nat} {A : Option Addr} {ds : List Tq} {W : World} (h : SrcRow base A n c ds W) (hv : v < 8) : ∀ t ∈ trms ds, t.1.length = 8 ∧ 0 ≤ t.1.getD v 0 := fun t ht => by
  obtain ⟨x, hx, rfl⟩ := List.mem_map.1 ht
  exact ⟨(h.mono x hx).1, (at_range (h.mono x hx) hv).1⟩
theorem TmAt.coef {b : Nat} {t : Tm} {w : World} (h : TmAt b t w) (s : Bool) (A : Option Addr) (n c : Nat) (B : Option Addr) (m d : Nat) :
    TmAt b ⟨t.L, s, A, n, c, B, m, d⟩ (((w.setCell ⟨b, 8, none⟩ (.bool s)).setCell ⟨b, 9, none⟩ (.slice A n c)).setCell ⟨b, 10, none⟩ (.slice B m d)) := by
  obtain ⟨x0, x1, x2, x3, x4, x5, x6, x7, hL⟩ := eight h.len
  have q : t.L.length = 8 := h.len
  exact ((h.one (t' := ⟨t.L, s, t.A, t.n, t.c, t.B, t.m, t.d⟩) (i := 8) (by decide) _ (by unfold Tm.cells; rw [hL]; rfl) q).one (t' := ⟨t.L, s, A, n, c, t.B, t.m, t.d⟩) (i := 9) (by decide) _ (by unfold Tm.cells; rw [hL]; rfl) q).one (i := 10) (by decide) _ (by unfold Tm.cells; rw [hL]; rfl) q
theorem MonoE.dwn {E : Int} {L : List Int} (h : MonoE E L) {v : Nat} (hv : v < 8) (hp : 0 < L.getD v 0) : MonoE E (dwn v L) := by
  refine ⟨by rw [dwn_len]; exact h.1, fun e he => ?_⟩
  rcases List.mem_or_eq_of_mem_set he with h1 | rfl
  · exact h.2 e h1
  · have := at_range h hv
    omega

set_option maxHeartbeats 16000000 in
theorem derivN {w : World} {A : Option Addr} {n c N k K v : Nat} {l : List Trm} {E : Int} (hl : Laid w) (h : Pol w A n c l N k E) (hE : E ≤ 1024) (k0 : 1 ≤ k) (hk : k ≤ 300000) (hK : 1 + N * (k + 1) ≤ K) (hK3 : K + 2 ≤ 300000) (hN : N ≤ 49) (hv : v < 8) :
    Calls Tryz.prog 13 #[.slice A n c, .int .i64 v] w (GivesPN w (deriv v l) N (K + 2) E) := by
  obtain ⟨ds, hd, hq, hn⟩ := h
  have i1 : n * (k + 1) ≤ N * (k + 1) := Nat.mul_le_mul_right _ hn
  have HNF := Lib.hid (normFor_x hl hd (by omega) k0 hk (by omega) (by omega) (rd_lim hd hE) hv)
  have HL := Lib.hid hl
  have HQ := Lib.hid hq
  have hvi : (v : Int) < 8 := by omega
  have hvi0 : (0 : Int) ≤ v := by omega
  clear hl hd hq
  go_enter Tryz.func13, Tryz.ntmps13
  go_wp2_with fail
  refine HNF.out.mono ?_
  rintro ee w1 ⟨P, r, q, rs, rfl, nf, eq, ln, b1⟩
  have hlen := nf.rd.len
  have HD := Lib.hid (nf.le (show 1 + n * (k + 1) ≤ K by omega) (Int.le_refl E))
  have HEQ := Lib.hid (eq.trans HQ.out)
  have HLEN := Lib.hid hlen
  have HB1 := Lib.hid b1
  have HL1 := Lib.hid (HL.out.below b1)
  have hr : r ≤ N := by omega
  clear nf eq ln b1 HNF HQ HL hlen
  unfold Two
  go_wp2
  go_loopw [7, 22] (fun ov iv wr => ∃ (AO : Option Addr) (nO cO : Nat) (out : List Tq) (i : Nat), ov = .slice AO nO cO ∧ iv = .int .i64 i ∧ i ≤ r ∧ nO ≤ i ∧ Hid (OutRow w1.heap.size AO nO cO out (K + 2) wr) ∧ Hid (trms out = deriv v (trms (rs.take i))) ∧ Hid (∀ y ∈ out, MonoE E y.1.L) ∧ Hid (Below w1.heap.size w1 wr)) (fun _ iv _ => r - (intOf iv).toNat)
  case atStart => exact ⟨none, 0, 0, [], 0, rfl, rfl, Nat.zero_le _, Nat.le_refl _, OutRow.nil _ _ _, rfl, fun y hy => (by cases hy), Below.refl _ _⟩
  case round =>
    obtain ⟨AO, nO, cO, out, i, rfl, rfl, hi, hnO, HOUT, HTR, HMO, HBR⟩ := hrel
    by_cases hlt : i < r
    · have hi2 : (i : Int) < r := by omega
      have hi3 : (0 : Int) ≤ i := by omega
      obtain ⟨gx, x, rfl, hgl, hx, hMx, hlo, hxt, hrow, h8⟩ := ((HD.out.below HBR.out).rd).get hlt
      obtain ⟨x0, x1, x2, x3, x4, x5, x6, x7, hXL⟩ := eight hMx.1
      obtain ⟨c0, c1, c2, c3, c4, c5, c6, c7, c8, c9, c10⟩ := row_cells hrow h8 (by rw [tms_length, HLEN.out]) hxt hXL
      have hxm := List.mem_of_getElem? hx
      obtain ⟨e0, e1⟩ := at_range hMx hv
      obtain ⟨e, he⟩ : ∃ e, x.1.L.getD v 0 = e := ⟨_, rfl⟩
      rw [he] at e0 e1
      obtain ⟨b, hbe⟩ : ∃ b, wr.heap.size = b := ⟨_, rfl⟩
      have hxc : x.1.cells = [.int .i64 x0, .int .i64 x1, .int .i64 x2, .int .i64 x3, .int .i64 x4, .int .i64 x5, .int .i64 x6, .int .i64 x7, .bool x.1.s, .slice x.1.A x.1.n x.1.c, .slice x.1.B x.1.m x.1.d] := by unfold Tm.cells; rw [hXL]; rfl
      have TX : TmAt b x.1 (wr.alloc (.cells x.1.cells.toArray 47)) := by rw [← hbe]; exact TmAt.new wr _ hMx.1
      rw [hxc] at TX
      obtain ⟨u1, hu1⟩ : ∃ u, wr.alloc (.cells #[.int .i64 x0, .int .i64 x1, .int .i64 x2, .int .i64 x3, .int .i64 x4, .int .i64 x5, .int .i64 x6, .int .i64 x7, .bool x.1.s, .slice x.1.A x.1.n x.1.c, .slice x.1.B x.1.m x.1.d] 47) = u := ⟨_, rfl⟩
      have T1 : TmAt b x.1 u1 := by rw [← hu1]; exact TX
      have bu1 : Below wr.heap.size wr u1 := hu1 ▸ (Below.refl _ wr).alloc (Nat.le_refl _) _
      have su1 : u1.heap.size = b + 1 := by rw [← hu1, ← hbe]; simp
      have cv := T1.exp_cell hv
      rw [he] at cv
      have fv := T1.free v
      have HAB : Hid (∀ a, AO = some a → a.block < b) := fun a ha => by rw [← hbe]; exact (HOUT.out.row.lt a.block (by rw [ha]; rfl)).2
      have HU1 := Lib.hid hu1
      have HBE := Lib.hid hbe
      have HX := Lib.hid hx
      have HE := Lib.hid he
      have HT1 := Lib.hid T1
      have HBU := Lib.hid bu1
      have HSU := Lib.hid su1
      have HMX := Lib.hid hMx
      have HLOX := Lib.hid hlo
      clear hu1 hbe hx he TX T1 bu1 su1 hMx hlo hxt hrow h8 hXL hxc
      go_upto_region 8 with fail
      rw [HU1.out, HBE.out]
      clear c0 c1 c2 c3 c4 c5 c6 c7 c8 c9 c10
      by_cases hpos : 0 < e
      · have HMZ := Lib.hid (HMX.out.dwn hv (by rw [HE.out]; exact hpos))
        obtain ⟨z0, z1, z2, z3, z4, z5, z6, z7, hZ⟩ := eight HMZ.out.1
        obtain ⟨u2, hu2⟩ : ∃ u, u1.setCell ⟨b, v, none⟩ (.int .i64 (e - 1)) = u := ⟨_, rfl⟩
        have T2 : TmAt b ⟨dwn v x.1.L, x.1.s, x.1.A, x.1.n, x.1.c, x.1.B, x.1.m, x.1.d⟩ u2 := by
          rw [← hu2]
          exact HT1.out.one (by omega) _ (by unfold dwn; rw [HE.out]; exact cells_set HT1.out.len hv (e - 1)) (by show (dwn v x.1.L).length = 8; rw [dwn_len]; exact HT1.out.len)
        have bu2 : Below wr.heap.size wr u2 := hu2 ▸ HBU.out.setCell (p := ⟨b, v, none⟩) (by have := HBE.out; simp only; omega) _
        have su2 : u2.heap.size = b + 1 := by rw [← hu2]; simpa using HSU.out
        obtain ⟨wd, hwd⟩ : ∃ wd, u2.drew = wd := ⟨_, rfl⟩
        have bwd : Below wr.heap.size wr wd := hwd ▸ bu2.drew
        have swd : wd.heap.size = b + 1 := by rw [← hwd]; exact su2
        have TD : TmAt b ⟨dwn v x.1.L, x.1.s, x.1.A, x.1.n, x.1.c, x.1.B, x.1.m, x.1.d⟩ wd := T2.far (by rw [← hwd]; rfl)
        obtain ⟨_, _, _, _, _, _, _, _, c8, c9, c10⟩ := TD.box hZ
        have hbd : b < wd.heap.size := by omega
        have HT2 := Lib.hid TD
        have HTD := Lib.hid TD
        have HZ := Lib.hid hZ
        have HBD := Lib.hid bwd
        have HLD : Hid (Laid wd) := (HL1.out.below HBR.out).below bwd
        have HLX : Hid (Tm.loose x.1 wd x.2 K) := HLOX.out.below bwd
        have HU2 := Lib.hid hu2
        have HWD := Lib.hid hwd
        obtain ⟨ti, zt, hti, hz1, hz2, hs1, hbt⟩ := termInfo2
        have hby1 : (nO + 1) * ti.bytes ≤ 140737488355328 := Nat.le_trans (Nat.mul_le_mul (show nO + 1 ≤ 1000000 by omega) hbt) (by decide)
        have hbr : w1.heap.size ≤ b := by have := HBR.out.size; have := HBE.out; omega
        clear hu2 T2 bu2 su2 hwd bwd TD hZ HT1 HBU HSU HU1
        go_upto_region 11 with fail
        rw [HU2.out]
        clear cv fv HU2
        go_cut [10] (fun _ wx => ∃ (s3 : Bool) (A3 : Option Addr) (n3 c3 : Nat) (B3 : Option Addr) (m3 d3 : Nat), TmAt b ⟨dwn v x.1.L, s3, A3, n3, c3, B3, m3, d3⟩ wx ∧ Tm.rn ⟨dwn v x.1.L, s3, A3, n3, c3, B3, m3, d3⟩ wx (x.2 * (e : Rat)) (K + 2) ∧ Tm.lies ⟨dwn v x.1.L, s3, A3, n3, c3, B3, m3, d3⟩ (fun q => b < q) ∧ Below wr.heap.size wr wx ∧ b < wx.heap.size)
        case first =>
          refine wp_region_held_drew (S := (fun _ => True)) (by kernel_rfl) ?_ (fun hHeld => ?_)
          · trivial
          rw [HWD.out]
          clear HWD
          refine wpAnyH_take (i := 0) (oi := ⟨some 39, _, _, _, _, _⟩) (v := ?_) rfl (by kernel_rfl) (by kernel_rfl) (by kernel_rfl) (fun _ _ _ h => h) (Or.inl ⟨by rfl, ?_⟩) (by assumption) ?_
          rotate_left
          · intro w hSw
            go_simp
            try with_reducible rfl
          try simp only [Act.put, List.setIfInBounds_toArray, List.set_cons_zero, List.set_cons_succ]
          refine wpAnyH_take (i := 2) (oi := ⟨some 41, _, _, _, _, _⟩) (v := ?_) rfl (by kernel_rfl) (by kernel_rfl) (by kernel_rfl) (fun _ _ _ h => h) (Or.inl ⟨by rfl, ?_⟩) (by assumption) ?_
          rotate_left
          · intro w hSw
            go_simp
            try with_reducible rfl
          try simp only [Act.put, List.setIfInBounds_toArray, List.set_cons_zero, List.set_cons_succ]
          refine wpAnyH_ready (rs := [1, 3]) (by kernel_rfl) (by simp) ?_
          refine AllReadyH.cons (o := ⟨some 40, _, _, _, _, _⟩) rfl (fun Kc hKc => ?_) ?_
          · go_simp
            refine hKc.out _ _ trivial (fun hHeld => ?_)
            clear hKc Kc
            try simp only [Act.put, List.setIfInBounds_toArray, List.set_cons_zero, List.set_cons_succ]
            refine wpAnyH_ready (rs := [3]) (by kernel_rfl) (by simp) ?_
            refine AllReadyH.cons (o := ⟨some 42, _, _, _, _, _⟩) rfl (fun Kc hKc => ?_) AllReadyH.nil
            go_simp
            go_at_call 31
            refine (int_r (n := e) (HLD.out.below (Below.refl _ _)) (by omega) (by omega)).mono ?_
            rintro ee w3 ⟨s2, A2, n2, c2, B2, m2, d2, rfl, r2, _, _, e2⟩
            go_wp2_with fail
            refine hKc.out _ _ trivial (fun hHeld => ?_)
            clear hKc Kc
            try simp only [Act.put, List.setIfInBounds_toArray, List.set_cons_zero, List.set_cons_succ]
            refine wpAnyH_ready (rs := [4]) (by kernel_rfl) (by simp) ?_
            refine AllReadyH.cons (o := ⟨some 43, _, _, _, _, _⟩) rfl (fun Kc hKc => ?_) AllReadyH.nil
            go_simp
            go_at_call 30
            have hbw5 := e2
            refine (mul_r (k := K) (k' := 2) (HLD.out.below hbw5) (Tm.loose.below (HLX.out) hbw5) r2.loose (by omega) (by omega) (by omega) (by omega)).mono ?_
            rintro ee w4 ⟨s3, A3, n3, c3, B3, m3, d3, rfl, r4, oA4, oB4, e4⟩
            go_wp2_with fail
            have hbw4 := nextB hbw5 e4
            have hsz4 := hbw4.size
            have hsz5 := hbw5.size
            have T4 := HT2.out.far (hbw4.block b hbd)
            obtain ⟨q0, q1, q2, q3, q4, q5, q6, q7, q8, q9, q10⟩ := T4.box HZ.out
            have y8 := T4.free 8
            have y9 := T4.free 9
            have y10 := T4.free 10
            have RN4 := Lib.hid r4
            have OA4 := Lib.hid oA4
            have OB4 := Lib.hid oB4
            have HB4 := Lib.hid hbw4
            have HT4 := Lib.hid T4
            clear r4 oA4 oB4 e4 hbw4 hbw5 T4 r2 e2
            refine hKc.out _ _ trivial (fun hHeld => ?_)
            clear hKc Kc
            try simp only [Act.put, List.setIfInBounds_toArray, List.set_cons_zero, List.set_cons_succ]
            refine wpAnyH_take (i := 5) (oi := ⟨some 44, _, _, _, _, _⟩) (v := ?_) rfl (by kernel_rfl) (by kernel_rfl) (by kernel_rfl) (fun _ _ _ h => h) (Or.inl ⟨by rfl, ?_⟩) (by assumption) ?_
            rotate_left
            · intro w hSw
              go_simp
              try with_reducible rfl
            try simp only [Act.put, List.setIfInBounds_toArray, List.set_cons_zero, List.set_cons_succ]
            refine wpAnyH_ready (rs := [6]) (by kernel_rfl) (by simp) ?_
            refine AllReadyH.cons (o := ⟨none, _, _, _, _, _⟩) rfl (fun Kc hKc => ?_) AllReadyH.nil
            go_simp
            refine hKc.out _ _ trivial (fun hHeld => ?_)
            clear hKc Kc
            try simp only [Act.put, List.setIfInBounds_toArray, List.set_cons_zero, List.set_cons_succ]
            refine wpAnyH_done (by kernel_rfl) ?_ _
            have T5 := HT4.out.coef s3 A3 n3 c3 B3 m3 d3
            obtain ⟨w5, hw5⟩ : ∃ u, ((w4.setCell ⟨b, 8, none⟩ (.bool s3)).setCell ⟨b, 9, none⟩ (.slice A3 n3 c3)).setCell ⟨b, 10, none⟩ (.slice B3 m3 d3) = u := ⟨_, rfl⟩
            have hset : Below b w4 w5 := by
              rw [← hw5]
              exact (((Below.refl b w4).setCell (p := ⟨b, 8, none⟩) (Nat.le_refl _) _).setCell (p := ⟨b, 9, none⟩) (Nat.le_refl _) _).setCell (p := ⟨b, 10, none⟩) (Nat.le_refl _) _
            have li4 : Tm.lies ⟨dwn v x.1.L, s3, A3, n3, c3, B3, m3, d3⟩ (fun q => b < q) := (Off.lies (t := ⟨dwn v x.1.L, s3, A3, n3, c3, B3, m3, d3⟩) OA4.out OB4.out).mono fun q hq => by omega
            have RN5 : Hid (Tm.rn ⟨dwn v x.1.L, s3, A3, n3, c3, B3, m3, d3⟩ w5 (x.2 * (e : Rat)) (K + 2)) := by
              rw [← hw5]
              exact RN.far3 RN4.out (g := b) (fun _ a ha => by have := OA4.out a ha; omega) (fun _ a ha => by have := OB4.out a ha; omega) 8 9 10 _ _ _
            rw [hw5] at T5
            have hBW5 : Below wr.heap.size wr w5 := (HBD.out.trans (HB4.out.mono HBD.out.size)).trans (hset.mono (Nat.le_of_eq HBE.out))
            have hs5 := hset.size
            have HW5 := Lib.hid hw5
            have HT5 := Lib.hid T5
            clear q0 q1 q2 q3 q4 q5 q6 q7 q8 q9 q10 y8 y9 y10 T5 hw5
            try rw [HW5.out]
            go_wp2
            go_meet
            exact ⟨s3, A3, n3, c3, B3, m3, d3, HT5.out, RN5.out, li4, hBW5, by omega⟩
          refine AllReadyH.cons (o := ⟨some 42, _, _, _, _, _⟩) rfl (fun Kc hKc => ?_) AllReadyH.nil
          go_simp
          go_at_call 31
          refine (int_r (n := e) (HLD.out.below (Below.refl _ _)) (by omega) (by omega)).mono ?_
          rintro ee w3 ⟨s2, A2, n2, c2, B2, m2, d2, rfl, r2, _, _, e2⟩
          go_wp2_with fail
          have c8 := (e2.cell (p := ⟨b, 8, none⟩) hbd).trans c8
          have c9 := (e2.cell (p := ⟨b, 9, none⟩) hbd).trans c9
          have c10 := (e2.cell (p := ⟨b, 10, none⟩) hbd).trans c10
          refine hKc.out _ _ trivial (fun hHeld => ?_)
          clear hKc Kc
          try simp only [Act.put, List.setIfInBounds_toArray, List.set_cons_zero, List.set_cons_succ]
          refine wpAnyH_ready (rs := [1]) (by kernel_rfl) (by simp) ?_
          refine AllReadyH.cons (o := ⟨some 40, _, _, _, _, _⟩) rfl (fun Kc hKc => ?_) AllReadyH.nil
          go_simp
          refine hKc.out _ _ trivial (fun hHeld => ?_)
          clear hKc Kc
          try simp only [Act.put, List.setIfInBounds_toArray, List.set_cons_zero, List.set_cons_succ]
          refine wpAnyH_ready (rs := [4]) (by kernel_rfl) (by simp) ?_
          refine AllReadyH.cons (o := ⟨some 43, _, _, _, _, _⟩) rfl (fun Kc hKc => ?_) AllReadyH.nil
          go_simp
          go_at_call 30
          have hbw5 := e2
          refine (mul_r (k := K) (k' := 2) (HLD.out.below hbw5) (Tm.loose.below (HLX.out) hbw5) r2.loose (by omega) (by omega) (by omega) (by omega)).mono ?_
          rintro ee w4 ⟨s3, A3, n3, c3, B3, m3, d3, rfl, r4, oA4, oB4, e4⟩
          go_wp2_with fail
          have hbw4 := nextB hbw5 e4
          have hsz4 := hbw4.size
          have hsz5 := hbw5.size
          have T4 := HT2.out.far (hbw4.block b hbd)
          obtain ⟨q0, q1, q2, q3, q4, q5, q6, q7, q8, q9, q10⟩ := T4.box HZ.out
          have y8 := T4.free 8
          have y9 := T4.free 9
          have y10 := T4.free 10
          have RN4 := Lib.hid r4
          have OA4 := Lib.hid oA4
          have OB4 := Lib.hid oB4
          have HB4 := Lib.hid hbw4
          have HT4 := Lib.hid T4
          clear r4 oA4 oB4 e4 hbw4 hbw5 T4 r2 e2
          refine hKc.out _ _ trivial (fun hHeld => ?_)
          clear hKc Kc
          try simp only [Act.put, List.setIfInBounds_toArray, List.set_cons_zero, List.set_cons_succ]
          refine wpAnyH_take (i := 5) (oi := ⟨some 44, _, _, _, _, _⟩) (v := ?_) rfl (by kernel_rfl) (by kernel_rfl) (by kernel_rfl) (fun _ _ _ h => h) (Or.inl ⟨by rfl, ?_⟩) (by assumption) ?_
          rotate_left
          · intro w hSw
            go_simp
            try with_reducible rfl
          try simp only [Act.put, List.setIfInBounds_toArray, List.set_cons_zero, List.set_cons_succ]
          refine wpAnyH_ready (rs := [6]) (by kernel_rfl) (by simp) ?_
          refine AllReadyH.cons (o := ⟨none, _, _, _, _, _⟩) rfl (fun Kc hKc => ?_) AllReadyH.nil
          go_simp
          refine hKc.out _ _ trivial (fun hHeld => ?_)
          clear hKc Kc
          try simp only [Act.put, List.setIfInBounds_toArray, List.set_cons_zero, List.set_cons_succ]
          refine wpAnyH_done (by kernel_rfl) ?_ _
          have T5 := HT4.out.coef s3 A3 n3 c3 B3 m3 d3
          obtain ⟨w5, hw5⟩ : ∃ u, ((w4.setCell ⟨b, 8, none⟩ (.bool s3)).setCell ⟨b, 9, none⟩ (.slice A3 n3 c3)).setCell ⟨b, 10, none⟩ (.slice B3 m3 d3) = u := ⟨_, rfl⟩
          have hset : Below b w4 w5 := by
            rw [← hw5]
            exact (((Below.refl b w4).setCell (p := ⟨b, 8, none⟩) (Nat.le_refl _) _).setCell (p := ⟨b, 9, none⟩) (Nat.le_refl _) _).setCell (p := ⟨b, 10, none⟩) (Nat.le_refl _) _
          have li4 : Tm.lies ⟨dwn v x.1.L, s3, A3, n3, c3, B3, m3, d3⟩ (fun q => b < q) := (Off.lies (t := ⟨dwn v x.1.L, s3, A3, n3, c3, B3, m3, d3⟩) OA4.out OB4.out).mono fun q hq => by omega
          have RN5 : Hid (Tm.rn ⟨dwn v x.1.L, s3, A3, n3, c3, B3, m3, d3⟩ w5 (x.2 * (e : Rat)) (K + 2)) := by
            rw [← hw5]
            exact RN.far3 RN4.out (g := b) (fun _ a ha => by have := OA4.out a ha; omega) (fun _ a ha => by have := OB4.out a ha; omega) 8 9 10 _ _ _
          rw [hw5] at T5
          have hBW5 : Below wr.heap.size wr w5 := (HBD.out.trans (HB4.out.mono HBD.out.size)).trans (hset.mono (Nat.le_of_eq HBE.out))
          have hs5 := hset.size
          have HW5 := Lib.hid hw5
          have HT5 := Lib.hid T5
          clear q0 q1 q2 q3 q4 q5 q6 q7 q8 q9 q10 y8 y9 y10 T5 hw5
          try rw [HW5.out]
          go_wp2
          go_meet
          exact ⟨s3, A3, n3, c3, B3, m3, d3, HT5.out, RN5.out, li4, hBW5, by omega⟩
        case rest =>
          obtain ⟨s3, A3, n3, c3, B3, m3, d3, T5, rn5, li4, hBW5, hs5⟩ := hcut
          have HT5 := Lib.hid T5
          have RN5 := Lib.hid rn5
          clear T5 rn5
          go_upto_region 12 with fail
          obtain ⟨f0, f1, f2, f3, f4, f5, f6, f7, f8, f9, f10⟩ := HT5.out.box HZ.out
          have hcells : (⟨dwn v x.1.L, s3, A3, n3, c3, B3, m3, d3⟩ : Tm).cells = [.int .i64 z0, .int .i64 z1, .int .i64 z2, .int .i64 z3, .int .i64 z4, .int .i64 z5, .int .i64 z6, .int .i64 z7, .bool s3, .slice A3 n3 c3, .slice B3 m3 d3] := by unfold Tm.cells; rw [HZ.out]; rfl
          obtain ⟨wa, hwa⟩ : ∃ wa, wc.alloc (.cells #[.int .i64 z0, .int .i64 z1, .int .i64 z2, .int .i64 z3, .int .i64 z4, .int .i64 z5, .int .i64 z6, .int .i64 z7, .bool s3, .slice A3 n3 c3, .slice B3 m3 d3] 47) = wa := ⟨_, rfl⟩
          have hba : Below wc.heap.size wc wa := hwa ▸ (Below.refl _ wc).alloc (Nat.le_refl _) _
          have NEWS := (alloc_facts hwa).2.2.1
          have hBWa : Below wr.heap.size wr wa := nextB hBW5 hba
          have ROWA := Lib.hid (HOUT.out.below hBWa)
          have RNA := Lib.hid (RN5.out.below hba)
          have hwsa : w1.heap.size ≤ wa.heap.size := by have := HBR.out.size; have := hBWa.size; omega
          have HWA := Lib.hid hwa
          have HCC := Lib.hid hcells
          have HBWA := Lib.hid hBWa
          clear hwa hba hcells RN5 hBW5
          have hrl := ROWA.out.row
          go_wp2_with (at_builtin; (rw [HWA.out]; refine wpList_append_own_at _ rfl (.tmp 45) (.tmp 47) 26 rfl w1.heap.size 47 ti zt 11 ti.bytes Tryz.underlying26 hti hz1 hs1 rfl hz2 (by decide) (.slice AO nO cO) nO (rowOf (tms out)) rfl hrl ⟨wc.heap.size, 0, none⟩ 1 1 [.int .i64 z0, .int .i64 z1, .int .i64 z2, .int .i64 z3, .int .i64 z4, .int .i64 z5, .int .i64 z6, .int .i64 z7, .bool s3, .slice A3 n3 c3, .slice B3 m3 d3] rfl rfl NEWS (by simp [Value.oneCell']) (by simp [maxLen]; omega) hby1 hwsa ?_))
          intro v' w8 hown hgrow _ hat
          rw [← HCC.out] at hown
          have e1 : rowOf (tms [((⟨dwn v x.1.L, s3, A3, n3, c3, B3, m3, d3⟩ : Tm), x.2 * (e : Rat))]) = (⟨dwn v x.1.L, s3, A3, n3, c3, B3, m3, d3⟩ : Tm).cells := by simp [tms, rowOf]
          rw [← e1] at hown
          have hg8 : Below w1.heap.size wa w8 := grown_below (Below.refl w1.heap.size wa) hrl hgrow hwsa (Nat.le_refl _)
          have hB8 : Below w1.heap.size w1 w8 := (HBR.out.trans (HBWA.out.mono HBR.out.size)).trans hg8
          obtain ⟨A8, c8, rfl, hR8⟩ := ROWA.out.push (es := [((⟨dwn v x.1.L, s3, A3, n3, c3, B3, m3, d3⟩ : Tm), x.2 * (e : Rat))]) hown hgrow hat (fun y hy => by rw [List.mem_singleton] at hy; subst hy; exact RNA.out) (fun y hy => by
            rw [List.mem_singleton] at hy; subst hy
            exact li4.mono fun q (hq : b < q) a ha => by have := HAB.out a ha; omega)
          have HR8 := Lib.hid hR8
          have HB8 := Lib.hid hB8
          have HT8 : Hid (trms (out ++ [((⟨dwn v x.1.L, s3, A3, n3, c3, B3, m3, d3⟩ : Tm), x.2 * (e : Rat))]) = deriv v (trms (rs.take (i + 1)))) := by
            show _ = _
            rw [take_trms HX.out, deriv_push, if_pos (by rw [HE.out]; exact hpos), trms_append, HTR.out]
            have e5 : dterm v (x.1.L, x.2) = (dwn v x.1.L, x.2 * (e : Rat)) := by unfold dterm; rw [HE.out]
            rw [e5]; rfl
          have HM8 : Hid (∀ y ∈ out ++ [((⟨dwn v x.1.L, s3, A3, n3, c3, B3, m3, d3⟩ : Tm), x.2 * (e : Rat))], MonoE E y.1.L) := fun y hy => by
            rcases List.mem_append.1 hy with hy | hy
            · exact HMO.out y hy
            · rw [List.mem_singleton] at hy; subst hy; exact HMZ.out
          clear hg8 hown hgrow hat hR8 hB8 hrl NEWS RNA ROWA HWA HCC HT5 f0 f1 f2 f3 f4 f5 f6 f7 f8 f9 f10 HOUT HTR HMO HAB HMZ
          go_wp2
          go_roundw
          case rel => exact ⟨A8, nO + 1, c8, _, i + 1, rfl, by go_num, by omega, by omega, HR8, HT8, HM8, HB8⟩
          case measure => simp [intOf] <;> omega
      · have he9 : e = 0 := by omega
        have HT8 : Hid (trms out = deriv v (trms (rs.take (i + 1)))) := by
          show _ = _
          rw [take_trms HX.out, deriv_push, if_neg (by rw [HE.out]; exact hpos), List.append_nil, HTR.out]
        have HR8 := Lib.hid (HOUT.out.below HBU.out)
        have HB8 := Lib.hid (HBR.out.trans (HBU.out.mono HBR.out.size))
        subst he9
        clear HOUT HTR HBR HT1 HBU HSU HU1 HBE HX HAB
        go_wp2
        go_roundw
        case rel => exact ⟨AO, nO, cO, out, i + 1, rfl, by go_num, by omega, by omega, HR8, HT8, HMO, HB8⟩
        case measure => simp [intOf] <;> omega
    · obtain rfl : i = r := by omega
      have hdt : rs.take i = rs := List.take_of_length_le (by rw [← HLEN.out]; exact Nat.le_refl _)
      have htr := HTR.out
      rw [hdt] at htr
      have hnf : PolyNf wr AO nO cO out (K + 2) E := HOUT.out.nf (by omega) HMO.out (by rw [htr]; exact deriv_norml HD.out.norml)
      have HN8 := Lib.hid hnf
      have HQ8 : Hid (Eqv (trms out) (deriv v l)) := by show Eqv _ _; rw [htr]; exact HEQ.out.deriv v
      have HB8 := Lib.hid (nextB HB1.out HBR.out)
      clear htr hnf hdt HOUT HTR HMO HBR
      go_wp2
      exact bodyPost_ret (v := .tuple #[.slice AO nO cO, .int .i64 0]) (by simp [results, Tryz.results13, go_sem]) rfl ⟨AO, nO, cO, rfl, ⟨out, HN8.out, HQ8.out, by omega⟩, HB8.out⟩

theorem nxP {w v : World} {A : Option Addr} {n c N k : Nat} {l : List Trm} {E : Int} (h : Hid (Pol w A n c l N k E)) (b : Below w.heap.size w v) : Hid (Pol v A n c l N k E) := h.out.below b
theorem nxN {w v : World} {A : Option Addr} {n c N k : Nat} {l : List Trm} {E : Int} (h : Hid (Nol w A n c l N k E)) (b : Below w.heap.size w v) : Hid (Nol v A n c l N k E) := h.out.below b
theorem nxL {u w v : World} (h : Hid (Below u.heap.size u w ∧ Laid w)) (b : Below w.heap.size w v) : Hid (Below u.heap.size u v ∧ Laid v) := ⟨nextB h.out.1 b, h.out.2.below b⟩
set_option maxHeartbeats 40000000 in
theorem polynomialDerives.walk {A : Option Addr} {n c V U : Nat} {w : World} (hl : Laid w) (hcap : n ≤ c) (htop : c ≤ maxLen) (hI : 0 < n → ∃ ad, A = some ad ∧ IntsAt w ad n (-9223372036854775808) 9223372036854775807) (hV : V < 256) (hU : U < 256) :
    Calls Tryz.prog 4 #[.slice A n c, .int .u8 (V : Int), .int .u8 (U : Int)] w (True1 w) := by
  have HNW := Lib.hid (new_any A n c w hcap htop hI)
  have HLW := Lib.hid hl
  obtain ⟨i, hi⟩ : ∃ i : Nat, (V : Int) % 3 = i := ⟨V % 3, by omega⟩
  obtain ⟨j, hj⟩ : ∃ j : Nat, (U : Int) % 3 = j := ⟨U % 3, by omega⟩
  have hi8 : i < 8 := by omega
  have hj8 : j < 8 := by omega
  clear hI hcap htop hl
  go_enter Tryz.func4, Tryz.ntmps4
  go_wp2_with fail
  refine HNW.out.mono ?_
  rintro e w1 ⟨g0, rfl, hg, hs1, bw1⟩
  clear HNW
  have HS := Lib.hid (srcPoly_r g0 w1 3 4 hs1 (by decide) (by decide))
  have hg1 := hs1.size
  have HG := Lib.hid hg
  have HB := Lib.hid bw1
  clear hg hs1 bw1
  go_wp2_with fail
  refine HS.out.mono ?_
  rintro e w2 ⟨Ap, np, cp, dp, rfl, rowp, lp, hs2, b2⟩
  have HS := Lib.hid (srcPoly_r g0 w2 3 4 hs2 (by decide) (by decide))
  replace HB : Hid (Below w.heap.size w w2) := HB.out.trans (b2.below HG.out HB.out.size)
  have RP := Lib.hid rowp
  clear hs2 b2 rowp
  go_wp2_with fail
  refine HS.out.mono ?_
  rintro e w3 ⟨Aq, nq, cq, dq, rfl, rowq, lq, _, b3⟩
  replace HB : Hid (Below w.heap.size w w3) := HB.out.trans (b3.below HG.out HB.out.size)
  replace HB := Lib.hid (And.intro HB.out (HLW.out.below HB.out))
  have Hp := Lib.hid (Pol.of_row (RP.out.but b3 hg1) lp (by decide))
  have Hq := Lib.hid (Pol.of_row rowq lq (by decide))
  have MP : Hid (∀ t ∈ trms dp, t.1.length = 8 ∧ 0 ≤ t.1.getD i 0) := RP.out.exps hi8
  have MQ : Hid (∀ t ∈ trms dq, t.1.length = 8 ∧ 0 ≤ t.1.getD i 0) := rowq.exps hi8
  obtain ⟨tp, htp⟩ : ∃ l, trms dp = l := ⟨_, rfl⟩
  obtain ⟨tq, htq⟩ : ∃ l, trms dq = l := ⟨_, rfl⟩
  rw [htp] at Hp MP
  rw [htq] at Hq MQ
  clear b3 rowq RP htp htq lp lq hg1 HG HS
  go_upto_region 4 with fail
  try rw [hi]
  try rw [hj]
  clear hi hj
  have HC := Lib.hid (mulN HB.out.2 Hp.out Hq.out (K := 689) (by decide) (by decide) (by decide) (by decide) (by decide) (by decide) (by decide) (by decide) (by decide) (by decide) (by decide) (by decide) (by decide))
  go_wp2_with fail
  refine HC.out.mono ?_
  rintro e w4 ⟨Am, nm, cm, rfl, nf, ek⟩
  unfold Two
  replace Hp := nxP Hp ek
  replace Hq := nxP Hq ek
  have Hm := Lib.hid nf
  replace HB := nxL HB ek
  clear nf ek HC
  have HC := Lib.hid (derivN HB.out.2 Hm.out.pol (K := 11041) (v := i) (by decide) (by decide) (by decide) (by decide) (by decide) (by decide) hi8)
  go_wp2_with fail
  refine HC.out.mono ?_
  rintro e w5 ⟨Af, nf, cf, rfl, nf, ek⟩
  unfold Two
  replace Hp := nxP Hp ek
  replace Hq := nxP Hq ek
  replace Hm := nxN Hm ek
  have Hf := Lib.hid nf
  replace HB := nxL HB ek
  clear nf ek HC
  clear Hm
  have HC := Lib.hid (derivN HB.out.2 Hp.out (K := 21) (v := i) (by decide) (by decide) (by decide) (by decide) (by decide) (by decide) hi8)
  go_wp2_with fail
  refine HC.out.mono ?_
  rintro e w6 ⟨Aa, na, ca, rfl, nf, ek⟩
  unfold Two
  replace Hp := nxP Hp ek
  replace Hq := nxP Hq ek
  replace Hf := nxN Hf ek
  have Ha := Lib.hid nf
  replace HB := nxL HB ek
  clear nf ek HC
  have HC := Lib.hid (derivN HB.out.2 Hq.out (K := 21) (v := i) (by decide) (by decide) (by decide) (by decide) (by decide) (by decide) hi8)
  go_wp2_with fail
  refine HC.out.mono ?_
  rintro e w7 ⟨Ab, nb, cb, rfl, nf, ek⟩
  unfold Two
  replace Hp := nxP Hp ek
  replace Hq := nxP Hq ek
  replace Hf := nxN Hf ek
  replace Ha := nxN Ha ek
  have Hb := Lib.hid nf
  replace HB := nxL HB ek
  clear nf ek HC
  have HC := Lib.hid (mulN HB.out.2 Ha.out.pol Hq.out (K := 1905) (by decide) (by decide) (by decide) (by decide) (by decide) (by decide) (by decide) (by decide) (by decide) (by decide) (by decide) (by decide) (by decide))
  go_wp2_with fail
  refine HC.out.mono ?_
  rintro e w8 ⟨Ax, nx, cx, rfl, nf, ek⟩
  unfold Two
  replace Hp := nxP Hp ek
  replace Hq := nxP Hq ek
  replace Hf := nxN Hf ek
  replace Ha := nxN Ha ek
  replace Hb := nxN Hb ek
  have Hx := Lib.hid nf
  replace HB := nxL HB ek
  clear nf ek HC
  have HC := Lib.hid (mulN HB.out.2 Hp.out Hb.out.pol (K := 1905) (by decide) (by decide) (by decide) (by decide) (by decide) (by decide) (by decide) (by decide) (by decide) (by decide) (by decide) (by decide) (by decide))
  go_wp2_with fail
  refine HC.out.mono ?_
  rintro e w9 ⟨Ay, ny, cy, rfl, nf, ek⟩
  unfold Two
  replace Hp := nxP Hp ek
  replace Hq := nxP Hq ek
  replace Hf := nxN Hf ek
  replace Ha := nxN Ha ek
  replace Hb := nxN Hb ek
  replace Hx := nxN Hx ek
  have Hy := Lib.hid nf
  replace HB := nxL HB ek
  clear nf ek HC
  clear Hq
  clear Hb
  have HC := Lib.hid (addN HB.out.2 Hx.out.pol Hy.out.pol (K := 60993) (by decide) (by decide) (by decide) (by decide) (by decide) (by decide))
  go_wp2_with fail
  refine HC.out.mono ?_
  rintro e w10 ⟨Ar, nr, cr, rfl, nf, ek⟩
  unfold Two
  replace Hp := nxP Hp ek
  replace Hf := nxN Hf ek
  replace Ha := nxN Ha ek
  replace Hx := nxN Hx ek
  replace Hy := nxN Hy ek
  have Hr := Lib.hid nf
  replace HB := nxL HB ek
  clear nf ek HC
  clear Hx
  clear Hy
  have HC := Lib.hid (derivN HB.out.2 Ha.out.pol (K := 97) (v := j) (by decide) (by decide) (by decide) (by decide) (by decide) (by decide) hj8)
  go_wp2_with fail
  refine HC.out.mono ?_
  rintro e w11 ⟨Ac, nc, cc, rfl, nf, ek⟩
  unfold Two
  replace Hp := nxP Hp ek
  replace Hf := nxN Hf ek
  replace Ha := nxN Ha ek
  replace Hr := nxN Hr ek
  have Hc := Lib.hid nf
  replace HB := nxL HB ek
  clear nf ek HC
  clear Ha
  have HC := Lib.hid (derivN HB.out.2 Hp.out (K := 21) (v := j) (by decide) (by decide) (by decide) (by decide) (by decide) (by decide) hj8)
  go_wp2_with fail
  refine HC.out.mono ?_
  rintro e w12 ⟨Ad, nd, cd, rfl, nf, ek⟩
  unfold Two
  replace Hp := nxP Hp ek
  replace Hf := nxN Hf ek
  replace Hr := nxN Hr ek
  replace Hc := nxN Hc ek
  have Hd := Lib.hid nf
  replace HB := nxL HB ek
  clear nf ek HC
  clear Hp
  have HC := Lib.hid (derivN HB.out.2 Hd.out.pol (K := 97) (v := i) (by decide) (by decide) (by decide) (by decide) (by decide) (by decide) hi8)
  go_wp2_with fail
  refine HC.out.mono ?_
  rintro e w13 ⟨Ak, nk, ck, rfl, nf, ek⟩
  unfold Two
  replace Hf := nxN Hf ek
  replace Hr := nxN Hr ek
  replace Hc := nxN Hc ek
  replace Hd := nxN Hd ek
  have Hk := Lib.hid nf
  replace HB := nxL HB ek
  clear nf ek HC
  clear Hd
  have HC := Lib.hid (sameN Hf.out Hr.out (deriv_prods MP.out MQ.out) (by decide))
  go_wp2_with fail
  refine HC.out.mono ?_
  rintro e w14 ⟨rfl, ek⟩
  clear Hf
  clear Hr
  replace Hc := nxN Hc ek
  replace Hk := nxN Hk ek
  replace HB := nxL HB ek
  clear ek HC
  have HC := Lib.hid (sameN Hc.out Hk.out (deriv_comm j i tp) (by decide))
  go_wp2_with fail
  refine HC.out.mono ?_
  rintro e w15 ⟨rfl, ek⟩
  clear Hc
  clear Hk
  replace HB := nxL HB ek
  clear ek HC
  have HC := Lib.hid (awake3 HB.out.2)
  go_wp2_with fail
  refine HC.out.mono ?_
  rintro e wz ⟨rfl, ek⟩
  replace HB := nxL HB ek
  clear ek HC
  go_wp2
  go_ret
  exact ⟨rfl, HB.out.1⟩
end Go.Proofs.YtebbnmjmjoklmaaGreatDoor
