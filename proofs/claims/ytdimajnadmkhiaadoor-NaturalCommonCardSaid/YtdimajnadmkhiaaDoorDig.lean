/-
  Plain facts on decimal digits, and words on memory for slices of bytes. No function of the program is named here.
-/
import Derived.Test.YtdimajnadmkhiaaDoorMem
import Derived.Laws.IdiomStrings
namespace Go.Proofs.YtdimajnadmkhiaaDoor
open Go.RowKit

/-- The decimal digits of n, the last one first, as bytes of text. -/
def revDig (n : Nat) : List UInt8 := UInt8.ofNat (48 + n % 10) :: (if n < 10 then [] else revDig (n / 10))
termination_by n
decreasing_by omega
theorem revDig_small {n : Nat} (h : n < 10) : revDig n = [UInt8.ofNat (48 + n % 10)] := by rw [revDig, if_pos h]
theorem revDig_big {n : Nat} (h : 10 ≤ n) : revDig n = UInt8.ofNat (48 + n % 10) :: revDig (n / 10) := by rw [revDig, if_neg (by omega)]
theorem revDig_len (k : Nat) : ∀ n, n < 10 ^ (k + 1) → (revDig n).length ≤ k + 1 := by
  induction k with
  | zero => intro n h; rw [revDig_small (by simpa using h)]; simp
  | succ k ih =>
    intro n h
    rcases Nat.lt_or_ge n 10 with h1 | h1
    · rw [revDig_small h1]; simp
    · rw [revDig_big h1, List.length_cons]
      have := ih (n / 10) (by rw [Nat.pow_succ] at h; omega)
      omega
theorem digit_byte (n : Nat) : ((UInt8.ofNat (48 + n % 10)).toNat : Int) = 48 + (n : Int) % 10 := by
  rw [UInt8.toNat_ofNat']; omega
theorem group_step {X G R k : Nat} (hX : X = G + 10 ^ (k + 1) * R) (hG : G < 10 ^ (k + 1)) : X % 10 = G % 10 ∧ X / 10 = G / 10 + 10 ^ k * R ∧ G / 10 < 10 ^ k := by
  have e : 10 ^ (k + 1) * R = 10 * (10 ^ k * R) := by rw [Nat.pow_succ, Nat.mul_comm (10 ^ k) 10, Nat.mul_assoc]
  rw [e] at hX
  rw [Nat.pow_succ] at hG
  omega
theorem ten_le (n : Nat) : pw n ≤ (10 : Int) ^ (10 * n) := by
  induction n with
  | zero => decide
  | succ n ih =>
    rw [pw_succ, Nat.mul_succ, Int.pow_add]
    have h0 : (0 : Int) ≤ 10 ^ (10 * n) := Int.le_of_lt (Int.pow_pos (by decide))
    have h1 : 4294967296 * pw n ≤ 4294967296 * 10 ^ (10 * n) := Int.mul_le_mul_of_nonneg_left ih (by decide)
    have h2 : (10 : Int) ^ (10 * n) * 4294967296 ≤ 10 ^ (10 * n) * 10 ^ 10 := Int.mul_le_mul_of_nonneg_left (by decide) h0
    omega
/-- A number of n limbs has at most 10 n + 1 digits. -/
theorem revDig_limbs {x : Int} {n N : Nat} (hx : x < pw n) (hN : x = (N : Int)) : (revDig N).length ≤ 10 * n + 1 := by
  refine revDig_len (10 * n) N ?_
  have h1 := ten_le n
  have h2 : (N : Int) < 10 ^ (10 * n) := by omega
  have h3 : N < 10 ^ (10 * n) := by exact_mod_cast h2
  exact Nat.lt_of_lt_of_le h3 (Nat.pow_le_pow_right (by decide) (by omega))

/-- The bytes as the cells hold them. -/
def bcells (T : List UInt8) : List Value := T.map fun b => .int .u8 (b.toNat : Int)
theorem bcells_length (T : List UInt8) : (bcells T).length = T.length := List.length_map ..
theorem bcells_get (T : List UInt8) (i : Nat) (h : i < T.length) : (bcells T)[i]? = some (.int .u8 (T[i].toNat : Int)) := by
  unfold bcells
  rw [List.getElem?_map, List.getElem?_eq_getElem h]; rfl
theorem bcells_snoc (T : List UInt8) (b : UInt8) : bcells (T ++ [b]) = bcells T ++ [.int .u8 (b.toNat : Int)] := by unfold bcells; rw [List.map_append]; rfl
theorem oneCell_bcells (T : List UInt8) : ∀ u ∈ bcells T, u.oneCell' = true := by
  intro u hu
  unfold bcells at hu
  obtain ⟨b, _, rfl⟩ := List.mem_map.1 hu
  rfl

/-- Rows of different element types lie in different blocks. -/
theorem rows_apart {w : World} {base base' : Nat} {e e' : TypeId} {s s' : Nat} {v v' : Value} {n n' : Nat} {xs xs' : List Value} (h : w.ownsRow base e s v n xs) (h' : w.ownsRow base' e' s' v' n' xs') (hne : e ≠ e') :
    v.ownBlock = none ∨ v.ownBlock ≠ v'.ownBlock := by
  rcases h.2 with ⟨rfl, _⟩ | ⟨g, c, cur, rfl, _, hg, _⟩
  · exact .inl rfl
  · refine .inr fun hh => ?_
    rcases h'.2 with ⟨rfl, _⟩ | ⟨g', c', cur', rfl, _, hg', _⟩
    · cases hh
    · obtain rfl : g = g' := Option.some.inj hh
      rw [hg] at hg'
      injection hg' with hg'
      injection hg' with _ hg'
      exact hne hg'
theorem row_only {w w' : World} {A : Option Addr} {base : Nat} {e : TypeId} {s n m c : Nat} {v : Value} {xs ys : List Value} {base' e' : Nat} (h : w.ownsRow base e s v n xs) (ho : Only A w w') (ha : w.ownsRow base' e' 1 (.slice A m c) m ys) (hne : e ≠ e') : w'.ownsRow base e s v n xs := by
  have hap := rows_apart h ha hne
  refine ⟨h.1, ?_⟩
  rcases h.2 with e0 | ⟨g, cap, cur, rfl, hb, hg, rest⟩
  · exact .inl e0
  · refine .inr ⟨g, cap, cur, rfl, hb, ?_, rest⟩
    rw [ho.block g ?_]
    · exact hg
    · rintro a rfl hag
      rcases hap with h0 | h0
      · cases h0
      · exact h0 (by simp [Value.ownBlock, hag])
theorem row_below {w w' : World} {base : Nat} {e : TypeId} {s n : Nat} {v : Value} {xs : List Value} (h : w.ownsRow base e s v n xs) (hb : Below w.heap.size w w') : w'.ownsRow base e s v n xs := by
  refine ⟨h.1, ?_⟩
  rcases h.2 with e0 | ⟨g, cap, cur, rfl, hg0, hg, rest⟩
  · exact .inl e0
  · exact .inr ⟨g, cap, cur, rfl, hg0, (hb.block g (Array.getElem?_eq_some_iff.1 hg).1).trans hg, rest⟩
theorem Mine.grown {w w' : World} {base : Nat} {A : Option Addr} {n c : Nat} {L : List Int} {base' e' s' n' : Nat} {v' : Value} {xs' : List Value} (h : Mine w base A n c L) (h' : w.ownsRow base' e' s' v' n' xs') (hne : 42 ≠ e') (hg : w.grownBy w' v'.ownBlock) : Mine w' base A n c L :=
  ⟨h.row.kept hg (rows_apart h.row h' hne), h.lims⟩
theorem grown_below {w0 w w' : World} {B base e s n : Nat} {v : Value} {xs : List Value} (h : Below B w0 w) (hr : w.ownsRow base e s v n xs) (hg : w.grownBy w' v.ownBlock) (hB : B ≤ w.heap.size) (hb : B ≤ base) : Below B w0 w' :=
  h.grown hg hB fun k hk => Nat.le_trans hb (hr.lt k hk).1

theorem one_new (w : World) (x : Value) (t : TypeId) : ∀ j u, [x][j]? = some u → (w.alloc (.cells #[x] t)).cell? ((⟨w.heap.size, 0, none⟩ : Addr).add j) = some u := by
  intro j u hj
  match j, hj with
  | 0, hj =>
    injection hj with hj
    subst hj
    have e : (⟨w.heap.size, 0, none⟩ : Addr).add 0 = ⟨w.heap.size, 0, none⟩ := by simp [Addr.add]
    rw [e, World.cell?_alloc_mark]; rfl

theorem one_cell (x : Value) (h : x.oneCell' = true) : ∀ u ∈ [x], u.oneCell' = true := by
  intro u hu
  rw [List.mem_singleton] at hu
  rw [hu]; exact h
theorem le_alloc {B : Nat} {w : World} (h : B ≤ w.heap.size) (o : Obj) : B ≤ (w.alloc o).heap.size := by simp; omega
theorem room_one {n : Nat} (h : n < 10000001) : n + 1 ≤ maxLen := by unfold maxLen; omega
theorem room_one' {n : Nat} (h : n < 10000001) : (n + 1) * 1 ≤ 140737488355328 := by omega

theorem row_form {w : World} {base : Nat} {e : TypeId} {s n : Nat} {v : Value} {xs : List Value} (h : w.ownsRow base e s v n xs) : ∃ A c, v = .slice A n c := by
  rcases h.2 with ⟨e, h0⟩ | ⟨g, cap, cur, e, _⟩
  · subst h0; exact ⟨_, _, e⟩
  · exact ⟨_, _, e⟩

end Go.Proofs.YtdimajnadmkhiaaDoor
