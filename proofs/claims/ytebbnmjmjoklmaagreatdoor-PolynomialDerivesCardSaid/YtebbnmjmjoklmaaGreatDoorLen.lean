/-
  Words on memory for the walks over lists of limbs: a slice value that reads as a list of limbs, one that the call itself made, and how both are kept. No function of the program is named here.
  natural.strip: for every list of limbs it returns the part without the zeros at its end, in the same memory, and nil if nothing is left; the world is as it was.
  The functions of math/bits on words of 32 bits that natural calls, and natural.multiplyAdd: what they return for limbs.
  natural.Trim, fromWord, toWord, FromInt, Int, Cmp: what they return for every list of limbs.
  natural.Cmp: for every two lists of limbs it returns -1, 0 or 1, as their numbers compare; no memory is changed.
  math/bits.Len32, LeadingZeros32, and Len of numbers below 256: how many binary digits.
-/
import Derived.Test.YtebbnmjmjoklmaaGreatDoorNum
import Derived.Below
import Derived.Laws.OwnMore
import Derived.Deep.AppendLies
import Derived.Deep.Draws
import Derived.OwnWalk
import Derived.Lib.Hide
import Derived.Test.YtebbnmjmjoklmaaGreatDoorChecked
import Derived.WalkKit
import Derived.Handy
import Derived.Outline
import Derived.Laws.BitsAllLaws
import Derived.Laws.BitsLemmas
import Derived.BigQuiet
import Derived.Deep.QuietTactic
import Derived.Laws.AppendOwnNone
import Derived.Lib.BitFns
namespace Go.Proofs.YtebbnmjmjoklmaaGreatDoor
open Go.RowKit
set_option maxRecDepth 20000

theorem addr_block (p : Addr) (k : Nat) : (p.add k).block = p.block := by
  rw [Addr.add]; split
  · rfl
  · rfl

/-- The limbs as the cells hold them. -/
def cells (L : List Int) : List Value := L.map (Value.int .u32)
theorem cells_length (L : List Int) : (cells L).length = L.length := List.length_map ..
theorem cells_get (L : List Int) (i : Nat) (h : i < L.length) : (cells L)[i]? = some (.int .u32 (L.getD i 0)) := by
  unfold cells
  rw [List.getElem?_map, List.getElem?_eq_getElem h, List.getD_eq_getElem?_getD, List.getElem?_eq_getElem h]; rfl

/-- The slice value with address A, length n and capacity c reads as the limbs L in w. -/
structure Rd (w : World) (A : Option Addr) (n c : Nat) (L : List Int) : Prop where
  len : L.length = n
  lims : Lims L
  cap : n ≤ c
  top : c ≤ maxLen
  at_ : 0 < n → ∃ ad, A = some ad ∧ ad.block < w.heap.size ∧ ∀ i, i < n → w.cell? (ad.add i) = some (.int .u32 (L.getD i 0))

section
variable {w w' : World} {A : Option Addr} {n c : Nat} {L : List Int}
theorem Rd.nil (w : World) : Rd w none 0 0 [] := ⟨rfl, Lims.nil, Nat.le_refl _, Nat.zero_le _, fun h => absurd h (by omega)⟩
theorem Rd.keep (h : Rd w A n c L) (hs : w.heap.size ≤ w'.heap.size) (hk : ∀ p : Addr, p.block < w.heap.size → w'.cell? p = w.cell? p) : Rd w' A n c L :=
  ⟨h.len, h.lims, h.cap, h.top, fun hn => by
    obtain ⟨ad, e, hb, hc⟩ := h.at_ hn
    exact ⟨ad, e, by omega, fun i hi => (hk _ (by rw [addr_block]; exact hb)).trans (hc i hi)⟩⟩
theorem Rd.below (h : Rd w A n c L) (hb : Below w.heap.size w w') : Rd w' A n c L := h.keep hb.size fun _ hp => hb.cell hp
theorem Rd.drew (h : Rd w A n c L) : Rd w.drew A n c L := ⟨h.len, h.lims, h.cap, h.top, h.at_⟩
theorem Rd.drewN (h : Rd w A n c L) (k : Nat) : Rd (w.drewN k) A n c L := ⟨h.len, h.lims, h.cap, h.top, h.at_⟩
theorem Rd.alloc (h : Rd w A n c L) (o : Obj) : Rd (w.alloc o) A n c L := h.keep (by simp) fun p hp => World.cell?_alloc_lt w o p hp
theorem Rd.take (h : Rd w A n c L) {k : Nat} (hk : k ≤ n) : Rd w A k c (L.take k) :=
  ⟨by rw [List.length_take, h.len]; omega, h.lims.take k, Nat.le_trans hk h.cap, h.top, fun hn => by
    obtain ⟨ad, e, hb, hc⟩ := h.at_ (by omega)
    refine ⟨ad, e, hb, fun i hi => ?_⟩
    rw [hc i (by omega), List.getD_eq_getElem?_getD, List.getD_eq_getElem?_getD, List.getElem?_take_of_lt hi]⟩
theorem Rd.cast (h : Rd w A n c L) {n' : Nat} {L' : List Int} (hn : n = n') (hL : L = L') : Rd w A n' c L' := by subst hn; subst hL; exact h
end

/-- The slice value is nil, or lies at the head of a block of the call's own (base or later), and holds the limbs L. -/
structure Mine (w : World) (base : Nat) (A : Option Addr) (n c : Nat) (L : List Int) : Prop where
  row : w.ownsRow base 71 1 (.slice A n c) n (cells L)
  lims : Lims L

section
variable {w w' : World} {base : Nat} {A : Option Addr} {n c : Nat} {L : List Int}
theorem Mine.nil (w : World) (base : Nat) : Mine w base none 0 0 [] := ⟨World.ownsRow_nil w base _ _, Lims.nil⟩
theorem Mine.len (h : Mine w base A n c L) : L.length = n := by
  have := h.row.1
  rw [cells_length] at this; omega
theorem Mine.rd (h : Mine w base A n c L) : Rd w A n c L := by
  refine ⟨h.len, h.lims, ?_, ?_, fun hn => ?_⟩
  · rcases h.row.2 with ⟨e, h0⟩ | ⟨g, cap, cur, e, _, _, h1, _⟩
    · omega
    · injection e with _ _ e; subst e; exact h1
  · rcases h.row.2 with ⟨e, h0⟩ | ⟨g, cap, cur, e, _, _, _, h1, _⟩
    · injection e with _ _ e; subst e; exact Nat.zero_le _
    · injection e with _ _ e; subst e; exact h1
  · rcases h.row.2 with ⟨_, h0⟩ | ⟨g, cap, cur, e, _, hg, _⟩
    · omega
    · injection e with e _ _
      subst e
      refine ⟨_, rfl, (Array.getElem?_eq_some_iff.1 hg).1, fun i hi => ?_⟩
      exact h.row.cells (g := g) rfl i _ (cells_get L i (by rw [h.len]; exact hi))
theorem Mine.form (h : Mine w base A n c L) (hn : 0 < n) : ∃ g, A = some ⟨g, 0, none⟩ ∧ base ≤ g ∧ g < w.heap.size := by
  rcases h.row.2 with ⟨_, h0⟩ | ⟨g, cap, cur, e, hb, hg, _⟩
  · omega
  · injection e with e _ _
    exact ⟨g, e, hb, (Array.getElem?_eq_some_iff.1 hg).1⟩
theorem Mine.lt (h : Mine w base A n c L) : ∀ a, A = some a → base ≤ a.block ∧ a.block < w.heap.size := by
  rintro a rfl
  exact h.row.lt a.block rfl
/-- Whatever leaves the slice's own block alone keeps it. -/
theorem Mine.keep (h : Mine w base A n c L) (hk : ∀ a, A = some a → w'.heap[a.block]? = w.heap[a.block]?) : Mine w' base A n c L := by
  refine ⟨⟨h.row.1, ?_⟩, h.lims⟩
  rcases h.row.2 with e | ⟨g, cap, cur, e, hb, hg, rest⟩
  · exact .inl e
  · refine .inr ⟨g, cap, cur, e, hb, ?_, rest⟩
    injection e with e _ _
    rw [hk _ e]; exact hg
theorem Mine.below (h : Mine w base A n c L) (hb : Below w.heap.size w w') : Mine w' base A n c L := h.keep fun a ha => hb.block _ (h.lt a ha).2
theorem Mine.drewN (h : Mine w base A n c L) (k : Nat) : Mine (w.drewN k) base A n c L := ⟨h.row, h.lims⟩
theorem Mine.drew (h : Mine w base A n c L) : Mine w.drew base A n c L := ⟨h.row, h.lims⟩
theorem Mine.alloc (h : Mine w base A n c L) (o : Obj) : Mine (w.alloc o) base A n c L := ⟨h.row.alloc o, h.lims⟩
theorem Mine.far (h : Mine w base A n c L) {p : Addr} (hp : ∀ a, A = some a → a.block ≠ p.block) (u : Value) : Mine (w.setCell p u) base A n c L :=
  h.keep fun a ha => Below.heap_setCell _ _ _ _ (hp a ha)
theorem Mine.more (h : Mine w base A n c L) {base' : Nat} (hb : base' ≤ base) : Mine w base' A n c L := by
  refine ⟨⟨h.row.1, ?_⟩, h.lims⟩
  rcases h.row.2 with e | ⟨g, cap, cur, e, hg, rest⟩
  · exact .inl e
  · exact .inr ⟨g, cap, cur, e, Nat.le_trans hb hg, rest⟩
theorem Mine.cast (h : Mine w base A n c L) {n' : Nat} {L' : List Int} (hn : n = n') (hL : L = L') : Mine w base A n' c L' := by subst hn; subst hL; exact h
theorem Mine.take (h : Mine w base A n c L) {k : Nat} (hk : k ≤ n) (h0 : 0 < n) : Mine w base A k c (L.take k) := by
  have hl := h.len
  refine ⟨⟨by rw [cells_length, List.length_take]; omega, ?_⟩, h.lims.take k⟩
  rcases h.row.2 with ⟨_, e0⟩ | ⟨g, cap, cur, e, hb, hg, h1, h2, h3, h4⟩
  · omega
  · injection e with e1 _ e2
    subst e1; subst e2
    refine .inr ⟨g, c, cur, rfl, hb, hg, by omega, h2, h3, ?_⟩
    have : (cells L).take k = cells (L.take k) := by unfold cells; rw [List.map_take]
    rw [← this, ← h4, List.take_take]
    congr 1
    omega
section
variable {g : Nat}
theorem Mine.cellAt (h : Mine w base (some ⟨g, 0, none⟩) n c L) {i : Nat} (hi : i < n) : w.cell? ⟨g, i, none⟩ = some (.int .u32 (L.getD i 0)) := by
  have := h.row.cellAt i (by omega)
  rw [this, cells_get _ _ (by rw [h.len]; exact hi)]
theorem Mine.frozenAt (h : Mine w base (some ⟨g, 0, none⟩) n c L) (i : Nat) : w.frozen? ⟨g, i, none⟩ = false := h.row.frozenAt i
theorem Mine.stored (h : Mine w base (some ⟨g, 0, none⟩) n c L) (i : Nat) {x : Int} (x0 : 0 ≤ x) (x1 : x < 4294967296) : Mine (w.setCell ⟨g, i, none⟩ (.int .u32 x)) base (some ⟨g, 0, none⟩) n c (L.set i x) := by
  refine ⟨?_, h.lims.set i x0 x1⟩
  have : cells (L.set i x) = (cells L).set i (.int .u32 x) := by unfold cells; rw [List.map_set]
  rw [this]
  exact (h.row.stored i _).1
end
end
/-- A block that holds the limbs L, laid by the call. -/
theorem Mine.lit (w : World) {base : Nat} (hb : base ≤ w.heap.size) (cs : Array Value) (L : List Int) (hL : Lims L) (hs : cs.toList = cells L) (hm : L.length ≤ maxLen) :
    Mine (w.alloc (.cells cs 71)) base (some ⟨w.heap.size, 0, none⟩) L.length L.length L := by
  refine ⟨⟨by rw [cells_length]; omega, .inr ⟨w.heap.size, L.length, cs, rfl, hb, heap_alloc_new w _, Nat.le_refl _, hm, ?_, ?_⟩⟩, hL⟩
  · rw [Nat.mul_one, ← Array.length_toList, hs, cells_length]
  · rw [Nat.mul_one, hs, List.take_of_length_le (by rw [cells_length]; omega)]
theorem Mine.of_row {w : World} {base : Nat} {v : Value} {n : Nat} {L : List Int} (h : w.ownsRow base 71 1 v n (cells L)) (hL : Lims L) : ∃ A c, v = .slice A n c ∧ Mine w base A n c L := by
  rcases h.2 with ⟨e, h0⟩ | ⟨g, cap, cur, e, _⟩
  · subst h0
    exact ⟨none, 0, e, e ▸ h, hL⟩
  · exact ⟨_, _, e, e ▸ h, hL⟩
theorem oneCell_cells (L : List Int) : ∀ u ∈ cells L, u.oneCell' = true := ints_oneCell _ _

theorem drewN_below {B : Nat} {a w : World} (h : Below B a w) (n : Nat) : Below B a (w.drewN n) := ⟨h.os, h.tape, h.output, h.size, h.block⟩

theorem cells_zero (n : Nat) : (madeCells #[Value.int .u32 0] n).toList = cells (List.replicate n 0) := by
  rw [toList_madeCells_one, cells, List.map_replicate]
theorem Mine.zero {w : World} {base : Nat} {A : Option Addr} {n c : Nat} (h : w.ownsRow base 71 1 (.slice A n c) n (madeCells #[Value.int .u32 0] n).toList) : Mine w base A n c (List.replicate n 0) :=
  ⟨by rw [← cells_zero]; exact h, Lims.replicate n⟩
theorem below_of_grown {w w' : World} (h : w.grownBy w' none) : Below w.heap.size w w' := (Below.refl _ _).grown h (Nat.le_refl _) (fun k hk => by cases hk)

/-- Of what was there, at most the block of A is changed, and no block is new. -/
structure Only (A : Option Addr) (w w' : World) : Prop where
  os : w'.os = w.os
  tape : w'.tape = w.tape
  output : w'.output = w.output
  size : w'.heap.size = w.heap.size
  block : ∀ k, (∀ a, A = some a → a.block ≠ k) → w'.heap[k]? = w.heap[k]?
section
variable {w w' w2 : World} {A : Option Addr}
theorem Only.refl (A : Option Addr) (w : World) : Only A w w := ⟨rfl, rfl, rfl, rfl, fun _ _ => rfl⟩
theorem Only.drewN (h : Only A w w') (k : Nat) : Only A w (w'.drewN k) := ⟨h.os, h.tape, h.output, h.size, h.block⟩
theorem Only.drew (h : Only A w w') : Only A w w'.drew := ⟨h.os, h.tape, h.output, h.size, h.block⟩
theorem Only.set {g : Nat} (h : Only (some ⟨g, 0, none⟩) w w') (i : Nat) (u : Value) : Only (some ⟨g, 0, none⟩) w (w'.setCell ⟨g, i, none⟩ u) :=
  ⟨h.os, h.tape, h.output, by rw [← h.size]; simp [World.setCell], fun k hk => (Below.heap_setCell w' ⟨g, i, none⟩ u k (fun e => hk _ rfl e.symm)).trans (h.block k hk)⟩
theorem Only.below {B : Nat} (h : Only A w w') (hA : ∀ a, A = some a → B ≤ a.block) : Below B w w' :=
  ⟨h.os, h.tape, h.output, by rw [h.size]; exact Nat.le_refl _, fun k hk => h.block k (fun a ha => by have := hA a ha; omega)⟩
theorem Mine.other {base n c : Nat} {A' : Option Addr} {L : List Int} (h : Mine w base A' n c L) (ho : Only A w w') (hne : ∀ a a', A = some a → A' = some a' → a.block ≠ a'.block) : Mine w' base A' n c L :=
  h.keep fun a' ha' => ho.block _ (fun a ha => hne a a' ha ha')
end

theorem nextB {w w1 w2 : World} (h : Below w.heap.size w w1) (k : Below w1.heap.size w1 w2) : Below w.heap.size w w2 := h.trans (k.mono h.size)

theorem Only.farCell {w w' : World} {g : Nat} (h : Only (some ⟨g, 0, none⟩) w w') {p : Addr} (hp : p.block ≠ g) : w'.cell? p = w.cell? p :=
  World.cell?_of_block (h.block _ (by intro a ha; injection ha with ha; rw [← ha]; exact fun e => hp e.symm))

theorem add_plain (g i k : Nat) : (⟨g, i, none⟩ : Addr).add k = ⟨g, i + k, none⟩ := by
  rw [Addr.add]
  split
  · next h => rw [h, Nat.add_zero]
  · rfl
theorem Rd.cellAt {w : World} {g i n c : Nat} {L : List Int} (h : Rd w (some ⟨g, i, none⟩) n c L) {k : Nat} (hk : k < n) : w.cell? ⟨g, i + k, none⟩ = some (.int .u32 (L.getD k 0)) := by
  obtain ⟨ad, e, _, hc⟩ := h.at_ (by omega)
  injection e with e
  rw [← e] at hc
  have := hc k hk
  rwa [add_plain] at this
theorem Mine.window {w : World} {base g N C i k : Nat} {R : List Int} (h : Mine w base (some ⟨g, 0, none⟩) N C R) (hk : i + k ≤ N) (hC : i ≤ C) : Rd w (some ⟨g, i, none⟩) k (C - i) ((R.drop i).take k) := by
  have hl := h.len
  have hc := h.rd.cap
  refine ⟨by rw [List.length_take, List.length_drop]; omega, (h.lims.drop i).take k, by omega, by have := h.rd.top; omega, fun h0 => ⟨_, rfl, (h.lt _ rfl).2, fun j hj => ?_⟩⟩
  rw [add_plain, h.cellAt (by omega)]
  rw [List.getD_eq_getElem?_getD, List.getD_eq_getElem?_getD, List.getElem?_take_of_lt hj, List.getElem?_drop]

end Go.Proofs.YtebbnmjmjoklmaaGreatDoor

namespace Go.Proofs.YtebbnmjmjoklmaaGreatDoor
open Go.RowKit
set_option maxRecDepth 20000

/-- What strip hands back for the slice (A, n, c) that reads as L. -/
def Stripped (A : Option Addr) (c : Nat) (L : List Int) (A' : Option Addr) (n' c' : Nat) : Prop :=
  n' = (trim L).length ∧ ((n' = 0 ∧ A' = none ∧ c' = 0) ∨ (0 < n' ∧ A' = A ∧ c' = c))
def StripPost (A : Option Addr) (c : Nat) (L : List Int) (w : World) (e : Ending) (w' : World) : Prop :=
  ∃ A' n' c', e = .returned (.slice A' n' c') ∧ Stripped A c L A' n' c' ∧ w = w'
theorem Stripped.rd {w : World} {A A' : Option Addr} {n c n' c' : Nat} {L : List Int} (h : Stripped A c L A' n' c') (hr : Rd w A n c L) : Rd w A' n' c' (trim L) := by
  obtain ⟨hn, ⟨h0, rfl, rfl⟩ | ⟨h0, rfl, rfl⟩⟩ := h
  · subst h0
    have : trim L = [] := List.eq_nil_of_length_eq_zero hn.symm
    rw [this]; exact Rd.nil w
  · have hle := trim_length_le L
    have := hr.len
    exact (hr.take (k := n') (by omega)).cast rfl (by rw [hn, ← trim_take])

theorem Stripped.mine {w : World} {base : Nat} {A A' : Option Addr} {n c n' c' : Nat} {L : List Int} (h : Stripped A c L A' n' c') (hr : Mine w base A n c L) : Mine w base A' n' c' (trim L) := by
  obtain ⟨hn, ⟨h0, rfl, rfl⟩ | ⟨h0, rfl, rfl⟩⟩ := h
  · subst h0
    have : trim L = [] := List.eq_nil_of_length_eq_zero hn.symm
    rw [this]; exact Mine.nil w base
  · have hle := trim_length_le L
    have := hr.len
    exact (hr.take (k := n') (by omega) (by omega)).cast rfl (by rw [hn, ← trim_take])

theorem trim_take_succ (L : List Int) (k : Nat) (hk : k < L.length) (h : L.getD k 0 = 0) : trim (L.take (k + 1)) = trim (L.take k) := by
  rw [List.take_succ_eq_append_getElem hk]
  have : L[k] = 0 := by rw [List.getD_eq_getElem?_getD, List.getElem?_eq_getElem hk] at h; exact h
  rw [this, trim_snoc_zero]
theorem trim_take_ne (L : List Int) (k : Nat) (hk : k < L.length) (h : L.getD k 0 ≠ 0) : trim (L.take (k + 1)) = L.take (k + 1) := by
  rw [List.take_succ_eq_append_getElem hk]
  have : L[k] ≠ 0 := by rw [List.getD_eq_getElem?_getD, List.getElem?_eq_getElem hk] at h; exact h
  rw [trim_snoc_ne _ _ this]

set_option maxHeartbeats 400000 in
theorem strip_any (A : Option Addr) (n c : Nat) (L : List Int) (w : World) (hr : Rd w A n c L) :
    Calls Tryz.prog 94 #[.slice A n c] w (StripPost A c L w) := by
  have hlen := hr.len
  have hcap := hr.cap
  have htop := hr.top
  unfold maxLen at htop
  go_enter Tryz.func94, Tryz.ntmps94
  go_wp2
  go_loop [3] (fun i => ∃ k : Nat, k ≤ n ∧ i = .int .i64 k ∧ Hid (trim (L.take k) = trim L)) (fun i => (intOf i).toNat)
  case atStart => exact ⟨n, Nat.le_refl _, rfl, by show trim _ = _; rw [List.take_of_length_le (by omega)]⟩
  case round =>
    obtain ⟨k, hk, rfl, hT⟩ := hrel
    clear hlen
    by_cases h0 : 0 < k
    · obtain ⟨j, rfl⟩ : ∃ j, k = j + 1 := ⟨k - 1, by omega⟩
      obtain ⟨ad, rfl, hb, hc⟩ := hr.at_ (by omega)
      have hcj := hc j (by omega)
      clear hc
      by_cases hz : L.getD j 0 = 0
      · rw [hz] at hcj
        go_wp2
        go_round
        case rel => exact ⟨j, by omega, rfl, (congrArg (· = trim L) (trim_take_succ L j (by have := hr.len; omega) hz)).mp hT⟩
        case measure => simp [intOf] <;> omega
      · have hz' : (L.getD j 0 == 0) = false := by simpa using hz
        have HZ : Hid (L.getD j 0 ≠ 0) := hz
        clear hz
        obtain ⟨x, hx⟩ : ∃ x, L.getD j 0 = x := ⟨_, rfl⟩
        rw [hx] at hcj hz'
        clear hx
        go_wp2
        go_ret
        refine ⟨_, _, _, rfl, ⟨?_, .inr ⟨Nat.succ_pos _, rfl, rfl⟩⟩, rfl⟩
        rw [← hT, trim_take_ne L j (by have := hr.len; omega) HZ, List.length_take]
        have := hr.len
        omega
    · obtain rfl : k = 0 := by omega
      clear h0
      go_wp2
      go_ret
      refine ⟨_, _, _, rfl, ⟨?_, .inl ⟨rfl, rfl, rfl⟩⟩, rfl⟩
      rw [← hT]; rfl

end Go.Proofs.YtebbnmjmjoklmaaGreatDoor

namespace Go.Proofs.YtebbnmjmjoklmaaGreatDoor
open Go.RowKit
set_option maxRecDepth 20000

theorem ret_int {k : IntKind} {a b : Int} (h : a = b) : Ending.returned (.int k a) = .returned (.int k b) := by rw [h]
theorem ret2_int {k k' : IntKind} {a b a' b' : Int} (h : a = b) (h' : a' = b') : Ending.returned (.tuple #[.int k a, .int k' a']) = .returned (.tuple #[.int k b, .int k' b']) := by rw [h, h']
theorem and_mask (a : Int) (k m : Nat) (hm : m + 1 = 2 ^ k) (hk : k ≤ 62) (a0 : 0 ≤ a) (a1 : a ≤ 9223372036854775807) : bits .and .i64 a (m : Int) = a % ((m : Int) + 1) := by
  have hk2 : 2 ^ k ≤ 2 ^ 62 := Nat.pow_le_pow_right (by decide) hk
  have e62 : (2 : Nat) ^ 62 = 4611686018427387904 := by decide
  have h1 : ∀ x : Nat, x < 9223372036854775808 → (BitVec.ofInt 64 (x : Int)).toNat = x := by
    intro x hx
    rw [BitVec.ofInt_natCast, BitVec.toNat_ofNat]
    exact Nat.mod_eq_of_lt (by omega)
  obtain ⟨n, rfl⟩ := Int.eq_ofNat_of_zero_le a0
  have e : m = 2 ^ k - 1 := by omega
  have h2 : n &&& m = n % (m + 1) := by rw [hm, e, Nat.and_two_pow_sub_one_eq_mod]
  show IntKind.i64.wrap ((BitVec.ofInt 64 (n : Int) &&& BitVec.ofInt 64 (m : Int)).toNat : Int) = _
  rw [BitVec.toNat_and, h1 n (by omega), h1 m (by omega), h2, IntKind.wrap_i64]
  have h3 : n % (m + 1) < m + 1 := Nat.mod_lt _ (by omega)
  have h4 : ((n % (m + 1) : Nat) : Int) = (n : Int) % ((m : Int) + 1) := by simp
  omega

theorem u32_bits_lt (op : BinOp) (h : op = .and ∨ op = .or ∨ op = .xor) (a b : Int) (h1 : 0 ≤ a) (h2 : a < 4294967296) (h3 : 0 ≤ b) (h4 : b < 4294967296) : 0 ≤ bits op .u32 a b ∧ bits op .u32 a b < 4294967296 := by
  have e : (4294967296 : Nat) = 2 ^ 32 := by decide
  have ha : a.toNat < 2 ^ 32 := by omega
  have hb : b.toNat < 2 ^ 32 := by omega
  rcases h with rfl | rfl | rfl
  · rw [u32_and a b h1 h2 h3 h4]
    have := Nat.and_lt_two_pow a.toNat hb
    omega
  · rw [u32_or a b h1 h2 h3 h4]
    have := Nat.or_lt_two_pow ha hb
    omega
  · rw [u32_xor a b h1 h2 h3 h4]
    have := Nat.xor_lt_two_pow ha hb
    omega

theorem top_bit (n : Nat) (h : n < 4294967296) : n / 2147483648 = 0 ∨ n / 2147483648 = 1 := by omega
theorem borrow_bits (x y d : Nat) :
    (((4294967295 ^^^ x) &&& y) ||| ((4294967295 ^^^ (x ^^^ y)) &&& d)) / 2147483648 = ((1 ^^^ (x / 2147483648)) &&& (y / 2147483648)) ||| ((1 ^^^ ((x / 2147483648) ^^^ (y / 2147483648))) &&& (d / 2147483648)) := by
  have e : (2147483648 : Nat) = 2 ^ 31 := by decide
  rw [e, Nat.or_div_two_pow, Nat.and_div_two_pow, Nat.and_div_two_pow, Nat.xor_div_two_pow, Nat.xor_div_two_pow, Nat.xor_div_two_pow]
theorem borrow_word (x y c : Int) (x0 : 0 ≤ x) (x1 : x < 4294967296) (y0 : 0 ≤ y) (y1 : y < 4294967296) (c0 : 0 ≤ c) (c1 : c < 2) :
    bits .or .u32 (bits .and .u32 (bits .xor .u32 IntKind.u32.max x) y) (bits .and .u32 (bits .xor .u32 IntKind.u32.max (bits .xor .u32 x y)) ((x - y - c) % 4294967296)) / 2147483648 = borrowOf x y c := by
  have m : IntKind.u32.max = 4294967295 := by decide
  have m0 : (4294967295 : Int).toNat = 4294967295 := by decide
  obtain ⟨d, hd⟩ : ∃ d : Int, d = (x - y - c) % 4294967296 := ⟨_, rfl⟩
  have d0 : 0 ≤ d := by omega
  have d1 : d < 4294967296 := by omega
  rw [m, ← hd]
  have a1 := u32_bits_lt .xor (.inr (.inr rfl)) 4294967295 x (by omega) (by omega) x0 x1
  have a2 := u32_bits_lt .and (.inl rfl) _ y a1.1 a1.2 y0 y1
  have a3 := u32_bits_lt .xor (.inr (.inr rfl)) x y x0 x1 y0 y1
  have a4 := u32_bits_lt .xor (.inr (.inr rfl)) 4294967295 _ (by omega) (by omega) a3.1 a3.2
  have a5 := u32_bits_lt .and (.inl rfl) _ d a4.1 a4.2 d0 d1
  rw [u32_or _ _ a2.1 a2.2 a5.1 a5.2, u32_and _ _ a1.1 a1.2 y0 y1, u32_and _ _ a4.1 a4.2 d0 d1, u32_xor _ _ (by omega) (by omega) x0 x1, u32_xor _ _ (by omega) (by omega) a3.1 a3.2, u32_xor _ _ x0 x1 y0 y1]
  simp only [Int.toNat_natCast, m0]
  have B := borrow_bits x.toNat y.toNat d.toNat
  have T1 := top_bit x.toNat (by omega)
  have T2 := top_bit y.toNat (by omega)
  have T3 := top_bit d.toNat (by omega)
  have key : ((((4294967295 ^^^ x.toNat) &&& y.toNat) ||| ((4294967295 ^^^ (x.toNat ^^^ y.toNat)) &&& d.toNat)) / 2147483648 : Nat) = (borrowOf x y c).toNat := by
    rw [B]
    unfold borrowOf
    rcases T1 with t1 | t1 <;> rcases T2 with t2 | t2 <;> rcases T3 with t3 | t3 <;> rw [t1, t2, t3] <;> simp <;> omega
  have r := borrowOf_range x y c
  omega

theorem add32_any (x y c : Int) (w : World) (hx : 0 ≤ x ∧ x < 4294967296) (hy : 0 ≤ y ∧ y < 4294967296) (hc : 0 ≤ c ∧ c < 4294967296) :
    Calls Tryz.prog 128 #[.int .u32 x, .int .u32 y, .int .u32 c] w fun e w' => e = .returned (.tuple #[.int .u32 ((x + y + c) % 4294967296), .int .u32 ((x + y + c) / 4294967296)]) ∧ w = w' := by
  obtain ⟨x0, x1⟩ := hx
  obtain ⟨y0, y1⟩ := hy
  obtain ⟨c0, c1⟩ := hc
  go_enter Tryz.func128, Tryz.ntmps128
  go_wp2
  go_ret2
  exact ⟨rfl, rfl⟩

theorem mul_limbs (x y : Int) (hx : 0 ≤ x ∧ x < 4294967296) (hy : 0 ≤ y ∧ y < 4294967296) : 0 ≤ x * y ∧ x * y ≤ 18446744065119617025 :=
  ⟨Int.mul_nonneg hx.1 hy.1, by
    have h1 : x * y ≤ 4294967295 * y := Int.mul_le_mul_of_nonneg_right (by omega) hy.1
    omega⟩

theorem mul32_any (x y : Int) (w : World) (hx : 0 ≤ x ∧ x < 4294967296) (hy : 0 ≤ y ∧ y < 4294967296) :
    Calls Tryz.prog 127 #[.int .u32 x, .int .u32 y] w fun e w' => e = .returned (.tuple #[.int .u32 (x * y / 4294967296), .int .u32 (x * y % 4294967296)]) ∧ w = w' := by
  obtain ⟨p0, p1⟩ := mul_limbs x y hx hy
  obtain ⟨x0, x1⟩ := hx
  obtain ⟨y0, y1⟩ := hy
  have p2 : x * y / 4294967296 < 4294967296 := by omega
  go_enter Tryz.func127, Tryz.ntmps127
  go_wp2
  go_ret2
  exact ⟨rfl, rfl⟩

theorem sub32_any (x y c : Int) (w : World) (hx : 0 ≤ x ∧ x < 4294967296) (hy : 0 ≤ y ∧ y < 4294967296) (hc : 0 ≤ c ∧ c < 2) :
    Calls Tryz.prog 157 #[.int .u32 x, .int .u32 y, .int .u32 c] w fun e w' => e = .returned (.tuple #[.int .u32 ((x - y - c) % 4294967296), .int .u32 (borrowOf x y c)]) ∧ w = w' := by
  obtain ⟨x0, x1⟩ := hx
  obtain ⟨y0, y1⟩ := hy
  obtain ⟨c0, c1⟩ := hc
  have W := borrow_word x y c x0 x1 y0 y1 c0 c1
  have HW := Lib.hid W
  clear W
  go_enter Tryz.func157, Tryz.ntmps157
  go_wp2
  all_goals first
    | (exfalso; rename_i h; exact h rfl)
    | (go_ret2; exact ⟨by rw [← HW.out]; rfl, rfl⟩)

theorem or_join (x y : Int) (x0 : 0 ≤ x) (x1 : x < 4294967296) (y0 : 0 ≤ y) (y1 : y < 4294967296) : bits .or .u64 (x * 4294967296) y = x * 4294967296 + y := by
  rw [u64_or _ _ (by omega) (by omega) (by omega) (by omega), nat_join 32 _ _ (by omega) (by omega)]
  omega

theorem div32_any (x y d : Int) (w : World) (hx : 0 ≤ x ∧ x < d) (hy : 0 ≤ y ∧ y < 4294967296) (hd : d < 4294967296) :
    Calls Tryz.prog 146 #[.int .u32 x, .int .u32 y, .int .u32 d] w fun e w' => e = .returned (.tuple #[.int .u32 ((x * 4294967296 + y) / d), .int .u32 ((x * 4294967296 + y) % d)]) ∧ ∃ n, w' = w.drewN n := by
  obtain ⟨x0, x1⟩ := hx
  obtain ⟨y0, y1⟩ := hy
  have hd0 : (d != 0) = true := by simp; omega
  have hd1 : ¬ d ≤ x := by omega
  have J := or_join x y x0 (by omega) y0 y1
  have d0 : 1 ≤ d := by omega
  have q0 : (x * 4294967296 + y) / d < 4294967296 := Int.ediv_lt_of_lt_mul (by omega) (by
    have : x * 4294967296 + 4294967296 ≤ d * 4294967296 := by omega
    rw [Int.mul_comm 4294967296 d]; omega)
  have q1 : 0 ≤ (x * 4294967296 + y) / d := Int.ediv_nonneg (by omega) (by omega)
  have r0 := Int.emod_nonneg (x * 4294967296 + y) (show d ≠ 0 by omega)
  have r1 := Int.emod_lt_of_pos (x * 4294967296 + y) (show 0 < d by omega)
  have r2 : (x * 4294967296 + y) % d < 4294967296 := by omega
  go_enter Tryz.func146, Tryz.ntmps146
  go_wp2
  go_quiet (fail)
  go_wp2
  go_ret2
  exact ⟨rfl, _, rfl⟩

theorem multiplyAdd_any (x y a c : Int) (w : World) (hx : 0 ≤ x ∧ x < 4294967296) (hy : 0 ≤ y ∧ y < 4294967296) (ha : 0 ≤ a ∧ a < 4294967296) (hc : 0 ≤ c ∧ c < 4294967296) :
    Calls Tryz.prog 95 #[.int .u32 x, .int .u32 y, .int .u32 a, .int .u32 c] w fun e w' =>
      e = .returned (.tuple #[.int .u32 ((x * y + a + c) / 4294967296), .int .u32 ((x * y + a + c) % 4294967296)]) ∧ w = w' := by
  obtain ⟨p0, p1⟩ := mul_limbs x y hx hy
  have M := mul32_any x y w hx hy
  have HM := Lib.hid M
  clear M
  obtain ⟨x0, x1⟩ := hx
  obtain ⟨y0, y1⟩ := hy
  obtain ⟨a0, a1⟩ := ha
  obtain ⟨c0, c1⟩ := hc
  have b1 : 0 ≤ x * y / 4294967296 := by omega
  have b2 : x * y / 4294967296 + (x * y % 4294967296 + a) / 4294967296 < 4294967296 := by omega
  have b3 : x * y / 4294967296 + (x * y % 4294967296 + a) / 4294967296 + ((x * y % 4294967296 + a) % 4294967296 + c) / 4294967296 < 4294967296 := by omega
  go_enter Tryz.func95, Tryz.ntmps95
  go_wp2_with fail
  refine HM.out.mono ?_
  rintro e w' ⟨rfl, rfl⟩
  go_wp2_with fail
  refine (add32_any _ _ _ _ (by omega) (by omega) (by omega)).mono ?_
  rintro e w' ⟨rfl, rfl⟩
  go_wp2_with fail
  refine (add32_any _ _ _ _ (by omega) (by omega) (by omega)).mono ?_
  rintro e w' ⟨rfl, rfl⟩
  go_wp2_with fail
  go_ret2
  exact ⟨ret2_int (by omega) (by omega), rfl⟩

end Go.Proofs.YtebbnmjmjoklmaaGreatDoor

namespace Go.Proofs.YtebbnmjmjoklmaaGreatDoor
open Go.RowKit
set_option maxRecDepth 20000

theorem info_limb : (Tryz.prog.info? 71).map (fun i => (i.zero, i.size, i.bytes)) = some (some (.int .u32 0), 1, 4) := by kernel_rfl

theorem cells_at {w : World} {ad : Addr} {n : Nat} {L : List Int} (hl : L.length = n) (hc : ∀ i, i < n → w.cell? (ad.add i) = some (.int .u32 (L.getD i 0))) :
    ∀ j u, (cells L)[j]? = some u → w.cell? (ad.add j) = some u := by
  intro j u hj
  have hlt : j < L.length := by
    have := (List.getElem?_eq_some_iff.1 hj).1
    rwa [cells_length] at this
  rw [cells_get L j hlt] at hj
  rw [hc j (by omega), hj]

/-- A slice of the call's own with the limbs of m comes back; what was there before is as it was. -/
def Gives (w : World) (m : Int) (e : Ending) (w' : World) : Prop :=
  ∃ A n c L, e = .returned (.slice A n c) ∧ Mine w' w.heap.size A n c L ∧ Is L m ∧ Below w.heap.size w w'

theorem trim_any (A : Option Addr) (n c : Nat) (L : List Int) (w : World) (hr : Rd w A n c L) (hn : n ≤ 1000000) :
    Calls Tryz.prog 97 #[.slice A n c] w (Gives w (val L)) := by
  obtain ⟨i0, hi, hz0, hz1, hz2⟩ := info_parts info_limb
  have hl := hr.len
  have hle := trim_length_le L
  go_enter Tryz.func97, Tryz.ntmps97
  go_wp2_with fail
  refine (strip_any A n c L w hr).mono ?_
  rintro e w' ⟨A', n', c', rfl, hS, rfl⟩
  have hr' := hS.rd hr
  have hn' := hr'.len
  rcases Nat.eq_zero_or_pos n' with h0 | h0
  · obtain ⟨hE, ⟨_, rfl, rfl⟩ | ⟨h1, _, _⟩⟩ := hS
    · have hT : trim L = [] := List.eq_nil_of_length_eq_zero (by omega)
      have HT := Lib.hid hT
      subst h0
      clear hr' hn' hT hE hle
      go_wp2_with (at_builtin; refine wpList_append_own_none rfl _ _ 40 rfl w.heap.size 71 i0 1 Tryz.underlying40 hi (.slice none 0 0) 0 [] rfl (World.ownsRow_nil _ _ _ _) rfl ?_)
      go_ret
      exact ⟨none, 0, 0, _, rfl, (Mine.nil w _).cast rfl HT.out.symm, Is.mk_trim hr.lims, Below.refl _ _⟩
    · omega
  · obtain ⟨ad, rfl, hb, hc⟩ := hr'.at_ h0
    go_wp2_with (at_builtin; refine wpList_append_own _ rfl _ _ 40 rfl w.heap.size 71 i0 (.int .u32 0) 1 4 Tryz.underlying40 hi hz0 hz1 hz2 rfl (by decide) (.slice none 0 0) 0 [] rfl (World.ownsRow_nil _ _ _ _) ad n' c' (cells (trim L)) rfl ?c1 ?c2 ?c3 ?c4 ?c5 (Nat.le_refl _) ?_)
    case c1 => rw [cells_length]; omega
    case c2 => exact cells_at hr'.len hc
    case c3 => exact oneCell_cells _
    case c4 => unfold maxLen; omega
    case c5 => omega
    intro v' w1 hown hgrow _
    go_wp2
    go_ret
    obtain ⟨A1, c1, hv, hm⟩ := Mine.of_row (L := trim L) (by simpa using hown) hr'.lims
    exact ⟨A1, n', c1, _, congrArg Ending.returned hv, hm, Is.mk_trim hr.lims, (Below.refl _ _).grown hgrow (Nat.le_refl _) (by intro k hk; cases hk)⟩

theorem fromWord_any (x : Int) (w : World) (x0 : 0 ≤ x) (x1 : x < 18446744073709551616) :
    Calls Tryz.prog 99 #[.int .u64 x] w (Gives w x) := by
  go_enter Tryz.func99, Tryz.ntmps99
  go_wp2_with fail
  have hm := Mine.lit w (Nat.le_refl _) #[.int .u32 (x % 4294967296), .int .u32 (x / 4294967296)] [x % 4294967296, x / 4294967296]
    (Lims.cons (by omega) (by omega) (Lims.cons (by omega) (by omega) Lims.nil)) rfl (by unfold maxLen; simp)
  refine (strip_any _ _ _ _ _ hm.rd).mono ?_
  rintro e w' ⟨A', n', c', rfl, hS, rfl⟩
  have hm' := hS.mine hm
  have hI := Is.mk_trim hm.lims
  clear hS hm
  have e1 : val [x % 4294967296, x / 4294967296] = x := by simp [val]; omega
  rw [e1] at hI
  have HI := Lib.hid hI
  clear hI e1
  go_wp2
  go_ret
  exact ⟨_, _, _, _, rfl, hm', HI.out, (Below.refl _ _).alloc (Nat.le_refl _) _⟩

theorem word_step (L : List Int) (k : Nat) (hL : Lims L) (hk : k < L.length) (h2 : k < 2) :
    bits .or .u64 (val (L.take k)) (IntKind.u64.wrap (L.getD k 0 * 2 ^ (32 * k))) = val (L.take (k + 1)) := by
  have hx := hL.getD k
  have h1 := val_nonneg (hL.take k)
  have h3 := val_lt (hL.take k)
  rw [List.length_take_of_le (by omega)] at h3
  rw [val_take_succ L k hk, ← getD_of_lt L k hk]
  generalize L.getD k 0 = x at hx
  match k, h2 with
  | 0, _ =>
    have e0 : val (L.take 0) = 0 := rfl
    have e1 : IntKind.u64.wrap (x * 2 ^ (32 * 0)) = x := by simp [IntKind.wrap_u64]; omega
    rw [e0, e1, u64_or _ _ (by omega) (by omega) (by omega) (by omega)]
    simp [pw]; omega
  | 1, _ =>
    have e1 : IntKind.u64.wrap (x * 2 ^ (32 * 1)) = x * 4294967296 := by simp [IntKind.wrap_u64]; omega
    have e2 : pw 1 = 4294967296 := by decide
    rw [e1, e2]
    rw [e2] at h3
    rw [u64_or _ _ (by omega) (by omega) (by omega) (by omega), Nat.or_comm, nat_join 32 _ _ (by omega) (by omega)]
    omega

/-- The number that a list of at most two limbs stands for. -/
theorem toWord_any (A : Option Addr) (n c : Nat) (L : List Int) (w : World) (hr : Rd w A n c L) (hn : n ≤ 2) :
    Calls Tryz.prog 101 #[.slice A n c] w fun e w' => e = .returned (.int .u64 (val L)) ∧ w = w' := by
  have hlen := hr.len
  have htop := hr.top
  unfold maxLen at htop
  go_enter Tryz.func101, Tryz.ntmps101
  go_wp2
  go_loop [3, 8] (fun v i => ∃ k : Nat, k ≤ n ∧ i = .int .i64 k ∧ v = .int .u64 (val (L.take k))) (fun _ i => n - (intOf i).toNat)
  case atStart => exact ⟨0, Nat.zero_le _, rfl, rfl⟩
  case round =>
    obtain ⟨k, hk, rfl, rfl⟩ := hrel
    have hx := hr.lims.getD k
    by_cases hlt : k < n
    · obtain ⟨ad, rfl, hb, hc⟩ := hr.at_ (by omega)
      have hck := hc k hlt
      have HW := Lib.hid (word_step L k hr.lims (by omega) (by omega))
      clear hc hlen
      obtain ⟨x, hX⟩ : ∃ x, L.getD k 0 = x := ⟨_, rfl⟩
      rw [hX] at hck hx HW
      obtain ⟨hx0, hx1⟩ := hx
      clear hX
      go_wp2
      go_round
      case rel => exact ⟨k + 1, by omega, by go_num, congrArg _ HW.out⟩
      case measure => simp [intOf] <;> omega
    · obtain rfl : k = n := by omega
      clear hx
      go_wp2
      go_ret
      exact ⟨ret_int (by rw [List.take_of_length_le (by omega)]), rfl⟩

/-- A slice of the call's own with the limbs of m comes back, and no error. -/
def GivesOk (w : World) (m : Int) (e : Ending) (w' : World) : Prop :=
  ∃ A n c L, e = .returned (.tuple #[.slice A n c, .int .i64 0]) ∧ Mine w' w.heap.size A n c L ∧ Is L m ∧ Below w.heap.size w w'

end Go.Proofs.YtebbnmjmjoklmaaGreatDoor

namespace Go.Proofs.YtebbnmjmjoklmaaGreatDoor
open Go.RowKit
set_option maxRecDepth 20000

def SameNum (w : World) (a b : Int) (e : Ending) (w' : World) : Prop := e = .returned (.int .i64 (cmpZ a b)) ∧ ∃ k, w' = w.drewN k

theorem drewN2 (w : World) (a b : Nat) : ∃ k, (w.drewN a).drewN b = w.drewN k := ⟨a + b, World.drewN_drewN ..⟩
theorem drewN3 (w : World) (a b c : Nat) : ∃ k, ((w.drewN a).drewN b).drewN c = w.drewN k := ⟨a + (b + c), by rw [World.drewN_drewN, World.drewN_drewN]⟩

set_option maxHeartbeats 400000 in
theorem cmp_any (A B : Option Addr) (n c m d : Nat) (L M : List Int) (w : World) (hr : Rd w A n c L) (hs : Rd w B m d M) :
    Calls Tryz.prog 93 #[.slice A n c, .slice B m d] w (SameNum w (val L) (val M)) := by
  go_enter Tryz.func93, Tryz.ntmps93
  go_wp2_with fail
  refine (strip_any A n c L w hr).mono ?_
  rintro e w' ⟨A', n', c', rfl, hS, rfl⟩
  have hr' := hS.rd hr
  clear hS
  go_wp2_with fail
  refine (strip_any B m d M w hs).mono ?_
  rintro e w' ⟨B', m', d', rfl, hS, rfl⟩
  have hs' := hS.rd hs
  clear hS
  have hI := Is.mk_trim hr.lims
  have hJ := Is.mk_trim hs.lims
  clear hr hs
  generalize val L = x at *
  generalize val M = y at *
  generalize trim L = L' at *
  generalize trim M = M' at *
  have l1 := hr'.len
  have l2 := hs'.len
  have t1 := hr'.top
  have t2 := hs'.top
  have c1 := hr'.cap
  have c2 := hs'.cap
  unfold maxLen at t1 t2
  by_cases h1 : n' < m'
  · have hlt := hI.lt_of_length hJ (by omega)
    have HE := Lib.hid (cmpZ_lt hlt)
    clear hlt l1 l2 hI hJ
    go_wp2
    go_ret
    exact ⟨by rw [HE.out]; rfl, 0, rfl⟩
  by_cases h2 : m' < n'
  · have hlt := hJ.lt_of_length hI (by omega)
    have HE := Lib.hid (cmpZ_gt hlt)
    clear hlt l1 l2 hI hJ
    go_wp2
    go_ret
    exact ⟨by rw [HE.out]; rfl, 0, rfl⟩
  obtain rfl : n' = m' := by omega
  have L1 := Lib.hid l1
  have L2 := Lib.hid l2
  have HI := Lib.hid hI
  have HJ := Lib.hid hJ
  clear l1 l2 hI hJ h1 h2
  go_wp2
  go_loopw [5] (fun i wr => ∃ k q : Nat, k ≤ n' ∧ i = .int .i64 ((k : Int) - 1) ∧ Hid (val (L'.drop k) = val (M'.drop k)) ∧ wr = w.drewN q) (fun i _ => (intOf i + 1).toNat)
  case atStart => exact ⟨n', 0, Nat.le_refl _, rfl, by show val _ = val _; rw [List.drop_eq_nil_of_le (by have := L1.out; omega), List.drop_eq_nil_of_le (by have := L2.out; omega)], rfl⟩
  case round =>
    obtain ⟨k, q, hk, rfl, hD, rfl⟩ := hrel
    by_cases h0 : k = 0
    · subst h0
      go_wp2
      go_ret
      refine ⟨ret_int ?_, q, rfl⟩
      rw [cmpZ_eq]
      have := hD.out
      rw [List.drop_zero, List.drop_zero, HI.out.eq, HJ.out.eq] at this
      exact this
    · obtain ⟨j, rfl⟩ : ∃ j, k = j + 1 := ⟨k - 1, by omega⟩
      obtain ⟨ad, rfl, hb, hc⟩ := hr'.at_ (by omega)
      obtain ⟨ad', rfl, hb', hc'⟩ := hs'.at_ (by omega)
      have h1 := hc j (by omega)
      have h2 := hc' j (by omega)
      have X1 := Lib.hid (drop_val L' j (by have := L1.out; omega))
      clear hc hc'
      obtain ⟨x1, e1⟩ : ∃ x1, L'.getD j 0 = x1 := ⟨_, rfl⟩
      obtain ⟨x2, e2⟩ : ∃ x2, M'.getD j 0 = x2 := ⟨_, rfl⟩
      have E1 := Lib.hid e1
      have E2 := Lib.hid e2
      rw [e1] at h1
      rw [e2] at h2
      clear e1 e2
      rcases Int.lt_trichotomy x1 x2 with hlt | heq | hgt
      · have HE : Hid (cmpZ x y = -1) := by
          refine cmpZ_lt ?_
          rw [← HI.out.eq, ← HJ.out.eq]
          exact val_lt_at HI.out.lims HJ.out.lims j (by have := L1.out; omega) (by have := L2.out; omega) hD.out (by rw [E1.out, E2.out]; exact hlt)
        go_wp2_with fail
        go_quiet (fail)
        go_wp2
        go_ret
        exact ⟨by rw [HE.out]; rfl, drewN2 ..⟩
      · subst heq
        have hD' : Hid (val (L'.drop j) = val (M'.drop j)) := by
          show _ = _
          rw [List.drop_eq_getElem_cons (l := L') (i := j) (by have := L1.out; omega), List.drop_eq_getElem_cons (l := M') (i := j) (by have := L2.out; omega), val_cons, val_cons, hD.out, ← getD_of_lt, ← getD_of_lt, E1.out, E2.out]
        go_wp2_with fail
        go_quiet (fail)
        go_wp2_with fail
        go_quiet (fail)
        go_wp2
        go_roundw
        case rel => exact ⟨j, _, by omega, by go_num, hD', rfl⟩
        case measure => simp [intOf] <;> omega
      · have HE : Hid (cmpZ x y = 1) := by
          refine cmpZ_gt ?_
          rw [← HI.out.eq, ← HJ.out.eq]
          exact val_lt_at HJ.out.lims HI.out.lims j (by have := L2.out; omega) (by have := L1.out; omega) hD.out.symm (by rw [E1.out, E2.out]; exact hgt)
        go_wp2_with fail
        go_quiet (fail)
        go_wp2_with fail
        go_quiet (fail)
        go_wp2
        go_ret
        exact ⟨by rw [HE.out]; rfl, drewN3 ..⟩

end Go.Proofs.YtebbnmjmjoklmaaGreatDoor

namespace Go.Proofs.YtebbnmjmjoklmaaGreatDoor
open Go.RowKit
set_option maxRecDepth 20000

theorem wrap_len (b k : Int) (h0 : 0 ≤ b) (h1 : b ≤ 255) (k0 : 0 ≤ k) (k1 : k ≤ 64) : wrap64 (k + wrap64 (Lib.len8 b)) = k + (Lib.bitLen b.toNat : Int) := by
  have l := Lib.bitLen_le8' b h0 h1
  rw [Lib.len8_of b h0 h1]
  unfold wrap64
  omega
theorem wrap_len0 (b : Int) (h0 : 0 ≤ b) (h1 : b ≤ 255) : wrap64 (wrap64 (Lib.len8 b)) = (Lib.bitLen b.toNat : Int) := by
  have l := Lib.bitLen_le8' b h0 h1
  rw [Lib.len8_of b h0 h1]
  unfold wrap64
  omega

theorem len64_small (x : Int) (w : World) (h0 : 0 ≤ x) (h1 : x ≤ 255) :
    Calls Tryz.prog 120 #[.int .u64 x] w fun e w' => e = .returned (.int .i64 (Lib.bitLen x.toNat)) ∧ w = w' := by
  have l := wrap_len0 x h0 h1
  have HL := Lib.hid l
  clear l
  go_enter Tryz.func120, Tryz.ntmps120
  go_wp2
  go_ret
  exact ⟨congrArg Ending.returned (congrArg (Value.int IntKind.i64) HL.out), rfl⟩

theorem len_small (x : Int) (w : World) (h0 : 0 ≤ x) (h1 : x ≤ 255) :
    Calls Tryz.prog 85 #[.int .u64 x] w fun e w' => e = .returned (.int .i64 (Lib.bitLen x.toNat)) ∧ w = w' := by
  go_enter Tryz.func85, Tryz.ntmps85
  go_wp2_with (go_at_call 120; refine (len64_small _ _ h0 h1).mono ?_; rintro e w' ⟨rfl, rfl⟩)
  go_ret
  exact ⟨rfl, rfl⟩

set_option maxHeartbeats 1000000 in
theorem len32_any (x : Int) (w : World) (h0 : 0 ≤ x) (h1 : x < 4294967296) :
    Calls Tryz.prog 119 #[.int .u32 x] w fun e w' => e = .returned (.int .i64 (Lib.bitLen x.toNat)) ∧ w = w' := by
  by_cases a : 65536 ≤ x
  · by_cases b : 256 ≤ x / 65536
    · have c0 : 0 ≤ x / 65536 / 256 := by omega
      have c1 : x / 65536 / 256 ≤ 255 := by omega
      have HL := Lib.hid (wrap_len _ 24 c0 c1 (by decide) (by decide))
      go_enter Tryz.func119, Tryz.ntmps119
      go_wp2
      go_ret
      refine ⟨congrArg Ending.returned (congrArg (Value.int IntKind.i64) (HL.out.trans ?_)), rfl⟩
      have s := Lib.bitLen_shift24 x.toNat (by omega) (by omega)
      have e : (x / 65536 / 256).toNat = x.toNat / 16777216 := by omega
      rw [e]
      omega
    · have c0 : 0 ≤ x / 65536 := by omega
      have c1 : x / 65536 ≤ 255 := by omega
      have HL := Lib.hid (wrap_len _ 16 c0 c1 (by decide) (by decide))
      go_enter Tryz.func119, Tryz.ntmps119
      go_wp2
      go_ret
      refine ⟨congrArg Ending.returned (congrArg (Value.int IntKind.i64) (HL.out.trans ?_)), rfl⟩
      have s := Lib.bitLen_shift16 x.toNat (by omega) (by omega)
      have e : (x / 65536).toNat = x.toNat / 65536 := by omega
      rw [e]
      omega
  · by_cases b : 256 ≤ x
    · have c0 : 0 ≤ x / 256 := by omega
      have c1 : x / 256 ≤ 255 := by omega
      have HL := Lib.hid (wrap_len _ 8 c0 c1 (by decide) (by decide))
      go_enter Tryz.func119, Tryz.ntmps119
      go_wp2
      go_ret
      refine ⟨congrArg Ending.returned (congrArg (Value.int IntKind.i64) (HL.out.trans ?_)), rfl⟩
      have s := Lib.bitLen_shift8 x.toNat (by omega) (by omega)
      have e : (x / 256).toNat = x.toNat / 256 := by omega
      rw [e]
      omega
    · have HL := Lib.hid (wrap_len0 x h0 (by omega))
      have c1 : x ≤ 255 := by omega
      go_enter Tryz.func119, Tryz.ntmps119
      go_wp2
      go_ret
      exact ⟨congrArg Ending.returned (congrArg (Value.int IntKind.i64) HL.out), rfl⟩

theorem leading_any (x : Int) (w : World) (h0 : 0 ≤ x) (h1 : x < 4294967296) :
    Calls Tryz.prog 150 #[.int .u32 x] w fun e w' => e = .returned (.int .i64 (32 - (Lib.bitLen x.toNat : Int))) ∧ w = w' := by
  have l : Lib.bitLen x.toNat ≤ 32 := Lib.bitLen_le x.toNat 32 (by decide) (by omega)
  go_enter Tryz.func150, Tryz.ntmps150
  go_wp2_with (go_at_call 119; refine (len32_any _ _ h0 h1).mono ?_; rintro e w' ⟨rfl, rfl⟩)
  go_ret
  exact ⟨rfl, rfl⟩

end Go.Proofs.YtebbnmjmjoklmaaGreatDoor
