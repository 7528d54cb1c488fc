/-
  natural.Trim, fromWord, toWord, FromInt, Int, Cmp: what they return for every list of limbs.
-/
import Derived.Test.YtdimajnadmkhiaaDoorStrip
import Derived.Test.YtdimajnadmkhiaaDoorBits
import Derived.Laws.AppendOwnNone
namespace Go.Proofs.YtdimajnadmkhiaaDoor
open Go.RowKit

theorem info_limb : (Tryd.prog.info? 42).map (fun i => (i.zero, i.size, i.bytes)) = some (some (.int .u32 0), 1, 4) := by kernel_rfl

theorem cells_at {w : World} {ad : Addr} {n : Nat} {L : List Int} (hl : L.length = n) (hc : ∀ i, i < n → w.cell? (ad.add i) = some (.int .u32 (L.getD i 0))) :
    ∀ j u, (cells L)[j]? = some u → w.cell? (ad.add j) = some u := by
  intro j u hj
  have hlt : j < L.length := by
    have := (List.getElem?_eq_some_iff.1 hj).1
    rwa [cells_length] at this
  rw [cells_get L j hlt] at hj
  rw [hc j (by omega), hj]

/-- A slice of the call's own with the limbs of m comes back; what was there before is as it was. -/
def Gives (w : World) (m : Int) (e : Ending) (w' : World) : Prop :=
  ∃ A n c L, e = .returned (.slice A n c) ∧ Mine w' w.heap.size A n c L ∧ Is L m ∧ Below w.heap.size w w'

theorem trim_any (A : Option Addr) (n c : Nat) (L : List Int) (w : World) (hr : Rd w A n c L) (hn : n ≤ 1000000) :
    Calls Tryd.prog 33 #[.slice A n c] w (Gives w (val L)) := by
  obtain ⟨i0, hi, hz0, hz1, hz2⟩ := info_parts info_limb
  have hl := hr.len
  have hle := trim_length_le L
  go_enter Tryd.func33, Tryd.ntmps33
  go_wp2_with fail
  refine (strip_any A n c L w hr).mono ?_
  rintro e w' ⟨A', n', c', rfl, hS, rfl⟩
  have hr' := hS.rd hr
  have hn' := hr'.len
  rcases Nat.eq_zero_or_pos n' with h0 | h0
  · obtain ⟨hE, ⟨_, rfl, rfl⟩ | ⟨h1, _, _⟩⟩ := hS
    · have hT : trim L = [] := List.eq_nil_of_length_eq_zero (by omega)
      have HT := Lib.hid hT
      subst h0
      clear hr' hn' hT hE hle
      go_wp2_with (at_builtin; refine wpList_append_own_none rfl _ _ 22 rfl w.heap.size 42 i0 1 Tryd.underlying22 hi (.slice none 0 0) 0 [] rfl (World.ownsRow_nil _ _ _ _) rfl ?_)
      go_ret
      exact ⟨none, 0, 0, _, rfl, (Mine.nil w _).cast rfl HT.out.symm, Is.mk_trim hr.lims, Below.refl _ _⟩
    · omega
  · obtain ⟨ad, rfl, hb, hc⟩ := hr'.at_ h0
    go_wp2_with (at_builtin; refine wpList_append_own _ rfl _ _ 22 rfl w.heap.size 42 i0 (.int .u32 0) 1 4 Tryd.underlying22 hi hz0 hz1 hz2 rfl (by decide) (.slice none 0 0) 0 [] rfl (World.ownsRow_nil _ _ _ _) ad n' c' (cells (trim L)) rfl ?c1 ?c2 ?c3 ?c4 ?c5 (Nat.le_refl _) ?_)
    case c1 => rw [cells_length]; omega
    case c2 => exact cells_at hr'.len hc
    case c3 => exact oneCell_cells _
    case c4 => unfold maxLen; omega
    case c5 => omega
    intro v' w1 hown hgrow _
    go_wp2
    go_ret
    obtain ⟨A1, c1, hv, hm⟩ := Mine.of_row (L := trim L) (by simpa using hown) hr'.lims
    exact ⟨A1, n', c1, _, congrArg Ending.returned hv, hm, Is.mk_trim hr.lims, (Below.refl _ _).grown hgrow (Nat.le_refl _) (by intro k hk; cases hk)⟩

theorem fromWord_any (x : Int) (w : World) (x0 : 0 ≤ x) (x1 : x < 18446744073709551616) :
    Calls Tryd.prog 27 #[.int .u64 x] w (Gives w x) := by
  go_enter Tryd.func27, Tryd.ntmps27
  go_wp2_with fail
  have hm := Mine.lit w (Nat.le_refl _) #[.int .u32 (x % 4294967296), .int .u32 (x / 4294967296)] [x % 4294967296, x / 4294967296]
    (Lims.cons (by omega) (by omega) (Lims.cons (by omega) (by omega) Lims.nil)) rfl (by unfold maxLen; simp)
  refine (strip_any _ _ _ _ _ hm.rd).mono ?_
  rintro e w' ⟨A', n', c', rfl, hS, rfl⟩
  have hm' := hS.mine hm
  have hI := Is.mk_trim hm.lims
  clear hS hm
  have e1 : val [x % 4294967296, x / 4294967296] = x := by simp [val]; omega
  rw [e1] at hI
  have HI := Lib.hid hI
  clear hI e1
  go_wp2
  go_ret
  exact ⟨_, _, _, _, rfl, hm', HI.out, (Below.refl _ _).alloc (Nat.le_refl _) _⟩

theorem word_step (L : List Int) (k : Nat) (hL : Lims L) (hk : k < L.length) (h2 : k < 2) :
    bits .or .u64 (val (L.take k)) (IntKind.u64.wrap (L.getD k 0 * 2 ^ (32 * k))) = val (L.take (k + 1)) := by
  have hx := hL.getD k
  have h1 := val_nonneg (hL.take k)
  have h3 := val_lt (hL.take k)
  rw [List.length_take_of_le (by omega)] at h3
  rw [val_take_succ L k hk, ← getD_of_lt L k hk]
  generalize L.getD k 0 = x at hx
  match k, h2 with
  | 0, _ =>
    have e0 : val (L.take 0) = 0 := rfl
    have e1 : IntKind.u64.wrap (x * 2 ^ (32 * 0)) = x := by simp [IntKind.wrap_u64]; omega
    rw [e0, e1, u64_or _ _ (by omega) (by omega) (by omega) (by omega)]
    simp [pw]; omega
  | 1, _ =>
    have e1 : IntKind.u64.wrap (x * 2 ^ (32 * 1)) = x * 4294967296 := by simp [IntKind.wrap_u64]; omega
    have e2 : pw 1 = 4294967296 := by decide
    rw [e1, e2]
    rw [e2] at h3
    rw [u64_or _ _ (by omega) (by omega) (by omega) (by omega), Nat.or_comm, nat_join 32 _ _ (by omega) (by omega)]
    omega

/-- The number that a list of at most two limbs stands for. -/
theorem toWord_any (A : Option Addr) (n c : Nat) (L : List Int) (w : World) (hr : Rd w A n c L) (hn : n ≤ 2) :
    Calls Tryd.prog 46 #[.slice A n c] w fun e w' => e = .returned (.int .u64 (val L)) ∧ w = w' := by
  have hlen := hr.len
  have htop := hr.top
  unfold maxLen at htop
  go_enter Tryd.func46, Tryd.ntmps46
  go_wp2
  go_loop [3, 8] (fun v i => ∃ k : Nat, k ≤ n ∧ i = .int .i64 k ∧ v = .int .u64 (val (L.take k))) (fun _ i => n - (intOf i).toNat)
  case atStart => exact ⟨0, Nat.zero_le _, rfl, rfl⟩
  case round =>
    obtain ⟨k, hk, rfl, rfl⟩ := hrel
    have hx := hr.lims.getD k
    by_cases hlt : k < n
    · obtain ⟨ad, rfl, hb, hc⟩ := hr.at_ (by omega)
      have hck := hc k hlt
      have HW := Lib.hid (word_step L k hr.lims (by omega) (by omega))
      clear hc hlen
      obtain ⟨x, hX⟩ : ∃ x, L.getD k 0 = x := ⟨_, rfl⟩
      rw [hX] at hck hx HW
      obtain ⟨hx0, hx1⟩ := hx
      clear hX
      go_wp2
      go_round
      case rel => exact ⟨k + 1, by omega, by go_num, congrArg _ HW.out⟩
      case measure => simp [intOf] <;> omega
    · obtain rfl : k = n := by omega
      clear hx
      go_wp2
      go_ret
      exact ⟨ret_int (by rw [List.take_of_length_le (by omega)]), rfl⟩

/-- A slice of the call's own with the limbs of m comes back, and no error. -/
def GivesOk (w : World) (m : Int) (e : Ending) (w' : World) : Prop :=
  ∃ A n c L, e = .returned (.tuple #[.slice A n c, .int .i64 0]) ∧ Mine w' w.heap.size A n c L ∧ Is L m ∧ Below w.heap.size w w'

theorem fromInt_neg (x : Int) (w : World) (h : x < 0) :
    Calls Tryd.prog 8 #[.int .i64 x] w fun e w' => e = .returned (.tuple #[.slice none 0 0, .int .i64 1]) ∧ w = w' := by
  go_enter Tryd.func8, Tryd.ntmps8
  go_wp2
  go_ret2
  exact ⟨rfl, rfl⟩
theorem fromInt_any (x : Int) (w : World) (x0 : 0 ≤ x) (x1 : x ≤ 9223372036854775807) :
    Calls Tryd.prog 8 #[.int .i64 x] w (GivesOk w x) := by
  go_enter Tryd.func8, Tryd.ntmps8
  go_wp2_with fail
  refine (fromWord_any _ _ (by omega) (by omega)).mono ?_
  rintro e w' ⟨A, n, c, L, rfl, hm, hI, hb⟩
  have HI := Lib.hid hI
  clear hI
  go_wp2
  go_ret2
  exact ⟨_, _, _, _, rfl, hm, HI.out, hb⟩

theorem int_any (A : Option Addr) (n c : Nat) (L : List Int) (w : World) (hr : Rd w A n c L) (hv : val L ≤ 9223372036854775807) :
    Calls Tryd.prog 31 #[.slice A n c] w fun e w' => e = .returned (.tuple #[.int .i64 (val L), .int .i64 0]) ∧ w = w' := by
  have v0 := val_nonneg hr.lims
  go_enter Tryd.func31, Tryd.ntmps31
  go_wp2_with fail
  refine (strip_any A n c L w hr).mono ?_
  rintro e w' ⟨A', n', c', rfl, hS, rfl⟩
  have hr' := hS.rd hr
  have hn2 : n' ≤ 2 := by
    have hI := Is.mk_trim hr.lims
    rcases Nat.lt_or_ge n' 3 with h | h
    · omega
    · exfalso
      have hl := hr'.len
      obtain ⟨j, hj⟩ : ∃ j, (trim L).length = j + 1 := ⟨(trim L).length - 1, by omega⟩
      have h1 := hI.ge hj
      have h2 := pw_mono (m := 2) (n := j) (by omega)
      have h3 : pw 2 = 18446744073709551616 := by decide
      omega
  have hw := toWord_any A' n' c' (trim L) w hr' hn2
  rw [val_trim] at hw
  have HW := Lib.hid hw
  clear hw hr' hS
  go_wp2_with (go_at_call 46; refine HW.out.mono ?_; rintro e w' ⟨rfl, rfl⟩)
  go_ret2
  exact ⟨rfl, rfl⟩
theorem int_over (A : Option Addr) (n c : Nat) (L : List Int) (w : World) (hr : Rd w A n c L) (hv : 9223372036854775807 < val L) :
    Calls Tryd.prog 31 #[.slice A n c] w fun e w' => e = .returned (.tuple #[.int .i64 0, .int .i64 1]) ∧ w = w' := by
  go_enter Tryd.func31, Tryd.ntmps31
  go_wp2_with fail
  refine (strip_any A n c L w hr).mono ?_
  rintro e w' ⟨A', n', c', rfl, hS, rfl⟩
  have hr' := hS.rd hr
  have htop := hr'.top
  have hcap := hr'.cap
  unfold maxLen at htop
  by_cases hn2 : n' ≤ 2
  · have hw := toWord_any A' n' c' (trim L) w hr' hn2
    rw [val_trim] at hw
    have HW := Lib.hid hw
    clear hw hr' hS
    go_wp2_with (go_at_call 46; refine HW.out.mono ?_; rintro e w' ⟨rfl, rfl⟩)
    go_ret2
    exact ⟨rfl, rfl⟩
  · clear hr' hS
    go_wp2
    go_ret2
    exact ⟨rfl, rfl⟩

end Go.Proofs.YtdimajnadmkhiaaDoor
