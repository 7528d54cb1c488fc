/-
  natural.appendDigit and natural.Parse: the limbs of a number in decimal, or the first error that applies.
-/
import Derived.Test.YtekalaihfmfkkaaGreatDoorSame
import Derived.Lib.Strings
namespace Go.Proofs.YtekalaihfmfkkaaGreatDoor
open Go.RowKit
set_option maxRecDepth 20000

def Appended (w : World) (base : Nat) (x : Int) (e : Ending) (w' : World) : Prop :=
  ∃ A n c L, e = .returned (.slice A n c) ∧ Mine w' base A n c L ∧ Is L x ∧ Below base w w'

set_option maxHeartbeats 1000000 in
theorem appendDigit_any (A : Option Addr) (n c base : Nat) (L : List Int) (w : World) (d : Int) (hm : Mine w base A n c L) (hI : trim L = L) (hb : base ≤ w.heap.size) (hn : n ≤ 1000000) (d0 : 0 ≤ d) (d1 : d ≤ 9) :
    Calls Tryz.prog 143 #[.slice A n c, .int .u8 d] w (Appended w base (10 * val L + d)) := by
  obtain ⟨i0, hi, hz0, hz1, hz2⟩ := info_parts info_limb
  have HL := Lib.hid hm.len
  have HI := Lib.hid hI
  have hcap := hm.rd.cap
  clear hI
  go_enter Tryz.func143, Tryz.ntmps143
  go_wp2
  go_loopw [5, 12] (fun cv iv wr => ∃ (k : Nat) (cr : Int) (S : List Int), k ≤ n ∧ iv = .int .i64 k ∧ cv = .int .u32 cr ∧ (0 ≤ cr ∧ cr < 4294967296) ∧ Mine wr base A n c S ∧ Hid (S.drop k = L.drop k) ∧
      Hid (val (S.take k) + pw k * cr = 10 * val (L.take k) + d) ∧ Only A w wr) (fun _ iv _ => n - (intOf iv).toNat)
  case atStart => exact ⟨0, d, L, Nat.zero_le _, rfl, rfl, by omega, hm, rfl, by show _ = _; simp [val, pw], Only.refl _ _⟩
  case round =>
    obtain ⟨k, cr, S, hk, rfl, rfl, ⟨c0, c1⟩, hS, hD, hV, hO⟩ := hrel
    by_cases hkn : k < n
    · obtain ⟨g, rfl, hg, _⟩ := hS.form (by omega)
      have uL := hm.lims.getD k
      obtain ⟨t, ht⟩ : ∃ t, L.getD k 0 = t := ⟨_, rfl⟩
      have cS := hS.cellAt hkn
      rw [getD_of_drop hD.out, ht] at cS
      rw [ht] at uL
      have fS := hS.frozenAt k
      have ST := Lib.hid (scale_step (S := S) (k := k) (cr := cr) (by rw [hS.len]; exact hkn) ht hV.out)
      have hD2 : Hid ((S.set k ((t * 10 + 0 + cr) % 4294967296)).drop (k + 1) = L.drop (k + 1)) := by
        show _ = _
        rw [drop_set]; exact drop_succ hD.out
      have HA := Lib.hid (multiplyAdd_any t 10 0 cr)
      have s0 : 0 ≤ (t * 10 + 0 + cr) % 4294967296 ∧ (t * 10 + 0 + cr) % 4294967296 < 4294967296 := by omega
      have s1 : 0 ≤ (t * 10 + 0 + cr) / 4294967296 ∧ (t * 10 + 0 + cr) / 4294967296 < 4294967296 := by omega
      clear ht
      simp only [Int.add_zero] at ST hD2 s0 s1
      go_wp2_with (go_at_call 199; refine (HA.out _ uL (by omega) (by omega) ⟨c0, c1⟩).mono ?_; rintro e w' ⟨rfl, rfl⟩)
      go_roundw
      case rel => exact ⟨k + 1, _, _, by omega, by go_num, rfl, s1, hS.stored k s0.1 s0.2, hD2, ST.out, hO.set k _⟩
      case measure => simp [intOf] <;> omega
    · obtain rfl : k = n := by omega
      have hE := scale_end hS.lims hS.len HL.out HI.out hm.lims d0 c0 hV.out
      have hB : Below base w wr := hO.below fun a ha => (hm.lt a ha).1
      by_cases hc : cr = 0
      · have hI2 := Lib.hid (hE.1 hc)
        subst hc
        clear hE hkn
        go_wp2
        go_ret
        exact ⟨_, _, _, _, rfl, hS, hI2.out, hB⟩
      · have hI2 := Lib.hid (hE.2 (by omega) c1)
        have hne : (cr != 0) = true := by simpa using hc
        have hsz := hO.size
        have hrow := hS.row.alloc (.cells #[.int .u32 cr] 92)
        have HB1 : Hid (k + 1 ≤ maxLen) := by show _ ≤ _; unfold maxLen; omega
        have HB2 : Hid ((k + 1) * 4 ≤ 140737488355328) := by show _ ≤ _; omega
        have HB3 : Hid (base ≤ (wr.alloc (.cells #[.int .u32 cr] 92)).heap.size) := by show _ ≤ _; simp; omega
        have HN : Hid (∀ j u, [Value.int .u32 cr][j]? = some u → (wr.alloc (.cells #[.int .u32 cr] 92)).cell? ((⟨wr.heap.size, 0, none⟩ : Addr).add j) = some u) := one_new _ _ _
        clear hE hc hkn hsz
        go_wp2_with (at_builtin; refine wpList_append_own _ rfl _ _ 22 rfl base 92 i0 (.int .u32 0) 1 4 Tryz.underlying22 hi hz0 hz1 hz2 rfl (by decide) _ _ _ rfl hrow ⟨wr.heap.size, 0, none⟩ 1 1 [.int .u32 cr] rfl rfl HN.out (one_cell _ rfl) HB1.out HB2.out HB3.out ?_)
        intro v' w3 hown hgrow _
        have hcat : cells S ++ [Value.int .u32 cr] = cells (S ++ [cr]) := by unfold cells; rw [List.map_append]; rfl
        rw [hcat] at hown
        obtain ⟨A1, c1', hv, hm1⟩ := Mine.of_row hown hI2.out.lims
        have hB3 := grown_below (hB.alloc (by have := HB3.out; have := hO.size; omega) (.cells #[.int .u32 cr] 92)) hrow hgrow HB3.out (Nat.le_refl _)
        go_wp2
        go_ret
        exact ⟨A1, _, c1', _, congrArg Ending.returned hv, hm1, hI2.out, hB3⟩

/-- The number that decimal digits stand for. -/
def dv (l : List UInt8) : Int := l.foldl (fun v b => 10 * v + ((b.toNat : Int) - 48)) 0
theorem dv_snoc (l : List UInt8) (b : UInt8) : dv (l ++ [b]) = 10 * dv l + ((b.toNat : Int) - 48) := by unfold dv; rw [List.foldl_append]; rfl
/-- Each byte is a decimal digit. -/
def Digs (s : ByteArray) : Prop := ∀ i (h : i < s.size), 48 ≤ (s[i].toNat : Int) ∧ (s[i].toNat : Int) ≤ 57
theorem take_byte (s : ByteArray) (k : Nat) (h : k < s.size) : s.data.toList.take (k + 1) = s.data.toList.take k ++ [s[k]] := by
  rw [List.take_succ_eq_append_getElem (by simpa using h)]; rfl

theorem not_empty (s : ByteArray) (h : 0 < s.size) : s.toList.isEmpty = false := by
  rw [Lib.toList_data]
  have h1 : s.data.toList.length = s.size := by simp
  cases hl : s.data.toList with
  | nil => rw [hl] at h1; simp at h1; omega
  | cons a l => rfl
theorem is_len {L : List Int} {x : Int} (h : Is L x) {k : Nat} (hx : x < pw k) : L.length ≤ k := by
  rcases Nat.lt_or_ge k L.length with h3 | h3
  · exfalso
    obtain ⟨j, hj⟩ : ∃ j, L.length = j + 1 := ⟨L.length - 1, by omega⟩
    have h4 := h.ge hj
    have h5 := pw_mono (m := k) (n := j) (by omega)
    omega
  · exact h3
theorem dv_lt (s : ByteArray) (hd : Digs s) (k : Nat) (hk : k ≤ s.size) : 0 ≤ dv (s.data.toList.take k) ∧ dv (s.data.toList.take k) < pw k := by
  induction k with
  | zero => rw [List.take_zero]; exact ⟨by decide, by decide⟩
  | succ k ih =>
    obtain ⟨h1, h2⟩ := ih (by omega)
    obtain ⟨b0, b1⟩ := hd k (by omega)
    rw [take_byte s k (by omega), dv_snoc, pw_succ]
    omega

set_option maxHeartbeats 1000000 in
theorem parse_ok (s : ByteArray) (w : World) (hd : Digs s) (h0 : 0 < s.size) (h1 : s.size ≤ 60) :
    Calls Tryz.prog 73 #[.string s] w (GivesNOk w (dv s.data.toList)) := by
  have hne := not_empty s h0
  go_enter Tryz.func73, Tryz.ntmps73
  go_wp2
  go_loop [11] (fun i => ∃ k : Nat, k ≤ s.size ∧ i = .int .i64 k) (fun i => s.size - (intOf i).toNat)
  case atStart => exact ⟨0, Nat.zero_le _, rfl⟩
  case round =>
    obtain ⟨k, hk, rfl⟩ := hrel
    by_cases hlt : k < s.size
    · obtain ⟨b0, b1⟩ := hd k hlt
      go_wp2
      go_round
      case rel => exact ⟨k + 1, by omega, by go_num⟩
      case measure => simp [intOf] <;> omega
    · obtain rfl : k = s.size := by omega
      clear hlt hk
      go_wp2
      go_loopw [5, 30] (fun nv iv wr => ∃ (k : Nat) (A : Option Addr) (n c : Nat) (L : List Int), k ≤ s.size ∧ iv = .int .i64 k ∧ nv = .slice A n c ∧ Mine wr w.heap.size A n c L ∧ Is L (dv (s.data.toList.take k)) ∧ Below w.heap.size w wr)
        (fun _ iv _ => s.size - (intOf iv).toNat)
      case atStart => exact ⟨0, none, 0, 0, [], Nat.zero_le _, rfl, rfl, Mine.nil w _, Is.zero, Below.refl _ _⟩
      case round =>
        obtain ⟨k, A, n, c, L, hk, rfl, rfl, hM, hI, hB⟩ := hrel
        by_cases hlt : k < s.size
        · obtain ⟨b0, b1⟩ := hd k hlt
          have hn : n ≤ 1000000 := by have h2 := is_len hI (dv_lt s hd k hk).2; have h3 := hM.len; omega
          have happ := appendDigit_any A n c w.heap.size L wr ((s[k].toNat : Int) - 48) hM hI.nrm hB.size hn (by omega) (by omega)
          have he : 10 * val L + ((s[k].toNat : Int) - 48) = dv (s.data.toList.take (k + 1)) := by rw [take_byte s k hlt, dv_snoc, hI.eq]
          rw [he] at happ
          have HA := Lib.hid happ
          clear happ he hI
          go_wp2_with fail
          refine HA.out.mono ?_
          rintro e w1 ⟨A1, n1, c1, L1, rfl, hM1, hI1, hB1⟩
          go_wp2
          go_roundw
          case rel => exact ⟨k + 1, _, _, _, _, by omega, by go_num, rfl, hM1, hI1, hB.trans hB1⟩
          case measure => simp [intOf] <;> omega
        · obtain rfl : k = s.size := by omega
          have hI2 : Is L (dv s.data.toList) := by rw [List.take_of_length_le (by simp)] at hI; exact hI
          have hN := Nrm.of_mine hM hI2
          clear hI hI2
          go_wp2
          go_ret2
          exact ⟨_, _, _, rfl, hN, hB⟩

theorem parse_long (s : ByteArray) (w : World) (hd : Digs s) (h1 : 60 < s.size) (h2 : s.size ≤ 1000000) :
    Calls Tryz.prog 73 #[.string s] w fun e w' => e = .returned (.tuple #[.slice none 0 0, .int .i64 9]) ∧ w = w' := by
  have hne := not_empty s (by omega)
  go_enter Tryz.func73, Tryz.ntmps73
  go_wp2
  go_loop [11] (fun i => ∃ k : Nat, k ≤ s.size ∧ i = .int .i64 k) (fun i => s.size - (intOf i).toNat)
  case atStart => exact ⟨0, Nat.zero_le _, rfl⟩
  case round =>
    obtain ⟨k, hk, rfl⟩ := hrel
    by_cases hlt : k < s.size
    · obtain ⟨b0, b1⟩ := hd k hlt
      go_wp2
      go_round
      case rel => exact ⟨k + 1, by omega, by go_num⟩
      case measure => simp [intOf] <;> omega
    · obtain rfl : k = s.size := by omega
      clear hlt hk
      go_wp2
      go_ret2
      exact ⟨rfl, rfl⟩

end Go.Proofs.YtekalaihfmfkkaaGreatDoor
