/-
  slices.Clone of a slice of limbs that is not nil, and natural.divideByLimb: the slice holds the quotient by one limb afterwards, and the remainder is returned.
  natural.DivMod, where the divisor is zero, has one limb, or has more limbs than the dividend: the quotient and the remainder, or ErrDivide.
  Plain facts on decimal digits, and words on memory for slices of bytes. No function of the program is named here.
  slices.Reverse of bytes and natural.Format: for every list of limbs the text is the number in decimal.
-/
import Derived.Test.YtebbnmjmjoklmaaGreatDoorLen
import Derived.WalkSpells
import Derived.Laws.IdiomStrings
import Derived.Deep.LoopGhost
import Derived.WalkMore
namespace Go.Proofs.YtebbnmjmjoklmaaGreatDoor
open Go.RowKit
set_option maxRecDepth 20000

theorem clone_any (ad : Addr) (n c : Nat) (L : List Int) (w : World) (hr : Rd w (some ad) n c L) (h0 : 0 < n) (hn : n ≤ 1000000) :
    Calls Tryz.prog 132 #[.slice (some ad) n c] w fun e w' => ∃ A' c', e = .returned (.slice A' n c') ∧ Mine w' w.heap.size A' n c' L ∧ Below w.heap.size w w' := by
  obtain ⟨i0, hi, hz0, hz1, hz2⟩ := info_parts info_limb
  obtain ⟨ad', e, hb, hc⟩ := (hr.alloc (.cells #[] 71)).at_ h0
  obtain rfl : ad = ad' := by injection e
  have HL := Lib.hid hr.len
  have hnil := fun (w : World) (n c : Nat) => Lib.run_eql_slice_nil (P := Tryz.prog) w 40 71 (some ad) n c 0 0 Tryz.underlying40
  have HC := Lib.hid hc
  clear e hc
  go_enter Tryz.func132, Tryz.ntmps132
  go_wp2_with (at_builtin; refine wpList_append_own _ rfl _ _ 40 rfl w.heap.size 71 i0 (.int .u32 0) 1 4 Tryz.underlying40 hi hz0 hz1 hz2 rfl (by decide) (.slice (some ⟨w.heap.size, 0, none⟩) 0 0) 0 [] rfl (World.ownsRow_made w #[] 0 (Nat.le_refl _) (Nat.zero_le _) rfl) ad n c (cells L) rfl ?c1 ?c2 ?c3 ?c4 ?c5 ?c6 ?_)
  case c1 => rw [cells_length]; have := HL.out; omega
  case c2 => exact cells_at HL.out HC.out
  case c3 => exact oneCell_cells _
  case c4 => unfold maxLen; omega
  case c5 => omega
  case c6 => simp
  intro v' w1 hown hgrow _
  go_wp2
  go_ret
  obtain ⟨A1, c1, hv, hm⟩ := Mine.of_row (L := L) (by simpa using hown) hr.lims
  exact ⟨A1, c1, congrArg Ending.returned hv, hm, ((Below.refl _ _).alloc (Nat.le_refl _) _).grown hgrow (by simp) (by intro k hk; cases hk; exact Nat.le_refl _)⟩

set_option maxHeartbeats 400000 in
theorem divideByLimb_any (A : Option Addr) (n c base : Nat) (L : List Int) (w : World) (d : Int) (hm : Mine w base A n c L) (d0 : 1 ≤ d) (d1 : d < 4294967296) :
    Calls Tryz.prog 123 #[.slice A n c, .int .u32 d] w fun e w' => ∃ S r, e = .returned (.int .u32 r) ∧ Mine w' base A n c S ∧ val L = d * val S + r ∧ (0 ≤ r ∧ r < d) ∧ Only A w w' := by
  have hl := hm.len
  have hcap := hm.rd.cap
  have htop := hm.rd.top
  unfold maxLen at htop
  have HL := Lib.hid hl
  clear hl
  go_enter Tryz.func123, Tryz.ntmps123
  go_wp2
  go_loopw [5, 6] (fun rv iv wr => ∃ (k : Nat) (r : Int) (S : List Int), k ≤ n ∧ iv = .int .i64 ((k : Int) - 1) ∧ rv = .int .u32 r ∧ (0 ≤ r ∧ r < d) ∧ Mine wr base A n c S ∧ Hid (S.take k = L.take k) ∧
      Hid (val (L.drop k) = d * val (S.drop k) + r) ∧ Only A w wr) (fun _ iv _ => (intOf iv + 1).toNat)
  case atStart => exact ⟨n, 0, L, Nat.le_refl _, rfl, rfl, by omega, hm, rfl, by show _ = _; rw [List.drop_eq_nil_of_le (by have := HL.out; omega)]; simp [val], Only.refl _ _⟩
  case round =>
    obtain ⟨k, r, S, hk, rfl, rfl, ⟨r0, r1⟩, hS, hT, hV, hO⟩ := hrel
    by_cases h0 : k = 0
    · subst h0
      go_wp2
      go_ret
      exact ⟨S, r, rfl, hS, by simpa using hV.out, ⟨r0, r1⟩, hO⟩
    · obtain ⟨j, rfl⟩ : ∃ j, k = j + 1 := ⟨k - 1, by omega⟩
      obtain ⟨g, rfl, hg, hg'⟩ := hS.form (by omega)
      have uL := hm.lims.getD j
      obtain ⟨l, hl⟩ : ∃ l, L.getD j 0 = l := ⟨_, rfl⟩
      have cS := hS.cellAt (i := j) (by omega)
      have fS := hS.frozenAt j
      rw [getD_of_take hT.out (Nat.lt_succ_self j), hl] at cS
      rw [hl] at uL
      have ST := Lib.hid (div_step (S := S) (L := L) (j := j) (d := d) (r := r) (by rw [hS.len]; omega) (by have := HL.out; omega) hl hV.out)
      have hT2 : Hid ((S.set j ((r * 4294967296 + l) / d)).take j = L.take j) := by
        show _ = _
        rw [take_set_of]; exact take_less hT.out (Nat.le_succ j)
      have q0 : 0 ≤ (r * 4294967296 + l) / d ∧ (r * 4294967296 + l) / d < 4294967296 := by
        refine ⟨Int.ediv_nonneg (by omega) (by omega), Int.ediv_lt_of_lt_mul (by omega) ?_⟩
        have : r * 4294967296 + 4294967296 ≤ d * 4294967296 := by omega
        rw [Int.mul_comm 4294967296 d]; omega
      have m0 := Int.emod_nonneg (r * 4294967296 + l) (show d ≠ 0 by omega)
      have m1 := Int.emod_lt_of_pos (r * 4294967296 + l) (show 0 < d by omega)
      have HA := Lib.hid (div32_any r l d)
      clear hl h0
      go_wp2_with (go_at_call 146; refine (HA.out _ ⟨r0, r1⟩ uL d1).mono ?_; rintro e w' ⟨rfl, kk, rfl⟩)
      go_roundw
      case rel => exact ⟨j, _, _, by omega, by go_num, rfl, ⟨m0, m1⟩, (hS.drewN _).stored j q0.1 q0.2, hT2, ST.out, (hO.drewN _).set j _⟩
      case measure => simp [intOf] <;> omega

end Go.Proofs.YtebbnmjmjoklmaaGreatDoor

namespace Go.Proofs.YtebbnmjmjoklmaaGreatDoor
open Go.RowKit
set_option maxRecDepth 20000

/-- Two slices of the call's own with the limbs of q and r come back, and no error. -/
def Gives2 (w : World) (q r : Int) (e : Ending) (w' : World) : Prop :=
  ∃ A n c Q B m d R, e = .returned (.tuple #[.slice A n c, .slice B m d, .int .i64 0]) ∧ Mine w' w.heap.size A n c Q ∧ Is Q q ∧ Mine w' w.heap.size B m d R ∧ Is R r ∧ Below w.heap.size w w'

theorem divMod_zero (A B : Option Addr) (n c m d : Nat) (L M : List Int) (w : World) (hr : Rd w A n c L) (hs : Rd w B m d M) (hz : val M = 0) :
    Calls Tryz.prog 102 #[.slice A n c, .slice B m d] w fun e w' => e = .returned (.tuple #[.slice none 0 0, .slice none 0 0, .int .i64 3]) ∧ w = w' := by
  have hT := trim_of_zero hs.lims hz
  go_enter Tryz.func102, Tryz.ntmps102
  go_wp2_with fail
  refine (strip_any A n c L w hr).mono ?_
  rintro e w' ⟨A', n', c', rfl, hS, rfl⟩
  clear hS
  go_wp2_with fail
  refine (strip_any B m d M w hs).mono ?_
  rintro e w' ⟨B', m', d', rfl, hS, rfl⟩
  obtain rfl : m' = 0 := by rw [hS.1, hT]; rfl
  clear hS hT hz
  go_wp2
  go_ret3
  exact ⟨rfl, rfl⟩

theorem divMod_less (A B : Option Addr) (n c m d : Nat) (L M : List Int) (w : World) (hr : Rd w A n c L) (hs : Rd w B m d M) (hn : n ≤ 1000000) (hlt : (trim L).length < (trim M).length) :
    Calls Tryz.prog 102 #[.slice A n c, .slice B m d] w (Gives2 w (val L / val M) (val L % val M)) := by
  have hI := Is.mk_trim hr.lims
  have hJ := Is.mk_trim hs.lims
  have hv := hI.lt_of_length hJ hlt
  have v0 := val_nonneg hr.lims
  have hq : Hid (0 = val L / val M) := (Int.ediv_eq_zero_of_lt v0 hv).symm
  have hm : Hid (val L = val L % val M) := (Int.emod_eq_of_lt v0 hv).symm
  have y1 := trim_length_le L
  rw [hr.len] at y1
  clear hI hJ hv v0
  go_enter Tryz.func102, Tryz.ntmps102
  go_wp2_with fail
  refine (strip_any A n c L w hr).mono ?_
  rintro e w' ⟨A', n', c', rfl, hS, rfl⟩
  have hr' := hS.rd hr
  have l1 := hr'.len
  clear hS
  go_wp2_with fail
  refine (strip_any B m d M w hs).mono ?_
  rintro e w' ⟨B', m', d', rfl, hS, rfl⟩
  have hs' := hS.rd hs
  have l2 := hs'.len
  have t2 := hs'.top
  have c2 := hs'.cap
  unfold maxLen at t2
  have h1 : n' < m' := by omega
  have h2 : n' ≤ 1000000 := by omega
  clear hS l1 l2 hlt y1
  have hz : ((m' : Int) == 0) = false := by simp; omega
  go_wp2_with fail
  refine (trim_any A' n' c' (trim L) w hr' h2).mono ?_
  rintro e w1 ⟨A1, n1, c1, L1, rfl, hM1, hI1, hB1⟩
  rw [val_trim, hm.out] at hI1
  have HI := Lib.hid hI1
  clear hI1
  go_wp2
  go_ret3
  exact ⟨none, 0, 0, [], A1, n1, c1, L1, rfl, Mine.nil _ _, hq.out ▸ Is.zero, hM1, HI.out, hB1⟩

set_option maxHeartbeats 400000 in
theorem divMod_one (A B : Option Addr) (n c m d : Nat) (L M : List Int) (w : World) (hr : Rd w A n c L) (hs : Rd w B m d M) (hn : n ≤ 1000000) (h0 : 0 < (trim L).length) (h1 : (trim M).length = 1) :
    Calls Tryz.prog 102 #[.slice A n c, .slice B m d] w (Gives2 w (val L / val M) (val L % val M)) := by
  have hI := Is.mk_trim hr.lims
  have hJ := Is.mk_trim hs.lims
  have y1 := trim_length_le L
  rw [hr.len] at y1
  have hdv : val M = (trim M).getD 0 0 := by
    rw [← val_trim]
    match trim M, h1 with
    | [x], _ => simp [val]
  have hdp : (trim M).getD 0 0 ≠ 0 := last_ne hJ.nrm 0 (by omega)
  have hdr := hJ.lims.getD 0
  obtain ⟨dv, hd⟩ : ∃ dv, (trim M).getD 0 0 = dv := ⟨_, rfl⟩
  rw [hd] at hdv hdp hdr
  go_enter Tryz.func102, Tryz.ntmps102
  go_wp2_with fail
  refine (strip_any A n c L w hr).mono ?_
  rintro e w' ⟨A', n', c', rfl, hS, rfl⟩
  have hr' := hS.rd hr
  have l1 := hr'.len
  clear hS
  go_wp2_with fail
  refine (strip_any B m d M w hs).mono ?_
  rintro e w' ⟨B', m', d', rfl, hS, rfl⟩
  have hs' := hS.rd hs
  have l2 := hs'.len
  obtain rfl : m' = 1 := by omega
  have hn0 : 0 < n' := by omega
  have hn1 : n' ≤ 1000000 := by omega
  have HV := Lib.hid hdv
  obtain ⟨ad, rfl, _, _⟩ := hr'.at_ hn0
  obtain ⟨ad', rfl, hb', hc'⟩ := hs'.at_ (by omega)
  have cM := hc' 0 (by omega)
  have ea : ad'.add 0 = ad' := by simp [Addr.add]
  rw [hd, ea] at cM
  clear ea hS hc' hd hdv h1 l1 l2 h0 y1 hI hJ hs
  go_wp2_with fail
  refine (clone_any ad n' c' (trim L) w hr' hn0 hn1).mono ?_
  rintro e w1 ⟨A1, c1, rfl, hM1, hB1⟩
  have cM1 := (hB1.cell (p := ad') hb').trans cM
  go_wp2_with fail
  refine (divideByLimb_any A1 n' c1 w.heap.size (trim L) w1 dv hM1 (by omega) hdr.2).mono ?_
  rintro e w2 ⟨S, r, rfl, hM2, hV2, hr2, hO2⟩
  have hB2 : Below w.heap.size w w2 := hB1.trans (hO2.below fun a ha => (hM1.lt a ha).1)
  have hq : Hid (val S = val L / val M) := by
    show _ = _
    rw [val_trim] at hV2
    rw [HV.out, hV2, Int.mul_comm, Int.add_comm, Int.add_mul_ediv_right _ _ hdp, Int.ediv_eq_zero_of_lt hr2.1 hr2.2]
    omega
  have hrm : Hid (r = val L % val M) := by
    show _ = _
    rw [val_trim] at hV2
    rw [HV.out, hV2, Int.mul_comm, Int.add_comm, Int.add_mul_emod_self_right, Int.emod_eq_of_lt hr2.1 hr2.2]
  clear hV2
  go_wp2_with fail
  refine (strip_any _ _ _ _ _ hM2.rd).mono ?_
  rintro e w' ⟨A3, n3, c3, rfl, hS3, rfl⟩
  have hM3 := hS3.mine hM2
  clear hS3
  go_wp2_with fail
  refine (fromWord_any _ _ (by omega) (by omega)).mono ?_
  rintro e w4 ⟨A4, n4, c4, L4, rfl, hM4, hI4, hB4⟩
  have hq2 : Hid (Is (trim S) (val L / val M)) := hq.out ▸ Is.mk_trim hM2.lims
  have hr4 : Hid (Is L4 (val L % val M)) := hrm.out ▸ hI4
  clear hI4
  go_wp2
  go_ret3
  exact ⟨A3, n3, c3, _, A4, n4, c4, L4, rfl, hM3.below hB4, hq2.out, hM4.more hB2.size, hr4.out, hB2.trans (hB4.mono hB2.size)⟩

end Go.Proofs.YtebbnmjmjoklmaaGreatDoor

namespace Go.Proofs.YtebbnmjmjoklmaaGreatDoor
open Go.RowKit
set_option maxRecDepth 20000

/-- The decimal digits of n, the last one first, as bytes of text. -/
def revDig (n : Nat) : List UInt8 := UInt8.ofNat (48 + n % 10) :: (if n < 10 then [] else revDig (n / 10))
termination_by n
decreasing_by omega
theorem revDig_small {n : Nat} (h : n < 10) : revDig n = [UInt8.ofNat (48 + n % 10)] := by rw [revDig, if_pos h]
theorem revDig_big {n : Nat} (h : 10 ≤ n) : revDig n = UInt8.ofNat (48 + n % 10) :: revDig (n / 10) := by rw [revDig, if_neg (by omega)]
theorem revDig_len (k : Nat) : ∀ n, n < 10 ^ (k + 1) → (revDig n).length ≤ k + 1 := by
  induction k with
  | zero => intro n h; rw [revDig_small (by simpa using h)]; simp
  | succ k ih =>
    intro n h
    rcases Nat.lt_or_ge n 10 with h1 | h1
    · rw [revDig_small h1]; simp
    · rw [revDig_big h1, List.length_cons]
      have := ih (n / 10) (by rw [Nat.pow_succ] at h; omega)
      omega
theorem digit_byte (n : Nat) : ((UInt8.ofNat (48 + n % 10)).toNat : Int) = 48 + (n : Int) % 10 := by
  rw [UInt8.toNat_ofNat']; omega
theorem group_step {X G R k : Nat} (hX : X = G + 10 ^ (k + 1) * R) (hG : G < 10 ^ (k + 1)) : X % 10 = G % 10 ∧ X / 10 = G / 10 + 10 ^ k * R ∧ G / 10 < 10 ^ k := by
  have e : 10 ^ (k + 1) * R = 10 * (10 ^ k * R) := by rw [Nat.pow_succ, Nat.mul_comm (10 ^ k) 10, Nat.mul_assoc]
  rw [e] at hX
  rw [Nat.pow_succ] at hG
  omega
theorem ten_le (n : Nat) : pw n ≤ (10 : Int) ^ (10 * n) := by
  induction n with
  | zero => decide
  | succ n ih =>
    rw [pw_succ, Nat.mul_succ, Int.pow_add]
    have h0 : (0 : Int) ≤ 10 ^ (10 * n) := Int.le_of_lt (Int.pow_pos (by decide))
    have h1 : 4294967296 * pw n ≤ 4294967296 * 10 ^ (10 * n) := Int.mul_le_mul_of_nonneg_left ih (by decide)
    have h2 : (10 : Int) ^ (10 * n) * 4294967296 ≤ 10 ^ (10 * n) * 10 ^ 10 := Int.mul_le_mul_of_nonneg_left (by decide) h0
    omega
/-- A number of n limbs has at most 10 n + 1 digits. -/
theorem revDig_limbs {x : Int} {n N : Nat} (hx : x < pw n) (hN : x = (N : Int)) : (revDig N).length ≤ 10 * n + 1 := by
  refine revDig_len (10 * n) N ?_
  have h1 := ten_le n
  have h2 : (N : Int) < 10 ^ (10 * n) := by omega
  have h3 : N < 10 ^ (10 * n) := by exact_mod_cast h2
  exact Nat.lt_of_lt_of_le h3 (Nat.pow_le_pow_right (by decide) (by omega))

/-- The bytes as the cells hold them. -/
def bcells (T : List UInt8) : List Value := T.map fun b => .int .u8 (b.toNat : Int)
theorem bcells_length (T : List UInt8) : (bcells T).length = T.length := List.length_map ..
theorem bcells_get (T : List UInt8) (i : Nat) (h : i < T.length) : (bcells T)[i]? = some (.int .u8 (T[i].toNat : Int)) := by
  unfold bcells
  rw [List.getElem?_map, List.getElem?_eq_getElem h]; rfl
theorem bcells_snoc (T : List UInt8) (b : UInt8) : bcells (T ++ [b]) = bcells T ++ [.int .u8 (b.toNat : Int)] := by unfold bcells; rw [List.map_append]; rfl
theorem oneCell_bcells (T : List UInt8) : ∀ u ∈ bcells T, u.oneCell' = true := by
  intro u hu
  unfold bcells at hu
  obtain ⟨b, _, rfl⟩ := List.mem_map.1 hu
  rfl

/-- Rows of different element types lie in different blocks. -/
theorem rows_apart {w : World} {base base' : Nat} {e e' : TypeId} {s s' : Nat} {v v' : Value} {n n' : Nat} {xs xs' : List Value} (h : w.ownsRow base e s v n xs) (h' : w.ownsRow base' e' s' v' n' xs') (hne : e ≠ e') :
    v.ownBlock = none ∨ v.ownBlock ≠ v'.ownBlock := by
  rcases h.2 with ⟨rfl, _⟩ | ⟨g, c, cur, rfl, _, hg, _⟩
  · exact .inl rfl
  · refine .inr fun hh => ?_
    rcases h'.2 with ⟨rfl, _⟩ | ⟨g', c', cur', rfl, _, hg', _⟩
    · cases hh
    · obtain rfl : g = g' := Option.some.inj hh
      rw [hg] at hg'
      injection hg' with hg'
      injection hg' with _ hg'
      exact hne hg'
theorem row_only {w w' : World} {A : Option Addr} {base : Nat} {e : TypeId} {s n m c : Nat} {v : Value} {xs ys : List Value} {base' e' : Nat} (h : w.ownsRow base e s v n xs) (ho : Only A w w') (ha : w.ownsRow base' e' 1 (.slice A m c) m ys) (hne : e ≠ e') : w'.ownsRow base e s v n xs := by
  have hap := rows_apart h ha hne
  refine ⟨h.1, ?_⟩
  rcases h.2 with e0 | ⟨g, cap, cur, rfl, hb, hg, rest⟩
  · exact .inl e0
  · refine .inr ⟨g, cap, cur, rfl, hb, ?_, rest⟩
    rw [ho.block g ?_]
    · exact hg
    · rintro a rfl hag
      rcases hap with h0 | h0
      · cases h0
      · exact h0 (by simp [Value.ownBlock, hag])
theorem row_below {w w' : World} {base : Nat} {e : TypeId} {s n : Nat} {v : Value} {xs : List Value} (h : w.ownsRow base e s v n xs) (hb : Below w.heap.size w w') : w'.ownsRow base e s v n xs := by
  refine ⟨h.1, ?_⟩
  rcases h.2 with e0 | ⟨g, cap, cur, rfl, hg0, hg, rest⟩
  · exact .inl e0
  · exact .inr ⟨g, cap, cur, rfl, hg0, (hb.block g (Array.getElem?_eq_some_iff.1 hg).1).trans hg, rest⟩
theorem Mine.grown {w w' : World} {base : Nat} {A : Option Addr} {n c : Nat} {L : List Int} {base' e' s' n' : Nat} {v' : Value} {xs' : List Value} (h : Mine w base A n c L) (h' : w.ownsRow base' e' s' v' n' xs') (hne : 71 ≠ e') (hg : w.grownBy w' v'.ownBlock) : Mine w' base A n c L :=
  ⟨h.row.kept hg (rows_apart h.row h' hne), h.lims⟩
theorem grown_below {w0 w w' : World} {B base e s n : Nat} {v : Value} {xs : List Value} (h : Below B w0 w) (hr : w.ownsRow base e s v n xs) (hg : w.grownBy w' v.ownBlock) (hB : B ≤ w.heap.size) (hb : B ≤ base) : Below B w0 w' :=
  h.grown hg hB fun k hk => Nat.le_trans hb (hr.lt k hk).1

theorem one_new (w : World) (x : Value) (t : TypeId) : ∀ j u, [x][j]? = some u → (w.alloc (.cells #[x] t)).cell? ((⟨w.heap.size, 0, none⟩ : Addr).add j) = some u := by
  intro j u hj
  match j, hj with
  | 0, hj =>
    injection hj with hj
    subst hj
    have e : (⟨w.heap.size, 0, none⟩ : Addr).add 0 = ⟨w.heap.size, 0, none⟩ := by simp [Addr.add]
    rw [e, World.cell?_alloc_mark]; rfl

theorem one_cell (x : Value) (h : x.oneCell' = true) : ∀ u ∈ [x], u.oneCell' = true := by
  intro u hu
  rw [List.mem_singleton] at hu
  rw [hu]; exact h
theorem le_alloc {B : Nat} {w : World} (h : B ≤ w.heap.size) (o : Obj) : B ≤ (w.alloc o).heap.size := by simp; omega
theorem room_one {n : Nat} (h : n < 10000001) : n + 1 ≤ maxLen := by unfold maxLen; omega
theorem room_one' {n : Nat} (h : n < 10000001) : (n + 1) * 1 ≤ 140737488355328 := by omega

theorem row_form {w : World} {base : Nat} {e : TypeId} {s n : Nat} {v : Value} {xs : List Value} (h : w.ownsRow base e s v n xs) : ∃ A c, v = .slice A n c := by
  rcases h.2 with ⟨e, h0⟩ | ⟨g, cap, cur, e, _⟩
  · subst h0; exact ⟨_, _, e⟩
  · exact ⟨_, _, e⟩

end Go.Proofs.YtebbnmjmjoklmaaGreatDoor

namespace Go.Proofs.YtebbnmjmjoklmaaGreatDoor
open Go.RowKit
set_option maxRecDepth 20000

theorem info_byte : (Tryz.prog.info? 5).map (fun i => (i.zero, i.size, i.bytes)) = some (some (.int .u8 0), 1, 1) := by kernel_rfl

/-- Z is T with the first i and the last i bytes exchanged. -/
def Half (T Z : List UInt8) (i : Nat) : Prop := Z.length = T.length ∧ ∀ t, t < T.length → Z[t]? = if t < i ∨ T.length < t + i + 1 then T[T.length - 1 - t]? else T[t]?
theorem Half.start (T : List UInt8) : Half T T 0 := ⟨rfl, fun t ht => by rw [if_neg (by omega)]⟩
theorem Half.done {T Z : List UInt8} {i : Nat} (h : Half T Z i) (hi : T.length ≤ 2 * i + 1) : Z = T.reverse := by
  apply List.ext_getElem?
  intro t
  by_cases ht : t < T.length
  · rw [h.2 t ht, List.getElem?_reverse ht]
    split
    · rfl
    · next hc =>
      have : T.length - 1 - t = t := by omega
      rw [this]
  · rw [List.getElem?_eq_none (by rw [h.1]; omega), List.getElem?_eq_none (by rw [List.length_reverse]; omega)]
theorem Half.step {T Z : List UInt8} {i j : Nat} (h : Half T Z i) (hij : i < j) (hj : j + i + 1 = T.length) (hi' : i < Z.length) (hj' : j < Z.length) : Half T ((Z.set i Z[j]).set j Z[i]) (i + 1) := by
  refine ⟨by simp [h.1], fun t ht => ?_⟩
  have ei : Z[i]? = T[i]? := by rw [h.2 i (by omega), if_neg (by omega)]
  have ej : Z[j]? = T[j]? := by rw [h.2 j (by omega), if_neg (by omega)]
  rw [List.getElem?_eq_getElem hi'] at ei
  rw [List.getElem?_eq_getElem hj'] at ej
  by_cases h1 : t = j
  · subst h1
    have e : T.length - 1 - t = i := by omega
    rw [List.getElem?_set_self (by simpa using hj'), if_pos (by omega), e, ei]
  · rw [List.getElem?_set_ne (by omega)]
    by_cases h2 : t = i
    · subst h2
      have e : T.length - 1 - t = j := by omega
      rw [List.getElem?_set_self hi', if_pos (by omega), e, ej]
    · rw [List.getElem?_set_ne (by omega), h.2 t ht]
      by_cases h3 : t < i ∨ T.length < t + i + 1
      · rw [if_pos h3, if_pos (by omega)]
      · rw [if_neg h3, if_neg (by omega)]

def Reversed (A : Option Addr) (n c base : Nat) (T : List UInt8) (w : World) (e : Ending) (w' : World) : Prop :=
  e = .returned (.tuple #[]) ∧ w'.ownsRow base 5 1 (.slice A n c) n (bcells T.reverse) ∧ Only A w w'

theorem bcells_swap (Z : List UInt8) (i j : Nat) (hi : i < Z.length) (hj : j < Z.length) : ((bcells Z).set i (.int .u8 (Z[j].toNat : Int))).set j (.int .u8 (Z[i].toNat : Int)) = bcells ((Z.set i Z[j]).set j Z[i]) := by
  unfold bcells
  rw [List.map_set, List.map_set]

set_option maxHeartbeats 1000000 in
theorem reverse_any (A : Option Addr) (n c base : Nat) (T : List UInt8) (w : World) (hr : w.ownsRow base 5 1 (.slice A n c) n (bcells T)) (hn : n ≤ 100000000) :
    Calls Tryz.prog 124 #[.slice A n c] w (Reversed A n c base T w) := by
  have hl := hr.1
  rw [bcells_length] at hl
  have HL := Lib.hid hl
  clear hl
  go_enter Tryz.func124, Tryz.ntmps124
  go_wp2
  go_loopw [2, 3] (fun iv jv wr => ∃ (i : Nat) (q : Int) (Z : List UInt8), 2 * i ≤ n ∧ iv = .int .i64 i ∧ jv = .int .i64 q ∧ Hid (q + i + 1 = n) ∧ wr.ownsRow base 5 1 (.slice A n c) n (bcells Z) ∧ Hid (Half T Z i) ∧ Only A w wr)
    (fun iv _ _ => n - (intOf iv).toNat)
  case atStart => exact ⟨0, _, T, by omega, rfl, rfl, by show _ = _; omega, hr, Half.start T, Only.refl _ _⟩
  case round =>
    obtain ⟨i, q, Z, hi, rfl, rfl, hq, hZ, hH, hO⟩ := hrel
    by_cases hlt : (i : Int) < q
    · obtain ⟨j, rfl⟩ := Int.eq_ofNat_of_zero_le (show 0 ≤ q by omega)
      have hij : i < j := by omega
      have hjn : j < n := by have := hq.out; omega
      obtain ⟨g, rfl⟩ : ∃ g, A = some ⟨g, 0, none⟩ := by
        rcases hZ.2 with ⟨_, h0⟩ | ⟨g, cap, cur, e, _⟩
        · omega
        · injection e with e _ _; exact ⟨g, e⟩
      have hZl : Z.length = n := by have := hZ.1; rw [bcells_length] at this; omega
      have ci := hZ.cellAt i (by omega)
      have cj := hZ.cellAt j (by omega)
      rw [bcells_get Z i (by omega)] at ci
      rw [bcells_get Z j (by omega)] at cj
      have fi := hZ.frozenAt i
      have fj := hZ.frozenAt j
      obtain ⟨xi, xj, Z2, hci, hcj, hz2, hst⟩ : ∃ (xi xj : Int) (Z2 : List UInt8), wr.cell? ⟨g, i, none⟩ = some (.int .u8 xi) ∧ wr.cell? ⟨g, j, none⟩ = some (.int .u8 xj) ∧
          ((bcells Z).set i (.int .u8 xj)).set j (.int .u8 xi) = bcells Z2 ∧ Half T Z2 (i + 1) :=
        ⟨_, _, _, ci, cj, bcells_swap Z i j (by omega) (by omega), hH.out.step hij (by have := hq.out; have := HL.out; omega) (by omega) (by omega)⟩
      have HZ2 := Lib.hid hz2
      have HST := Lib.hid hst
      clear hz2 hst hZl ci cj
      go_wp2
      go_region
      go_wp2
      have hrow := ((hZ.stored i (.int .u8 xj)).1.stored j (.int .u8 xi)).1
      rw [HZ2.out] at hrow
      go_roundw
      case rel => exact ⟨i + 1, (j : Int) - 1, Z2, by have := hq.out; omega, by go_num, rfl, by show _ = _; have := hq.out; omega, hrow, HST.out, ((hO.set i _).set j _).drew⟩
      case measure => simp [intOf] <;> omega
    · have hz := hH.out.done (by have := hq.out; have := HL.out; omega)
      rw [hz] at hZ
      clear hz
      go_wp2
      go_end0
      exact ⟨rfl, hZ, hO⟩

theorem string_of_row {w : World} {A : Option Addr} {n c base : Nat} {l : List UInt8} (h : w.ownsRow base 5 1 (.slice A n c) n (bcells l)) (h0 : 0 < n) :
    (convert 90 9 (.slice A n c)).run Tryz.prog w = .ok (.string ⟨l.toArray⟩) w := by
  have hl := h.1
  rw [bcells_length, Nat.mul_one] at hl
  subst hl
  rcases h.2 with ⟨_, e0⟩ | ⟨g, cap, cur, e, _⟩
  · omega
  · injection e with e _ _
    subst e
    refine run_convert_bytes_back w 90 9 5 ⟨g, 0, none⟩ c l Tryz.underlying90 Tryz.underlying5 Tryz.underlying9 fun j hj => ?_
    exact h.cells (g := g) rfl j _ (bcells_get l j hj)

set_option maxHeartbeats 1000000 in
theorem format_any (A : Option Addr) (n c : Nat) (L : List Int) (w : World) (N : Nat) (hr : Rd w A n c L) (hn : n ≤ 1000000) (hN : val L = (N : Int)) :
    Calls Tryz.prog 88 #[.slice A n c] w fun e w' => e = .returned (.string ⟨(revDig N).reverse.toArray⟩) ∧ Below w.heap.size w w' := by
  obtain ⟨i0, hi, hz0, hz1, hz2⟩ := info_parts info_byte
  have hlen : (revDig N).length ≤ 10 * n + 1 := revDig_limbs (by have := val_lt hr.lims; rw [hr.len] at this; exact this) hN
  go_enter Tryz.func88, Tryz.ntmps88
  go_wp2_with fail
  go_step3
  go_wp2_with fail
  refine (trim_any A n c L w hr hn).mono ?_
  rintro e w1 ⟨A1, n1, c1, L1, rfl, hM1, hI1, hB1⟩
  have hn1 := hM1.rd.cap
  rw [hN] at hI1
  have HI1 := Lib.hid hI1
  have HN := Lib.hid hN
  clear hI1 hN
  go_wp2
  go_step3
  go_wp2
  go_loopg [3, 4] N (fun k sv tv wr => ∃ (A2 : Option Addr) (n2 c2 : Nat) (S : List Int) (T : List UInt8), sv = .slice A2 n2 c2 ∧ Mine wr w.heap.size A2 n2 c2 S ∧ Hid (val S = (k : Int)) ∧
      wr.ownsRow w.heap.size 5 1 tv T.length (bcells T) ∧ Hid (revDig N = T ++ revDig k) ∧ Below w.heap.size w wr)
  case atStart => exact ⟨_, _, _, _, [], rfl, hM1, HI1.out.eq, World.ownsRow_nil _ _ _ _, rfl, hB1⟩
  case round =>
    obtain ⟨A2, n2, c2, S, T, rfl, hS, hV, hT, hD, hB⟩ := hrel
    clear hM1 hB1 HI1
    go_wp2_with fail
    refine (divideByLimb_any A2 n2 c2 w.heap.size S wr 1000000000 hS (by omega) (by omega)).mono ?_
    rintro e w2 ⟨S2, r, rfl, hS2, hV2, ⟨r0, r1⟩, hO⟩
    have hT2 := row_only hT hO hS.row (by decide)
    have hB2 := hB.trans (hO.below fun a ha => (hS.lt a ha).1)
    go_wp2_with fail
    refine (strip_any _ _ _ _ _ hS2.rd).mono ?_
    rintro e w' ⟨A3, n3, c3, rfl, hS3, rfl⟩
    have hM3 := hS3.mine hS2
    have hI3 := Is.mk_trim hS2.lims
    obtain ⟨R, hR⟩ := Int.eq_ofNat_of_zero_le (val_nonneg hS2.lims)
    obtain ⟨G, rfl⟩ := Int.eq_ofNat_of_zero_le r0
    have hG : G < 1000000000 := by omega
    have hX : Hid (gk = G + 1000000000 * R) := by show _ = _; have := hV.out; omega
    have hn3 : n3 ≤ n3 + c3 := by omega
    have h3 := hM3.rd.cap
    have t3 := hM3.rd.top
    unfold maxLen at t3
    have hz3 : Hid (n3 = 0 ↔ R = 0) := by
      show _ ↔ _
      have hl := hM3.len
      rw [hR] at hI3
      constructor
      · intro h
        have e : trim S2 = [] := List.eq_nil_of_length_eq_zero (by omega)
        rw [e] at hI3
        have := hI3.eq_of_nil
        omega
      · intro h
        have e : trim S2 = [] := trim_of_zero hS2.lims (by omega)
        rw [e] at hl
        exact hl.symm
    have hD2 : Hid (revDig N = T ++ revDig (G + 10 ^ 9 * R)) := by
      show _ = _
      rw [hD.out, hX.out]
    have hR3 : Hid (val (trim S2) = (R : Int)) := by show _ = _; rw [val_trim, hR]
    clear hS2 hV2 hS3 hI3 hR hS r0 r1 hO hT hB
    go_wp2
    obtain ⟨wo, rfl⟩ : ∃ wo : World, wo = w2 := ⟨_, rfl⟩
    obtain ⟨K, hK⟩ : ∃ K, K = gk := ⟨_, rfl⟩
    rw [← hK] at hX
    have HK := Lib.hid hK
    clear hK
    go_loopg [4, 5, 12] 9 (fun k tv gv iv wr => ∃ (i G : Nat) (T : List UInt8), i ≤ 9 ∧ Hid (i + k = 9) ∧ iv = .int .i64 i ∧ gv = .int .u32 G ∧ G < 1000000000 ∧ Hid (G < 10 ^ k) ∧ Mine wr w.heap.size A3 n3 c3 (trim S2) ∧
        wr.ownsRow w.heap.size 5 1 tv T.length (bcells T) ∧ Hid (revDig N = T ++ revDig (G + 10 ^ k * R)) ∧ Hid (0 < i → 0 < G + 10 ^ k * R) ∧ Below w.heap.size w wr)
    case atStart => exact ⟨0, G, T, by omega, rfl, rfl, rfl, hG, by show _ < _; omega, hM3, hT2, hD2, fun h => absurd h (by omega), hB2⟩
    case round =>
      obtain ⟨i, G', T', hi9, hik, rfl, rfl, hG', hGk, hM', hT', hD', hpos, hB'⟩ := hrel
      by_cases h9 : i < 9
      · obtain ⟨k, hk⟩ : ∃ k, gk = k + 1 := ⟨gk - 1, by have := hik.out; omega⟩
        subst hk
        obtain ⟨e1, e2, e3⟩ := group_step (X := G' + 10 ^ (k + 1) * R) rfl hGk.out
        have hTl : T'.length < 10000001 := by
          have h1 := congrArg List.length hD'.out
          rw [List.length_append] at h1
          have h2 : 0 < (revDig (G' + 10 ^ (k + 1) * R)).length := by rw [revDig]; simp
          omega
        have hdig : Hid (bcells (T' ++ [UInt8.ofNat (48 + G' % 10)]) = bcells T' ++ [.int .u8 (48 + (G' : Int) % 10)]) := by
          show _ = _
          rw [bcells_snoc, digit_byte]
        have E1 := Lib.hid e1
        have E2 := Lib.hid e2
        have E3 := Lib.hid e3
        have hap := rows_apart hT' hM'.row (by decide)
        clear e1 e2 e3
        have HTl := Lib.hid hTl
        have hbelow := hB'.size
        by_cases hG0 : G' / 10 = 0
        · have hb : (((G' : Int) / 10) == 0) = true := by simp; omega
          by_cases hn0 : n3 = 0
          · have hR0 := hz3.out.1 hn0
            subst hn0
            have HG0 := Lib.hid hG0
            clear hG0
            go_wp2_with (at_builtin; refine wpList_append_own _ rfl _ _ 90 rfl w.heap.size 5 i0 (.int .u8 0) 1 1 Tryz.underlying90 hi hz0 hz1 hz2 rfl (by decide) _ _ _ rfl (hT'.alloc _) ⟨wr.heap.size, 0, none⟩ 1 1 [.int .u8 (48 + (G' : Int) % 10)] rfl rfl (one_new _ _ _) (one_cell _ rfl) (room_one HTl.out) (room_one' HTl.out) (le_alloc hbelow _) ?_)
            intro v' w3 hown' hgrow _
            rw [← hdig.out] at hown'
            have hM4 := (hM'.alloc (.cells #[.int .u8 (48 + (G' : Int) % 10)] 5)).grown (hT'.alloc _) (by decide) hgrow
            have hB4 := grown_below (hB'.alloc hbelow (.cells #[.int .u8 (48 + (G' : Int) % 10)] 5)) (hT'.alloc _) hgrow (by simp; omega) (Nat.le_refl _)
            clear hgrow
            obtain ⟨A5, c5, hv5⟩ := row_form hown'
            subst hv5
            have hTT : Hid ((T' ++ [UInt8.ofNat (48 + G' % 10)]).reverse = (revDig N).reverse) := by
              show _ = _
              rw [hD'.out, revDig_small (n := G' + 10 ^ (k + 1) * R) (by have := E2.out; have h0 := HG0.out; rw [hR0] at this ⊢; omega), E1.out]
            have hlast : T'.length + 1 ≤ 100000000 := by have := HTl.out; omega
            have HLast := Lib.hid hlast
            clear hlast
            go_wp2_with fail
            refine (reverse_any A5 (T'.length + 1) c5 w.heap.size _ w3 hown' HLast.out).mono ?_
            rintro e w5 ⟨rfl, hr5, hO5⟩
            rw [hTT.out] at hr5
            have hcv := string_of_row hr5 (by omega)
            have hB5 := hB4.trans (hO5.below fun a ha => by subst ha; exact (hown'.lt a.block rfl).1)
            clear hr5 hO5 hown' hM4 hB4
            go_wp2
            rw [Exit.noGoto_ret]
            go_ret
            exact ⟨rfl, hB5⟩
          · have hXX : Hid (10 ≤ G' + 10 ^ (k + 1) * R) := by
              show _ ≤ _
              have h1 : R ≠ 0 := fun h => hn0 (hz3.out.2 h)
              have h2 := E2.out
              have h3 : 0 < 10 ^ k * R := Nat.mul_pos (Nat.pow_pos (by decide)) (by omega)
              omega
            have hb2 : ((n3 : Int) == 0) = false := by simp; omega
            clear hG0
            go_wp2_with (at_builtin; refine wpList_append_own _ rfl _ _ 90 rfl w.heap.size 5 i0 (.int .u8 0) 1 1 Tryz.underlying90 hi hz0 hz1 hz2 rfl (by decide) _ _ _ rfl (hT'.alloc _) ⟨wr.heap.size, 0, none⟩ 1 1 [.int .u8 (48 + (G' : Int) % 10)] rfl rfl (one_new _ _ _) (one_cell _ rfl) (room_one HTl.out) (room_one' HTl.out) (le_alloc hbelow _) ?_)
            intro v' w3 hown' hgrow _
            rw [← hdig.out] at hown'
            have hlen' : T'.length + 1 = (T' ++ [UInt8.ofNat (48 + G' % 10)]).length := by simp
            rw [hlen'] at hown'
            have hM4 := (hM'.alloc (.cells #[.int .u8 (48 + (G' : Int) % 10)] 5)).grown (hT'.alloc _) (by decide) hgrow
            have hB4 := grown_below (hB'.alloc hbelow (.cells #[.int .u8 (48 + (G' : Int) % 10)] 5)) (hT'.alloc _) hgrow (by simp; omega) (Nat.le_refl _)
            clear hgrow hlen'
            go_wp2
            go_roundg k
            case measure => omega
            case rel =>
              refine ⟨i + 1, G' / 10, _, by omega, by show _ = _; have := hik.out; omega, by go_num, by go_num, by omega, E3.out, hM4, hown', ?_, ?_, hB4⟩
              · show _ = _
                rw [hD'.out, revDig_big hXX.out, ← E2.out, E1.out, List.append_assoc]; rfl
              · intro _
                rw [← E2.out]; have := hXX.out; omega
        · have hb : (((G' : Int) / 10) == 0) = false := by simp; omega
          have hXX : Hid (10 ≤ G' + 10 ^ (k + 1) * R) := by
            show _ ≤ _
            omega
          clear hG0
          go_wp2_with (at_builtin; refine wpList_append_own _ rfl _ _ 90 rfl w.heap.size 5 i0 (.int .u8 0) 1 1 Tryz.underlying90 hi hz0 hz1 hz2 rfl (by decide) _ _ _ rfl (hT'.alloc _) ⟨wr.heap.size, 0, none⟩ 1 1 [.int .u8 (48 + (G' : Int) % 10)] rfl rfl (one_new _ _ _) (one_cell _ rfl) (room_one HTl.out) (room_one' HTl.out) (le_alloc hbelow _) ?_)
          intro v' w3 hown' hgrow _
          rw [← hdig.out] at hown'
          have hlen' : T'.length + 1 = (T' ++ [UInt8.ofNat (48 + G' % 10)]).length := by simp
          rw [hlen'] at hown'
          have hM4 := (hM'.alloc (.cells #[.int .u8 (48 + (G' : Int) % 10)] 5)).grown (hT'.alloc _) (by decide) hgrow
          have hB4 := grown_below (hB'.alloc hbelow (.cells #[.int .u8 (48 + (G' : Int) % 10)] 5)) (hT'.alloc _) hgrow (by simp; omega) (Nat.le_refl _)
          clear hgrow hlen'
          go_wp2
          go_roundg k
          case measure => omega
          case rel =>
            refine ⟨i + 1, G' / 10, _, by omega, by show _ = _; have := hik.out; omega, by go_num, by go_num, by omega, E3.out, hM4, hown', ?_, ?_, hB4⟩
            · show _ = _
              rw [hD'.out, revDig_big hXX.out, ← E2.out, E1.out, List.append_assoc]; rfl
            · intro _
              rw [← E2.out]; have := hXX.out; omega
      · obtain rfl : i = 9 := by omega
        have hk0 : gk = 0 := by have := hik.out; omega
        subst hk0
        have hg0 : G' = 0 := by have := hGk.out; omega
        subst hg0
        have hR0 : 0 < R := by have := hpos.out (by omega); omega
        go_wp2
        go_roundg R
        case measure => have := hX.out; have := HK.out; omega
        case rel => exact ⟨_, _, _, _, T', rfl, hM', hR3.out, hT', by show _ = _; rw [hD'.out]; congr 2; omega, hB'⟩

end Go.Proofs.YtebbnmjmjoklmaaGreatDoor
