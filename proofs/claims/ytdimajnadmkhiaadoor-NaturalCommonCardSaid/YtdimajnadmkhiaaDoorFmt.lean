/-
  slices.Reverse of bytes and natural.Format: for every list of limbs the text is the number in decimal.
-/
import Derived.Test.YtdimajnadmkhiaaDoorDig
import Derived.Test.YtdimajnadmkhiaaDoorDiv1
import Derived.Deep.LoopGhost
import Derived.WalkMore
namespace Go.Proofs.YtdimajnadmkhiaaDoor
open Go.RowKit

theorem info_byte : (Tryd.prog.info? 5).map (fun i => (i.zero, i.size, i.bytes)) = some (some (.int .u8 0), 1, 1) := by kernel_rfl

/-- Z is T with the first i and the last i bytes exchanged. -/
def Half (T Z : List UInt8) (i : Nat) : Prop := Z.length = T.length ∧ ∀ t, t < T.length → Z[t]? = if t < i ∨ T.length < t + i + 1 then T[T.length - 1 - t]? else T[t]?
theorem Half.start (T : List UInt8) : Half T T 0 := ⟨rfl, fun t ht => by rw [if_neg (by omega)]⟩
theorem Half.done {T Z : List UInt8} {i : Nat} (h : Half T Z i) (hi : T.length ≤ 2 * i + 1) : Z = T.reverse := by
  apply List.ext_getElem?
  intro t
  by_cases ht : t < T.length
  · rw [h.2 t ht, List.getElem?_reverse ht]
    split
    · rfl
    · next hc =>
      have : T.length - 1 - t = t := by omega
      rw [this]
  · rw [List.getElem?_eq_none (by rw [h.1]; omega), List.getElem?_eq_none (by rw [List.length_reverse]; omega)]
theorem Half.step {T Z : List UInt8} {i j : Nat} (h : Half T Z i) (hij : i < j) (hj : j + i + 1 = T.length) (hi' : i < Z.length) (hj' : j < Z.length) : Half T ((Z.set i Z[j]).set j Z[i]) (i + 1) := by
  refine ⟨by simp [h.1], fun t ht => ?_⟩
  have ei : Z[i]? = T[i]? := by rw [h.2 i (by omega), if_neg (by omega)]
  have ej : Z[j]? = T[j]? := by rw [h.2 j (by omega), if_neg (by omega)]
  rw [List.getElem?_eq_getElem hi'] at ei
  rw [List.getElem?_eq_getElem hj'] at ej
  by_cases h1 : t = j
  · subst h1
    have e : T.length - 1 - t = i := by omega
    rw [List.getElem?_set_self (by simpa using hj'), if_pos (by omega), e, ei]
  · rw [List.getElem?_set_ne (by omega)]
    by_cases h2 : t = i
    · subst h2
      have e : T.length - 1 - t = j := by omega
      rw [List.getElem?_set_self hi', if_pos (by omega), e, ej]
    · rw [List.getElem?_set_ne (by omega), h.2 t ht]
      by_cases h3 : t < i ∨ T.length < t + i + 1
      · rw [if_pos h3, if_pos (by omega)]
      · rw [if_neg h3, if_neg (by omega)]

def Reversed (A : Option Addr) (n c base : Nat) (T : List UInt8) (w : World) (e : Ending) (w' : World) : Prop :=
  e = .returned (.tuple #[]) ∧ w'.ownsRow base 5 1 (.slice A n c) n (bcells T.reverse) ∧ Only A w w'

theorem bcells_swap (Z : List UInt8) (i j : Nat) (hi : i < Z.length) (hj : j < Z.length) : ((bcells Z).set i (.int .u8 (Z[j].toNat : Int))).set j (.int .u8 (Z[i].toNat : Int)) = bcells ((Z.set i Z[j]).set j Z[i]) := by
  unfold bcells
  rw [List.map_set, List.map_set]

set_option maxHeartbeats 1000000 in
theorem reverse_any (A : Option Addr) (n c base : Nat) (T : List UInt8) (w : World) (hr : w.ownsRow base 5 1 (.slice A n c) n (bcells T)) (hn : n ≤ 100000000) :
    Calls Tryd.prog 55 #[.slice A n c] w (Reversed A n c base T w) := by
  have hl := hr.1
  rw [bcells_length] at hl
  have HL := Lib.hid hl
  clear hl
  go_enter Tryd.func55, Tryd.ntmps55
  go_wp2
  go_loopw [2, 3] (fun iv jv wr => ∃ (i : Nat) (q : Int) (Z : List UInt8), 2 * i ≤ n ∧ iv = .int .i64 i ∧ jv = .int .i64 q ∧ Hid (q + i + 1 = n) ∧ wr.ownsRow base 5 1 (.slice A n c) n (bcells Z) ∧ Hid (Half T Z i) ∧ Only A w wr)
    (fun iv _ _ => n - (intOf iv).toNat)
  case atStart => exact ⟨0, _, T, by omega, rfl, rfl, by show _ = _; omega, hr, Half.start T, Only.refl _ _⟩
  case round =>
    obtain ⟨i, q, Z, hi, rfl, rfl, hq, hZ, hH, hO⟩ := hrel
    by_cases hlt : (i : Int) < q
    · obtain ⟨j, rfl⟩ := Int.eq_ofNat_of_zero_le (show 0 ≤ q by omega)
      have hij : i < j := by omega
      have hjn : j < n := by have := hq.out; omega
      obtain ⟨g, rfl⟩ : ∃ g, A = some ⟨g, 0, none⟩ := by
        rcases hZ.2 with ⟨_, h0⟩ | ⟨g, cap, cur, e, _⟩
        · omega
        · injection e with e _ _; exact ⟨g, e⟩
      have hZl : Z.length = n := by have := hZ.1; rw [bcells_length] at this; omega
      have ci := hZ.cellAt i (by omega)
      have cj := hZ.cellAt j (by omega)
      rw [bcells_get Z i (by omega)] at ci
      rw [bcells_get Z j (by omega)] at cj
      have fi := hZ.frozenAt i
      have fj := hZ.frozenAt j
      obtain ⟨xi, xj, Z2, hci, hcj, hz2, hst⟩ : ∃ (xi xj : Int) (Z2 : List UInt8), wr.cell? ⟨g, i, none⟩ = some (.int .u8 xi) ∧ wr.cell? ⟨g, j, none⟩ = some (.int .u8 xj) ∧
          ((bcells Z).set i (.int .u8 xj)).set j (.int .u8 xi) = bcells Z2 ∧ Half T Z2 (i + 1) :=
        ⟨_, _, _, ci, cj, bcells_swap Z i j (by omega) (by omega), hH.out.step hij (by have := hq.out; have := HL.out; omega) (by omega) (by omega)⟩
      have HZ2 := Lib.hid hz2
      have HST := Lib.hid hst
      clear hz2 hst hZl ci cj
      go_wp2
      go_region
      go_wp2
      have hrow := ((hZ.stored i (.int .u8 xj)).1.stored j (.int .u8 xi)).1
      rw [HZ2.out] at hrow
      go_roundw
      case rel => exact ⟨i + 1, (j : Int) - 1, Z2, by have := hq.out; omega, by go_num, rfl, by show _ = _; have := hq.out; omega, hrow, HST.out, ((hO.set i _).set j _).drew⟩
      case measure => simp [intOf] <;> omega
    · have hz := hH.out.done (by have := hq.out; have := HL.out; omega)
      rw [hz] at hZ
      clear hz
      go_wp2
      go_end0
      exact ⟨rfl, hZ, hO⟩

theorem string_of_row {w : World} {A : Option Addr} {n c base : Nat} {l : List UInt8} (h : w.ownsRow base 5 1 (.slice A n c) n (bcells l)) (h0 : 0 < n) :
    (convert 69 9 (.slice A n c)).run Tryd.prog w = .ok (.string ⟨l.toArray⟩) w := by
  have hl := h.1
  rw [bcells_length, Nat.mul_one] at hl
  subst hl
  rcases h.2 with ⟨_, e0⟩ | ⟨g, cap, cur, e, _⟩
  · omega
  · injection e with e _ _
    subst e
    refine run_convert_bytes_back w 69 9 5 ⟨g, 0, none⟩ c l Tryd.underlying69 Tryd.underlying5 Tryd.underlying9 fun j hj => ?_
    exact h.cells (g := g) rfl j _ (bcells_get l j hj)

set_option maxHeartbeats 1000000 in
theorem format_any (A : Option Addr) (n c : Nat) (L : List Int) (w : World) (N : Nat) (hr : Rd w A n c L) (hn : n ≤ 1000000) (hN : val L = (N : Int)) :
    Calls Tryd.prog 26 #[.slice A n c] w fun e w' => e = .returned (.string ⟨(revDig N).reverse.toArray⟩) ∧ Below w.heap.size w w' := by
  obtain ⟨i0, hi, hz0, hz1, hz2⟩ := info_parts info_byte
  have hlen : (revDig N).length ≤ 10 * n + 1 := revDig_limbs (by have := val_lt hr.lims; rw [hr.len] at this; exact this) hN
  go_enter Tryd.func26, Tryd.ntmps26
  go_wp2_with fail
  go_step3
  go_wp2_with fail
  refine (trim_any A n c L w hr hn).mono ?_
  rintro e w1 ⟨A1, n1, c1, L1, rfl, hM1, hI1, hB1⟩
  have hn1 := hM1.rd.cap
  rw [hN] at hI1
  have HI1 := Lib.hid hI1
  have HN := Lib.hid hN
  clear hI1 hN
  go_wp2
  go_step3
  go_wp2
  go_loopg [3, 4] N (fun k sv tv wr => ∃ (A2 : Option Addr) (n2 c2 : Nat) (S : List Int) (T : List UInt8), sv = .slice A2 n2 c2 ∧ Mine wr w.heap.size A2 n2 c2 S ∧ Hid (val S = (k : Int)) ∧
      wr.ownsRow w.heap.size 5 1 tv T.length (bcells T) ∧ Hid (revDig N = T ++ revDig k) ∧ Below w.heap.size w wr)
  case atStart => exact ⟨_, _, _, _, [], rfl, hM1, HI1.out.eq, World.ownsRow_nil _ _ _ _, rfl, hB1⟩
  case round =>
    obtain ⟨A2, n2, c2, S, T, rfl, hS, hV, hT, hD, hB⟩ := hrel
    clear hM1 hB1 HI1
    go_wp2_with fail
    refine (divideByLimb_any A2 n2 c2 w.heap.size S wr 1000000000 hS (by omega) (by omega)).mono ?_
    rintro e w2 ⟨S2, r, rfl, hS2, hV2, ⟨r0, r1⟩, hO⟩
    have hT2 := row_only hT hO hS.row (by decide)
    have hB2 := hB.trans (hO.below fun a ha => (hS.lt a ha).1)
    go_wp2_with fail
    refine (strip_any _ _ _ _ _ hS2.rd).mono ?_
    rintro e w' ⟨A3, n3, c3, rfl, hS3, rfl⟩
    have hM3 := hS3.mine hS2
    have hI3 := Is.mk_trim hS2.lims
    obtain ⟨R, hR⟩ := Int.eq_ofNat_of_zero_le (val_nonneg hS2.lims)
    obtain ⟨G, rfl⟩ := Int.eq_ofNat_of_zero_le r0
    have hG : G < 1000000000 := by omega
    have hX : Hid (gk = G + 1000000000 * R) := by show _ = _; have := hV.out; omega
    have hn3 : n3 ≤ n3 + c3 := by omega
    have h3 := hM3.rd.cap
    have t3 := hM3.rd.top
    unfold maxLen at t3
    have hz3 : Hid (n3 = 0 ↔ R = 0) := by
      show _ ↔ _
      have hl := hM3.len
      rw [hR] at hI3
      constructor
      · intro h
        have e : trim S2 = [] := List.eq_nil_of_length_eq_zero (by omega)
        rw [e] at hI3
        have := hI3.eq_of_nil
        omega
      · intro h
        have e : trim S2 = [] := trim_of_zero hS2.lims (by omega)
        rw [e] at hl
        exact hl.symm
    have hD2 : Hid (revDig N = T ++ revDig (G + 10 ^ 9 * R)) := by
      show _ = _
      rw [hD.out, hX.out]
    have hR3 : Hid (val (trim S2) = (R : Int)) := by show _ = _; rw [val_trim, hR]
    clear hS2 hV2 hS3 hI3 hR hS r0 r1 hO hT hB
    go_wp2
    obtain ⟨wo, rfl⟩ : ∃ wo : World, wo = w2 := ⟨_, rfl⟩
    obtain ⟨K, hK⟩ : ∃ K, K = gk := ⟨_, rfl⟩
    rw [← hK] at hX
    have HK := Lib.hid hK
    clear hK
    go_loopg [4, 5, 12] 9 (fun k tv gv iv wr => ∃ (i G : Nat) (T : List UInt8), i ≤ 9 ∧ Hid (i + k = 9) ∧ iv = .int .i64 i ∧ gv = .int .u32 G ∧ G < 1000000000 ∧ Hid (G < 10 ^ k) ∧ Mine wr w.heap.size A3 n3 c3 (trim S2) ∧
        wr.ownsRow w.heap.size 5 1 tv T.length (bcells T) ∧ Hid (revDig N = T ++ revDig (G + 10 ^ k * R)) ∧ Hid (0 < i → 0 < G + 10 ^ k * R) ∧ Below w.heap.size w wr)
    case atStart => exact ⟨0, G, T, by omega, rfl, rfl, rfl, hG, by show _ < _; omega, hM3, hT2, hD2, fun h => absurd h (by omega), hB2⟩
    case round =>
      obtain ⟨i, G', T', hi9, hik, rfl, rfl, hG', hGk, hM', hT', hD', hpos, hB'⟩ := hrel
      by_cases h9 : i < 9
      · obtain ⟨k, hk⟩ : ∃ k, gk = k + 1 := ⟨gk - 1, by have := hik.out; omega⟩
        subst hk
        obtain ⟨e1, e2, e3⟩ := group_step (X := G' + 10 ^ (k + 1) * R) rfl hGk.out
        have hTl : T'.length < 10000001 := by
          have h1 := congrArg List.length hD'.out
          rw [List.length_append] at h1
          have h2 : 0 < (revDig (G' + 10 ^ (k + 1) * R)).length := by rw [revDig]; simp
          omega
        have hdig : Hid (bcells (T' ++ [UInt8.ofNat (48 + G' % 10)]) = bcells T' ++ [.int .u8 (48 + (G' : Int) % 10)]) := by
          show _ = _
          rw [bcells_snoc, digit_byte]
        have E1 := Lib.hid e1
        have E2 := Lib.hid e2
        have E3 := Lib.hid e3
        have hap := rows_apart hT' hM'.row (by decide)
        clear e1 e2 e3
        have HTl := Lib.hid hTl
        have hbelow := hB'.size
        by_cases hG0 : G' / 10 = 0
        · have hb : (((G' : Int) / 10) == 0) = true := by simp; omega
          by_cases hn0 : n3 = 0
          · have hR0 := hz3.out.1 hn0
            subst hn0
            have HG0 := Lib.hid hG0
            clear hG0
            go_wp2_with (at_builtin; refine wpList_append_own _ rfl _ _ 69 rfl w.heap.size 5 i0 (.int .u8 0) 1 1 Tryd.underlying69 hi hz0 hz1 hz2 rfl (by decide) _ _ _ rfl (hT'.alloc _) ⟨wr.heap.size, 0, none⟩ 1 1 [.int .u8 (48 + (G' : Int) % 10)] rfl rfl (one_new _ _ _) (one_cell _ rfl) (room_one HTl.out) (room_one' HTl.out) (le_alloc hbelow _) ?_)
            intro v' w3 hown' hgrow _
            rw [← hdig.out] at hown'
            have hM4 := (hM'.alloc (.cells #[.int .u8 (48 + (G' : Int) % 10)] 5)).grown (hT'.alloc _) (by decide) hgrow
            have hB4 := grown_below (hB'.alloc hbelow (.cells #[.int .u8 (48 + (G' : Int) % 10)] 5)) (hT'.alloc _) hgrow (by simp; omega) (Nat.le_refl _)
            clear hgrow
            obtain ⟨A5, c5, hv5⟩ := row_form hown'
            subst hv5
            have hTT : Hid ((T' ++ [UInt8.ofNat (48 + G' % 10)]).reverse = (revDig N).reverse) := by
              show _ = _
              rw [hD'.out, revDig_small (n := G' + 10 ^ (k + 1) * R) (by have := E2.out; have h0 := HG0.out; rw [hR0] at this ⊢; omega), E1.out]
            have hlast : T'.length + 1 ≤ 100000000 := by have := HTl.out; omega
            have HLast := Lib.hid hlast
            clear hlast
            go_wp2_with fail
            refine (reverse_any A5 (T'.length + 1) c5 w.heap.size _ w3 hown' HLast.out).mono ?_
            rintro e w5 ⟨rfl, hr5, hO5⟩
            rw [hTT.out] at hr5
            have hcv := string_of_row hr5 (by omega)
            have hB5 := hB4.trans (hO5.below fun a ha => by subst ha; exact (hown'.lt a.block rfl).1)
            clear hr5 hO5 hown' hM4 hB4
            go_wp2
            rw [Exit.noGoto_ret]
            go_ret
            exact ⟨rfl, hB5⟩
          · have hXX : Hid (10 ≤ G' + 10 ^ (k + 1) * R) := by
              show _ ≤ _
              have h1 : R ≠ 0 := fun h => hn0 (hz3.out.2 h)
              have h2 := E2.out
              have h3 : 0 < 10 ^ k * R := Nat.mul_pos (Nat.pow_pos (by decide)) (by omega)
              omega
            have hb2 : ((n3 : Int) == 0) = false := by simp; omega
            clear hG0
            go_wp2_with (at_builtin; refine wpList_append_own _ rfl _ _ 69 rfl w.heap.size 5 i0 (.int .u8 0) 1 1 Tryd.underlying69 hi hz0 hz1 hz2 rfl (by decide) _ _ _ rfl (hT'.alloc _) ⟨wr.heap.size, 0, none⟩ 1 1 [.int .u8 (48 + (G' : Int) % 10)] rfl rfl (one_new _ _ _) (one_cell _ rfl) (room_one HTl.out) (room_one' HTl.out) (le_alloc hbelow _) ?_)
            intro v' w3 hown' hgrow _
            rw [← hdig.out] at hown'
            have hlen' : T'.length + 1 = (T' ++ [UInt8.ofNat (48 + G' % 10)]).length := by simp
            rw [hlen'] at hown'
            have hM4 := (hM'.alloc (.cells #[.int .u8 (48 + (G' : Int) % 10)] 5)).grown (hT'.alloc _) (by decide) hgrow
            have hB4 := grown_below (hB'.alloc hbelow (.cells #[.int .u8 (48 + (G' : Int) % 10)] 5)) (hT'.alloc _) hgrow (by simp; omega) (Nat.le_refl _)
            clear hgrow hlen'
            go_wp2
            go_roundg k
            case measure => omega
            case rel =>
              refine ⟨i + 1, G' / 10, _, by omega, by show _ = _; have := hik.out; omega, by go_num, by go_num, by omega, E3.out, hM4, hown', ?_, ?_, hB4⟩
              · show _ = _
                rw [hD'.out, revDig_big hXX.out, ← E2.out, E1.out, List.append_assoc]; rfl
              · intro _
                rw [← E2.out]; have := hXX.out; omega
        · have hb : (((G' : Int) / 10) == 0) = false := by simp; omega
          have hXX : Hid (10 ≤ G' + 10 ^ (k + 1) * R) := by
            show _ ≤ _
            omega
          clear hG0
          go_wp2_with (at_builtin; refine wpList_append_own _ rfl _ _ 69 rfl w.heap.size 5 i0 (.int .u8 0) 1 1 Tryd.underlying69 hi hz0 hz1 hz2 rfl (by decide) _ _ _ rfl (hT'.alloc _) ⟨wr.heap.size, 0, none⟩ 1 1 [.int .u8 (48 + (G' : Int) % 10)] rfl rfl (one_new _ _ _) (one_cell _ rfl) (room_one HTl.out) (room_one' HTl.out) (le_alloc hbelow _) ?_)
          intro v' w3 hown' hgrow _
          rw [← hdig.out] at hown'
          have hlen' : T'.length + 1 = (T' ++ [UInt8.ofNat (48 + G' % 10)]).length := by simp
          rw [hlen'] at hown'
          have hM4 := (hM'.alloc (.cells #[.int .u8 (48 + (G' : Int) % 10)] 5)).grown (hT'.alloc _) (by decide) hgrow
          have hB4 := grown_below (hB'.alloc hbelow (.cells #[.int .u8 (48 + (G' : Int) % 10)] 5)) (hT'.alloc _) hgrow (by simp; omega) (Nat.le_refl _)
          clear hgrow hlen'
          go_wp2
          go_roundg k
          case measure => omega
          case rel =>
            refine ⟨i + 1, G' / 10, _, by omega, by show _ = _; have := hik.out; omega, by go_num, by go_num, by omega, E3.out, hM4, hown', ?_, ?_, hB4⟩
            · show _ = _
              rw [hD'.out, revDig_big hXX.out, ← E2.out, E1.out, List.append_assoc]; rfl
            · intro _
              rw [← E2.out]; have := hXX.out; omega
      · obtain rfl : i = 9 := by omega
        have hk0 : gk = 0 := by have := hik.out; omega
        subst hk0
        have hg0 : G' = 0 := by have := hGk.out; omega
        subst hg0
        have hR0 : 0 < R := by have := hpos.out (by omega); omega
        go_wp2
        go_roundg R
        case measure => have := hX.out; have := HK.out; omega
        case rel => exact ⟨_, _, _, _, T', rfl, hM', hR3.out, hT', by show _ = _; rw [hD'.out]; congr 2; omega, hB'⟩

end Go.Proofs.YtdimajnadmkhiaaDoor
