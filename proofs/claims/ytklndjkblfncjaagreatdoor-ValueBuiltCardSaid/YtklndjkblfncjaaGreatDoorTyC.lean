/-
  types.appendCells and types.Cells on valid types: as many cells as the width says.
-/
import Derived.Test.YtklndjkblfncjaaGreatDoorKp
import Derived.Test.YtklndjkblfncjaaGreatDoorMk7
namespace Go.Proofs.YtklndjkblfncjaaGreatDoor
open Go Go.RowKit
set_option maxRecDepth 20000

/-- The call's own row of n cells of types, whatever they hold. -/
def CsAny (w : World) (Q : Option Addr) (n q : Nat) : Prop := ∃ l, w.ownsRow 0 76 3 (.slice Q n q) n l
theorem CsAny.below {w w' : World} {Q : Option Addr} {n q : Nat} (h : CsAny w Q n q) (hb : Below w.heap.size w w') : CsAny w' Q n q := by
  obtain ⟨l, h⟩ := h
  exact ⟨l, row_keep h fun a ha => hb.block _ (row_lt h a ha).2⟩
theorem CsAny.lt {w : World} {Q : Option Addr} {n q : Nat} (h : CsAny w Q n q) : ∀ a, Q = some a → a.block < w.heap.size := fun a ha => by
  obtain ⟨l, h⟩ := h
  exact (row_lt h a ha).2
def GivesAny (n : Nat) (Q : Option Addr) (w : World) (e : Ending) (w' : World) : Prop := ∃ Q' q', e = .returned (.slice Q' n q') ∧ CsAny w' Q' n q' ∧ Since w Q Q' ∧ Kp Q w w'
def TCellsAt (d : Nat) : Prop := ∀ (S : Nat → Prop) (T : Ty) (A : Option Addr) (n c : Nat) (Q : Option Addr) (nq qq : Nat) (w : World),
  TyRd S w d T A n c → TyOk d T → (∀ b, S b → offA Q b) → CsAny w Q nq qq → nq + twidth d T ≤ 1000 →
  Calls Tryz.prog 49 #[.slice Q nq qq, tyV T A n c] w (GivesAny (nq + twidth d T) Q w)

set_option maxHeartbeats 16000000 in
theorem tcells_x : ∀ d, TCellsAt d
  | 0, _, _, _, _, _, _, _, _, _, h, _, _, _, _ => h.elim
  | d + 1, S, T, A, n, c, Q, nq, qq, w, h, hok, hSQ, hO, hlen => by
    have IH := tcells_x d
    obtain ⟨i0, hi, hy0, hy1, hy2⟩ := info_parts info_cell
    obtain ⟨hl, hcap, htop⟩ := h.len
    unfold maxLen at htop
    obtain ⟨v, hv⟩ : ∃ v, w.alloc (.cells #[.int .i64 T.k, .int .i64 T.lo, .int .i64 T.hi, .int .i64 T.mx, .slice A n c] 24) = v := ⟨_, rfl⟩
    obtain ⟨hvs, hwv, hbx⟩ := box_t w _ _ _ _ _ _ v hv
    have hQ0 : offA Q w.heap.size := fun a ha => by have := hO.lt a ha; omega
    have HBX : Hid (∀ W, Kp Q v W → Box5 W w.heap.size (.int .i64 T.k) (.int .i64 T.lo) (.int .i64 T.hi) (.int .i64 T.mx) (.slice A n c)) := fun W hW => (hbx v (Below.refl _ _)).keep' (hW.block _ (by omega) hQ0)
    have HT : Hid (∀ W, Kp Q v W → TyRd (fun b => S b ∧ b < v.heap.size) W (d + 1) T A n c) := fun W hW => (h.below hwv).bound.kp hW fun b hb => hSQ b hb.1
    have HVV := Lib.hid hv
    have HWV := Lib.hid hwv
    have HVS := Lib.hid hvs
    have HSQ := Lib.hid hSQ
    have HI := Lib.hid IH
    have HQ0 := Lib.hid hQ0
    have HOV := Lib.hid (hO.below hwv)
    have HOW := Lib.hid hO
    have hdw := h.deep
    clear hv hbx hvs IH h hO hSQ hQ0
    by_cases k5 : T.k = 5
    · have b5 : (T.k == 5) = true := by simpa using k5
      obtain ⟨hz, hn2, hn4, hels⟩ := hok.tuple k5
      obtain ⟨Z, hZ⟩ : ∃ Z, T.es.map (twidth d) = Z := ⟨_, rfl⟩
      have HF0 : Hid (twidth (d + 1) T = Z.sum) := by show _ = _; simp only [twidth, if_pos k5]; rw [hZ]
      have HIE : Hid (∀ i e, T.es[i]? = some e → ((Z.take (i + 1)).sum = (Z.take i).sum + twidth d e ∧ nq + (Z.take i).sum + twidth d e ≤ 1000) ∧ TyOk d e) := by
        intro i e he
        have h1 : Z[i]? = some (twidth d e) := by rw [← hZ, List.getElem?_map, he]; rfl
        have h2 := sum_next h1
        have h3 := sum_take_le Z (i + 1)
        rw [HF0.out] at hlen
        exact ⟨⟨h2, by omega⟩, (hels e (List.mem_of_getElem? he)).1⟩
      have HZN : Hid (Z.length = n) := by show _ = _; rw [← hZ, List.length_map, hl]
      clear hok k5 hl hlen hels hz hZ hn2 hn4 hwv hdw
      go_enter Tryz.func49, Tryz.ntmps49
      go_wp2
      rw [HVV.out]
      go_loopw [0, 18] (fun lv iv wr => ∃ (i s : Nat) (Qi : Option Addr) (qi : Nat), i ≤ n ∧ iv = .int .i64 i ∧ lv = .slice Qi s qi ∧ Hid (s = nq + (Z.take i).sum ∧ CsAny wr Qi s qi ∧ Since v Q Qi ∧ Kp Q v wr)) (fun _ iv _ => n - (intOf iv).toNat)
      case atStart => exact ⟨0, nq, Q, qq, Nat.zero_le _, rfl, rfl, by simp, HOV.out, Since.refl _ _, Kp.refl _ _⟩
      case round =>
        obtain ⟨i, s, Qi, qi, hi', rfl, rfl, REL⟩ := hrel
        by_cases hlt : i < n
        · obtain ⟨e, ge, oe, Ae, ne, ce, he, rfl, hSe, hge, hce, hre⟩ := (HT.out wr REL.out.2.2.2).get hlt
          obtain ⟨⟨hsn, hli⟩, hoe⟩ := HIE.out i e he
          have hgi : ∀ b, (S b ∧ b < v.heap.size) → offA Qi b := fun b hb => REL.out.2.2.1.off (HSQ.out b hb.1) hb.2
          have hb1 := allocB wr (.cells #[.int .i64 e.k, .int .i64 e.lo, .int .i64 e.hi, .int .i64 e.mx, .slice Ae ne ce] 24)
          have HB1 := Lib.hid hb1
          have HF := Lib.hid (HI.out _ e Ae ne ce Qi s qi _ (hre.below hb1) hoe hgi (REL.out.2.1.below hb1) (by rw [REL.out.1]; omega))
          have HSN : Hid (s + twidth d e = nq + (Z.take (i + 1)).sum) := by show _ = _; rw [hsn, REL.out.1]; omega
          obtain ⟨x, hx⟩ : ∃ x, twidth d e = x := ⟨_, rfl⟩
          rw [hx] at HF HSN
          obtain ⟨c0, c1, c2, c3, c4⟩ := hce
          obtain ⟨p0, p1, p2, p3, p4⟩ := HBX.out wr REL.out.2.2.2
          clear he hSe hge hre hoe hgi hb1 hx hsn hli
          go_wp2_with fail
          refine HF.out.mono ?_
          rintro e1 w1 ⟨Q1, k1, rfl, hO1, hS1, hK1⟩
          have HREL : Hid (s + x = nq + (Z.take (i + 1)).sum ∧ CsAny w1 Q1 (s + x) k1 ∧ Since v Q Q1 ∧ Kp Q v w1) := ⟨HSN.out, hO1, REL.out.2.2.1.trans hS1 (Nat.le_trans REL.out.2.2.2.size HB1.out.size), (REL.out.2.2.2.trans (Kp.of_below HB1.out) (Since.refl _ _)).trans hK1 REL.out.2.2.1⟩
          clear hO1 hS1 hK1 HF HSN HB1 c0 c1 c2 c3 c4 p0 p1 p2 p3 p4
          go_wp2
          go_roundw
          case rel => exact ⟨i + 1, _, _, _, by omega, by go_num, rfl, HREL⟩
          case measure => simp [intOf] <;> omega
        · obtain rfl : i = n := by omega
          have hfull : (Z.take i).sum = Z.sum := by rw [List.take_of_length_le (by rw [HZN.out]; exact Nat.le_refl _)]
          rw [hfull, ← HF0.out] at REL
          have hs := REL.out.1
          subst hs
          clear hfull
          go_wp2
          go_ret
          exact ⟨_, _, rfl, REL.out.2.1, fun a ha => (REL.out.2.2.1 a ha).imp id fun h => Nat.le_trans HWV.out.size h, (Kp.of_below HWV.out).trans REL.out.2.2.2 (Since.refl _ _)⟩
    · have b5 : (T.k == 5) = false := by simpa using k5
      by_cases k6 : T.k = 6
      · have b6 : (T.k == 6) = true := by simpa using k6
        obtain ⟨hz, hm1, hm4, x, hx, hox, hkx⟩ := hok.list k6
        obtain rfl : n = 1 := by rw [← hl, hx]; rfl
        obtain ⟨k, hk⟩ := Int.eq_ofNat_of_zero_le (show 0 ≤ T.mx by omega)
        have hwx : twidth d x = 1 := by
          have hdx := hdw x (by rw [hx]; exact List.mem_singleton.2 rfl)
          cases d with
          | zero => exact hdx.elim
          | succ d => exact (tparts_leaf hkx).2
        have HF0 : Hid (twidth (d + 1) T = 1 + k) := by
          show _ = _
          simp only [twidth, if_neg k5, if_pos k6, hx, List.map_cons, List.headD_cons, hwx, hk]
          simp
        have hnq : nq + 1 + k ≤ 1000 := by rw [HF0.out] at hlen; omega
        have HX := Lib.hid hx
        have HOX := Lib.hid hox
        have HWX := Lib.hid hwx
        have HOU : Hid (CsAny ((w.alloc (.cells #[.int .i64 T.k, .int .i64 T.lo, .int .i64 T.hi, .int .i64 T.mx, .slice A 1 c] 24)).alloc (.cells #[.int .i64 2, .int .i64 0, .int .i64 T.mx] 76)) Q nq qq ∧ Kp Q v ((w.alloc (.cells #[.int .i64 T.k, .int .i64 T.lo, .int .i64 T.hi, .int .i64 T.mx, .slice A 1 c] 24)).alloc (.cells #[.int .i64 2, .int .i64 0, .int .i64 T.mx] 76))) := by
          rw [HVV.out]
          exact ⟨HOV.out.below (allocB _ _), Kp.of_below (allocB _ _)⟩
        have hnews : ∀ j y, (csRow [(2, 0, T.mx)])[j]? = some y → ((w.alloc (.cells #[.int .i64 T.k, .int .i64 T.lo, .int .i64 T.hi, .int .i64 T.mx, .slice A 1 c] 24)).alloc (.cells #[.int .i64 2, .int .i64 0, .int .i64 T.mx] 76)).cell? ((⟨w.heap.size + 1, 0, none⟩ : Addr).add j) = some y := by
          rw [HVV.out, ← HVS.out]
          exact fun j y hy => World.news_of_block (heap_alloc_new _ _) j y (by simpa [csRow, csCells] using hy)
        have HNW := Lib.hid hnews
        have hk4 : k ≤ 4 := by omega
        have HKK := Lib.hid hk
        obtain ⟨l0, hl0⟩ := HOU.out.1
        have HL0 := Lib.hid hl0
        clear hok k5 k6 hl hlen hz hx hox hkx hnews hk hwx hl0 hdw hwv hm1 hm4
        go_enter Tryz.func49, Tryz.ntmps49
        go_wp2_with (at_builtin; refine wpList_append_lies _ rfl _ _ 60 rfl 0 76 i0 (.agg #[.int .i64 0, .int .i64 0, .int .i64 0]) 3 24 Tryz.underlying60 hi hy0 hy1 hy2 rfl (by decide) (.slice Q nq qq) nq l0 rfl HL0.out ⟨w.heap.size + 1, 0, none⟩ 1 1 (csRow [(2, 0, T.mx)]) rfl rfl HNW.out (cs_oneCell _) (by decide) (by unfold maxLen; omega) (by omega) (Nat.zero_le _) _ rfl ?_)
        intro g3 c3 w3 hown hgrow hat hlt3
        have HREL0 : Hid (CsAny w3 (some ⟨g3, 0, none⟩) (nq + 1) c3 ∧ Since v Q (some ⟨g3, 0, none⟩) ∧ Kp Q v w3) :=
          ⟨⟨_, hown⟩, (Since.refl v Q).trans (since_at (by rw [World.size_alloc, World.size_alloc]; exact hat)) HOU.out.2.size, HOU.out.2.trans (Kp.of_grown hgrow) (Since.refl _ _)⟩
        clear hown hgrow hat HOU HNW HL0
        obtain ⟨p0, p1, p2, p3, p4⟩ := HBX.out w3 HREL0.out.2.2
        rw [HKK.out] at p3
        go_wp2
        clear p0 p1 p2 p3 p4
        go_loopw [0, 34] (fun lv iv wr => ∃ (i : Nat) (Qi : Option Addr) (qi : Nat), i ≤ k ∧ iv = .int .i64 i ∧ lv = .slice Qi (nq + 1 + i) qi ∧ Hid (CsAny wr Qi (nq + 1 + i) qi ∧ Since v Q Qi ∧ Kp Q v wr)) (fun _ iv _ => k - (intOf iv).toNat)
        case atStart => exact ⟨0, _, _, Nat.zero_le _, rfl, rfl, HREL0.out⟩
        case round =>
          obtain ⟨i, Qi, qi, hi', rfl, rfl, REL⟩ := hrel
          clear HREL0
          by_cases hlt : i < k
          · obtain ⟨e, ge, oe, Ae, ne, ce, he, rfl, hSe, hge, hce, hre⟩ := (HT.out wr REL.out.2.2).get (i := 0) (by omega)
            obtain rfl : e = x := by rw [HX.out] at he; simpa using he.symm
            have hgi : ∀ b, (S b ∧ b < v.heap.size) → offA Qi b := fun b hb => REL.out.2.1.off (HSQ.out b hb.1) hb.2
            have hF := HI.out _ e Ae ne ce Qi (nq + 1 + i) qi wr hre HOX.out hgi REL.out.1 (by rw [HWX.out]; omega)
            rw [HWX.out] at hF
            have HF := Lib.hid hF
            obtain ⟨c0, c1, c2, c3, c4⟩ := hce
            simp only [Nat.zero_mul, Nat.add_zero] at c0 c1 c2 c3 c4
            obtain ⟨p0, p1, p2, p3, p4⟩ := HBX.out wr REL.out.2.2
            clear he hSe hge hre hgi hF
            go_wp2_with fail
            refine HF.out.mono ?_
            rintro e1 w1 ⟨Q1, k1, rfl, hO1, hS1, hK1⟩
            have HREL : Hid (CsAny w1 Q1 (nq + 1 + (i + 1)) k1 ∧ Since v Q Q1 ∧ Kp Q v w1) := ⟨hO1, REL.out.2.1.trans hS1 REL.out.2.2.size, REL.out.2.2.trans hK1 REL.out.2.1⟩
            clear hO1 hS1 hK1 HF c0 c1 c2 c3 c4 p0 p1 p2 p3 p4
            go_wp2
            go_roundw
            case rel => exact ⟨i + 1, _, _, by omega, by go_num, rfl, HREL⟩
            case measure => simp [intOf] <;> omega
          · obtain rfl : i = k := by omega
            have he : nq + 1 + i = nq + twidth (d + 1) T := by rw [HF0.out]; omega
            rw [he] at REL ⊢
            clear he
            go_wp2
            go_ret
            exact ⟨_, _, rfl, REL.out.1, fun a ha => (REL.out.2.1 a ha).imp id fun h => Nat.le_trans HWV.out.size h, (Kp.of_below HWV.out).trans REL.out.2.2 (Since.refl _ _)⟩
      · have b6 : (T.k == 6) = false := by simpa using k6
        have HF0 : Hid (twidth (d + 1) T = 1) := by show _ = _; simp only [twidth, if_neg k5, if_neg k6]
        have hnq : nq + 1 ≤ 1000 := by rw [HF0.out] at hlen; omega
        have key : ∀ (hi2 : Int) (w0 w1 : World), Below v.heap.size v w1 → Calls Tryz.prog 64 #[.agg #[.int .i64 T.k, .int .i64 T.lo, .int .i64 hi2, .int .i64 T.mx, .slice A n c]] w1 fun e w' => e = .returned (.agg #[.int .i64 T.k, .int .i64 T.lo, .int .i64 hi2]) ∧ Below w1.heap.size w1 w' := fun hi2 _ w1 _ => cell_x T.k T.lo hi2 T.mx A n c w1
        have HO1 : Hid (∀ (x : Int × Int × Int) (w0 : World), Below w.heap.size w w0 → w.heap.size + 1 ≤ w0.heap.size → CsAny (w0.alloc (.cells #[.int .i64 x.1, .int .i64 x.2.1, .int .i64 x.2.2] 76)) Q nq qq ∧ Kp Q w (w0.alloc (.cells #[.int .i64 x.1, .int .i64 x.2.1, .int .i64 x.2.2] 76)) ∧ ∀ j y, (csRow [x])[j]? = some y → (w0.alloc (.cells #[.int .i64 x.1, .int .i64 x.2.1, .int .i64 x.2.2] 76)).cell? ((⟨w0.heap.size, 0, none⟩ : Addr).add j) = some y) := by
          intro x w0 hb hs
          exact ⟨(HOW.out.below hb).below (allocB _ _), Kp.of_below (nextB hb (allocB _ _)), fun j y hy => World.news_of_block (heap_alloc_new _ _) j y (by simpa [csRow, csCells] using hy)⟩
        clear hok hl hlen hdw HT HI HSQ HQ0 key HBX hwv
        by_cases k1 : T.k = 1
        · have b1 : (T.k == 1) = true := by simpa using k1
          clear k1 k5 k6
          go_enter Tryz.func49, Tryz.ntmps49
          go_wp2_with fail
          refine (cell_x _ _ _ _ _ _ _ _).mono ?_
          rintro e1 w0 ⟨rfl, hb⟩
          have hb2 : Below w.heap.size w w0 := nextB (allocB _ _) hb
          have hs2 : w.heap.size + 1 ≤ w0.heap.size := by have := hb.size; rw [World.size_alloc] at this; exact this
          obtain ⟨⟨l0, hl0⟩, hkp, hnw⟩ := HO1.out (T.k, T.lo, 1) w0 hb2 hs2
          have HL0 := Lib.hid hl0
          have HKP := Lib.hid hkp
          have HNW := Lib.hid hnw
          clear hb hb2 hl0 hkp hnw HO1
          go_wp2_with (at_builtin; refine wpList_append_lies _ rfl _ _ 60 rfl 0 76 i0 (.agg #[.int .i64 0, .int .i64 0, .int .i64 0]) 3 24 Tryz.underlying60 hi hy0 hy1 hy2 rfl (by decide) (.slice Q nq qq) nq l0 rfl HL0.out ⟨w0.heap.size, 0, none⟩ 1 1 (csRow [(T.k, T.lo, 1)]) rfl rfl HNW.out (cs_oneCell _) (by decide) (by unfold maxLen; omega) (by omega) (Nat.zero_le _) _ rfl ?_)
          intro g3 c3 w3 hown hgrow hat hlt3
          have HREL : Hid (CsAny w3 (some ⟨g3, 0, none⟩) (nq + 1) c3 ∧ Since w Q (some ⟨g3, 0, none⟩) ∧ Kp Q w w3) :=
            ⟨⟨_, hown⟩, (Since.refl w Q).trans (since_at (by rw [World.size_alloc]; exact hat)) HKP.out.size, HKP.out.trans (Kp.of_grown hgrow) (Since.refl _ _)⟩
          clear hown hgrow hat HL0 HKP HNW
          go_wp2
          go_ret
          exact ⟨_, _, by rw [HF0.out]; rfl, by rw [HF0.out]; exact HREL.out.1, HREL.out.2.1, HREL.out.2.2⟩
        · have b1 : (T.k == 1) = false := by simpa using k1
          clear k1 k5 k6
          go_enter Tryz.func49, Tryz.ntmps49
          go_wp2_with fail
          refine (cell_x _ _ _ _ _ _ _ _).mono ?_
          rintro e1 w0 ⟨rfl, hb⟩
          have hb2 : Below w.heap.size w w0 := nextB (allocB _ _) hb
          have hs2 : w.heap.size + 1 ≤ w0.heap.size := by have := hb.size; rw [World.size_alloc] at this; exact this
          obtain ⟨⟨l0, hl0⟩, hkp, hnw⟩ := HO1.out (T.k, T.lo, T.hi) w0 hb2 hs2
          have HL0 := Lib.hid hl0
          have HKP := Lib.hid hkp
          have HNW := Lib.hid hnw
          clear hb hb2 hl0 hkp hnw HO1
          go_wp2_with (at_builtin; refine wpList_append_lies _ rfl _ _ 60 rfl 0 76 i0 (.agg #[.int .i64 0, .int .i64 0, .int .i64 0]) 3 24 Tryz.underlying60 hi hy0 hy1 hy2 rfl (by decide) (.slice Q nq qq) nq l0 rfl HL0.out ⟨w0.heap.size, 0, none⟩ 1 1 (csRow [(T.k, T.lo, T.hi)]) rfl rfl HNW.out (cs_oneCell _) (by decide) (by unfold maxLen; omega) (by omega) (Nat.zero_le _) _ rfl ?_)
          intro g3 c3 w3 hown hgrow hat hlt3
          have HREL : Hid (CsAny w3 (some ⟨g3, 0, none⟩) (nq + 1) c3 ∧ Since w Q (some ⟨g3, 0, none⟩) ∧ Kp Q w w3) :=
            ⟨⟨_, hown⟩, (Since.refl w Q).trans (since_at (by rw [World.size_alloc]; exact hat)) HKP.out.size, HKP.out.trans (Kp.of_grown hgrow) (Since.refl _ _)⟩
          clear hown hgrow hat HL0 HKP HNW
          go_wp2
          go_ret
          exact ⟨_, _, by rw [HF0.out]; rfl, by rw [HF0.out]; exact HREL.out.1, HREL.out.2.1, HREL.out.2.2⟩

def GivesKinds (n : Nat) (w : World) (e : Ending) (w' : World) : Prop := ∃ Q q, e = .returned (.tuple #[.slice Q n q, .int .i64 0]) ∧ Below w.heap.size w w'
set_option maxHeartbeats 4000000 in
theorem Cells_x (S : Nat → Prop) (d : Nat) (T : Ty) (A : Option Addr) (n c : Nat) (w : World) (h : TyRd S w d T A n c) (hg : Good d T) :
    Calls Tryz.prog 34 #[tyV T A n c] w (GivesKinds (twidth d T) w) := by
  obtain ⟨v, hv⟩ : ∃ v, w.alloc (.cells #[.int .i64 T.k, .int .i64 T.lo, .int .i64 T.hi, .int .i64 T.mx, .slice A n c] 24) = v := ⟨_, rfl⟩
  obtain ⟨hvs, hwv, hbx⟩ := box_t w _ _ _ _ _ _ v hv
  have HBX := Lib.hid hbx
  have HVV := Lib.hid hv
  have HWV := Lib.hid hwv
  have HF := Lib.hid (validate_x S d T A n c v (h.below hwv) hg)
  have HC : Hid (∀ W, Below v.heap.size v W → Calls Tryz.prog 49 #[.slice none 0 0, tyV T A n c] W (GivesAny (0 + twidth d T) none W)) := fun W hW =>
    tcells_x d S T A n c none 0 0 W (h.below (nextB hwv hW)) hg.ok (fun b _ a ha => by cases ha) ⟨[], World.ownsRow_nil _ _ _ _⟩ (by have := hg.wide; omega)
  clear h hg hv hbx hwv hvs
  go_enter Tryz.func34, Tryz.ntmps34
  go_wp2_with fail
  rw [HVV.out]
  refine HF.out.mono ?_
  rintro e1 w1 ⟨rfl, hb⟩
  obtain ⟨p0, p1, p2, p3, p4⟩ := HBX.out w1 hb
  have hC1 := HC.out w1 hb
  rw [Nat.zero_add] at hC1
  have HC1 := Lib.hid hC1
  clear HF HC hC1
  generalize twidth d T = x at *
  go_wp2_with fail
  refine HC1.out.mono ?_
  rintro e2 w2 ⟨Q, qq, rfl, _, _, hK⟩
  have hB := nextB HWV.out (nextB hb (hK.below rfl))
  clear hb HC1 HBX p0 p1 p2 p3 p4 hK
  go_wp2
  go_ret2
  exact ⟨_, _, rfl, hB⟩
end Go.Proofs.YtklndjkblfncjaaGreatDoor
