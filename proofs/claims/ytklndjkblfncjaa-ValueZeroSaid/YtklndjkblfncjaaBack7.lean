/-
  exactppllaw07.ValueBack: the walk.
-/
import Derived.Test.YtklndjkblfncjaaAwk7
import Derived.Test.YtklndjkblfncjaaSome7
import Derived.Test.YtklndjkblfncjaaZerP
namespace Go.Proofs.Ytklndjkblfncjaa
open Go Go.RowKit
set_option maxRecDepth 20000

theorem Box5.keepB {w W : World} {b : Nat} {x0 x1 x2 x3 x4 : Value} (h : Box5 w b x0 x1 x2 x3 x4) (hb : W.heap[b]? = w.heap[b]?) : Box5 W b x0 x1 x2 x3 x4 := by
  have hc : ∀ j, W.cell? ⟨b, j, none⟩ = w.cell? ⟨b, j, none⟩ := fun j => World.cell?_of_block (w := w) (a := ⟨b, j, none⟩) hb
  obtain ⟨h0, h1, h2, h3, h4⟩ := h
  exact ⟨(hc 0).trans h0, (hc 1).trans h1, (hc 2).trans h2, (hc 3).trans h3, (hc 4).trans h4⟩

theorem csRow_get : ∀ (l : List (Int × Int × Int)) (i j : Nat) (p : Int × Int × Int), l[i]? = some p → j < 3 → (csRow l)[i * 3 + j]? = (csCells p)[j]?
  | [], _, _, _, h, _ => by simp at h
  | x :: l, 0, j, p, h, hj => by
    obtain rfl : x = p := by simpa using h
    show ((csCells x) ++ csRow l)[0 * 3 + j]? = _
    rw [List.getElem?_append_left (by show 0 * 3 + j < 3; omega), Nat.zero_mul, Nat.zero_add]
  | x :: l, i + 1, j, p, h, hj => by
    show ((csCells x) ++ csRow l)[(i + 1) * 3 + j]? = _
    rw [List.getElem?_append_right (by show 3 ≤ (i + 1) * 3 + j; omega)]
    have e : (i + 1) * 3 + j - (csCells x).length = i * 3 + j := by show (i + 1) * 3 + j - 3 = _; omega
    rw [e]
    exact csRow_get l i j p (by simpa using h) hj
theorem cells_at {w : World} {Q A : Option Addr} {n q c base : Nat} {l : List Int} {ps : List (Int × Int × Int)} (hO : IntOwn w Q n q l) (hC : CsOwn w base A n c ps) (hin : In2 l ps) {i : Nat} (hi : i < n) :
    ∃ gq gc x lo hi, Q = some ⟨gq, 0, none⟩ ∧ A = some ⟨gc, 0, none⟩ ∧ w.cell? ⟨gq, i, none⟩ = some (.int .i64 x) ∧ w.cell? ⟨gc, i * 3 + 1, none⟩ = some (.int .i64 lo) ∧ w.cell? ⟨gc, i * 3 + 2, none⟩ = some (.int .i64 hi) ∧ lo ≤ x ∧ x ≤ hi := by
  obtain ⟨gq, rfl, _, _⟩ := row_form hO.row (by omega)
  obtain ⟨gc, rfl, _, _⟩ := row_form hC.row (by omega)
  have h1 : i < l.length := by rw [hO.len]; exact hi
  have h2 : i < ps.length := by rw [hC.len]; exact hi
  have hx := List.getElem?_eq_getElem h1
  have hp := List.getElem?_eq_getElem h2
  obtain ⟨h3, h4⟩ := hin.get hx hp
  refine ⟨gq, gc, l[i], ps[i].2.1, ps[i].2.2, rfl, rfl, ?_, ?_, ?_, h3, h4⟩
  · rw [hO.row.cellAt i (by omega)]
    unfold intRow
    rw [List.getElem?_map, hx]; rfl
  · rw [hC.row.cellAt (i * 3 + 1) (by omega), csRow_get ps i 1 _ hp (by omega)]; rfl
  · rw [hC.row.cellAt (i * 3 + 2) (by omega), csRow_get ps i 2 _ hp (by omega)]; rfl

set_option maxHeartbeats 16000000 in
theorem valueBack.walk {A : Option Addr} {n c : Nat} {w : World} (hcap : n ≤ c) (htop : c ≤ maxLen) (hI : 0 < n → ∃ ad, A = some ad ∧ IntsAt w ad n (-9223372036854775808) 9223372036854775807) :
    Calls Try.prog 3 #[.slice A n c] w (SaysTrue w) := by
  have HN := Lib.hid (new_any A n c w hcap htop hI)
  clear hcap htop hI
  go_enter Try.func3, Try.ntmps3
  go_wp2_with fail
  refine HN.out.mono ?_
  rintro e1 w1 ⟨g, rfl, hg, hs1, hb1⟩
  go_wp2_with fail
  refine (type_x 3 (by omega) (by omega) g w1 hs1).mono ?_
  rintro e2 w2 ⟨T, A2, n2, c2, rfl, hT, hBT, hs2, hk2⟩
  have hg1 := hs1.size
  obtain ⟨u, hu⟩ : ∃ u, w2.alloc (.cells #[.int .i64 T.k, .int .i64 T.lo, .int .i64 T.hi, .int .i64 T.mx, .slice A2 n2 c2] 27) = u := ⟨_, rfl⟩
  have hbu : Below w2.heap.size w2 u := hu ▸ allocB _ _
  have hBox : Box5 u w2.heap.size (.int .i64 T.k) (.int .i64 T.lo) (.int .i64 T.hi) (.int .i64 T.mx) (.slice A2 n2 c2) := hu ▸ box5_new _ _ _ _ _ _ _
  have hTu := hT.below hbu
  have hszu : w2.heap.size < u.heap.size := World.block_lt_of_cell? u _ hBox.1
  have hgood := hBT.good (by omega)
  have hk34 : T.k ≠ 3 ∧ T.k ≠ 4 := by have := hBT.kind; omega
  have hg2 : g < w2.heap.size := hs2.size
  have HTW : Hid (∀ W, But g u W → TyRd (fun b => w1.heap.size ≤ b) W 3 T A2 n2 c2 ∧ Box5 W w2.heap.size (.int .i64 T.k) (.int .i64 T.lo) (.int .i64 T.hi) (.int .i64 T.mx) (.slice A2 n2 c2)) :=
    fun W hW => ⟨hTu.butG hW fun b hb => by omega, hBox.keepB (hW.block _ hszu (by omega))⟩
  have HSM := Lib.hid (some_x 3 _ T A2 n2 c2 g u hTu (fun b hb => by omega) hBT.ok hk34 (hs2.below hbu))
  have HWU : Hid (Below w.heap.size w u) := (hb1.trans (hk2.below hg (by have := hb1.size; omega))).trans (hbu.mono (by have := hb1.size; have := hk2.size; omega))
  have HBT := Lib.hid hBT
  have HG := Lib.hid hgood
  have HGW := Lib.hid hg
  have hwu := HWU.out.size
  obtain ⟨p0, p1, p2, p3, p4⟩ := hBox
  clear HN hs1 hb1 hg1 hT hBT hs2 hk2 hbu hTu hgood hg2 hg
  subst hu
  go_wp2_with fail
  refine HSM.out.mono ?_
  rintro e3 w3 ⟨V, B, m, q, rfl, hV, _, _, hk3⟩
  generalize hu : w2.alloc (.cells #[.int .i64 T.k, .int .i64 T.lo, .int .i64 T.hi, .int .i64 T.mx, .slice A2 n2 c2] 27) = u at *
  obtain ⟨x, hx⟩ : ∃ x, w3.alloc (.cells #[.int .i64 V.i, .slice B m q] 31) = x := ⟨_, rfl⟩
  have hbx : Below w3.heap.size w3 x := hx ▸ allocB _ _
  have hBv : Box2 x w3.heap.size (.int .i64 V.i) (.slice B m q) := hx ▸ box2_new _ _ _ _
  have hszx : w3.heap.size < x.heap.size := World.block_lt_of_cell? x _ hBv.1
  have hkx : But g u x := hk3.onB hbx hk3.size
  have HVW : Hid (∀ W, Below x.heap.size x W → VlRd (fun b => u.heap.size ≤ b) W 4 V B m q ∧ Box2 W w3.heap.size (.int .i64 V.i) (.slice B m q) ∧ But g u W) :=
    fun W hW => ⟨(hV.below hbx).below hW, hBv.below hW hszx, hkx.onB hW hkx.size⟩
  have HCK := Lib.hid (refCheck_x _ 3 T A2 n2 c2 x (HTW.out x hkx).1 HG.out hk34 _ 4 V B m q (hV.below hbx))
  have HWX : Hid (∀ W, Below x.heap.size x W → Below w.heap.size w W) := fun W hW => (HWU.out.trans ((hkx.onB hW hkx.size).below HGW.out hwu))
  clear p0 p1 p2 p3 p4
  obtain ⟨p0, p1, p2, p3, p4⟩ := (HTW.out w3 hk3).2
  obtain ⟨q0, q1, q2, q3, q4⟩ := (HTW.out x hkx).2
  obtain ⟨y0, y1, _, _⟩ := hBv
  have HTX : Hid (∀ W, Below x.heap.size x W → TyRd (fun b => w1.heap.size ≤ b) W 3 T A2 n2 c2 ∧ Box5 W w2.heap.size (.int .i64 T.k) (.int .i64 T.lo) (.int .i64 T.hi) (.int .i64 T.mx) (.slice A2 n2 c2)) := fun W hW => HTW.out W (hkx.onB hW hkx.size)
  clear hV hk3 hbx hkx HSM HWU HTW hwu hszu hszx
  clear hu
  subst hx
  go_wp2_with fail
  refine HCK.out.mono ?_
  rintro e4 w4 ⟨rfl, hb4⟩
  clear p0 p1 p2 p3 p4 q0 q1 q2 q3 q4 y0 y1
  obtain ⟨p0, p1, p2, p3, p4⟩ := (HTX.out w4 hb4).2
  obtain ⟨y0, y1, _, _⟩ := (HVW.out w4 hb4).2.1
  clear HCK
  by_cases hve : verr 3 T V = 0
  · rw [hve]
    generalize hx : w3.alloc (.cells #[.int .i64 V.i, .slice B m q] 31) = x at *
    have hg3 := HG.out
    have hdp : deepOk 3 T := (HTX.out w4 hb4).1.deep
    have hfl := flat_width 3 T V hdp hg3.ok hve
    have hin := flat_in 3 T V hdp hg3.ok hk34.1 hk34.2 hve
    have hrd := read_flat 3 T V [] hdp hg3.ok hve
    rw [List.append_nil] at hrd
    have hpw := parts_width 3 T hdp hg3.ok
    have hwd := hg3.wide
    have HFL := Lib.hid (Flatten_x _ 3 T A2 n2 c2 w4 (HTX.out w4 hb4).1 hg3 hk34.2 _ 4 V B m q (HVW.out w4 hb4).1 hve (by omega))
    have HUN : Hid (∀ W, Below x.heap.size x W → ∀ Q nq qq, IntOwn W Q nq qq (vflat 3 T V) → Calls Try.prog 12 #[tyV T A2 n2 c2, .slice Q nq qq] W (GivesUnf 3 V (vflat 3 T V) (vflat 3 T V) W)) := fun W hW Q nq qq hO =>
      Unflatten_x _ 3 T A2 n2 c2 W (HTX.out W hW).1 hg3 hk34.2 Q nq qq _ (hO.rd fun a ha => (row_lt hO.row a ha).2) hfl V hrd hve (by omega)
    have HPT : Hid (∀ W, Below x.heap.size x W → Calls Try.prog 13 #[tyV T A2 n2 c2] W (GivesCs (tparts 3 T) W)) := fun W hW => parts_x 3 _ T A2 n2 c2 W (HTX.out W hW).1 hg3.ok hwd
    have HLN : Hid ((vflat 3 T V).length = (tparts 3 T).length ∧ (vflat 3 T V).length ≤ 24 ∧ In2 (vflat 3 T V) (tparts 3 T)) := ⟨by omega, by omega, hin⟩
    clear hdp hfl hin hrd hpw hwd hg3 HG hve hx
    generalize vflat 3 T V = l at *
    generalize tparts 3 T = ps at *
    go_wp2_with fail
    refine HFL.out.mono ?_
    rintro e5 w5 ⟨Q, nq, qq, rfl, hO5, _, hb5⟩
    have hk5 := nextB hb4 hb5
    have HU5 := Lib.hid (HUN.out w5 hk5 Q nq qq hO5)
    have hnq := hO5.len
    have HO5 := Lib.hid hO5
    clear p0 p1 p2 p3 p4 y0 y1 HFL HUN hb5 hO5
    obtain ⟨p0, p1, p2, p3, p4⟩ := (HTX.out w5 hk5).2
    go_wp2_with fail
    refine HU5.out.mono ?_
    rintro e6 w6 (⟨_, B', m', q', rfl, hV6, hb6⟩ | ⟨hx, _⟩)
    rotate_left
    · exact absurd rfl hx
    have hk6 := nextB hk5 hb6
    obtain ⟨z, hz⟩ : ∃ z, w6.alloc (.cells #[.int .i64 V.i, .slice B' m' q'] 31) = z := ⟨_, rfl⟩
    have hbz : Below w6.heap.size w6 z := hz ▸ allocB _ _
    have hBz : Box2 z w6.heap.size (.int .i64 V.i) (.slice B' m' q') := hz ▸ box2_new _ _ _ _
    have hszz : w6.heap.size < z.heap.size := World.block_lt_of_cell? z _ hBz.1
    have hkz := nextB hk6 hbz
    have HP7 := Lib.hid (HPT.out z hkz)
    have HVZ : Hid (∀ W, Below z.heap.size z W → VlRd (fun b => w5.heap.size ≤ b) W 3 V B' m' q' ∧ Box2 W w6.heap.size (.int .i64 V.i) (.slice B' m' q') ∧ IntOwn W Q nq qq l) :=
      fun W hW => ⟨(hV6.below hbz).below hW, hBz.below hW hszz, ((HO5.out.below hb6).below hbz).below hW⟩
    clear p0 p1 p2 p3 p4 HU5 hb6 hV6 HO5
    obtain ⟨p0, p1, p2, p3, p4⟩ := (HTX.out w6 hk6).2
    obtain ⟨q0, q1, q2, q3, q4⟩ := (HTX.out z hkz).2
    have HKZ := Lib.hid hkz
    clear hbz hBz hszz hkz HPT
    subst hz
    go_wp2_with fail
    refine HP7.out.mono ?_
    rintro e7 w7 ⟨A7, n7, c7, rfl, hC7, hb7⟩
    have hk7 := nextB HKZ.out hb7
    obtain ⟨y0, y1, _, _⟩ := (HVW.out w7 hk7).2.1
    obtain ⟨z0, z1, _, _⟩ := (HVZ.out w7 hb7).2.1
    have HS8 := Lib.hid (same_x 4 _ _ V B B' m q m' q' 3 w7 (HVW.out w7 hk7).1 (HVZ.out w7 hb7).1)
    have hO7 := (HVZ.out w7 hb7).2.2
    have hln := HLN.out.1
    have hcl := hC7.len
    obtain rfl : nq = n7 := by omega
    have HO7 := Lib.hid hO7
    have HC7 := Lib.hid hC7
    have HW7 := Lib.hid (HWX.out w7 hk7)
    have hl24 : nq ≤ 24 := by have := HLN.out.2.1; omega
    clear p0 p1 p2 p3 p4 q0 q1 q2 q3 q4 HVW HVZ HTX HKZ hO7 hC7 hln hcl hb7 hb4 hk5 hk6 hk7 HP7 HWX hnq
    go_wp2_with fail
    refine HS8.out.mono ?_
    rintro e8 w8 ⟨rfl, hb8⟩
    have HW8 := Lib.hid (HW7.out.trans (hb8.mono (Nat.le_trans HW7.out.size (Nat.le_refl _))))
    have HCL : Hid (∀ W, Below w8.heap.size w8 W → ∀ i, i < nq → ∃ gq gc x lo hi, Q = some ⟨gq, 0, none⟩ ∧ A7 = some ⟨gc, 0, none⟩ ∧ W.cell? ⟨gq, i, none⟩ = some (.int .i64 x) ∧ W.cell? ⟨gc, i * 3 + 1, none⟩ = some (.int .i64 lo) ∧ W.cell? ⟨gc, i * 3 + 2, none⟩ = some (.int .i64 hi) ∧ lo ≤ x ∧ x ≤ hi) :=
      fun W hW i hi => cells_at ((HO7.out.below hb8).below hW) ((HC7.out.below hb8).below hW) HLN.out.2.2 hi
    clear HW7 HO7 HC7 HS8 hb8 y0 y1 z0 z1
    go_wp2_with fail
    go_loopw [11] (fun iv wr => ∃ i : Nat, i ≤ nq ∧ iv = .int .i64 i ∧ Hid (Below w8.heap.size w8 wr)) (fun iv _ => nq - (intOf iv).toNat)
    case atStart => exact ⟨0, Nat.zero_le _, rfl, Below.refl _ _⟩
    case round =>
      obtain ⟨i, hi, rfl, HB⟩ := hrel
      by_cases hlt : i < nq
      · obtain ⟨gq, gc, x, lo, hi', rfl, rfl, k0, k1, k2, hlo, hhi⟩ := HCL.out wr HB.out i hlt
        go_wp2_with fail
        go_quiet (fail)
        clear k0 k1 k2
        go_wp2
        go_roundw
        case rel => exact ⟨i + 1, by omega, by go_num, drewN_below HB.out _⟩
        case measure => simp [intOf] <;> omega
      · obtain rfl : i = nq := by omega
        have HAW := Lib.hid (awake_x wr)
        have HWR := Lib.hid (HW8.out.trans (HB.out.mono HW8.out.size))
        go_wp2_with fail
        refine HAW.out.mono ?_
        rintro e9 w9 ⟨rfl, hb9⟩
        have HE := Lib.hid (nextB HWR.out hb9)
        clear hb9
        go_wp2
        go_ret
        exact ⟨rfl, HE.out⟩
  · have HC := Lib.hid (Check_x _ 3 T A2 n2 c2 w4 (HTX.out w4 hb4).1 HG.out hk34.2 _ 4 V B m q (HVW.out w4 hb4).1)
    have HW4 := Lib.hid (HWX.out w4 hb4)
    clear HVW HTX HWX hb4 HG
    generalize verr 3 T V = r at *
    have hb : (r != 0) = true := by simpa using hve
    go_wp2_with fail
    refine HC.out.mono ?_
    rintro e5 w5 ⟨rfl, hb5⟩
    have HAW := Lib.hid (awake_x w5)
    have HW5 := Lib.hid (HW4.out.trans (hb5.mono HW4.out.size))
    clear p0 p1 p2 p3 p4 y0 y1 hb5 HC HW4
    go_wp2_with fail
    refine HAW.out.mono ?_
    rintro e6 w6 ⟨rfl, hb6⟩
    have HE := Lib.hid (nextB HW5.out hb6)
    clear hb6
    go_wp2
    go_ret
    exact ⟨rfl, HE.out⟩
end Go.Proofs.Ytklndjkblfncjaa
