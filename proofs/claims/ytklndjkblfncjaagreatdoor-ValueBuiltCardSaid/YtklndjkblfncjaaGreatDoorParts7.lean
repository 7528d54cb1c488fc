/-
  The reference's Parts, Validate and typed on valid types.
-/
import Derived.Test.YtklndjkblfncjaaGreatDoorRefV
namespace Go.Proofs.YtklndjkblfncjaaGreatDoor
open Go Go.RowKit
set_option maxRecDepth 20000

def csCells (x : Int × Int × Int) : List Value := [.int .i64 x.1, .int .i64 x.2.1, .int .i64 x.2.2]
def csRow (l : List (Int × Int × Int)) : List Value := (l.map csCells).flatten
theorem csRow_length (l : List (Int × Int × Int)) : (csRow l).length = l.length * 3 := by
  unfold csRow
  induction l with
  | nil => rfl
  | cons x l ih => rw [List.map_cons, List.flatten_cons, List.length_append, ih, List.length_cons]; show 3 + _ = _; omega
theorem csRow_append (l m : List (Int × Int × Int)) : csRow (l ++ m) = csRow l ++ csRow m := by unfold csRow; simp
theorem cs_oneCell (l : List (Int × Int × Int)) : ∀ u ∈ csRow l, u.oneCell' = true := by
  intro u hu
  obtain ⟨r, hr, hu⟩ := List.mem_flatten.1 hu
  obtain ⟨x, _, rfl⟩ := List.mem_map.1 hr
  simp only [csCells, List.mem_cons, List.not_mem_nil, or_false] at hu
  rcases hu with rfl | rfl | rfl <;> rfl
theorem info_cell : (Tryz.prog.info? 76).map (fun i => (i.zero, i.size, i.bytes)) = some (some (.agg #[.int .i64 0, .int .i64 0, .int .i64 0]), 3, 24) := by kernel_rfl
/-- The call's own row of cells. -/
structure CsOwn (w : World) (base : Nat) (A : Option Addr) (n c : Nat) (l : List (Int × Int × Int)) : Prop where
  row : w.ownsRow base 76 3 (.slice A n c) n (csRow l)
  len : l.length = n
theorem CsOwn.below {w w' : World} {base n c : Nat} {A : Option Addr} {l : List (Int × Int × Int)} (h : CsOwn w base A n c l) (hb : Below w.heap.size w w') : CsOwn w' base A n c l :=
  ⟨row_keep h.row fun a ha => hb.block _ (row_lt h.row a ha).2, h.len⟩
theorem CsOwn.lit (w : World) {base g : Nat} (hb : base ≤ g) (hg : w.heap.size = g) (x : Int × Int × Int) : CsOwn (w.alloc (.cells #[.int .i64 x.1, .int .i64 x.2.1, .int .i64 x.2.2] 76)) base (some ⟨g, 0, none⟩) 1 1 [x] := by
  subst hg
  exact ⟨⟨rfl, .inr ⟨w.heap.size, 1, #[.int .i64 x.1, .int .i64 x.2.1, .int .i64 x.2.2], rfl, hb, heap_alloc_new w _, Nat.le_refl _, by decide, rfl, rfl⟩⟩, rfl⟩
theorem rep_one {α : Type} (k : Nat) (x : α) : (List.replicate k [x]).flatten = List.replicate k x := by
  induction k with
  | zero => rfl
  | succ k ih => rw [List.replicate_succ, List.flatten_cons, ih, List.replicate_succ]; rfl
def GivesCs (l : List (Int × Int × Int)) (w : World) (e : Ending) (w' : World) : Prop := ∃ A n c, e = .returned (.slice A n c) ∧ CsOwn w' w.heap.size A n c l ∧ Below w.heap.size w w'
def PartsAt (d : Nat) : Prop := ∀ (S : Nat → Prop) (T : Ty) (A : Option Addr) (n c : Nat) (w : World), TyRd S w d T A n c → TyOk d T → twidth d T ≤ 5242880 → Calls Tryz.prog 42 #[tyV T A n c] w (GivesCs (tparts d T) w)

set_option maxHeartbeats 8000000 in
theorem parts_x : ∀ d, PartsAt d
  | 0, _, _, _, _, _, _, h, _, _ => h.elim
  | d + 1, S, T, A, n, c, w, h, hok, hw => by
    have IH := parts_x d
    obtain ⟨i0, hi, hz0, hz1, hz2⟩ := info_parts info_cell
    obtain ⟨hl, hcap, htop⟩ := h.len
    unfold maxLen at htop
    have hpw := parts_width (d + 1) T h.deep hok
    obtain ⟨v, hv⟩ : ∃ v, w.alloc (.cells #[.int .i64 T.k, .int .i64 T.lo, .int .i64 T.hi, .int .i64 T.mx, .slice A n c] 24) = v := ⟨_, rfl⟩
    obtain ⟨hvs, hwv, hbx⟩ := box_t w _ _ _ _ _ _ v hv
    have HBX := Lib.hid hbx
    have HVV := Lib.hid hv
    have HWV := Lib.hid hwv
    have HVS := Lib.hid hvs
    clear hv hbx hvs
    by_cases k1 : T.k = 1
    · have b1 : (T.k == 1) = true := by simpa using k1
      have HP : Hid (tparts (d + 1) T = [(1, 0, 1)]) := by show _ = _; unfold tparts; rw [if_pos k1]
      clear h hok hw IH hl hpw k1 hwv
      go_enter Tryz.func42, Tryz.ntmps42
      go_wp2
      rw [HVV.out]
      go_ret
      exact ⟨_, _, _, rfl, by rw [HP.out]; exact CsOwn.lit v (Nat.le_succ _) HVS.out (1, 0, 1), HWV.out.alloc HWV.out.size _⟩
    · have b1 : (T.k == 1) = false := by simpa using k1
      by_cases k2 : T.k = 2
      · have b2 : (T.k == 2) = true := by simpa using k2
        have HP : Hid (tparts (d + 1) T = [(2, T.lo, T.hi)]) := by show _ = _; unfold tparts; rw [if_neg k1, if_pos k2]
        clear h hok hw IH hl hpw k1 k2 hwv
        go_enter Tryz.func42, Tryz.ntmps42
        go_wp2
        rw [HVV.out]
        go_ret
        exact ⟨_, _, _, rfl, by rw [HP.out]; exact CsOwn.lit v (Nat.le_succ _) HVS.out (2, T.lo, T.hi), HWV.out.alloc HWV.out.size _⟩
      · have b2 : (T.k == 2) = false := by simpa using k2
        by_cases k34 : T.k = 3 ∨ T.k = 4
        · have HP : Hid (tparts (d + 1) T = [(T.k, 0, 0)]) := by show _ = _; unfold tparts; rw [if_neg k1, if_neg k2, if_pos k34]
          rcases k34 with k34 | k34
          · have b3 : (T.k == 3) = true := by simpa using k34
            clear h hok hw IH hl hpw k1 k2 k34 hwv
            go_enter Tryz.func42, Tryz.ntmps42
            go_wp2
            rw [HVV.out]
            go_ret
            exact ⟨_, _, _, rfl, by rw [HP.out]; exact CsOwn.lit v (Nat.le_succ _) HVS.out (T.k, 0, 0), HWV.out.alloc HWV.out.size _⟩
          · have b3 : (T.k == 3) = false := by simp; omega
            have b4 : (T.k == 4) = true := by simpa using k34
            clear h hok hw IH hl hpw k1 k2 k34 hwv
            go_enter Tryz.func42, Tryz.ntmps42
            go_wp2
            rw [HVV.out]
            go_ret
            exact ⟨_, _, _, rfl, by rw [HP.out]; exact CsOwn.lit v (Nat.le_succ _) HVS.out (T.k, 0, 0), HWV.out.alloc HWV.out.size _⟩
        · have b3 : (T.k == 3) = false := by simp; omega
          have b4 : (T.k == 4) = false := by simp; omega
          by_cases k6 : T.k = 6
          · have b6 : (T.k == 6) = true := by simpa using k6
            obtain ⟨hz, hm1, hm4, x, hx, hox, hkx⟩ := hok.list k6
            obtain rfl : n = 1 := by rw [← hl, hx]; rfl
            obtain ⟨e, g, o, A', n', c', he, rfl, _, hg, hc, hr⟩ := h.get (i := 0) (by omega)
            obtain rfl : e = x := by rw [hx] at he; simpa using he.symm
            obtain ⟨k, hk⟩ := Int.eq_ofNat_of_zero_le (show 0 ≤ T.mx by omega)
            have hde := hr.deep
            have hwe : (tparts d e).length = 1 ∧ twidth d e = 1 := by
              cases d with
              | zero => exact hr.elim
              | succ d => exact tparts_leaf hkx
            obtain ⟨pe, hpe⟩ := List.length_eq_one_iff.1 hwe.1
            have HP : Hid (tparts (d + 1) T = (2, 0, T.mx) :: List.replicate k pe) := by
              show _ = _
              unfold tparts
              rw [if_neg k1, if_neg k2, if_neg k34, if_pos k6, hx, List.headD_cons, hpe, hk]
              show (2, 0, (k : Int)) :: (List.replicate ((k : Int).toNat) [pe]).flatten = _
              rw [Int.toNat_natCast, rep_one]
            have HF : Hid (∀ W, Below v.heap.size v W → Calls Tryz.prog 42 #[tyV e A' n' c'] W (GivesCs [pe] W)) := by
              intro W hW
              have := IH S e A' n' c' W (hr.below (nextB hwv hW)) hox (by omega)
              rw [hpe] at this
              exact this
            have HC : Hid (∀ W, Below v.heap.size v W → TyCells W g o e A' n' c') := fun W hW => by have := hc.keep ((nextB hwv hW).block g hg); simpa using this
            have hk4 : k ≤ 4 := by omega
            have hk1 : 1 ≤ k := by omega
            clear h hok hw IH hl hpw k1 k2 k34 k6 hx he hox hkx hc hr hz hwe hpe hde hm1 hm4 hwv
            rw [hk] at HBX HVV
            simp only [tyV, hk]
            rw [hk] at HP
            clear hk
            go_enter Tryz.func42, Tryz.ntmps42
            go_wp2
            rw [HVV.out]
            go_loopw [3, 4] (fun lv iv wr => ∃ (i : Nat) (Q : Option Addr) (q : Nat), i ≤ k ∧ iv = .int .i64 i ∧ lv = .slice Q (i + 1) q ∧ Hid (CsOwn wr v.heap.size Q (i + 1) q ((2, 0, (k : Int)) :: List.replicate i pe) ∧ Below v.heap.size v wr)) (fun _ iv _ => k - (intOf iv).toNat)
            case atStart => exact ⟨0, _, _, Nat.zero_le _, rfl, rfl, CsOwn.lit v (by have := HVS.out; omega) HVS.out (2, 0, (k : Int)), allocB _ _⟩
            case round =>
              obtain ⟨i, Q, q, hi', rfl, rfl, HO⟩ := hrel
              obtain ⟨p0, p1, p2, p3, p4⟩ := HBX.out wr HO.out.2
              by_cases hlt : i < k
              · obtain ⟨c0, c1, c2, c3, c4⟩ := HC.out wr HO.out.2
                have HF1 := Lib.hid (HF.out wr HO.out.2)
                go_wp2_with fail
                refine HF1.out.mono ?_
                rintro e1 w1 ⟨B, m, p, rfl, hO2, hb⟩
                obtain rfl : m = 1 := hO2.len.symm
                obtain ⟨gb, rfl, _, _⟩ := row_form hO2.row (by omega)
                have HO1 := Lib.hid (HO.out.1.below hb)
                have HBB := Lib.hid (nextB HO.out.2 hb)
                have HNW : Hid (∀ j u, (csRow [pe])[j]? = some u → w1.cell? ((⟨gb, 0, none⟩ : Addr).add j) = some u) := hO2.row.cells (g := gb) rfl
                have hsz := HBB.out.size
                clear hO2 hb HF1 c0 c1 c2 c3 c4 p0 p1 p2 p3 p4 HO
                go_wp2_with (at_builtin; refine wpList_append_lies _ rfl _ _ 60 rfl v.heap.size 76 i0 (.agg #[.int .i64 0, .int .i64 0, .int .i64 0]) 3 24 Tryz.underlying60 hi hz0 hz1 hz2 rfl (by decide) _ _ _ rfl HO1.out.row ⟨gb, 0, none⟩ 1 _ (csRow [pe]) rfl rfl HNW.out (cs_oneCell _) (by decide) ?r1 ?r2 hsz _ rfl ?_)
                case r1 => unfold maxLen; omega
                case r2 => omega
                intro g3 c3 w3 hown hgrow hat hlt3
                have HB3 := Lib.hid (grown_own HBB.out HO1.out.row hgrow hsz)
                have HO3 : Hid (CsOwn w3 v.heap.size (some ⟨g3, 0, none⟩) (i + 1 + 1) c3 ((2, 0, (k : Int)) :: List.replicate (i + 1) pe) ∧ Below v.heap.size v w3) := by
                  refine ⟨⟨?_, ?_⟩, HB3.out⟩
                  · have e : (2, 0, (k : Int)) :: List.replicate (i + 1) pe = ((2, 0, (k : Int)) :: List.replicate i pe) ++ [pe] := by
                      rw [List.replicate_succ']; simp
                    rw [e, csRow_append]
                    exact hown
                  · simp
                clear hown hgrow hat HO1 HBB HNW
                go_wp2
                go_roundw
                case rel => exact ⟨i + 1, _, _, by omega, by go_num, rfl, HO3⟩
                case measure => simp [intOf] <;> omega
              · obtain rfl : i = k := by omega
                go_wp2
                go_ret
                refine ⟨_, _, _, rfl, ?_, nextB HWV.out HO.out.2⟩
                rw [HP.out]
                refine ⟨?_, HO.out.1.len⟩
                have hr := HO.out.1.row
                refine ⟨hr.1, ?_⟩
                rcases hr.2 with e | ⟨g, cap, cur, e, hg, rest⟩
                · exact .inl e
                · exact .inr ⟨g, cap, cur, e, Nat.le_trans HWV.out.size hg, rest⟩
          · have b6 : (T.k == 6) = false := by simpa using k6
            have k5 : T.k = 5 := by rcases hok.kinds with h | h | h | h | h | h <;> omega
            obtain ⟨hz, hn2, hn4, hels⟩ := hok.tuple k5
            obtain ⟨P, hP⟩ : ∃ P, P = T.es.map (tparts d) := ⟨_, rfl⟩
            have HP : Hid (tparts (d + 1) T = P.flatten) := by
              show _ = _
              rw [hP]
              unfold tparts
              rw [if_neg k1, if_neg k2, if_neg k34, if_neg k6]
            have hPl : P.flatten.length ≤ 5242880 := by rw [← HP.out, hpw]; exact hw
            have HF : Hid (∀ i e, T.es[i]? = some e → (P[i]? = some (tparts d e) ∧ (P.take i).flatten.length + (tparts d e).length ≤ 5242880 ∧ 0 < (tparts d e).length) ∧ ∀ A' n' c' W, TyRd S W d e A' n' c' → Calls Tryz.prog 42 #[tyV e A' n' c'] W (GivesCs (tparts d e) W)) := by
              intro i e he
              have h1 : P[i]? = some (tparts d e) := by rw [hP, List.getElem?_map, he]; rfl
              have h2 := flatten_take_le P (i + 1)
              rw [flatten_next h1, List.length_append] at h2
              have hde := h.deep e (List.mem_of_getElem? he)
              have hoe := (hels e (List.mem_of_getElem? he)).1
              have h3 := parts_width d e hde hoe
              have h4 := width_pos d e hde hoe
              exact ⟨⟨h1, by omega, by omega⟩, fun A' n' c' W hr => IH S e A' n' c' W hr hoe (by omega)⟩
            have H := Lib.hid h
            have HLN := Lib.hid hl
            have HPN : Hid (P.length = n) := by show _ = _; rw [hP, List.length_map, hl]
            have hvl := HWV.out.size
            clear h hok hw IH hl hpw k1 k2 k34 k6 k5 hz hn2 hels hP hPl hwv
            go_enter Tryz.func42, Tryz.ntmps42
            go_wp2
            rw [HVV.out]
            go_loopw [5, 6] (fun lv iv wr => ∃ (i : Nat) (Q : Option Addr) (q t : Nat), i ≤ n ∧ iv = .int .i64 i ∧ lv = .slice Q t q ∧ Hid (CsOwn wr v.heap.size Q t q (P.take i).flatten ∧ Below v.heap.size v wr)) (fun _ iv _ => n - (intOf iv).toNat)
            case atStart => exact ⟨0, none, 0, 0, Nat.zero_le _, rfl, rfl, ⟨by simpa [csRow] using World.ownsRow_nil v v.heap.size _ _, by simp⟩, Below.refl _ _⟩
            case round =>
              obtain ⟨i, Q, q, t, hi', rfl, rfl, HO⟩ := hrel
              obtain ⟨p0, p1, p2, p3, p4⟩ := HBX.out wr HO.out.2
              by_cases hlt : i < n
              · obtain ⟨e, g, o, A', n', c', he, rfl, _, hg, hc, hr⟩ := (H.out.below (nextB HWV.out HO.out.2)).get hlt
                obtain ⟨c0, c1, c2, c3, c4⟩ := hc
                obtain ⟨⟨hpi, hlen, hpos⟩, hf⟩ := HF.out i e he
                have HF1 := Lib.hid (hf A' n' c' wr hr)
                obtain ⟨pe, hpe⟩ : ∃ pe, tparts d e = pe := ⟨_, rfl⟩
                rw [hpe] at hpi hlen hpos HF1
                have HPI := Lib.hid hpi
                clear he hr hf hpi hpe
                go_wp2_with fail
                refine HF1.out.mono ?_
                rintro e1 w1 ⟨B, m, p, rfl, hO2, hb⟩
                have hm := hO2.len
                have ht := HO.out.1.len
                rw [hm] at hlen hpos
                rw [ht] at hlen
                obtain ⟨gb, rfl, _, _⟩ := row_form hO2.row hpos
                have HO1 := Lib.hid (HO.out.1.below hb)
                have HBB := Lib.hid (nextB HO.out.2 hb)
                have HNW : Hid (∀ j u, (csRow pe)[j]? = some u → w1.cell? ((⟨gb, 0, none⟩ : Addr).add j) = some u) := hO2.row.cells (g := gb) rfl
                have HNL : Hid ((csRow pe).length = m * 3) := by show _ = _; rw [csRow_length, hm]
                have HTM : Hid (((P.take (i + 1)).flatten).length = t + m) := by show _ = _; rw [flatten_next HPI.out, List.length_append, ht, hm]
                have hsz := HBB.out.size
                clear hO2 hb HF1 c0 c1 c2 c3 c4 p0 p1 p2 p3 p4 HO hm ht
                go_wp2_with (at_builtin; refine wpList_append_lies _ rfl _ _ 60 rfl v.heap.size 76 i0 (.agg #[.int .i64 0, .int .i64 0, .int .i64 0]) 3 24 Tryz.underlying60 hi hz0 hz1 hz2 rfl (by decide) _ _ _ rfl HO1.out.row ⟨gb, 0, none⟩ m _ (csRow pe) rfl HNL.out HNW.out (cs_oneCell _) hpos ?r1 ?r2 hsz _ rfl ?_)
                case r1 => unfold maxLen; omega
                case r2 => omega
                intro g3 c3 w3 hown hgrow hat hlt3
                have HB3 := Lib.hid (grown_own HBB.out HO1.out.row hgrow hsz)
                have HO3 : Hid (CsOwn w3 v.heap.size (some ⟨g3, 0, none⟩) (t + m) c3 (P.take (i + 1)).flatten ∧ Below v.heap.size v w3) := by
                  refine ⟨⟨?_, HTM.out⟩, HB3.out⟩
                  rw [flatten_next HPI.out, csRow_append]
                  exact hown
                clear hown hgrow hat HO1 HBB HNW HTM HNL HPI
                go_wp2
                go_roundw
                case rel => exact ⟨i + 1, _, _, _, by omega, by go_num, rfl, HO3⟩
                case measure => simp [intOf] <;> omega
              · obtain rfl : i = n := by omega
                go_wp2
                go_ret
                refine ⟨_, _, _, rfl, ?_, nextB HWV.out HO.out.2⟩
                have hfull : (P.take i).flatten = P.flatten := by rw [List.take_of_length_le (by rw [HPN.out]; exact Nat.le_refl _)]
                rw [HP.out, ← hfull]
                refine ⟨?_, HO.out.1.len⟩
                have hr := HO.out.1.row
                refine ⟨hr.1, ?_⟩
                rcases hr.2 with e | ⟨g, cap, cur, e, hg, rest⟩
                · exact .inl e
                · exact .inr ⟨g, cap, cur, e, Nat.le_trans HWV.out.size hg, rest⟩

set_option maxHeartbeats 4000000 in
theorem refValidate_e (S : Nat → Prop) (d : Nat) (hd : d ≤ 10) (T : Ty) (A : Option Addr) (n c : Nat) (w : World) (h : TyRd S w d T A n c) :
    Calls Tryz.prog 54 #[tyV T A n c] w (FaultIs (tvErr d T) w) := by
  obtain ⟨v, hv⟩ : ∃ v, w.alloc (.cells #[.int .i64 T.k, .int .i64 T.lo, .int .i64 T.hi, .int .i64 T.mx, .slice A n c] 24) = v := ⟨_, rfl⟩
  obtain ⟨hvs, hwv, hbx⟩ := box_t w _ _ _ _ _ _ v hv
  have HBX := Lib.hid hbx
  have HVV := Lib.hid hv
  have HWV := Lib.hid hwv
  have HF := Lib.hid (depth_x d 11 (by omega) (by omega) S T A n c v (h.below hwv))
  have HE : Hid (∀ W, Below v.heap.size v W → Calls Tryz.prog 67 #[tyV T A n c] W (FaultIs (terr d T) W)) := fun W hW => wrong_e d S T A n c W (h.below (nextB hwv hW))
  have HPT : Hid (terr d T = 0 → ∀ W, Below v.heap.size v W → Calls Tryz.prog 42 #[tyV T A n c] W (GivesCs (tparts d T) W)) := fun h0 W hW => parts_x d S T A n c W (h.below (nextB hwv hW)) h0 (width_top h.deep h0 hd)
  have HLN : Hid (terr d T = 0 → (tparts d T).length = twidth d T) := fun h0 => parts_width d T h.deep h0
  have hdef : tvErr d T = if terr d T ≠ 0 then terr d T else if 24 < twidth d T then 9 else 0 := rfl
  obtain ⟨x, hx⟩ : ∃ x, terr d T = x := ⟨_, rfl⟩
  obtain ⟨y, hy⟩ : ∃ y, twidth d T = y := ⟨_, rfl⟩
  obtain ⟨z, hz⟩ : ∃ z, tvErr d T = z := ⟨_, rfl⟩
  rw [hx] at HE HPT HLN hdef
  rw [hy] at HLN hdef
  rw [hz] at hdef ⊢
  generalize tparts d T = ps at HPT HLN
  have HD := Lib.hid hdef
  clear h hv hbx hwv hvs hx hy hz hdef
  go_enter Tryz.func54, Tryz.ntmps54
  go_wp2_with fail
  rw [HVV.out]
  refine HF.out.mono ?_
  rintro e1 w1 ⟨q, rfl, ⟨hx1, hx2⟩, hb⟩
  obtain ⟨p0, p1, p2, p3, p4⟩ := HBX.out w1 hb
  have HF2 := Lib.hid (HE.out w1 hb)
  clear HF HE
  go_wp2_with fail
  refine HF2.out.mono ?_
  rintro e2 w2 ⟨rfl, hb2⟩
  have hB2 := nextB hb hb2
  clear p0 p1 p2 p3 p4 HF2 hb hb2
  obtain ⟨p0, p1, p2, p3, p4⟩ := HBX.out w2 hB2
  by_cases hx0 : x = 0
  · subst hx0
    have hD := HD.out
    rw [if_neg (by decide)] at hD
    have HF3 := Lib.hid (HPT.out rfl w2 hB2)
    have hln := HLN.out rfl
    clear HPT HLN HD
    by_cases hy24 : 24 < y
    · rw [if_pos hy24] at hD
      have HZ := Lib.hid hD
      clear hD
      go_wp2_with fail
      refine HF3.out.mono ?_
      rintro e3 w3 ⟨B, m, q, rfl, hO, hb⟩
      have hB3 := nextB HWV.out (nextB hB2 hb)
      have hm : 24 < m := by have := hO.len; omega
      clear HF3 hb hO p0 p1 p2 p3 p4 hB2 hln hy24
      go_wp2
      go_ret
      exact ⟨by rw [HZ.out]; rfl, hB3⟩
    · rw [if_neg hy24] at hD
      have HZ := Lib.hid hD
      clear hD
      go_wp2_with fail
      refine HF3.out.mono ?_
      rintro e3 w3 ⟨B, m, q, rfl, hO, hb⟩
      have hB3 := nextB HWV.out (nextB hB2 hb)
      have hm : m ≤ 24 := by have := hO.len; omega
      clear HF3 hb hO p0 p1 p2 p3 p4 hB2 hln hy24
      go_wp2
      go_ret
      exact ⟨by rw [HZ.out]; rfl, hB3⟩
  · have bx : (x != 0) = true := by simpa using hx0
    have hD := HD.out
    rw [if_pos hx0] at hD
    have HZ := Lib.hid hD
    clear hD HD hx0 HPT HLN
    have hB3 := nextB HWV.out hB2
    go_wp2
    go_ret
    exact ⟨by rw [HZ.out]; rfl, hB3⟩
set_option maxHeartbeats 4000000 in
theorem typed_e (S : Nat → Prop) (d : Nat) (hd : d ≤ 10) (T : Ty) (A : Option Addr) (n c : Nat) (w : World) (h : TyRd S w d T A n c) :
    Calls Tryz.prog 39 #[tyV T A n c] w (FaultIs (tyErr d T) w) := by
  have hb1 : Below w.heap.size w (w.alloc (.cells #[.int .i64 T.k, .int .i64 T.lo, .int .i64 T.hi, .int .i64 T.mx, .slice A n c] 24)) := allocB _ _
  have HF := Lib.hid (refValidate_e S d hd T A n c _ (h.below hb1))
  have hdef : tyErr d T = if tvErr d T ≠ 0 then tvErr d T else if T.k = 4 then 8 else 0 := rfl
  obtain ⟨x, hx⟩ : ∃ x, tvErr d T = x := ⟨_, rfl⟩
  obtain ⟨z, hz⟩ : ∃ z, tyErr d T = z := ⟨_, rfl⟩
  rw [hx] at HF hdef
  rw [hz] at hdef ⊢
  have HD := Lib.hid hdef
  clear h hb1 hx hz hdef
  go_enter Tryz.func39, Tryz.ntmps39
  go_wp2_with fail
  refine HF.out.mono ?_
  rintro e1 w1 ⟨rfl, hb⟩
  obtain ⟨p0, p1, p2, p3, p4⟩ := (box5_new w (.int .i64 T.k) (.int .i64 T.lo) (.int .i64 T.hi) (.int .i64 T.mx) (.slice A n c) 24).below hb (by simp)
  have hB : Below w.heap.size w w1 := nextB (allocB _ _) hb
  clear HF hb
  have hD := HD.out
  clear HD
  by_cases hx0 : x = 0
  · subst hx0
    rw [if_neg (by decide)] at hD
    by_cases k4 : T.k = 4
    · have b4 : (T.k == 4) = true := by simpa using k4
      rw [if_pos k4] at hD
      have HZ := Lib.hid hD
      clear hD k4
      go_wp2
      go_ret
      exact ⟨by rw [HZ.out]; rfl, hB⟩
    · have b4 : (T.k == 4) = false := by simpa using k4
      rw [if_neg k4] at hD
      have HZ := Lib.hid hD
      clear hD k4
      go_wp2
      go_ret
      exact ⟨by rw [HZ.out]; rfl, hB⟩
  · have bx : (x != 0) = true := by simpa using hx0
    rw [if_pos hx0] at hD
    have HZ := Lib.hid hD
    clear hD hx0
    go_wp2
    go_ret
    exact ⟨by rw [HZ.out]; rfl, hB⟩
theorem typed_x (S : Nat → Prop) (d : Nat) (T : Ty) (A : Option Addr) (n c : Nat) (w : World) (h : TyRd S w d T A n c) (hg : Good d T) (hk : T.k ≠ 4) :
    Calls Tryz.prog 39 #[tyV T A n c] w (Fine w) := by
  have := typed_e S d hg.deep T A n c w h
  rw [tyErr_zero.2 ⟨hg.zero, hk⟩] at this
  exact this
end Go.Proofs.YtklndjkblfncjaaGreatDoor
