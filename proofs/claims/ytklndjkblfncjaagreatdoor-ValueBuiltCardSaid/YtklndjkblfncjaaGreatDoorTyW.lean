/-
  Package types on valid types: width, deeper, Validate: no error is found.
-/
import Derived.Test.YtklndjkblfncjaaGreatDoorTyF
import Derived.Test.YtklndjkblfncjaaGreatDoorErrP
namespace Go.Proofs.YtklndjkblfncjaaGreatDoor
open Go Go.RowKit
set_option maxRecDepth 20000

def NotDeep (w : World) (e : Ending) (w' : World) : Prop := e = .returned (.bool false) ∧ Below w.heap.size w w'
def DeepAt (l : Nat) : Prop := ∀ (S : Nat → Prop) (T : Ty) (A : Option Addr) (n c : Nat) (w : World), TyRd S w l T A n c → Calls Tryz.prog 61 #[tyV T A n c, .int .i64 l] w (NotDeep w)

set_option maxHeartbeats 4000000 in
theorem closure_x (l : Nat) (hl : l ≤ 100) (IH : DeepAt l) (S : Nat → Prop) (T : Ty) (A : Option Addr) (n c b : Nat) (w : World) (h : TyRd S w l T A n c) (hb : b < w.heap.size) (hc : w.cell? ⟨b, 0, none⟩ = some (.int .i64 ((l + 1 : Nat) : Int))) :
    Calls Tryz.prog 75 #[tyV T A n c, .pointer (some ⟨b, 0, none⟩)] w (NotDeep w) := by
  have hb1 : Below w.heap.size w (w.alloc (.cells #[.int .i64 T.k, .int .i64 T.lo, .int .i64 T.hi, .int .i64 T.mx, .slice A n c] 24)) := allocB _ _
  have HF := Lib.hid (IH S T A n c _ (h.below hb1))
  have hc1 := (hb1.cell (p := ⟨b, 0, none⟩) hb).trans hc
  have e1 : ((l + 1 : Nat) : Int) - 1 = (l : Int) := by omega
  clear h IH hb1 hc
  go_enter Tryz.func75, Tryz.ntmps75
  go_wp2_with fail
  refine HF.out.mono ?_
  rintro e1 w1 ⟨rfl, hb⟩
  have hB2 : Below w.heap.size w w1 := nextB (allocB _ _) hb
  clear HF hb
  go_wp2
  go_ret
  exact ⟨rfl, hB2⟩

set_option maxHeartbeats 4000000 in
theorem index_x (l : Nat) (hl : l ≤ 100) (IH : DeepAt l) (S : Nat → Prop) (T : Ty) (A : Option Addr) (n c b : Nat) (w : World) (h : TyRd S w (l + 1) T A n c) (hb : b < w.heap.size) (hc : w.cell? ⟨b, 0, none⟩ = some (.int .i64 ((l + 1 : Nat) : Int))) :
    Calls Tryz.prog 90 #[.slice A n c, .func (.func 75) #[] #[.pointer (some ⟨b, 0, none⟩)]] w fun e w' => e = .returned (.int .i64 (-1)) ∧ Below w.heap.size w w' := by
  obtain ⟨hl1, hcap, htop⟩ := h.len
  have H := Lib.hid h
  have HC := Lib.hid hc
  have HI : Hid (∀ (T : Ty) (A : Option Addr) (n c : Nat) (W : World), TyRd S W l T A n c → Below w.heap.size w W → Calls Tryz.prog 75 #[tyV T A n c, .pointer (some ⟨b, 0, none⟩)] W (NotDeep W)) := fun T A n c W hT hW => closure_x l hl IH S T A n c b W hT (Nat.lt_of_lt_of_le hb hW.size) ((hW.cell (p := ⟨b, 0, none⟩) hb).trans hc)
  clear h hc IH hl1
  unfold maxLen at htop
  go_enter Tryz.func90, Tryz.ntmps90
  go_wp2
  go_loopw [8] (fun iv wr => ∃ i : Nat, i ≤ n ∧ iv = .int .i64 i ∧ Below w.heap.size w wr) (fun iv _ => n - (intOf iv).toNat)
  case atStart => exact ⟨0, Nat.zero_le _, rfl, Below.refl _ _⟩
  case round =>
    obtain ⟨i, hi, rfl, hB⟩ := hrel
    by_cases hlt : i < n
    · obtain ⟨e, g, o, A', n', c', he, rfl, _, hg, hc, hr⟩ := (H.out.below hB).get hlt
      obtain ⟨c0, c1, c2, c3, c4⟩ := hc
      have HF := Lib.hid (HI.out e A' n' c' _ hr hB)
      clear he hr
      go_wp2_with fail
      refine HF.out.mono ?_
      rintro e1 w1 ⟨rfl, hb⟩
      have hB2 : Below w.heap.size w w1 := nextB hB hb
      clear HF hb hB c0 c1 c2 c3 c4
      go_wp2
      go_roundw
      case rel => exact ⟨i + 1, by omega, by go_num, hB2⟩
      case measure => simp [intOf] <;> omega
    · obtain rfl : i = n := by omega
      go_wp2
      go_ret
      exact ⟨rfl, hB⟩

set_option maxHeartbeats 4000000 in
theorem contains_x (l : Nat) (hl : l ≤ 100) (IH : DeepAt l) (S : Nat → Prop) (T : Ty) (A : Option Addr) (n c b : Nat) (w : World) (h : TyRd S w (l + 1) T A n c) (hb : b < w.heap.size) (hc : w.cell? ⟨b, 0, none⟩ = some (.int .i64 ((l + 1 : Nat) : Int))) :
    Calls Tryz.prog 74 #[.slice A n c, .func (.func 75) #[] #[.pointer (some ⟨b, 0, none⟩)]] w (NotDeep w) := by
  have HF := Lib.hid (index_x l hl IH S T A n c b w h hb hc)
  clear h hc IH
  go_enter Tryz.func74, Tryz.ntmps74
  go_wp2_with fail
  refine HF.out.mono ?_
  rintro e1 w1 ⟨rfl, hB⟩
  clear HF
  go_wp2
  go_ret
  exact ⟨rfl, hB⟩

set_option maxHeartbeats 4000000 in
theorem deeper_x : ∀ l, l ≤ 100 → DeepAt l
  | 0, _, _, _, _, _, _, _, h => h.elim
  | l + 1, hl, S, T, A, n, c, w, h => by
    have IH := deeper_x l (by omega)
    have hb1 : Below w.heap.size w ((w.alloc (.cells #[.int .i64 T.k, .int .i64 T.lo, .int .i64 T.hi, .int .i64 T.mx, .slice A n c] 24)).alloc (.cells #[.int .i64 ((l + 1 : Nat) : Int)] 3)) := ((Below.refl _ _).alloc (Nat.le_refl _) _).alloc (by simp) _
    have HF := Lib.hid (contains_x l (by omega) IH S T A n c (w.heap.size + 1) _ (h.below hb1) (by simp) (by simp))
    have e1 : (((l + 1 : Nat) : Int) == 0) = false := by simp; omega
    have HB := Lib.hid hb1
    clear h IH hb1
    go_enter Tryz.func61, Tryz.ntmps61
    go_wp2_with fail
    refine HF.out.mono ?_
    rintro e1 w1 ⟨rfl, hB⟩
    have hB2 := nextB HB.out hB
    clear HF hB
    go_wp2
    go_ret
    exact ⟨rfl, hB2⟩

/-- The width of a valid type comes back. -/
def Wide (x : Nat) (w : World) (e : Ending) (w' : World) : Prop := e = .returned (.int .i64 (x : Int)) ∧ Below w.heap.size w w'
def WidthAt (d : Nat) : Prop := ∀ (S : Nat → Prop) (T : Ty) (A : Option Addr) (n c : Nat) (w : World), TyRd S w d T A n c → TyOk d T → twidth d T ≤ 5242880 → Calls Tryz.prog 63 #[tyV T A n c] w (Wide (twidth d T) w)
theorem sum_le {l : List Nat} {x : Nat} (h : x ∈ l) : x ≤ l.sum := by
  induction l with
  | nil => cases h
  | cons y l ih =>
    rw [List.sum_cons]
    rcases List.mem_cons.1 h with rfl | h
    · omega
    · have := ih h; omega
theorem sum_take_le (l : List Nat) (i : Nat) : (l.take i).sum ≤ l.sum := by
  induction l generalizing i with
  | nil => simp
  | cons y l ih =>
    cases i with
    | zero => simp
    | succ i => rw [List.take_succ_cons, List.sum_cons, List.sum_cons]; have := ih i; omega
theorem sum_next {l : List Nat} {i x : Nat} (h : l[i]? = some x) : (l.take (i + 1)).sum = (l.take i).sum + x := by
  rw [List.take_add_one, h]; simp

set_option maxHeartbeats 8000000 in
theorem width_x : ∀ d, WidthAt d
  | 0, _, _, _, _, _, _, h, _, _ => h.elim
  | d + 1, S, T, A, n, c, w, h, hok, hw => by
    have IH := width_x d
    obtain ⟨hl, hcap, htop⟩ := h.len
    unfold maxLen at htop
    by_cases k5 : T.k = 5
    · have b5 : (T.k == 5) = true := by simpa using k5
      have hW : twidth (d + 1) T = (T.es.map (twidth d)).sum := by simp only [twidth, if_pos k5]
      obtain ⟨hz, hn2, hn4, hels⟩ := hok.tuple k5
      have HWW := Lib.hid hW
      rw [hW] at hw
      have HIE : Hid (∀ i e, T.es[i]? = some e → (twidth d e ≤ 5242880 ∧ ((T.es.map (twidth d)).take i).sum + twidth d e ≤ 5242880 ∧ ((T.es.map (twidth d)).take (i + 1)).sum = ((T.es.map (twidth d)).take i).sum + twidth d e) ∧ ∀ A' n' c' W, TyRd S W d e A' n' c' → Calls Tryz.prog 63 #[tyV e A' n' c'] W (Wide (twidth d e) W)) := by
        intro i e he
        have h1 : (T.es.map (twidth d))[i]? = some (twidth d e) := by rw [List.getElem?_map, he]; rfl
        have h2 := sum_next h1
        have h3 := sum_take_le (T.es.map (twidth d)) (i + 1)
        have h4 := sum_le (List.mem_of_getElem? h1)
        exact ⟨⟨by omega, by omega, h2⟩, fun A' n' c' W hr => IH S e A' n' c' W hr (hels e (List.mem_of_getElem? he)).1 (by omega)⟩
      have H := Lib.hid h
      have HLN := Lib.hid hl
      clear h hok IH hels hz k5 hW hw hl hn2 hn4
      go_enter Tryz.func63, Tryz.ntmps63
      go_wp2
      go_loopw [3, 13] (fun sv iv wr => ∃ i s : Nat, i ≤ n ∧ iv = .int .i64 i ∧ sv = .int .i64 s ∧ Hid (s = ((T.es.map (twidth d)).take i).sum) ∧ Below w.heap.size w wr) (fun _ iv _ => n - (intOf iv).toNat)
      case atStart => exact ⟨0, 0, Nat.zero_le _, rfl, rfl, rfl, allocB _ _⟩
      case round =>
        obtain ⟨i, s, hi, rfl, rfl, HSS, hB⟩ := hrel
        by_cases hlt : i < n
        · obtain ⟨e, g, o, A', n', c', he, rfl, _, hg, hc, hr⟩ := (H.out.below hB).get hlt
          obtain ⟨c0, c1, c2, c3, c4⟩ := hc
          obtain ⟨⟨h1, h2, h3⟩, h4⟩ := HIE.out i e he
          have HF := Lib.hid (h4 A' n' c' _ (hr.below (allocB wr (.cells #[.int .i64 e.k, .int .i64 e.lo, .int .i64 e.hi, .int .i64 e.mx, .slice A' n' c'] 24))))
          obtain ⟨x, hx⟩ : ∃ x, twidth d e = x := ⟨_, rfl⟩
          rw [hx] at h1 h2 h3 HF
          rw [← HSS.out] at h2 h3
          have HS2 : Hid (s + x = ((T.es.map (twidth d)).take (i + 1)).sum) := h3.symm
          clear he hr h3 h4 hx HSS
          go_wp2_with fail
          refine HF.out.mono ?_
          rintro e1 w1 ⟨rfl, hb⟩
          have hB2 : Below w.heap.size w w1 := nextB hB (nextB (allocB _ _) hb)
          clear hb hB HF c0 c1 c2 c3 c4
          go_wp2
          go_roundw
          case rel => exact ⟨i + 1, s + x, by omega, by go_num, by go_num, HS2, hB2⟩
          case measure => simp [intOf] <;> omega
        · obtain rfl : i = n := by omega
          have hfin : s = twidth (d + 1) T := by
            rw [HWW.out, HSS.out, List.take_of_length_le (by rw [List.length_map, HLN.out]; exact Nat.le_refl _)]
          clear HSS HWW
          subst hfin
          go_wp2
          go_ret
          exact ⟨rfl, hB⟩
    · have b5 : (T.k == 5) = false := by simpa using k5
      by_cases k6 : T.k = 6
      · have b6 : (T.k == 6) = true := by simpa using k6
        obtain ⟨hz, hm1, hm4, x, hx, hox, hkx⟩ := hok.list k6
        obtain rfl : n = 1 := by rw [← hl, hx]; rfl
        obtain ⟨e, g, o, A', n', c', he, rfl, _, hg, hc, hr⟩ := h.get (i := 0) (by omega)
        obtain rfl : e = x := by rw [hx] at he; simpa using he.symm
        have hwe : twidth d e = 1 := by
          cases d with
          | zero => exact hr.elim
          | succ d =>
            simp only [twidth]
            rw [if_neg (by omega), if_neg (by omega)]
        have hW : twidth (d + 1) T = 1 + T.mx.toNat := by
          simp only [twidth, if_neg k5, if_pos k6, hx, List.map_cons, List.headD_cons, hwe, Nat.mul_one]
        obtain ⟨m, hm⟩ := Int.eq_ofNat_of_zero_le (show 0 ≤ T.mx by omega)
        have hfin : (1 + T.mx : Int) = ((twidth (d + 1) T : Nat) : Int) := by rw [hW, hm]; simp
        have HFIN := Lib.hid hfin
        have HF : Hid (∀ W, Below (w.alloc (.cells #[.int .i64 T.k, .int .i64 T.lo, .int .i64 T.hi, .int .i64 T.mx, .slice (some ⟨g, o, none⟩) 1 c] 24)).heap.size (w.alloc (.cells #[.int .i64 T.k, .int .i64 T.lo, .int .i64 T.hi, .int .i64 T.mx, .slice (some ⟨g, o, none⟩) 1 c] 24)) W → Calls Tryz.prog 63 #[tyV e A' n' c'] W (Wide 1 W)) := by
          intro W hW
          have := IH S e A' n' c' W ((hr.below (allocB _ _)).below hW) hox (by omega)
          rw [hwe] at this
          exact this
        obtain ⟨v, hv⟩ : ∃ v, w.alloc (.cells #[.int .i64 T.k, .int .i64 T.lo, .int .i64 T.hi, .int .i64 T.mx, .slice (some ⟨g, o, none⟩) 1 c] 24) = v := ⟨_, rfl⟩
        have hwv : Below w.heap.size w v := by rw [← hv]; exact allocB _ _
        rw [hv] at HF
        have HS : Hid (∀ W, Below v.heap.size v W → Box5 W w.heap.size (.int .i64 T.k) (.int .i64 T.lo) (.int .i64 T.hi) (.int .i64 T.mx) (.slice (some ⟨g, o, none⟩) 1 c) ∧ TyCells W g o e A' n' c') := by
          intro W hW
          refine ⟨?_, ?_⟩
          · have := box5_new w (.int .i64 T.k) (.int .i64 T.lo) (.int .i64 T.hi) (.int .i64 T.mx) (.slice (some ⟨g, o, none⟩) 1 c) 24
            rw [hv] at this
            exact this.below hW (by rw [← hv]; simp)
          · have := hc.keep ((nextB hwv hW).block g hg)
            simpa using this
        have HV := Lib.hid hv
        have e1 : IntKind.i64.wrap (T.mx * 1) = T.mx := by rw [Int.mul_one, IntKind.wrap_i64]; omega
        have e2 : IntKind.i64.wrap (1 + T.mx) = 1 + T.mx := by rw [IntKind.wrap_i64]; omega
        clear h hok IH hz k5 k6 hx he hox hkx hc hr hwe hW hw hl hv hfin
        clear hm
        go_enter Tryz.func63, Tryz.ntmps63
        go_wp2_with fail
        rw [HV.out]
        have hk := (Below.refl v.heap.size v).drew
        refine wp_region_held_drew (S := fun W => Below v.heap.size v W) (by kernel_rfl) ?_ (fun hHeld => ?_)
        · exact hk
        refine tkH (i := 0) (oi := ⟨some 25, _, _, _, _, _⟩) (v := ?_) ?_ ?_
        rotate_left
        · intro w hSw
          obtain ⟨⟨p0, p1, p2, p3, p4⟩, ⟨q0, q1, q2, q3, q4⟩⟩ := HS.out w hSw
          go_simp
          try with_reducible rfl
        try simp only [Act.put, List.setIfInBounds_toArray, List.set_cons_zero, List.set_cons_succ]
        refine tkH (i := 1) (oi := ⟨some 26, _, _, _, _, _⟩) (v := ?_) ?_ ?_
        rotate_left
        · intro w hSw
          obtain ⟨⟨p0, p1, p2, p3, p4⟩, ⟨q0, q1, q2, q3, q4⟩⟩ := HS.out w hSw
          go_simp
          try with_reducible rfl
        try simp only [Act.put, List.setIfInBounds_toArray, List.set_cons_zero, List.set_cons_succ]
        refine tkH (i := 2) (oi := ⟨some 27, _, _, _, _, _⟩) (v := ?_) ?_ ?_
        rotate_left
        · intro w hSw
          obtain ⟨⟨p0, p1, p2, p3, p4⟩, ⟨q0, q1, q2, q3, q4⟩⟩ := HS.out w hSw
          go_simp
          try with_reducible rfl
        try simp only [Act.put, List.setIfInBounds_toArray, List.set_cons_zero, List.set_cons_succ]
        refine tkH (i := 3) (oi := ⟨some 28, _, _, _, _, _⟩) (v := ?_) ?_ ?_
        rotate_left
        · intro w hSw
          obtain ⟨⟨p0, p1, p2, p3, p4⟩, ⟨q0, q1, q2, q3, q4⟩⟩ := HS.out w hSw
          go_simp
          try with_reducible rfl
        try simp only [Act.put, List.setIfInBounds_toArray, List.set_cons_zero, List.set_cons_succ]
        refine tkH (i := 4) (oi := ⟨some 29, _, _, _, _, _⟩) (v := ?_) ?_ ?_
        rotate_left
        · intro w hSw
          obtain ⟨⟨p0, p1, p2, p3, p4⟩, ⟨q0, q1, q2, q3, q4⟩⟩ := HS.out w hSw
          go_simp
          try with_reducible rfl
        try simp only [Act.put, List.setIfInBounds_toArray, List.set_cons_zero, List.set_cons_succ]
        refine tkH (i := 5) (oi := ⟨some 30, _, _, _, _, _⟩) (v := ?_) ?_ ?_
        rotate_left
        · intro w hSw
          obtain ⟨⟨p0, p1, p2, p3, p4⟩, ⟨q0, q1, q2, q3, q4⟩⟩ := HS.out w hSw
          go_simp
          try with_reducible rfl
        try simp only [Act.put, List.setIfInBounds_toArray, List.set_cons_zero, List.set_cons_succ]
        refine wpAnyH_ready (rs := [6]) (by kernel_rfl) (by simp) ?_
        refine AllReadyH.cons (o := ⟨some 31, _, _, _, _, _⟩) rfl (fun K hK => ?_) AllReadyH.nil
        go_simp
        go_at_call 63
        refine (HF.out _ hk).mono ?_
        rintro e1 w1 ⟨rfl, hb⟩
        replace hk := hk.trans (hb.mono hk.size)
        go_wp2_with fail
        refine hK.out _ _ hk (fun hHeld => ?_)
        clear hK K
        try simp only [Act.put, List.setIfInBounds_toArray, List.set_cons_zero, List.set_cons_succ]
        refine tkH (i := 7) (oi := ⟨some 32, _, _, _, _, _⟩) (v := ?_) ?_ ?_
        rotate_left
        · intro w hSw
          obtain ⟨⟨p0, p1, p2, p3, p4⟩, ⟨q0, q1, q2, q3, q4⟩⟩ := HS.out w hSw
          go_simp
          try with_reducible rfl
        try simp only [Act.put, List.setIfInBounds_toArray, List.set_cons_zero, List.set_cons_succ]
        refine tkH (i := 8) (oi := ⟨some 33, _, _, _, _, _⟩) (v := ?_) ?_ ?_
        rotate_left
        · intro w hSw
          obtain ⟨⟨p0, p1, p2, p3, p4⟩, ⟨q0, q1, q2, q3, q4⟩⟩ := HS.out w hSw
          go_simp
          try with_reducible rfl
        try simp only [Act.put, List.setIfInBounds_toArray, List.set_cons_zero, List.set_cons_succ]
        refine tkH (i := 9) (oi := ⟨some 2, _, _, _, _, _⟩) (v := ?_) ?_ ?_
        rotate_left
        · intro w hSw
          obtain ⟨⟨p0, p1, p2, p3, p4⟩, ⟨q0, q1, q2, q3, q4⟩⟩ := HS.out w hSw
          go_simp
          try with_reducible rfl
        try simp only [Act.put, List.setIfInBounds_toArray, List.set_cons_zero, List.set_cons_succ]
        refine wpAnyH_done (by kernel_rfl) ?_ _
        go_wp2
        go_ret
        refine ⟨?_, nextB hwv hk⟩
        have e0 : IntKind.i64.wrap T.mx = T.mx := by rw [IntKind.wrap_i64]; omega
        show Ending.returned (.int .i64 (IntKind.i64.wrap (1 + IntKind.i64.wrap T.mx))) = _
        rw [e0, e2, HFIN.out]
      · have b6 : (T.k == 6) = false := by simpa using k6
        have hW : twidth (d + 1) T = 1 := by simp only [twidth, if_neg k5, if_neg k6]
        rw [hW]
        clear h hok IH k5 k6 hW hw hl
        go_enter Tryz.func63, Tryz.ntmps63
        go_wp2
        go_ret
        exact ⟨rfl, allocB _ _⟩

/-- A valid type as the walks meet it: to the depth d, without an error, of at most 24 cells. -/
structure Good (d : Nat) (T : Ty) : Prop where
  ok : TyOk d T
  wide : twidth d T ≤ 24
  deep : d ≤ 10

theorem TyRd.deep {S : Nat → Prop} {w : World} : ∀ {d : Nat} {T : Ty} {A : Option Addr} {n c : Nat}, TyRd S w d T A n c → deepOk d T
  | 0, _, _, _, _, h => h
  | d + 1, T, A, n, c, h => fun e he => by
    obtain ⟨i, hi, rfl⟩ := List.mem_iff_getElem.1 he
    obtain ⟨g, o, A', n', c', _, _, _, _, hr⟩ := h.2 i _ (List.getElem?_eq_getElem hi)
    exact hr.deep
theorem Good.zero {d : Nat} {T : Ty} (h : Good d T) : tvErr d T = 0 := tvErr_zero.2 ⟨h.ok, h.wide⟩
theorem good_of {d : Nat} {T : Ty} (h : tvErr d T = 0) (hd : d ≤ 10) : Good d T := ⟨(tvErr_zero.1 h).1, (tvErr_zero.1 h).2, hd⟩
theorem tyErr_good {d : Nat} {T : Ty} (h : tyErr d T = 0) (hd : d ≤ 10) : Good d T ∧ T.k ≠ 4 := ⟨good_of (tyErr_zero.1 h).1 hd, (tyErr_zero.1 h).2⟩
theorem Good.none {d : Nat} {T : Ty} (h : Good d T) (hk : T.k ≠ 4) : tyErr d T = 0 := tyErr_zero.2 ⟨h.zero, hk⟩
theorem ckErr_good {d : Nat} {T : Ty} {V : Vl} (h : Good d T) (hk : T.k ≠ 4) : ckErr d T V = verr d T V := by
  unfold ckErr
  rw [if_neg (by simpa using h.none hk)]

set_option maxHeartbeats 4000000 in
theorem validate_e (S : Nat → Prop) (d : Nat) (hd : d ≤ 10) (T : Ty) (A : Option Addr) (n c : Nat) (w : World) (h : TyRd S w d T A n c) :
    Calls Tryz.prog 48 #[tyV T A n c] w (FaultIs (tvErr d T) w) := by
  have hb1 : Below w.heap.size w (w.alloc (.cells #[.int .i64 T.k, .int .i64 T.lo, .int .i64 T.hi, .int .i64 T.mx, .slice A n c] 24)) := allocB _ _
  have HB1 := Lib.hid hb1
  have HF := Lib.hid (deeper_x 10 (by omega) S T A n c _ ((h.below hb1).le hd))
  have HE : Hid (∀ W, Below w.heap.size w W → Calls Tryz.prog 62 #[tyV T A n c] W (FaultIs (terr d T) W)) := fun W hW => fault_e d S T A n c W (h.below hW)
  have HWD : Hid (terr d T = 0 → ∀ W, Below w.heap.size w W → Calls Tryz.prog 63 #[tyV T A n c] W (Wide (twidth d T) W)) := fun h0 W hW => width_x d S T A n c W (h.below hW) h0 (width_top h.deep h0 hd)
  have HTOP : Hid (terr d T = 0 → twidth d T ≤ 5242880) := fun h0 => width_top h.deep h0 hd
  have hdef : tvErr d T = if terr d T ≠ 0 then terr d T else if 24 < twidth d T then 9 else 0 := rfl
  obtain ⟨x, hx⟩ : ∃ x, terr d T = x := ⟨_, rfl⟩
  obtain ⟨y, hy⟩ : ∃ y, twidth d T = y := ⟨_, rfl⟩
  obtain ⟨z, hz⟩ : ∃ z, tvErr d T = z := ⟨_, rfl⟩
  rw [hx] at HE HWD HTOP hdef
  rw [hy] at HWD HTOP hdef
  rw [hz] at hdef ⊢
  have HD := Lib.hid hdef
  clear h hb1 hx hy hz hdef
  go_enter Tryz.func48, Tryz.ntmps48
  go_wp2_with fail
  refine HF.out.mono ?_
  rintro e1 w1 ⟨rfl, hb⟩
  obtain ⟨p0, p1, p2, p3, p4⟩ := (box5_new w (.int .i64 T.k) (.int .i64 T.lo) (.int .i64 T.hi) (.int .i64 T.mx) (.slice A n c) 24).below hb (by simp)
  have hB := nextB HB1.out hb
  have HF2 := Lib.hid (HE.out w1 hB)
  clear HF hb HE
  go_wp2_with fail
  refine HF2.out.mono ?_
  rintro e2 w2 ⟨rfl, hb⟩
  have hsz : w.heap.size < w1.heap.size := by have := hB.size; have := World.block_lt_of_cell? w1 ⟨w.heap.size, 0, none⟩ p0; exact this
  obtain ⟨q0, q1, q2, q3, q4⟩ := Box5.below ⟨p0, p1, p2, p3, p4⟩ hb hsz
  have hB2 := nextB hB hb
  clear HF2 hb p0 p1 p2 p3 p4 hsz
  by_cases hx0 : x = 0
  · subst hx0
    have hD := HD.out
    rw [if_neg (by decide)] at hD
    have HF3 := Lib.hid (HWD.out rfl w2 hB2)
    have hwd := HTOP.out rfl
    clear HWD HTOP HD
    by_cases hy24 : 24 < y
    · rw [if_pos hy24] at hD
      have HZ := Lib.hid hD
      clear hD
      go_wp2_with fail
      refine HF3.out.mono ?_
      rintro e3 w3 ⟨rfl, hb⟩
      have hB3 := nextB hB2 hb
      clear HF3 hb q0 q1 q2 q3 q4
      go_wp2
      go_ret
      exact ⟨by rw [HZ.out]; rfl, hB3⟩
    · rw [if_neg hy24] at hD
      have HZ := Lib.hid hD
      clear hD
      go_wp2_with fail
      refine HF3.out.mono ?_
      rintro e3 w3 ⟨rfl, hb⟩
      have hB3 := nextB hB2 hb
      clear HF3 hb q0 q1 q2 q3 q4
      go_wp2
      go_ret
      exact ⟨by rw [HZ.out]; rfl, hB3⟩
  · have bx : (x != 0) = true := by simpa using hx0
    have hD := HD.out
    rw [if_pos hx0] at hD
    have HZ := Lib.hid hD
    clear hD HD hx0 HWD HTOP
    go_wp2
    go_ret
    exact ⟨by rw [HZ.out]; rfl, hB2⟩
theorem validate_x (S : Nat → Prop) (d : Nat) (T : Ty) (A : Option Addr) (n c : Nat) (w : World) (h : TyRd S w d T A n c) (hg : Good d T) :
    Calls Tryz.prog 48 #[tyV T A n c] w (Fine w) := by
  have := validate_e S d hg.deep T A n c w h
  rw [hg.zero] at this
  exact this
end Go.Proofs.YtklndjkblfncjaaGreatDoor
