/-
  exactppllaw07.small and few: whether a type's or a value's tree is small.
-/
import Derived.Test.YtklndjkblfncjaaGreatDoorDep7
namespace Go.Proofs.YtklndjkblfncjaaGreatDoor
open Go Go.RowKit
set_option maxRecDepth 20000

def smallP : Nat → Ty → Bool
  | 0, _ => false
  | k + 1, T => decide (T.es.length ≤ 8) && T.es.all (smallP k)
theorem smallP_deep : ∀ {k : Nat} {T : Ty}, smallP k T = true → deepOk k T
  | 0, _, h => by cases h
  | k + 1, T, h => by
    unfold smallP at h
    rw [Bool.and_eq_true, List.all_eq_true] at h
    exact fun e he => smallP_deep (h.2 e he)
theorem TyRd.cut {S : Nat → Prop} {w : World} : ∀ {D d : Nat} {T : Ty} {A : Option Addr} {n c : Nat}, TyRd S w D T A n c → deepOk d T → TyRd S w d T A n c
  | 0, _, _, _, _, _, h, _ => h.elim
  | _ + 1, 0, _, _, _, _, _, h => h.elim
  | D + 1, d + 1, T, A, n, c, h, hd => ⟨h.1, fun i e he => by
    obtain ⟨g, o, A', n', c', hA, hg, hl, hc, hr⟩ := h.2 i e he
    exact ⟨g, o, A', n', c', hA, hg, hl, hc, hr.cut (hd e (List.mem_of_getElem? he))⟩⟩
def fewP : Nat → Vl → Bool
  | 0, _ => false
  | k + 1, V => decide (V.es.length ≤ 8) && V.es.all (fewP k)
theorem all_next {α : Type} {l : List α} {f : α → Bool} {i : Nat} {e : α} (h : (l.take i).all f = true) (he : l[i]? = some e) (hf : f e = true) : (l.take (i + 1)).all f = true := by
  rw [List.take_add_one, he, List.all_append, h]
  simpa using hf
theorem all_not {α : Type} {l : List α} {f : α → Bool} {e : α} (he : e ∈ l) (hf : f e = false) : l.all f = false := by
  cases h : l.all f with
  | false => rfl
  | true => have := List.all_eq_true.1 h e he; rw [hf] at this; cases this

set_option maxHeartbeats 8000000 in
theorem small_x : ∀ (k : Nat), k ≤ 100 → ∀ (D : Nat) (S : Nat → Prop) (T : Ty) (A : Option Addr) (n c : Nat) (w : World), TyRd S w D T A n c →
    Calls Tryz.prog 5 #[tyV T A n c, .int .i64 (k : Int)] w fun e w' => e = .returned (.bool (smallP k T)) ∧ Below w.heap.size w w'
  | _, _, 0, _, _, _, _, _, _, h => h.elim
  | 0, _, d + 1, S, T, A, n, c, w, h => by
    obtain ⟨v, hv⟩ : ∃ v, w.alloc (.cells #[.int .i64 T.k, .int .i64 T.lo, .int .i64 T.hi, .int .i64 T.mx, .slice A n c] 24) = v := ⟨_, rfl⟩
    obtain ⟨hvs, hwv, hbx⟩ := box_t w _ _ _ _ _ _ v hv
    have HVV := Lib.hid hv
    have HWV := Lib.hid hwv
    clear hbx hvs hv hwv h
    go_enter Tryz.func5, Tryz.ntmps5
    go_wp2
    rw [HVV.out]
    go_ret
    exact ⟨rfl, HWV.out⟩
  | k + 1, hk, d + 1, S, T, A, n, c, w, h => by
    obtain ⟨hl, hcap, htop⟩ := h.len
    unfold maxLen at htop
    obtain ⟨v, hv⟩ : ∃ v, w.alloc (.cells #[.int .i64 T.k, .int .i64 T.lo, .int .i64 T.hi, .int .i64 T.mx, .slice A n c] 24) = v := ⟨_, rfl⟩
    obtain ⟨hvs, hwv, hbx⟩ := box_t w _ _ _ _ _ _ v hv
    have HI := Lib.hid (small_x k (by omega) d S)
    have hbv := hbx v (Below.refl _ _)
    have HBX := Lib.hid hbx
    have HVV := Lib.hid hv
    have HWV := Lib.hid hwv
    have H := Lib.hid h
    have HL := Lib.hid hl
    obtain ⟨m, hm⟩ : ∃ m, k + 1 = m := ⟨_, rfl⟩
    have e1 : (m : Int) - 1 = (k : Int) := by omega
    have hm0 : ¬ (m : Int) = 0 := by omega
    have em : ((m : Int) == 0) = false := by simpa using hm0
    obtain ⟨p0, p1, p2, p3, p4⟩ := hbv
    rw [hm]
    by_cases h8 : n ≤ 8
    rotate_left
    · have hgt : 8 < n := by omega
      have HF : Hid (smallP m T = false) := by
        show _ = _
        rw [← hm, smallP, hl]
        simp
        omega
      clear hbx hvs hv hwv h hl e1 HI
      go_enter Tryz.func5, Tryz.ntmps5
      go_wp2
      rw [HVV.out]
      rw [HF.out]
      go_ret
      exact ⟨rfl, HWV.out⟩
    · have HT : Hid (T.es.all (smallP k) = smallP m T) := by
        show _ = _
        rw [← hm, smallP, hl, decide_eq_true h8, Bool.true_and]
      clear hbx hvs hv hwv h hl hm
      have hn8 : ¬ 8 < n := by omega
      go_enter Tryz.func5, Tryz.ntmps5
      go_wp2
      rw [HVV.out]
      clear p0 p1 p2 p3 p4
      go_loopw [5] (fun iv wr => ∃ i : Nat, i ≤ n ∧ iv = .int .i64 i ∧ Hid ((T.es.take i).all (smallP k) = true ∧ Below v.heap.size v wr)) (fun iv _ => n - (intOf iv).toNat)
      case atStart => exact ⟨0, Nat.zero_le _, rfl, rfl, Below.refl _ _⟩
      case round =>
        obtain ⟨i, hi, rfl, HAB⟩ := hrel
        have HA := Lib.hid HAB.out.1
        have HB := Lib.hid HAB.out.2
        clear HAB
        obtain ⟨p0, p1, p2, p3, p4⟩ := HBX.out wr HB.out
        by_cases hlt : i < n
        · obtain ⟨e, g, o, A', n', c', he, rfl, _, hg, hc, hr⟩ := (H.out.below (nextB HWV.out HB.out)).get hlt
          obtain ⟨c0, c1, c2, c3, c4⟩ := hc
          have HF := Lib.hid (HI.out e A' n' c' wr hr)
          have HE := Lib.hid he
          clear he hr
          go_wp2_with fail
          refine HF.out.mono ?_
          rintro e1 w1 ⟨rfl, hb⟩
          have HB2 := Lib.hid (nextB HB.out hb)
          have HSE := Lib.hid (rfl : smallP k e = smallP k e)
          clear HF hb HB c0 c1 c2 c3 c4 p0 p1 p2 p3 p4
          cases hse : smallP k e with
          | true =>
            have HN := Lib.hid (all_next HA.out HE.out hse)
            clear hse HSE
            go_wp2
            go_roundw
            case rel => exact ⟨i + 1, by omega, by go_num, HN.out, HB2.out⟩
            case measure => simp [intOf] <;> omega
          | false =>
            have HN := Lib.hid (HT.out.symm.trans (all_not (List.mem_of_getElem? HE.out) hse))
            clear hse HSE
            go_wp2
            rw [HN.out]
            go_ret
            exact ⟨rfl, nextB HWV.out HB2.out⟩
        · obtain rfl : i = n := by omega
          have HN : Hid (smallP m T = true) := by
            show _ = _
            rw [← HT.out, ← HA.out, List.take_of_length_le (by rw [HL.out]; exact Nat.le_refl _)]
          go_wp2
          rw [HN.out]
          go_ret
          exact ⟨rfl, nextB HWV.out HB.out⟩
/-- A value's box. -/
theorem box_v (w : World) (x0 x1 : Value) (t : TypeId) (v : World) (hv : w.alloc (.cells #[x0, x1] t) = v) :
    v.heap.size = w.heap.size + 1 ∧ Below w.heap.size w v ∧ ∀ W, Below v.heap.size v W → Box2 W w.heap.size x0 x1 := by
  refine ⟨by rw [← hv]; simp, by rw [← hv]; exact allocB _ _, fun W hW => ?_⟩
  have h1 := box2_new w x0 x1 t
  rw [hv] at h1
  exact h1.below hW (by rw [← hv]; simp)
set_option maxHeartbeats 8000000 in
theorem few_x : ∀ (k : Nat), k ≤ 100 → ∀ (D : Nat) (S : Nat → Prop) (V : Vl) (A : Option Addr) (n c : Nat) (w : World), VlRd S w D V A n c →
    Calls Tryz.prog 6 #[vlV V A n c, .int .i64 (k : Int)] w fun e w' => e = .returned (.bool (fewP k V)) ∧ Below w.heap.size w w'
  | _, _, 0, _, _, _, _, _, _, h => h.elim
  | 0, _, d + 1, S, V, A, n, c, w, h => by
    obtain ⟨v, hv⟩ : ∃ v, w.alloc (.cells #[.int .i64 V.i, .slice A n c] 27) = v := ⟨_, rfl⟩
    obtain ⟨hvs, hwv, hbx⟩ := box_v w _ _ _ v hv
    have HVV := Lib.hid hv
    have HWV := Lib.hid hwv
    clear hbx hvs hv hwv h
    go_enter Tryz.func6, Tryz.ntmps6
    go_wp2
    rw [HVV.out]
    go_ret
    exact ⟨rfl, HWV.out⟩
  | k + 1, hk, d + 1, S, V, A, n, c, w, h => by
    obtain ⟨hl, hcap, htop⟩ := h.len
    unfold maxLen at htop
    obtain ⟨v, hv⟩ : ∃ v, w.alloc (.cells #[.int .i64 V.i, .slice A n c] 27) = v := ⟨_, rfl⟩
    obtain ⟨hvs, hwv, hbx⟩ := box_v w _ _ _ v hv
    have HI := Lib.hid (few_x k (by omega) d S)
    have hbv := hbx v (Below.refl _ _)
    have HBX := Lib.hid hbx
    have HVV := Lib.hid hv
    have HWV := Lib.hid hwv
    have H := Lib.hid h
    have HL := Lib.hid hl
    obtain ⟨m, hm⟩ : ∃ m, k + 1 = m := ⟨_, rfl⟩
    have e1 : (m : Int) - 1 = (k : Int) := by omega
    have hm0 : ¬ (m : Int) = 0 := by omega
    have em : ((m : Int) == 0) = false := by simpa using hm0
    obtain ⟨p0, p1, _, _⟩ := hbv
    rw [hm]
    by_cases h8 : n ≤ 8
    rotate_left
    · have hgt : 8 < n := by omega
      have HF : Hid (fewP m V = false) := by
        show _ = _
        rw [← hm, fewP, hl]
        simp
        omega
      clear hbx hvs hv hwv h hl e1 HI
      go_enter Tryz.func6, Tryz.ntmps6
      go_wp2
      rw [HVV.out]
      rw [HF.out]
      go_ret
      exact ⟨rfl, HWV.out⟩
    · have HT : Hid (V.es.all (fewP k) = fewP m V) := by
        show _ = _
        rw [← hm, fewP, hl, decide_eq_true h8, Bool.true_and]
      clear hbx hvs hv hwv h hl hm
      have hn8 : ¬ 8 < n := by omega
      go_enter Tryz.func6, Tryz.ntmps6
      go_wp2
      rw [HVV.out]
      clear p0 p1
      go_loopw [5] (fun iv wr => ∃ i : Nat, i ≤ n ∧ iv = .int .i64 i ∧ Hid ((V.es.take i).all (fewP k) = true ∧ Below v.heap.size v wr)) (fun iv _ => n - (intOf iv).toNat)
      case atStart => exact ⟨0, Nat.zero_le _, rfl, rfl, Below.refl _ _⟩
      case round =>
        obtain ⟨i, hi, rfl, HAB⟩ := hrel
        have HA := Lib.hid HAB.out.1
        have HB := Lib.hid HAB.out.2
        clear HAB
        obtain ⟨p0, p1, _, _⟩ := HBX.out wr HB.out
        by_cases hlt : i < n
        · obtain ⟨e, g, o, A', n', c', he, rfl, _, hg, hc, hr⟩ := (H.out.below (nextB HWV.out HB.out)).get hlt
          obtain ⟨c0, c1⟩ := hc
          have HF := Lib.hid (HI.out e A' n' c' wr hr)
          have HE := Lib.hid he
          clear he hr
          go_wp2_with fail
          refine HF.out.mono ?_
          rintro e1 w1 ⟨rfl, hb⟩
          have HB2 := Lib.hid (nextB HB.out hb)
          have HSE := Lib.hid (rfl : fewP k e = fewP k e)
          clear HF hb HB c0 c1 p0 p1
          cases hse : fewP k e with
          | true =>
            have HN := Lib.hid (all_next HA.out HE.out hse)
            clear hse HSE
            go_wp2
            go_roundw
            case rel => exact ⟨i + 1, by omega, by go_num, HN.out, HB2.out⟩
            case measure => simp [intOf] <;> omega
          | false =>
            have HN := Lib.hid (HT.out.symm.trans (all_not (List.mem_of_getElem? HE.out) hse))
            clear hse HSE
            go_wp2
            rw [HN.out]
            go_ret
            exact ⟨rfl, nextB HWV.out HB2.out⟩
        · obtain rfl : i = n := by omega
          have HN : Hid (fewP m V = true) := by
            show _ = _
            rw [← HT.out, ← HA.out, List.take_of_length_le (by rw [HL.out]; exact Nat.le_refl _)]
          go_wp2
          rw [HN.out]
          go_ret
          exact ⟨rfl, nextB HWV.out HB.out⟩
end Go.Proofs.YtklndjkblfncjaaGreatDoor
