/-
  The reference's Same of two values: true exactly if they are one value.
-/
import Derived.Test.YtklndjkblfncjaaDoorSame7
namespace Go.Proofs.YtklndjkblfncjaaDoor
open Go Go.RowKit
set_option maxRecDepth 20000

def SaysIff (p : Prop) (w : World) (e : Ending) (w' : World) : Prop := ∃ b : Bool, e = .returned (.bool b) ∧ (b = true ↔ p) ∧ Below w.heap.size w w'
theorem take_next_eq {α : Type} {l r : List α} {i : Nat} {x : α} (h : l.take i = r.take i) (hl : l[i]? = some x) (hr : r[i]? = some x) : l.take (i + 1) = r.take (i + 1) := by
  rw [List.take_add_one, List.take_add_one, h, hl, hr]
set_option maxHeartbeats 8000000 in
theorem same2_x : ∀ (d : Nat) (S S' : Nat → Prop) (V V' : Vl) (A B : Option Addr) (n c m q d' : Nat) (w : World), VlRd S w d V A n c → VlRd S' w d' V' B m q → Calls Tryd.prog 11 #[vlV V A n c, vlV V' B m q] w (SaysIff (V = V') w)
  | 0, _, _, _, _, _, _, _, _, _, _, _, _, h, _ => h.elim
  | d + 1, S, S', V, V', A, B, n, c, m, q, d'', w, h, h' => by
    have IH := same2_x d
    cases d'' with
    | zero => exact h'.elim
    | succ d' =>
    obtain ⟨hl, hcap, htop⟩ := h.len
    obtain ⟨hl', hcap', htop'⟩ := h'.len
    unfold maxLen at htop htop'
    obtain ⟨v, hv⟩ : ∃ v, (w.alloc (.cells #[.int .i64 V.i, .slice A n c] 31)).alloc (.cells #[.int .i64 V'.i, .slice B m q] 31) = v := ⟨_, rfl⟩
    have hwv : Below w.heap.size w v := by rw [← hv]; exact ((Below.refl _ _).alloc (Nat.le_refl _) _).alloc (by simp) _
    have hbx : ∀ W, Below v.heap.size v W → Box2 W w.heap.size (.int .i64 V.i) (.slice A n c) ∧ Box2 W (w.heap.size + 1) (.int .i64 V'.i) (.slice B m q) := by
      intro W hW
      have h1 := (box2_new w (.int .i64 V.i) (.slice A n c) 31).below (allocB _ (.cells #[.int .i64 V'.i, .slice B m q] 31)) (by simp)
      have h2 := box2_new (w.alloc (.cells #[.int .i64 V.i, .slice A n c] 31)) (.int .i64 V'.i) (.slice B m q) 31
      rw [hv] at h1 h2
      rw [World.size_alloc] at h2
      exact ⟨h1.below hW (by rw [← hv]; simp; omega), h2.below hW (by rw [← hv]; simp)⟩
    have HBX := Lib.hid hbx
    have HV := Lib.hid hv
    have HWV := Lib.hid hwv
    have H := Lib.hid h
    have H' := Lib.hid h'
    have HI := Lib.hid IH
    have HL := Lib.hid hl
    have HL' := Lib.hid hl'
    clear hv hwv hbx h h' IH hl hl'
    by_cases hi : V.i = V'.i
    rotate_left
    · have bi : (V.i != V'.i) = true := by simpa using hi
      have HE : Hid (V ≠ V') := fun e => hi (by rw [e])
      obtain ⟨⟨p0, p1, pf0, pf1⟩, q0, q1, qf0, qf1⟩ := HBX.out v (Below.refl _ _)
      clear hi HBX HI H H' HL HL'
      go_enter Tryd.func11, Tryd.ntmps11
      go_wp2
      rw [HV.out]
      go_ret
      exact ⟨false, rfl, ⟨(fun e => nomatch e), fun e => absurd e HE.out⟩, HWV.out⟩
    have bi : (V.i != V'.i) = false := by simpa using hi
    have HVI := Lib.hid hi
    clear hi
    by_cases hmn : n = m
    rotate_left
    · have bz : ¬ (n : Int) = (m : Int) := by omega
      have bn : ((n : Int) != (m : Int)) = true := bne_iff_ne.2 bz
      clear bz
      have HE : Hid (V ≠ V') := fun e => hmn (by rw [← HL.out, ← HL'.out, e])
      obtain ⟨⟨p0, p1, pf0, pf1⟩, q0, q1, qf0, qf1⟩ := HBX.out v (Below.refl _ _)
      clear hmn HBX HI H H' HL HL' HVI
      go_enter Tryd.func11, Tryd.ntmps11
      go_wp2
      rw [HV.out]
      go_ret
      exact ⟨false, rfl, ⟨(fun e => nomatch e), fun e => absurd e HE.out⟩, HWV.out⟩
    subst hmn
    go_enter Tryd.func11, Tryd.ntmps11
    go_wp2
    rw [HV.out]
    go_loopw [5] (fun iv wr => ∃ i : Nat, i ≤ n ∧ iv = .int .i64 i ∧ Hid (Below v.heap.size v wr ∧ V.es.take i = V'.es.take i)) (fun iv _ => n - (intOf iv).toNat)
    case atStart => exact ⟨0, Nat.zero_le _, rfl, Below.refl _ _, by simp⟩
    case round =>
      obtain ⟨i, hi, rfl, HB⟩ := hrel
      obtain ⟨⟨p0, p1, _, _⟩, q0, q1, _, _⟩ := HBX.out wr HB.out.1
      by_cases hlt : i < n
      · obtain ⟨e, g, o, A', n', c', he, rfl, _, hg, hc, hr⟩ := (H.out.below (nextB HWV.out HB.out.1)).get hlt
        obtain ⟨e', g', o', B', n2, c2, he', rfl, _, hg', hc', hr'⟩ := (H'.out.below (nextB HWV.out HB.out.1)).get hlt
        have HEE : Hid (V.es[i]? = some e ∧ V'.es[i]? = some e') := ⟨he, he'⟩
        have HS : Hid (∀ W, Below wr.heap.size wr W → Box2 W w.heap.size (.int .i64 V.i) (.slice (some ⟨g, o, none⟩) n c) ∧ Box2 W (w.heap.size + 1) (.int .i64 V'.i) (.slice (some ⟨g', o', none⟩) n q) ∧ VlCells W g (o + i * 2) e A' n' c' ∧ VlCells W g' (o' + i * 2) e' B' n2 c2) := by
          intro W hW
          obtain ⟨h1, h2⟩ := HBX.out W (nextB HB.out.1 hW)
          exact ⟨h1, h2, hc.keep (hW.block g hg), hc'.keep (hW.block g' hg')⟩
        have HF : Hid (∀ W, Below wr.heap.size wr W → Calls Tryd.prog 11 #[vlV e A' n' c', vlV e' B' n2 c2] W (SaysIff (e = e') W)) := fun W hW => HI.out S S' e e' A' B' n' c' n2 c2 d' W (hr.below hW) (hr'.below hW)
        have hk := (Below.refl wr.heap.size wr).drew
        clear he he' hr hr' hc hc'
        go_wp2_with fail
        refine wp_region_held_drew (S := fun W => Below wr.heap.size wr W) (by kernel_rfl) ?_ (fun hHeld => ?_)
        · exact hk
        refine tkH (i := 0) (oi := ⟨some 27, _, _, _, _, _⟩) (v := ?_) ?_ ?_
        rotate_left
        · intro w hSw; go_simp; try with_reducible rfl
        try simp only [Act.put, List.setIfInBounds_toArray, List.set_cons_zero, List.set_cons_succ]
        refine tkH (i := 1) (oi := ⟨some 28, _, _, _, _, _⟩) (v := ?_) ?_ ?_
        rotate_left
        · intro w hSw
          obtain ⟨⟨p0, p1, _, _⟩, ⟨q0, q1, _, _⟩, ⟨a0, a1⟩, ⟨b0, b1⟩⟩ := HS.out w hSw
          go_simp
          try with_reducible rfl
        try simp only [Act.put, List.setIfInBounds_toArray, List.set_cons_zero, List.set_cons_succ]
        refine tkH (i := 2) (oi := ⟨some 29, _, _, _, _, _⟩) (v := ?_) ?_ ?_
        rotate_left
        · intro w hSw; go_simp; try with_reducible rfl
        try simp only [Act.put, List.setIfInBounds_toArray, List.set_cons_zero, List.set_cons_succ]
        refine tkH (i := 3) (oi := ⟨some 30, _, _, _, _, _⟩) (v := ?_) ?_ ?_
        rotate_left
        · intro w hSw; go_simp; try with_reducible rfl
        try simp only [Act.put, List.setIfInBounds_toArray, List.set_cons_zero, List.set_cons_succ]
        refine tkH (i := 4) (oi := ⟨some 31, _, _, _, _, _⟩) (v := ?_) ?_ ?_
        rotate_left
        · intro w hSw
          obtain ⟨⟨p0, p1, _, _⟩, ⟨q0, q1, _, _⟩, ⟨a0, a1⟩, ⟨b0, b1⟩⟩ := HS.out w hSw
          go_simp
          try with_reducible rfl
        try simp only [Act.put, List.setIfInBounds_toArray, List.set_cons_zero, List.set_cons_succ]
        refine tkH (i := 5) (oi := ⟨some 32, _, _, _, _, _⟩) (v := ?_) ?_ ?_
        rotate_left
        · intro w hSw; go_simp; try with_reducible rfl
        try simp only [Act.put, List.setIfInBounds_toArray, List.set_cons_zero, List.set_cons_succ]
        refine tkH (i := 6) (oi := ⟨some 33, _, _, _, _, _⟩) (v := ?_) ?_ ?_
        rotate_left
        · intro w hSw
          obtain ⟨⟨p0, p1, _, _⟩, ⟨q0, q1, _, _⟩, ⟨a0, a1⟩, ⟨b0, b1⟩⟩ := HS.out w hSw
          go_simp
          try with_reducible rfl
        try simp only [Act.put, List.setIfInBounds_toArray, List.set_cons_zero, List.set_cons_succ]
        refine tkH (i := 7) (oi := ⟨some 34, _, _, _, _, _⟩) (v := ?_) ?_ ?_
        rotate_left
        · intro w hSw; go_simp; try with_reducible rfl
        try simp only [Act.put, List.setIfInBounds_toArray, List.set_cons_zero, List.set_cons_succ]
        refine tkH (i := 8) (oi := ⟨some 35, _, _, _, _, _⟩) (v := ?_) ?_ ?_
        rotate_left
        · intro w hSw; go_simp; try with_reducible rfl
        try simp only [Act.put, List.setIfInBounds_toArray, List.set_cons_zero, List.set_cons_succ]
        refine tkH (i := 9) (oi := ⟨some 36, _, _, _, _, _⟩) (v := ?_) ?_ ?_
        rotate_left
        · intro w hSw
          obtain ⟨⟨p0, p1, _, _⟩, ⟨q0, q1, _, _⟩, ⟨a0, a1⟩, ⟨b0, b1⟩⟩ := HS.out w hSw
          go_simp
          try with_reducible rfl
        try simp only [Act.put, List.setIfInBounds_toArray, List.set_cons_zero, List.set_cons_succ]
        refine wpAnyH_ready (rs := [10]) (by kernel_rfl) (by simp) ?_
        refine AllReadyH.cons (o := ⟨some 37, _, _, _, _, _⟩) rfl (fun K hK => ?_) AllReadyH.nil
        go_simp
        go_at_call 11
        (with_reducible refine (HF.out _ hk).mono ?_)
        rintro e1 w1 ⟨b, rfl, hbb, hb⟩
        replace hk := hk.trans (hb.mono hk.size)
        have HBB := Lib.hid hbb
        clear hbb
        go_wp2_with fail
        refine hK.out _ _ hk (fun hHeld => ?_)
        clear hK K
        try simp only [Act.put, List.setIfInBounds_toArray, List.set_cons_zero, List.set_cons_succ]
        refine tkH (i := 11) (oi := ⟨some 38, _, _, _, _, _⟩) (v := ?_) ?_ ?_
        rotate_left
        · intro w hSw; go_simp; try with_reducible rfl
        try simp only [Act.put, List.setIfInBounds_toArray, List.set_cons_zero, List.set_cons_succ]
        refine wpAnyH_done (by kernel_rfl) ?_ _
        clear hHeld
        have HB2 := Lib.hid (nextB HB.out.1 hk)
        clear hk HS HF hb p0 p1 q0 q1
        cases b with
        | true =>
          have HRL : Hid (Below v.heap.size v w1 ∧ V.es.take (i + 1) = V'.es.take (i + 1)) := ⟨HB2.out, take_next_eq HB.out.2 HEE.out.1 (by rw [HEE.out.2, HBB.out.1 rfl])⟩
          clear HB HBB HEE HB2
          go_wp2
          go_roundw
          case rel => exact ⟨i + 1, by omega, by go_num, HRL⟩
          case measure => simp [intOf] <;> omega
        | false =>
          have HE : Hid (V ≠ V') := fun e0 => by
            have h1 := HEE.out.1
            rw [e0, HEE.out.2] at h1
            injection h1 with h1
            have := HBB.out.2 h1.symm
            cases this
          clear HB HBB HEE
          go_wp2
          go_ret
          exact ⟨false, rfl, ⟨(fun e => nomatch e), fun e => absurd e HE.out⟩, nextB HWV.out HB2.out⟩
      · obtain rfl : i = n := by omega
        have HE : Hid (V = V') := by
          show _ = _
          have h1 := HB.out.2
          rw [List.take_of_length_le (by rw [HL.out]; exact Nat.le_refl _), List.take_of_length_le (by rw [HL'.out]; exact Nat.le_refl _)] at h1
          rw [V.eta, V'.eta, HVI.out, h1]
        go_wp2
        go_ret
        exact ⟨true, rfl, ⟨fun _ => HE.out, fun _ => rfl⟩, nextB HWV.out HB.out.1⟩
end Go.Proofs.YtklndjkblfncjaaDoor
