/-
  The reference's Same of two readings of one value.
  The reference's Same of two values: true exactly if they are one value.
-/
import Derived.Test.YtklndjkblfncjaaGreatDoorEq7
namespace Go.Proofs.YtklndjkblfncjaaGreatDoor
open Go Go.RowKit
set_option maxRecDepth 20000

def SaysTrue (w : World) (e : Ending) (w' : World) : Prop := e = .returned (.bool true) ∧ Below w.heap.size w w'
set_option maxHeartbeats 8000000 in
theorem same_x : ∀ (d : Nat) (S S' : Nat → Prop) (V : Vl) (A B : Option Addr) (n c m q d' : Nat) (w : World), VlRd S w d V A n c → VlRd S' w d' V B m q → Calls Tryz.prog 21 #[vlV V A n c, vlV V B m q] w (SaysTrue w)
  | 0, _, _, _, _, _, _, _, _, _, _, _, h, _ => h.elim
  | d + 1, S, S', V, A, B, n, c, m, q, d'', w, h, h' => by
    have IH := same_x d
    cases d'' with
    | zero => exact h'.elim
    | succ d' =>
    obtain ⟨hl, hcap, htop⟩ := h.len
    obtain ⟨hl', hcap', htop'⟩ := h'.len
    obtain rfl : m = n := by rw [← hl, ← hl']
    unfold maxLen at htop htop'
    obtain ⟨v, hv⟩ : ∃ v, (w.alloc (.cells #[.int .i64 V.i, .slice A m c] 27)).alloc (.cells #[.int .i64 V.i, .slice B m q] 27) = v := ⟨_, rfl⟩
    have hwv : Below w.heap.size w v := by rw [← hv]; exact ((Below.refl _ _).alloc (Nat.le_refl _) _).alloc (by simp) _
    have hbx : ∀ W, Below v.heap.size v W → Box2 W w.heap.size (.int .i64 V.i) (.slice A m c) ∧ Box2 W (w.heap.size + 1) (.int .i64 V.i) (.slice B m q) := by
      intro W hW
      have h1 := (box2_new w (.int .i64 V.i) (.slice A m c) 27).below (allocB _ (.cells #[.int .i64 V.i, .slice B m q] 27)) (by simp)
      have h2 := box2_new (w.alloc (.cells #[.int .i64 V.i, .slice A m c] 27)) (.int .i64 V.i) (.slice B m q) 27
      rw [hv] at h1 h2
      rw [World.size_alloc] at h2
      exact ⟨h1.below hW (by rw [← hv]; simp; omega), h2.below hW (by rw [← hv]; simp)⟩
    have HBX := Lib.hid hbx
    have HV := Lib.hid hv
    have HWV := Lib.hid hwv
    have H := Lib.hid h
    have H' := Lib.hid h'
    have HI := Lib.hid IH
    clear hv hwv hbx h h' IH hl hl'
    go_enter Tryz.func21, Tryz.ntmps21
    go_wp2
    rw [HV.out]
    go_loopw [5] (fun iv wr => ∃ i : Nat, i ≤ m ∧ iv = .int .i64 i ∧ Hid (Below v.heap.size v wr)) (fun iv _ => m - (intOf iv).toNat)
    case atStart => exact ⟨0, Nat.zero_le _, rfl, Below.refl _ _⟩
    case round =>
      obtain ⟨i, hi, rfl, HB⟩ := hrel
      obtain ⟨⟨p0, p1, _, _⟩, q0, q1, _, _⟩ := HBX.out wr HB.out
      by_cases hlt : i < m
      · obtain ⟨e, g, o, A', n', c', he, rfl, _, hg, hc, hr⟩ := (H.out.below (nextB HWV.out HB.out)).get hlt
        obtain ⟨e', g', o', B', n2, c2, he', rfl, _, hg', hc', hr'⟩ := (H'.out.below (nextB HWV.out HB.out)).get hlt
        obtain rfl : e = e' := by rw [he] at he'; injection he'
        obtain ⟨u, hu⟩ : ∃ u, wr = u := ⟨_, rfl⟩
        have HS : Hid (∀ W, Below wr.heap.size wr W → Box2 W w.heap.size (.int .i64 V.i) (.slice (some ⟨g, o, none⟩) m c) ∧ Box2 W (w.heap.size + 1) (.int .i64 V.i) (.slice (some ⟨g', o', none⟩) m q) ∧ VlCells W g (o + i * 2) e A' n' c' ∧ VlCells W g' (o' + i * 2) e B' n2 c2) := by
          intro W hW
          obtain ⟨h1, h2⟩ := HBX.out W (nextB HB.out hW)
          exact ⟨h1, h2, hc.keep (hW.block g hg), hc'.keep (hW.block g' hg')⟩
        have HF : Hid (∀ W, Below wr.heap.size wr W → Calls Tryz.prog 21 #[vlV e A' n' c', vlV e B' n2 c2] W (SaysTrue W)) := fun W hW => HI.out S S' e A' B' n' c' n2 c2 d' W (hr.below hW) (hr'.below hW)
        have hk := (Below.refl wr.heap.size wr).drew
        clear he he' hr hr' hc hc' hu
        go_wp2_with fail
        refine wp_region_held_drew (S := fun W => Below wr.heap.size wr W) (by kernel_rfl) ?_ (fun hHeld => ?_)
        · exact hk
        refine tkH (i := 0) (oi := ⟨some 27, _, _, _, _, _⟩) (v := ?_) ?_ ?_
        rotate_left
        · intro w hSw; go_simp; try with_reducible rfl
        try simp only [Act.put, List.setIfInBounds_toArray, List.set_cons_zero, List.set_cons_succ]
        refine tkH (i := 1) (oi := ⟨some 28, _, _, _, _, _⟩) (v := ?_) ?_ ?_
        rotate_left
        · intro w hSw
          obtain ⟨⟨p0, p1, _, _⟩, ⟨q0, q1, _, _⟩, ⟨a0, a1⟩, ⟨b0, b1⟩⟩ := HS.out w hSw
          go_simp
          try with_reducible rfl
        try simp only [Act.put, List.setIfInBounds_toArray, List.set_cons_zero, List.set_cons_succ]
        refine tkH (i := 2) (oi := ⟨some 29, _, _, _, _, _⟩) (v := ?_) ?_ ?_
        rotate_left
        · intro w hSw; go_simp; try with_reducible rfl
        try simp only [Act.put, List.setIfInBounds_toArray, List.set_cons_zero, List.set_cons_succ]
        refine tkH (i := 3) (oi := ⟨some 30, _, _, _, _, _⟩) (v := ?_) ?_ ?_
        rotate_left
        · intro w hSw; go_simp; try with_reducible rfl
        try simp only [Act.put, List.setIfInBounds_toArray, List.set_cons_zero, List.set_cons_succ]
        refine tkH (i := 4) (oi := ⟨some 31, _, _, _, _, _⟩) (v := ?_) ?_ ?_
        rotate_left
        · intro w hSw
          obtain ⟨⟨p0, p1, _, _⟩, ⟨q0, q1, _, _⟩, ⟨a0, a1⟩, ⟨b0, b1⟩⟩ := HS.out w hSw
          go_simp
          try with_reducible rfl
        try simp only [Act.put, List.setIfInBounds_toArray, List.set_cons_zero, List.set_cons_succ]
        refine tkH (i := 5) (oi := ⟨some 32, _, _, _, _, _⟩) (v := ?_) ?_ ?_
        rotate_left
        · intro w hSw; go_simp; try with_reducible rfl
        try simp only [Act.put, List.setIfInBounds_toArray, List.set_cons_zero, List.set_cons_succ]
        refine tkH (i := 6) (oi := ⟨some 33, _, _, _, _, _⟩) (v := ?_) ?_ ?_
        rotate_left
        · intro w hSw
          obtain ⟨⟨p0, p1, _, _⟩, ⟨q0, q1, _, _⟩, ⟨a0, a1⟩, ⟨b0, b1⟩⟩ := HS.out w hSw
          go_simp
          try with_reducible rfl
        try simp only [Act.put, List.setIfInBounds_toArray, List.set_cons_zero, List.set_cons_succ]
        refine tkH (i := 7) (oi := ⟨some 34, _, _, _, _, _⟩) (v := ?_) ?_ ?_
        rotate_left
        · intro w hSw; go_simp; try with_reducible rfl
        try simp only [Act.put, List.setIfInBounds_toArray, List.set_cons_zero, List.set_cons_succ]
        refine tkH (i := 8) (oi := ⟨some 35, _, _, _, _, _⟩) (v := ?_) ?_ ?_
        rotate_left
        · intro w hSw; go_simp; try with_reducible rfl
        try simp only [Act.put, List.setIfInBounds_toArray, List.set_cons_zero, List.set_cons_succ]
        refine tkH (i := 9) (oi := ⟨some 36, _, _, _, _, _⟩) (v := ?_) ?_ ?_
        rotate_left
        · intro w hSw
          obtain ⟨⟨p0, p1, _, _⟩, ⟨q0, q1, _, _⟩, ⟨a0, a1⟩, ⟨b0, b1⟩⟩ := HS.out w hSw
          go_simp
          try with_reducible rfl
        try simp only [Act.put, List.setIfInBounds_toArray, List.set_cons_zero, List.set_cons_succ]
        refine wpAnyH_ready (rs := [10]) (by kernel_rfl) (by simp) ?_
        refine AllReadyH.cons (o := ⟨some 37, _, _, _, _, _⟩) rfl (fun K hK => ?_) AllReadyH.nil
        go_simp
        go_at_call 21
        (with_reducible refine (HF.out _ hk).mono ?_)
        rintro e1 w1 ⟨rfl, hb⟩
        replace hk := hk.trans (hb.mono hk.size)
        go_wp2_with fail
        refine hK.out _ _ hk (fun hHeld => ?_)
        clear hK K
        try simp only [Act.put, List.setIfInBounds_toArray, List.set_cons_zero, List.set_cons_succ]
        refine tkH (i := 11) (oi := ⟨some 38, _, _, _, _, _⟩) (v := ?_) ?_ ?_
        rotate_left
        · intro w hSw; go_simp; try with_reducible rfl
        try simp only [Act.put, List.setIfInBounds_toArray, List.set_cons_zero, List.set_cons_succ]
        refine wpAnyH_done (by kernel_rfl) ?_ _
        clear hHeld
        have HB2 := Lib.hid (nextB HB.out hk)
        clear hk HS HF HB hb p0 p1 q0 q1
        go_wp2
        go_roundw
        case rel => exact ⟨i + 1, by omega, by go_num, HB2⟩
        case measure => simp [intOf] <;> omega
      · obtain rfl : i = m := by omega
        go_wp2
        go_ret
        exact ⟨rfl, nextB HWV.out HB.out⟩
end Go.Proofs.YtklndjkblfncjaaGreatDoor

namespace Go.Proofs.YtklndjkblfncjaaGreatDoor
open Go Go.RowKit
set_option maxRecDepth 20000

theorem take_next_eq {α : Type} {l r : List α} {i : Nat} {x : α} (h : l.take i = r.take i) (hl : l[i]? = some x) (hr : r[i]? = some x) : l.take (i + 1) = r.take (i + 1) := by
  rw [List.take_add_one, List.take_add_one, h, hl, hr]
end Go.Proofs.YtklndjkblfncjaaGreatDoor
