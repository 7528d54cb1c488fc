/-
  The reference's wrong on valid types: no error is found.
-/
import Derived.Test.YtklndjkblfncjaaDoorDep7
namespace Go.Proofs.YtklndjkblfncjaaDoor
open Go Go.RowKit
set_option maxRecDepth 20000

def WrongAt (d : Nat) : Prop := ∀ (S : Nat → Prop) (T : Ty) (A : Option Addr) (n c : Nat) (w : World), TyRd S w d T A n c → TyOk d T → Calls Tryd.prog 37 #[tyV T A n c] w (Fine w)
set_option maxHeartbeats 8000000 in
theorem wrong_x : ∀ d, WrongAt d
  | 0, _, _, _, _, _, _, h, _ => h.elim
  | d + 1, S, T, A, n, c, w, h, hok => by
    have IH := wrong_x d
    obtain ⟨hl, hcap, htop⟩ := h.len
    unfold maxLen at htop
    rcases hok.kinds with hk | hk | hk | hk | hk | hk
    · obtain ⟨h1, h2, h3, h4⟩ := hok.leaf (by omega)
      rw [h4] at hl
      simp at hl
      subst hl
      simp only [tyV, hk, h1, h2, h3]
      clear h hok IH hk h1 h2 h3 h4
      go_enter Tryd.func37, Tryd.ntmps37
      go_wp2
      go_ret
      exact ⟨rfl, allocB _ _⟩
    · obtain ⟨⟨h1, h2, h3⟩, h5, h4⟩ := hok.int hk
      rw [h4] at hl
      simp at hl
      subst hl
      simp only [tyV, hk, h5]
      clear h hok IH hk h4 h5
      go_enter Tryd.func37, Tryd.ntmps37
      go_wp2
      go_ret
      exact ⟨rfl, allocB _ _⟩
    · obtain ⟨h1, h2, h3, h4⟩ := hok.leaf (by omega)
      rw [h4] at hl
      simp at hl
      subst hl
      simp only [tyV, hk, h1, h2, h3]
      clear h hok IH hk h1 h2 h3 h4
      go_enter Tryd.func37, Tryd.ntmps37
      go_wp2
      go_ret
      exact ⟨rfl, allocB _ _⟩
    · obtain ⟨h1, h2, h3, h4⟩ := hok.leaf (by omega)
      rw [h4] at hl
      simp at hl
      subst hl
      simp only [tyV, hk, h1, h2, h3]
      clear h hok IH hk h1 h2 h3 h4
      go_enter Tryd.func37, Tryd.ntmps37
      go_wp2
      go_ret
      exact ⟨rfl, allocB _ _⟩
    · obtain ⟨⟨h1, h2, h3⟩, hn2, hn4, hels⟩ := hok.tuple hk
      rw [hl] at hn2 hn4
      have H := Lib.hid h
      have HE := Lib.hid hels
      have HI := Lib.hid IH
      simp only [tyV, hk, h1, h2, h3]
      obtain ⟨v, hv⟩ : ∃ v, w.alloc (.cells #[.int .i64 5, .int .i64 0, .int .i64 0, .int .i64 0, .slice A n c] 27) = v := ⟨_, rfl⟩
      obtain ⟨hvs, hwv, hbx⟩ := box_t w _ _ _ _ _ _ v hv
      have HBX := Lib.hid hbx
      have HVV := Lib.hid hv
      have HWV := Lib.hid hwv
      clear h hok IH hk h1 h2 h3 hels hl hv hbx hwv hvs
      go_enter Tryd.func37, Tryd.ntmps37
      go_wp2
      rw [HVV.out]
      go_loopw [4] (fun iv wr => ∃ i : Nat, i ≤ n ∧ iv = .int .i64 i ∧ Hid (Below v.heap.size v wr)) (fun iv _ => n - (intOf iv).toNat)
      case atStart => exact ⟨0, Nat.zero_le _, rfl, Below.refl _ _⟩
      case round =>
        obtain ⟨i, hi, rfl, HB⟩ := hrel
        obtain ⟨p0, p1, p2, p3, p4⟩ := HBX.out wr HB.out
        by_cases hlt : i < n
        · obtain ⟨e, g, o, A', n', c', he, rfl, _, hg, hc, hr⟩ := (H.out.below (nextB HWV.out HB.out)).get hlt
          have HC : Hid (∀ W, Below wr.heap.size wr W → W.cell? ⟨g, o + i * 5, none⟩ = some (.int .i64 e.k)) := fun W hW => (hc.keep (hW.block g hg)).c0
          obtain ⟨c0, c1, c2, c3, c4⟩ := hc
          obtain ⟨hoe, k3, k4⟩ := HE.out e (List.mem_of_getElem? he)
          have HF := Lib.hid (HI.out S e A' n' c' wr hr hoe)
          have b3 : (e.k == 3) = false := by simpa using k3
          have b4 : (e.k == 4) = false := by simpa using k4
          clear he hr hoe k3 k4
          go_wp2_with fail
          refine HF.out.mono ?_
          rintro e1 w1 ⟨rfl, hb⟩
          have HB2 := Lib.hid (nextB HB.out hb)
          have q0 := HC.out w1 hb
          clear HF hb HB c0 c1 c2 c3 c4 p0 p1 p2 p3 p4 HC
          obtain ⟨p0, p1, p2, p3, p4⟩ := HBX.out w1 HB2.out
          go_wp2
          go_roundw
          case rel => exact ⟨i + 1, by omega, by go_num, HB2⟩
          case measure => simp [intOf] <;> omega
        · obtain rfl : i = n := by omega
          go_wp2
          go_ret
          exact ⟨rfl, nextB HWV.out HB.out⟩
    · obtain ⟨⟨h1, h2⟩, hm1, hm4, x, hx, hox, hkx⟩ := hok.list hk
      obtain rfl : n = 1 := by rw [← hl, hx]; rfl
      obtain ⟨e, g, o, A', n', c', he, rfl, _, hg, hc, hr⟩ := h.get (i := 0) (by omega)
      obtain rfl : e = x := by rw [hx] at he; simpa using he.symm
      simp only [tyV, hk, h1, h2]
      obtain ⟨v, hv⟩ : ∃ v, w.alloc (.cells #[.int .i64 6, .int .i64 0, .int .i64 0, .int .i64 T.mx, .slice (some ⟨g, o, none⟩) 1 c] 27) = v := ⟨_, rfl⟩
      obtain ⟨hvs, hwv, hbx⟩ := box_t w _ _ _ _ _ _ v hv
      have HC : Hid (∀ W, Below w.heap.size w W → TyCells W g o e A' n' c') := fun W hW => by have := hc.keep (hW.block g hg); simpa using this
      have HF := Lib.hid (IH S e A' n' c' v (hr.below hwv) hox)
      have HBX := Lib.hid hbx
      have HVV := Lib.hid hv
      have HWV := Lib.hid hwv
      have HKX := Lib.hid hkx
      obtain ⟨c0, c1, c2, c3, c4⟩ := HC.out _ (allocB w (.cells #[.int .i64 6, .int .i64 0, .int .i64 0, .int .i64 T.mx, .slice (some ⟨g, o, none⟩) 1 c] 27))
      clear h hok hk hl IH he hr hx hkx hc hv hbx hwv hvs h1 h2 hox
      go_enter Tryd.func37, Tryd.ntmps37
      go_wp2_with fail
      rw [HVV.out]
      refine HF.out.mono ?_
      rintro e1 w1 ⟨rfl, hb⟩
      have hB := nextB HWV.out hb
      obtain ⟨q0, q1, q2, q3, q4⟩ := HC.out w1 hB
      clear c0 c1 c2 c3 c4 q1 q2 q3 q4 HF
      obtain ⟨p0, p1, p2, p3, p4⟩ := HBX.out w1 hb
      clear hb HC HBX
      rcases HKX.out with hkk | hkk
      · rw [hkk] at q0
        clear hkk HKX
        go_wp2
        go_ret
        exact ⟨rfl, hB⟩
      · rw [hkk] at q0
        clear hkk HKX
        go_wp2
        go_ret
        exact ⟨rfl, hB⟩
end Go.Proofs.YtklndjkblfncjaaDoor
