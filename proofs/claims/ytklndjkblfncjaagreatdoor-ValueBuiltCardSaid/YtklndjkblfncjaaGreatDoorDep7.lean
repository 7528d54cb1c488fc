/-
  The reference's Depth on valid types.
-/
import Derived.Test.YtklndjkblfncjaaGreatDoorValC
namespace Go.Proofs.YtklndjkblfncjaaGreatDoor
open Go Go.RowKit
set_option maxRecDepth 20000

/-- A type's box. -/
theorem box_t (w : World) (x0 x1 x2 x3 x4 : Value) (t : TypeId) (v : World) (hv : w.alloc (.cells #[x0, x1, x2, x3, x4] t) = v) :
    v.heap.size = w.heap.size + 1 ∧ Below w.heap.size w v ∧ ∀ W, Below v.heap.size v W → Box5 W w.heap.size x0 x1 x2 x3 x4 := by
  refine ⟨by rw [← hv]; simp, by rw [← hv]; exact allocB _ _, fun W hW => ?_⟩
  have h1 := box5_new w x0 x1 x2 x3 x4 t
  rw [hv] at h1
  exact h1.below hW (by rw [← hv]; simp)

def DepthOut (d : Nat) (w : World) (e : Ending) (w' : World) : Prop := ∃ x : Nat, e = .returned (.int .i64 (x : Int)) ∧ (1 ≤ x ∧ x ≤ d) ∧ Below w.heap.size w w'
set_option maxHeartbeats 8000000 in
theorem depth_x : ∀ (d : Nat) (m : Nat), d ≤ m → m ≤ 100 → ∀ (S : Nat → Prop) (T : Ty) (A : Option Addr) (n c : Nat) (w : World), TyRd S w d T A n c → Calls Tryz.prog 66 #[tyV T A n c, .int .i64 (m : Int)] w (DepthOut d w)
  | 0, _, _, _, _, _, _, _, _, _, h => h.elim
  | d + 1, m, hdm, hm, S, T, A, n, c, w, h => by
    obtain ⟨hl, hcap, htop⟩ := h.len
    unfold maxLen at htop
    obtain ⟨v, hv⟩ : ∃ v, w.alloc (.cells #[.int .i64 T.k, .int .i64 T.lo, .int .i64 T.hi, .int .i64 T.mx, .slice A n c] 24) = v := ⟨_, rfl⟩
    obtain ⟨hvs, hwv, hbx⟩ := box_t w _ _ _ _ _ _ v hv
    have HBX := Lib.hid hbx
    have HVV := Lib.hid hv
    have HWV := Lib.hid hwv
    have H := Lib.hid h
    have HI := Lib.hid (depth_x d (m - 1) (by omega) (by omega) S)
    have hn0 : d = 0 → n = 0 := fun h0 => by
      subst h0
      rcases Nat.eq_zero_or_pos n with h1 | h1
      · exact h1
      · obtain ⟨e, g, o, A', n', c', _, _, _, _, _, hr⟩ := h.get h1
        exact hr.elim
    have e1 : (m : Int) - 1 = ((m - 1 : Nat) : Int) := by omega
    clear h hl hv hwv hbx hvs
    by_cases hm1 : m = 1
    · obtain rfl : d = 0 := by omega
      obtain rfl : n = 0 := hn0 rfl
      subst hm1
      clear e1 hn0
      go_enter Tryz.func66, Tryz.ntmps66
      go_wp2
      rw [HVV.out]
      go_ret
      exact ⟨1, rfl, by omega, HWV.out⟩
    · have hmm : (1 : Int) < (m : Int) := by omega
      have b1 : decide ((1 : Int) < (m : Int)) = true := by simpa using hmm
      clear hn0 hm1
      go_enter Tryz.func66, Tryz.ntmps66
      go_wp2
      rw [HVV.out]
      go_loopw [5, 6] (fun dv iv wr => ∃ i a : Nat, i ≤ n ∧ iv = .int .i64 i ∧ dv = .int .i64 a ∧ Hid (a ≤ d ∧ Below v.heap.size v wr)) (fun _ iv _ => n - (intOf iv).toNat)
      case atStart => exact ⟨0, 0, Nat.zero_le _, rfl, rfl, Nat.zero_le _, Below.refl _ _⟩
      case round =>
        obtain ⟨i, a, hi, rfl, rfl, HAB⟩ := hrel
        have ha := HAB.out.1
        have HB := Lib.hid HAB.out.2
        clear HAB
        obtain ⟨p0, p1, p2, p3, p4⟩ := HBX.out wr HB.out
        by_cases hlt : i < n
        · obtain ⟨e, g, o, A', n', c', he, rfl, _, hg, hc, hr⟩ := (H.out.below (nextB HWV.out HB.out)).get hlt
          obtain ⟨c0, c1, c2, c3, c4⟩ := hc
          have HF := Lib.hid (HI.out e A' n' c' wr hr)
          clear he hr
          go_wp2_with fail
          refine HF.out.mono ?_
          rintro e1 w1 ⟨x, rfl, ⟨hx1, hx2⟩, hb⟩
          have HB2 := Lib.hid (nextB HB.out hb)
          clear HF hb HB c0 c1 c2 c3 c4 p0 p1 p2 p3 p4
          by_cases hax : a < x
          · go_wp2
            go_roundw
            case rel => exact ⟨i + 1, x, by omega, by go_num, rfl, by omega, HB2.out⟩
            case measure => simp [intOf] <;> omega
          · go_wp2
            go_roundw
            case rel => exact ⟨i + 1, a, by omega, by go_num, rfl, by omega, HB2.out⟩
            case measure => simp [intOf] <;> omega
        · obtain rfl : i = n := by omega
          by_cases hae : a + 1 = m
          · subst hae
            go_wp2
            go_ret
            exact ⟨a + 1, rfl, by omega, nextB HWV.out HB.out⟩
          · go_wp2
            go_ret
            exact ⟨a + 1, rfl, by omega, nextB HWV.out HB.out⟩

end Go.Proofs.YtklndjkblfncjaaGreatDoor
