/-
  Package types on valid types: tupleFault, listFault, fault, width, deeper, Validate: no error is found.
-/
import Derived.Test.YtklndjkblfncjaaDoorTyV
namespace Go.Proofs.YtklndjkblfncjaaDoor
open Go Go.RowKit
set_option maxRecDepth 20000

def FaultAt (d : Nat) : Prop := ∀ (S : Nat → Prop) (T : Ty) (A : Option Addr) (n c : Nat) (w : World), TyRd S w d T A n c → TyOk d T → Calls Tryd.prog 51 #[tyV T A n c] w (Fine w)

set_option maxHeartbeats 4000000 in
theorem tupleFault_x (d : Nat) (IH : FaultAt d) (S : Nat → Prop) (T : Ty) (A : Option Addr) (n c : Nat) (w : World) (h : TyRd S w (d + 1) T A n c) (hok : TyOk (d + 1) T) (hk : T.k = 5) :
    Calls Tryd.prog 64 #[tyV T A n c] w (Fine w) := by
  obtain ⟨hz, hn2, hn4, hels⟩ := hok.tuple hk
  clear hz
  obtain ⟨hl, hcap, htop⟩ := h.len
  rw [hl] at hn2 hn4
  have H := Lib.hid h
  have HE := Lib.hid hels
  have HI := Lib.hid IH
  clear h hels hok hk hl IH
  unfold maxLen at htop
  go_enter Tryd.func64, Tryd.ntmps64
  go_wp2
  go_loopw [19] (fun iv wr => ∃ i : Nat, i ≤ n ∧ iv = .int .i64 i ∧ Below w.heap.size w wr) (fun iv _ => n - (intOf iv).toNat)
  case atStart => exact ⟨0, Nat.zero_le _, rfl, allocB _ _⟩
  case round =>
    obtain ⟨i, hi, rfl, hB⟩ := hrel
    by_cases hlt : i < n
    · obtain ⟨e, g, o, A', n', c', he, rfl, _, hg, hc, hr⟩ := (H.out.below hB).get hlt
      obtain ⟨c0, c1, c2, c3, c4⟩ := hc
      obtain ⟨hoe, k3, k4⟩ := HE.out e (List.mem_of_getElem? he)
      have HF := Lib.hid (HI.out S e A' n' c' _ (hr.below (allocB wr (.cells #[.int .i64 e.k, .int .i64 e.lo, .int .i64 e.hi, .int .i64 e.mx, .slice A' n' c'] 27))) hoe)
      have b3 : (e.k == 3) = false := by simpa using k3
      have b4 : (e.k == 4) = false := by simpa using k4
      clear he hr hoe k3 k4
      go_wp2_with fail
      refine HF.out.mono ?_
      rintro e1 w1 ⟨rfl, hb⟩
      have hbox := (box5_new wr (.int .i64 e.k) (.int .i64 e.lo) (.int .i64 e.hi) (.int .i64 e.mx) (.slice A' n' c') 27).below hb (by simp)
      obtain ⟨p0, _, _, _, _⟩ := hbox
      have hB2 : Below w.heap.size w w1 := nextB hB (nextB (allocB _ _) hb)
      clear hb hB HF c0 c1 c2 c3 c4
      go_wp2
      go_roundw
      case rel => exact ⟨i + 1, by omega, by go_num, hB2⟩
      case measure => simp [intOf] <;> omega
    · obtain rfl : i = n := by omega
      go_wp2
      go_ret
      exact ⟨rfl, hB⟩

set_option maxHeartbeats 4000000 in
theorem listFault_x (d : Nat) (IH : FaultAt d) (S : Nat → Prop) (T : Ty) (A : Option Addr) (n c : Nat) (w : World) (h : TyRd S w (d + 1) T A n c) (hok : TyOk (d + 1) T) (hk : T.k = 6) :
    Calls Tryd.prog 65 #[tyV T A n c] w (Fine w) := by
  obtain ⟨hz, hm1, hm4, x, hx, hox, hkx⟩ := hok.list hk
  clear hz
  obtain ⟨hl, hcap, htop⟩ := h.len
  obtain rfl : n = 1 := by rw [← hl, hx]; rfl
  obtain ⟨e, g, o, A', n', c', he, rfl, _, hg, hc, hr⟩ := h.get (i := 0) (by omega)
  obtain rfl : e = x := by rw [hx] at he; simpa using he.symm
  have hb1 : Below w.heap.size w (w.alloc (.cells #[.int .i64 T.k, .int .i64 T.lo, .int .i64 T.hi, .int .i64 T.mx, .slice (some ⟨g, o, none⟩) 1 c] 27)) := allocB _ _
  have hc1 := hc.keep (hb1.block g hg)
  obtain ⟨c0, c1, c2, c3, c4⟩ := hc1
  have HF := Lib.hid (IH S e A' n' c' _ (hr.below hb1) hox)
  have hbx : Hid (∀ W, Below w.heap.size w W → W.cell? ⟨g, o, none⟩ = some (.int .i64 e.k)) := fun W hW => (hc.keep (hW.block g hg)).c0
  have HKX := Lib.hid hkx
  clear h hok hk hl IH he hr hx hkx hc hb1
  simp only [Nat.zero_mul, Nat.add_zero] at c0 c1 c2 c3 c4
  go_enter Tryd.func65, Tryd.ntmps65
  go_wp2_with fail
  refine HF.out.mono ?_
  rintro e1 w1 ⟨rfl, hb⟩
  have hbox := (box5_new w (.int .i64 T.k) (.int .i64 T.lo) (.int .i64 T.hi) (.int .i64 T.mx) (.slice (some ⟨g, o, none⟩) 1 c) 27).below hb (by simp)
  have hB2 : Below w.heap.size w w1 := nextB (allocB _ _) hb
  have q0 := hbx.out w1 hB2
  obtain ⟨p0, p1, p2, p3, p4⟩ := hbox
  clear hb HF hbx c0 c1 c2 c3 c4
  rcases HKX.out with hkk | hkk
  · rw [hkk] at q0
    clear hkk HKX
    go_wp2
    go_ret
    exact ⟨rfl, hB2⟩
  · rw [hkk] at q0
    clear hkk HKX
    go_wp2
    go_ret
    exact ⟨rfl, hB2⟩

set_option maxHeartbeats 4000000 in
theorem fault_x : ∀ d, FaultAt d
  | 0, _, _, _, _, _, _, h, _ => h.elim
  | d + 1, S, T, A, n, c, w, h, hok => by
    have IH := fault_x d
    have hb1 : Below w.heap.size w (w.alloc (.cells #[.int .i64 T.k, .int .i64 T.lo, .int .i64 T.hi, .int .i64 T.mx, .slice A n c] 27)) := allocB _ _
    have HU := Lib.hid (unused_x T A n c (w.alloc (.cells #[.int .i64 T.k, .int .i64 T.lo, .int .i64 T.hi, .int .i64 T.mx, .slice A n c] 27)) hok.unused h.len.1)
    have HK := Lib.hid hok.kinds
    have HT : Hid (T.k = 5 → ∀ w1, Below w.heap.size w w1 → Calls Tryd.prog 64 #[tyV T A n c] w1 (Fine w1)) := fun hk w1 hb => tupleFault_x d IH S T A n c w1 (h.below hb) hok hk
    have HL : Hid (T.k = 6 → ∀ w1, Below w.heap.size w w1 → Calls Tryd.prog 65 #[tyV T A n c] w1 (Fine w1)) := fun hk w1 hb => listFault_x d IH S T A n c w1 (h.below hb) hok hk
    have HR : Hid (T.k = 2 → ∀ w1, Calls Tryd.prog 63 #[tyV T A n c] w1 (Fine w1)) := fun hk w1 => range_x T A n c w1 (hok.int hk).1
    clear h hok IH hb1
    go_enter Tryd.func51, Tryd.ntmps51
    go_wp2_with fail
    refine HU.out.mono ?_
    rintro e1 w1 ⟨rfl, hb⟩
    obtain ⟨p0, p1, p2, p3, p4⟩ := (box5_new w (.int .i64 T.k) (.int .i64 T.lo) (.int .i64 T.hi) (.int .i64 T.mx) (.slice A n c) 27).below hb (by simp)
    have hB2 : Below w.heap.size w w1 := nextB (allocB _ _) hb
    clear hb HU
    by_cases k2 : T.k = 2
    · have HR2 := Lib.hid (HR.out k2 w1)
      have b2 : (T.k == 2) = true := by simpa using k2
      clear k2 HT HL HR HK
      go_wp2_with fail
      refine HR2.out.mono ?_
      rintro e2 w2 ⟨rfl, hb2⟩
      have hB3 := nextB hB2 hb2
      clear hB2 hb2 HR2 p0 p1 p2 p3 p4
      go_wp2
      go_ret
      exact ⟨rfl, hB3⟩
    · have b2 : (T.k == 2) = false := by simpa using k2
      by_cases k5 : T.k = 5
      · have HT2 := Lib.hid (HT.out k5 w1 hB2)
        have b5 : (T.k == 5) = true := by simpa using k5
        clear k2 k5 HT HL HR HK
        go_wp2_with fail
        refine HT2.out.mono ?_
        rintro e2 w2 ⟨rfl, hb2⟩
        have hB3 := nextB hB2 hb2
        clear hB2 hb2 HT2 p0 p1 p2 p3 p4
        go_wp2
        go_ret
        exact ⟨rfl, hB3⟩
      · have b5 : (T.k == 5) = false := by simpa using k5
        by_cases k6 : T.k = 6
        · have HL2 := Lib.hid (HL.out k6 w1 hB2)
          have b6 : (T.k == 6) = true := by simpa using k6
          clear k2 k5 k6 HT HL HR HK
          go_wp2_with fail
          refine HL2.out.mono ?_
          rintro e2 w2 ⟨rfl, hb2⟩
          have hB3 := nextB hB2 hb2
          clear hB2 hb2 HL2 p0 p1 p2 p3 p4
          go_wp2
          go_ret
          exact ⟨rfl, hB3⟩
        · have b6 : (T.k == 6) = false := by simpa using k6
          clear k2 k5 k6 HT HL HR HK
          go_wp2
          go_ret
          exact ⟨rfl, hB2⟩
end Go.Proofs.YtklndjkblfncjaaDoor
