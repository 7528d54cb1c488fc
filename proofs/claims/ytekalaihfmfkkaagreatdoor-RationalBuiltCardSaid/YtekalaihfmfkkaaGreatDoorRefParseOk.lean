/-
  exactpplref01.Parse of what is no number, or has too many digits.
  exactpplref01.Parse of a number that has not too many digits.
-/
import Derived.Test.YtekalaihfmfkkaaGreatDoorParseBad
import Derived.Test.YtekalaihfmfkkaaGreatDoorRefPow
import Derived.Deep.RegionWith
namespace Go.Proofs.YtekalaihfmfkkaaGreatDoor
open Go.RowKit
set_option maxRecDepth 20000

theorem refParse_empty (s : ByteArray) (w : World) (h : s.size = 0) :
    Calls Tryz.prog 74 #[.string s] w fun e w' => e = .returned (.tuple #[.slice none 0 0, .int .i64 4]) ∧ w = w' := by
  obtain rfl : s = ByteArray.empty := by
    apply ByteArray.ext
    apply Array.eq_empty_of_size_eq_zero
    exact h
  go_enter Tryz.func74, Tryz.ntmps74
  go_wp2
  go_ret2
  exact ⟨rfl, rfl⟩

theorem refParse_bad (s : ByteArray) (j : Nat) (w : World) (hb : BadAt s j) (h2 : s.size ≤ 1000000) :
    Calls Tryz.prog 74 #[.string s] w fun e w' => e = .returned (.tuple #[.slice none 0 0, .int .i64 4]) ∧ w = w' := by
  obtain ⟨hj, hlow, hbad⟩ := hb
  have hne := not_empty s (by omega)
  go_enter Tryz.func74, Tryz.ntmps74
  go_wp2
  go_loop [4] (fun i => ∃ k : Nat, k ≤ j ∧ i = .int .i64 k) (fun i => s.size - (intOf i).toNat)
  case atStart => exact ⟨0, Nat.zero_le _, rfl⟩
  case round =>
    obtain ⟨k, hk, rfl⟩ := hrel
    by_cases hlt : k < j
    · have hks : k < s.size := by omega
      obtain ⟨b0, b1⟩ := hlow k hks hlt
      clear hbad hlow
      go_wp2
      go_round
      case rel => exact ⟨k + 1, by omega, by go_num⟩
      case measure => simp [intOf] <;> omega
    · obtain rfl : k = j := by omega
      clear hlow hlt
      rcases hbad with hbad | hbad
      · go_wp2
        all_goals
          go_ret2
          exact ⟨rfl, rfl⟩
      · go_wp2
        all_goals
          go_ret2
          exact ⟨rfl, rfl⟩

theorem refParse_long (s : ByteArray) (w : World) (hd : Digs s) (h1 : 60 < s.size) (h2 : s.size ≤ 1000000) :
    Calls Tryz.prog 74 #[.string s] w fun e w' => e = .returned (.tuple #[.slice none 0 0, .int .i64 9]) ∧ w = w' := by
  have hne := not_empty s (by omega)
  go_enter Tryz.func74, Tryz.ntmps74
  go_wp2
  go_loop [4] (fun i => ∃ k : Nat, k ≤ s.size ∧ i = .int .i64 k) (fun i => s.size - (intOf i).toNat)
  case atStart => exact ⟨0, Nat.zero_le _, rfl⟩
  case round =>
    obtain ⟨k, hk, rfl⟩ := hrel
    by_cases hlt : k < s.size
    · obtain ⟨b0, b1⟩ := hd k hlt
      go_wp2
      go_round
      case rel => exact ⟨k + 1, by omega, by go_num⟩
      case measure => simp [intOf] <;> omega
    · obtain rfl : k = s.size := by omega
      clear hlt hk
      go_wp2
      go_ret2
      exact ⟨rfl, rfl⟩

end Go.Proofs.YtekalaihfmfkkaaGreatDoor

namespace Go.Proofs.YtekalaihfmfkkaaGreatDoor
open Go.RowKit
set_option maxRecDepth 20000

theorem lit_at {W : World} {g : Nat} {x : Int} (h : W.heap.size = g) (x0 : 0 ≤ x) (x1 : x < 4294967296) : Num (W.alloc (.cells #[.int .u32 x] 92)) (some ⟨g, 0, none⟩) 1 1 x := by
  subst h
  exact ⟨[x], lit1 W x x0 x1, by simp [val]⟩

set_option maxHeartbeats 2000000 in
theorem refParse_ok (s : ByteArray) (w : World) (hd : Digs s) (h0 : 0 < s.size) (h1 : s.size ≤ 60) :
    Calls Tryz.prog 74 #[.string s] w (GivesNOk w (dv s.data.toList)) := by
  have hne := not_empty s h0
  go_enter Tryz.func74, Tryz.ntmps74
  go_wp2
  go_loop [4] (fun i => ∃ k : Nat, k ≤ s.size ∧ i = .int .i64 k) (fun i => s.size - (intOf i).toNat)
  case atStart => exact ⟨0, Nat.zero_le _, rfl⟩
  case round =>
    obtain ⟨k, hk, rfl⟩ := hrel
    by_cases hlt : k < s.size
    · obtain ⟨b0, b1⟩ := hd k hlt
      go_wp2
      go_round
      case rel => exact ⟨k + 1, by omega, by go_num⟩
      case measure => simp [intOf] <;> omega
    · obtain rfl : k = s.size := by omega
      clear hlt hk
      go_wp2
      go_loopw [5, 6] (fun nv iv wr => ∃ (k : Nat) (A : Option Addr) (n c : Nat), k ≤ s.size ∧ iv = .int .i64 k ∧ nv = .slice A n c ∧ Nrm wr A n c (dv (s.data.toList.take k)) ∧ n ≤ k ∧ Below w.heap.size w wr) (fun _ iv _ => s.size - (intOf iv).toNat)
      case atStart => exact ⟨0, none, 0, 0, Nat.zero_le _, rfl, rfl, ⟨[], Rd.nil w, Is.zero⟩, Nat.le_refl _, Below.refl _ _⟩
      case round =>
        obtain ⟨k, A, n, c, hk, rfl, rfl, hN, hnk, hB⟩ := hrel
        by_cases hlt : k < s.size
        · obtain ⟨b0, b1⟩ := hd k hlt
          have ST : Hid (dv (s.data.toList.take k) * 10 + ((s[k].toNat : Int) - 48) = dv (s.data.toList.take (k + 1))) := by
            show _ = _
            rw [take_byte s k hlt, dv_snoc]; omega
          have hlt2 : Hid (dv (s.data.toList.take (k + 1)) < pw (k + 1)) := (dv_lt s hd (k + 1) (by omega)).2
          obtain ⟨d, hdd⟩ : ∃ d, (s[k].toNat : Int) - 48 = d := ⟨_, rfl⟩
          have d0 : 0 ≤ d := by omega
          have d1 : d ≤ 9 := by omega
          have hw : IntKind.u8.wrap ((s[k].toNat : Int) - 48) = d := by rw [IntKind.wrap_u8]; omega
          have hw2 : IntKind.u32.wrap d = d := by rw [IntKind.wrap_u32]; omega
          have hk0 : (0 : Int) ≤ (k : Int) := by omega
          have hk1 : (k : Int) < (s.size : Int) := by omega
          rw [hdd] at ST
          have bd := (Below.refl wr.heap.size wr).drew
          have ba := bd.alloc (Nat.le_refl _) (.cells #[.int .u32 10] 92)
          have bb := ba.alloc (by rw [World.size_alloc]; exact Nat.le_succ _) (.cells #[.int .u32 d] 92)
          have bc0 := bd.alloc (Nat.le_refl _) (.cells #[.int .u32 d] 92)
          have bc := bc0.alloc (by rw [World.size_alloc]; exact Nat.le_succ _) (.cells #[.int .u32 10] 92)
          have Ta : Num (wr.drew.alloc (.cells #[.int .u32 10] 92)) (some ⟨wr.heap.size, 0, none⟩) 1 1 10 := lit_at rfl (by decide) (by decide)
          have Tb := Ta.below ((Below.refl _ _).alloc (Nat.le_refl _) (.cells #[.int .u32 d] 92))
          have Tc : Num ((wr.drew.alloc (.cells #[.int .u32 d] 92)).alloc (.cells #[.int .u32 10] 92)) (some ⟨wr.heap.size + 1, 0, none⟩) 1 1 10 := lit_at (by rw [World.size_alloc]; rfl) (by decide) (by decide)
          have Db : Num ((wr.drew.alloc (.cells #[.int .u32 10] 92)).alloc (.cells #[.int .u32 d] 92)) (some ⟨wr.heap.size + 1, 0, none⟩) 1 1 d := lit_at (by rw [World.size_alloc]; rfl) d0 (by omega)
          have Dc0 : Num (wr.drew.alloc (.cells #[.int .u32 d] 92)) (some ⟨wr.heap.size, 0, none⟩) 1 1 d := lit_at rfl d0 (by omega)
          have Dc := Dc0.below ((Below.refl _ _).alloc (Nat.le_refl _) (.cells #[.int .u32 10] 92))
          have HT := Lib.hid (And.intro Ta (And.intro Tb Tc))
          have HD := Lib.hid (And.intro Db Dc)
          have HBB := Lib.hid (And.intro ba (And.intro bb bc))
          have hN1 := hN.num
          have H10 : Hid (dv (s.data.toList.take k) * 10 < pw 61) := by
            show _ < _
            have h3 := ST.out
            have h4 := hlt2.out
            have h5 := pw_mono (m := k + 1) (n := 61) (by omega)
            omega
          clear Ta Tb Tc Db Dc0 Dc ba bb bc0 bc bd hdd b0 b1
          go_wp2_with fail
          go_region_with (first
            | (go_at_call 128; refine (refMul_n (hN1.below (by first | exact HBB.out.1 | exact HBB.out.2.1 | exact HBB.out.2.2)) (by first | exact HT.out.1 | exact HT.out.2.1 | exact HT.out.2.2) (by omega) (by omega)).mono ?_; rintro e w' ⟨A2, n2, c2, rfl, h2, b2⟩)
            | (go_at_call 80; refine (refAdd_n (by first | exact h2.num | exact h2.num.below ((Below.refl _ _).alloc (Nat.le_refl _) _)) (by first | exact (HD.out.1).below b2 | exact (HD.out.2).below b2 | exact lit_at rfl d0 (by omega)) (by have := h2.short (k := 61) H10.out; omega) (by omega)).mono ?_; rintro e w' ⟨A3, n3, c3, rfl, h3, b3⟩))
          all_goals
            have l3 := h3.short (k := k + 1) (by rw [ST.out]; exact hlt2.out)
            have hfin : Below wr.heap.size wr w' := by
              first
                | exact (HBB.out.1.trans ((b2.trans ((Below.refl _ _).alloc b2.size _)).mono HBB.out.1.size)).trans (b3.mono (Nat.le_trans (HBB.out.1.trans (b2.mono HBB.out.1.size)).size (by rw [World.size_alloc]; exact Nat.le_succ _)))
                | exact (HBB.out.2.1.trans (b2.mono HBB.out.2.1.size)).trans (b3.mono (HBB.out.2.1.trans (b2.mono HBB.out.2.1.size)).size)
                | exact (HBB.out.2.2.trans (b2.mono HBB.out.2.2.size)).trans (b3.mono (HBB.out.2.2.trans (b2.mono HBB.out.2.2.size)).size)
            have hfin2 := nextB hB hfin
            rw [ST.out] at h3
            have HR := Lib.hid (And.intro h3 (And.intro l3 hfin2))
            clear h3 l3 hfin hfin2 b3 b2 h2
            go_wp2
            go_roundw
            case rel => exact ⟨k + 1, A3, n3, c3, by omega, by go_num, rfl, HR.out.1, HR.out.2.1, HR.out.2.2⟩
            case measure => simp [intOf] <;> omega
        · obtain rfl : k = s.size := by omega
          have hF : Hid (Nrm wr A n c (dv s.data.toList)) := by
            show Nrm _ _ _ _ _
            have := hN
            rw [List.take_of_length_le (by simp)] at this
            exact this
          clear hN hlt hk
          go_wp2
          go_ret2
          exact ⟨A, n, c, rfl, hF.out, hB⟩

end Go.Proofs.YtekalaihfmfkkaaGreatDoor
