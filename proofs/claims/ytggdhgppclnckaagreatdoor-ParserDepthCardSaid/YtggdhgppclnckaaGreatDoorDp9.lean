/-
  ParserDepth.
-/
import Derived.Test.YtggdhgppclnckaaGreatDoorAw9
import Derived.OpenShut
import Derived.ProofKit
namespace Go.Proofs.YtggdhgppclnckaaGreatDoor
open Go Go.RowKit Lx Ps
set_option maxRecDepth 20000

theorem deep_size : ∀ k < 14, ∀ q < 3, (deepText k q).length ≤ 8192 := by decide +kernel
theorem rep_size : ∀ i < 15, ∀ q < 3, (rep i (opens q)).length ≤ 60 ∧ (rep i (shuts q)).length ≤ 60 := by decide +kernel
theorem rep_snoc (i : Nat) (l : Bs) : rep i l ++ l = rep (i + 1) l := by
  unfold rep
  rw [List.replicate_succ', List.flatten_append]; simp
theorem rep_cons (i : Nat) (l : Bs) : l ++ rep i l = rep (i + 1) l := by
  unfold rep
  rw [List.replicate_succ, List.flatten_cons]
set_option maxHeartbeats 16000000 in
theorem parserDepth.walk {nz kz : Int} {w : World} (hgl : Gl w) (h5 : 5 ≤ w.heap.size) (hn : (Lit.int .u8 nz).wf = true) (hz : (Lit.int .u8 kz).wf = true) : Calls Tryz.prog 9 #[.int .u8 nz, .int .u8 kz] w (SaysTrue w) := by
  obtain ⟨b0, b1⟩ := bounds_u8 hn
  obtain ⟨b2, b3⟩ := bounds_u8 hz
  obtain ⟨k, hk⟩ := Int.eq_ofNat_of_zero_le (show 0 ≤ nz % 14 by omega)
  have hk13 : k ≤ 13 := by omega
  have HAW : Hid (∀ W, Below w.heap.size w W → Calls Tryz.prog 11 #[] W (SaysTrue W)) := fun W hW => awake_x W (hgl.new hW h5) (Nat.le_trans h5 hW.size)
  have HPO : Hid (∀ W, Below w.heap.size w W → ∀ q < 3, Calls Tryz.prog 20 #[.string (bt (deepText k q))] W (GivesPO (parse (deepText k q)) W)) := fun W hW q hq => by
    have hsz : (bt (deepText k q)).size ≤ 8192 := by
      rw [Ps.bt_size]
      exact deep_size k (by omega) q hq
    have := po_x (bt (deepText k q)) W (by unfold maxLen; omega) (hgl.new hW h5) (Nat.le_trans h5 hW.size)
    rw [po_parse hsz] at this
    exact this
  clear hn hz hgl h5
  rcases (show kz % 3 = 0 ∨ kz % 3 = 1 ∨ kz % 3 = 2 by omega) with hq | hq | hq
  · have hTX : ∀ O S : ByteArray, O = bt (rep k (opens 0)) → S = bt (rep k (shuts 0)) → ((((⟨#[120, 32, 58, 61, 32]⟩ : ByteArray) ++ O) ++ ⟨#[121]⟩) ++ S) ++ ⟨#[59, 32, 114, 101, 116, 117, 114, 110, 32, 120, 59]⟩ = bt (deepText k 0) := by
      rintro O S rfl rfl
      unfold deepText
      apply ByteArray.ext
      simp [bt]
    have HE := Lib.hid (deep_pure k (by omega) 0 (by decide)).1
    have HTX := Lib.hid hTX
    clear hTX
    go_enter Tryz.func9, Tryz.ntmps9
    go_wp2_with fail
    go_loopw [6, 7, 8] (fun ov sv iv wr => ∃ (i : Nat) (O S : ByteArray), i ≤ k ∧ iv = .int .i64 i ∧ ov = .string O ∧ sv = .string S ∧ Hid (O = bt (rep i (opens 0)) ∧ S = bt (rep i (shuts 0))) ∧ Below w.heap.size w wr) (fun _ _ iv _ => k - (intOf iv).toNat)
    case atStart => exact ⟨0, _, _, Nat.zero_le _, rfl, rfl, rfl, ⟨rfl, rfl⟩, Below.refl _ _⟩
    case round =>
      obtain ⟨i, O, S, hi, rfl, rfl, rfl, hOS, hbw⟩ := hrel
      have zO : O.size ≤ 60 := by rw [hOS.out.1]; exact (rep_size i (by omega) 0 (by decide)).1
      have zS : S.size ≤ 60 := by rw [hOS.out.2]; exact (rep_size i (by omega) 0 (by decide)).2
      by_cases hlt : i < k
      · have hlt' : (i : Int) < (k : Int) := by omega
        have HO : Hid (O ++ ⟨#[40]⟩ = bt (rep (i + 1) (opens 0)) ∧ (⟨#[41]⟩ : ByteArray) ++ S = bt (rep (i + 1) (shuts 0))) := by
          obtain ⟨h1, h2⟩ := hOS.out
          show _ ∧ _
          rw [h1, h2, ← rep_snoc, ← rep_cons]
          exact ⟨bt_app _ _, bt_app _ _⟩
        have bz : Below w.heap.size w ((wr.alloc (.cells #[.string ⟨#[40]⟩, .string ⟨#[91]⟩, .string ⟨#[108, 101, 110, 40]⟩] 9)).alloc (.cells #[.string ⟨#[41]⟩, .string ⟨#[93]⟩, .string ⟨#[41]⟩] 9)) :=
          hbw.trans (((allocB wr _).trans ((allocB _ _).mono (by simp))).mono hbw.size)
        clear hOS HE HTX HPO HAW
        go_wp2
        go_roundw
        case rel => exact ⟨i + 1, _, _, by omega, by go_num, rfl, rfl, HO.out, bz⟩
        case measure => simp [intOf] <;> omega
      · obtain rfl : i = k := by omega
        have hx := Lib.hid (HTX.out O S hOS.out.1 hOS.out.2)
        have he := HE.out
        clear hOS HE HTX hlt
        go_wp2_with fail
        rw [hx.out]
        clear hx
        refine (HPO.out wr hbw 0 (by decide)).mono ?_
        clear HPO
        generalize parse (deepText i 0) = r at *
        by_cases hk : i ≤ 10
        · rw [if_pos hk] at he
          have hk' : (i : Int) ≤ 10 := by omega
          cases r with
          | ok pr =>
            clear he
            rintro en w1 ⟨a0, a1, a2, a3, a4, a5, rfl, hv1, hb1⟩
            have os1 := hv1.all
            clear hv1
            have x0 := (box_alloc w1 32 #[.slice none 0 0, .slice none 0 0, .slice none 0 0, .slice none 0 0, .slice none 0 0, .string ⟨#[]⟩]).new (allocB (w1.alloc (.cells #[.slice none 0 0, .slice none 0 0, .slice none 0 0, .slice none 0 0, .slice none 0 0, .string ⟨#[]⟩] 32)) (.cells #[.int .i64 0, .int .i64 0] 38))
            have y0 := box_alloc (w1.alloc (.cells #[.slice none 0 0, .slice none 0 0, .slice none 0 0, .slice none 0 0, .slice none 0 0, .string ⟨#[]⟩] 32)) 38 #[.int .i64 0, .int .i64 0]
            rw [show (w1.alloc (.cells #[.slice none 0 0, .slice none 0 0, .slice none 0 0, .slice none 0 0, .slice none 0 0, .string ⟨#[]⟩] 32)).heap.size = w1.heap.size + 1 by simp] at y0
            have xa := (x0.set #[a0, a1, a2, a3, a4, a5]).other (j := w1.heap.size + 1) #[.int .i64 0, .int .i64 0] (by omega)
            have y1 := y0.other (j := w1.heap.size) #[a0, a1, a2, a3, a4, a5] (by omega)
            have ya := y1.set #[.int .i64 0, .int .i64 0]
            have bla : Below w1.heap.size w1 ((((w1.alloc (.cells #[.slice none 0 0, .slice none 0 0, .slice none 0 0, .slice none 0 0, .slice none 0 0, .string ⟨#[]⟩] 32)).alloc (.cells #[.int .i64 0, .int .i64 0] 38)).setRow w1.heap.size #[a0, a1, a2, a3, a4, a5]).setRow (w1.heap.size + 1) #[.int .i64 0, .int .i64 0]) := below_row (below_row ((allocB w1 _).trans ((allocB _ _).mono (by simp))) (Nat.le_refl _) _) (Nat.le_succ _) _
            have bA := hbw.trans ((hb1.trans (bla.mono hb1.size)).mono hbw.size)
            clear bla hb1
            go_upto_region 10 with (first | (refine wpList_store_row rfl 32 (.tmp 10) (.tmp 45) rfl (w1.heap.size) _ rfl rfl 32 _ x0 (by kernel_rfl) rfl os1 ?_) | (refine wpList_store_row rfl 38 (.tmp 11) (.tmp 46) rfl (w1.heap.size + 1) _ rfl rfl 38 _ y1 (by kernel_rfl) rfl (by simp [Value.oneCell']) ?_))
            try simp only [Act.put]
            generalize (((w1.alloc (.cells #[.slice none 0 0, .slice none 0 0, .slice none 0 0, .slice none 0 0, .slice none 0 0, .string ⟨#[]⟩] 32)).alloc (.cells #[.int .i64 0, .int .i64 0] 38)).setRow w1.heap.size #[a0, a1, a2, a3, a4, a5]).setRow (w1.heap.size + 1) #[.int .i64 0, .int .i64 0] = Va at *
            clear x0 y0 y1
            have pa := box_cell ya 0 _ rfl
            have pb := box_cell ya 1 _ rfl
            clear xa ya
            go_wp2_with fail
            refine (HAW.out _ bA).mono ?_
            rintro en w4 ⟨rfl, hb4⟩
            go_wp2
            go_ret
            exact ⟨rfl, bA.trans (hb4.mono bA.size)⟩
          | bad l co er =>
            cases he
            rintro en w1 ⟨rfl, hb1⟩
            have x0 := (box_alloc w1 32 #[.slice none 0 0, .slice none 0 0, .slice none 0 0, .slice none 0 0, .slice none 0 0, .string ⟨#[]⟩]).new (allocB (w1.alloc (.cells #[.slice none 0 0, .slice none 0 0, .slice none 0 0, .slice none 0 0, .slice none 0 0, .string ⟨#[]⟩] 32)) (.cells #[.int .i64 0, .int .i64 0] 38))
            have y0 := box_alloc (w1.alloc (.cells #[.slice none 0 0, .slice none 0 0, .slice none 0 0, .slice none 0 0, .slice none 0 0, .string ⟨#[]⟩] 32)) 38 #[.int .i64 0, .int .i64 0]
            rw [show (w1.alloc (.cells #[.slice none 0 0, .slice none 0 0, .slice none 0 0, .slice none 0 0, .slice none 0 0, .string ⟨#[]⟩] 32)).heap.size = w1.heap.size + 1 by simp] at y0
            have xa := (x0.set #[.slice none 0 0, .slice none 0 0, .slice none 0 0, .slice none 0 0, .slice none 0 0, .string ⟨#[]⟩]).other (j := w1.heap.size + 1) #[.int .i64 0, .int .i64 0] (by omega)
            have y1 := y0.other (j := w1.heap.size) #[.slice none 0 0, .slice none 0 0, .slice none 0 0, .slice none 0 0, .slice none 0 0, .string ⟨#[]⟩] (by omega)
            have ya := y1.set #[.int .i64 0, .int .i64 0]
            have bla : Below w1.heap.size w1 ((((w1.alloc (.cells #[.slice none 0 0, .slice none 0 0, .slice none 0 0, .slice none 0 0, .slice none 0 0, .string ⟨#[]⟩] 32)).alloc (.cells #[.int .i64 0, .int .i64 0] 38)).setRow w1.heap.size #[.slice none 0 0, .slice none 0 0, .slice none 0 0, .slice none 0 0, .slice none 0 0, .string ⟨#[]⟩]).setRow (w1.heap.size + 1) #[.int .i64 0, .int .i64 0]) := below_row (below_row ((allocB w1 _).trans ((allocB _ _).mono (by simp))) (Nat.le_refl _) _) (Nat.le_succ _) _
            have bA := hbw.trans ((hb1.trans (bla.mono hb1.size)).mono hbw.size)
            clear bla hb1
            go_upto_region 10 with (first | (refine wpList_store_row rfl 32 (.tmp 10) (.tmp 45) rfl (w1.heap.size) _ rfl rfl 32 _ x0 (by kernel_rfl) rfl (by simp [Value.oneCell']) ?_) | (refine wpList_store_row rfl 38 (.tmp 11) (.tmp 46) rfl (w1.heap.size + 1) _ rfl rfl 38 _ y1 (by kernel_rfl) rfl (by simp [Value.oneCell']) ?_))
            try simp only [Act.put]
            generalize (((w1.alloc (.cells #[.slice none 0 0, .slice none 0 0, .slice none 0 0, .slice none 0 0, .slice none 0 0, .string ⟨#[]⟩] 32)).alloc (.cells #[.int .i64 0, .int .i64 0] 38)).setRow w1.heap.size #[.slice none 0 0, .slice none 0 0, .slice none 0 0, .slice none 0 0, .slice none 0 0, .string ⟨#[]⟩]).setRow (w1.heap.size + 1) #[.int .i64 0, .int .i64 0] = Va at *
            clear x0 y0 y1
            have pa := box_cell ya 0 _ rfl
            have pb := box_cell ya 1 _ rfl
            clear xa ya
            go_wp2_with fail
            refine (HAW.out _ bA).mono ?_
            rintro en w4 ⟨rfl, hb4⟩
            go_wp2
            go_ret
            exact ⟨rfl, bA.trans (hb4.mono bA.size)⟩
        · rw [if_neg hk] at he
          have hk' : ¬ (i : Int) ≤ 10 := by omega
          cases r with
          | ok pr => cases he
          | bad l co er =>
            cases he
            rintro en w1 ⟨rfl, hb1⟩
            have x0 := (box_alloc w1 32 #[.slice none 0 0, .slice none 0 0, .slice none 0 0, .slice none 0 0, .slice none 0 0, .string ⟨#[]⟩]).new (allocB (w1.alloc (.cells #[.slice none 0 0, .slice none 0 0, .slice none 0 0, .slice none 0 0, .slice none 0 0, .string ⟨#[]⟩] 32)) (.cells #[.int .i64 0, .int .i64 0] 38))
            have y0 := box_alloc (w1.alloc (.cells #[.slice none 0 0, .slice none 0 0, .slice none 0 0, .slice none 0 0, .slice none 0 0, .string ⟨#[]⟩] 32)) 38 #[.int .i64 0, .int .i64 0]
            rw [show (w1.alloc (.cells #[.slice none 0 0, .slice none 0 0, .slice none 0 0, .slice none 0 0, .slice none 0 0, .string ⟨#[]⟩] 32)).heap.size = w1.heap.size + 1 by simp] at y0
            have xa := (x0.set #[.slice none 0 0, .slice none 0 0, .slice none 0 0, .slice none 0 0, .slice none 0 0, .string ⟨#[]⟩]).other (j := w1.heap.size + 1) #[.int .i64 1, .int .i64 16] (by omega)
            have y1 := y0.other (j := w1.heap.size) #[.slice none 0 0, .slice none 0 0, .slice none 0 0, .slice none 0 0, .slice none 0 0, .string ⟨#[]⟩] (by omega)
            have ya := y1.set #[.int .i64 1, .int .i64 16]
            have bla : Below w1.heap.size w1 ((((w1.alloc (.cells #[.slice none 0 0, .slice none 0 0, .slice none 0 0, .slice none 0 0, .slice none 0 0, .string ⟨#[]⟩] 32)).alloc (.cells #[.int .i64 0, .int .i64 0] 38)).setRow w1.heap.size #[.slice none 0 0, .slice none 0 0, .slice none 0 0, .slice none 0 0, .slice none 0 0, .string ⟨#[]⟩]).setRow (w1.heap.size + 1) #[.int .i64 1, .int .i64 16]) := below_row (below_row ((allocB w1 _).trans ((allocB _ _).mono (by simp))) (Nat.le_refl _) _) (Nat.le_succ _) _
            have bA := hbw.trans ((hb1.trans (bla.mono hb1.size)).mono hbw.size)
            clear bla hb1
            go_upto_region 12 with (first | (refine wpList_store_row rfl 32 (.tmp 10) (.tmp 45) rfl (w1.heap.size) _ rfl rfl 32 _ x0 (by kernel_rfl) rfl (by simp [Value.oneCell']) ?_) | (refine wpList_store_row rfl 38 (.tmp 11) (.tmp 46) rfl (w1.heap.size + 1) _ rfl rfl 38 _ y1 (by kernel_rfl) rfl (by simp [Value.oneCell']) ?_))
            try simp only [Act.put]
            generalize (((w1.alloc (.cells #[.slice none 0 0, .slice none 0 0, .slice none 0 0, .slice none 0 0, .slice none 0 0, .string ⟨#[]⟩] 32)).alloc (.cells #[.int .i64 0, .int .i64 0] 38)).setRow w1.heap.size #[.slice none 0 0, .slice none 0 0, .slice none 0 0, .slice none 0 0, .slice none 0 0, .string ⟨#[]⟩]).setRow (w1.heap.size + 1) #[.int .i64 1, .int .i64 16] = Va at *
            have ya2 := ya.new (allocB Va (.cells #[.int .i64 1, .int .i64 1, .int .i64 4] 3))
            have pa := box_cell ya2 0 _ rfl
            have pb := box_cell ya2 1 _ rfl
            have bA2 := bA.trans ((allocB Va (.cells #[.int .i64 1, .int .i64 1, .int .i64 4] 3)).mono bA.size)
            clear xa ya ya2 x0 y0 y1
            go_wp2_with fail
            refine (HAW.out _ bA2).mono ?_
            rintro en w4 ⟨rfl, hb4⟩
            go_wp2
            go_ret
            exact ⟨rfl, bA2.trans (hb4.mono bA2.size)⟩
  · have hTX : ∀ O S : ByteArray, O = bt (rep k (opens 1)) → S = bt (rep k (shuts 1)) → ((((⟨#[120, 32, 58, 61, 32]⟩ : ByteArray) ++ O) ++ ⟨#[121]⟩) ++ S) ++ ⟨#[59, 32, 114, 101, 116, 117, 114, 110, 32, 120, 59]⟩ = bt (deepText k 1) := by
      rintro O S rfl rfl
      unfold deepText
      apply ByteArray.ext
      simp [bt]
    have HE := Lib.hid (deep_pure k (by omega) 1 (by decide)).1
    have HTX := Lib.hid hTX
    clear hTX
    go_enter Tryz.func9, Tryz.ntmps9
    go_wp2_with fail
    go_loopw [6, 7, 8] (fun ov sv iv wr => ∃ (i : Nat) (O S : ByteArray), i ≤ k ∧ iv = .int .i64 i ∧ ov = .string O ∧ sv = .string S ∧ Hid (O = bt (rep i (opens 1)) ∧ S = bt (rep i (shuts 1))) ∧ Below w.heap.size w wr) (fun _ _ iv _ => k - (intOf iv).toNat)
    case atStart => exact ⟨0, _, _, Nat.zero_le _, rfl, rfl, rfl, ⟨rfl, rfl⟩, Below.refl _ _⟩
    case round =>
      obtain ⟨i, O, S, hi, rfl, rfl, rfl, hOS, hbw⟩ := hrel
      have zO : O.size ≤ 60 := by rw [hOS.out.1]; exact (rep_size i (by omega) 1 (by decide)).1
      have zS : S.size ≤ 60 := by rw [hOS.out.2]; exact (rep_size i (by omega) 1 (by decide)).2
      by_cases hlt : i < k
      · have hlt' : (i : Int) < (k : Int) := by omega
        have HO : Hid (O ++ ⟨#[91]⟩ = bt (rep (i + 1) (opens 1)) ∧ (⟨#[93]⟩ : ByteArray) ++ S = bt (rep (i + 1) (shuts 1))) := by
          obtain ⟨h1, h2⟩ := hOS.out
          show _ ∧ _
          rw [h1, h2, ← rep_snoc, ← rep_cons]
          exact ⟨bt_app _ _, bt_app _ _⟩
        have bz : Below w.heap.size w ((wr.alloc (.cells #[.string ⟨#[40]⟩, .string ⟨#[91]⟩, .string ⟨#[108, 101, 110, 40]⟩] 9)).alloc (.cells #[.string ⟨#[41]⟩, .string ⟨#[93]⟩, .string ⟨#[41]⟩] 9)) :=
          hbw.trans (((allocB wr _).trans ((allocB _ _).mono (by simp))).mono hbw.size)
        clear hOS HE HTX HPO HAW
        go_wp2
        go_roundw
        case rel => exact ⟨i + 1, _, _, by omega, by go_num, rfl, rfl, HO.out, bz⟩
        case measure => simp [intOf] <;> omega
      · obtain rfl : i = k := by omega
        have hx := Lib.hid (HTX.out O S hOS.out.1 hOS.out.2)
        have he := HE.out
        clear hOS HE HTX hlt
        go_wp2_with fail
        rw [hx.out]
        clear hx
        refine (HPO.out wr hbw 1 (by decide)).mono ?_
        clear HPO
        generalize parse (deepText i 1) = r at *
        by_cases hk : i ≤ 10
        · rw [if_pos hk] at he
          have hk' : (i : Int) ≤ 10 := by omega
          cases r with
          | ok pr =>
            clear he
            rintro en w1 ⟨a0, a1, a2, a3, a4, a5, rfl, hv1, hb1⟩
            have os1 := hv1.all
            clear hv1
            have x0 := (box_alloc w1 32 #[.slice none 0 0, .slice none 0 0, .slice none 0 0, .slice none 0 0, .slice none 0 0, .string ⟨#[]⟩]).new (allocB (w1.alloc (.cells #[.slice none 0 0, .slice none 0 0, .slice none 0 0, .slice none 0 0, .slice none 0 0, .string ⟨#[]⟩] 32)) (.cells #[.int .i64 0, .int .i64 0] 38))
            have y0 := box_alloc (w1.alloc (.cells #[.slice none 0 0, .slice none 0 0, .slice none 0 0, .slice none 0 0, .slice none 0 0, .string ⟨#[]⟩] 32)) 38 #[.int .i64 0, .int .i64 0]
            rw [show (w1.alloc (.cells #[.slice none 0 0, .slice none 0 0, .slice none 0 0, .slice none 0 0, .slice none 0 0, .string ⟨#[]⟩] 32)).heap.size = w1.heap.size + 1 by simp] at y0
            have xa := (x0.set #[a0, a1, a2, a3, a4, a5]).other (j := w1.heap.size + 1) #[.int .i64 0, .int .i64 0] (by omega)
            have y1 := y0.other (j := w1.heap.size) #[a0, a1, a2, a3, a4, a5] (by omega)
            have ya := y1.set #[.int .i64 0, .int .i64 0]
            have bla : Below w1.heap.size w1 ((((w1.alloc (.cells #[.slice none 0 0, .slice none 0 0, .slice none 0 0, .slice none 0 0, .slice none 0 0, .string ⟨#[]⟩] 32)).alloc (.cells #[.int .i64 0, .int .i64 0] 38)).setRow w1.heap.size #[a0, a1, a2, a3, a4, a5]).setRow (w1.heap.size + 1) #[.int .i64 0, .int .i64 0]) := below_row (below_row ((allocB w1 _).trans ((allocB _ _).mono (by simp))) (Nat.le_refl _) _) (Nat.le_succ _) _
            have bA := hbw.trans ((hb1.trans (bla.mono hb1.size)).mono hbw.size)
            clear bla hb1
            go_upto_region 10 with (first | (refine wpList_store_row rfl 32 (.tmp 10) (.tmp 45) rfl (w1.heap.size) _ rfl rfl 32 _ x0 (by kernel_rfl) rfl os1 ?_) | (refine wpList_store_row rfl 38 (.tmp 11) (.tmp 46) rfl (w1.heap.size + 1) _ rfl rfl 38 _ y1 (by kernel_rfl) rfl (by simp [Value.oneCell']) ?_))
            try simp only [Act.put]
            generalize (((w1.alloc (.cells #[.slice none 0 0, .slice none 0 0, .slice none 0 0, .slice none 0 0, .slice none 0 0, .string ⟨#[]⟩] 32)).alloc (.cells #[.int .i64 0, .int .i64 0] 38)).setRow w1.heap.size #[a0, a1, a2, a3, a4, a5]).setRow (w1.heap.size + 1) #[.int .i64 0, .int .i64 0] = Va at *
            clear x0 y0 y1
            have pa := box_cell ya 0 _ rfl
            have pb := box_cell ya 1 _ rfl
            clear xa ya
            go_wp2_with fail
            refine (HAW.out _ bA).mono ?_
            rintro en w4 ⟨rfl, hb4⟩
            go_wp2
            go_ret
            exact ⟨rfl, bA.trans (hb4.mono bA.size)⟩
          | bad l co er =>
            cases he
            rintro en w1 ⟨rfl, hb1⟩
            have x0 := (box_alloc w1 32 #[.slice none 0 0, .slice none 0 0, .slice none 0 0, .slice none 0 0, .slice none 0 0, .string ⟨#[]⟩]).new (allocB (w1.alloc (.cells #[.slice none 0 0, .slice none 0 0, .slice none 0 0, .slice none 0 0, .slice none 0 0, .string ⟨#[]⟩] 32)) (.cells #[.int .i64 0, .int .i64 0] 38))
            have y0 := box_alloc (w1.alloc (.cells #[.slice none 0 0, .slice none 0 0, .slice none 0 0, .slice none 0 0, .slice none 0 0, .string ⟨#[]⟩] 32)) 38 #[.int .i64 0, .int .i64 0]
            rw [show (w1.alloc (.cells #[.slice none 0 0, .slice none 0 0, .slice none 0 0, .slice none 0 0, .slice none 0 0, .string ⟨#[]⟩] 32)).heap.size = w1.heap.size + 1 by simp] at y0
            have xa := (x0.set #[.slice none 0 0, .slice none 0 0, .slice none 0 0, .slice none 0 0, .slice none 0 0, .string ⟨#[]⟩]).other (j := w1.heap.size + 1) #[.int .i64 0, .int .i64 0] (by omega)
            have y1 := y0.other (j := w1.heap.size) #[.slice none 0 0, .slice none 0 0, .slice none 0 0, .slice none 0 0, .slice none 0 0, .string ⟨#[]⟩] (by omega)
            have ya := y1.set #[.int .i64 0, .int .i64 0]
            have bla : Below w1.heap.size w1 ((((w1.alloc (.cells #[.slice none 0 0, .slice none 0 0, .slice none 0 0, .slice none 0 0, .slice none 0 0, .string ⟨#[]⟩] 32)).alloc (.cells #[.int .i64 0, .int .i64 0] 38)).setRow w1.heap.size #[.slice none 0 0, .slice none 0 0, .slice none 0 0, .slice none 0 0, .slice none 0 0, .string ⟨#[]⟩]).setRow (w1.heap.size + 1) #[.int .i64 0, .int .i64 0]) := below_row (below_row ((allocB w1 _).trans ((allocB _ _).mono (by simp))) (Nat.le_refl _) _) (Nat.le_succ _) _
            have bA := hbw.trans ((hb1.trans (bla.mono hb1.size)).mono hbw.size)
            clear bla hb1
            go_upto_region 10 with (first | (refine wpList_store_row rfl 32 (.tmp 10) (.tmp 45) rfl (w1.heap.size) _ rfl rfl 32 _ x0 (by kernel_rfl) rfl (by simp [Value.oneCell']) ?_) | (refine wpList_store_row rfl 38 (.tmp 11) (.tmp 46) rfl (w1.heap.size + 1) _ rfl rfl 38 _ y1 (by kernel_rfl) rfl (by simp [Value.oneCell']) ?_))
            try simp only [Act.put]
            generalize (((w1.alloc (.cells #[.slice none 0 0, .slice none 0 0, .slice none 0 0, .slice none 0 0, .slice none 0 0, .string ⟨#[]⟩] 32)).alloc (.cells #[.int .i64 0, .int .i64 0] 38)).setRow w1.heap.size #[.slice none 0 0, .slice none 0 0, .slice none 0 0, .slice none 0 0, .slice none 0 0, .string ⟨#[]⟩]).setRow (w1.heap.size + 1) #[.int .i64 0, .int .i64 0] = Va at *
            clear x0 y0 y1
            have pa := box_cell ya 0 _ rfl
            have pb := box_cell ya 1 _ rfl
            clear xa ya
            go_wp2_with fail
            refine (HAW.out _ bA).mono ?_
            rintro en w4 ⟨rfl, hb4⟩
            go_wp2
            go_ret
            exact ⟨rfl, bA.trans (hb4.mono bA.size)⟩
        · rw [if_neg hk] at he
          have hk' : ¬ (i : Int) ≤ 10 := by omega
          cases r with
          | ok pr => cases he
          | bad l co er =>
            cases he
            rintro en w1 ⟨rfl, hb1⟩
            have x0 := (box_alloc w1 32 #[.slice none 0 0, .slice none 0 0, .slice none 0 0, .slice none 0 0, .slice none 0 0, .string ⟨#[]⟩]).new (allocB (w1.alloc (.cells #[.slice none 0 0, .slice none 0 0, .slice none 0 0, .slice none 0 0, .slice none 0 0, .string ⟨#[]⟩] 32)) (.cells #[.int .i64 0, .int .i64 0] 38))
            have y0 := box_alloc (w1.alloc (.cells #[.slice none 0 0, .slice none 0 0, .slice none 0 0, .slice none 0 0, .slice none 0 0, .string ⟨#[]⟩] 32)) 38 #[.int .i64 0, .int .i64 0]
            rw [show (w1.alloc (.cells #[.slice none 0 0, .slice none 0 0, .slice none 0 0, .slice none 0 0, .slice none 0 0, .string ⟨#[]⟩] 32)).heap.size = w1.heap.size + 1 by simp] at y0
            have xa := (x0.set #[.slice none 0 0, .slice none 0 0, .slice none 0 0, .slice none 0 0, .slice none 0 0, .string ⟨#[]⟩]).other (j := w1.heap.size + 1) #[.int .i64 1, .int .i64 16] (by omega)
            have y1 := y0.other (j := w1.heap.size) #[.slice none 0 0, .slice none 0 0, .slice none 0 0, .slice none 0 0, .slice none 0 0, .string ⟨#[]⟩] (by omega)
            have ya := y1.set #[.int .i64 1, .int .i64 16]
            have bla : Below w1.heap.size w1 ((((w1.alloc (.cells #[.slice none 0 0, .slice none 0 0, .slice none 0 0, .slice none 0 0, .slice none 0 0, .string ⟨#[]⟩] 32)).alloc (.cells #[.int .i64 0, .int .i64 0] 38)).setRow w1.heap.size #[.slice none 0 0, .slice none 0 0, .slice none 0 0, .slice none 0 0, .slice none 0 0, .string ⟨#[]⟩]).setRow (w1.heap.size + 1) #[.int .i64 1, .int .i64 16]) := below_row (below_row ((allocB w1 _).trans ((allocB _ _).mono (by simp))) (Nat.le_refl _) _) (Nat.le_succ _) _
            have bA := hbw.trans ((hb1.trans (bla.mono hb1.size)).mono hbw.size)
            clear bla hb1
            go_upto_region 12 with (first | (refine wpList_store_row rfl 32 (.tmp 10) (.tmp 45) rfl (w1.heap.size) _ rfl rfl 32 _ x0 (by kernel_rfl) rfl (by simp [Value.oneCell']) ?_) | (refine wpList_store_row rfl 38 (.tmp 11) (.tmp 46) rfl (w1.heap.size + 1) _ rfl rfl 38 _ y1 (by kernel_rfl) rfl (by simp [Value.oneCell']) ?_))
            try simp only [Act.put]
            generalize (((w1.alloc (.cells #[.slice none 0 0, .slice none 0 0, .slice none 0 0, .slice none 0 0, .slice none 0 0, .string ⟨#[]⟩] 32)).alloc (.cells #[.int .i64 0, .int .i64 0] 38)).setRow w1.heap.size #[.slice none 0 0, .slice none 0 0, .slice none 0 0, .slice none 0 0, .slice none 0 0, .string ⟨#[]⟩]).setRow (w1.heap.size + 1) #[.int .i64 1, .int .i64 16] = Va at *
            have ya2 := ya.new (allocB Va (.cells #[.int .i64 1, .int .i64 1, .int .i64 4] 3))
            have pa := box_cell ya2 0 _ rfl
            have pb := box_cell ya2 1 _ rfl
            have bA2 := bA.trans ((allocB Va (.cells #[.int .i64 1, .int .i64 1, .int .i64 4] 3)).mono bA.size)
            clear xa ya ya2 x0 y0 y1
            go_wp2_with fail
            refine (HAW.out _ bA2).mono ?_
            rintro en w4 ⟨rfl, hb4⟩
            go_wp2
            go_ret
            exact ⟨rfl, bA2.trans (hb4.mono bA2.size)⟩
  · have hTX : ∀ O S : ByteArray, O = bt (rep k (opens 2)) → S = bt (rep k (shuts 2)) → ((((⟨#[120, 32, 58, 61, 32]⟩ : ByteArray) ++ O) ++ ⟨#[121]⟩) ++ S) ++ ⟨#[59, 32, 114, 101, 116, 117, 114, 110, 32, 120, 59]⟩ = bt (deepText k 2) := by
      rintro O S rfl rfl
      unfold deepText
      apply ByteArray.ext
      simp [bt]
    have HE := Lib.hid (deep_pure k (by omega) 2 (by decide)).1
    have HTX := Lib.hid hTX
    clear hTX
    go_enter Tryz.func9, Tryz.ntmps9
    go_wp2_with fail
    go_loopw [6, 7, 8] (fun ov sv iv wr => ∃ (i : Nat) (O S : ByteArray), i ≤ k ∧ iv = .int .i64 i ∧ ov = .string O ∧ sv = .string S ∧ Hid (O = bt (rep i (opens 2)) ∧ S = bt (rep i (shuts 2))) ∧ Below w.heap.size w wr) (fun _ _ iv _ => k - (intOf iv).toNat)
    case atStart => exact ⟨0, _, _, Nat.zero_le _, rfl, rfl, rfl, ⟨rfl, rfl⟩, Below.refl _ _⟩
    case round =>
      obtain ⟨i, O, S, hi, rfl, rfl, rfl, hOS, hbw⟩ := hrel
      have zO : O.size ≤ 60 := by rw [hOS.out.1]; exact (rep_size i (by omega) 2 (by decide)).1
      have zS : S.size ≤ 60 := by rw [hOS.out.2]; exact (rep_size i (by omega) 2 (by decide)).2
      by_cases hlt : i < k
      · have hlt' : (i : Int) < (k : Int) := by omega
        have HO : Hid (O ++ ⟨#[108, 101, 110, 40]⟩ = bt (rep (i + 1) (opens 2)) ∧ (⟨#[41]⟩ : ByteArray) ++ S = bt (rep (i + 1) (shuts 2))) := by
          obtain ⟨h1, h2⟩ := hOS.out
          show _ ∧ _
          rw [h1, h2, ← rep_snoc, ← rep_cons]
          exact ⟨bt_app _ _, bt_app _ _⟩
        have bz : Below w.heap.size w ((wr.alloc (.cells #[.string ⟨#[40]⟩, .string ⟨#[91]⟩, .string ⟨#[108, 101, 110, 40]⟩] 9)).alloc (.cells #[.string ⟨#[41]⟩, .string ⟨#[93]⟩, .string ⟨#[41]⟩] 9)) :=
          hbw.trans (((allocB wr _).trans ((allocB _ _).mono (by simp))).mono hbw.size)
        clear hOS HE HTX HPO HAW
        go_wp2
        go_roundw
        case rel => exact ⟨i + 1, _, _, by omega, by go_num, rfl, rfl, HO.out, bz⟩
        case measure => simp [intOf] <;> omega
      · obtain rfl : i = k := by omega
        have hx := Lib.hid (HTX.out O S hOS.out.1 hOS.out.2)
        have he := HE.out
        clear hOS HE HTX hlt
        go_wp2_with fail
        rw [hx.out]
        clear hx
        refine (HPO.out wr hbw 2 (by decide)).mono ?_
        clear HPO
        generalize parse (deepText i 2) = r at *
        by_cases hk : i ≤ 10
        · rw [if_pos hk] at he
          have hk' : (i : Int) ≤ 10 := by omega
          cases r with
          | ok pr =>
            clear he
            rintro en w1 ⟨a0, a1, a2, a3, a4, a5, rfl, hv1, hb1⟩
            have os1 := hv1.all
            clear hv1
            have x0 := (box_alloc w1 32 #[.slice none 0 0, .slice none 0 0, .slice none 0 0, .slice none 0 0, .slice none 0 0, .string ⟨#[]⟩]).new (allocB (w1.alloc (.cells #[.slice none 0 0, .slice none 0 0, .slice none 0 0, .slice none 0 0, .slice none 0 0, .string ⟨#[]⟩] 32)) (.cells #[.int .i64 0, .int .i64 0] 38))
            have y0 := box_alloc (w1.alloc (.cells #[.slice none 0 0, .slice none 0 0, .slice none 0 0, .slice none 0 0, .slice none 0 0, .string ⟨#[]⟩] 32)) 38 #[.int .i64 0, .int .i64 0]
            rw [show (w1.alloc (.cells #[.slice none 0 0, .slice none 0 0, .slice none 0 0, .slice none 0 0, .slice none 0 0, .string ⟨#[]⟩] 32)).heap.size = w1.heap.size + 1 by simp] at y0
            have xa := (x0.set #[a0, a1, a2, a3, a4, a5]).other (j := w1.heap.size + 1) #[.int .i64 0, .int .i64 0] (by omega)
            have y1 := y0.other (j := w1.heap.size) #[a0, a1, a2, a3, a4, a5] (by omega)
            have ya := y1.set #[.int .i64 0, .int .i64 0]
            have bla : Below w1.heap.size w1 ((((w1.alloc (.cells #[.slice none 0 0, .slice none 0 0, .slice none 0 0, .slice none 0 0, .slice none 0 0, .string ⟨#[]⟩] 32)).alloc (.cells #[.int .i64 0, .int .i64 0] 38)).setRow w1.heap.size #[a0, a1, a2, a3, a4, a5]).setRow (w1.heap.size + 1) #[.int .i64 0, .int .i64 0]) := below_row (below_row ((allocB w1 _).trans ((allocB _ _).mono (by simp))) (Nat.le_refl _) _) (Nat.le_succ _) _
            have bA := hbw.trans ((hb1.trans (bla.mono hb1.size)).mono hbw.size)
            clear bla hb1
            go_upto_region 10 with (first | (refine wpList_store_row rfl 32 (.tmp 10) (.tmp 45) rfl (w1.heap.size) _ rfl rfl 32 _ x0 (by kernel_rfl) rfl os1 ?_) | (refine wpList_store_row rfl 38 (.tmp 11) (.tmp 46) rfl (w1.heap.size + 1) _ rfl rfl 38 _ y1 (by kernel_rfl) rfl (by simp [Value.oneCell']) ?_))
            try simp only [Act.put]
            generalize (((w1.alloc (.cells #[.slice none 0 0, .slice none 0 0, .slice none 0 0, .slice none 0 0, .slice none 0 0, .string ⟨#[]⟩] 32)).alloc (.cells #[.int .i64 0, .int .i64 0] 38)).setRow w1.heap.size #[a0, a1, a2, a3, a4, a5]).setRow (w1.heap.size + 1) #[.int .i64 0, .int .i64 0] = Va at *
            clear x0 y0 y1
            have pa := box_cell ya 0 _ rfl
            have pb := box_cell ya 1 _ rfl
            clear xa ya
            go_wp2_with fail
            refine (HAW.out _ bA).mono ?_
            rintro en w4 ⟨rfl, hb4⟩
            go_wp2
            go_ret
            exact ⟨rfl, bA.trans (hb4.mono bA.size)⟩
          | bad l co er =>
            cases he
            rintro en w1 ⟨rfl, hb1⟩
            have x0 := (box_alloc w1 32 #[.slice none 0 0, .slice none 0 0, .slice none 0 0, .slice none 0 0, .slice none 0 0, .string ⟨#[]⟩]).new (allocB (w1.alloc (.cells #[.slice none 0 0, .slice none 0 0, .slice none 0 0, .slice none 0 0, .slice none 0 0, .string ⟨#[]⟩] 32)) (.cells #[.int .i64 0, .int .i64 0] 38))
            have y0 := box_alloc (w1.alloc (.cells #[.slice none 0 0, .slice none 0 0, .slice none 0 0, .slice none 0 0, .slice none 0 0, .string ⟨#[]⟩] 32)) 38 #[.int .i64 0, .int .i64 0]
            rw [show (w1.alloc (.cells #[.slice none 0 0, .slice none 0 0, .slice none 0 0, .slice none 0 0, .slice none 0 0, .string ⟨#[]⟩] 32)).heap.size = w1.heap.size + 1 by simp] at y0
            have xa := (x0.set #[.slice none 0 0, .slice none 0 0, .slice none 0 0, .slice none 0 0, .slice none 0 0, .string ⟨#[]⟩]).other (j := w1.heap.size + 1) #[.int .i64 0, .int .i64 0] (by omega)
            have y1 := y0.other (j := w1.heap.size) #[.slice none 0 0, .slice none 0 0, .slice none 0 0, .slice none 0 0, .slice none 0 0, .string ⟨#[]⟩] (by omega)
            have ya := y1.set #[.int .i64 0, .int .i64 0]
            have bla : Below w1.heap.size w1 ((((w1.alloc (.cells #[.slice none 0 0, .slice none 0 0, .slice none 0 0, .slice none 0 0, .slice none 0 0, .string ⟨#[]⟩] 32)).alloc (.cells #[.int .i64 0, .int .i64 0] 38)).setRow w1.heap.size #[.slice none 0 0, .slice none 0 0, .slice none 0 0, .slice none 0 0, .slice none 0 0, .string ⟨#[]⟩]).setRow (w1.heap.size + 1) #[.int .i64 0, .int .i64 0]) := below_row (below_row ((allocB w1 _).trans ((allocB _ _).mono (by simp))) (Nat.le_refl _) _) (Nat.le_succ _) _
            have bA := hbw.trans ((hb1.trans (bla.mono hb1.size)).mono hbw.size)
            clear bla hb1
            go_upto_region 10 with (first | (refine wpList_store_row rfl 32 (.tmp 10) (.tmp 45) rfl (w1.heap.size) _ rfl rfl 32 _ x0 (by kernel_rfl) rfl (by simp [Value.oneCell']) ?_) | (refine wpList_store_row rfl 38 (.tmp 11) (.tmp 46) rfl (w1.heap.size + 1) _ rfl rfl 38 _ y1 (by kernel_rfl) rfl (by simp [Value.oneCell']) ?_))
            try simp only [Act.put]
            generalize (((w1.alloc (.cells #[.slice none 0 0, .slice none 0 0, .slice none 0 0, .slice none 0 0, .slice none 0 0, .string ⟨#[]⟩] 32)).alloc (.cells #[.int .i64 0, .int .i64 0] 38)).setRow w1.heap.size #[.slice none 0 0, .slice none 0 0, .slice none 0 0, .slice none 0 0, .slice none 0 0, .string ⟨#[]⟩]).setRow (w1.heap.size + 1) #[.int .i64 0, .int .i64 0] = Va at *
            clear x0 y0 y1
            have pa := box_cell ya 0 _ rfl
            have pb := box_cell ya 1 _ rfl
            clear xa ya
            go_wp2_with fail
            refine (HAW.out _ bA).mono ?_
            rintro en w4 ⟨rfl, hb4⟩
            go_wp2
            go_ret
            exact ⟨rfl, bA.trans (hb4.mono bA.size)⟩
        · rw [if_neg hk] at he
          have hk' : ¬ (i : Int) ≤ 10 := by omega
          cases r with
          | ok pr => cases he
          | bad l co er =>
            cases he
            rintro en w1 ⟨rfl, hb1⟩
            have x0 := (box_alloc w1 32 #[.slice none 0 0, .slice none 0 0, .slice none 0 0, .slice none 0 0, .slice none 0 0, .string ⟨#[]⟩]).new (allocB (w1.alloc (.cells #[.slice none 0 0, .slice none 0 0, .slice none 0 0, .slice none 0 0, .slice none 0 0, .string ⟨#[]⟩] 32)) (.cells #[.int .i64 0, .int .i64 0] 38))
            have y0 := box_alloc (w1.alloc (.cells #[.slice none 0 0, .slice none 0 0, .slice none 0 0, .slice none 0 0, .slice none 0 0, .string ⟨#[]⟩] 32)) 38 #[.int .i64 0, .int .i64 0]
            rw [show (w1.alloc (.cells #[.slice none 0 0, .slice none 0 0, .slice none 0 0, .slice none 0 0, .slice none 0 0, .string ⟨#[]⟩] 32)).heap.size = w1.heap.size + 1 by simp] at y0
            have xa := (x0.set #[.slice none 0 0, .slice none 0 0, .slice none 0 0, .slice none 0 0, .slice none 0 0, .string ⟨#[]⟩]).other (j := w1.heap.size + 1) #[.int .i64 1, .int .i64 49] (by omega)
            have y1 := y0.other (j := w1.heap.size) #[.slice none 0 0, .slice none 0 0, .slice none 0 0, .slice none 0 0, .slice none 0 0, .string ⟨#[]⟩] (by omega)
            have ya := y1.set #[.int .i64 1, .int .i64 49]
            have bla : Below w1.heap.size w1 ((((w1.alloc (.cells #[.slice none 0 0, .slice none 0 0, .slice none 0 0, .slice none 0 0, .slice none 0 0, .string ⟨#[]⟩] 32)).alloc (.cells #[.int .i64 0, .int .i64 0] 38)).setRow w1.heap.size #[.slice none 0 0, .slice none 0 0, .slice none 0 0, .slice none 0 0, .slice none 0 0, .string ⟨#[]⟩]).setRow (w1.heap.size + 1) #[.int .i64 1, .int .i64 49]) := below_row (below_row ((allocB w1 _).trans ((allocB _ _).mono (by simp))) (Nat.le_refl _) _) (Nat.le_succ _) _
            have bA := hbw.trans ((hb1.trans (bla.mono hb1.size)).mono hbw.size)
            clear bla hb1
            go_upto_region 12 with (first | (refine wpList_store_row rfl 32 (.tmp 10) (.tmp 45) rfl (w1.heap.size) _ rfl rfl 32 _ x0 (by kernel_rfl) rfl (by simp [Value.oneCell']) ?_) | (refine wpList_store_row rfl 38 (.tmp 11) (.tmp 46) rfl (w1.heap.size + 1) _ rfl rfl 38 _ y1 (by kernel_rfl) rfl (by simp [Value.oneCell']) ?_))
            try simp only [Act.put]
            generalize (((w1.alloc (.cells #[.slice none 0 0, .slice none 0 0, .slice none 0 0, .slice none 0 0, .slice none 0 0, .string ⟨#[]⟩] 32)).alloc (.cells #[.int .i64 0, .int .i64 0] 38)).setRow w1.heap.size #[.slice none 0 0, .slice none 0 0, .slice none 0 0, .slice none 0 0, .slice none 0 0, .string ⟨#[]⟩]).setRow (w1.heap.size + 1) #[.int .i64 1, .int .i64 49] = Va at *
            have ya2 := ya.new (allocB Va (.cells #[.int .i64 1, .int .i64 1, .int .i64 4] 3))
            have pa := box_cell ya2 0 _ rfl
            have pb := box_cell ya2 1 _ rfl
            have bA2 := bA.trans ((allocB Va (.cells #[.int .i64 1, .int .i64 1, .int .i64 4] 3)).mono bA.size)
            clear xa ya ya2 x0 y0 y1
            go_wp2_with fail
            refine (HAW.out _ bA2).mono ?_
            rintro en w4 ⟨rfl, hb4⟩
            go_wp2
            go_ret
            exact ⟨rfl, bA2.trans (hb4.mono bA2.size)⟩
end Go.Proofs.YtggdhgppclnckaaGreatDoor
