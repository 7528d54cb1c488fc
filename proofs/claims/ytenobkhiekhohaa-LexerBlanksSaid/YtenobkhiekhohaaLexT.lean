/-
  The lexer's continuations: name, comment, number, blank; read.
-/
import Derived.Test.YtenobkhiekhohaaLexR
namespace Go.Proofs.Ytenobkhiekhohaa
open Go.RowKit Lx
set_option maxRecDepth 20000

/-- The method with number k tells, of the reader in block g whose token begins at b, whether the next byte continues. -/
def Cont (k : FuncId) (g : Nat) (s : ByteArray) (b : Nat) (q : Nat → UInt8 → Bool) : Prop :=
  ∀ (w : World) (n : Nat) (p : Int × Int) (h : n < s.size), RdAt w g s b n p → Calls Try.prog k #[.pointer (some ⟨g, 0, none⟩), .int .u8 s[n].toNat] w fun e w' => e = .returned (.bool (q (n - b) s[n])) ∧ ∃ m, w' = w.drewN m

theorem cont_blank (g : Nat) (s : ByteArray) (b : Nat) : Cont 18 g s b qB := fun w _ _ _ _ =>
  (inBlank_x _ _ w).mono fun _ _ ⟨he, hw⟩ => ⟨he, 0, hw.symm⟩
theorem cont_number (g : Nat) (s : ByteArray) (b : Nat) : Cont 21 g s b qD := fun w _ _ _ _ =>
  (inNumber_x _ _ w).mono fun _ _ ⟨he, hw⟩ => ⟨he, 0, hw.symm⟩
theorem cont_comment (g : Nat) (s : ByteArray) (b : Nat) : Cont 19 g s b qC := by
  intro w n p h hr
  have hq : qC (n - b) s[n] = if decide (0 < n - b) = true then ((s[n].toNat : Int) != 10) else ((s[n].toNat : Int) == 35) := by
    unfold qC
    by_cases h0 : n - b = 0
    · simp [h0]; rfl
    · rw [if_neg h0, if_pos (by simp; omega), Bool.eq_iff_iff]; simp
  rw [hq]
  have HC := Lib.hid (begun_x hr)
  clear hq hr
  generalize (s[n].toNat : Int) = x
  generalize decide (0 < n - b) = d at *
  cases d
  all_goals
    go_enter Try.func19, Try.ntmps19
    go_wp2_with fail
    refine HC.out.mono ?_
    rintro e w' ⟨rfl, k, rfl⟩
    go_wp2
    go_ret
    exact ⟨rfl, _, rfl⟩
set_option maxHeartbeats 1000000 in
theorem cont_name (g : Nat) (s : ByteArray) (b : Nat) : Cont 20 g s b qN := by
  intro w n p h hr
  unfold qN
  have HB : Hid (∀ m, Calls Try.prog 29 #[.pointer (some ⟨g, 0, none⟩)] (w.drewN m) fun e w' => e = .returned (.bool (decide (0 < n - b))) ∧ ∃ k, w' = (w.drewN m).drewN k) := fun m => begun_x (hr.drewN m)
  clear hr
  generalize (s[n].toNat : Int) = x
  generalize decide (0 < n - b) = d at *
  have HL : Hid (∀ w : World, Calls Try.prog 30 #[.int .u8 x] w fun e w' => e = .returned (.bool (isL x)) ∧ w = w') := fun w => isLetter_x x w
  have HD : Hid (∀ w : World, Calls Try.prog 21 #[.pointer (some ⟨g, 0, none⟩), .int .u8 x] w fun e w' => e = .returned (.bool (isD x)) ∧ w = w') := fun w => inNumber_x _ x w
  generalize isL x = y at *
  generalize isD x = z at *
  cases y <;> cases d
  case true.false | true.true =>
    go_enter Try.func20, Try.ntmps20
    go_wp2_with fail
    refine (HL.out _).mono ?_
    rintro e w' ⟨rfl, rfl⟩
    go_wp2
    go_ret
    exact ⟨rfl, 0, rfl⟩
  case false.false =>
    go_enter Try.func20, Try.ntmps20
    go_wp2_with fail
    refine (HL.out _).mono ?_
    rintro e w' ⟨rfl, rfl⟩
    go_wp2_with fail
    refine (HB.out 0).mono ?_
    rintro e w' ⟨rfl, k, rfl⟩
    go_wp2
    go_ret
    exact ⟨rfl, k, rfl⟩
  case false.true =>
    go_enter Try.func20, Try.ntmps20
    go_wp2_with fail
    refine (HL.out _).mono ?_
    rintro e w' ⟨rfl, rfl⟩
    go_wp2_with fail
    refine (HB.out 0).mono ?_
    rintro e w' ⟨rfl, k, rfl⟩
    go_wp2_with fail
    refine (HD.out _).mono ?_
    rintro e w' ⟨rfl, rfl⟩
    go_wp2
    go_ret
    exact ⟨ret_bool (by simp), k, rfl⟩

/-- The bytes of s from k to e. -/
theorem run_step {s : ByteArray} {k m : Nat} (hm : k + m < s.size) : (s.data.toList.drop k).take (m + 1) = (s.data.toList.drop k).take m ++ [s[k + m]] := by
  rw [List.take_succ_eq_append_getElem (by simp; omega)]
  congr 1
  simp
  rfl
def GivesRun (g : Nat) (s : ByteArray) (k : Nat) (p : Int × Int) (m : Nat) (w : World) (e : Ending) (w' : World) : Prop :=
  e = .returned (.string (s.extract k (k + m))) ∧ RdAt w' g s k (k + m) (mvs p ((s.data.toList.drop k).take m)) ∧ But g w w'
set_option maxHeartbeats 2000000 in
theorem read_x {w : World} {g : Nat} {s : ByteArray} {b k : Nat} {p : Int × Int} (h : RdAt w g s b k p) (f : FuncId) (q : Nat → UInt8 → Bool) (hc : Cont f g s k q) (he : ∀ (args : Array Value) (W : World), (callFunc f args).run Try.prog W = .ok (.enter f args) W) :
    Calls Try.prog 23 #[.pointer (some ⟨g, 0, none⟩), .func (.func f) #[.pointer (some ⟨g, 0, none⟩)] #[]] w (GivesRun g s k p (gRun q 0 (s.data.toList.drop k)) w) := by
  obtain ⟨M, hM⟩ : ∃ M, gRun q 0 (s.data.toList.drop k) = M := ⟨_, rfl⟩
  have hlen : (s.data.toList.drop k).length = s.size - k := by simp
  have hML : M ≤ s.size - k := by rw [← hM, ← hlen]; exact gRun_le ..
  have HIN : Hid (∀ m, m < M → (h : k + m < s.size) → q (k + m - k) s[k + m] = true) := fun m hm h => by
    have := gRun_at q (s.data.toList.drop k) 0 m (by rw [hlen]; omega) (by rw [hM]; exact hm)
    simp only [Nat.zero_add, List.getElem_drop] at this
    rw [Nat.add_sub_cancel_left]
    exact this
  have HST : Hid ((h : k + M < s.size) → q (k + M - k) s[k + M] = false) := fun h => by
    have := gRun_stop q (s.data.toList.drop k) 0 (by rw [hlen, hM]; omega)
    simp only [Nat.zero_add, List.getElem_drop, hM] at this
    rw [Nat.add_sub_cancel_left]
    exact this
  rw [hM]
  clear hM hlen
  have c1 := h.cs.c1
  have c2 := h.cs.c2
  have f1 := h.cs.fr 1
  have hs8 := h.hs
  have hkn := h.hn
  have h1 : RdAt (w.setCell ⟨g, 1, none⟩ (.int .i64 (k : Int))) g s k k p := ⟨h.cs.set1 k, Nat.le_refl _, h.hn, h.hs, h.bd⟩
  have hb1 := (But.refl g w).set 1 (.int .i64 (k : Int))
  have HC := Lib.hid hc
  clear h hc
  go_enter Try.func23, Try.ntmps23
  go_wp2_with fail
  generalize w.setCell ⟨g, 1, none⟩ (.int .i64 (k : Int)) = w1 at *
  go_loopg [34] M (fun r tv wr => ∃ (m n : Nat), (tv = undef ∨ tv ≠ undef) ∧ Hid (k + m = n) ∧ Hid (m + r = M) ∧ RdAt wr g s k n (mvs p ((s.data.toList.drop k).take m)) ∧ But g w wr)
  case atStart => exact ⟨0, k, Classical.em _, rfl, by show _ = _; omega, h1, hb1⟩
  case round =>
    obtain ⟨m, n, _, hmn, hmr, hr, hB⟩ := hrel
    have c0 := hr.cs.c0
    have c1' := hr.cs.c1
    have c2' := hr.cs.c2
    have hmle : m ≤ M := by have := hmr.out; omega
    clear c2 c1 f1
    have z0 : (0 : Int) ≤ (n : Int) := by omega
    by_cases hlt : n < s.size
    · have hdt : decide ((n : Int) < (s.size : Int)) = true := by simpa using hlt
      by_cases hmM : m < M
      · have hq : q (n - k) s[n] = true := by
          have := HIN.out m hmM (by rw [hmn.out]; exact hlt)
          simp only [hmn.out] at this; exact this
        have HQ : Hid (∀ a, Calls Try.prog f #[.pointer (some ⟨g, 0, none⟩), .int .u8 (s[n]).toNat] (wr.drewN a) fun e w' => e = .returned (.bool true) ∧ ∃ j, w' = wr.drewN j) := fun a =>
          (HC.out _ _ _ hlt (hr.drewN a)).mono fun _ _ ⟨he, j, hj⟩ => ⟨by rw [he, hq], a + j, by rw [hj, World.drewN_drewN]⟩
        clear hq
        go_wp2_with fail
        go_quiet ((exact HQ.out _))
        have hr2 := hr.drewN nq
        have hB2 := hB.drewN nq
        clear c0 c1' c2' hr hB HQ
        generalize wr.drewN nq = w2 at *
        go_wp2_with fail
        refine (step_x hr2 hlt).mono ?_
        rintro e w3 ⟨rfl, hr3, hB3⟩
        have hlt' : k + m < s.size := by rw [hmn.out]; exact hlt
        have hrs := run_step hlt'
        have hsn : s[k + m] = s[n] := by simp only [hmn.out]
        have HRS : Hid ((s.data.toList.drop k).take (m + 1) = (s.data.toList.drop k).take m ++ [s[n]]) := by show _ = _; rw [hrs, hsn]
        clear hrs hsn
        go_wp2
        go_roundg (gk - 1)
        case measure => have := hmr.out; omega
        case rel => exact ⟨m + 1, n + 1, Classical.em _, by show _ = _; have := hmn.out; omega, by show _ = _; have := hmr.out; omega, by rw [HRS.out, mvs_append]; exact hr3, hB2.trans hB3⟩
      · obtain rfl : m = M := by omega
        have hq : q (n - k) s[n] = false := by
          have := HST.out (by rw [hmn.out]; exact hlt)
          simp only [hmn.out] at this; exact this
        have HQ : Hid (∀ a, Calls Try.prog f #[.pointer (some ⟨g, 0, none⟩), .int .u8 (s[n]).toNat] (wr.drewN a) fun e w' => e = .returned (.bool false) ∧ ∃ j, w' = wr.drewN j) := fun a =>
          (HC.out _ _ _ hlt (hr.drewN a)).mono fun _ _ ⟨he, j, hj⟩ => ⟨by rw [he, hq], a + j, by rw [hj, World.drewN_drewN]⟩
        clear hq
        have y1 : (k : Int) ≤ (n : Int) := by have := hmn.out; omega
        have y2 : (n : Int) ≤ (s.size : Int) := by omega
        have y3 : (0 : Int) ≤ (k : Int) := by omega
        go_wp2_with fail
        go_quiet ((exact HQ.out _))
        have hr2 := hr.drewN nq
        have hB2 := hB.drewN nq
        clear c0 c1' c2' hr hB HQ
        generalize wr.drewN nq = w2 at *
        have c0 := hr2.cs.c0
        have c1' := hr2.cs.c1
        have c2' := hr2.cs.c2
        go_wp2_with fail
        go_quiet (fail)
        go_wp2
        go_ret
        have e0 := hmn.out
        subst e0
        exact ⟨rfl, hr2.drewN _, hB2.drewN _⟩
    · have hdt : decide ((n : Int) < (s.size : Int)) = false := by simpa using hlt
      have hnn := hr.hn
      have hmM : m = M := by have := hmn.out; omega
      have y1 : (k : Int) ≤ (n : Int) := by have := hmn.out; omega
      have y2 : (n : Int) ≤ (s.size : Int) := by omega
      have y3 : (0 : Int) ≤ (k : Int) := by omega
      clear HC HIN HST
      subst hmM
      go_wp2_with fail
      go_quiet (fail)
      have hr2 := hr.drewN nq
      have hB2 := hB.drewN nq
      clear c0 c1' c2' hr hB
      generalize wr.drewN nq = w2 at *
      have c0 := hr2.cs.c0
      have c1' := hr2.cs.c1
      have c2' := hr2.cs.c2
      go_wp2_with fail
      go_quiet (fail)
      go_wp2
      go_ret
      have e0 := hmn.out
      subst e0
      exact ⟨rfl, hr2.drewN _, hB2.drewN _⟩
theorem enter_blank (args : Array Value) (W : World) : (callFunc 18 args).run Try.prog W = .ok (.enter 18 args) W := by go_simp
theorem enter_comment (args : Array Value) (W : World) : (callFunc 19 args).run Try.prog W = .ok (.enter 19 args) W := by go_simp
theorem enter_name (args : Array Value) (W : World) : (callFunc 20 args).run Try.prog W = .ok (.enter 20 args) W := by go_simp
theorem enter_number (args : Array Value) (W : World) : (callFunc 21 args).run Try.prog W = .ok (.enter 21 args) W := by go_simp
theorem enter_sign (args : Array Value) (W : World) : (callFunc 22 args).run Try.prog W = .ok (.enter 22 args) W := by go_simp
end Go.Proofs.Ytenobkhiekhohaa
