/-
  Clamp, the program's and the statement's; the check that each statement of layer 13 ends with.
-/
import Derived.Test.YtlhncmnhpnhfhaaFxL
namespace Go.Proofs.Ytlhncmnhpnhfhaa
open Go Go.RowKit Go.Shelf
set_option maxRecDepth 20000
namespace Fx

def clamp (k lo hi n : Int) : Int := if k = 1 then (if n = 0 then 0 else 1) else if k = 2 then max lo (min n hi) else if k = 3 then max 0 n else n
theorem clamp_x (k lo hi n : Int) (w : World) : Calls Try.prog 18 #[.agg #[.int .i64 k, .int .i64 lo, .int .i64 hi], .int .i64 n] w fun e w' => e = .returned (.int .i64 (clamp k lo hi n)) ∧ Below w.heap.size w w' := by
  have go : ∀ v, v = clamp k lo hi n → Calls Try.prog 18 #[.agg #[.int .i64 k, .int .i64 lo, .int .i64 hi], .int .i64 n] w fun e w' => e = .returned (.int .i64 v) ∧ Below w.heap.size w w' := by
    intro v hv
    have HV := Lib.hid hv
    clear hv
    go_enter Try.func18, Try.ntmps18
    go_wp2_with (refine (truth_x _ _).mono ?_; rintro e w' ⟨rfl, rfl⟩)
    all_goals
      go_ret
      refine ⟨ret_int ?_, (Below.refl _ _).alloc (Nat.le_refl _) _⟩
      rw [HV.out]
      unfold clamp
      try simp only [truth]
      simp_all
      try omega
  exact go _ rfl
theorem rclamp_x (k lo hi n : Int) (w : World) : Calls Try.prog 19 #[.agg #[.int .i64 k, .int .i64 lo, .int .i64 hi], .int .i64 n] w fun e w' => e = .returned (.int .i64 (clamp k lo hi n)) ∧ Below w.heap.size w w' := by
  have go : ∀ v, v = clamp k lo hi n → Calls Try.prog 19 #[.agg #[.int .i64 k, .int .i64 lo, .int .i64 hi], .int .i64 n] w fun e w' => e = .returned (.int .i64 v) ∧ Below w.heap.size w w' := by
    intro v hv
    have HV := Lib.hid hv
    clear hv
    go_enter Try.func19, Try.ntmps19
    go_wp2_with fail
    all_goals
      go_ret
      refine ⟨ret_int ?_, (Below.refl _ _).alloc (Nat.le_refl _) _⟩
      rw [HV.out]
      unfold clamp
      simp_all
      try omega
  exact go _ rfl

theorem Rds.laidS {S S' : Nat → Prop} {w : World} {ds : List D} {vs : List Value} {sz n : Nat} (t : TypeId) (h : Rds S w ds vs) (hl : ds.length = n * sz) (hS : ∀ b, S b → b < w.heap.size → S' b) (hN : S' w.heap.size) (hn : n ≤ maxLen) :
    Rd S' (w.alloc (.cells vs.toArray t)) (.l sz ds) (.slice (some ⟨w.heap.size, 0, none⟩) n n) := by
  have hk : Rds S' (w.alloc (.cells vs.toArray t)) ds vs := h.keep (allocB w _).size (fun k _ hk => (allocB w _).block k hk) hS
  refine .l sz ds w.heap.size 0 n n (fun i => vs[i]?.getD undef) hl (Nat.le_refl _) hn hN (by simp) (fun i hi => ?_) fun i d hd => ?_
  · rw [World.cell?_alloc_new, Nat.zero_add, List.getElem?_toArray]
    have : i < vs.length := by rw [← h.len]; exact hi
    simp [List.getElem?_eq_getElem this]
  · obtain ⟨v, hv, hr⟩ := hk.at i d hd
    simp only [hv, Option.getD_some]; exact hr

/-- The form of the check: a sum that is limited. -/
def awF : Fm := .mk 10 0 [.mk 1 1073741824 [], .mk 1 5 []]
theorem awF_ferr : ferr 0 awF = 0 := by decide +kernel
theorem awF_ev : ev (fun _ => 0) awF = 1073741824 := by decide +kernel
theorem awF_pair : ePair 0 (fun _ => 0) awF = .tuple #[.int .i64 1073741824, .int .i64 0] := by
  rw [ePair, awF_ferr, awF_ev]; rfl

theorem awake_x (w : World) : Calls Try.prog 7 #[] w (SaysTrue w) := by
  have HP := Lib.hid awF_pair
  obtain ⟨W, hW⟩ : ∃ W, w.alloc (.cells #[.int .i64 1, .int .i64 1073741824, .bool false, .slice none 0 0, .slice none 0 0, .slice none 0 0, .int .i64 1, .int .i64 5, .bool false, .slice none 0 0, .slice none 0 0, .slice none 0 0] 27) = W := ⟨_, rfl⟩
  have hsz : W.heap.size = w.heap.size + 1 := by rw [← hW]; simp
  have hb0 : Below w.heap.size w W := by rw [← hW]; exact allocB w _
  have hr : Rd (Lo W.heap.size) W (.l 6 (fds [.mk 1 1073741824 [], .mk 1 5 []])) (.slice (some ⟨w.heap.size, 0, none⟩) 2 2) := by
    rw [hsz, ← hW]
    refine Rds.laidS (S := Lo w.heap.size) (n := 2) 27 (vs := [.int .i64 1, .int .i64 1073741824, .bool false, .slice none 0 0, .slice none 0 0, .slice none 0 0, .int .i64 1, .int .i64 5, .bool false, .slice none 0 0, .slice none 0 0, .slice none 0 0]) ?_ rfl (fun _ h _ => Nat.lt_succ_of_lt h) (Nat.lt_succ_self _) (by decide)
    exact .cons (.n _ _) (.cons (.n _ _) (.cons (.u _) (.cons (.u _) (.cons (.u _) (.cons (.nil 6) (.cons (.n _ _) (.cons (.n _ _) (.cons (.u _) (.cons (.u _) (.cons (.u _) (.cons (.nil 6) .nil)))))))))))
  have hE := eval_x (nv := 0) (c := 0) (s := fun _ => 0) (A := none) (w := W) (f := awF) (v := #[.int .i64 10, .int .i64 0, .bool false, .slice none 0 0, .slice none 0 0, .slice (some ⟨w.heap.size, 0, none⟩) 2 2]) (by omega) ⟨_, _, _, _, _, rfl, hr⟩ (fun i hi => by omega)
  rw [awF_pair] at hE
  have hC := fun W => clamp_x 1 0 1 7 W
  simp only [show clamp 1 0 1 7 = 1 from rfl] at hC
  clear hr hsz HP
  go_enter Try.func7, Try.ntmps7
  go_wp2_with (first
    | ((try rw [hW]); refine hE.mono ?_; clear hE; rintro e w1 ⟨rfl, hb1⟩)
    | (refine (hC _).mono ?_; clear hC; rintro e w2 ⟨rfl, hb2⟩))
  go_ret
  exact ⟨rfl, nextB (nextB hb0 hb1) hb2⟩
end Fx
end Go.Proofs.Ytlhncmnhpnhfhaa
