/-
  ParserPrecedence.
-/
import Derived.Test.YtggdhgppclnckaaGreatDoorAw9
import Derived.Test.YtggdhgppclnckaaGreatDoorEvP
import Derived.Test.YtggdhgppclnckaaGreatDoorSmE
import Derived.OpenShut
namespace Go.Proofs.YtggdhgppclnckaaGreatDoor
open Go Go.RowKit Lx
set_option maxRecDepth 20000

namespace Ps
theorem len_one {r : PO} (h : r.len = 1) : ∃ p, r = .ok p ∧ p.body.length = 1 := by
  cases r with
  | ok p => exact ⟨p, rfl, h⟩
  | bad l c e => cases h
/-- What Parse gives, the list of statements told by its length. -/
def GivesV (p : Pr) (er : Int) (n : Nat) (w : World) (e : Ending) (w' : World) : Prop := ∃ a0 a1 a2 a3 A c a5 l co, e = .returned (.tuple #[.agg #[a0, a1, a2, a3, .slice A n c, a5], .agg #[.int .i64 l, .int .i64 co], .int .i64 er]) ∧ Rds (Fr w.heap.size) w' p.d [a0, a1, a2, a3, .slice A n c, a5] ∧ Below w.heap.size w w'
theorem gives_one {p : Pr} {w w' : World} {e : Ending} (hl : p.body.length = 1) (h : GivesPO (.ok p) w e w') : GivesV p 0 1 w e w' := by
  obtain ⟨a0, a1, a2, a3, a4, a5, rfl, hv, hb⟩ := h
  obtain ⟨A1, m1, c1, A2, m2, c2, A3, m3, c3, A4, m4, c4, A5, m5, c5, hcs, _, _, _, _, hv5⟩ := pr_form hv
  injection hcs with q0 hcs
  injection hcs with q1 hcs
  injection hcs with q2 hcs
  injection hcs with q3 hcs
  injection hcs with q4 hcs
  injection hcs with q5 hcs
  subst q0 q1 q2 q3 q4 q5
  rw [dsS_flat] at hv5
  obtain ⟨n5, _, _⟩ := hv5.elem St.d_len (by decide)
  rw [hl] at n5
  obtain rfl : m5 = 1 := n5
  exact ⟨_, _, _, _, _, _, _, _, _, rfl, hv, hb⟩
theorem gives_zero {l c er : Int} {w w' : World} {e : Ending} (h : GivesPO (.bad l c er) w e w') : GivesV Pr.zero er 0 w e w' := by
  obtain ⟨rfl, hb⟩ := h
  exact ⟨_, _, _, _, _, _, _, _, _, rfl, .cons (.nil 1) (.cons (.nil 5) (.cons (.nil 5) (.cons (.nil 6) (.cons (by simp only [Pr.zero, dsS]; exact .nil 25) (.cons (.s []) .nil))))), hb⟩
theorem op_cell (a : Nat) (h : a < 5) : (#[.string ⟨#[124, 124]⟩, .string ⟨#[38, 38]⟩, .string ⟨#[60]⟩, .string ⟨#[43]⟩, .string ⟨#[42]⟩] : Array Value)[a]? = some (.string (bt (opl a))) := by
  match a, h with
  | 0, _ => rfl
  | 1, _ => rfl
  | 2, _ => rfl
  | 3, _ => rfl
  | 4, _ => rfl
theorem lv_cell (a : Nat) (h : a < 5) : (#[.int .i64 1, .int .i64 2, .int .i64 3, .int .i64 4, .int .i64 5] : Array Value)[a]? = some (.int .i64 ((a : Int) + 1)) := by
  match a, h with
  | 0, _ => rfl
  | 1, _ => rfl
  | 2, _ => rfl
  | 3, _ => rfl
  | 4, _ => rfl
theorem op_size (a : Nat) : (opl a).length ≤ 2 := by
  unfold opl
  split <;> decide
theorem pt1_len {a b : Nat} (_ : a < 5) (_ : b < 5) : (pt1 a b).length ≤ 200 := by have := op_size a; have := op_size b; simp [pt1]; omega
theorem ptL_len {a b : Nat} (_ : a < 5) (_ : b < 5) : (ptL a b).length ≤ 200 := by have := op_size a; have := op_size b; simp [ptL]; omega
theorem ptR_len {a b : Nat} (_ : a < 5) (_ : b < 5) : (ptR a b).length ≤ 200 := by have := op_size a; have := op_size b; simp [ptR]; omega
theorem pt3_len {b : Nat} (_ : b < 5) : (pt3 b).length ≤ 200 := by have := op_size b; simp [pt3]; omega
theorem pt4_len {b : Nat} (_ : b < 5) : (pt4 b).length ≤ 200 := by have := op_size b; simp [pt4]; omega
theorem pt5_len {b : Nat} (_ : b < 5) : (pt5 b).length ≤ 200 := by have := op_size b; simp [pt5]; omega
theorem pt6_len {b : Nat} (_ : b < 5) : (pt6 b).length ≤ 200 := by have := op_size b; simp [pt6]; omega
theorem row_cell {w : World} {g j k : Nat} {v : Value} {cs : Array Value} (h : w.cell? ⟨g, j, none⟩ = some v) (hk : g ≠ k) : (w.setRow k cs).cell? ⟨g, j, none⟩ = some v := (World.cell?_of_block (a := ⟨g, j, none⟩) (setRow_other w k g cs hk)).trans h
set_option maxHeartbeats 16000000 in
theorem parserPrecedence.walk {nz kz : Int} {w : World} (hgl : Gl w) (h5 : 5 ≤ w.heap.size) (hn : (Lit.int .u8 nz).wf = true) (hz : (Lit.int .u8 kz).wf = true) : Calls Tryz.prog 7 #[.int .u8 nz, .int .u8 kz] w (SaysTrue w) := by
  obtain ⟨b0, b1⟩ := bounds_u8 hn
  obtain ⟨b2, b3⟩ := bounds_u8 hz
  obtain ⟨a, ha⟩ := Int.eq_ofNat_of_zero_le (show 0 ≤ nz % 5 by omega)
  obtain ⟨b, hb⟩ := Int.eq_ofNat_of_zero_le (show 0 ≤ kz % 5 by omega)
  have ha5 : a < 5 := by omega
  have hb5 : b < 5 := by omega
  have HAW : Hid (∀ W, Below w.heap.size w W → Calls Tryz.prog 11 #[] W (SaysTrue W)) := fun W hW => awake_x W (hgl.new hW h5) (Nat.le_trans h5 hW.size)
  have HPO : Hid (∀ (t : Bs) (x : ByteArray), x = bt t → t.length ≤ 200 → ∀ W, Below w.heap.size w W → Calls Tryz.prog 20 #[.string x] W (GivesPO (parse t) W)) := fun t x hx ht W hW => by
    subst hx
    have := po_x (bt t) W (by rw [Ps.bt_size]; unfold maxLen; omega) (hgl.new hW h5) (Nat.le_trans h5 hW.size)
    rw [po_parse (by rw [Ps.bt_size]; omega)] at this
    exact this
  clear hgl h5 hn hz
  obtain ⟨p3, h3, l3⟩ := len_one (prec_3 b hb5)
  obtain ⟨p5, h50, l5⟩ := len_one (prec_5 b hb5)
  have h4 := (prec_34 b hb5).symm.trans h3
  have h6 := (prec_56 b hb5).symm.trans h50
  obtain ⟨p1, er1, n1, HC, HQ1⟩ : ∃ p1 er1 n1, Hid ((a = 2 ∧ b = 2 ∧ er1 = 4 ∧ n1 = 0) ∨ (¬ (a = 2 ∧ b = 2) ∧ er1 = 0 ∧ n1 = 1 ∧ parse (pt1 a b) = .ok p1 ∧ p1.body.length = 1)) ∧ Hid (∀ w e w', GivesPO (parse (pt1 a b)) w e w' → GivesV p1 er1 n1 w e w') := by
    rcases prec_len a ha5 b hb5 with ⟨rfl, rfl⟩ | h1
    · refine ⟨Pr.zero, 4, 0, .inl ⟨rfl, rfl, rfl, rfl⟩, fun w e w' h => ?_⟩
      have := prec_two
      generalize parse (pt1 2 2) = r at *
      cases r with
      | ok p => cases this
      | bad l c er => cases this; exact gives_zero h
    · obtain ⟨p, hp, hl⟩ := len_one h1
      by_cases h2 : a = 2 ∧ b = 2
      · obtain ⟨rfl, rfl⟩ := h2
        have := prec_two
        rw [hp] at this
        cases this
      · exact ⟨p, 0, 1, .inr ⟨h2, rfl, rfl, hp, hl⟩, fun w e w' h => gives_one hl (hp ▸ h)⟩
  go_enter Tryz.func7, Tryz.ntmps7
  have xo := (box_alloc w 9 #[.string ⟨#[124, 124]⟩, .string ⟨#[38, 38]⟩, .string ⟨#[60]⟩, .string ⟨#[43]⟩, .string ⟨#[42]⟩]).new (allocB (w.alloc (.cells #[.string ⟨#[124, 124]⟩, .string ⟨#[38, 38]⟩, .string ⟨#[60]⟩, .string ⟨#[43]⟩, .string ⟨#[42]⟩] 9)) (.cells #[.int .i64 1, .int .i64 2, .int .i64 3, .int .i64 4, .int .i64 5] 3))
  have xl := box_alloc (w.alloc (.cells #[.string ⟨#[124, 124]⟩, .string ⟨#[38, 38]⟩, .string ⟨#[60]⟩, .string ⟨#[43]⟩, .string ⟨#[42]⟩] 9)) 3 #[.int .i64 1, .int .i64 2, .int .i64 3, .int .i64 4, .int .i64 5]
  rw [show (w.alloc (.cells #[.string ⟨#[124, 124]⟩, .string ⟨#[38, 38]⟩, .string ⟨#[60]⟩, .string ⟨#[43]⟩, .string ⟨#[42]⟩] 9)).heap.size = w.heap.size + 1 by simp] at xl
  have hw1 : Below w.heap.size w ((w.alloc (.cells #[.string ⟨#[124, 124]⟩, .string ⟨#[38, 38]⟩, .string ⟨#[60]⟩, .string ⟨#[43]⟩, .string ⟨#[42]⟩] 9)).alloc (.cells #[.int .i64 1, .int .i64 2, .int .i64 3, .int .i64 4, .int .i64 5] 3)) := (allocB w _).trans ((allocB _ _).mono (by simp))
  have ha5i : (a : Int) < 5 := by omega
  have hb5i : (b : Int) < 5 := by omega
  go_wp2_with fail
  generalize (w.alloc (.cells #[.string ⟨#[124, 124]⟩, .string ⟨#[38, 38]⟩, .string ⟨#[60]⟩, .string ⟨#[43]⟩, .string ⟨#[42]⟩] 9)).alloc (.cells #[.int .i64 1, .int .i64 2, .int .i64 3, .int .i64 4, .int .i64 5] 3) = w1 at *
  obtain ⟨x0, hx0⟩ : ∃ x0, x0 = bt (opl a) := ⟨_, rfl⟩
  obtain ⟨y0, hy0⟩ : ∃ y0, y0 = bt (opl b) := ⟨_, rfl⟩
  have ca := box_cell xo a (.string x0) (by rw [hx0]; exact op_cell a ha5)
  have cb := box_cell xo b (.string y0) (by rw [hy0]; exact op_cell b hb5)
  have la := box_cell xl a _ (lv_cell a ha5)
  have lb := box_cell xl b _ (lv_cell b hb5)
  have zx : x0.size ≤ 2 := by rw [hx0]; exact op_size a
  have zy : y0.size ≤ 2 := by rw [hy0]; exact op_size b
  have hlw := xo.lt
  have hll := xl.lt
  have oa := op_size a
  have ob := op_size b
  have HT1 : Hid (∀ W, Below w1.heap.size w1 W → Calls Tryz.prog 20 #[.string (((((⟨#[120, 32, 58, 61, 32, 117, 32]⟩ : ByteArray) ++ x0) ++ (⟨#[32, 118, 32]⟩ : ByteArray)) ++ y0) ++ (⟨#[32, 119, 59, 32, 114, 101, 116, 117, 114, 110, 32, 120, 59]⟩ : ByteArray))] W (GivesV p1 er1 n1 W)) := fun W hW => (HPO.out (pt1 a b) _ (by rw [hx0, hy0]; apply ByteArray.ext; simp [bt, pt1]) (by exact pt1_len ha5 hb5) W (hw1.trans (hW.mono hw1.size))).mono fun _ _ h => HQ1.out _ _ _ h
  have HT3 : Hid (∀ W, Below w1.heap.size w1 W → Calls Tryz.prog 20 #[.string (((⟨#[120, 32, 58, 61, 32, 33, 117, 32]⟩ : ByteArray) ++ y0) ++ (⟨#[32, 45, 118, 46, 49, 91, 48, 93, 59, 32, 114, 101, 116, 117, 114, 110, 32, 120, 59]⟩ : ByteArray))] W (GivesV p3 0 1 W)) := fun W hW => (HPO.out (pt3 b) _ (by rw [hy0]; apply ByteArray.ext; simp [bt, pt3]) (by exact pt3_len hb5) W (hw1.trans (hW.mono hw1.size))).mono fun _ _ h => gives_one l3 (h3 ▸ h)
  have HT4 : Hid (∀ W, Below w1.heap.size w1 W → Calls Tryz.prog 20 #[.string (((⟨#[120, 32, 58, 61, 32, 40, 33, 117, 41, 32]⟩ : ByteArray) ++ y0) ++ (⟨#[32, 40, 45, 40, 40, 118, 46, 49, 41, 91, 48, 93, 41, 41, 59, 32, 114, 101, 116, 117, 114, 110, 32, 120, 59]⟩ : ByteArray))] W (GivesV p3 0 1 W)) := fun W hW => (HPO.out (pt4 b) _ (by rw [hy0]; apply ByteArray.ext; simp [bt, pt4]) (by exact pt4_len hb5) W (hw1.trans (hW.mono hw1.size))).mono fun _ _ h => gives_one l3 (h4 ▸ h)
  have HT5 : Hid (∀ W, Below w1.heap.size w1 W → Calls Tryz.prog 20 #[.string (((⟨#[120, 32, 58, 61, 32, 117, 32, 63, 32, 118, 32, 58, 32, 119, 32, 63, 32, 117, 32]⟩ : ByteArray) ++ y0) ++ (⟨#[32, 118, 32, 58, 32, 119, 59, 32, 114, 101, 116, 117, 114, 110, 32, 120, 59]⟩ : ByteArray))] W (GivesV p5 0 1 W)) := fun W hW => (HPO.out (pt5 b) _ (by rw [hy0]; apply ByteArray.ext; simp [bt, pt5]) (by exact pt5_len hb5) W (hw1.trans (hW.mono hw1.size))).mono fun _ _ h => gives_one l5 (h50 ▸ h)
  have HT6 : Hid (∀ W, Below w1.heap.size w1 W → Calls Tryz.prog 20 #[.string (((⟨#[120, 32, 58, 61, 32, 117, 32, 63, 32, 118, 32, 58, 32, 40, 119, 32, 63, 32, 40, 117, 32]⟩ : ByteArray) ++ y0) ++ (⟨#[32, 118, 41, 32, 58, 32, 119, 41, 59, 32, 114, 101, 116, 117, 114, 110, 32, 120, 59]⟩ : ByteArray))] W (GivesV p5 0 1 W)) := fun W hW => (HPO.out (pt6 b) _ (by rw [hy0]; apply ByteArray.ext; simp [bt, pt6]) (by exact pt6_len hb5) W (hw1.trans (hW.mono hw1.size))).mono fun _ _ h => gives_one l5 (h6 ▸ h)
  have HTL : Hid (¬ a < b → ¬ (a = 2 ∧ b = 2) → parse (pt1 a b) = .ok p1 → p1.body.length = 1 → ∀ W, Below w1.heap.size w1 W → Calls Tryz.prog 20 #[.string (((⟨#[120, 32, 58, 61, 32]⟩ : ByteArray) ++ (((((⟨#[40, 117, 32]⟩ : ByteArray) ++ x0) ++ (⟨#[32, 118, 41, 32]⟩ : ByteArray)) ++ y0) ++ (⟨#[32, 119]⟩ : ByteArray))) ++ (⟨#[59, 32, 114, 101, 116, 117, 114, 110, 32, 120, 59]⟩ : ByteArray))] W (GivesV p1 0 1 W)) := fun h1 h2 h3 hl W hW => (HPO.out (ptL a b) _ (by rw [hx0, hy0]; apply ByteArray.ext; simp [bt, ptL]) (by exact ptL_len ha5 hb5) W (hw1.trans (hW.mono hw1.size))).mono fun _ _ h => gives_one hl (((prec_l a b ha5 hb5 h1 h2).symm.trans h3) ▸ h)
  have HTR : Hid (a < b → parse (pt1 a b) = .ok p1 → p1.body.length = 1 → ∀ W, Below w1.heap.size w1 W → Calls Tryz.prog 20 #[.string (((⟨#[120, 32, 58, 61, 32]⟩ : ByteArray) ++ (((((⟨#[117, 32]⟩ : ByteArray) ++ x0) ++ (⟨#[32, 40, 118, 32]⟩ : ByteArray)) ++ y0) ++ (⟨#[32, 119, 41]⟩ : ByteArray))) ++ (⟨#[59, 32, 114, 101, 116, 117, 114, 110, 32, 120, 59]⟩ : ByteArray))] W (GivesV p1 0 1 W)) := fun h1 h3 hl W hW => (HPO.out (ptR a b) _ (by rw [hx0, hy0]; apply ByteArray.ext; simp [bt, ptR]) (by exact ptR_len ha5 hb5) W (hw1.trans (hW.mono hw1.size))).mono fun _ _ h => gives_one hl (((prec_r a b ha5 hb5 h1).symm.trans h3) ▸ h)
  have HAW1 : Hid (∀ W, Below w1.heap.size w1 W → Calls Tryz.prog 11 #[] W (SaysTrue W) ∧ Below w.heap.size w W) := fun W hW => ⟨HAW.out W (hw1.trans (hW.mono hw1.size)), hw1.trans (hW.mono hw1.size)⟩
  clear HPO HQ1 HAW hx0 hy0 oa ob h3 h4 h50 h6 l3 l5 xo xl ha5 hb5 b0 b1 b2 b3
  go_cut [9, 11] (fun pv ev wx => ∃ k a0 a1 a2 a3 A c a5, pv = .pointer (some ⟨k, 0, none⟩) ∧ ev = .int .i64 er1 ∧ Box wx k 32 #[a0, a1, a2, a3, .slice A n1 c, a5] ∧ Rds Tt wx p1.d [a0, a1, a2, a3, .slice A n1 c, a5] ∧ Below w1.heap.size w1 wx)
  case first =>
    clear HTL HTR HT3 HT4 HT5 HT6 HAW1 HC la lb
    refine wp_region_held_drew (S := fun W => W.cell? ⟨w.heap.size, a, none⟩ = some (.string x0) ∧ W.cell? ⟨w.heap.size, b, none⟩ = some (.string y0)) (by kernel_rfl) ?_ (fun hHeld => ?_)
    · exact ⟨ca, cb⟩
    have hB : Below w1.heap.size w1 w1.drew := drewN_below (Below.refl _ _) 1
    have hlt : w.heap.size < w1.drew.heap.size := hlw
    generalize w1.drew = v0 at *
    refine tkH (i := 0) (oi := ⟨some 39, _, _, _, _, _⟩) (v := ?_) ?_ ?_
    rotate_left
    · intro W hSw
      go_simp
      try (first | with_reducible rfl | exact rfl)
    try simp only [Act.put, List.setIfInBounds_toArray, List.set_cons_zero, List.set_cons_succ]
    refine tkH (i := 1) (oi := ⟨some 40, _, _, _, _, _⟩) (v := ?_) ?_ ?_
    rotate_left
    · intro W hSw
      go_simp
      try (first | with_reducible rfl | exact rfl)
    try simp only [Act.put, List.setIfInBounds_toArray, List.set_cons_zero, List.set_cons_succ]
    refine tkH (i := 2) (oi := ⟨some 41, _, _, _, _, _⟩) (v := ?_) ?_ ?_
    rotate_left
    · intro W hSw
      go_simp
      try (first | with_reducible rfl | exact rfl)
    try simp only [Act.put, List.setIfInBounds_toArray, List.set_cons_zero, List.set_cons_succ]
    refine tkH (i := 3) (oi := ⟨some 42, _, _, _, _, _⟩) (v := ?_) ?_ ?_
    rotate_left
    · intro W hSw
      have p0 := hSw.1
      have p1 := hSw.2
      go_simp
      try (first | with_reducible rfl | exact rfl)
    try simp only [Act.put, List.setIfInBounds_toArray, List.set_cons_zero, List.set_cons_succ]
    refine tkH (i := 4) (oi := ⟨some 43, _, _, _, _, _⟩) (v := ?_) ?_ ?_
    rotate_left
    · intro W hSw
      go_simp
      try simp only [ByteArray.size_append]
      rw [if_neg (by first | omega | (simp; omega))]
    try simp only [Act.put, List.setIfInBounds_toArray, List.set_cons_zero, List.set_cons_succ]
    refine tkH (i := 5) (oi := ⟨some 44, _, _, _, _, _⟩) (v := ?_) ?_ ?_
    rotate_left
    · intro W hSw
      go_simp
      try simp only [ByteArray.size_append]
      rw [if_neg (by first | omega | (simp; omega))]
    try simp only [Act.put, List.setIfInBounds_toArray, List.set_cons_zero, List.set_cons_succ]
    refine tkH (i := 6) (oi := ⟨some 45, _, _, _, _, _⟩) (v := ?_) ?_ ?_
    rotate_left
    · intro W hSw
      go_simp
      try (first | with_reducible rfl | exact rfl)
    try simp only [Act.put, List.setIfInBounds_toArray, List.set_cons_zero, List.set_cons_succ]
    refine tkH (i := 7) (oi := ⟨some 46, _, _, _, _, _⟩) (v := ?_) ?_ ?_
    rotate_left
    · intro W hSw
      go_simp
      try (first | with_reducible rfl | exact rfl)
    try simp only [Act.put, List.setIfInBounds_toArray, List.set_cons_zero, List.set_cons_succ]
    refine tkH (i := 8) (oi := ⟨some 47, _, _, _, _, _⟩) (v := ?_) ?_ ?_
    rotate_left
    · intro W hSw
      go_simp
      try (first | with_reducible rfl | exact rfl)
    try simp only [Act.put, List.setIfInBounds_toArray, List.set_cons_zero, List.set_cons_succ]
    refine tkH (i := 9) (oi := ⟨some 48, _, _, _, _, _⟩) (v := ?_) ?_ ?_
    rotate_left
    · intro W hSw
      have p0 := hSw.1
      have p1 := hSw.2
      go_simp
      try (first | with_reducible rfl | exact rfl)
    try simp only [Act.put, List.setIfInBounds_toArray, List.set_cons_zero, List.set_cons_succ]
    refine tkH (i := 10) (oi := ⟨some 49, _, _, _, _, _⟩) (v := ?_) ?_ ?_
    rotate_left
    · intro W hSw
      go_simp
      try simp only [ByteArray.size_append]
      rw [if_neg (by first | omega | (simp; omega))]
    try simp only [Act.put, List.setIfInBounds_toArray, List.set_cons_zero, List.set_cons_succ]
    refine tkH (i := 11) (oi := ⟨some 50, _, _, _, _, _⟩) (v := ?_) ?_ ?_
    rotate_left
    · intro W hSw
      go_simp
      try simp only [ByteArray.size_append]
      rw [if_neg (by first | omega | (simp; omega))]
    try simp only [Act.put, List.setIfInBounds_toArray, List.set_cons_zero, List.set_cons_succ]
    refine wpAnyH_ready (rs := [12, 17, 18]) (by kernel_rfl) (by simp) ?_
    refine AllReadyH.cons (o := ⟨some 51, _, _, _, _, _⟩) rfl (fun K hK => ?_) (AllReadyH.cons (o := ⟨some 9, _, _, _, _, _⟩) rfl (fun K hK => ?_) (AllReadyH.cons (o := ⟨some 10, _, _, _, _, _⟩) rfl (fun K hK => ?_) (AllReadyH.nil)))
    · go_simp
      refine (HT1.out v0 hB).mono ?_
      rintro en v1 ⟨a0, a1, a2, a3, A, c, a5, l, co, rfl, hv, hb⟩
      replace hv := hv.keep (S' := fun k => v0.heap.size ≤ k ∧ k < v1.heap.size) (Nat.le_refl _) (fun _ _ _ => rfl) fun k hk hl => ⟨hk, hl⟩
      refine hK.out _ _ (⟨below_cell hb hHeld.1 (by assumption), below_cell hb hHeld.2 (by assumption)⟩) (fun hHeld => ?_)
      clear hK K
      try simp only [Act.put, List.setIfInBounds_toArray, List.set_cons_zero, List.set_cons_succ]
      try simp only [Act.put, List.setIfInBounds_toArray, List.set_cons_zero, List.set_cons_succ]
      refine tkH (i := 13) (oi := ⟨some 38, _, _, _, _, _⟩) (v := ?_) ?_ ?_
      rotate_left
      · intro W hSw
        go_simp
        try (first | with_reducible rfl | exact rfl)
      try simp only [Act.put, List.setIfInBounds_toArray, List.set_cons_zero, List.set_cons_succ]
      refine tkH (i := 14) (oi := ⟨some 52, _, _, _, _, _⟩) (v := ?_) ?_ ?_
      rotate_left
      · intro W hSw
        go_simp
        try (first | with_reducible rfl | exact rfl)
      try simp only [Act.put, List.setIfInBounds_toArray, List.set_cons_zero, List.set_cons_succ]
      refine tkH (i := 15) (oi := ⟨some 53, _, _, _, _, _⟩) (v := ?_) ?_ ?_
      rotate_left
      · intro W hSw
        go_simp
        try (first | with_reducible rfl | exact rfl)
      try simp only [Act.put, List.setIfInBounds_toArray, List.set_cons_zero, List.set_cons_succ]
      refine tkH (i := 16) (oi := ⟨some 54, _, _, _, _, _⟩) (v := ?_) ?_ ?_
      rotate_left
      · intro W hSw
        go_simp
        try (first | with_reducible rfl | exact rfl)
      try simp only [Act.put, List.setIfInBounds_toArray, List.set_cons_zero, List.set_cons_succ]
      have hbs1 := hb.size
      replace hlt := Nat.lt_of_lt_of_le hlt hb.size
      replace hB := hB.trans (hb.mono hB.size)
      clear hb
      refine wpAnyH_ready (rs := [17, 18]) (by kernel_rfl) (by simp) ?_
      refine AllReadyH.cons (o := ⟨some 9, _, _, _, _, _⟩) rfl (fun K hK => ?_) (AllReadyH.cons (o := ⟨some 10, _, _, _, _, _⟩) rfl (fun K hK => ?_) (AllReadyH.nil))
      · go_simp
        refine hK.out _ _ (⟨below_cell (allocB v1 _) hHeld.1 (by assumption), below_cell (allocB v1 _) hHeld.2 (by assumption)⟩) (fun hHeld => ?_)
        clear hK K
        try simp only [Act.put, List.setIfInBounds_toArray, List.set_cons_zero, List.set_cons_succ]
        try simp only [Act.put, List.setIfInBounds_toArray, List.set_cons_zero, List.set_cons_succ]
        have hb := allocB v1 (.cells #[.slice none 0 0, .slice none 0 0, .slice none 0 0, .slice none 0 0, .slice none 0 0, .string ⟨#[]⟩] 32)
        have hkP := hB.size
        replace hv := hv.new hb
        have x := box_alloc v1 32 #[.slice none 0 0, .slice none 0 0, .slice none 0 0, .slice none 0 0, .slice none 0 0, .string ⟨#[]⟩]
        have hbs2 := hb.size
        replace hlt := Nat.lt_of_lt_of_le hlt hb.size
        replace hB := hB.trans (hb.mono hB.size)
        clear hb
        generalize v1.alloc (.cells #[.slice none 0 0, .slice none 0 0, .slice none 0 0, .slice none 0 0, .slice none 0 0, .string ⟨#[]⟩] 32) = v2 at *
        have hxl2 := x.lt
        refine wpAnyH_ready (rs := [18]) (by kernel_rfl) (by simp) ?_
        refine AllReadyH.cons (o := ⟨some 10, _, _, _, _, _⟩) rfl (fun K hK => ?_) AllReadyH.nil
        go_simp
        refine hK.out _ _ (⟨below_cell (allocB v2 _) hHeld.1 (by assumption), below_cell (allocB v2 _) hHeld.2 (by assumption)⟩) (fun hHeld => ?_)
        clear hK K
        try simp only [Act.put, List.setIfInBounds_toArray, List.set_cons_zero, List.set_cons_succ]
        try simp only [Act.put, List.setIfInBounds_toArray, List.set_cons_zero, List.set_cons_succ]
        have hb := allocB v2 (.cells #[.int .i64 0, .int .i64 0] 38)
        have hne : v1.heap.size ≠ v2.heap.size := by have := x.lt; omega
        have hkQ := hB.size
        replace x := x.new hb
        replace hv := hv.new hb
        have y := box_alloc v2 38 #[.int .i64 0, .int .i64 0]
        have hbs3 := hb.size
        replace hlt := Nat.lt_of_lt_of_le hlt hb.size
        replace hB := hB.trans (hb.mono hB.size)
        clear hb
        generalize v2.alloc (.cells #[.int .i64 0, .int .i64 0] 38) = v3 at *
        have hxl3 := y.lt
        have os := hv.all
        have hne2 := hne.symm
        refine wpAnyH_ready (rs := [19]) (by kernel_rfl) (by simp) ?_
        refine AllReadyH.cons (o := ⟨none, _, _, _, _, _⟩) rfl (fun K hK => ?_) AllReadyH.nil
        rw [if_pos (by rfl)]
        refine wp_store_row 32 (.tmp 9) (.tmp 52) rfl (v1.heap.size) _ rfl rfl 32 _ (x) (by kernel_rfl) rfl (os) ?_
        refine hK.out _ _ (⟨row_cell hHeld.1 (by omega), row_cell hHeld.2 (by omega)⟩) (fun hHeld => ?_)
        clear hK K
        try simp only [Act.put]
        refine wpAnyH_ready (rs := [20]) (by kernel_rfl) (by simp) ?_
        refine AllReadyH.cons (o := ⟨none, _, _, _, _, _⟩) rfl (fun K hK => ?_) AllReadyH.nil
        rw [if_pos (by rfl)]
        refine wp_store_row 38 (.tmp 10) (.tmp 53) rfl (v2.heap.size) _ rfl rfl 38 _ (y.other _ hne2) (by kernel_rfl) rfl (by simp [Value.oneCell']) ?_
        refine hK.out _ _ (⟨row_cell hHeld.1 (by omega), row_cell hHeld.2 (by omega)⟩) (fun hHeld => ?_)
        clear hK K
        try simp only [Act.put]
        refine wpAnyH_ready (rs := [21]) (by kernel_rfl) (by simp) ?_
        refine AllReadyH.cons (o := ⟨some 11, _, _, _, _, _⟩) rfl (fun K hK => ?_) AllReadyH.nil
        go_simp
        refine hK.out _ _ (hHeld) (fun hHeld => ?_)
        clear hK K
        try simp only [Act.put, List.setIfInBounds_toArray, List.set_cons_zero, List.set_cons_succ]
        refine wpAnyH_done (by kernel_rfl) ?_ _
        go_wp2
        go_meet
        exact ⟨v1.heap.size, _, _, _, _, _, _, _, rfl, rfl, (x.set _).other _ hne, ((hv.row (by omega) _).row (by omega) _).tt, below_row (below_row hB (by omega) _) (by omega) _⟩
      · go_simp
        refine hK.out _ _ (⟨below_cell (allocB v1 _) hHeld.1 (by assumption), below_cell (allocB v1 _) hHeld.2 (by assumption)⟩) (fun hHeld => ?_)
        clear hK K
        try simp only [Act.put, List.setIfInBounds_toArray, List.set_cons_zero, List.set_cons_succ]
        try simp only [Act.put, List.setIfInBounds_toArray, List.set_cons_zero, List.set_cons_succ]
        have hb := allocB v1 (.cells #[.int .i64 0, .int .i64 0] 38)
        have hkQ := hB.size
        replace hv := hv.new hb
        have y := box_alloc v1 38 #[.int .i64 0, .int .i64 0]
        have hbs4 := hb.size
        replace hlt := Nat.lt_of_lt_of_le hlt hb.size
        replace hB := hB.trans (hb.mono hB.size)
        clear hb
        generalize v1.alloc (.cells #[.int .i64 0, .int .i64 0] 38) = v4 at *
        have hxl4 := y.lt
        refine wpAnyH_ready (rs := [17]) (by kernel_rfl) (by simp) ?_
        refine AllReadyH.cons (o := ⟨some 9, _, _, _, _, _⟩) rfl (fun K hK => ?_) AllReadyH.nil
        go_simp
        refine hK.out _ _ (⟨below_cell (allocB v4 _) hHeld.1 (by assumption), below_cell (allocB v4 _) hHeld.2 (by assumption)⟩) (fun hHeld => ?_)
        clear hK K
        try simp only [Act.put, List.setIfInBounds_toArray, List.set_cons_zero, List.set_cons_succ]
        try simp only [Act.put, List.setIfInBounds_toArray, List.set_cons_zero, List.set_cons_succ]
        have hb := allocB v4 (.cells #[.slice none 0 0, .slice none 0 0, .slice none 0 0, .slice none 0 0, .slice none 0 0, .string ⟨#[]⟩] 32)
        have hne : v4.heap.size ≠ v1.heap.size := by have := y.lt; omega
        have hkP := hB.size
        replace y := y.new hb
        replace hv := hv.new hb
        have x := box_alloc v4 32 #[.slice none 0 0, .slice none 0 0, .slice none 0 0, .slice none 0 0, .slice none 0 0, .string ⟨#[]⟩]
        have hbs5 := hb.size
        replace hlt := Nat.lt_of_lt_of_le hlt hb.size
        replace hB := hB.trans (hb.mono hB.size)
        clear hb
        generalize v4.alloc (.cells #[.slice none 0 0, .slice none 0 0, .slice none 0 0, .slice none 0 0, .slice none 0 0, .string ⟨#[]⟩] 32) = v5 at *
        have hxl5 := x.lt
        have os := hv.all
        have hne2 := hne.symm
        refine wpAnyH_ready (rs := [19]) (by kernel_rfl) (by simp) ?_
        refine AllReadyH.cons (o := ⟨none, _, _, _, _, _⟩) rfl (fun K hK => ?_) AllReadyH.nil
        rw [if_pos (by rfl)]
        refine wp_store_row 32 (.tmp 9) (.tmp 52) rfl (v4.heap.size) _ rfl rfl 32 _ (x) (by kernel_rfl) rfl (os) ?_
        refine hK.out _ _ (⟨row_cell hHeld.1 (by omega), row_cell hHeld.2 (by omega)⟩) (fun hHeld => ?_)
        clear hK K
        try simp only [Act.put]
        refine wpAnyH_ready (rs := [20]) (by kernel_rfl) (by simp) ?_
        refine AllReadyH.cons (o := ⟨none, _, _, _, _, _⟩) rfl (fun K hK => ?_) AllReadyH.nil
        rw [if_pos (by rfl)]
        refine wp_store_row 38 (.tmp 10) (.tmp 53) rfl (v1.heap.size) _ rfl rfl 38 _ (y.other _ hne2) (by kernel_rfl) rfl (by simp [Value.oneCell']) ?_
        refine hK.out _ _ (⟨row_cell hHeld.1 (by omega), row_cell hHeld.2 (by omega)⟩) (fun hHeld => ?_)
        clear hK K
        try simp only [Act.put]
        refine wpAnyH_ready (rs := [21]) (by kernel_rfl) (by simp) ?_
        refine AllReadyH.cons (o := ⟨some 11, _, _, _, _, _⟩) rfl (fun K hK => ?_) AllReadyH.nil
        go_simp
        refine hK.out _ _ (hHeld) (fun hHeld => ?_)
        clear hK K
        try simp only [Act.put, List.setIfInBounds_toArray, List.set_cons_zero, List.set_cons_succ]
        refine wpAnyH_done (by kernel_rfl) ?_ _
        go_wp2
        go_meet
        exact ⟨v4.heap.size, _, _, _, _, _, _, _, rfl, rfl, (x.set _).other _ hne, ((hv.row (by omega) _).row (by omega) _).tt, below_row (below_row hB (by omega) _) (by omega) _⟩
    · go_simp
      refine hK.out _ _ (⟨below_cell (allocB v0 _) hHeld.1 (by assumption), below_cell (allocB v0 _) hHeld.2 (by assumption)⟩) (fun hHeld => ?_)
      clear hK K
      try simp only [Act.put, List.setIfInBounds_toArray, List.set_cons_zero, List.set_cons_succ]
      try simp only [Act.put, List.setIfInBounds_toArray, List.set_cons_zero, List.set_cons_succ]
      have hb := allocB v0 (.cells #[.slice none 0 0, .slice none 0 0, .slice none 0 0, .slice none 0 0, .slice none 0 0, .string ⟨#[]⟩] 32)
      have hkP := hB.size
      have x := box_alloc v0 32 #[.slice none 0 0, .slice none 0 0, .slice none 0 0, .slice none 0 0, .slice none 0 0, .string ⟨#[]⟩]
      have hbs6 := hb.size
      replace hlt := Nat.lt_of_lt_of_le hlt hb.size
      replace hB := hB.trans (hb.mono hB.size)
      clear hb
      generalize v0.alloc (.cells #[.slice none 0 0, .slice none 0 0, .slice none 0 0, .slice none 0 0, .slice none 0 0, .string ⟨#[]⟩] 32) = v6 at *
      have hxl6 := x.lt
      refine wpAnyH_ready (rs := [12, 18]) (by kernel_rfl) (by simp) ?_
      refine AllReadyH.cons (o := ⟨some 51, _, _, _, _, _⟩) rfl (fun K hK => ?_) (AllReadyH.cons (o := ⟨some 10, _, _, _, _, _⟩) rfl (fun K hK => ?_) (AllReadyH.nil))
      · go_simp
        refine (HT1.out v6 hB).mono ?_
        rintro en v7 ⟨a0, a1, a2, a3, A, c, a5, l, co, rfl, hv, hb⟩
        replace hv := hv.keep (S' := fun k => v6.heap.size ≤ k ∧ k < v7.heap.size) (Nat.le_refl _) (fun _ _ _ => rfl) fun k hk hl => ⟨hk, hl⟩
        have hxlt := x.lt
        replace x := x.new hb
        refine hK.out _ _ (⟨below_cell hb hHeld.1 (by assumption), below_cell hb hHeld.2 (by assumption)⟩) (fun hHeld => ?_)
        clear hK K
        try simp only [Act.put, List.setIfInBounds_toArray, List.set_cons_zero, List.set_cons_succ]
        try simp only [Act.put, List.setIfInBounds_toArray, List.set_cons_zero, List.set_cons_succ]
        refine tkH (i := 13) (oi := ⟨some 38, _, _, _, _, _⟩) (v := ?_) ?_ ?_
        rotate_left
        · intro W hSw
          go_simp
          try (first | with_reducible rfl | exact rfl)
        try simp only [Act.put, List.setIfInBounds_toArray, List.set_cons_zero, List.set_cons_succ]
        refine tkH (i := 14) (oi := ⟨some 52, _, _, _, _, _⟩) (v := ?_) ?_ ?_
        rotate_left
        · intro W hSw
          go_simp
          try (first | with_reducible rfl | exact rfl)
        try simp only [Act.put, List.setIfInBounds_toArray, List.set_cons_zero, List.set_cons_succ]
        refine tkH (i := 15) (oi := ⟨some 53, _, _, _, _, _⟩) (v := ?_) ?_ ?_
        rotate_left
        · intro W hSw
          go_simp
          try (first | with_reducible rfl | exact rfl)
        try simp only [Act.put, List.setIfInBounds_toArray, List.set_cons_zero, List.set_cons_succ]
        refine tkH (i := 16) (oi := ⟨some 54, _, _, _, _, _⟩) (v := ?_) ?_ ?_
        rotate_left
        · intro W hSw
          go_simp
          try (first | with_reducible rfl | exact rfl)
        try simp only [Act.put, List.setIfInBounds_toArray, List.set_cons_zero, List.set_cons_succ]
        have hbs7 := hb.size
        replace hlt := Nat.lt_of_lt_of_le hlt hb.size
        replace hB := hB.trans (hb.mono hB.size)
        clear hb
        refine wpAnyH_ready (rs := [18]) (by kernel_rfl) (by simp) ?_
        refine AllReadyH.cons (o := ⟨some 10, _, _, _, _, _⟩) rfl (fun K hK => ?_) AllReadyH.nil
        go_simp
        refine hK.out _ _ (⟨below_cell (allocB v7 _) hHeld.1 (by assumption), below_cell (allocB v7 _) hHeld.2 (by assumption)⟩) (fun hHeld => ?_)
        clear hK K
        try simp only [Act.put, List.setIfInBounds_toArray, List.set_cons_zero, List.set_cons_succ]
        try simp only [Act.put, List.setIfInBounds_toArray, List.set_cons_zero, List.set_cons_succ]
        have hb := allocB v7 (.cells #[.int .i64 0, .int .i64 0] 38)
        have hne : v0.heap.size ≠ v7.heap.size := by have := x.lt; omega
        have hkQ := hB.size
        replace x := x.new hb
        replace hv := hv.new hb
        have y := box_alloc v7 38 #[.int .i64 0, .int .i64 0]
        have hbs8 := hb.size
        replace hlt := Nat.lt_of_lt_of_le hlt hb.size
        replace hB := hB.trans (hb.mono hB.size)
        clear hb
        generalize v7.alloc (.cells #[.int .i64 0, .int .i64 0] 38) = v8 at *
        have hxl8 := y.lt
        have os := hv.all
        have hne2 := hne.symm
        refine wpAnyH_ready (rs := [19]) (by kernel_rfl) (by simp) ?_
        refine AllReadyH.cons (o := ⟨none, _, _, _, _, _⟩) rfl (fun K hK => ?_) AllReadyH.nil
        rw [if_pos (by rfl)]
        refine wp_store_row 32 (.tmp 9) (.tmp 52) rfl (v0.heap.size) _ rfl rfl 32 _ (x) (by kernel_rfl) rfl (os) ?_
        refine hK.out _ _ (⟨row_cell hHeld.1 (by omega), row_cell hHeld.2 (by omega)⟩) (fun hHeld => ?_)
        clear hK K
        try simp only [Act.put]
        refine wpAnyH_ready (rs := [20]) (by kernel_rfl) (by simp) ?_
        refine AllReadyH.cons (o := ⟨none, _, _, _, _, _⟩) rfl (fun K hK => ?_) AllReadyH.nil
        rw [if_pos (by rfl)]
        refine wp_store_row 38 (.tmp 10) (.tmp 53) rfl (v7.heap.size) _ rfl rfl 38 _ (y.other _ hne2) (by kernel_rfl) rfl (by simp [Value.oneCell']) ?_
        refine hK.out _ _ (⟨row_cell hHeld.1 (by omega), row_cell hHeld.2 (by omega)⟩) (fun hHeld => ?_)
        clear hK K
        try simp only [Act.put]
        refine wpAnyH_ready (rs := [21]) (by kernel_rfl) (by simp) ?_
        refine AllReadyH.cons (o := ⟨some 11, _, _, _, _, _⟩) rfl (fun K hK => ?_) AllReadyH.nil
        go_simp
        refine hK.out _ _ (hHeld) (fun hHeld => ?_)
        clear hK K
        try simp only [Act.put, List.setIfInBounds_toArray, List.set_cons_zero, List.set_cons_succ]
        refine wpAnyH_done (by kernel_rfl) ?_ _
        go_wp2
        go_meet
        exact ⟨v0.heap.size, _, _, _, _, _, _, _, rfl, rfl, (x.set _).other _ hne, ((hv.row (by omega) _).row (by omega) _).tt, below_row (below_row hB (by omega) _) (by omega) _⟩
      · go_simp
        refine hK.out _ _ (⟨below_cell (allocB v6 _) hHeld.1 (by assumption), below_cell (allocB v6 _) hHeld.2 (by assumption)⟩) (fun hHeld => ?_)
        clear hK K
        try simp only [Act.put, List.setIfInBounds_toArray, List.set_cons_zero, List.set_cons_succ]
        try simp only [Act.put, List.setIfInBounds_toArray, List.set_cons_zero, List.set_cons_succ]
        have hb := allocB v6 (.cells #[.int .i64 0, .int .i64 0] 38)
        have hne : v0.heap.size ≠ v6.heap.size := by have := x.lt; omega
        have hkQ := hB.size
        replace x := x.new hb
        have y := box_alloc v6 38 #[.int .i64 0, .int .i64 0]
        have hbs9 := hb.size
        replace hlt := Nat.lt_of_lt_of_le hlt hb.size
        replace hB := hB.trans (hb.mono hB.size)
        clear hb
        generalize v6.alloc (.cells #[.int .i64 0, .int .i64 0] 38) = v9 at *
        have hxl9 := y.lt
        refine wpAnyH_ready (rs := [12]) (by kernel_rfl) (by simp) ?_
        refine AllReadyH.cons (o := ⟨some 51, _, _, _, _, _⟩) rfl (fun K hK => ?_) AllReadyH.nil
        go_simp
        refine (HT1.out v9 hB).mono ?_
        rintro en v10 ⟨a0, a1, a2, a3, A, c, a5, l, co, rfl, hv, hb⟩
        replace hv := hv.keep (S' := fun k => v9.heap.size ≤ k ∧ k < v10.heap.size) (Nat.le_refl _) (fun _ _ _ => rfl) fun k hk hl => ⟨hk, hl⟩
        have hxlt := x.lt
        have hylt := y.lt
        replace x := x.new hb
        replace y := y.new hb
        refine hK.out _ _ (⟨below_cell hb hHeld.1 (by assumption), below_cell hb hHeld.2 (by assumption)⟩) (fun hHeld => ?_)
        clear hK K
        try simp only [Act.put, List.setIfInBounds_toArray, List.set_cons_zero, List.set_cons_succ]
        try simp only [Act.put, List.setIfInBounds_toArray, List.set_cons_zero, List.set_cons_succ]
        refine tkH (i := 13) (oi := ⟨some 38, _, _, _, _, _⟩) (v := ?_) ?_ ?_
        rotate_left
        · intro W hSw
          go_simp
          try (first | with_reducible rfl | exact rfl)
        try simp only [Act.put, List.setIfInBounds_toArray, List.set_cons_zero, List.set_cons_succ]
        refine tkH (i := 14) (oi := ⟨some 52, _, _, _, _, _⟩) (v := ?_) ?_ ?_
        rotate_left
        · intro W hSw
          go_simp
          try (first | with_reducible rfl | exact rfl)
        try simp only [Act.put, List.setIfInBounds_toArray, List.set_cons_zero, List.set_cons_succ]
        refine tkH (i := 15) (oi := ⟨some 53, _, _, _, _, _⟩) (v := ?_) ?_ ?_
        rotate_left
        · intro W hSw
          go_simp
          try (first | with_reducible rfl | exact rfl)
        try simp only [Act.put, List.setIfInBounds_toArray, List.set_cons_zero, List.set_cons_succ]
        refine tkH (i := 16) (oi := ⟨some 54, _, _, _, _, _⟩) (v := ?_) ?_ ?_
        rotate_left
        · intro W hSw
          go_simp
          try (first | with_reducible rfl | exact rfl)
        try simp only [Act.put, List.setIfInBounds_toArray, List.set_cons_zero, List.set_cons_succ]
        have hbs10 := hb.size
        replace hlt := Nat.lt_of_lt_of_le hlt hb.size
        replace hB := hB.trans (hb.mono hB.size)
        clear hb
        have os := hv.all
        have hne2 := hne.symm
        refine wpAnyH_ready (rs := [19]) (by kernel_rfl) (by simp) ?_
        refine AllReadyH.cons (o := ⟨none, _, _, _, _, _⟩) rfl (fun K hK => ?_) AllReadyH.nil
        rw [if_pos (by rfl)]
        refine wp_store_row 32 (.tmp 9) (.tmp 52) rfl (v0.heap.size) _ rfl rfl 32 _ (x) (by kernel_rfl) rfl (os) ?_
        refine hK.out _ _ (⟨row_cell hHeld.1 (by omega), row_cell hHeld.2 (by omega)⟩) (fun hHeld => ?_)
        clear hK K
        try simp only [Act.put]
        refine wpAnyH_ready (rs := [20]) (by kernel_rfl) (by simp) ?_
        refine AllReadyH.cons (o := ⟨none, _, _, _, _, _⟩) rfl (fun K hK => ?_) AllReadyH.nil
        rw [if_pos (by rfl)]
        refine wp_store_row 38 (.tmp 10) (.tmp 53) rfl (v6.heap.size) _ rfl rfl 38 _ (y.other _ hne2) (by kernel_rfl) rfl (by simp [Value.oneCell']) ?_
        refine hK.out _ _ (⟨row_cell hHeld.1 (by omega), row_cell hHeld.2 (by omega)⟩) (fun hHeld => ?_)
        clear hK K
        try simp only [Act.put]
        refine wpAnyH_ready (rs := [21]) (by kernel_rfl) (by simp) ?_
        refine AllReadyH.cons (o := ⟨some 11, _, _, _, _, _⟩) rfl (fun K hK => ?_) AllReadyH.nil
        go_simp
        refine hK.out _ _ (hHeld) (fun hHeld => ?_)
        clear hK K
        try simp only [Act.put, List.setIfInBounds_toArray, List.set_cons_zero, List.set_cons_succ]
        refine wpAnyH_done (by kernel_rfl) ?_ _
        go_wp2
        go_meet
        exact ⟨v0.heap.size, _, _, _, _, _, _, _, rfl, rfl, (x.set _).other _ hne, ((hv.row (by omega) _).row (by omega) _).tt, below_row (below_row hB (by omega) _) (by omega) _⟩
    · go_simp
      refine hK.out _ _ (⟨below_cell (allocB v0 _) hHeld.1 (by assumption), below_cell (allocB v0 _) hHeld.2 (by assumption)⟩) (fun hHeld => ?_)
      clear hK K
      try simp only [Act.put, List.setIfInBounds_toArray, List.set_cons_zero, List.set_cons_succ]
      try simp only [Act.put, List.setIfInBounds_toArray, List.set_cons_zero, List.set_cons_succ]
      have hb := allocB v0 (.cells #[.int .i64 0, .int .i64 0] 38)
      have hkQ := hB.size
      have y := box_alloc v0 38 #[.int .i64 0, .int .i64 0]
      have hbs11 := hb.size
      replace hlt := Nat.lt_of_lt_of_le hlt hb.size
      replace hB := hB.trans (hb.mono hB.size)
      clear hb
      generalize v0.alloc (.cells #[.int .i64 0, .int .i64 0] 38) = v11 at *
      have hxl11 := y.lt
      refine wpAnyH_ready (rs := [12, 17]) (by kernel_rfl) (by simp) ?_
      refine AllReadyH.cons (o := ⟨some 51, _, _, _, _, _⟩) rfl (fun K hK => ?_) (AllReadyH.cons (o := ⟨some 9, _, _, _, _, _⟩) rfl (fun K hK => ?_) (AllReadyH.nil))
      · go_simp
        refine (HT1.out v11 hB).mono ?_
        rintro en v12 ⟨a0, a1, a2, a3, A, c, a5, l, co, rfl, hv, hb⟩
        replace hv := hv.keep (S' := fun k => v11.heap.size ≤ k ∧ k < v12.heap.size) (Nat.le_refl _) (fun _ _ _ => rfl) fun k hk hl => ⟨hk, hl⟩
        have hylt := y.lt
        replace y := y.new hb
        refine hK.out _ _ (⟨below_cell hb hHeld.1 (by assumption), below_cell hb hHeld.2 (by assumption)⟩) (fun hHeld => ?_)
        clear hK K
        try simp only [Act.put, List.setIfInBounds_toArray, List.set_cons_zero, List.set_cons_succ]
        try simp only [Act.put, List.setIfInBounds_toArray, List.set_cons_zero, List.set_cons_succ]
        refine tkH (i := 13) (oi := ⟨some 38, _, _, _, _, _⟩) (v := ?_) ?_ ?_
        rotate_left
        · intro W hSw
          go_simp
          try (first | with_reducible rfl | exact rfl)
        try simp only [Act.put, List.setIfInBounds_toArray, List.set_cons_zero, List.set_cons_succ]
        refine tkH (i := 14) (oi := ⟨some 52, _, _, _, _, _⟩) (v := ?_) ?_ ?_
        rotate_left
        · intro W hSw
          go_simp
          try (first | with_reducible rfl | exact rfl)
        try simp only [Act.put, List.setIfInBounds_toArray, List.set_cons_zero, List.set_cons_succ]
        refine tkH (i := 15) (oi := ⟨some 53, _, _, _, _, _⟩) (v := ?_) ?_ ?_
        rotate_left
        · intro W hSw
          go_simp
          try (first | with_reducible rfl | exact rfl)
        try simp only [Act.put, List.setIfInBounds_toArray, List.set_cons_zero, List.set_cons_succ]
        refine tkH (i := 16) (oi := ⟨some 54, _, _, _, _, _⟩) (v := ?_) ?_ ?_
        rotate_left
        · intro W hSw
          go_simp
          try (first | with_reducible rfl | exact rfl)
        try simp only [Act.put, List.setIfInBounds_toArray, List.set_cons_zero, List.set_cons_succ]
        have hbs12 := hb.size
        replace hlt := Nat.lt_of_lt_of_le hlt hb.size
        replace hB := hB.trans (hb.mono hB.size)
        clear hb
        refine wpAnyH_ready (rs := [17]) (by kernel_rfl) (by simp) ?_
        refine AllReadyH.cons (o := ⟨some 9, _, _, _, _, _⟩) rfl (fun K hK => ?_) AllReadyH.nil
        go_simp
        refine hK.out _ _ (⟨below_cell (allocB v12 _) hHeld.1 (by assumption), below_cell (allocB v12 _) hHeld.2 (by assumption)⟩) (fun hHeld => ?_)
        clear hK K
        try simp only [Act.put, List.setIfInBounds_toArray, List.set_cons_zero, List.set_cons_succ]
        try simp only [Act.put, List.setIfInBounds_toArray, List.set_cons_zero, List.set_cons_succ]
        have hb := allocB v12 (.cells #[.slice none 0 0, .slice none 0 0, .slice none 0 0, .slice none 0 0, .slice none 0 0, .string ⟨#[]⟩] 32)
        have hne : v12.heap.size ≠ v0.heap.size := by have := y.lt; omega
        have hkP := hB.size
        replace y := y.new hb
        replace hv := hv.new hb
        have x := box_alloc v12 32 #[.slice none 0 0, .slice none 0 0, .slice none 0 0, .slice none 0 0, .slice none 0 0, .string ⟨#[]⟩]
        have hbs13 := hb.size
        replace hlt := Nat.lt_of_lt_of_le hlt hb.size
        replace hB := hB.trans (hb.mono hB.size)
        clear hb
        generalize v12.alloc (.cells #[.slice none 0 0, .slice none 0 0, .slice none 0 0, .slice none 0 0, .slice none 0 0, .string ⟨#[]⟩] 32) = v13 at *
        have hxl13 := x.lt
        have os := hv.all
        have hne2 := hne.symm
        refine wpAnyH_ready (rs := [19]) (by kernel_rfl) (by simp) ?_
        refine AllReadyH.cons (o := ⟨none, _, _, _, _, _⟩) rfl (fun K hK => ?_) AllReadyH.nil
        rw [if_pos (by rfl)]
        refine wp_store_row 32 (.tmp 9) (.tmp 52) rfl (v12.heap.size) _ rfl rfl 32 _ (x) (by kernel_rfl) rfl (os) ?_
        refine hK.out _ _ (⟨row_cell hHeld.1 (by omega), row_cell hHeld.2 (by omega)⟩) (fun hHeld => ?_)
        clear hK K
        try simp only [Act.put]
        refine wpAnyH_ready (rs := [20]) (by kernel_rfl) (by simp) ?_
        refine AllReadyH.cons (o := ⟨none, _, _, _, _, _⟩) rfl (fun K hK => ?_) AllReadyH.nil
        rw [if_pos (by rfl)]
        refine wp_store_row 38 (.tmp 10) (.tmp 53) rfl (v0.heap.size) _ rfl rfl 38 _ (y.other _ hne2) (by kernel_rfl) rfl (by simp [Value.oneCell']) ?_
        refine hK.out _ _ (⟨row_cell hHeld.1 (by omega), row_cell hHeld.2 (by omega)⟩) (fun hHeld => ?_)
        clear hK K
        try simp only [Act.put]
        refine wpAnyH_ready (rs := [21]) (by kernel_rfl) (by simp) ?_
        refine AllReadyH.cons (o := ⟨some 11, _, _, _, _, _⟩) rfl (fun K hK => ?_) AllReadyH.nil
        go_simp
        refine hK.out _ _ (hHeld) (fun hHeld => ?_)
        clear hK K
        try simp only [Act.put, List.setIfInBounds_toArray, List.set_cons_zero, List.set_cons_succ]
        refine wpAnyH_done (by kernel_rfl) ?_ _
        go_wp2
        go_meet
        exact ⟨v12.heap.size, _, _, _, _, _, _, _, rfl, rfl, (x.set _).other _ hne, ((hv.row (by omega) _).row (by omega) _).tt, below_row (below_row hB (by omega) _) (by omega) _⟩
      · go_simp
        refine hK.out _ _ (⟨below_cell (allocB v11 _) hHeld.1 (by assumption), below_cell (allocB v11 _) hHeld.2 (by assumption)⟩) (fun hHeld => ?_)
        clear hK K
        try simp only [Act.put, List.setIfInBounds_toArray, List.set_cons_zero, List.set_cons_succ]
        try simp only [Act.put, List.setIfInBounds_toArray, List.set_cons_zero, List.set_cons_succ]
        have hb := allocB v11 (.cells #[.slice none 0 0, .slice none 0 0, .slice none 0 0, .slice none 0 0, .slice none 0 0, .string ⟨#[]⟩] 32)
        have hne : v11.heap.size ≠ v0.heap.size := by have := y.lt; omega
        have hkP := hB.size
        replace y := y.new hb
        have x := box_alloc v11 32 #[.slice none 0 0, .slice none 0 0, .slice none 0 0, .slice none 0 0, .slice none 0 0, .string ⟨#[]⟩]
        have hbs14 := hb.size
        replace hlt := Nat.lt_of_lt_of_le hlt hb.size
        replace hB := hB.trans (hb.mono hB.size)
        clear hb
        generalize v11.alloc (.cells #[.slice none 0 0, .slice none 0 0, .slice none 0 0, .slice none 0 0, .slice none 0 0, .string ⟨#[]⟩] 32) = v14 at *
        have hxl14 := x.lt
        refine wpAnyH_ready (rs := [12]) (by kernel_rfl) (by simp) ?_
        refine AllReadyH.cons (o := ⟨some 51, _, _, _, _, _⟩) rfl (fun K hK => ?_) AllReadyH.nil
        go_simp
        refine (HT1.out v14 hB).mono ?_
        rintro en v15 ⟨a0, a1, a2, a3, A, c, a5, l, co, rfl, hv, hb⟩
        replace hv := hv.keep (S' := fun k => v14.heap.size ≤ k ∧ k < v15.heap.size) (Nat.le_refl _) (fun _ _ _ => rfl) fun k hk hl => ⟨hk, hl⟩
        have hxlt := x.lt
        have hylt := y.lt
        replace x := x.new hb
        replace y := y.new hb
        refine hK.out _ _ (⟨below_cell hb hHeld.1 (by assumption), below_cell hb hHeld.2 (by assumption)⟩) (fun hHeld => ?_)
        clear hK K
        try simp only [Act.put, List.setIfInBounds_toArray, List.set_cons_zero, List.set_cons_succ]
        try simp only [Act.put, List.setIfInBounds_toArray, List.set_cons_zero, List.set_cons_succ]
        refine tkH (i := 13) (oi := ⟨some 38, _, _, _, _, _⟩) (v := ?_) ?_ ?_
        rotate_left
        · intro W hSw
          go_simp
          try (first | with_reducible rfl | exact rfl)
        try simp only [Act.put, List.setIfInBounds_toArray, List.set_cons_zero, List.set_cons_succ]
        refine tkH (i := 14) (oi := ⟨some 52, _, _, _, _, _⟩) (v := ?_) ?_ ?_
        rotate_left
        · intro W hSw
          go_simp
          try (first | with_reducible rfl | exact rfl)
        try simp only [Act.put, List.setIfInBounds_toArray, List.set_cons_zero, List.set_cons_succ]
        refine tkH (i := 15) (oi := ⟨some 53, _, _, _, _, _⟩) (v := ?_) ?_ ?_
        rotate_left
        · intro W hSw
          go_simp
          try (first | with_reducible rfl | exact rfl)
        try simp only [Act.put, List.setIfInBounds_toArray, List.set_cons_zero, List.set_cons_succ]
        refine tkH (i := 16) (oi := ⟨some 54, _, _, _, _, _⟩) (v := ?_) ?_ ?_
        rotate_left
        · intro W hSw
          go_simp
          try (first | with_reducible rfl | exact rfl)
        try simp only [Act.put, List.setIfInBounds_toArray, List.set_cons_zero, List.set_cons_succ]
        have hbs15 := hb.size
        replace hlt := Nat.lt_of_lt_of_le hlt hb.size
        replace hB := hB.trans (hb.mono hB.size)
        clear hb
        have os := hv.all
        have hne2 := hne.symm
        refine wpAnyH_ready (rs := [19]) (by kernel_rfl) (by simp) ?_
        refine AllReadyH.cons (o := ⟨none, _, _, _, _, _⟩) rfl (fun K hK => ?_) AllReadyH.nil
        rw [if_pos (by rfl)]
        refine wp_store_row 32 (.tmp 9) (.tmp 52) rfl (v11.heap.size) _ rfl rfl 32 _ (x) (by kernel_rfl) rfl (os) ?_
        refine hK.out _ _ (⟨row_cell hHeld.1 (by omega), row_cell hHeld.2 (by omega)⟩) (fun hHeld => ?_)
        clear hK K
        try simp only [Act.put]
        refine wpAnyH_ready (rs := [20]) (by kernel_rfl) (by simp) ?_
        refine AllReadyH.cons (o := ⟨none, _, _, _, _, _⟩) rfl (fun K hK => ?_) AllReadyH.nil
        rw [if_pos (by rfl)]
        refine wp_store_row 38 (.tmp 10) (.tmp 53) rfl (v0.heap.size) _ rfl rfl 38 _ (y.other _ hne2) (by kernel_rfl) rfl (by simp [Value.oneCell']) ?_
        refine hK.out _ _ (⟨row_cell hHeld.1 (by omega), row_cell hHeld.2 (by omega)⟩) (fun hHeld => ?_)
        clear hK K
        try simp only [Act.put]
        refine wpAnyH_ready (rs := [21]) (by kernel_rfl) (by simp) ?_
        refine AllReadyH.cons (o := ⟨some 11, _, _, _, _, _⟩) rfl (fun K hK => ?_) AllReadyH.nil
        go_simp
        refine hK.out _ _ (hHeld) (fun hHeld => ?_)
        clear hK K
        try simp only [Act.put, List.setIfInBounds_toArray, List.set_cons_zero, List.set_cons_succ]
        refine wpAnyH_done (by kernel_rfl) ?_ _
        go_wp2
        go_meet
        exact ⟨v11.heap.size, _, _, _, _, _, _, _, rfl, rfl, (x.set _).other _ hne, ((hv.row (by omega) _).row (by omega) _).tt, below_row (below_row hB (by omega) _) (by omega) _⟩
  obtain ⟨k, a0, a1, a2, a3, A, c, a5, rfl, rfl, x9, hv9, hB⟩ := hcut
  replace ca := below_cell hB ca hlw
  replace cb := below_cell hB cb hlw
  replace la := below_cell hB la hll
  replace lb := below_cell hB lb hll
  replace hlw := Nat.lt_of_lt_of_le hlw hB.size
  replace hll := Nat.lt_of_lt_of_le hll hB.size
  rcases HC.out with ⟨rfl, rfl, rfl, rfl⟩ | ⟨h22, rfl, rfl, hp, hl⟩
  · have p4 := box_cell x9 4 _ rfl
    clear HTL HTR HT1 HT3 HT4 HT5 HT6 HC la lb ca cb x9 hv9
    go_wp2_with fail
    refine (HAW1.out _ hB).1.mono ?_
    rintro en w9 ⟨rfl, hb⟩
    have hB2 := (HAW1.out _ hB).2
    go_wp2
    go_ret
    exact ⟨rfl, hB2.trans (hb.mono hB2.size)⟩
  · clear HT1 HC
    by_cases hab : a < b
    · have HT2 := Lib.hid (HTR.out hab hp hl)
      clear HTL HTR
      have habi : (a : Int) < (b : Int) := by omega
      clear hp hl hab
      by_cases a2 : a = 2
      have q1 : ((a : Int) == 2) = true := by rw [a2]; rfl
      have q2 : ((b : Int) == 2) = false := by simp; omega
      rotate_left
      have q1 : ((a : Int) == 2) = false := by simp; omega
      all_goals
        clear h22 a2
        go_wp2_with fail
        refine wp_region_held_drew (S := fun W => W.cell? ⟨w.heap.size, a, none⟩ = some (.string x0) ∧ W.cell? ⟨w.heap.size, b, none⟩ = some (.string y0)) (by kernel_rfl) ?_ (fun hHeld => ?_)
        · exact ⟨ca, cb⟩
        have hBd : Below w1.heap.size w1 wc.drew := drewN_below hB 1
        have x9d := x9.drew
        have hv9d := hv9.drew
        have cad : wc.drew.cell? _ = _ := ca
        have cbd : wc.drew.cell? _ = _ := cb
        have lad : wc.drew.cell? _ = _ := la
        have lbd : wc.drew.cell? _ = _ := lb
        clear hB x9 hv9 ca cb la lb
        replace hlw : w.heap.size < wc.drew.heap.size := hlw
        generalize wc.drew = wd at *
        have hB := hBd
        have x9 := x9d
        have hv9 := hv9d
        have ca := cad
        have cb := cbd
        have la := lad
        have lb := lbd
        clear hBd x9d hv9d cad cbd lad lbd
        refine tkH (i := 0) (oi := ⟨some 72, _, _, _, _, _⟩) (v := ?_) ?_ ?_
        rotate_left
        · intro W hSw
          go_simp
          try (first | with_reducible rfl | exact rfl)
        try simp only [Act.put, List.setIfInBounds_toArray, List.set_cons_zero, List.set_cons_succ]
        refine tkH (i := 1) (oi := ⟨some 73, _, _, _, _, _⟩) (v := ?_) ?_ ?_
        rotate_left
        · intro W hSw
          go_simp
          try (first | with_reducible rfl | exact rfl)
        try simp only [Act.put, List.setIfInBounds_toArray, List.set_cons_zero, List.set_cons_succ]
        refine tkH (i := 2) (oi := ⟨some 74, _, _, _, _, _⟩) (v := ?_) ?_ ?_
        rotate_left
        · intro W hSw
          go_simp
          try (first | with_reducible rfl | exact rfl)
        try simp only [Act.put, List.setIfInBounds_toArray, List.set_cons_zero, List.set_cons_succ]
        refine tkH (i := 3) (oi := ⟨some 75, _, _, _, _, _⟩) (v := ?_) ?_ ?_
        rotate_left
        · intro W hSw
          have p0 := hSw.1
          have p1 := hSw.2
          go_simp
          try (first | with_reducible rfl | exact rfl)
        try simp only [Act.put, List.setIfInBounds_toArray, List.set_cons_zero, List.set_cons_succ]
        refine tkH (i := 4) (oi := ⟨some 76, _, _, _, _, _⟩) (v := ?_) ?_ ?_
        rotate_left
        · intro W hSw
          go_simp
          try simp only [ByteArray.size_append]
          rw [if_neg (by first | omega | (simp; omega))]
        try simp only [Act.put, List.setIfInBounds_toArray, List.set_cons_zero, List.set_cons_succ]
        refine tkH (i := 5) (oi := ⟨some 77, _, _, _, _, _⟩) (v := ?_) ?_ ?_
        rotate_left
        · intro W hSw
          go_simp
          try simp only [ByteArray.size_append]
          rw [if_neg (by first | omega | (simp; omega))]
        try simp only [Act.put, List.setIfInBounds_toArray, List.set_cons_zero, List.set_cons_succ]
        refine tkH (i := 6) (oi := ⟨some 78, _, _, _, _, _⟩) (v := ?_) ?_ ?_
        rotate_left
        · intro W hSw
          go_simp
          try (first | with_reducible rfl | exact rfl)
        try simp only [Act.put, List.setIfInBounds_toArray, List.set_cons_zero, List.set_cons_succ]
        refine tkH (i := 7) (oi := ⟨some 79, _, _, _, _, _⟩) (v := ?_) ?_ ?_
        rotate_left
        · intro W hSw
          go_simp
          try (first | with_reducible rfl | exact rfl)
        try simp only [Act.put, List.setIfInBounds_toArray, List.set_cons_zero, List.set_cons_succ]
        refine tkH (i := 8) (oi := ⟨some 80, _, _, _, _, _⟩) (v := ?_) ?_ ?_
        rotate_left
        · intro W hSw
          go_simp
          try (first | with_reducible rfl | exact rfl)
        try simp only [Act.put, List.setIfInBounds_toArray, List.set_cons_zero, List.set_cons_succ]
        refine tkH (i := 9) (oi := ⟨some 81, _, _, _, _, _⟩) (v := ?_) ?_ ?_
        rotate_left
        · intro W hSw
          have p0 := hSw.1
          have p1 := hSw.2
          go_simp
          try (first | with_reducible rfl | exact rfl)
        try simp only [Act.put, List.setIfInBounds_toArray, List.set_cons_zero, List.set_cons_succ]
        refine tkH (i := 10) (oi := ⟨some 82, _, _, _, _, _⟩) (v := ?_) ?_ ?_
        rotate_left
        · intro W hSw
          go_simp
          try simp only [ByteArray.size_append]
          rw [if_neg (by first | omega | (simp; omega))]
        try simp only [Act.put, List.setIfInBounds_toArray, List.set_cons_zero, List.set_cons_succ]
        refine tkH (i := 11) (oi := ⟨some 83, _, _, _, _, _⟩) (v := ?_) ?_ ?_
        rotate_left
        · intro W hSw
          go_simp
          try simp only [ByteArray.size_append]
          rw [if_neg (by first | omega | (simp; omega))]
        try simp only [Act.put, List.setIfInBounds_toArray, List.set_cons_zero, List.set_cons_succ]
        refine wpAnyH_ready (rs := [12]) (by kernel_rfl) (by simp) ?_
        refine AllReadyH.cons (o := ⟨some 12, _, _, _, _, _⟩) rfl (fun K hK => ?_) AllReadyH.nil
        go_simp
        refine hK.out _ _ (hHeld) (fun hHeld => ?_)
        clear hK K
        try simp only [Act.put, List.setIfInBounds_toArray, List.set_cons_zero, List.set_cons_succ]
        refine wpAnyH_done (by kernel_rfl) ?_ _
        go_wp2_with fail
        refine wp_region_held_drew (S := fun W => W.cell? ⟨w.heap.size, a, none⟩ = some (.string x0) ∧ W.cell? ⟨w.heap.size, b, none⟩ = some (.string y0)) (by kernel_rfl) ?_ (fun hHeld => ?_)
        · exact ⟨ca, cb⟩
        have hBd : Below w1.heap.size w1 wd.drew := drewN_below hB 1
        have x9d := x9.drew
        have hv9d := hv9.drew
        have cad : wd.drew.cell? _ = _ := ca
        have cbd : wd.drew.cell? _ = _ := cb
        have lad : wd.drew.cell? _ = _ := la
        have lbd : wd.drew.cell? _ = _ := lb
        clear hB x9 hv9 ca cb la lb
        replace hlw : w.heap.size < wd.drew.heap.size := hlw
        generalize wd.drew = we at *
        have hB := hBd
        have x9 := x9d
        have hv9 := hv9d
        have ca := cad
        have cb := cbd
        have la := lad
        have lb := lbd
        clear hBd x9d hv9d cad cbd lad lbd
        refine tkH (i := 0) (oi := ⟨some 84, _, _, _, _, _⟩) (v := ?_) ?_ ?_
        rotate_left
        · intro W hSw
          go_simp
          try (first | with_reducible rfl | exact rfl)
        try simp only [Act.put, List.setIfInBounds_toArray, List.set_cons_zero, List.set_cons_succ]
        refine tkH (i := 1) (oi := ⟨some 85, _, _, _, _, _⟩) (v := ?_) ?_ ?_
        rotate_left
        · intro W hSw
          go_simp
          try (first | with_reducible rfl | exact rfl)
        try simp only [Act.put, List.setIfInBounds_toArray, List.set_cons_zero, List.set_cons_succ]
        refine tkH (i := 2) (oi := ⟨some 86, _, _, _, _, _⟩) (v := ?_) ?_ ?_
        rotate_left
        · intro W hSw
          go_simp
          try (first | with_reducible rfl | exact rfl)
        try simp only [Act.put, List.setIfInBounds_toArray, List.set_cons_zero, List.set_cons_succ]
        refine tkH (i := 3) (oi := ⟨some 87, _, _, _, _, _⟩) (v := ?_) ?_ ?_
        rotate_left
        · intro W hSw
          have p0 := hSw.1
          have p1 := hSw.2
          go_simp
          try (first | with_reducible rfl | exact rfl)
        try simp only [Act.put, List.setIfInBounds_toArray, List.set_cons_zero, List.set_cons_succ]
        refine tkH (i := 4) (oi := ⟨some 88, _, _, _, _, _⟩) (v := ?_) ?_ ?_
        rotate_left
        · intro W hSw
          go_simp
          try simp only [ByteArray.size_append]
          rw [if_neg (by first | omega | (simp; omega))]
        try simp only [Act.put, List.setIfInBounds_toArray, List.set_cons_zero, List.set_cons_succ]
        refine tkH (i := 5) (oi := ⟨some 89, _, _, _, _, _⟩) (v := ?_) ?_ ?_
        rotate_left
        · intro W hSw
          go_simp
          try simp only [ByteArray.size_append]
          rw [if_neg (by first | omega | (simp; omega))]
        try simp only [Act.put, List.setIfInBounds_toArray, List.set_cons_zero, List.set_cons_succ]
        refine tkH (i := 6) (oi := ⟨some 90, _, _, _, _, _⟩) (v := ?_) ?_ ?_
        rotate_left
        · intro W hSw
          go_simp
          try (first | with_reducible rfl | exact rfl)
        try simp only [Act.put, List.setIfInBounds_toArray, List.set_cons_zero, List.set_cons_succ]
        refine tkH (i := 7) (oi := ⟨some 91, _, _, _, _, _⟩) (v := ?_) ?_ ?_
        rotate_left
        · intro W hSw
          go_simp
          try (first | with_reducible rfl | exact rfl)
        try simp only [Act.put, List.setIfInBounds_toArray, List.set_cons_zero, List.set_cons_succ]
        refine tkH (i := 8) (oi := ⟨some 92, _, _, _, _, _⟩) (v := ?_) ?_ ?_
        rotate_left
        · intro W hSw
          go_simp
          try (first | with_reducible rfl | exact rfl)
        try simp only [Act.put, List.setIfInBounds_toArray, List.set_cons_zero, List.set_cons_succ]
        refine tkH (i := 9) (oi := ⟨some 93, _, _, _, _, _⟩) (v := ?_) ?_ ?_
        rotate_left
        · intro W hSw
          have p0 := hSw.1
          have p1 := hSw.2
          go_simp
          try (first | with_reducible rfl | exact rfl)
        try simp only [Act.put, List.setIfInBounds_toArray, List.set_cons_zero, List.set_cons_succ]
        refine tkH (i := 10) (oi := ⟨some 94, _, _, _, _, _⟩) (v := ?_) ?_ ?_
        rotate_left
        · intro W hSw
          go_simp
          try simp only [ByteArray.size_append]
          rw [if_neg (by first | omega | (simp; omega))]
        try simp only [Act.put, List.setIfInBounds_toArray, List.set_cons_zero, List.set_cons_succ]
        refine tkH (i := 11) (oi := ⟨some 95, _, _, _, _, _⟩) (v := ?_) ?_ ?_
        rotate_left
        · intro W hSw
          go_simp
          try simp only [ByteArray.size_append]
          rw [if_neg (by first | omega | (simp; omega))]
        try simp only [Act.put, List.setIfInBounds_toArray, List.set_cons_zero, List.set_cons_succ]
        refine wpAnyH_ready (rs := [12]) (by kernel_rfl) (by simp) ?_
        refine AllReadyH.cons (o := ⟨some 13, _, _, _, _, _⟩) rfl (fun K hK => ?_) AllReadyH.nil
        go_simp
        refine hK.out _ _ (hHeld) (fun hHeld => ?_)
        clear hK K
        try simp only [Act.put, List.setIfInBounds_toArray, List.set_cons_zero, List.set_cons_succ]
        refine wpAnyH_done (by kernel_rfl) ?_ _
        go_wp2_with fail
        refine wp_region_held_drew (S := fun W => W.cell? ⟨w.heap.size + 1, a, none⟩ = some (.int .i64 ((a : Int) + 1)) ∧ W.cell? ⟨w.heap.size + 1, b, none⟩ = some (.int .i64 ((b : Int) + 1))) (by kernel_rfl) ?_ (fun hHeld => ?_)
        · exact ⟨la, lb⟩
        have hBd : Below w1.heap.size w1 we.drew := drewN_below hB 1
        have x9d := x9.drew
        have hv9d := hv9.drew
        have cad : we.drew.cell? _ = _ := ca
        have cbd : we.drew.cell? _ = _ := cb
        have lad : we.drew.cell? _ = _ := la
        have lbd : we.drew.cell? _ = _ := lb
        clear hB x9 hv9 ca cb la lb
        replace hlw : w.heap.size < we.drew.heap.size := hlw
        generalize we.drew = wf at *
        have hB := hBd
        have x9 := x9d
        have hv9 := hv9d
        have ca := cad
        have cb := cbd
        have la := lad
        have lb := lbd
        clear hBd x9d hv9d cad cbd lad lbd
        refine tkH (i := 0) (oi := ⟨some 97, _, _, _, _, _⟩) (v := ?_) ?_ ?_
        rotate_left
        · intro W hSw
          go_simp
          try (first | with_reducible rfl | exact rfl)
        try simp only [Act.put, List.setIfInBounds_toArray, List.set_cons_zero, List.set_cons_succ]
        refine tkH (i := 1) (oi := ⟨some 98, _, _, _, _, _⟩) (v := ?_) ?_ ?_
        rotate_left
        · intro W hSw
          go_simp
          try (first | with_reducible rfl | exact rfl)
        try simp only [Act.put, List.setIfInBounds_toArray, List.set_cons_zero, List.set_cons_succ]
        refine tkH (i := 2) (oi := ⟨some 99, _, _, _, _, _⟩) (v := ?_) ?_ ?_
        rotate_left
        · intro W hSw
          go_simp
          try (first | with_reducible rfl | exact rfl)
        try simp only [Act.put, List.setIfInBounds_toArray, List.set_cons_zero, List.set_cons_succ]
        refine tkH (i := 3) (oi := ⟨some 100, _, _, _, _, _⟩) (v := ?_) ?_ ?_
        rotate_left
        · intro W hSw
          have p0 := hSw.1
          have p1 := hSw.2
          go_simp
          try (first | with_reducible rfl | exact rfl)
        try simp only [Act.put, List.setIfInBounds_toArray, List.set_cons_zero, List.set_cons_succ]
        refine tkH (i := 4) (oi := ⟨some 101, _, _, _, _, _⟩) (v := ?_) ?_ ?_
        rotate_left
        · intro W hSw
          go_simp
          try (first | with_reducible rfl | exact rfl)
        try simp only [Act.put, List.setIfInBounds_toArray, List.set_cons_zero, List.set_cons_succ]
        refine tkH (i := 5) (oi := ⟨some 102, _, _, _, _, _⟩) (v := ?_) ?_ ?_
        rotate_left
        · intro W hSw
          go_simp
          try (first | with_reducible rfl | exact rfl)
        try simp only [Act.put, List.setIfInBounds_toArray, List.set_cons_zero, List.set_cons_succ]
        refine tkH (i := 6) (oi := ⟨some 103, _, _, _, _, _⟩) (v := ?_) ?_ ?_
        rotate_left
        · intro W hSw
          go_simp
          try (first | with_reducible rfl | exact rfl)
        try simp only [Act.put, List.setIfInBounds_toArray, List.set_cons_zero, List.set_cons_succ]
        refine tkH (i := 7) (oi := ⟨some 104, _, _, _, _, _⟩) (v := ?_) ?_ ?_
        rotate_left
        · intro W hSw
          have p0 := hSw.1
          have p1 := hSw.2
          go_simp
          try (first | with_reducible rfl | exact rfl)
        try simp only [Act.put, List.setIfInBounds_toArray, List.set_cons_zero, List.set_cons_succ]
        refine tkH (i := 8) (oi := ⟨some 105, _, _, _, _, _⟩) (v := ?_) ?_ ?_
        rotate_left
        · intro W hSw
          go_simp
          try (first | with_reducible rfl | exact rfl)
        try simp only [Act.put, List.setIfInBounds_toArray, List.set_cons_zero, List.set_cons_succ]
        refine wpAnyH_done (by kernel_rfl) ?_ _
        go_wp2_with fail
        refine (HT2.out _ hB).mono ?_
        rintro en wb ⟨b0, b1, b2, b3, bA, bc, b5, bl, bo, rfl, hvb, hb⟩
        have osb := hvb.all
        replace hvb := hvb.tt
        replace cb := below_cell hb cb hlw
        replace hlw := Nat.lt_of_lt_of_le hlw hb.size
        replace x9 := x9.new hb
        replace hv9 := hv9.new hb
        replace hB := hB.trans (hb.mono hB.size)
        clear hb
        have bx0 := (box_alloc wb 32 #[.slice none 0 0, .slice none 0 0, .slice none 0 0, .slice none 0 0, .slice none 0 0, .string ⟨#[]⟩]).new (allocB (wb.alloc (.cells #[.slice none 0 0, .slice none 0 0, .slice none 0 0, .slice none 0 0, .slice none 0 0, .string ⟨#[]⟩] 32)) (.cells #[.int .i64 0, .int .i64 0] 38))
        have y0 := box_alloc (wb.alloc (.cells #[.slice none 0 0, .slice none 0 0, .slice none 0 0, .slice none 0 0, .slice none 0 0, .string ⟨#[]⟩] 32)) 38 #[.int .i64 0, .int .i64 0]
        rw [show (wb.alloc (.cells #[.slice none 0 0, .slice none 0 0, .slice none 0 0, .slice none 0 0, .slice none 0 0, .string ⟨#[]⟩] 32)).heap.size = wb.heap.size + 1 by simp] at y0
        have xb := (bx0.set #[b0, b1, b2, b3, .slice bA 1 bc, b5]).other (j := wb.heap.size + 1) #[.int .i64 bl, .int .i64 bo] (by omega)
        have y1 := y0.other (j := wb.heap.size) #[b0, b1, b2, b3, .slice bA 1 bc, b5] (by omega)
        have yb := y1.set #[.int .i64 bl, .int .i64 bo]
        have blb : Below wb.heap.size wb ((((wb.alloc (.cells #[.slice none 0 0, .slice none 0 0, .slice none 0 0, .slice none 0 0, .slice none 0 0, .string ⟨#[]⟩] 32)).alloc (.cells #[.int .i64 0, .int .i64 0] 38)).setRow wb.heap.size #[b0, b1, b2, b3, .slice bA 1 bc, b5]).setRow (wb.heap.size + 1) #[.int .i64 bl, .int .i64 bo]) := below_row (below_row ((allocB wb _).trans ((allocB _ _).mono (by simp))) (Nat.le_refl _) _) (Nat.le_succ _) _
        replace cb := below_cell blb cb hlw
        replace hlw := Nat.lt_of_lt_of_le hlw blb.size
        replace x9 := x9.new blb
        replace hv9 := hv9.new blb
        replace hvb := hvb.new blb
        replace hB := hB.trans (blb.mono hB.size)
        clear blb
        go_upto_region 13 with (first | (refine wpList_store_row rfl 32 (.tmp 15) (.tmp 112) rfl (wb.heap.size) _ rfl rfl 32 _ bx0 (by kernel_rfl) rfl osb ?_) | (refine wpList_store_row rfl 38 (.tmp 16) (.tmp 113) rfl (wb.heap.size + 1) _ rfl rfl 38 _ y1 (by kernel_rfl) rfl (by simp [Value.oneCell']) ?_))
        try simp only [Act.put]
        generalize (((wb.alloc (.cells #[.slice none 0 0, .slice none 0 0, .slice none 0 0, .slice none 0 0, .slice none 0 0, .string ⟨#[]⟩] 32)).alloc (.cells #[.int .i64 0, .int .i64 0] 38)).setRow wb.heap.size #[b0, b1, b2, b3, .slice bA 1 bc, b5]).setRow (wb.heap.size + 1) #[.int .i64 bl, .int .i64 bo] = Vb at *
        clear bx0 y0 y1 yb osb
        go_wp2_with fail
        refine (HT3.out _ hB).mono ?_
        rintro en wr ⟨r0, r1, r2, r3, rA, rc, r5, rl, ro, rfl, hvr, hb⟩
        have osr := hvr.all
        replace hvr := hvr.tt
        replace cb := below_cell hb cb hlw
        replace hlw := Nat.lt_of_lt_of_le hlw hb.size
        replace x9 := x9.new hb
        replace xb := xb.new hb
        replace hv9 := hv9.new hb
        replace hvb := hvb.new hb
        replace hB := hB.trans (hb.mono hB.size)
        clear hb
        have bx0 := (box_alloc wr 32 #[.slice none 0 0, .slice none 0 0, .slice none 0 0, .slice none 0 0, .slice none 0 0, .string ⟨#[]⟩]).new (allocB (wr.alloc (.cells #[.slice none 0 0, .slice none 0 0, .slice none 0 0, .slice none 0 0, .slice none 0 0, .string ⟨#[]⟩] 32)) (.cells #[.int .i64 0, .int .i64 0] 38))
        have y0 := box_alloc (wr.alloc (.cells #[.slice none 0 0, .slice none 0 0, .slice none 0 0, .slice none 0 0, .slice none 0 0, .string ⟨#[]⟩] 32)) 38 #[.int .i64 0, .int .i64 0]
        rw [show (wr.alloc (.cells #[.slice none 0 0, .slice none 0 0, .slice none 0 0, .slice none 0 0, .slice none 0 0, .string ⟨#[]⟩] 32)).heap.size = wr.heap.size + 1 by simp] at y0
        have xr := (bx0.set #[r0, r1, r2, r3, .slice rA 1 rc, r5]).other (j := wr.heap.size + 1) #[.int .i64 rl, .int .i64 ro] (by omega)
        have y1 := y0.other (j := wr.heap.size) #[r0, r1, r2, r3, .slice rA 1 rc, r5] (by omega)
        have yr := y1.set #[.int .i64 rl, .int .i64 ro]
        have blr : Below wr.heap.size wr ((((wr.alloc (.cells #[.slice none 0 0, .slice none 0 0, .slice none 0 0, .slice none 0 0, .slice none 0 0, .string ⟨#[]⟩] 32)).alloc (.cells #[.int .i64 0, .int .i64 0] 38)).setRow wr.heap.size #[r0, r1, r2, r3, .slice rA 1 rc, r5]).setRow (wr.heap.size + 1) #[.int .i64 rl, .int .i64 ro]) := below_row (below_row ((allocB wr _).trans ((allocB _ _).mono (by simp))) (Nat.le_refl _) _) (Nat.le_succ _) _
        replace cb := below_cell blr cb hlw
        replace hlw := Nat.lt_of_lt_of_le hlw blr.size
        replace x9 := x9.new blr
        replace xb := xb.new blr
        replace hv9 := hv9.new blr
        replace hvb := hvb.new blr
        replace hvr := hvr.new blr
        replace hB := hB.trans (blr.mono hB.size)
        clear blr
        go_upto_region 14 with (first | (refine wpList_store_row rfl 32 (.tmp 18) (.tmp 123) rfl (wr.heap.size) _ rfl rfl 32 _ bx0 (by kernel_rfl) rfl osr ?_) | (refine wpList_store_row rfl 38 (.tmp 19) (.tmp 124) rfl (wr.heap.size + 1) _ rfl rfl 38 _ y1 (by kernel_rfl) rfl (by simp [Value.oneCell']) ?_))
        try simp only [Act.put]
        generalize (((wr.alloc (.cells #[.slice none 0 0, .slice none 0 0, .slice none 0 0, .slice none 0 0, .slice none 0 0, .string ⟨#[]⟩] 32)).alloc (.cells #[.int .i64 0, .int .i64 0] 38)).setRow wr.heap.size #[r0, r1, r2, r3, .slice rA 1 rc, r5]).setRow (wr.heap.size + 1) #[.int .i64 rl, .int .i64 ro] = Vr at *
        clear bx0 y0 y1 yr osr
        go_wp2_with fail
        refine (HT4.out _ hB).mono ?_
        rintro en we ⟨e0, e1, e2, e3, eA, ec, e5, el, eo, rfl, hve, hb⟩
        have ose := hve.all
        replace hve := hve.tt
        replace cb := below_cell hb cb hlw
        replace hlw := Nat.lt_of_lt_of_le hlw hb.size
        replace x9 := x9.new hb
        replace xb := xb.new hb
        replace xr := xr.new hb
        replace hv9 := hv9.new hb
        replace hvb := hvb.new hb
        replace hvr := hvr.new hb
        replace hB := hB.trans (hb.mono hB.size)
        clear hb
        have bx0 := (box_alloc we 32 #[.slice none 0 0, .slice none 0 0, .slice none 0 0, .slice none 0 0, .slice none 0 0, .string ⟨#[]⟩]).new (allocB (we.alloc (.cells #[.slice none 0 0, .slice none 0 0, .slice none 0 0, .slice none 0 0, .slice none 0 0, .string ⟨#[]⟩] 32)) (.cells #[.int .i64 0, .int .i64 0] 38))
        have y0 := box_alloc (we.alloc (.cells #[.slice none 0 0, .slice none 0 0, .slice none 0 0, .slice none 0 0, .slice none 0 0, .string ⟨#[]⟩] 32)) 38 #[.int .i64 0, .int .i64 0]
        rw [show (we.alloc (.cells #[.slice none 0 0, .slice none 0 0, .slice none 0 0, .slice none 0 0, .slice none 0 0, .string ⟨#[]⟩] 32)).heap.size = we.heap.size + 1 by simp] at y0
        have xe := (bx0.set #[e0, e1, e2, e3, .slice eA 1 ec, e5]).other (j := we.heap.size + 1) #[.int .i64 el, .int .i64 eo] (by omega)
        have y1 := y0.other (j := we.heap.size) #[e0, e1, e2, e3, .slice eA 1 ec, e5] (by omega)
        have ye := y1.set #[.int .i64 el, .int .i64 eo]
        have ble : Below we.heap.size we ((((we.alloc (.cells #[.slice none 0 0, .slice none 0 0, .slice none 0 0, .slice none 0 0, .slice none 0 0, .string ⟨#[]⟩] 32)).alloc (.cells #[.int .i64 0, .int .i64 0] 38)).setRow we.heap.size #[e0, e1, e2, e3, .slice eA 1 ec, e5]).setRow (we.heap.size + 1) #[.int .i64 el, .int .i64 eo]) := below_row (below_row ((allocB we _).trans ((allocB _ _).mono (by simp))) (Nat.le_refl _) _) (Nat.le_succ _) _
        replace cb := below_cell ble cb hlw
        replace hlw := Nat.lt_of_lt_of_le hlw ble.size
        replace x9 := x9.new ble
        replace xb := xb.new ble
        replace xr := xr.new ble
        replace hv9 := hv9.new ble
        replace hvb := hvb.new ble
        replace hvr := hvr.new ble
        replace hve := hve.new ble
        replace hB := hB.trans (ble.mono hB.size)
        clear ble
        go_upto_region 15 with (first | (refine wpList_store_row rfl 32 (.tmp 21) (.tmp 134) rfl (we.heap.size) _ rfl rfl 32 _ bx0 (by kernel_rfl) rfl ose ?_) | (refine wpList_store_row rfl 38 (.tmp 22) (.tmp 135) rfl (we.heap.size + 1) _ rfl rfl 38 _ y1 (by kernel_rfl) rfl (by simp [Value.oneCell']) ?_))
        try simp only [Act.put]
        generalize (((we.alloc (.cells #[.slice none 0 0, .slice none 0 0, .slice none 0 0, .slice none 0 0, .slice none 0 0, .string ⟨#[]⟩] 32)).alloc (.cells #[.int .i64 0, .int .i64 0] 38)).setRow we.heap.size #[e0, e1, e2, e3, .slice eA 1 ec, e5]).setRow (we.heap.size + 1) #[.int .i64 el, .int .i64 eo] = Ve at *
        clear bx0 y0 y1 ye ose
        go_wp2_with fail
        refine (HT5.out _ hB).mono ?_
        rintro en wf ⟨f0, f1, f2, f3, fA, fc, f5, fl, fo, rfl, hvf, hb⟩
        have osf := hvf.all
        replace hvf := hvf.tt
        replace cb := below_cell hb cb hlw
        replace hlw := Nat.lt_of_lt_of_le hlw hb.size
        replace x9 := x9.new hb
        replace xb := xb.new hb
        replace xr := xr.new hb
        replace xe := xe.new hb
        replace hv9 := hv9.new hb
        replace hvb := hvb.new hb
        replace hvr := hvr.new hb
        replace hve := hve.new hb
        replace hB := hB.trans (hb.mono hB.size)
        clear hb
        have bx0 := (box_alloc wf 32 #[.slice none 0 0, .slice none 0 0, .slice none 0 0, .slice none 0 0, .slice none 0 0, .string ⟨#[]⟩]).new (allocB (wf.alloc (.cells #[.slice none 0 0, .slice none 0 0, .slice none 0 0, .slice none 0 0, .slice none 0 0, .string ⟨#[]⟩] 32)) (.cells #[.int .i64 0, .int .i64 0] 38))
        have y0 := box_alloc (wf.alloc (.cells #[.slice none 0 0, .slice none 0 0, .slice none 0 0, .slice none 0 0, .slice none 0 0, .string ⟨#[]⟩] 32)) 38 #[.int .i64 0, .int .i64 0]
        rw [show (wf.alloc (.cells #[.slice none 0 0, .slice none 0 0, .slice none 0 0, .slice none 0 0, .slice none 0 0, .string ⟨#[]⟩] 32)).heap.size = wf.heap.size + 1 by simp] at y0
        have xf := (bx0.set #[f0, f1, f2, f3, .slice fA 1 fc, f5]).other (j := wf.heap.size + 1) #[.int .i64 fl, .int .i64 fo] (by omega)
        have y1 := y0.other (j := wf.heap.size) #[f0, f1, f2, f3, .slice fA 1 fc, f5] (by omega)
        have yf := y1.set #[.int .i64 fl, .int .i64 fo]
        have blf : Below wf.heap.size wf ((((wf.alloc (.cells #[.slice none 0 0, .slice none 0 0, .slice none 0 0, .slice none 0 0, .slice none 0 0, .string ⟨#[]⟩] 32)).alloc (.cells #[.int .i64 0, .int .i64 0] 38)).setRow wf.heap.size #[f0, f1, f2, f3, .slice fA 1 fc, f5]).setRow (wf.heap.size + 1) #[.int .i64 fl, .int .i64 fo]) := below_row (below_row ((allocB wf _).trans ((allocB _ _).mono (by simp))) (Nat.le_refl _) _) (Nat.le_succ _) _
        replace cb := below_cell blf cb hlw
        replace hlw := Nat.lt_of_lt_of_le hlw blf.size
        replace x9 := x9.new blf
        replace xb := xb.new blf
        replace xr := xr.new blf
        replace xe := xe.new blf
        replace hv9 := hv9.new blf
        replace hvb := hvb.new blf
        replace hvr := hvr.new blf
        replace hve := hve.new blf
        replace hvf := hvf.new blf
        replace hB := hB.trans (blf.mono hB.size)
        clear blf
        go_upto_region 16 with (first | (refine wpList_store_row rfl 32 (.tmp 24) (.tmp 145) rfl (wf.heap.size) _ rfl rfl 32 _ bx0 (by kernel_rfl) rfl osf ?_) | (refine wpList_store_row rfl 38 (.tmp 25) (.tmp 146) rfl (wf.heap.size + 1) _ rfl rfl 38 _ y1 (by kernel_rfl) rfl (by simp [Value.oneCell']) ?_))
        try simp only [Act.put]
        generalize (((wf.alloc (.cells #[.slice none 0 0, .slice none 0 0, .slice none 0 0, .slice none 0 0, .slice none 0 0, .string ⟨#[]⟩] 32)).alloc (.cells #[.int .i64 0, .int .i64 0] 38)).setRow wf.heap.size #[f0, f1, f2, f3, .slice fA 1 fc, f5]).setRow (wf.heap.size + 1) #[.int .i64 fl, .int .i64 fo] = Vf at *
        clear bx0 y0 y1 yf osf
        go_wp2_with fail
        refine (HT6.out _ hB).mono ?_
        rintro en wg ⟨g0, g1, g2, g3, gA, gc, g5, gl, go, rfl, hvg, hb⟩
        have osg := hvg.all
        replace hvg := hvg.tt
        replace cb := below_cell hb cb hlw
        replace hlw := Nat.lt_of_lt_of_le hlw hb.size
        replace x9 := x9.new hb
        replace xb := xb.new hb
        replace xr := xr.new hb
        replace xe := xe.new hb
        replace xf := xf.new hb
        replace hv9 := hv9.new hb
        replace hvb := hvb.new hb
        replace hvr := hvr.new hb
        replace hve := hve.new hb
        replace hvf := hvf.new hb
        replace hB := hB.trans (hb.mono hB.size)
        clear hb
        have bx0 := (box_alloc wg 32 #[.slice none 0 0, .slice none 0 0, .slice none 0 0, .slice none 0 0, .slice none 0 0, .string ⟨#[]⟩]).new (allocB (wg.alloc (.cells #[.slice none 0 0, .slice none 0 0, .slice none 0 0, .slice none 0 0, .slice none 0 0, .string ⟨#[]⟩] 32)) (.cells #[.int .i64 0, .int .i64 0] 38))
        have y0 := box_alloc (wg.alloc (.cells #[.slice none 0 0, .slice none 0 0, .slice none 0 0, .slice none 0 0, .slice none 0 0, .string ⟨#[]⟩] 32)) 38 #[.int .i64 0, .int .i64 0]
        rw [show (wg.alloc (.cells #[.slice none 0 0, .slice none 0 0, .slice none 0 0, .slice none 0 0, .slice none 0 0, .string ⟨#[]⟩] 32)).heap.size = wg.heap.size + 1 by simp] at y0
        have xg := (bx0.set #[g0, g1, g2, g3, .slice gA 1 gc, g5]).other (j := wg.heap.size + 1) #[.int .i64 gl, .int .i64 go] (by omega)
        have y1 := y0.other (j := wg.heap.size) #[g0, g1, g2, g3, .slice gA 1 gc, g5] (by omega)
        have yg := y1.set #[.int .i64 gl, .int .i64 go]
        have blg : Below wg.heap.size wg ((((wg.alloc (.cells #[.slice none 0 0, .slice none 0 0, .slice none 0 0, .slice none 0 0, .slice none 0 0, .string ⟨#[]⟩] 32)).alloc (.cells #[.int .i64 0, .int .i64 0] 38)).setRow wg.heap.size #[g0, g1, g2, g3, .slice gA 1 gc, g5]).setRow (wg.heap.size + 1) #[.int .i64 gl, .int .i64 go]) := below_row (below_row ((allocB wg _).trans ((allocB _ _).mono (by simp))) (Nat.le_refl _) _) (Nat.le_succ _) _
        replace cb := below_cell blg cb hlw
        replace hlw := Nat.lt_of_lt_of_le hlw blg.size
        replace x9 := x9.new blg
        replace xb := xb.new blg
        replace xr := xr.new blg
        replace xe := xe.new blg
        replace xf := xf.new blg
        replace hv9 := hv9.new blg
        replace hvb := hvb.new blg
        replace hvr := hvr.new blg
        replace hve := hve.new blg
        replace hvf := hvf.new blg
        replace hvg := hvg.new blg
        replace hB := hB.trans (blg.mono hB.size)
        clear blg
        go_upto_region 17 with (first | (refine wpList_store_row rfl 32 (.tmp 27) (.tmp 156) rfl (wg.heap.size) _ rfl rfl 32 _ bx0 (by kernel_rfl) rfl osg ?_) | (refine wpList_store_row rfl 38 (.tmp 28) (.tmp 157) rfl (wg.heap.size + 1) _ rfl rfl 38 _ y1 (by kernel_rfl) rfl (by simp [Value.oneCell']) ?_))
        try simp only [Act.put]
        generalize (((wg.alloc (.cells #[.slice none 0 0, .slice none 0 0, .slice none 0 0, .slice none 0 0, .slice none 0 0, .string ⟨#[]⟩] 32)).alloc (.cells #[.int .i64 0, .int .i64 0] 38)).setRow wg.heap.size #[g0, g1, g2, g3, .slice gA 1 gc, g5]).setRow (wg.heap.size + 1) #[.int .i64 gl, .int .i64 go] = Vg at *
        clear bx0 y0 y1 yg osg
        have f0 := box_cell x9 0 _ rfl
        have f1 := box_cell x9 1 _ rfl
        have f2 := box_cell x9 2 _ rfl
        have f3 := box_cell x9 3 _ rfl
        have f4 := box_cell x9 4 _ rfl
        have f5 := box_cell x9 5 _ rfl
        have g0 := box_cell xb 0 _ rfl
        have g1 := box_cell xb 1 _ rfl
        have g2 := box_cell xb 2 _ rfl
        have g3 := box_cell xb 3 _ rfl
        have g4 := box_cell xb 4 _ rfl
        have g5 := box_cell xb 5 _ rfl
        go_wp2_with fail
        refine (sameProgram_x hv9 hvb).mono ?_
        rintro en u1 ⟨rfl, hb⟩
        replace x9 := x9.new hb
        replace xb := xb.new hb
        replace xr := xr.new hb
        replace xe := xe.new hb
        replace xf := xf.new hb
        replace xg := xg.new hb
        replace hv9 := hv9.new hb
        replace hvb := hvb.new hb
        replace hvr := hvr.new hb
        replace hve := hve.new hb
        replace hvf := hvf.new hb
        replace hvg := hvg.new hb
        replace hB := hB.trans (hb.mono hB.size)
        clear hb f0 g0 f1 g1 f2 g2 f3 g3 f4 g4 f5 g5
        have f0 := box_cell xr 0 _ rfl
        have f1 := box_cell xr 1 _ rfl
        have f2 := box_cell xr 2 _ rfl
        have f3 := box_cell xr 3 _ rfl
        have f4 := box_cell xr 4 _ rfl
        have f5 := box_cell xr 5 _ rfl
        have g0 := box_cell xe 0 _ rfl
        have g1 := box_cell xe 1 _ rfl
        have g2 := box_cell xe 2 _ rfl
        have g3 := box_cell xe 3 _ rfl
        have g4 := box_cell xe 4 _ rfl
        have g5 := box_cell xe 5 _ rfl
        go_wp2_with fail
        refine (sameProgram_x hvr hve).mono ?_
        rintro en u2 ⟨rfl, hb⟩
        replace x9 := x9.new hb
        replace xb := xb.new hb
        replace xr := xr.new hb
        replace xe := xe.new hb
        replace xf := xf.new hb
        replace xg := xg.new hb
        replace hv9 := hv9.new hb
        replace hvb := hvb.new hb
        replace hvr := hvr.new hb
        replace hve := hve.new hb
        replace hvf := hvf.new hb
        replace hvg := hvg.new hb
        replace hB := hB.trans (hb.mono hB.size)
        clear hb f0 g0 f1 g1 f2 g2 f3 g3 f4 g4 f5 g5
        have f0 := box_cell xf 0 _ rfl
        have f1 := box_cell xf 1 _ rfl
        have f2 := box_cell xf 2 _ rfl
        have f3 := box_cell xf 3 _ rfl
        have f4 := box_cell xf 4 _ rfl
        have f5 := box_cell xf 5 _ rfl
        have g0 := box_cell xg 0 _ rfl
        have g1 := box_cell xg 1 _ rfl
        have g2 := box_cell xg 2 _ rfl
        have g3 := box_cell xg 3 _ rfl
        have g4 := box_cell xg 4 _ rfl
        have g5 := box_cell xg 5 _ rfl
        go_wp2_with fail
        refine (sameProgram_x hvf hvg).mono ?_
        rintro en u3 ⟨rfl, hb⟩
        replace x9 := x9.new hb
        replace xb := xb.new hb
        replace xr := xr.new hb
        replace xe := xe.new hb
        replace xf := xf.new hb
        replace xg := xg.new hb
        replace hv9 := hv9.new hb
        replace hvb := hvb.new hb
        replace hvr := hvr.new hb
        replace hve := hve.new hb
        replace hvf := hvf.new hb
        replace hvg := hvg.new hb
        replace hB := hB.trans (hb.mono hB.size)
        clear hb f0 g0 f1 g1 f2 g2 f3 g3 f4 g4 f5 g5
        go_wp2_with fail
        refine (HAW1.out _ hB).1.mono ?_
        rintro en u4 ⟨rfl, hb⟩
        have hB2 := (HAW1.out _ hB).2
        go_wp2
        go_ret
        exact ⟨rfl, hB2.trans (hb.mono hB2.size)⟩
    · have HT2 := Lib.hid (HTL.out hab h22 hp hl)
      clear HTL HTR
      have habi : ¬ (a : Int) < (b : Int) := by omega
      clear hp hl hab
      by_cases a2 : a = 2
      have q1 : ((a : Int) == 2) = true := by rw [a2]; rfl
      have q2 : ((b : Int) == 2) = false := by simp; omega
      rotate_left
      have q1 : ((a : Int) == 2) = false := by simp; omega
      all_goals
        clear h22 a2
        go_wp2_with fail
        refine wp_region_held_drew (S := fun W => W.cell? ⟨w.heap.size, a, none⟩ = some (.string x0) ∧ W.cell? ⟨w.heap.size, b, none⟩ = some (.string y0)) (by kernel_rfl) ?_ (fun hHeld => ?_)
        · exact ⟨ca, cb⟩
        have hBd : Below w1.heap.size w1 wc.drew := drewN_below hB 1
        have x9d := x9.drew
        have hv9d := hv9.drew
        have cad : wc.drew.cell? _ = _ := ca
        have cbd : wc.drew.cell? _ = _ := cb
        have lad : wc.drew.cell? _ = _ := la
        have lbd : wc.drew.cell? _ = _ := lb
        clear hB x9 hv9 ca cb la lb
        replace hlw : w.heap.size < wc.drew.heap.size := hlw
        generalize wc.drew = wd at *
        have hB := hBd
        have x9 := x9d
        have hv9 := hv9d
        have ca := cad
        have cb := cbd
        have la := lad
        have lb := lbd
        clear hBd x9d hv9d cad cbd lad lbd
        refine tkH (i := 0) (oi := ⟨some 72, _, _, _, _, _⟩) (v := ?_) ?_ ?_
        rotate_left
        · intro W hSw
          go_simp
          try (first | with_reducible rfl | exact rfl)
        try simp only [Act.put, List.setIfInBounds_toArray, List.set_cons_zero, List.set_cons_succ]
        refine tkH (i := 1) (oi := ⟨some 73, _, _, _, _, _⟩) (v := ?_) ?_ ?_
        rotate_left
        · intro W hSw
          go_simp
          try (first | with_reducible rfl | exact rfl)
        try simp only [Act.put, List.setIfInBounds_toArray, List.set_cons_zero, List.set_cons_succ]
        refine tkH (i := 2) (oi := ⟨some 74, _, _, _, _, _⟩) (v := ?_) ?_ ?_
        rotate_left
        · intro W hSw
          go_simp
          try (first | with_reducible rfl | exact rfl)
        try simp only [Act.put, List.setIfInBounds_toArray, List.set_cons_zero, List.set_cons_succ]
        refine tkH (i := 3) (oi := ⟨some 75, _, _, _, _, _⟩) (v := ?_) ?_ ?_
        rotate_left
        · intro W hSw
          have p0 := hSw.1
          have p1 := hSw.2
          go_simp
          try (first | with_reducible rfl | exact rfl)
        try simp only [Act.put, List.setIfInBounds_toArray, List.set_cons_zero, List.set_cons_succ]
        refine tkH (i := 4) (oi := ⟨some 76, _, _, _, _, _⟩) (v := ?_) ?_ ?_
        rotate_left
        · intro W hSw
          go_simp
          try simp only [ByteArray.size_append]
          rw [if_neg (by first | omega | (simp; omega))]
        try simp only [Act.put, List.setIfInBounds_toArray, List.set_cons_zero, List.set_cons_succ]
        refine tkH (i := 5) (oi := ⟨some 77, _, _, _, _, _⟩) (v := ?_) ?_ ?_
        rotate_left
        · intro W hSw
          go_simp
          try simp only [ByteArray.size_append]
          rw [if_neg (by first | omega | (simp; omega))]
        try simp only [Act.put, List.setIfInBounds_toArray, List.set_cons_zero, List.set_cons_succ]
        refine tkH (i := 6) (oi := ⟨some 78, _, _, _, _, _⟩) (v := ?_) ?_ ?_
        rotate_left
        · intro W hSw
          go_simp
          try (first | with_reducible rfl | exact rfl)
        try simp only [Act.put, List.setIfInBounds_toArray, List.set_cons_zero, List.set_cons_succ]
        refine tkH (i := 7) (oi := ⟨some 79, _, _, _, _, _⟩) (v := ?_) ?_ ?_
        rotate_left
        · intro W hSw
          go_simp
          try (first | with_reducible rfl | exact rfl)
        try simp only [Act.put, List.setIfInBounds_toArray, List.set_cons_zero, List.set_cons_succ]
        refine tkH (i := 8) (oi := ⟨some 80, _, _, _, _, _⟩) (v := ?_) ?_ ?_
        rotate_left
        · intro W hSw
          go_simp
          try (first | with_reducible rfl | exact rfl)
        try simp only [Act.put, List.setIfInBounds_toArray, List.set_cons_zero, List.set_cons_succ]
        refine tkH (i := 9) (oi := ⟨some 81, _, _, _, _, _⟩) (v := ?_) ?_ ?_
        rotate_left
        · intro W hSw
          have p0 := hSw.1
          have p1 := hSw.2
          go_simp
          try (first | with_reducible rfl | exact rfl)
        try simp only [Act.put, List.setIfInBounds_toArray, List.set_cons_zero, List.set_cons_succ]
        refine tkH (i := 10) (oi := ⟨some 82, _, _, _, _, _⟩) (v := ?_) ?_ ?_
        rotate_left
        · intro W hSw
          go_simp
          try simp only [ByteArray.size_append]
          rw [if_neg (by first | omega | (simp; omega))]
        try simp only [Act.put, List.setIfInBounds_toArray, List.set_cons_zero, List.set_cons_succ]
        refine tkH (i := 11) (oi := ⟨some 83, _, _, _, _, _⟩) (v := ?_) ?_ ?_
        rotate_left
        · intro W hSw
          go_simp
          try simp only [ByteArray.size_append]
          rw [if_neg (by first | omega | (simp; omega))]
        try simp only [Act.put, List.setIfInBounds_toArray, List.set_cons_zero, List.set_cons_succ]
        refine wpAnyH_ready (rs := [12]) (by kernel_rfl) (by simp) ?_
        refine AllReadyH.cons (o := ⟨some 12, _, _, _, _, _⟩) rfl (fun K hK => ?_) AllReadyH.nil
        go_simp
        refine hK.out _ _ (hHeld) (fun hHeld => ?_)
        clear hK K
        try simp only [Act.put, List.setIfInBounds_toArray, List.set_cons_zero, List.set_cons_succ]
        refine wpAnyH_done (by kernel_rfl) ?_ _
        go_wp2_with fail
        refine wp_region_held_drew (S := fun W => W.cell? ⟨w.heap.size, a, none⟩ = some (.string x0) ∧ W.cell? ⟨w.heap.size, b, none⟩ = some (.string y0)) (by kernel_rfl) ?_ (fun hHeld => ?_)
        · exact ⟨ca, cb⟩
        have hBd : Below w1.heap.size w1 wd.drew := drewN_below hB 1
        have x9d := x9.drew
        have hv9d := hv9.drew
        have cad : wd.drew.cell? _ = _ := ca
        have cbd : wd.drew.cell? _ = _ := cb
        have lad : wd.drew.cell? _ = _ := la
        have lbd : wd.drew.cell? _ = _ := lb
        clear hB x9 hv9 ca cb la lb
        replace hlw : w.heap.size < wd.drew.heap.size := hlw
        generalize wd.drew = we at *
        have hB := hBd
        have x9 := x9d
        have hv9 := hv9d
        have ca := cad
        have cb := cbd
        have la := lad
        have lb := lbd
        clear hBd x9d hv9d cad cbd lad lbd
        refine tkH (i := 0) (oi := ⟨some 84, _, _, _, _, _⟩) (v := ?_) ?_ ?_
        rotate_left
        · intro W hSw
          go_simp
          try (first | with_reducible rfl | exact rfl)
        try simp only [Act.put, List.setIfInBounds_toArray, List.set_cons_zero, List.set_cons_succ]
        refine tkH (i := 1) (oi := ⟨some 85, _, _, _, _, _⟩) (v := ?_) ?_ ?_
        rotate_left
        · intro W hSw
          go_simp
          try (first | with_reducible rfl | exact rfl)
        try simp only [Act.put, List.setIfInBounds_toArray, List.set_cons_zero, List.set_cons_succ]
        refine tkH (i := 2) (oi := ⟨some 86, _, _, _, _, _⟩) (v := ?_) ?_ ?_
        rotate_left
        · intro W hSw
          go_simp
          try (first | with_reducible rfl | exact rfl)
        try simp only [Act.put, List.setIfInBounds_toArray, List.set_cons_zero, List.set_cons_succ]
        refine tkH (i := 3) (oi := ⟨some 87, _, _, _, _, _⟩) (v := ?_) ?_ ?_
        rotate_left
        · intro W hSw
          have p0 := hSw.1
          have p1 := hSw.2
          go_simp
          try (first | with_reducible rfl | exact rfl)
        try simp only [Act.put, List.setIfInBounds_toArray, List.set_cons_zero, List.set_cons_succ]
        refine tkH (i := 4) (oi := ⟨some 88, _, _, _, _, _⟩) (v := ?_) ?_ ?_
        rotate_left
        · intro W hSw
          go_simp
          try simp only [ByteArray.size_append]
          rw [if_neg (by first | omega | (simp; omega))]
        try simp only [Act.put, List.setIfInBounds_toArray, List.set_cons_zero, List.set_cons_succ]
        refine tkH (i := 5) (oi := ⟨some 89, _, _, _, _, _⟩) (v := ?_) ?_ ?_
        rotate_left
        · intro W hSw
          go_simp
          try simp only [ByteArray.size_append]
          rw [if_neg (by first | omega | (simp; omega))]
        try simp only [Act.put, List.setIfInBounds_toArray, List.set_cons_zero, List.set_cons_succ]
        refine tkH (i := 6) (oi := ⟨some 90, _, _, _, _, _⟩) (v := ?_) ?_ ?_
        rotate_left
        · intro W hSw
          go_simp
          try (first | with_reducible rfl | exact rfl)
        try simp only [Act.put, List.setIfInBounds_toArray, List.set_cons_zero, List.set_cons_succ]
        refine tkH (i := 7) (oi := ⟨some 91, _, _, _, _, _⟩) (v := ?_) ?_ ?_
        rotate_left
        · intro W hSw
          go_simp
          try (first | with_reducible rfl | exact rfl)
        try simp only [Act.put, List.setIfInBounds_toArray, List.set_cons_zero, List.set_cons_succ]
        refine tkH (i := 8) (oi := ⟨some 92, _, _, _, _, _⟩) (v := ?_) ?_ ?_
        rotate_left
        · intro W hSw
          go_simp
          try (first | with_reducible rfl | exact rfl)
        try simp only [Act.put, List.setIfInBounds_toArray, List.set_cons_zero, List.set_cons_succ]
        refine tkH (i := 9) (oi := ⟨some 93, _, _, _, _, _⟩) (v := ?_) ?_ ?_
        rotate_left
        · intro W hSw
          have p0 := hSw.1
          have p1 := hSw.2
          go_simp
          try (first | with_reducible rfl | exact rfl)
        try simp only [Act.put, List.setIfInBounds_toArray, List.set_cons_zero, List.set_cons_succ]
        refine tkH (i := 10) (oi := ⟨some 94, _, _, _, _, _⟩) (v := ?_) ?_ ?_
        rotate_left
        · intro W hSw
          go_simp
          try simp only [ByteArray.size_append]
          rw [if_neg (by first | omega | (simp; omega))]
        try simp only [Act.put, List.setIfInBounds_toArray, List.set_cons_zero, List.set_cons_succ]
        refine tkH (i := 11) (oi := ⟨some 95, _, _, _, _, _⟩) (v := ?_) ?_ ?_
        rotate_left
        · intro W hSw
          go_simp
          try simp only [ByteArray.size_append]
          rw [if_neg (by first | omega | (simp; omega))]
        try simp only [Act.put, List.setIfInBounds_toArray, List.set_cons_zero, List.set_cons_succ]
        refine wpAnyH_ready (rs := [12]) (by kernel_rfl) (by simp) ?_
        refine AllReadyH.cons (o := ⟨some 13, _, _, _, _, _⟩) rfl (fun K hK => ?_) AllReadyH.nil
        go_simp
        refine hK.out _ _ (hHeld) (fun hHeld => ?_)
        clear hK K
        try simp only [Act.put, List.setIfInBounds_toArray, List.set_cons_zero, List.set_cons_succ]
        refine wpAnyH_done (by kernel_rfl) ?_ _
        go_wp2_with fail
        refine wp_region_held_drew (S := fun W => W.cell? ⟨w.heap.size + 1, a, none⟩ = some (.int .i64 ((a : Int) + 1)) ∧ W.cell? ⟨w.heap.size + 1, b, none⟩ = some (.int .i64 ((b : Int) + 1))) (by kernel_rfl) ?_ (fun hHeld => ?_)
        · exact ⟨la, lb⟩
        have hBd : Below w1.heap.size w1 we.drew := drewN_below hB 1
        have x9d := x9.drew
        have hv9d := hv9.drew
        have cad : we.drew.cell? _ = _ := ca
        have cbd : we.drew.cell? _ = _ := cb
        have lad : we.drew.cell? _ = _ := la
        have lbd : we.drew.cell? _ = _ := lb
        clear hB x9 hv9 ca cb la lb
        replace hlw : w.heap.size < we.drew.heap.size := hlw
        generalize we.drew = wf at *
        have hB := hBd
        have x9 := x9d
        have hv9 := hv9d
        have ca := cad
        have cb := cbd
        have la := lad
        have lb := lbd
        clear hBd x9d hv9d cad cbd lad lbd
        refine tkH (i := 0) (oi := ⟨some 97, _, _, _, _, _⟩) (v := ?_) ?_ ?_
        rotate_left
        · intro W hSw
          go_simp
          try (first | with_reducible rfl | exact rfl)
        try simp only [Act.put, List.setIfInBounds_toArray, List.set_cons_zero, List.set_cons_succ]
        refine tkH (i := 1) (oi := ⟨some 98, _, _, _, _, _⟩) (v := ?_) ?_ ?_
        rotate_left
        · intro W hSw
          go_simp
          try (first | with_reducible rfl | exact rfl)
        try simp only [Act.put, List.setIfInBounds_toArray, List.set_cons_zero, List.set_cons_succ]
        refine tkH (i := 2) (oi := ⟨some 99, _, _, _, _, _⟩) (v := ?_) ?_ ?_
        rotate_left
        · intro W hSw
          go_simp
          try (first | with_reducible rfl | exact rfl)
        try simp only [Act.put, List.setIfInBounds_toArray, List.set_cons_zero, List.set_cons_succ]
        refine tkH (i := 3) (oi := ⟨some 100, _, _, _, _, _⟩) (v := ?_) ?_ ?_
        rotate_left
        · intro W hSw
          have p0 := hSw.1
          have p1 := hSw.2
          go_simp
          try (first | with_reducible rfl | exact rfl)
        try simp only [Act.put, List.setIfInBounds_toArray, List.set_cons_zero, List.set_cons_succ]
        refine tkH (i := 4) (oi := ⟨some 101, _, _, _, _, _⟩) (v := ?_) ?_ ?_
        rotate_left
        · intro W hSw
          go_simp
          try (first | with_reducible rfl | exact rfl)
        try simp only [Act.put, List.setIfInBounds_toArray, List.set_cons_zero, List.set_cons_succ]
        refine tkH (i := 5) (oi := ⟨some 102, _, _, _, _, _⟩) (v := ?_) ?_ ?_
        rotate_left
        · intro W hSw
          go_simp
          try (first | with_reducible rfl | exact rfl)
        try simp only [Act.put, List.setIfInBounds_toArray, List.set_cons_zero, List.set_cons_succ]
        refine tkH (i := 6) (oi := ⟨some 103, _, _, _, _, _⟩) (v := ?_) ?_ ?_
        rotate_left
        · intro W hSw
          go_simp
          try (first | with_reducible rfl | exact rfl)
        try simp only [Act.put, List.setIfInBounds_toArray, List.set_cons_zero, List.set_cons_succ]
        refine tkH (i := 7) (oi := ⟨some 104, _, _, _, _, _⟩) (v := ?_) ?_ ?_
        rotate_left
        · intro W hSw
          have p0 := hSw.1
          have p1 := hSw.2
          go_simp
          try (first | with_reducible rfl | exact rfl)
        try simp only [Act.put, List.setIfInBounds_toArray, List.set_cons_zero, List.set_cons_succ]
        refine tkH (i := 8) (oi := ⟨some 105, _, _, _, _, _⟩) (v := ?_) ?_ ?_
        rotate_left
        · intro W hSw
          go_simp
          try (first | with_reducible rfl | exact rfl)
        try simp only [Act.put, List.setIfInBounds_toArray, List.set_cons_zero, List.set_cons_succ]
        refine wpAnyH_done (by kernel_rfl) ?_ _
        go_wp2_with fail
        refine (HT2.out _ hB).mono ?_
        rintro en wb ⟨b0, b1, b2, b3, bA, bc, b5, bl, bo, rfl, hvb, hb⟩
        have osb := hvb.all
        replace hvb := hvb.tt
        replace cb := below_cell hb cb hlw
        replace hlw := Nat.lt_of_lt_of_le hlw hb.size
        replace x9 := x9.new hb
        replace hv9 := hv9.new hb
        replace hB := hB.trans (hb.mono hB.size)
        clear hb
        have bx0 := (box_alloc wb 32 #[.slice none 0 0, .slice none 0 0, .slice none 0 0, .slice none 0 0, .slice none 0 0, .string ⟨#[]⟩]).new (allocB (wb.alloc (.cells #[.slice none 0 0, .slice none 0 0, .slice none 0 0, .slice none 0 0, .slice none 0 0, .string ⟨#[]⟩] 32)) (.cells #[.int .i64 0, .int .i64 0] 38))
        have y0 := box_alloc (wb.alloc (.cells #[.slice none 0 0, .slice none 0 0, .slice none 0 0, .slice none 0 0, .slice none 0 0, .string ⟨#[]⟩] 32)) 38 #[.int .i64 0, .int .i64 0]
        rw [show (wb.alloc (.cells #[.slice none 0 0, .slice none 0 0, .slice none 0 0, .slice none 0 0, .slice none 0 0, .string ⟨#[]⟩] 32)).heap.size = wb.heap.size + 1 by simp] at y0
        have xb := (bx0.set #[b0, b1, b2, b3, .slice bA 1 bc, b5]).other (j := wb.heap.size + 1) #[.int .i64 bl, .int .i64 bo] (by omega)
        have y1 := y0.other (j := wb.heap.size) #[b0, b1, b2, b3, .slice bA 1 bc, b5] (by omega)
        have yb := y1.set #[.int .i64 bl, .int .i64 bo]
        have blb : Below wb.heap.size wb ((((wb.alloc (.cells #[.slice none 0 0, .slice none 0 0, .slice none 0 0, .slice none 0 0, .slice none 0 0, .string ⟨#[]⟩] 32)).alloc (.cells #[.int .i64 0, .int .i64 0] 38)).setRow wb.heap.size #[b0, b1, b2, b3, .slice bA 1 bc, b5]).setRow (wb.heap.size + 1) #[.int .i64 bl, .int .i64 bo]) := below_row (below_row ((allocB wb _).trans ((allocB _ _).mono (by simp))) (Nat.le_refl _) _) (Nat.le_succ _) _
        replace cb := below_cell blb cb hlw
        replace hlw := Nat.lt_of_lt_of_le hlw blb.size
        replace x9 := x9.new blb
        replace hv9 := hv9.new blb
        replace hvb := hvb.new blb
        replace hB := hB.trans (blb.mono hB.size)
        clear blb
        go_upto_region 13 with (first | (refine wpList_store_row rfl 32 (.tmp 15) (.tmp 112) rfl (wb.heap.size) _ rfl rfl 32 _ bx0 (by kernel_rfl) rfl osb ?_) | (refine wpList_store_row rfl 38 (.tmp 16) (.tmp 113) rfl (wb.heap.size + 1) _ rfl rfl 38 _ y1 (by kernel_rfl) rfl (by simp [Value.oneCell']) ?_))
        try simp only [Act.put]
        generalize (((wb.alloc (.cells #[.slice none 0 0, .slice none 0 0, .slice none 0 0, .slice none 0 0, .slice none 0 0, .string ⟨#[]⟩] 32)).alloc (.cells #[.int .i64 0, .int .i64 0] 38)).setRow wb.heap.size #[b0, b1, b2, b3, .slice bA 1 bc, b5]).setRow (wb.heap.size + 1) #[.int .i64 bl, .int .i64 bo] = Vb at *
        clear bx0 y0 y1 yb osb
        go_wp2_with fail
        refine (HT3.out _ hB).mono ?_
        rintro en wr ⟨r0, r1, r2, r3, rA, rc, r5, rl, ro, rfl, hvr, hb⟩
        have osr := hvr.all
        replace hvr := hvr.tt
        replace cb := below_cell hb cb hlw
        replace hlw := Nat.lt_of_lt_of_le hlw hb.size
        replace x9 := x9.new hb
        replace xb := xb.new hb
        replace hv9 := hv9.new hb
        replace hvb := hvb.new hb
        replace hB := hB.trans (hb.mono hB.size)
        clear hb
        have bx0 := (box_alloc wr 32 #[.slice none 0 0, .slice none 0 0, .slice none 0 0, .slice none 0 0, .slice none 0 0, .string ⟨#[]⟩]).new (allocB (wr.alloc (.cells #[.slice none 0 0, .slice none 0 0, .slice none 0 0, .slice none 0 0, .slice none 0 0, .string ⟨#[]⟩] 32)) (.cells #[.int .i64 0, .int .i64 0] 38))
        have y0 := box_alloc (wr.alloc (.cells #[.slice none 0 0, .slice none 0 0, .slice none 0 0, .slice none 0 0, .slice none 0 0, .string ⟨#[]⟩] 32)) 38 #[.int .i64 0, .int .i64 0]
        rw [show (wr.alloc (.cells #[.slice none 0 0, .slice none 0 0, .slice none 0 0, .slice none 0 0, .slice none 0 0, .string ⟨#[]⟩] 32)).heap.size = wr.heap.size + 1 by simp] at y0
        have xr := (bx0.set #[r0, r1, r2, r3, .slice rA 1 rc, r5]).other (j := wr.heap.size + 1) #[.int .i64 rl, .int .i64 ro] (by omega)
        have y1 := y0.other (j := wr.heap.size) #[r0, r1, r2, r3, .slice rA 1 rc, r5] (by omega)
        have yr := y1.set #[.int .i64 rl, .int .i64 ro]
        have blr : Below wr.heap.size wr ((((wr.alloc (.cells #[.slice none 0 0, .slice none 0 0, .slice none 0 0, .slice none 0 0, .slice none 0 0, .string ⟨#[]⟩] 32)).alloc (.cells #[.int .i64 0, .int .i64 0] 38)).setRow wr.heap.size #[r0, r1, r2, r3, .slice rA 1 rc, r5]).setRow (wr.heap.size + 1) #[.int .i64 rl, .int .i64 ro]) := below_row (below_row ((allocB wr _).trans ((allocB _ _).mono (by simp))) (Nat.le_refl _) _) (Nat.le_succ _) _
        replace cb := below_cell blr cb hlw
        replace hlw := Nat.lt_of_lt_of_le hlw blr.size
        replace x9 := x9.new blr
        replace xb := xb.new blr
        replace hv9 := hv9.new blr
        replace hvb := hvb.new blr
        replace hvr := hvr.new blr
        replace hB := hB.trans (blr.mono hB.size)
        clear blr
        go_upto_region 14 with (first | (refine wpList_store_row rfl 32 (.tmp 18) (.tmp 123) rfl (wr.heap.size) _ rfl rfl 32 _ bx0 (by kernel_rfl) rfl osr ?_) | (refine wpList_store_row rfl 38 (.tmp 19) (.tmp 124) rfl (wr.heap.size + 1) _ rfl rfl 38 _ y1 (by kernel_rfl) rfl (by simp [Value.oneCell']) ?_))
        try simp only [Act.put]
        generalize (((wr.alloc (.cells #[.slice none 0 0, .slice none 0 0, .slice none 0 0, .slice none 0 0, .slice none 0 0, .string ⟨#[]⟩] 32)).alloc (.cells #[.int .i64 0, .int .i64 0] 38)).setRow wr.heap.size #[r0, r1, r2, r3, .slice rA 1 rc, r5]).setRow (wr.heap.size + 1) #[.int .i64 rl, .int .i64 ro] = Vr at *
        clear bx0 y0 y1 yr osr
        go_wp2_with fail
        refine (HT4.out _ hB).mono ?_
        rintro en we ⟨e0, e1, e2, e3, eA, ec, e5, el, eo, rfl, hve, hb⟩
        have ose := hve.all
        replace hve := hve.tt
        replace cb := below_cell hb cb hlw
        replace hlw := Nat.lt_of_lt_of_le hlw hb.size
        replace x9 := x9.new hb
        replace xb := xb.new hb
        replace xr := xr.new hb
        replace hv9 := hv9.new hb
        replace hvb := hvb.new hb
        replace hvr := hvr.new hb
        replace hB := hB.trans (hb.mono hB.size)
        clear hb
        have bx0 := (box_alloc we 32 #[.slice none 0 0, .slice none 0 0, .slice none 0 0, .slice none 0 0, .slice none 0 0, .string ⟨#[]⟩]).new (allocB (we.alloc (.cells #[.slice none 0 0, .slice none 0 0, .slice none 0 0, .slice none 0 0, .slice none 0 0, .string ⟨#[]⟩] 32)) (.cells #[.int .i64 0, .int .i64 0] 38))
        have y0 := box_alloc (we.alloc (.cells #[.slice none 0 0, .slice none 0 0, .slice none 0 0, .slice none 0 0, .slice none 0 0, .string ⟨#[]⟩] 32)) 38 #[.int .i64 0, .int .i64 0]
        rw [show (we.alloc (.cells #[.slice none 0 0, .slice none 0 0, .slice none 0 0, .slice none 0 0, .slice none 0 0, .string ⟨#[]⟩] 32)).heap.size = we.heap.size + 1 by simp] at y0
        have xe := (bx0.set #[e0, e1, e2, e3, .slice eA 1 ec, e5]).other (j := we.heap.size + 1) #[.int .i64 el, .int .i64 eo] (by omega)
        have y1 := y0.other (j := we.heap.size) #[e0, e1, e2, e3, .slice eA 1 ec, e5] (by omega)
        have ye := y1.set #[.int .i64 el, .int .i64 eo]
        have ble : Below we.heap.size we ((((we.alloc (.cells #[.slice none 0 0, .slice none 0 0, .slice none 0 0, .slice none 0 0, .slice none 0 0, .string ⟨#[]⟩] 32)).alloc (.cells #[.int .i64 0, .int .i64 0] 38)).setRow we.heap.size #[e0, e1, e2, e3, .slice eA 1 ec, e5]).setRow (we.heap.size + 1) #[.int .i64 el, .int .i64 eo]) := below_row (below_row ((allocB we _).trans ((allocB _ _).mono (by simp))) (Nat.le_refl _) _) (Nat.le_succ _) _
        replace cb := below_cell ble cb hlw
        replace hlw := Nat.lt_of_lt_of_le hlw ble.size
        replace x9 := x9.new ble
        replace xb := xb.new ble
        replace xr := xr.new ble
        replace hv9 := hv9.new ble
        replace hvb := hvb.new ble
        replace hvr := hvr.new ble
        replace hve := hve.new ble
        replace hB := hB.trans (ble.mono hB.size)
        clear ble
        go_upto_region 15 with (first | (refine wpList_store_row rfl 32 (.tmp 21) (.tmp 134) rfl (we.heap.size) _ rfl rfl 32 _ bx0 (by kernel_rfl) rfl ose ?_) | (refine wpList_store_row rfl 38 (.tmp 22) (.tmp 135) rfl (we.heap.size + 1) _ rfl rfl 38 _ y1 (by kernel_rfl) rfl (by simp [Value.oneCell']) ?_))
        try simp only [Act.put]
        generalize (((we.alloc (.cells #[.slice none 0 0, .slice none 0 0, .slice none 0 0, .slice none 0 0, .slice none 0 0, .string ⟨#[]⟩] 32)).alloc (.cells #[.int .i64 0, .int .i64 0] 38)).setRow we.heap.size #[e0, e1, e2, e3, .slice eA 1 ec, e5]).setRow (we.heap.size + 1) #[.int .i64 el, .int .i64 eo] = Ve at *
        clear bx0 y0 y1 ye ose
        go_wp2_with fail
        refine (HT5.out _ hB).mono ?_
        rintro en wf ⟨f0, f1, f2, f3, fA, fc, f5, fl, fo, rfl, hvf, hb⟩
        have osf := hvf.all
        replace hvf := hvf.tt
        replace cb := below_cell hb cb hlw
        replace hlw := Nat.lt_of_lt_of_le hlw hb.size
        replace x9 := x9.new hb
        replace xb := xb.new hb
        replace xr := xr.new hb
        replace xe := xe.new hb
        replace hv9 := hv9.new hb
        replace hvb := hvb.new hb
        replace hvr := hvr.new hb
        replace hve := hve.new hb
        replace hB := hB.trans (hb.mono hB.size)
        clear hb
        have bx0 := (box_alloc wf 32 #[.slice none 0 0, .slice none 0 0, .slice none 0 0, .slice none 0 0, .slice none 0 0, .string ⟨#[]⟩]).new (allocB (wf.alloc (.cells #[.slice none 0 0, .slice none 0 0, .slice none 0 0, .slice none 0 0, .slice none 0 0, .string ⟨#[]⟩] 32)) (.cells #[.int .i64 0, .int .i64 0] 38))
        have y0 := box_alloc (wf.alloc (.cells #[.slice none 0 0, .slice none 0 0, .slice none 0 0, .slice none 0 0, .slice none 0 0, .string ⟨#[]⟩] 32)) 38 #[.int .i64 0, .int .i64 0]
        rw [show (wf.alloc (.cells #[.slice none 0 0, .slice none 0 0, .slice none 0 0, .slice none 0 0, .slice none 0 0, .string ⟨#[]⟩] 32)).heap.size = wf.heap.size + 1 by simp] at y0
        have xf := (bx0.set #[f0, f1, f2, f3, .slice fA 1 fc, f5]).other (j := wf.heap.size + 1) #[.int .i64 fl, .int .i64 fo] (by omega)
        have y1 := y0.other (j := wf.heap.size) #[f0, f1, f2, f3, .slice fA 1 fc, f5] (by omega)
        have yf := y1.set #[.int .i64 fl, .int .i64 fo]
        have blf : Below wf.heap.size wf ((((wf.alloc (.cells #[.slice none 0 0, .slice none 0 0, .slice none 0 0, .slice none 0 0, .slice none 0 0, .string ⟨#[]⟩] 32)).alloc (.cells #[.int .i64 0, .int .i64 0] 38)).setRow wf.heap.size #[f0, f1, f2, f3, .slice fA 1 fc, f5]).setRow (wf.heap.size + 1) #[.int .i64 fl, .int .i64 fo]) := below_row (below_row ((allocB wf _).trans ((allocB _ _).mono (by simp))) (Nat.le_refl _) _) (Nat.le_succ _) _
        replace cb := below_cell blf cb hlw
        replace hlw := Nat.lt_of_lt_of_le hlw blf.size
        replace x9 := x9.new blf
        replace xb := xb.new blf
        replace xr := xr.new blf
        replace xe := xe.new blf
        replace hv9 := hv9.new blf
        replace hvb := hvb.new blf
        replace hvr := hvr.new blf
        replace hve := hve.new blf
        replace hvf := hvf.new blf
        replace hB := hB.trans (blf.mono hB.size)
        clear blf
        go_upto_region 16 with (first | (refine wpList_store_row rfl 32 (.tmp 24) (.tmp 145) rfl (wf.heap.size) _ rfl rfl 32 _ bx0 (by kernel_rfl) rfl osf ?_) | (refine wpList_store_row rfl 38 (.tmp 25) (.tmp 146) rfl (wf.heap.size + 1) _ rfl rfl 38 _ y1 (by kernel_rfl) rfl (by simp [Value.oneCell']) ?_))
        try simp only [Act.put]
        generalize (((wf.alloc (.cells #[.slice none 0 0, .slice none 0 0, .slice none 0 0, .slice none 0 0, .slice none 0 0, .string ⟨#[]⟩] 32)).alloc (.cells #[.int .i64 0, .int .i64 0] 38)).setRow wf.heap.size #[f0, f1, f2, f3, .slice fA 1 fc, f5]).setRow (wf.heap.size + 1) #[.int .i64 fl, .int .i64 fo] = Vf at *
        clear bx0 y0 y1 yf osf
        go_wp2_with fail
        refine (HT6.out _ hB).mono ?_
        rintro en wg ⟨g0, g1, g2, g3, gA, gc, g5, gl, go, rfl, hvg, hb⟩
        have osg := hvg.all
        replace hvg := hvg.tt
        replace cb := below_cell hb cb hlw
        replace hlw := Nat.lt_of_lt_of_le hlw hb.size
        replace x9 := x9.new hb
        replace xb := xb.new hb
        replace xr := xr.new hb
        replace xe := xe.new hb
        replace xf := xf.new hb
        replace hv9 := hv9.new hb
        replace hvb := hvb.new hb
        replace hvr := hvr.new hb
        replace hve := hve.new hb
        replace hvf := hvf.new hb
        replace hB := hB.trans (hb.mono hB.size)
        clear hb
        have bx0 := (box_alloc wg 32 #[.slice none 0 0, .slice none 0 0, .slice none 0 0, .slice none 0 0, .slice none 0 0, .string ⟨#[]⟩]).new (allocB (wg.alloc (.cells #[.slice none 0 0, .slice none 0 0, .slice none 0 0, .slice none 0 0, .slice none 0 0, .string ⟨#[]⟩] 32)) (.cells #[.int .i64 0, .int .i64 0] 38))
        have y0 := box_alloc (wg.alloc (.cells #[.slice none 0 0, .slice none 0 0, .slice none 0 0, .slice none 0 0, .slice none 0 0, .string ⟨#[]⟩] 32)) 38 #[.int .i64 0, .int .i64 0]
        rw [show (wg.alloc (.cells #[.slice none 0 0, .slice none 0 0, .slice none 0 0, .slice none 0 0, .slice none 0 0, .string ⟨#[]⟩] 32)).heap.size = wg.heap.size + 1 by simp] at y0
        have xg := (bx0.set #[g0, g1, g2, g3, .slice gA 1 gc, g5]).other (j := wg.heap.size + 1) #[.int .i64 gl, .int .i64 go] (by omega)
        have y1 := y0.other (j := wg.heap.size) #[g0, g1, g2, g3, .slice gA 1 gc, g5] (by omega)
        have yg := y1.set #[.int .i64 gl, .int .i64 go]
        have blg : Below wg.heap.size wg ((((wg.alloc (.cells #[.slice none 0 0, .slice none 0 0, .slice none 0 0, .slice none 0 0, .slice none 0 0, .string ⟨#[]⟩] 32)).alloc (.cells #[.int .i64 0, .int .i64 0] 38)).setRow wg.heap.size #[g0, g1, g2, g3, .slice gA 1 gc, g5]).setRow (wg.heap.size + 1) #[.int .i64 gl, .int .i64 go]) := below_row (below_row ((allocB wg _).trans ((allocB _ _).mono (by simp))) (Nat.le_refl _) _) (Nat.le_succ _) _
        replace cb := below_cell blg cb hlw
        replace hlw := Nat.lt_of_lt_of_le hlw blg.size
        replace x9 := x9.new blg
        replace xb := xb.new blg
        replace xr := xr.new blg
        replace xe := xe.new blg
        replace xf := xf.new blg
        replace hv9 := hv9.new blg
        replace hvb := hvb.new blg
        replace hvr := hvr.new blg
        replace hve := hve.new blg
        replace hvf := hvf.new blg
        replace hvg := hvg.new blg
        replace hB := hB.trans (blg.mono hB.size)
        clear blg
        go_upto_region 17 with (first | (refine wpList_store_row rfl 32 (.tmp 27) (.tmp 156) rfl (wg.heap.size) _ rfl rfl 32 _ bx0 (by kernel_rfl) rfl osg ?_) | (refine wpList_store_row rfl 38 (.tmp 28) (.tmp 157) rfl (wg.heap.size + 1) _ rfl rfl 38 _ y1 (by kernel_rfl) rfl (by simp [Value.oneCell']) ?_))
        try simp only [Act.put]
        generalize (((wg.alloc (.cells #[.slice none 0 0, .slice none 0 0, .slice none 0 0, .slice none 0 0, .slice none 0 0, .string ⟨#[]⟩] 32)).alloc (.cells #[.int .i64 0, .int .i64 0] 38)).setRow wg.heap.size #[g0, g1, g2, g3, .slice gA 1 gc, g5]).setRow (wg.heap.size + 1) #[.int .i64 gl, .int .i64 go] = Vg at *
        clear bx0 y0 y1 yg osg
        have f0 := box_cell x9 0 _ rfl
        have f1 := box_cell x9 1 _ rfl
        have f2 := box_cell x9 2 _ rfl
        have f3 := box_cell x9 3 _ rfl
        have f4 := box_cell x9 4 _ rfl
        have f5 := box_cell x9 5 _ rfl
        have g0 := box_cell xb 0 _ rfl
        have g1 := box_cell xb 1 _ rfl
        have g2 := box_cell xb 2 _ rfl
        have g3 := box_cell xb 3 _ rfl
        have g4 := box_cell xb 4 _ rfl
        have g5 := box_cell xb 5 _ rfl
        go_wp2_with fail
        refine (sameProgram_x hv9 hvb).mono ?_
        rintro en u1 ⟨rfl, hb⟩
        replace x9 := x9.new hb
        replace xb := xb.new hb
        replace xr := xr.new hb
        replace xe := xe.new hb
        replace xf := xf.new hb
        replace xg := xg.new hb
        replace hv9 := hv9.new hb
        replace hvb := hvb.new hb
        replace hvr := hvr.new hb
        replace hve := hve.new hb
        replace hvf := hvf.new hb
        replace hvg := hvg.new hb
        replace hB := hB.trans (hb.mono hB.size)
        clear hb f0 g0 f1 g1 f2 g2 f3 g3 f4 g4 f5 g5
        have f0 := box_cell xr 0 _ rfl
        have f1 := box_cell xr 1 _ rfl
        have f2 := box_cell xr 2 _ rfl
        have f3 := box_cell xr 3 _ rfl
        have f4 := box_cell xr 4 _ rfl
        have f5 := box_cell xr 5 _ rfl
        have g0 := box_cell xe 0 _ rfl
        have g1 := box_cell xe 1 _ rfl
        have g2 := box_cell xe 2 _ rfl
        have g3 := box_cell xe 3 _ rfl
        have g4 := box_cell xe 4 _ rfl
        have g5 := box_cell xe 5 _ rfl
        go_wp2_with fail
        refine (sameProgram_x hvr hve).mono ?_
        rintro en u2 ⟨rfl, hb⟩
        replace x9 := x9.new hb
        replace xb := xb.new hb
        replace xr := xr.new hb
        replace xe := xe.new hb
        replace xf := xf.new hb
        replace xg := xg.new hb
        replace hv9 := hv9.new hb
        replace hvb := hvb.new hb
        replace hvr := hvr.new hb
        replace hve := hve.new hb
        replace hvf := hvf.new hb
        replace hvg := hvg.new hb
        replace hB := hB.trans (hb.mono hB.size)
        clear hb f0 g0 f1 g1 f2 g2 f3 g3 f4 g4 f5 g5
        have f0 := box_cell xf 0 _ rfl
        have f1 := box_cell xf 1 _ rfl
        have f2 := box_cell xf 2 _ rfl
        have f3 := box_cell xf 3 _ rfl
        have f4 := box_cell xf 4 _ rfl
        have f5 := box_cell xf 5 _ rfl
        have g0 := box_cell xg 0 _ rfl
        have g1 := box_cell xg 1 _ rfl
        have g2 := box_cell xg 2 _ rfl
        have g3 := box_cell xg 3 _ rfl
        have g4 := box_cell xg 4 _ rfl
        have g5 := box_cell xg 5 _ rfl
        go_wp2_with fail
        refine (sameProgram_x hvf hvg).mono ?_
        rintro en u3 ⟨rfl, hb⟩
        replace x9 := x9.new hb
        replace xb := xb.new hb
        replace xr := xr.new hb
        replace xe := xe.new hb
        replace xf := xf.new hb
        replace xg := xg.new hb
        replace hv9 := hv9.new hb
        replace hvb := hvb.new hb
        replace hvr := hvr.new hb
        replace hve := hve.new hb
        replace hvf := hvf.new hb
        replace hvg := hvg.new hb
        replace hB := hB.trans (hb.mono hB.size)
        clear hb f0 g0 f1 g1 f2 g2 f3 g3 f4 g4 f5 g5
        go_wp2_with fail
        refine (HAW1.out _ hB).1.mono ?_
        rintro en u4 ⟨rfl, hb⟩
        have hB2 := (HAW1.out _ hB).2
        go_wp2
        go_ret
        exact ⟨rfl, hB2.trans (hb.mono hB2.size)⟩
end Ps
end Go.Proofs.YtggdhgppclnckaaGreatDoor
