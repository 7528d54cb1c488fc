/-
  Two programs with the same data are the same: numbers, fractions, expressions.
  Two programs with the same data are the same: types, declarations, draws.
  Two programs with the same data are the same: statements, functions.
  Two programs with the same data are the same: programs.
-/
import Derived.Test.YtggdhgppclnckaaGreatDoorFoD
import Derived.Test.YtggdhgppclnckaaGreatDoorPasT
namespace Go.Proofs.YtggdhgppclnckaaGreatDoor
open Go Go.RowKit Lx
set_option maxRecDepth 20000

namespace Ps
/-- True, and what was there is as it was. -/
def YesB (w : World) (e : Ending) (w' : World) : Prop := e = .returned (.bool true) ∧ Below w.heap.size w w'
variable {w : World} {A B : Option Addr} {m c k d : Nat}
theorem limbs_x {l : List Int} (ha : Rd Tt w (.l 1 (l.map (.n .u32 ·))) (.slice A m c)) (hb : Rd Tt w (.l 1 (l.map (.n .u32 ·))) (.slice B k d)) : Calls Tryz.prog 108 #[.slice A m c, .slice B k d] w (YesB w) := by
  rw [map_flat] at ha hb
  obtain ⟨rfl, hm, ea⟩ := ha.elem (f := fun x => [D.n .u32 x]) (fun _ => rfl) (by decide)
  obtain ⟨rfl, _, eb⟩ := hb.elem (f := fun x => [D.n .u32 x]) (fun _ => rfl) (by decide)
  unfold maxLen at hm
  have HA := Lib.hid ea
  have HB := Lib.hid eb
  clear ea eb ha hb
  go_enter Tryz.func108, Tryz.ntmps108
  go_wp2
  go_loopw [5] (fun iv wr => ∃ k q : Nat, k ≤ l.length ∧ iv = .int .i64 k ∧ wr = w.drewN q) (fun iv _ => l.length - (intOf iv).toNat)
  case atStart => exact ⟨0, 0, Nat.zero_le _, rfl, rfl⟩
  case round =>
    obtain ⟨k, q, hk, rfl, rfl⟩ := hrel
    by_cases hkn : k < l.length
    · obtain ⟨g1, o1, vs, rfl, _, r1, d1⟩ := HA.out k _ (List.getElem?_eq_getElem hkn)
      obtain ⟨g2, o2, us, rfl, _, r2, d2⟩ := HB.out k _ (List.getElem?_eq_getElem hkn)
      obtain ⟨v1, rfl, e1⟩ := rds_one d1
      obtain ⟨v2, rfl, e2⟩ := rds_one d2
      have p1 := r1 0 _ rfl
      have p2 := r2 0 _ rfl
      obtain ⟨x, hx⟩ : ∃ x, l[k] = x := ⟨_, rfl⟩
      rw [hx] at e1 e2
      obtain rfl := n_form e1
      obtain rfl := n_form e2
      simp only [Nat.mul_one, Nat.add_zero] at p1 p2
      clear r1 r2 HA HB hx d1 d2 e1 e2
      go_wp2_with fail
      go_quiet (fail)
      go_wp2
      go_roundw
      case rel => exact ⟨k + 1, _, by omega, by go_num, rfl⟩
      case measure => simp [intOf] <;> omega
    · obtain rfl : k = l.length := by omega
      go_wp2
      go_ret
      exact ⟨rfl, drewN_below (Below.refl _ _) _⟩
theorem sameRat_x {r : Rv} {va vb : List Value} (ha : Rds Tt w r.d va) (hb : Rds Tt w r.d vb) : Calls Tryz.prog 70 #[.agg va.toArray, .agg vb.toArray] w (YesB w) := by
  obtain ⟨A1, m1, c1, A2, m2, c2, rfl, a1, a2⟩ := rv_form ha
  obtain ⟨B1, k1, d1, B2, k2, d2, rfl, e1, e2⟩ := rv_form hb
  clear ha hb
  have b0 := (box_alloc w 50 #[.bool r.neg, .slice A1 m1 c1, .slice A2 m2 c2]).new (allocB (w.alloc (.cells #[.bool r.neg, .slice A1 m1 c1, .slice A2 m2 c2] 50)) (.cells #[.bool r.neg, .slice B1 k1 d1, .slice B2 k2 d2] 50))
  have b1 := box_alloc (w.alloc (.cells #[.bool r.neg, .slice A1 m1 c1, .slice A2 m2 c2] 50)) 50 #[.bool r.neg, .slice B1 k1 d1, .slice B2 k2 d2]
  have bU : Below w.heap.size w ((w.alloc (.cells #[.bool r.neg, .slice A1 m1 c1, .slice A2 m2 c2] 50)).alloc (.cells #[.bool r.neg, .slice B1 k1 d1, .slice B2 k2 d2] 50)) := (allocB w _).trans ((allocB _ _).mono (by simp))
  rw [show (w.alloc (.cells #[.bool r.neg, .slice A1 m1 c1, .slice A2 m2 c2] 50)).heap.size = w.heap.size + 1 by simp] at b1
  have H1 := Lib.hid (limbs_x (a1.new bU) (e1.new bU))
  have H2 : Hid (∀ W, Below w.heap.size w W → Calls Tryz.prog 108 #[.slice A2 m2 c2, .slice B2 k2 d2] W (YesB W)) := fun W hW => limbs_x (a2.new hW) (e2.new hW)
  clear a1 a2 e1 e2
  go_enter Tryz.func70, Tryz.ntmps70
  go_wp2_with fail
  generalize ((w.alloc (.cells #[.bool r.neg, .slice A1 m1 c1, .slice A2 m2 c2] 50)).alloc (.cells #[.bool r.neg, .slice B1 k1 d1, .slice B2 k2 d2] 50)) = U at *
  refine H1.out.mono ?_
  rintro en w1 ⟨rfl, hb1⟩
  have bW := bU.trans (hb1.mono bU.size)
  have p0 := box_cell (b0.new hb1) 2 _ rfl
  have p1 := box_cell (b1.new hb1) 2 _ rfl
  clear b0 b1
  go_wp2_with fail
  refine (H2.out w1 bW).mono ?_
  rintro en w2 ⟨rfl, hb2⟩
  go_wp2
  go_ret
  exact ⟨rfl, bW.trans (hb2.mono bW.size)⟩
/-- Expressions below a size are the same if their data is. -/
def EqE (n : Nat) : Prop := ∀ e : Ex, SizeOf.sizeOf e < n → ∀ (w : World) (va vb : List Value), Rds Tt w e.d va → Rds Tt w e.d vb → Calls Tryz.prog 42 #[.agg va.toArray, .agg vb.toArray] w (YesB w)
set_option maxHeartbeats 2000000 in
theorem sameExprs_x {n : Nat} (hE : EqE n) {xs : List Ex} (hx : ∀ x ∈ xs, SizeOf.sizeOf x < n) (ha : Rd Tt w (.l 7 (dsE xs)) (.slice A m c)) (hb : Rd Tt w (.l 7 (dsE xs)) (.slice B k d)) : Calls Tryz.prog 71 #[.slice A m c, .slice B k d] w (YesB w) := by
  rw [dsE_flat] at ha hb
  obtain ⟨rfl, hm, ea⟩ := ha.elem Ex.d_len (by decide)
  obtain ⟨rfl, _, eb⟩ := hb.elem Ex.d_len (by decide)
  unfold maxLen at hm
  have HA := Lib.hid ea
  have HB := Lib.hid eb
  have HE := Lib.hid hE
  have HX : Hid (∀ k, (h : k < xs.length) → SizeOf.sizeOf xs[k] < n) := fun k h => hx _ (List.getElem_mem h)
  clear ea eb ha hb hE hx
  go_enter Tryz.func71, Tryz.ntmps71
  go_wp2
  go_loopw [5] (fun iv wr => ∃ k : Nat, k ≤ xs.length ∧ iv = .int .i64 k ∧ Below w.heap.size w wr) (fun iv _ => xs.length - (intOf iv).toNat)
  case atStart => exact ⟨0, Nat.zero_le _, rfl, Below.refl _ _⟩
  case round =>
    obtain ⟨k, hk, rfl, hbw⟩ := hrel
    by_cases hkn : k < xs.length
    · obtain ⟨g1, o1, vs, rfl, z1, r1, d1⟩ := HA.out k _ (List.getElem?_eq_getElem hkn)
      obtain ⟨g2, o2, us, rfl, z2, r2, d2⟩ := HB.out k _ (List.getElem?_eq_getElem hkn)
      have l1 : vs.length = 7 := by rw [← d1.len]; exact Ex.d_len _
      have l2 : us.length = 7 := by rw [← d2.len]; exact Ex.d_len _
      have H1 : Hid (∀ W, Below wr.drew.heap.size wr.drew W → Calls Tryz.prog 42 #[.agg vs.toArray, .agg us.toArray] W (YesB W)) := fun W hW => by
        have hW2 : Below w.heap.size w W := (drewN_below hbw 1).trans (hW.mono (drewN_below hbw 1).size)
        exact HE.out _ (HX.out k hkn) W _ _ (d1.new hW2) (d2.new hW2)
      replace r1 := range_below r1 z1 hbw
      replace r2 := range_below r2 z2 hbw
      have y1 : g1 < wr.drew.heap.size := Nat.lt_of_lt_of_le z1 hbw.size
      have y2 : g2 < wr.drew.heap.size := Nat.lt_of_lt_of_le z2 hbw.size
      have hkn' : (k : Int) < (xs.length : Int) := by omega
      clear d1 d2 HA HB z1 z2
      clear HX
      generalize xs.length = m at *
      go_wp2_with fail
      refine wp_region_held_drew (S := fun W => W.rangeAt g1 (o1 + k * 7) vs ∧ W.rangeAt g2 (o2 + k * 7) us) (by kernel_rfl) ?_ (fun hHeld => ?_)
      · exact ⟨range_keep r1 rfl, range_keep r2 rfl⟩
      refine tkH (i := 0) (oi := ⟨some 17, _, _, _, _, _⟩) (v := ?_) ?_ ?_
      rotate_left
      · intro W hSw
        go_simp
        try with_reducible rfl
      try simp only [Act.put, List.setIfInBounds_toArray, List.set_cons_zero, List.set_cons_succ]
      refine tkH (i := 1) (oi := ⟨some 18, _, _, _, _, _⟩) (v := ?_) ?_ ?_
      rotate_left
      · intro W hSw
        go_simp
        try with_reducible rfl
      try simp only [Act.put, List.setIfInBounds_toArray, List.set_cons_zero, List.set_cons_succ]
      refine tkH (i := 2) (oi := ⟨some 19, _, _, _, _, _⟩) (v := ?_) ?_ ?_
      rotate_left
      · intro W hSw
        go_simp
        try with_reducible rfl
      try simp only [Act.put, List.setIfInBounds_toArray, List.set_cons_zero, List.set_cons_succ]
      refine tkH (i := 3) (oi := ⟨some 20, _, _, _, _, _⟩) (v := .agg (vs).toArray) (fun W hSw => mid_yield rfl rfl (hSw.1) rfl (by rw [l1]; kernel_rfl)) ?_
      try simp only [Act.put, List.setIfInBounds_toArray, List.set_cons_zero, List.set_cons_succ]
      refine tkH (i := 4) (oi := ⟨some 21, _, _, _, _, _⟩) (v := ?_) ?_ ?_
      rotate_left
      · intro W hSw
        go_simp
        try with_reducible rfl
      try simp only [Act.put, List.setIfInBounds_toArray, List.set_cons_zero, List.set_cons_succ]
      refine tkH (i := 5) (oi := ⟨some 22, _, _, _, _, _⟩) (v := ?_) ?_ ?_
      rotate_left
      · intro W hSw
        go_simp
        try with_reducible rfl
      try simp only [Act.put, List.setIfInBounds_toArray, List.set_cons_zero, List.set_cons_succ]
      refine tkH (i := 6) (oi := ⟨some 23, _, _, _, _, _⟩) (v := ?_) ?_ ?_
      rotate_left
      · intro W hSw
        go_simp
        try with_reducible rfl
      try simp only [Act.put, List.setIfInBounds_toArray, List.set_cons_zero, List.set_cons_succ]
      refine tkH (i := 7) (oi := ⟨some 24, _, _, _, _, _⟩) (v := .agg (us).toArray) (fun W hSw => mid_yield rfl rfl (hSw.2) rfl (by rw [l2]; kernel_rfl)) ?_
      try simp only [Act.put, List.setIfInBounds_toArray, List.set_cons_zero, List.set_cons_succ]
      refine wpAnyH_ready (rs := [8]) (by kernel_rfl) (by simp) ?_
      refine AllReadyH.cons (o := ⟨some 25, _, _, _, _, _⟩) rfl (fun K hK => ?_) AllReadyH.nil
      go_simp
      refine (H1.out _ (Below.refl _ _)).mono ?_
      rintro en w1 ⟨rfl, hb1⟩
      refine hK.out _ _ (⟨range_below hHeld.1 (by assumption) hb1, range_below hHeld.2 (by assumption) hb1⟩) (fun hHeld => ?_)
      clear hK K
      try simp only [Act.put, List.setIfInBounds_toArray, List.set_cons_zero, List.set_cons_succ]
      refine tkH (i := 9) (oi := ⟨some 26, _, _, _, _, _⟩) (v := ?_) ?_ ?_
      rotate_left
      · intro W hSw
        go_simp
        try with_reducible rfl
      try simp only [Act.put, List.setIfInBounds_toArray, List.set_cons_zero, List.set_cons_succ]
      refine wpAnyH_done (by kernel_rfl) ?_ _
      go_wp2
      go_roundw
      case rel => exact ⟨k + 1, by omega, by go_num, by have := drewN_below hbw 1; exact this.trans (hb1.mono this.size)⟩
      case measure => simp [intOf] <;> omega
    · obtain rfl : k = xs.length := by omega
      go_wp2
      go_ret
      exact ⟨rfl, hbw⟩
set_option maxHeartbeats 2000000 in
theorem sameExpr_step {n : Nat} (hE : EqE n) : EqE (n + 1) := by
  rintro ⟨p, q, r, nm, xs⟩ hsz w va vb ha hb
  obtain ⟨A1, m1, c1, A2, m2, c2, A3, m3, c3, rfl, ar, ax⟩ := ex_form ha
  obtain ⟨B1, k1, d1, B2, k2, d2, B3, k3, d3, rfl, er, ex⟩ := ex_form hb
  have hx : ∀ x ∈ xs, SizeOf.sizeOf x < n := fun x hx => by
    have := List.sizeOf_lt_of_mem hx
    simp only [Ex.mk.sizeOf_spec] at hsz
    omega
  generalize bt nm = x at *
  clear ha hb hsz
  have b0 := (box_alloc w 53 #[.int .i64 p, .int .i64 q, .bool r.neg, .slice A1 m1 c1, .slice A2 m2 c2, .string x, .slice A3 m3 c3]).new (allocB (w.alloc (.cells #[.int .i64 p, .int .i64 q, .bool r.neg, .slice A1 m1 c1, .slice A2 m2 c2, .string x, .slice A3 m3 c3] 53)) (.cells #[.int .i64 p, .int .i64 q, .bool r.neg, .slice B1 k1 d1, .slice B2 k2 d2, .string x, .slice B3 k3 d3] 53))
  have b1 := box_alloc (w.alloc (.cells #[.int .i64 p, .int .i64 q, .bool r.neg, .slice A1 m1 c1, .slice A2 m2 c2, .string x, .slice A3 m3 c3] 53)) 53 #[.int .i64 p, .int .i64 q, .bool r.neg, .slice B1 k1 d1, .slice B2 k2 d2, .string x, .slice B3 k3 d3]
  have bU : Below w.heap.size w ((w.alloc (.cells #[.int .i64 p, .int .i64 q, .bool r.neg, .slice A1 m1 c1, .slice A2 m2 c2, .string x, .slice A3 m3 c3] 53)).alloc (.cells #[.int .i64 p, .int .i64 q, .bool r.neg, .slice B1 k1 d1, .slice B2 k2 d2, .string x, .slice B3 k3 d3] 53)) := (allocB w _).trans ((allocB _ _).mono (by simp))
  rw [show (w.alloc (.cells #[.int .i64 p, .int .i64 q, .bool r.neg, .slice A1 m1 c1, .slice A2 m2 c2, .string x, .slice A3 m3 c3] 53)).heap.size = w.heap.size + 1 by simp] at b1
  have HR : Hid (∀ W, Below w.heap.size w W → Calls Tryz.prog 70 #[.agg #[.bool r.neg, .slice A1 m1 c1, .slice A2 m2 c2], .agg #[.bool r.neg, .slice B1 k1 d1, .slice B2 k2 d2]] W (YesB W)) := fun W hW => sameRat_x (ar.new hW) (er.new hW)
  have HX : Hid (∀ W, Below w.heap.size w W → Calls Tryz.prog 71 #[.slice A3 m3 c3, .slice B3 k3 d3] W (YesB W)) := fun W hW => sameExprs_x hE hx (ax.new hW) (ex.new hW)
  clear ar er ax ex hE hx
  go_enter Tryz.func42, Tryz.ntmps42
  go_wp2_with fail
  generalize ((w.alloc (.cells #[.int .i64 p, .int .i64 q, .bool r.neg, .slice A1 m1 c1, .slice A2 m2 c2, .string x, .slice A3 m3 c3] 53)).alloc (.cells #[.int .i64 p, .int .i64 q, .bool r.neg, .slice B1 k1 d1, .slice B2 k2 d2, .string x, .slice B3 k3 d3] 53)) = U at *
  refine (HR.out U bU).mono ?_
  rintro en w1 ⟨rfl, hb1⟩
  have bW := bU.trans (hb1.mono bU.size)
  have p3 := box_cell (b0.new hb1) 5 _ rfl
  have q3 := box_cell (b1.new hb1) 5 _ rfl
  have p4 := box_cell (b0.new hb1) 6 _ rfl
  have q4 := box_cell (b1.new hb1) 6 _ rfl
  clear b0 b1
  go_wp2_with fail
  refine (HX.out w1 bW).mono ?_
  rintro en w2 ⟨rfl, hb2⟩
  go_wp2
  go_ret
  exact ⟨rfl, bW.trans (hb2.mono bW.size)⟩
theorem eqE : ∀ n, EqE n
  | 0 => fun _ h => absurd h (Nat.not_lt_zero _)
  | n + 1 => sameExpr_step (eqE n)
theorem sameExpr_x {e : Ex} {va vb : List Value} (ha : Rds Tt w e.d va) (hb : Rds Tt w e.d vb) : Calls Tryz.prog 42 #[.agg va.toArray, .agg vb.toArray] w (YesB w) := eqE (SizeOf.sizeOf e + 1) e (Nat.lt_succ_self _) w va vb ha hb
theorem exprs_same {xs : List Ex} (ha : Rd Tt w (.l 7 (dsE xs)) (.slice A m c)) (hb : Rd Tt w (.l 7 (dsE xs)) (.slice B k d)) : Calls Tryz.prog 71 #[.slice A m c, .slice B k d] w (YesB w) :=
  sameExprs_x (eqE (SizeOf.sizeOf xs)) (fun _ hx => List.sizeOf_lt_of_mem hx) ha hb
end Ps
end Go.Proofs.YtggdhgppclnckaaGreatDoor

namespace Go.Proofs.YtggdhgppclnckaaGreatDoor
open Go Go.RowKit Lx
set_option maxRecDepth 20000

namespace Ps
variable {w : World} {A B : Option Addr} {m c k d : Nat}
def EqT (n : Nat) : Prop := ∀ e : Ty, SizeOf.sizeOf e < n → ∀ (w : World) (va vb : List Value), Rds Tt w e.d va → Rds Tt w e.d vb → Calls Tryz.prog 109 #[.agg va.toArray, .agg vb.toArray] w (YesB w)
set_option maxHeartbeats 4000000 in
theorem equal_step {n : Nat} (hE : EqT n) : EqT (n + 1) := by
  rintro ⟨p, q, x, y, es⟩ hsz w va vb ha hb
  obtain ⟨A1, m1, c1, rfl, ar⟩ := ty_form ha
  obtain ⟨B1, k1, d1, rfl, er⟩ := ty_form hb
  have HX : Hid (∀ k, (h : k < es.length) → SizeOf.sizeOf es[k] < n) := fun k h => by
    have := List.sizeOf_lt_of_mem (List.getElem_mem h)
    simp only [Ty.mk.sizeOf_spec] at hsz
    omega
  rw [dsT_flat] at ar er
  obtain ⟨rfl, hm, ea⟩ := ar.elem Ty.d_len (by decide)
  obtain ⟨rfl, _, eb⟩ := er.elem Ty.d_len (by decide)
  unfold maxLen at hm
  have HA := Lib.hid ea
  have HB := Lib.hid eb
  have HE := Lib.hid hE
  clear ea eb ha hb hE hsz ar er
  have b0 := (box_alloc w 74 #[.int .i64 p, .int .i64 q, .int .i64 x, .int .i64 y, .slice A1 es.length c1]).new (allocB (w.alloc (.cells #[.int .i64 p, .int .i64 q, .int .i64 x, .int .i64 y, .slice A1 es.length c1] 74)) (.cells #[.int .i64 p, .int .i64 q, .int .i64 x, .int .i64 y, .slice B1 es.length d1] 74))
  have b1 := box_alloc (w.alloc (.cells #[.int .i64 p, .int .i64 q, .int .i64 x, .int .i64 y, .slice A1 es.length c1] 74)) 74 #[.int .i64 p, .int .i64 q, .int .i64 x, .int .i64 y, .slice B1 es.length d1]
  have bU : Below w.heap.size w ((w.alloc (.cells #[.int .i64 p, .int .i64 q, .int .i64 x, .int .i64 y, .slice A1 es.length c1] 74)).alloc (.cells #[.int .i64 p, .int .i64 q, .int .i64 x, .int .i64 y, .slice B1 es.length d1] 74)) := (allocB w _).trans ((allocB _ _).mono (by simp))
  rw [show (w.alloc (.cells #[.int .i64 p, .int .i64 q, .int .i64 x, .int .i64 y, .slice A1 es.length c1] 74)).heap.size = w.heap.size + 1 by simp] at b1
  go_enter Tryz.func109, Tryz.ntmps109
  go_wp2
  generalize ((w.alloc (.cells #[.int .i64 p, .int .i64 q, .int .i64 x, .int .i64 y, .slice A1 es.length c1] 74)).alloc (.cells #[.int .i64 p, .int .i64 q, .int .i64 x, .int .i64 y, .slice B1 es.length d1] 74)) = U at *
  go_loopw [5] (fun iv wr => ∃ k : Nat, k ≤ es.length ∧ iv = .int .i64 k ∧ Below U.heap.size U wr) (fun iv _ => es.length - (intOf iv).toNat)
  case atStart => exact ⟨0, Nat.zero_le _, rfl, Below.refl _ _⟩
  case round =>
    obtain ⟨k, hk, rfl, hbu⟩ := hrel
    have hbw := bU.trans (hbu.mono bU.size)
    have p0 := box_cell (b0.new hbu) 4 _ rfl
    have p1 := box_cell (b1.new hbu) 4 _ rfl
    have t0 := Nat.lt_of_lt_of_le b0.lt hbu.size
    have t1 := Nat.lt_of_lt_of_le b1.lt hbu.size
    by_cases hkn : k < es.length
    · obtain ⟨g1, o1, vs, rfl, z1, r1, d1⟩ := HA.out k _ (List.getElem?_eq_getElem hkn)
      obtain ⟨g2, o2, us, rfl, z2, r2, d2⟩ := HB.out k _ (List.getElem?_eq_getElem hkn)
      have l1 : vs.length = 5 := by rw [← d1.len]; exact Ty.d_len _
      have l2 : us.length = 5 := by rw [← d2.len]; exact Ty.d_len _
      have H1 : Hid (∀ W, Below wr.drew.heap.size wr.drew W → Calls Tryz.prog 109 #[.agg vs.toArray, .agg us.toArray] W (YesB W)) := fun W hW => by
        have hW2 : Below w.heap.size w W := (drewN_below hbw 1).trans (hW.mono (drewN_below hbw 1).size)
        exact HE.out _ (HX.out k hkn) W _ _ (d1.new hW2) (d2.new hW2)
      replace r1 := range_below r1 z1 hbw
      replace r2 := range_below r2 z2 hbw
      have y1 : g1 < wr.drew.heap.size := Nat.lt_of_lt_of_le z1 hbw.size
      have y2 : g2 < wr.drew.heap.size := Nat.lt_of_lt_of_le z2 hbw.size
      have hkn' : (k : Int) < (es.length : Int) := by omega
      clear d1 d2 HA HB z1 z2 b0 b1
      go_wp2_with fail
      refine wp_region_held_drew (S := fun W => W.cell? ⟨w.heap.size, 4, none⟩ = some (.slice (some ⟨g1, o1, none⟩) es.length c1) ∧ W.cell? ⟨w.heap.size + 1, 4, none⟩ = some (.slice (some ⟨g2, o2, none⟩) es.length d1) ∧ W.rangeAt g1 (o1 + k * 5) vs ∧ W.rangeAt g2 (o2 + k * 5) us) (by kernel_rfl) ?_ (fun hHeld => ?_)
      · exact ⟨p0, p1, range_keep r1 rfl, range_keep r2 rfl⟩
      refine tkH (i := 0) (oi := ⟨some 48, _, _, _, _, _⟩) (v := ?_) ?_ ?_
      rotate_left
      · intro W hSw
        go_simp
        try with_reducible rfl
      try simp only [Act.put, List.setIfInBounds_toArray, List.set_cons_zero, List.set_cons_succ]
      refine tkH (i := 1) (oi := ⟨some 49, _, _, _, _, _⟩) (v := ?_) ?_ ?_
      rotate_left
      · intro W hSw
        have p0 := hSw.1
        have p1 := hSw.2.1
        go_simp
        try with_reducible rfl
      try simp only [Act.put, List.setIfInBounds_toArray, List.set_cons_zero, List.set_cons_succ]
      refine tkH (i := 2) (oi := ⟨some 50, _, _, _, _, _⟩) (v := ?_) ?_ ?_
      rotate_left
      · intro W hSw
        go_simp
        try with_reducible rfl
      try simp only [Act.put, List.setIfInBounds_toArray, List.set_cons_zero, List.set_cons_succ]
      refine tkH (i := 3) (oi := ⟨some 51, _, _, _, _, _⟩) (v := ?_) ?_ ?_
      rotate_left
      · intro W hSw
        go_simp
        try with_reducible rfl
      try simp only [Act.put, List.setIfInBounds_toArray, List.set_cons_zero, List.set_cons_succ]
      refine tkH (i := 4) (oi := ⟨some 52, _, _, _, _, _⟩) (v := .agg (vs).toArray) (fun W hSw => mid_yield rfl rfl (hSw.2.2.1) rfl (by rw [l1]; kernel_rfl)) ?_
      try simp only [Act.put, List.setIfInBounds_toArray, List.set_cons_zero, List.set_cons_succ]
      refine tkH (i := 5) (oi := ⟨some 53, _, _, _, _, _⟩) (v := ?_) ?_ ?_
      rotate_left
      · intro W hSw
        go_simp
        try with_reducible rfl
      try simp only [Act.put, List.setIfInBounds_toArray, List.set_cons_zero, List.set_cons_succ]
      refine tkH (i := 6) (oi := ⟨some 54, _, _, _, _, _⟩) (v := ?_) ?_ ?_
      rotate_left
      · intro W hSw
        have p0 := hSw.1
        have p1 := hSw.2.1
        go_simp
        try with_reducible rfl
      try simp only [Act.put, List.setIfInBounds_toArray, List.set_cons_zero, List.set_cons_succ]
      refine tkH (i := 7) (oi := ⟨some 55, _, _, _, _, _⟩) (v := ?_) ?_ ?_
      rotate_left
      · intro W hSw
        go_simp
        try with_reducible rfl
      try simp only [Act.put, List.setIfInBounds_toArray, List.set_cons_zero, List.set_cons_succ]
      refine tkH (i := 8) (oi := ⟨some 56, _, _, _, _, _⟩) (v := ?_) ?_ ?_
      rotate_left
      · intro W hSw
        go_simp
        try with_reducible rfl
      try simp only [Act.put, List.setIfInBounds_toArray, List.set_cons_zero, List.set_cons_succ]
      refine tkH (i := 9) (oi := ⟨some 57, _, _, _, _, _⟩) (v := .agg (us).toArray) (fun W hSw => mid_yield rfl rfl (hSw.2.2.2) rfl (by rw [l2]; kernel_rfl)) ?_
      try simp only [Act.put, List.setIfInBounds_toArray, List.set_cons_zero, List.set_cons_succ]
      refine wpAnyH_ready (rs := [10]) (by kernel_rfl) (by simp) ?_
      refine AllReadyH.cons (o := ⟨some 58, _, _, _, _, _⟩) rfl (fun K hK => ?_) AllReadyH.nil
      go_simp
      refine (H1.out _ (Below.refl _ _)).mono ?_
      rintro en w1 ⟨rfl, hb1⟩
      refine hK.out _ _ (⟨below_cell hb1 hHeld.1 (by assumption), below_cell hb1 hHeld.2.1 (by assumption), range_below hHeld.2.2.1 (by assumption) hb1, range_below hHeld.2.2.2 (by assumption) hb1⟩) (fun hHeld => ?_)
      clear hK K
      try simp only [Act.put, List.setIfInBounds_toArray, List.set_cons_zero, List.set_cons_succ]
      refine tkH (i := 11) (oi := ⟨some 59, _, _, _, _, _⟩) (v := ?_) ?_ ?_
      rotate_left
      · intro W hSw
        go_simp
        try with_reducible rfl
      try simp only [Act.put, List.setIfInBounds_toArray, List.set_cons_zero, List.set_cons_succ]
      refine wpAnyH_done (by kernel_rfl) ?_ _
      go_wp2
      go_roundw
      case rel => exact ⟨k + 1, by omega, by go_num, by have := drewN_below hbu 1; exact this.trans (hb1.mono this.size)⟩
      case measure => simp [intOf] <;> omega
    · obtain rfl : k = es.length := by omega
      clear b0 b1
      go_wp2
      go_ret
      exact ⟨rfl, hbw⟩
theorem eqT : ∀ n, EqT n
  | 0 => fun _ h => absurd h (Nat.not_lt_zero _)
  | n + 1 => equal_step (eqT n)
theorem equal_x {e : Ty} {va vb : List Value} (ha : Rds Tt w e.d va) (hb : Rds Tt w e.d vb) : Calls Tryz.prog 109 #[.agg va.toArray, .agg vb.toArray] w (YesB w) := eqT (SizeOf.sizeOf e + 1) e (Nat.lt_succ_self _) w va vb ha hb
theorem de_form {S : Nat → Prop} {w : World} {e : De} {vs : List Value} (h : Rds S w e.d vs) : ∃ us, vs = .string (bt e.nm) :: us ∧ Rds S w e.ty.d us := by
  unfold De.d at h
  cases h with
  | cons h0 h => cases h0; exact ⟨_, rfl, h⟩
set_option maxHeartbeats 4000000 in
theorem sameDecls_x {xs : List De} (ha : Rd Tt w (.l 6 (xs.flatMap De.d)) (.slice A m c)) (hb : Rd Tt w (.l 6 (xs.flatMap De.d)) (.slice B k d)) : Calls Tryz.prog 73 #[.slice A m c, .slice B k d] w (YesB w) := by
  obtain ⟨rfl, hm, ea⟩ := ha.elem De.d_len (by decide)
  obtain ⟨rfl, _, eb⟩ := hb.elem De.d_len (by decide)
  unfold maxLen at hm
  have HA := Lib.hid ea
  have HB := Lib.hid eb
  clear ea eb ha hb
  go_enter Tryz.func73, Tryz.ntmps73
  go_wp2
  go_loopw [5] (fun iv wr => ∃ k : Nat, k ≤ xs.length ∧ iv = .int .i64 k ∧ Below w.heap.size w wr) (fun iv _ => xs.length - (intOf iv).toNat)
  case atStart => exact ⟨0, Nat.zero_le _, rfl, Below.refl _ _⟩
  case round =>
    obtain ⟨k, hk, rfl, hbw⟩ := hrel
    by_cases hkn : k < xs.length
    · obtain ⟨g1, o1, vs', rfl, z1, r1, d1⟩ := HA.out k _ (List.getElem?_eq_getElem hkn)
      obtain ⟨g2, o2, us', rfl, z2, r2, d2⟩ := HB.out k _ (List.getElem?_eq_getElem hkn)
      generalize xs[k] = e at *
      obtain ⟨vs, rfl, e1⟩ := de_form d1
      obtain ⟨us, rfl, e2⟩ := de_form d2
      have l1 : vs.length = 5 := by rw [← e1.len]; exact Ty.d_len _
      have l2 : us.length = 5 := by rw [← e2.len]; exact Ty.d_len _
      have H1 : Hid (∀ W, Below wr.drew.heap.size wr.drew W → Calls Tryz.prog 109 #[.agg vs.toArray, .agg us.toArray] W (YesB W)) := fun W hW => by
        have hW2 : Below w.heap.size w W := (drewN_below hbw 1).trans (hW.mono (drewN_below hbw 1).size)
        exact equal_x (e1.new hW2) (e2.new hW2)
      replace r1 := range_below r1 z1 hbw
      replace r2 := range_below r2 z2 hbw
      have s1 : wr.rangeAt g1 (o1 + k * 6 + 1) vs := range_part [_] vs [] (by simpa using r1)
      have s2 : wr.rangeAt g2 (o2 + k * 6 + 1) us := range_part [_] us [] (by simpa using r2)
      have y1 : g1 < wr.drew.heap.size := Nat.lt_of_lt_of_le z1 hbw.size
      have y2 : g2 < wr.drew.heap.size := Nat.lt_of_lt_of_le z2 hbw.size
      have hkn' : (k : Int) < (xs.length : Int) := by omega
      clear d1 d2 e1 e2 HA HB z1 z2
      generalize bt e.nm = x at *
      generalize xs.length = m at *
      go_wp2_with fail
      refine wp_region_held_drew (S := fun W => (W.rangeAt g1 (o1 + k * 6) (.string x :: vs) ∧ W.rangeAt g1 (o1 + k * 6 + 1) vs) ∧ W.rangeAt g2 (o2 + k * 6) (.string x :: us) ∧ W.rangeAt g2 (o2 + k * 6 + 1) us) (by kernel_rfl) ?_ (fun hHeld => ?_)
      · exact ⟨⟨range_keep r1 rfl, range_keep s1 rfl⟩, range_keep r2 rfl, range_keep s2 rfl⟩
      refine tkH (i := 0) (oi := ⟨some 17, _, _, _, _, _⟩) (v := ?_) ?_ ?_
      rotate_left
      · intro W hSw
        go_simp
        try with_reducible rfl
      try simp only [Act.put, List.setIfInBounds_toArray, List.set_cons_zero, List.set_cons_succ]
      refine tkH (i := 1) (oi := ⟨some 18, _, _, _, _, _⟩) (v := ?_) ?_ ?_
      rotate_left
      · intro W hSw
        go_simp
        try with_reducible rfl
      try simp only [Act.put, List.setIfInBounds_toArray, List.set_cons_zero, List.set_cons_succ]
      refine tkH (i := 2) (oi := ⟨some 19, _, _, _, _, _⟩) (v := ?_) ?_ ?_
      rotate_left
      · intro W hSw
        go_simp
        try with_reducible rfl
      try simp only [Act.put, List.setIfInBounds_toArray, List.set_cons_zero, List.set_cons_succ]
      refine tkH (i := 3) (oi := ⟨some 20, _, _, _, _, _⟩) (v := ?_) ?_ ?_
      rotate_left
      · intro W hSw
        go_simp
        try with_reducible rfl
      try simp only [Act.put, List.setIfInBounds_toArray, List.set_cons_zero, List.set_cons_succ]
      refine tkH (i := 4) (oi := ⟨some 21, _, _, _, _, _⟩) (v := ?_) ?_ ?_
      rotate_left
      · intro W hSw
        have p0 := hSw.1.1 0 _ rfl
        have p1 := hSw.2.1 0 _ rfl
        simp only [Nat.add_zero] at p0 p1
        go_simp
        try with_reducible rfl
      try simp only [Act.put, List.setIfInBounds_toArray, List.set_cons_zero, List.set_cons_succ]
      refine tkH (i := 5) (oi := ⟨some 22, _, _, _, _, _⟩) (v := ?_) ?_ ?_
      rotate_left
      · intro W hSw
        go_simp
        try with_reducible rfl
      try simp only [Act.put, List.setIfInBounds_toArray, List.set_cons_zero, List.set_cons_succ]
      refine tkH (i := 6) (oi := ⟨some 23, _, _, _, _, _⟩) (v := ?_) ?_ ?_
      rotate_left
      · intro W hSw
        go_simp
        try with_reducible rfl
      try simp only [Act.put, List.setIfInBounds_toArray, List.set_cons_zero, List.set_cons_succ]
      refine tkH (i := 7) (oi := ⟨some 24, _, _, _, _, _⟩) (v := ?_) ?_ ?_
      rotate_left
      · intro W hSw
        go_simp
        try with_reducible rfl
      try simp only [Act.put, List.setIfInBounds_toArray, List.set_cons_zero, List.set_cons_succ]
      refine tkH (i := 8) (oi := ⟨some 25, _, _, _, _, _⟩) (v := ?_) ?_ ?_
      rotate_left
      · intro W hSw
        go_simp
        try with_reducible rfl
      try simp only [Act.put, List.setIfInBounds_toArray, List.set_cons_zero, List.set_cons_succ]
      refine tkH (i := 9) (oi := ⟨some 26, _, _, _, _, _⟩) (v := ?_) ?_ ?_
      rotate_left
      · intro W hSw
        have p0 := hSw.1.1 0 _ rfl
        have p1 := hSw.2.1 0 _ rfl
        simp only [Nat.add_zero] at p0 p1
        go_simp
        try with_reducible rfl
      try simp only [Act.put, List.setIfInBounds_toArray, List.set_cons_zero, List.set_cons_succ]
      refine tkH (i := 10) (oi := ⟨some 27, _, _, _, _, _⟩) (v := ?_) ?_ ?_
      rotate_left
      · intro W hSw
        go_simp
        try with_reducible rfl
      try simp only [Act.put, List.setIfInBounds_toArray, List.set_cons_zero, List.set_cons_succ]
      refine tkH (i := 11) (oi := ⟨some 28, _, _, _, _, _⟩) (v := ?_) ?_ ?_
      rotate_left
      · intro W hSw
        go_simp
        try with_reducible rfl
      try simp only [Act.put, List.setIfInBounds_toArray, List.set_cons_zero, List.set_cons_succ]
      refine tkH (i := 12) (oi := ⟨some 29, _, _, _, _, _⟩) (v := ?_) ?_ ?_
      rotate_left
      · intro W hSw
        go_simp
        try with_reducible rfl
      try simp only [Act.put, List.setIfInBounds_toArray, List.set_cons_zero, List.set_cons_succ]
      refine tkH (i := 13) (oi := ⟨some 30, _, _, _, _, _⟩) (v := ?_) ?_ ?_
      rotate_left
      · intro W hSw
        go_simp
        try with_reducible rfl
      try simp only [Act.put, List.setIfInBounds_toArray, List.set_cons_zero, List.set_cons_succ]
      refine tkH (i := 14) (oi := ⟨some 31, _, _, _, _, _⟩) (v := ?_) ?_ ?_
      rotate_left
      · intro W hSw
        go_simp
        try with_reducible rfl
      try simp only [Act.put, List.setIfInBounds_toArray, List.set_cons_zero, List.set_cons_succ]
      refine tkH (i := 15) (oi := ⟨some 32, _, _, _, _, _⟩) (v := ?_) ?_ ?_
      rotate_left
      · intro W hSw
        go_simp
        try with_reducible rfl
      try simp only [Act.put, List.setIfInBounds_toArray, List.set_cons_zero, List.set_cons_succ]
      refine tkH (i := 16) (oi := ⟨some 33, _, _, _, _, _⟩) (v := .agg (vs).toArray) (fun W hSw => mid_yield rfl rfl (hSw.1.2) rfl (by rw [l1]; kernel_rfl)) ?_
      try simp only [Act.put, List.setIfInBounds_toArray, List.set_cons_zero, List.set_cons_succ]
      refine tkH (i := 17) (oi := ⟨some 34, _, _, _, _, _⟩) (v := ?_) ?_ ?_
      rotate_left
      · intro W hSw
        go_simp
        try with_reducible rfl
      try simp only [Act.put, List.setIfInBounds_toArray, List.set_cons_zero, List.set_cons_succ]
      refine tkH (i := 18) (oi := ⟨some 35, _, _, _, _, _⟩) (v := ?_) ?_ ?_
      rotate_left
      · intro W hSw
        go_simp
        try with_reducible rfl
      try simp only [Act.put, List.setIfInBounds_toArray, List.set_cons_zero, List.set_cons_succ]
      refine tkH (i := 19) (oi := ⟨some 36, _, _, _, _, _⟩) (v := ?_) ?_ ?_
      rotate_left
      · intro W hSw
        go_simp
        try with_reducible rfl
      try simp only [Act.put, List.setIfInBounds_toArray, List.set_cons_zero, List.set_cons_succ]
      refine tkH (i := 20) (oi := ⟨some 37, _, _, _, _, _⟩) (v := ?_) ?_ ?_
      rotate_left
      · intro W hSw
        go_simp
        try with_reducible rfl
      try simp only [Act.put, List.setIfInBounds_toArray, List.set_cons_zero, List.set_cons_succ]
      refine tkH (i := 21) (oi := ⟨some 38, _, _, _, _, _⟩) (v := .agg (us).toArray) (fun W hSw => mid_yield rfl rfl (hSw.2.2) rfl (by rw [l2]; kernel_rfl)) ?_
      try simp only [Act.put, List.setIfInBounds_toArray, List.set_cons_zero, List.set_cons_succ]
      refine wpAnyH_ready (rs := [22]) (by kernel_rfl) (by simp) ?_
      refine AllReadyH.cons (o := ⟨some 39, _, _, _, _, _⟩) rfl (fun K hK => ?_) AllReadyH.nil
      go_simp
      refine (H1.out _ (Below.refl _ _)).mono ?_
      rintro en w1 ⟨rfl, hb1⟩
      refine hK.out _ _ (⟨⟨range_below hHeld.1.1 (by assumption) hb1, range_below hHeld.1.2 (by assumption) hb1⟩, range_below hHeld.2.1 (by assumption) hb1, range_below hHeld.2.2 (by assumption) hb1⟩) (fun hHeld => ?_)
      clear hK K
      try simp only [Act.put, List.setIfInBounds_toArray, List.set_cons_zero, List.set_cons_succ]
      refine tkH (i := 23) (oi := ⟨some 40, _, _, _, _, _⟩) (v := ?_) ?_ ?_
      rotate_left
      · intro W hSw
        go_simp
        try with_reducible rfl
      try simp only [Act.put, List.setIfInBounds_toArray, List.set_cons_zero, List.set_cons_succ]
      refine tkH (i := 24) (oi := ⟨some 41, _, _, _, _, _⟩) (v := ?_) ?_ ?_
      rotate_left
      · intro W hSw
        go_simp
        try with_reducible rfl
      try simp only [Act.put, List.setIfInBounds_toArray, List.set_cons_zero, List.set_cons_succ]
      refine wpAnyH_done (by kernel_rfl) ?_ _
      go_wp2
      go_roundw
      case rel => exact ⟨k + 1, by omega, by go_num, by have := drewN_below hbw 1; exact this.trans (hb1.mono this.size)⟩
      case measure => simp [intOf] <;> omega
    · obtain rfl : k = xs.length := by omega
      go_wp2
      go_ret
      exact ⟨rfl, hbw⟩
set_option maxHeartbeats 4000000 in
theorem sameDraw_x {e : Dr} {va vb : List Value} (ha : Rds Tt w e.d va) (hb : Rds Tt w e.d vb) : Calls Tryz.prog 110 #[.agg va.toArray, .agg vb.toArray] w (YesB w) := by
  obtain ⟨A1, m1, c1, A2, m2, c2, A3, m3, c3, A4, m4, c4, A5, m5, c5, rfl, a1, a2, a3⟩ := dr_form ha
  obtain ⟨B1, k1, d1, B2, k2, d2, B3, k3, d3, B4, k4, d4, B5, k5, d5, rfl, e1, e2, e3⟩ := dr_form hb
  obtain ⟨p, q, y, u, v, ps, nm⟩ := e
  dsimp only at *
  generalize bt nm = x at *
  clear ha hb
  have b0 := (box_alloc w 59 #[.int .i64 p, .int .i64 q, .int .i64 y, .bool u.neg, .slice A1 m1 c1, .slice A2 m2 c2, .bool v.neg, .slice A3 m3 c3, .slice A4 m4 c4, .slice A5 m5 c5, .string x]).new (allocB (w.alloc (.cells #[.int .i64 p, .int .i64 q, .int .i64 y, .bool u.neg, .slice A1 m1 c1, .slice A2 m2 c2, .bool v.neg, .slice A3 m3 c3, .slice A4 m4 c4, .slice A5 m5 c5, .string x] 59)) (.cells #[.int .i64 p, .int .i64 q, .int .i64 y, .bool u.neg, .slice B1 k1 d1, .slice B2 k2 d2, .bool v.neg, .slice B3 k3 d3, .slice B4 k4 d4, .slice B5 k5 d5, .string x] 59))
  have b1 := box_alloc (w.alloc (.cells #[.int .i64 p, .int .i64 q, .int .i64 y, .bool u.neg, .slice A1 m1 c1, .slice A2 m2 c2, .bool v.neg, .slice A3 m3 c3, .slice A4 m4 c4, .slice A5 m5 c5, .string x] 59)) 59 #[.int .i64 p, .int .i64 q, .int .i64 y, .bool u.neg, .slice B1 k1 d1, .slice B2 k2 d2, .bool v.neg, .slice B3 k3 d3, .slice B4 k4 d4, .slice B5 k5 d5, .string x]
  have bU : Below w.heap.size w ((w.alloc (.cells #[.int .i64 p, .int .i64 q, .int .i64 y, .bool u.neg, .slice A1 m1 c1, .slice A2 m2 c2, .bool v.neg, .slice A3 m3 c3, .slice A4 m4 c4, .slice A5 m5 c5, .string x] 59)).alloc (.cells #[.int .i64 p, .int .i64 q, .int .i64 y, .bool u.neg, .slice B1 k1 d1, .slice B2 k2 d2, .bool v.neg, .slice B3 k3 d3, .slice B4 k4 d4, .slice B5 k5 d5, .string x] 59)) := (allocB w _).trans ((allocB _ _).mono (by simp))
  rw [show (w.alloc (.cells #[.int .i64 p, .int .i64 q, .int .i64 y, .bool u.neg, .slice A1 m1 c1, .slice A2 m2 c2, .bool v.neg, .slice A3 m3 c3, .slice A4 m4 c4, .slice A5 m5 c5, .string x] 59)).heap.size = w.heap.size + 1 by simp] at b1
  have HR1 : Hid (∀ W, Below w.heap.size w W → Calls Tryz.prog 70 #[.agg #[.bool u.neg, .slice A1 m1 c1, .slice A2 m2 c2], .agg #[.bool u.neg, .slice B1 k1 d1, .slice B2 k2 d2]] W (YesB W)) := fun W hW => sameRat_x (a1.new hW) (e1.new hW)
  have HR2 : Hid (∀ W, Below w.heap.size w W → Calls Tryz.prog 70 #[.agg #[.bool v.neg, .slice A3 m3 c3, .slice A4 m4 c4], .agg #[.bool v.neg, .slice B3 k3 d3, .slice B4 k4 d4]] W (YesB W)) := fun W hW => sameRat_x (a2.new hW) (e2.new hW)
  have HX : Hid (∀ W, Below w.heap.size w W → Calls Tryz.prog 71 #[.slice A5 m5 c5, .slice B5 k5 d5] W (YesB W)) := fun W hW => exprs_same (a3.new hW) (e3.new hW)
  clear a1 a2 a3 e1 e2 e3
  go_enter Tryz.func110, Tryz.ntmps110
  go_wp2_with fail
  generalize ((w.alloc (.cells #[.int .i64 p, .int .i64 q, .int .i64 y, .bool u.neg, .slice A1 m1 c1, .slice A2 m2 c2, .bool v.neg, .slice A3 m3 c3, .slice A4 m4 c4, .slice A5 m5 c5, .string x] 59)).alloc (.cells #[.int .i64 p, .int .i64 q, .int .i64 y, .bool u.neg, .slice B1 k1 d1, .slice B2 k2 d2, .bool v.neg, .slice B3 k3 d3, .slice B4 k4 d4, .slice B5 k5 d5, .string x] 59)) = U at *
  refine (HR1.out U bU).mono ?_
  rintro en w1 ⟨rfl, hb1⟩
  have bW := bU.trans (hb1.mono bU.size)
  replace b0 := b0.new hb1
  replace b1 := b1.new hb1
  have h0 : w1.rangeAt w.heap.size 6 [.bool v.neg, .slice A3 m3 c3, .slice A4 m4 c4] := World.rangeAt_of_block b0 6 3
  have h1 : w1.rangeAt (w.heap.size + 1) 6 [.bool v.neg, .slice B3 k3 d3, .slice B4 k4 d4] := World.rangeAt_of_block b1 6 3
  go_wp2_with (first | (refine wpList_load_midG rfl 50 (.tmp 32) rfl w.heap.size 6 rfl [.bool v.neg, .slice A3 m3 c3, .slice A4 m4 c4] (.struct _) h0 rfl rfl (by kernel_rfl) ?_) | (refine wpList_load_midG rfl 50 (.tmp 34) rfl (w.heap.size + 1) 6 rfl [.bool v.neg, .slice B3 k3 d3, .slice B4 k4 d4] (.struct _) h1 rfl rfl (by kernel_rfl) ?_))
  refine (HR2.out w1 bW).mono ?_
  rintro en w2 ⟨rfl, hb2⟩
  have bW2 := bW.trans (hb2.mono bW.size)
  have p3 := box_cell (b0.new hb2) 10 _ rfl
  have q3 := box_cell (b1.new hb2) 10 _ rfl
  have p4 := box_cell (b0.new hb2) 9 _ rfl
  have q4 := box_cell (b1.new hb2) 9 _ rfl
  clear b0 b1 h0 h1
  go_wp2_with fail
  refine (HX.out w2 bW2).mono ?_
  rintro en w3 ⟨rfl, hb3⟩
  go_wp2
  go_ret
  exact ⟨rfl, bW2.trans (hb3.mono bW2.size)⟩
end Ps
end Go.Proofs.YtggdhgppclnckaaGreatDoor

namespace Go.Proofs.YtggdhgppclnckaaGreatDoor
open Go Go.RowKit Lx
set_option maxRecDepth 20000

namespace Ps
variable {w : World} {A B : Option Addr} {m c k d : Nat}
theorem range_row {w : World} {g o k : Nat} {vs : List Value} {cs : Array Value} (h : w.rangeAt g o vs) (hk : g ≠ k) : (w.setRow k cs).rangeAt g o vs := range_keep h (setRow_other w k g cs hk)
def EqS (n : Nat) : Prop := ∀ xs : List St, SizeOf.sizeOf xs < n → ∀ (w : World) (A : Option Addr) (m c : Nat) (B : Option Addr) (k d : Nat), Rd Tt w (.l 25 (dsS xs)) (.slice A m c) → Rd Tt w (.l 25 (dsS xs)) (.slice B k d) → Calls Tryz.prog 74 #[.slice A m c, .slice B k d] w (YesB w)
set_option maxHeartbeats 16000000 in
theorem sameStmts_step {n : Nat} (hE : EqS n) : EqS (n + 1) := by
  intro xs hsz w A m c B k d ha hb
  rw [dsS_flat] at ha hb
  obtain ⟨rfl, hm, ea⟩ := ha.elem St.d_len (by decide)
  obtain ⟨rfl, _, eb⟩ := hb.elem St.d_len (by decide)
  unfold maxLen at hm
  have HA := Lib.hid ea
  have HB := Lib.hid eb
  have HE := Lib.hid hE
  have HX : Hid (∀ k, (h : k < xs.length) → SizeOf.sizeOf xs[k] < n + 1) := fun k h => by
    have := List.sizeOf_lt_of_mem (List.getElem_mem h)
    omega
  clear hE hsz
  clear ea eb ha hb
  go_enter Tryz.func74, Tryz.ntmps74
  go_wp2
  go_loopw [5] (fun iv wr => ∃ k : Nat, k ≤ xs.length ∧ iv = .int .i64 k ∧ Below w.heap.size w wr) (fun iv _ => xs.length - (intOf iv).toNat)
  case atStart => exact ⟨0, Nat.zero_le _, rfl, Below.refl _ _⟩
  case round =>
    obtain ⟨k, hk, rfl, hbw⟩ := hrel
    by_cases hkn : k < xs.length
    · obtain ⟨g1, o1, vs, rfl, z1, r1, d1⟩ := HA.out k _ (List.getElem?_eq_getElem hkn)
      obtain ⟨g2, o2, us, rfl, z2, r2, d2⟩ := HB.out k _ (List.getElem?_eq_getElem hkn)
      have l1 : vs.length = 25 := by rw [← d1.len]; exact St.d_len _
      have l2 : us.length = 25 := by rw [← d2.len]; exact St.d_len _
      have os1 := d1.all
      have os2 := d2.all
      have hzz := HX.out k hkn
      generalize xs[k] = e at *
      obtain ⟨kk, nm, fn, ii, ex, ags, dr, th, el⟩ := e
      have hth : SizeOf.sizeOf th < n := by simp only [St.mk.sizeOf_spec] at hzz; omega
      have hel : SizeOf.sizeOf el < n := by simp only [St.mk.sizeOf_spec] at hzz; omega
      obtain ⟨e0, e1, e2, e3, e4, e5, e6, C1, m1, c1, j0, j1, j2, j3, j4, j5, j6, j7, j8, j9, j10, C2, m2, c2, C3, m3, c3, rfl, t1, t2, t3, t4, t5⟩ := st_form d1
      obtain ⟨f0, f1, f2, f3, f4, f5, f6, E1, k1, b1, n0, n1, n2, n3, n4, n5, n6, n7, n8, n9, n10, E2, k2, b2, E3, k3, b3, rfl, u1, u2, u3, u4, u5⟩ := st_form d2
      have H1 : Hid (∀ W, Below w.heap.size w W → Calls Tryz.prog 42 #[.agg #[e0, e1, e2, e3, e4, e5, e6], .agg #[f0, f1, f2, f3, f4, f5, f6]] W (YesB W)) := fun W hW => sameExpr_x (t1.new hW) (u1.new hW)
      have H2 : Hid (∀ W, Below w.heap.size w W → Calls Tryz.prog 71 #[.slice C1 m1 c1, .slice E1 k1 b1] W (YesB W)) := fun W hW => exprs_same (t2.new hW) (u2.new hW)
      have H3 : Hid (∀ W, Below w.heap.size w W → Calls Tryz.prog 110 #[.agg #[j0, j1, j2, j3, j4, j5, j6, j7, j8, j9, j10], .agg #[n0, n1, n2, n3, n4, n5, n6, n7, n8, n9, n10]] W (YesB W)) := fun W hW => sameDraw_x (t3.new hW) (u3.new hW)
      have H4 : Hid (∀ W, Below w.heap.size w W → Calls Tryz.prog 74 #[.slice C2 m2 c2, .slice E2 k2 b2] W (YesB W)) := fun W hW => HE.out _ hth W _ _ _ _ _ _ (t4.new hW) (u4.new hW)
      have H5 : Hid (∀ W, Below w.heap.size w W → Calls Tryz.prog 74 #[.slice C3 m3 c3, .slice E3 k3 b3] W (YesB W)) := fun W hW => HE.out _ hel W _ _ _ _ _ _ (t5.new hW) (u5.new hW)
      generalize bt nm = x at *
      generalize bt fn = y at *
      clear d1 d2 t1 t2 t3 t4 t5 u1 u2 u3 u4 u5 HA HB HE HX hth hel hzz
      replace r1 := range_below r1 z1 hbw
      replace r2 := range_below r2 z2 hbw
      have y1 : g1 < wr.drew.heap.size := Nat.lt_of_lt_of_le z1 hbw.size
      have y2 : g2 < wr.drew.heap.size := Nat.lt_of_lt_of_le z2 hbw.size
      have hkn' : (k : Int) < (xs.length : Int) := by omega
      generalize xs.length = m at *
      go_wp2_with fail
      refine wp_region_held_drew (S := fun W => W.rangeAt g1 (o1 + k * 25) [.int .i64 kk, .string x, .string y, .int .i64 ii, e0, e1, e2, e3, e4, e5, e6, .slice C1 m1 c1, j0, j1, j2, j3, j4, j5, j6, j7, j8, j9, j10, .slice C2 m2 c2, .slice C3 m3 c3] ∧ W.rangeAt g2 (o2 + k * 25) [.int .i64 kk, .string x, .string y, .int .i64 ii, f0, f1, f2, f3, f4, f5, f6, .slice E1 k1 b1, n0, n1, n2, n3, n4, n5, n6, n7, n8, n9, n10, .slice E2 k2 b2, .slice E3 k3 b3]) (by kernel_rfl) ?_ (fun hHeld => ?_)
      · exact ⟨range_keep r1 rfl, range_keep r2 rfl⟩
      refine tkH (i := 0) (oi := ⟨some 19, _, _, _, _, _⟩) (v := ?_) ?_ ?_
      rotate_left
      · intro W hSw
        go_simp
        try with_reducible rfl
      try simp only [Act.put, List.setIfInBounds_toArray, List.set_cons_zero, List.set_cons_succ]
      refine tkH (i := 1) (oi := ⟨some 20, _, _, _, _, _⟩) (v := ?_) ?_ ?_
      rotate_left
      · intro W hSw
        go_simp
        try with_reducible rfl
      try simp only [Act.put, List.setIfInBounds_toArray, List.set_cons_zero, List.set_cons_succ]
      refine tkH (i := 2) (oi := ⟨some 21, _, _, _, _, _⟩) (v := ?_) ?_ ?_
      rotate_left
      · intro W hSw
        go_simp
        try with_reducible rfl
      try simp only [Act.put, List.setIfInBounds_toArray, List.set_cons_zero, List.set_cons_succ]
      refine tkH (i := 3) (oi := ⟨some 22, _, _, _, _, _⟩) (v := .agg #[.int .i64 kk, .string x, .string y, .int .i64 ii, e0, e1, e2, e3, e4, e5, e6, .slice C1 m1 c1, j0, j1, j2, j3, j4, j5, j6, j7, j8, j9, j10, .slice C2 m2 c2, .slice C3 m3 c3]) (fun W hSw => mid_yield rfl rfl (hSw.1) rfl (by rw [l1]; kernel_rfl)) ?_
      try simp only [Act.put, List.setIfInBounds_toArray, List.set_cons_zero, List.set_cons_succ]
      refine tkH (i := 4) (oi := ⟨some 23, _, _, _, _, _⟩) (v := ?_) ?_ ?_
      rotate_left
      · intro W hSw
        go_simp
        try with_reducible rfl
      try simp only [Act.put, List.setIfInBounds_toArray, List.set_cons_zero, List.set_cons_succ]
      refine tkH (i := 5) (oi := ⟨some 24, _, _, _, _, _⟩) (v := ?_) ?_ ?_
      rotate_left
      · intro W hSw
        go_simp
        try with_reducible rfl
      try simp only [Act.put, List.setIfInBounds_toArray, List.set_cons_zero, List.set_cons_succ]
      refine tkH (i := 6) (oi := ⟨some 25, _, _, _, _, _⟩) (v := ?_) ?_ ?_
      rotate_left
      · intro W hSw
        go_simp
        try with_reducible rfl
      try simp only [Act.put, List.setIfInBounds_toArray, List.set_cons_zero, List.set_cons_succ]
      refine tkH (i := 7) (oi := ⟨some 26, _, _, _, _, _⟩) (v := .agg #[.int .i64 kk, .string x, .string y, .int .i64 ii, f0, f1, f2, f3, f4, f5, f6, .slice E1 k1 b1, n0, n1, n2, n3, n4, n5, n6, n7, n8, n9, n10, .slice E2 k2 b2, .slice E3 k3 b3]) (fun W hSw => mid_yield rfl rfl (hSw.2) rfl (by rw [l2]; kernel_rfl)) ?_
      try simp only [Act.put, List.setIfInBounds_toArray, List.set_cons_zero, List.set_cons_succ]
      refine wpAnyH_ready (rs := [8, 9]) (by kernel_rfl) (by simp) ?_
      refine AllReadyH.cons (o := ⟨some 6, _, _, _, _, _⟩) rfl (fun K hK => ?_) (AllReadyH.cons (o := ⟨some 7, _, _, _, _, _⟩) rfl (fun K hK => ?_) (AllReadyH.nil))
      · go_simp
        refine hK.out _ _ (⟨range_below hHeld.1 (by first | exact y1 | (simp; exact Nat.lt_succ_of_lt y1)) (allocB _ _), range_below hHeld.2 (by first | exact y2 | (simp; exact Nat.lt_succ_of_lt y2)) (allocB _ _)⟩) (fun hHeld => ?_)
        clear hK K
        try simp only [Act.put, List.setIfInBounds_toArray, List.set_cons_zero, List.set_cons_succ]
        try simp only [Act.put, List.setIfInBounds_toArray, List.set_cons_zero, List.set_cons_succ]
        refine wpAnyH_ready (rs := [9]) (by kernel_rfl) (by simp) ?_
        refine AllReadyH.cons (o := ⟨some 7, _, _, _, _, _⟩) rfl (fun K hK => ?_) AllReadyH.nil
        go_simp
        refine hK.out _ _ (⟨range_below hHeld.1 (by first | exact y1 | (simp; exact Nat.lt_succ_of_lt y1)) (allocB _ _), range_below hHeld.2 (by first | exact y2 | (simp; exact Nat.lt_succ_of_lt y2)) (allocB _ _)⟩) (fun hHeld => ?_)
        clear hK K
        try simp only [Act.put, List.setIfInBounds_toArray, List.set_cons_zero, List.set_cons_succ]
        have q1 := ((box_alloc wr 61 #[.int .i64 0, .string ⟨#[]⟩, .string ⟨#[]⟩, .int .i64 0, .int .i64 0, .int .i64 0, .bool false, .slice none 0 0, .slice none 0 0, .string ⟨#[]⟩, .slice none 0 0, .slice none 0 0, .int .i64 0, .int .i64 0, .int .i64 0, .bool false, .slice none 0 0, .slice none 0 0, .bool false, .slice none 0 0, .slice none 0 0, .slice none 0 0, .string ⟨#[]⟩, .slice none 0 0, .slice none 0 0]).new (allocB (wr.alloc (.cells #[.int .i64 0, .string ⟨#[]⟩, .string ⟨#[]⟩, .int .i64 0, .int .i64 0, .int .i64 0, .bool false, .slice none 0 0, .slice none 0 0, .string ⟨#[]⟩, .slice none 0 0, .slice none 0 0, .int .i64 0, .int .i64 0, .int .i64 0, .bool false, .slice none 0 0, .slice none 0 0, .bool false, .slice none 0 0, .slice none 0 0, .slice none 0 0, .string ⟨#[]⟩, .slice none 0 0, .slice none 0 0] 61)) (.cells #[.int .i64 0, .string ⟨#[]⟩, .string ⟨#[]⟩, .int .i64 0, .int .i64 0, .int .i64 0, .bool false, .slice none 0 0, .slice none 0 0, .string ⟨#[]⟩, .slice none 0 0, .slice none 0 0, .int .i64 0, .int .i64 0, .int .i64 0, .bool false, .slice none 0 0, .slice none 0 0, .bool false, .slice none 0 0, .slice none 0 0, .slice none 0 0, .string ⟨#[]⟩, .slice none 0 0, .slice none 0 0] 61))).drew
        have q2 := (box_alloc (wr.alloc (.cells #[.int .i64 0, .string ⟨#[]⟩, .string ⟨#[]⟩, .int .i64 0, .int .i64 0, .int .i64 0, .bool false, .slice none 0 0, .slice none 0 0, .string ⟨#[]⟩, .slice none 0 0, .slice none 0 0, .int .i64 0, .int .i64 0, .int .i64 0, .bool false, .slice none 0 0, .slice none 0 0, .bool false, .slice none 0 0, .slice none 0 0, .slice none 0 0, .string ⟨#[]⟩, .slice none 0 0, .slice none 0 0] 61)) 61 #[.int .i64 0, .string ⟨#[]⟩, .string ⟨#[]⟩, .int .i64 0, .int .i64 0, .int .i64 0, .bool false, .slice none 0 0, .slice none 0 0, .string ⟨#[]⟩, .slice none 0 0, .slice none 0 0, .int .i64 0, .int .i64 0, .int .i64 0, .bool false, .slice none 0 0, .slice none 0 0, .bool false, .slice none 0 0, .slice none 0 0, .slice none 0 0, .string ⟨#[]⟩, .slice none 0 0, .slice none 0 0]).drew
        rw [show (wr.alloc (.cells #[.int .i64 0, .string ⟨#[]⟩, .string ⟨#[]⟩, .int .i64 0, .int .i64 0, .int .i64 0, .bool false, .slice none 0 0, .slice none 0 0, .string ⟨#[]⟩, .slice none 0 0, .slice none 0 0, .int .i64 0, .int .i64 0, .int .i64 0, .bool false, .slice none 0 0, .slice none 0 0, .bool false, .slice none 0 0, .slice none 0 0, .slice none 0 0, .string ⟨#[]⟩, .slice none 0 0, .slice none 0 0] 61)).heap.size = wr.heap.size + 1 by simp] at q2
        have hB2 : Below wr.heap.size wr ((wr.alloc (.cells #[.int .i64 0, .string ⟨#[]⟩, .string ⟨#[]⟩, .int .i64 0, .int .i64 0, .int .i64 0, .bool false, .slice none 0 0, .slice none 0 0, .string ⟨#[]⟩, .slice none 0 0, .slice none 0 0, .int .i64 0, .int .i64 0, .int .i64 0, .bool false, .slice none 0 0, .slice none 0 0, .bool false, .slice none 0 0, .slice none 0 0, .slice none 0 0, .string ⟨#[]⟩, .slice none 0 0, .slice none 0 0] 61)).alloc (.cells #[.int .i64 0, .string ⟨#[]⟩, .string ⟨#[]⟩, .int .i64 0, .int .i64 0, .int .i64 0, .bool false, .slice none 0 0, .slice none 0 0, .string ⟨#[]⟩, .slice none 0 0, .slice none 0 0, .int .i64 0, .int .i64 0, .int .i64 0, .bool false, .slice none 0 0, .slice none 0 0, .bool false, .slice none 0 0, .slice none 0 0, .slice none 0 0, .string ⟨#[]⟩, .slice none 0 0, .slice none 0 0] 61)).drew := drewN_below ((allocB wr _).trans ((allocB (wr.alloc (.cells #[.int .i64 0, .string ⟨#[]⟩, .string ⟨#[]⟩, .int .i64 0, .int .i64 0, .int .i64 0, .bool false, .slice none 0 0, .slice none 0 0, .string ⟨#[]⟩, .slice none 0 0, .slice none 0 0, .int .i64 0, .int .i64 0, .int .i64 0, .bool false, .slice none 0 0, .slice none 0 0, .bool false, .slice none 0 0, .slice none 0 0, .slice none 0 0, .string ⟨#[]⟩, .slice none 0 0, .slice none 0 0] 61)) _).mono (by simp))) 1
        replace y1 : g1 < wr.heap.size := y1
        replace y2 : g2 < wr.heap.size := y2
        generalize ((wr.alloc (.cells #[.int .i64 0, .string ⟨#[]⟩, .string ⟨#[]⟩, .int .i64 0, .int .i64 0, .int .i64 0, .bool false, .slice none 0 0, .slice none 0 0, .string ⟨#[]⟩, .slice none 0 0, .slice none 0 0, .int .i64 0, .int .i64 0, .int .i64 0, .bool false, .slice none 0 0, .slice none 0 0, .bool false, .slice none 0 0, .slice none 0 0, .slice none 0 0, .string ⟨#[]⟩, .slice none 0 0, .slice none 0 0] 61)).alloc (.cells #[.int .i64 0, .string ⟨#[]⟩, .string ⟨#[]⟩, .int .i64 0, .int .i64 0, .int .i64 0, .bool false, .slice none 0 0, .slice none 0 0, .string ⟨#[]⟩, .slice none 0 0, .slice none 0 0, .int .i64 0, .int .i64 0, .int .i64 0, .bool false, .slice none 0 0, .slice none 0 0, .bool false, .slice none 0 0, .slice none 0 0, .slice none 0 0, .string ⟨#[]⟩, .slice none 0 0, .slice none 0 0] 61)).drew = W2 at *
        have x6 := ((q1.set #[.int .i64 kk, .string x, .string y, .int .i64 ii, e0, e1, e2, e3, e4, e5, e6, .slice C1 m1 c1, j0, j1, j2, j3, j4, j5, j6, j7, j8, j9, j10, .slice C2 m2 c2, .slice C3 m3 c3]).other (j := (wr.heap.size + 1)) #[.int .i64 kk, .string x, .string y, .int .i64 ii, f0, f1, f2, f3, f4, f5, f6, .slice E1 k1 b1, n0, n1, n2, n3, n4, n5, n6, n7, n8, n9, n10, .slice E2 k2 b2, .slice E3 k3 b3] (by omega))
        have x7 := ((q2.other (j := wr.heap.size) #[.int .i64 kk, .string x, .string y, .int .i64 ii, e0, e1, e2, e3, e4, e5, e6, .slice C1 m1 c1, j0, j1, j2, j3, j4, j5, j6, j7, j8, j9, j10, .slice C2 m2 c2, .slice C3 m3 c3] (by omega)).set #[.int .i64 kk, .string x, .string y, .int .i64 ii, f0, f1, f2, f3, f4, f5, f6, .slice E1 k1 b1, n0, n1, n2, n3, n4, n5, n6, n7, n8, n9, n10, .slice E2 k2 b2, .slice E3 k3 b3])
        have hB4 : Below wr.heap.size wr ((W2.setRow wr.heap.size #[.int .i64 kk, .string x, .string y, .int .i64 ii, e0, e1, e2, e3, e4, e5, e6, .slice C1 m1 c1, j0, j1, j2, j3, j4, j5, j6, j7, j8, j9, j10, .slice C2 m2 c2, .slice C3 m3 c3]).setRow (wr.heap.size + 1) #[.int .i64 kk, .string x, .string y, .int .i64 ii, f0, f1, f2, f3, f4, f5, f6, .slice E1 k1 b1, n0, n1, n2, n3, n4, n5, n6, n7, n8, n9, n10, .slice E2 k2 b2, .slice E3 k3 b3]) := below_row (below_row hB2 (by omega) _) (by omega) _
        try simp only [Act.put, List.setIfInBounds_toArray, List.set_cons_zero, List.set_cons_succ]
        refine wpAnyH_ready (rs := [10]) (by kernel_rfl) (by simp) ?_
        refine AllReadyH.cons (o := ⟨none, _, _, _, _, _⟩) rfl (fun K hK => ?_) AllReadyH.nil
        rw [if_pos (by rfl)]
        refine wp_store_row 61 (.tmp 6) (.tmp 22) rfl (wr.heap.size) _ rfl rfl 61 _ (q1) (by kernel_rfl) rfl (os1) ?_
        refine hK.out _ _ (⟨range_row hHeld.1 (by omega), range_row hHeld.2 (by omega)⟩) (fun hHeld => ?_)
        clear hK K
        try simp only [Act.put]
        refine wpAnyH_ready (rs := [11]) (by kernel_rfl) (by simp) ?_
        refine AllReadyH.cons (o := ⟨none, _, _, _, _, _⟩) rfl (fun K hK => ?_) AllReadyH.nil
        rw [if_pos (by rfl)]
        refine wp_store_row 61 (.tmp 7) (.tmp 26) rfl ((wr.heap.size + 1)) _ rfl rfl 61 _ ((q2.other _ (by omega))) (by kernel_rfl) rfl (os2) ?_
        refine hK.out _ _ (⟨range_row hHeld.1 (by omega), range_row hHeld.2 (by omega)⟩) (fun hHeld => ?_)
        clear hK K
        try simp only [Act.put]
        refine wpAnyH_done (by kernel_rfl) ?_ _
        generalize (W2.setRow wr.heap.size #[.int .i64 kk, .string x, .string y, .int .i64 ii, e0, e1, e2, e3, e4, e5, e6, .slice C1 m1 c1, j0, j1, j2, j3, j4, j5, j6, j7, j8, j9, j10, .slice C2 m2 c2, .slice C3 m3 c3]).setRow (wr.heap.size + 1) #[.int .i64 kk, .string x, .string y, .int .i64 ii, f0, f1, f2, f3, f4, f5, f6, .slice E1 k1 b1, n0, n1, n2, n3, n4, n5, n6, n7, n8, n9, n10, .slice E2 k2 b2, .slice E3 k3 b3] = W4 at *
        clear hB2 q1 q2
        have hWW : Below w.heap.size w W4 := hbw.trans (hB4.mono hbw.size)
        have p0 := box_cell x6 0 _ rfl
        have q0 := box_cell x7 0 _ rfl
        have p1 := box_cell x6 1 _ rfl
        have q1 := box_cell x7 1 _ rfl
        have p2 := box_cell x6 2 _ rfl
        have q2 := box_cell x7 2 _ rfl
        have p3 := box_cell x6 3 _ rfl
        have q3 := box_cell x7 3 _ rfl
        have p4 := box_cell x6 4 _ rfl
        have q4 := box_cell x7 4 _ rfl
        have p5 := box_cell x6 5 _ rfl
        have q5 := box_cell x7 5 _ rfl
        have p6 := box_cell x6 6 _ rfl
        have q6 := box_cell x7 6 _ rfl
        have p7 := box_cell x6 7 _ rfl
        have q7 := box_cell x7 7 _ rfl
        have p8 := box_cell x6 8 _ rfl
        have q8 := box_cell x7 8 _ rfl
        have p9 := box_cell x6 9 _ rfl
        have q9 := box_cell x7 9 _ rfl
        have p10 := box_cell x6 10 _ rfl
        have q10 := box_cell x7 10 _ rfl
        clear hB4
        go_wp2_with fail
        refine (H1.out _ hWW).mono ?_
        rintro en W5 ⟨rfl, hc⟩
        replace x6 := x6.new hc
        replace x7 := x7.new hc
        replace hWW := hWW.trans (hc.mono hWW.size)
        clear p0 q0 p1 q1 p2 q2 p3 q3 p4 q4 p5 q5 p6 q6 p7 q7 p8 q8 p9 q9 p10 q10 hc
        have p11 := box_cell x6 11 _ rfl
        have q11 := box_cell x7 11 _ rfl
        go_wp2_with fail
        refine (H2.out _ hWW).mono ?_
        rintro en W6 ⟨rfl, hc⟩
        replace x6 := x6.new hc
        replace x7 := x7.new hc
        replace hWW := hWW.trans (hc.mono hWW.size)
        clear p11 q11 hc
        have p12 := box_cell x6 12 _ rfl
        have q12 := box_cell x7 12 _ rfl
        have p13 := box_cell x6 13 _ rfl
        have q13 := box_cell x7 13 _ rfl
        have p14 := box_cell x6 14 _ rfl
        have q14 := box_cell x7 14 _ rfl
        have p15 := box_cell x6 15 _ rfl
        have q15 := box_cell x7 15 _ rfl
        have p16 := box_cell x6 16 _ rfl
        have q16 := box_cell x7 16 _ rfl
        have p17 := box_cell x6 17 _ rfl
        have q17 := box_cell x7 17 _ rfl
        have p18 := box_cell x6 18 _ rfl
        have q18 := box_cell x7 18 _ rfl
        have p19 := box_cell x6 19 _ rfl
        have q19 := box_cell x7 19 _ rfl
        have p20 := box_cell x6 20 _ rfl
        have q20 := box_cell x7 20 _ rfl
        have p21 := box_cell x6 21 _ rfl
        have q21 := box_cell x7 21 _ rfl
        have p22 := box_cell x6 22 _ rfl
        have q22 := box_cell x7 22 _ rfl
        go_wp2_with fail
        refine (H3.out _ hWW).mono ?_
        rintro en W7 ⟨rfl, hc⟩
        replace x6 := x6.new hc
        replace x7 := x7.new hc
        replace hWW := hWW.trans (hc.mono hWW.size)
        clear p12 q12 p13 q13 p14 q14 p15 q15 p16 q16 p17 q17 p18 q18 p19 q19 p20 q20 p21 q21 p22 q22 hc
        have p23 := box_cell x6 23 _ rfl
        have q23 := box_cell x7 23 _ rfl
        go_wp2_with fail
        refine (H4.out _ hWW).mono ?_
        rintro en W8 ⟨rfl, hc⟩
        replace x6 := x6.new hc
        replace x7 := x7.new hc
        replace hWW := hWW.trans (hc.mono hWW.size)
        clear p23 q23 hc
        have p24 := box_cell x6 24 _ rfl
        have q24 := box_cell x7 24 _ rfl
        go_wp2_with fail
        refine (H5.out _ hWW).mono ?_
        rintro en W9 ⟨rfl, hc⟩
        replace x6 := x6.new hc
        replace x7 := x7.new hc
        replace hWW := hWW.trans (hc.mono hWW.size)
        clear p24 q24 hc
        clear x6 x7
        go_wp2
        go_roundw
        case rel => exact ⟨k + 1, by omega, by go_num, hWW⟩
        case measure => simp [intOf] <;> omega
      · go_simp
        refine hK.out _ _ (⟨range_below hHeld.1 (by first | exact y1 | (simp; exact Nat.lt_succ_of_lt y1)) (allocB _ _), range_below hHeld.2 (by first | exact y2 | (simp; exact Nat.lt_succ_of_lt y2)) (allocB _ _)⟩) (fun hHeld => ?_)
        clear hK K
        try simp only [Act.put, List.setIfInBounds_toArray, List.set_cons_zero, List.set_cons_succ]
        try simp only [Act.put, List.setIfInBounds_toArray, List.set_cons_zero, List.set_cons_succ]
        refine wpAnyH_ready (rs := [8]) (by kernel_rfl) (by simp) ?_
        refine AllReadyH.cons (o := ⟨some 6, _, _, _, _, _⟩) rfl (fun K hK => ?_) AllReadyH.nil
        go_simp
        refine hK.out _ _ (⟨range_below hHeld.1 (by first | exact y1 | (simp; exact Nat.lt_succ_of_lt y1)) (allocB _ _), range_below hHeld.2 (by first | exact y2 | (simp; exact Nat.lt_succ_of_lt y2)) (allocB _ _)⟩) (fun hHeld => ?_)
        clear hK K
        try simp only [Act.put, List.setIfInBounds_toArray, List.set_cons_zero, List.set_cons_succ]
        have q1 := ((box_alloc wr 61 #[.int .i64 0, .string ⟨#[]⟩, .string ⟨#[]⟩, .int .i64 0, .int .i64 0, .int .i64 0, .bool false, .slice none 0 0, .slice none 0 0, .string ⟨#[]⟩, .slice none 0 0, .slice none 0 0, .int .i64 0, .int .i64 0, .int .i64 0, .bool false, .slice none 0 0, .slice none 0 0, .bool false, .slice none 0 0, .slice none 0 0, .slice none 0 0, .string ⟨#[]⟩, .slice none 0 0, .slice none 0 0]).new (allocB (wr.alloc (.cells #[.int .i64 0, .string ⟨#[]⟩, .string ⟨#[]⟩, .int .i64 0, .int .i64 0, .int .i64 0, .bool false, .slice none 0 0, .slice none 0 0, .string ⟨#[]⟩, .slice none 0 0, .slice none 0 0, .int .i64 0, .int .i64 0, .int .i64 0, .bool false, .slice none 0 0, .slice none 0 0, .bool false, .slice none 0 0, .slice none 0 0, .slice none 0 0, .string ⟨#[]⟩, .slice none 0 0, .slice none 0 0] 61)) (.cells #[.int .i64 0, .string ⟨#[]⟩, .string ⟨#[]⟩, .int .i64 0, .int .i64 0, .int .i64 0, .bool false, .slice none 0 0, .slice none 0 0, .string ⟨#[]⟩, .slice none 0 0, .slice none 0 0, .int .i64 0, .int .i64 0, .int .i64 0, .bool false, .slice none 0 0, .slice none 0 0, .bool false, .slice none 0 0, .slice none 0 0, .slice none 0 0, .string ⟨#[]⟩, .slice none 0 0, .slice none 0 0] 61))).drew
        have q2 := (box_alloc (wr.alloc (.cells #[.int .i64 0, .string ⟨#[]⟩, .string ⟨#[]⟩, .int .i64 0, .int .i64 0, .int .i64 0, .bool false, .slice none 0 0, .slice none 0 0, .string ⟨#[]⟩, .slice none 0 0, .slice none 0 0, .int .i64 0, .int .i64 0, .int .i64 0, .bool false, .slice none 0 0, .slice none 0 0, .bool false, .slice none 0 0, .slice none 0 0, .slice none 0 0, .string ⟨#[]⟩, .slice none 0 0, .slice none 0 0] 61)) 61 #[.int .i64 0, .string ⟨#[]⟩, .string ⟨#[]⟩, .int .i64 0, .int .i64 0, .int .i64 0, .bool false, .slice none 0 0, .slice none 0 0, .string ⟨#[]⟩, .slice none 0 0, .slice none 0 0, .int .i64 0, .int .i64 0, .int .i64 0, .bool false, .slice none 0 0, .slice none 0 0, .bool false, .slice none 0 0, .slice none 0 0, .slice none 0 0, .string ⟨#[]⟩, .slice none 0 0, .slice none 0 0]).drew
        rw [show (wr.alloc (.cells #[.int .i64 0, .string ⟨#[]⟩, .string ⟨#[]⟩, .int .i64 0, .int .i64 0, .int .i64 0, .bool false, .slice none 0 0, .slice none 0 0, .string ⟨#[]⟩, .slice none 0 0, .slice none 0 0, .int .i64 0, .int .i64 0, .int .i64 0, .bool false, .slice none 0 0, .slice none 0 0, .bool false, .slice none 0 0, .slice none 0 0, .slice none 0 0, .string ⟨#[]⟩, .slice none 0 0, .slice none 0 0] 61)).heap.size = wr.heap.size + 1 by simp] at q2
        have hB2 : Below wr.heap.size wr ((wr.alloc (.cells #[.int .i64 0, .string ⟨#[]⟩, .string ⟨#[]⟩, .int .i64 0, .int .i64 0, .int .i64 0, .bool false, .slice none 0 0, .slice none 0 0, .string ⟨#[]⟩, .slice none 0 0, .slice none 0 0, .int .i64 0, .int .i64 0, .int .i64 0, .bool false, .slice none 0 0, .slice none 0 0, .bool false, .slice none 0 0, .slice none 0 0, .slice none 0 0, .string ⟨#[]⟩, .slice none 0 0, .slice none 0 0] 61)).alloc (.cells #[.int .i64 0, .string ⟨#[]⟩, .string ⟨#[]⟩, .int .i64 0, .int .i64 0, .int .i64 0, .bool false, .slice none 0 0, .slice none 0 0, .string ⟨#[]⟩, .slice none 0 0, .slice none 0 0, .int .i64 0, .int .i64 0, .int .i64 0, .bool false, .slice none 0 0, .slice none 0 0, .bool false, .slice none 0 0, .slice none 0 0, .slice none 0 0, .string ⟨#[]⟩, .slice none 0 0, .slice none 0 0] 61)).drew := drewN_below ((allocB wr _).trans ((allocB (wr.alloc (.cells #[.int .i64 0, .string ⟨#[]⟩, .string ⟨#[]⟩, .int .i64 0, .int .i64 0, .int .i64 0, .bool false, .slice none 0 0, .slice none 0 0, .string ⟨#[]⟩, .slice none 0 0, .slice none 0 0, .int .i64 0, .int .i64 0, .int .i64 0, .bool false, .slice none 0 0, .slice none 0 0, .bool false, .slice none 0 0, .slice none 0 0, .slice none 0 0, .string ⟨#[]⟩, .slice none 0 0, .slice none 0 0] 61)) _).mono (by simp))) 1
        replace y1 : g1 < wr.heap.size := y1
        replace y2 : g2 < wr.heap.size := y2
        generalize ((wr.alloc (.cells #[.int .i64 0, .string ⟨#[]⟩, .string ⟨#[]⟩, .int .i64 0, .int .i64 0, .int .i64 0, .bool false, .slice none 0 0, .slice none 0 0, .string ⟨#[]⟩, .slice none 0 0, .slice none 0 0, .int .i64 0, .int .i64 0, .int .i64 0, .bool false, .slice none 0 0, .slice none 0 0, .bool false, .slice none 0 0, .slice none 0 0, .slice none 0 0, .string ⟨#[]⟩, .slice none 0 0, .slice none 0 0] 61)).alloc (.cells #[.int .i64 0, .string ⟨#[]⟩, .string ⟨#[]⟩, .int .i64 0, .int .i64 0, .int .i64 0, .bool false, .slice none 0 0, .slice none 0 0, .string ⟨#[]⟩, .slice none 0 0, .slice none 0 0, .int .i64 0, .int .i64 0, .int .i64 0, .bool false, .slice none 0 0, .slice none 0 0, .bool false, .slice none 0 0, .slice none 0 0, .slice none 0 0, .string ⟨#[]⟩, .slice none 0 0, .slice none 0 0] 61)).drew = W2 at *
        have x6 := ((q2.set #[.int .i64 kk, .string x, .string y, .int .i64 ii, e0, e1, e2, e3, e4, e5, e6, .slice C1 m1 c1, j0, j1, j2, j3, j4, j5, j6, j7, j8, j9, j10, .slice C2 m2 c2, .slice C3 m3 c3]).other (j := wr.heap.size) #[.int .i64 kk, .string x, .string y, .int .i64 ii, f0, f1, f2, f3, f4, f5, f6, .slice E1 k1 b1, n0, n1, n2, n3, n4, n5, n6, n7, n8, n9, n10, .slice E2 k2 b2, .slice E3 k3 b3] (by omega))
        have x7 := ((q1.other (j := (wr.heap.size + 1)) #[.int .i64 kk, .string x, .string y, .int .i64 ii, e0, e1, e2, e3, e4, e5, e6, .slice C1 m1 c1, j0, j1, j2, j3, j4, j5, j6, j7, j8, j9, j10, .slice C2 m2 c2, .slice C3 m3 c3] (by omega)).set #[.int .i64 kk, .string x, .string y, .int .i64 ii, f0, f1, f2, f3, f4, f5, f6, .slice E1 k1 b1, n0, n1, n2, n3, n4, n5, n6, n7, n8, n9, n10, .slice E2 k2 b2, .slice E3 k3 b3])
        have hB4 : Below wr.heap.size wr ((W2.setRow (wr.heap.size + 1) #[.int .i64 kk, .string x, .string y, .int .i64 ii, e0, e1, e2, e3, e4, e5, e6, .slice C1 m1 c1, j0, j1, j2, j3, j4, j5, j6, j7, j8, j9, j10, .slice C2 m2 c2, .slice C3 m3 c3]).setRow wr.heap.size #[.int .i64 kk, .string x, .string y, .int .i64 ii, f0, f1, f2, f3, f4, f5, f6, .slice E1 k1 b1, n0, n1, n2, n3, n4, n5, n6, n7, n8, n9, n10, .slice E2 k2 b2, .slice E3 k3 b3]) := below_row (below_row hB2 (by omega) _) (by omega) _
        try simp only [Act.put, List.setIfInBounds_toArray, List.set_cons_zero, List.set_cons_succ]
        refine wpAnyH_ready (rs := [10]) (by kernel_rfl) (by simp) ?_
        refine AllReadyH.cons (o := ⟨none, _, _, _, _, _⟩) rfl (fun K hK => ?_) AllReadyH.nil
        rw [if_pos (by rfl)]
        refine wp_store_row 61 (.tmp 6) (.tmp 22) rfl ((wr.heap.size + 1)) _ rfl rfl 61 _ (q2) (by kernel_rfl) rfl (os1) ?_
        refine hK.out _ _ (⟨range_row hHeld.1 (by omega), range_row hHeld.2 (by omega)⟩) (fun hHeld => ?_)
        clear hK K
        try simp only [Act.put]
        refine wpAnyH_ready (rs := [11]) (by kernel_rfl) (by simp) ?_
        refine AllReadyH.cons (o := ⟨none, _, _, _, _, _⟩) rfl (fun K hK => ?_) AllReadyH.nil
        rw [if_pos (by rfl)]
        refine wp_store_row 61 (.tmp 7) (.tmp 26) rfl (wr.heap.size) _ rfl rfl 61 _ ((q1.other _ (by omega))) (by kernel_rfl) rfl (os2) ?_
        refine hK.out _ _ (⟨range_row hHeld.1 (by omega), range_row hHeld.2 (by omega)⟩) (fun hHeld => ?_)
        clear hK K
        try simp only [Act.put]
        refine wpAnyH_done (by kernel_rfl) ?_ _
        generalize (W2.setRow (wr.heap.size + 1) #[.int .i64 kk, .string x, .string y, .int .i64 ii, e0, e1, e2, e3, e4, e5, e6, .slice C1 m1 c1, j0, j1, j2, j3, j4, j5, j6, j7, j8, j9, j10, .slice C2 m2 c2, .slice C3 m3 c3]).setRow wr.heap.size #[.int .i64 kk, .string x, .string y, .int .i64 ii, f0, f1, f2, f3, f4, f5, f6, .slice E1 k1 b1, n0, n1, n2, n3, n4, n5, n6, n7, n8, n9, n10, .slice E2 k2 b2, .slice E3 k3 b3] = W4 at *
        clear hB2 q1 q2
        have hWW : Below w.heap.size w W4 := hbw.trans (hB4.mono hbw.size)
        have p0 := box_cell x6 0 _ rfl
        have q0 := box_cell x7 0 _ rfl
        have p1 := box_cell x6 1 _ rfl
        have q1 := box_cell x7 1 _ rfl
        have p2 := box_cell x6 2 _ rfl
        have q2 := box_cell x7 2 _ rfl
        have p3 := box_cell x6 3 _ rfl
        have q3 := box_cell x7 3 _ rfl
        have p4 := box_cell x6 4 _ rfl
        have q4 := box_cell x7 4 _ rfl
        have p5 := box_cell x6 5 _ rfl
        have q5 := box_cell x7 5 _ rfl
        have p6 := box_cell x6 6 _ rfl
        have q6 := box_cell x7 6 _ rfl
        have p7 := box_cell x6 7 _ rfl
        have q7 := box_cell x7 7 _ rfl
        have p8 := box_cell x6 8 _ rfl
        have q8 := box_cell x7 8 _ rfl
        have p9 := box_cell x6 9 _ rfl
        have q9 := box_cell x7 9 _ rfl
        have p10 := box_cell x6 10 _ rfl
        have q10 := box_cell x7 10 _ rfl
        clear hB4
        go_wp2_with fail
        refine (H1.out _ hWW).mono ?_
        rintro en W5 ⟨rfl, hc⟩
        replace x6 := x6.new hc
        replace x7 := x7.new hc
        replace hWW := hWW.trans (hc.mono hWW.size)
        clear p0 q0 p1 q1 p2 q2 p3 q3 p4 q4 p5 q5 p6 q6 p7 q7 p8 q8 p9 q9 p10 q10 hc
        have p11 := box_cell x6 11 _ rfl
        have q11 := box_cell x7 11 _ rfl
        go_wp2_with fail
        refine (H2.out _ hWW).mono ?_
        rintro en W6 ⟨rfl, hc⟩
        replace x6 := x6.new hc
        replace x7 := x7.new hc
        replace hWW := hWW.trans (hc.mono hWW.size)
        clear p11 q11 hc
        have p12 := box_cell x6 12 _ rfl
        have q12 := box_cell x7 12 _ rfl
        have p13 := box_cell x6 13 _ rfl
        have q13 := box_cell x7 13 _ rfl
        have p14 := box_cell x6 14 _ rfl
        have q14 := box_cell x7 14 _ rfl
        have p15 := box_cell x6 15 _ rfl
        have q15 := box_cell x7 15 _ rfl
        have p16 := box_cell x6 16 _ rfl
        have q16 := box_cell x7 16 _ rfl
        have p17 := box_cell x6 17 _ rfl
        have q17 := box_cell x7 17 _ rfl
        have p18 := box_cell x6 18 _ rfl
        have q18 := box_cell x7 18 _ rfl
        have p19 := box_cell x6 19 _ rfl
        have q19 := box_cell x7 19 _ rfl
        have p20 := box_cell x6 20 _ rfl
        have q20 := box_cell x7 20 _ rfl
        have p21 := box_cell x6 21 _ rfl
        have q21 := box_cell x7 21 _ rfl
        have p22 := box_cell x6 22 _ rfl
        have q22 := box_cell x7 22 _ rfl
        go_wp2_with fail
        refine (H3.out _ hWW).mono ?_
        rintro en W7 ⟨rfl, hc⟩
        replace x6 := x6.new hc
        replace x7 := x7.new hc
        replace hWW := hWW.trans (hc.mono hWW.size)
        clear p12 q12 p13 q13 p14 q14 p15 q15 p16 q16 p17 q17 p18 q18 p19 q19 p20 q20 p21 q21 p22 q22 hc
        have p23 := box_cell x6 23 _ rfl
        have q23 := box_cell x7 23 _ rfl
        go_wp2_with fail
        refine (H4.out _ hWW).mono ?_
        rintro en W8 ⟨rfl, hc⟩
        replace x6 := x6.new hc
        replace x7 := x7.new hc
        replace hWW := hWW.trans (hc.mono hWW.size)
        clear p23 q23 hc
        have p24 := box_cell x6 24 _ rfl
        have q24 := box_cell x7 24 _ rfl
        go_wp2_with fail
        refine (H5.out _ hWW).mono ?_
        rintro en W9 ⟨rfl, hc⟩
        replace x6 := x6.new hc
        replace x7 := x7.new hc
        replace hWW := hWW.trans (hc.mono hWW.size)
        clear p24 q24 hc
        clear x6 x7
        go_wp2
        go_roundw
        case rel => exact ⟨k + 1, by omega, by go_num, hWW⟩
        case measure => simp [intOf] <;> omega
    · obtain rfl : k = xs.length := by omega
      go_wp2
      go_ret
      exact ⟨rfl, hbw⟩
theorem eqS : ∀ n, EqS n
  | 0 => fun _ h => absurd h (Nat.not_lt_zero _)
  | n + 1 => sameStmts_step (eqS n)
theorem sameStmts_x {xs : List St} (ha : Rd Tt w (.l 25 (dsS xs)) (.slice A m c)) (hb : Rd Tt w (.l 25 (dsS xs)) (.slice B k d)) : Calls Tryz.prog 74 #[.slice A m c, .slice B k d] w (YesB w) := eqS (SizeOf.sizeOf xs + 1) xs (Nat.lt_succ_self _) w A m c B k d ha hb
theorem Fu.d_len (e : Fu) : e.d.length = 5 := rfl
set_option maxHeartbeats 8000000 in
theorem sameFuncs_x {xs : List Fu} (ha : Rd Tt w (.l 5 (xs.flatMap Fu.d)) (.slice A m c)) (hb : Rd Tt w (.l 5 (xs.flatMap Fu.d)) (.slice B k d)) : Calls Tryz.prog 72 #[.slice A m c, .slice B k d] w (YesB w) := by
  obtain ⟨rfl, hm, ea⟩ := ha.elem Fu.d_len (by decide)
  obtain ⟨rfl, _, eb⟩ := hb.elem Fu.d_len (by decide)
  unfold maxLen at hm
  have HA := Lib.hid ea
  have HB := Lib.hid eb
  clear ea eb ha hb
  go_enter Tryz.func72, Tryz.ntmps72
  go_wp2
  go_loopw [5] (fun iv wr => ∃ k : Nat, k ≤ xs.length ∧ iv = .int .i64 k ∧ Below w.heap.size w wr) (fun iv _ => xs.length - (intOf iv).toNat)
  case atStart => exact ⟨0, Nat.zero_le _, rfl, Below.refl _ _⟩
  case round =>
    obtain ⟨k, hk, rfl, hbw⟩ := hrel
    by_cases hkn : k < xs.length
    · obtain ⟨g1, o1, vs, rfl, z1, r1, d1⟩ := HA.out k _ (List.getElem?_eq_getElem hkn)
      obtain ⟨g2, o2, us, rfl, z2, r2, d2⟩ := HB.out k _ (List.getElem?_eq_getElem hkn)
      generalize xs[k] = e at *
      have l1 : vs.length = 5 := by rw [← d1.len]; exact Fu.d_len _
      have l2 : us.length = 5 := by rw [← d2.len]; exact Fu.d_len _
      have os1 := d1.all
      have os2 := d2.all
      obtain ⟨nm, ags, vv, bd, rs⟩ := e
      obtain ⟨C1, m1, c1, C2, m2, c2, C3, m3, c3, rfl, t1, t2, t3⟩ := fu_form d1
      obtain ⟨E1, k1, f1, E2, k2, f2, E3, k3, f3, rfl, u1, u2, u3⟩ := fu_form d2
      have H1 : Hid (∀ W, Below w.heap.size w W → Calls Tryz.prog 73 #[.slice C1 m1 c1, .slice E1 k1 f1] W (YesB W)) := fun W hW => sameDecls_x (t1.new hW) (u1.new hW)
      have H2 : Hid (∀ W, Below w.heap.size w W → Calls Tryz.prog 73 #[.slice C2 m2 c2, .slice E2 k2 f2] W (YesB W)) := fun W hW => sameDecls_x (t2.new hW) (u2.new hW)
      have H3 : Hid (∀ W, Below w.heap.size w W → Calls Tryz.prog 74 #[.slice C3 m3 c3, .slice E3 k3 f3] W (YesB W)) := fun W hW => sameStmts_x (t3.new hW) (u3.new hW)
      generalize bt nm = x at *
      generalize bt rs = y at *
      clear d1 d2 t1 t2 t3 u1 u2 u3 HA HB
      replace r1 := range_below r1 z1 hbw
      replace r2 := range_below r2 z2 hbw
      have y1 : g1 < wr.drew.heap.size := Nat.lt_of_lt_of_le z1 hbw.size
      have y2 : g2 < wr.drew.heap.size := Nat.lt_of_lt_of_le z2 hbw.size
      have hkn' : (k : Int) < (xs.length : Int) := by omega
      generalize xs.length = m at *
      go_wp2_with fail
      refine wp_region_held_drew (S := fun W => W.rangeAt g1 (o1 + k * 5) [.string x, .slice C1 m1 c1, .slice C2 m2 c2, .slice C3 m3 c3, .string y] ∧ W.rangeAt g2 (o2 + k * 5) [.string x, .slice E1 k1 f1, .slice E2 k2 f2, .slice E3 k3 f3, .string y]) (by kernel_rfl) ?_ (fun hHeld => ?_)
      · exact ⟨range_keep r1 rfl, range_keep r2 rfl⟩
      refine tkH (i := 0) (oi := ⟨some 19, _, _, _, _, _⟩) (v := ?_) ?_ ?_
      rotate_left
      · intro W hSw
        go_simp
        try with_reducible rfl
      try simp only [Act.put, List.setIfInBounds_toArray, List.set_cons_zero, List.set_cons_succ]
      refine tkH (i := 1) (oi := ⟨some 20, _, _, _, _, _⟩) (v := ?_) ?_ ?_
      rotate_left
      · intro W hSw
        go_simp
        try with_reducible rfl
      try simp only [Act.put, List.setIfInBounds_toArray, List.set_cons_zero, List.set_cons_succ]
      refine tkH (i := 2) (oi := ⟨some 21, _, _, _, _, _⟩) (v := ?_) ?_ ?_
      rotate_left
      · intro W hSw
        go_simp
        try with_reducible rfl
      try simp only [Act.put, List.setIfInBounds_toArray, List.set_cons_zero, List.set_cons_succ]
      refine tkH (i := 3) (oi := ⟨some 22, _, _, _, _, _⟩) (v := .agg #[.string x, .slice C1 m1 c1, .slice C2 m2 c2, .slice C3 m3 c3, .string y]) (fun W hSw => mid_yield rfl rfl (hSw.1) rfl (by rw [l1]; kernel_rfl)) ?_
      try simp only [Act.put, List.setIfInBounds_toArray, List.set_cons_zero, List.set_cons_succ]
      refine tkH (i := 4) (oi := ⟨some 23, _, _, _, _, _⟩) (v := ?_) ?_ ?_
      rotate_left
      · intro W hSw
        go_simp
        try with_reducible rfl
      try simp only [Act.put, List.setIfInBounds_toArray, List.set_cons_zero, List.set_cons_succ]
      refine tkH (i := 5) (oi := ⟨some 24, _, _, _, _, _⟩) (v := ?_) ?_ ?_
      rotate_left
      · intro W hSw
        go_simp
        try with_reducible rfl
      try simp only [Act.put, List.setIfInBounds_toArray, List.set_cons_zero, List.set_cons_succ]
      refine tkH (i := 6) (oi := ⟨some 25, _, _, _, _, _⟩) (v := ?_) ?_ ?_
      rotate_left
      · intro W hSw
        go_simp
        try with_reducible rfl
      try simp only [Act.put, List.setIfInBounds_toArray, List.set_cons_zero, List.set_cons_succ]
      refine tkH (i := 7) (oi := ⟨some 26, _, _, _, _, _⟩) (v := .agg #[.string x, .slice E1 k1 f1, .slice E2 k2 f2, .slice E3 k3 f3, .string y]) (fun W hSw => mid_yield rfl rfl (hSw.2) rfl (by rw [l2]; kernel_rfl)) ?_
      try simp only [Act.put, List.setIfInBounds_toArray, List.set_cons_zero, List.set_cons_succ]
      refine wpAnyH_ready (rs := [8, 9]) (by kernel_rfl) (by simp) ?_
      refine AllReadyH.cons (o := ⟨some 6, _, _, _, _, _⟩) rfl (fun K hK => ?_) (AllReadyH.cons (o := ⟨some 7, _, _, _, _, _⟩) rfl (fun K hK => ?_) (AllReadyH.nil))
      · go_simp
        refine hK.out _ _ (⟨range_below hHeld.1 (by first | exact y1 | (simp; exact Nat.lt_succ_of_lt y1)) (allocB _ _), range_below hHeld.2 (by first | exact y2 | (simp; exact Nat.lt_succ_of_lt y2)) (allocB _ _)⟩) (fun hHeld => ?_)
        clear hK K
        try simp only [Act.put, List.setIfInBounds_toArray, List.set_cons_zero, List.set_cons_succ]
        try simp only [Act.put, List.setIfInBounds_toArray, List.set_cons_zero, List.set_cons_succ]
        refine wpAnyH_ready (rs := [9]) (by kernel_rfl) (by simp) ?_
        refine AllReadyH.cons (o := ⟨some 7, _, _, _, _, _⟩) rfl (fun K hK => ?_) AllReadyH.nil
        go_simp
        refine hK.out _ _ (⟨range_below hHeld.1 (by first | exact y1 | (simp; exact Nat.lt_succ_of_lt y1)) (allocB _ _), range_below hHeld.2 (by first | exact y2 | (simp; exact Nat.lt_succ_of_lt y2)) (allocB _ _)⟩) (fun hHeld => ?_)
        clear hK K
        try simp only [Act.put, List.setIfInBounds_toArray, List.set_cons_zero, List.set_cons_succ]
        have q1 := ((box_alloc wr 71 #[.string ⟨#[]⟩, .slice none 0 0, .slice none 0 0, .slice none 0 0, .string ⟨#[]⟩]).new (allocB (wr.alloc (.cells #[.string ⟨#[]⟩, .slice none 0 0, .slice none 0 0, .slice none 0 0, .string ⟨#[]⟩] 71)) (.cells #[.string ⟨#[]⟩, .slice none 0 0, .slice none 0 0, .slice none 0 0, .string ⟨#[]⟩] 71))).drew
        have q2 := (box_alloc (wr.alloc (.cells #[.string ⟨#[]⟩, .slice none 0 0, .slice none 0 0, .slice none 0 0, .string ⟨#[]⟩] 71)) 71 #[.string ⟨#[]⟩, .slice none 0 0, .slice none 0 0, .slice none 0 0, .string ⟨#[]⟩]).drew
        rw [show (wr.alloc (.cells #[.string ⟨#[]⟩, .slice none 0 0, .slice none 0 0, .slice none 0 0, .string ⟨#[]⟩] 71)).heap.size = wr.heap.size + 1 by simp] at q2
        have hB2 : Below wr.heap.size wr ((wr.alloc (.cells #[.string ⟨#[]⟩, .slice none 0 0, .slice none 0 0, .slice none 0 0, .string ⟨#[]⟩] 71)).alloc (.cells #[.string ⟨#[]⟩, .slice none 0 0, .slice none 0 0, .slice none 0 0, .string ⟨#[]⟩] 71)).drew := drewN_below ((allocB wr _).trans ((allocB (wr.alloc (.cells #[.string ⟨#[]⟩, .slice none 0 0, .slice none 0 0, .slice none 0 0, .string ⟨#[]⟩] 71)) _).mono (by simp))) 1
        replace y1 : g1 < wr.heap.size := y1
        replace y2 : g2 < wr.heap.size := y2
        generalize ((wr.alloc (.cells #[.string ⟨#[]⟩, .slice none 0 0, .slice none 0 0, .slice none 0 0, .string ⟨#[]⟩] 71)).alloc (.cells #[.string ⟨#[]⟩, .slice none 0 0, .slice none 0 0, .slice none 0 0, .string ⟨#[]⟩] 71)).drew = W2 at *
        have x6 := ((q1.set #[.string x, .slice C1 m1 c1, .slice C2 m2 c2, .slice C3 m3 c3, .string y]).other (j := (wr.heap.size + 1)) #[.string x, .slice E1 k1 f1, .slice E2 k2 f2, .slice E3 k3 f3, .string y] (by omega))
        have x7 := ((q2.other (j := wr.heap.size) #[.string x, .slice C1 m1 c1, .slice C2 m2 c2, .slice C3 m3 c3, .string y] (by omega)).set #[.string x, .slice E1 k1 f1, .slice E2 k2 f2, .slice E3 k3 f3, .string y])
        have hB4 : Below wr.heap.size wr ((W2.setRow wr.heap.size #[.string x, .slice C1 m1 c1, .slice C2 m2 c2, .slice C3 m3 c3, .string y]).setRow (wr.heap.size + 1) #[.string x, .slice E1 k1 f1, .slice E2 k2 f2, .slice E3 k3 f3, .string y]) := below_row (below_row hB2 (by omega) _) (by omega) _
        try simp only [Act.put, List.setIfInBounds_toArray, List.set_cons_zero, List.set_cons_succ]
        refine wpAnyH_ready (rs := [10]) (by kernel_rfl) (by simp) ?_
        refine AllReadyH.cons (o := ⟨none, _, _, _, _, _⟩) rfl (fun K hK => ?_) AllReadyH.nil
        rw [if_pos (by rfl)]
        refine wp_store_row 71 (.tmp 6) (.tmp 22) rfl (wr.heap.size) _ rfl rfl 71 _ (q1) (by kernel_rfl) rfl (os1) ?_
        refine hK.out _ _ (⟨range_row hHeld.1 (by omega), range_row hHeld.2 (by omega)⟩) (fun hHeld => ?_)
        clear hK K
        try simp only [Act.put]
        refine wpAnyH_ready (rs := [11]) (by kernel_rfl) (by simp) ?_
        refine AllReadyH.cons (o := ⟨none, _, _, _, _, _⟩) rfl (fun K hK => ?_) AllReadyH.nil
        rw [if_pos (by rfl)]
        refine wp_store_row 71 (.tmp 7) (.tmp 26) rfl ((wr.heap.size + 1)) _ rfl rfl 71 _ ((q2.other _ (by omega))) (by kernel_rfl) rfl (os2) ?_
        refine hK.out _ _ (⟨range_row hHeld.1 (by omega), range_row hHeld.2 (by omega)⟩) (fun hHeld => ?_)
        clear hK K
        try simp only [Act.put]
        refine wpAnyH_done (by kernel_rfl) ?_ _
        generalize (W2.setRow wr.heap.size #[.string x, .slice C1 m1 c1, .slice C2 m2 c2, .slice C3 m3 c3, .string y]).setRow (wr.heap.size + 1) #[.string x, .slice E1 k1 f1, .slice E2 k2 f2, .slice E3 k3 f3, .string y] = W4 at *
        clear hB2 q1 q2
        have hWW : Below w.heap.size w W4 := hbw.trans (hB4.mono hbw.size)
        have p0 := box_cell x6 0 _ rfl
        have q0 := box_cell x7 0 _ rfl
        have p4 := box_cell x6 4 _ rfl
        have q4 := box_cell x7 4 _ rfl
        have p1 := box_cell x6 1 _ rfl
        have q1 := box_cell x7 1 _ rfl
        clear hB4
        go_wp2_with fail
        refine (H1.out _ hWW).mono ?_
        rintro en W5 ⟨rfl, hc⟩
        replace x6 := x6.new hc
        replace x7 := x7.new hc
        replace hWW := hWW.trans (hc.mono hWW.size)
        clear p0 q0 p4 q4 p1 q1 hc
        have p2 := box_cell x6 2 _ rfl
        have q2 := box_cell x7 2 _ rfl
        go_wp2_with fail
        refine (H2.out _ hWW).mono ?_
        rintro en W6 ⟨rfl, hc⟩
        replace x6 := x6.new hc
        replace x7 := x7.new hc
        replace hWW := hWW.trans (hc.mono hWW.size)
        clear p2 q2 hc
        have p3 := box_cell x6 3 _ rfl
        have q3 := box_cell x7 3 _ rfl
        go_wp2_with fail
        refine (H3.out _ hWW).mono ?_
        rintro en W7 ⟨rfl, hc⟩
        replace x6 := x6.new hc
        replace x7 := x7.new hc
        replace hWW := hWW.trans (hc.mono hWW.size)
        clear p3 q3 hc
        clear x6 x7
        go_wp2
        go_roundw
        case rel => exact ⟨k + 1, by omega, by go_num, hWW⟩
        case measure => simp [intOf] <;> omega
      · go_simp
        refine hK.out _ _ (⟨range_below hHeld.1 (by first | exact y1 | (simp; exact Nat.lt_succ_of_lt y1)) (allocB _ _), range_below hHeld.2 (by first | exact y2 | (simp; exact Nat.lt_succ_of_lt y2)) (allocB _ _)⟩) (fun hHeld => ?_)
        clear hK K
        try simp only [Act.put, List.setIfInBounds_toArray, List.set_cons_zero, List.set_cons_succ]
        try simp only [Act.put, List.setIfInBounds_toArray, List.set_cons_zero, List.set_cons_succ]
        refine wpAnyH_ready (rs := [8]) (by kernel_rfl) (by simp) ?_
        refine AllReadyH.cons (o := ⟨some 6, _, _, _, _, _⟩) rfl (fun K hK => ?_) AllReadyH.nil
        go_simp
        refine hK.out _ _ (⟨range_below hHeld.1 (by first | exact y1 | (simp; exact Nat.lt_succ_of_lt y1)) (allocB _ _), range_below hHeld.2 (by first | exact y2 | (simp; exact Nat.lt_succ_of_lt y2)) (allocB _ _)⟩) (fun hHeld => ?_)
        clear hK K
        try simp only [Act.put, List.setIfInBounds_toArray, List.set_cons_zero, List.set_cons_succ]
        have q1 := ((box_alloc wr 71 #[.string ⟨#[]⟩, .slice none 0 0, .slice none 0 0, .slice none 0 0, .string ⟨#[]⟩]).new (allocB (wr.alloc (.cells #[.string ⟨#[]⟩, .slice none 0 0, .slice none 0 0, .slice none 0 0, .string ⟨#[]⟩] 71)) (.cells #[.string ⟨#[]⟩, .slice none 0 0, .slice none 0 0, .slice none 0 0, .string ⟨#[]⟩] 71))).drew
        have q2 := (box_alloc (wr.alloc (.cells #[.string ⟨#[]⟩, .slice none 0 0, .slice none 0 0, .slice none 0 0, .string ⟨#[]⟩] 71)) 71 #[.string ⟨#[]⟩, .slice none 0 0, .slice none 0 0, .slice none 0 0, .string ⟨#[]⟩]).drew
        rw [show (wr.alloc (.cells #[.string ⟨#[]⟩, .slice none 0 0, .slice none 0 0, .slice none 0 0, .string ⟨#[]⟩] 71)).heap.size = wr.heap.size + 1 by simp] at q2
        have hB2 : Below wr.heap.size wr ((wr.alloc (.cells #[.string ⟨#[]⟩, .slice none 0 0, .slice none 0 0, .slice none 0 0, .string ⟨#[]⟩] 71)).alloc (.cells #[.string ⟨#[]⟩, .slice none 0 0, .slice none 0 0, .slice none 0 0, .string ⟨#[]⟩] 71)).drew := drewN_below ((allocB wr _).trans ((allocB (wr.alloc (.cells #[.string ⟨#[]⟩, .slice none 0 0, .slice none 0 0, .slice none 0 0, .string ⟨#[]⟩] 71)) _).mono (by simp))) 1
        replace y1 : g1 < wr.heap.size := y1
        replace y2 : g2 < wr.heap.size := y2
        generalize ((wr.alloc (.cells #[.string ⟨#[]⟩, .slice none 0 0, .slice none 0 0, .slice none 0 0, .string ⟨#[]⟩] 71)).alloc (.cells #[.string ⟨#[]⟩, .slice none 0 0, .slice none 0 0, .slice none 0 0, .string ⟨#[]⟩] 71)).drew = W2 at *
        have x6 := ((q2.set #[.string x, .slice C1 m1 c1, .slice C2 m2 c2, .slice C3 m3 c3, .string y]).other (j := wr.heap.size) #[.string x, .slice E1 k1 f1, .slice E2 k2 f2, .slice E3 k3 f3, .string y] (by omega))
        have x7 := ((q1.other (j := (wr.heap.size + 1)) #[.string x, .slice C1 m1 c1, .slice C2 m2 c2, .slice C3 m3 c3, .string y] (by omega)).set #[.string x, .slice E1 k1 f1, .slice E2 k2 f2, .slice E3 k3 f3, .string y])
        have hB4 : Below wr.heap.size wr ((W2.setRow (wr.heap.size + 1) #[.string x, .slice C1 m1 c1, .slice C2 m2 c2, .slice C3 m3 c3, .string y]).setRow wr.heap.size #[.string x, .slice E1 k1 f1, .slice E2 k2 f2, .slice E3 k3 f3, .string y]) := below_row (below_row hB2 (by omega) _) (by omega) _
        try simp only [Act.put, List.setIfInBounds_toArray, List.set_cons_zero, List.set_cons_succ]
        refine wpAnyH_ready (rs := [10]) (by kernel_rfl) (by simp) ?_
        refine AllReadyH.cons (o := ⟨none, _, _, _, _, _⟩) rfl (fun K hK => ?_) AllReadyH.nil
        rw [if_pos (by rfl)]
        refine wp_store_row 71 (.tmp 6) (.tmp 22) rfl ((wr.heap.size + 1)) _ rfl rfl 71 _ (q2) (by kernel_rfl) rfl (os1) ?_
        refine hK.out _ _ (⟨range_row hHeld.1 (by omega), range_row hHeld.2 (by omega)⟩) (fun hHeld => ?_)
        clear hK K
        try simp only [Act.put]
        refine wpAnyH_ready (rs := [11]) (by kernel_rfl) (by simp) ?_
        refine AllReadyH.cons (o := ⟨none, _, _, _, _, _⟩) rfl (fun K hK => ?_) AllReadyH.nil
        rw [if_pos (by rfl)]
        refine wp_store_row 71 (.tmp 7) (.tmp 26) rfl (wr.heap.size) _ rfl rfl 71 _ ((q1.other _ (by omega))) (by kernel_rfl) rfl (os2) ?_
        refine hK.out _ _ (⟨range_row hHeld.1 (by omega), range_row hHeld.2 (by omega)⟩) (fun hHeld => ?_)
        clear hK K
        try simp only [Act.put]
        refine wpAnyH_done (by kernel_rfl) ?_ _
        generalize (W2.setRow (wr.heap.size + 1) #[.string x, .slice C1 m1 c1, .slice C2 m2 c2, .slice C3 m3 c3, .string y]).setRow wr.heap.size #[.string x, .slice E1 k1 f1, .slice E2 k2 f2, .slice E3 k3 f3, .string y] = W4 at *
        clear hB2 q1 q2
        have hWW : Below w.heap.size w W4 := hbw.trans (hB4.mono hbw.size)
        have p0 := box_cell x6 0 _ rfl
        have q0 := box_cell x7 0 _ rfl
        have p4 := box_cell x6 4 _ rfl
        have q4 := box_cell x7 4 _ rfl
        have p1 := box_cell x6 1 _ rfl
        have q1 := box_cell x7 1 _ rfl
        clear hB4
        go_wp2_with fail
        refine (H1.out _ hWW).mono ?_
        rintro en W5 ⟨rfl, hc⟩
        replace x6 := x6.new hc
        replace x7 := x7.new hc
        replace hWW := hWW.trans (hc.mono hWW.size)
        clear p0 q0 p4 q4 p1 q1 hc
        have p2 := box_cell x6 2 _ rfl
        have q2 := box_cell x7 2 _ rfl
        go_wp2_with fail
        refine (H2.out _ hWW).mono ?_
        rintro en W6 ⟨rfl, hc⟩
        replace x6 := x6.new hc
        replace x7 := x7.new hc
        replace hWW := hWW.trans (hc.mono hWW.size)
        clear p2 q2 hc
        have p3 := box_cell x6 3 _ rfl
        have q3 := box_cell x7 3 _ rfl
        go_wp2_with fail
        refine (H3.out _ hWW).mono ?_
        rintro en W7 ⟨rfl, hc⟩
        replace x6 := x6.new hc
        replace x7 := x7.new hc
        replace hWW := hWW.trans (hc.mono hWW.size)
        clear p3 q3 hc
        clear x6 x7
        go_wp2
        go_roundw
        case rel => exact ⟨k + 1, by omega, by go_num, hWW⟩
        case measure => simp [intOf] <;> omega
    · obtain rfl : k = xs.length := by omega
      go_wp2
      go_ret
      exact ⟨rfl, hbw⟩
end Ps
end Go.Proofs.YtggdhgppclnckaaGreatDoor

namespace Go.Proofs.YtggdhgppclnckaaGreatDoor
open Go Go.RowKit Lx
set_option maxRecDepth 20000

namespace Ps
variable {w : World} {A B : Option Addr} {m c k d : Nat}
set_option maxHeartbeats 4000000 in
theorem sameRef_x {e : Pr} {va vb : List Value} (ha : Rds Tt w e.d va) (hb : Rds Tt w e.d vb) : Calls Tryz.prog 43 #[.agg va.toArray, .agg vb.toArray] w (YesB w) := by
  obtain ⟨A1, m1, c1, A2, m2, c2, A3, m3, c3, A4, m4, c4, A5, m5, c5, rfl, a1, a2, a3, a4, a5⟩ := pr_form ha
  obtain ⟨B1, k1, d1, B2, k2, d2, B3, k3, d3, B4, k4, d4, B5, k5, d5, rfl, e1, e2, e3, e4, e5⟩ := pr_form hb
  obtain ⟨l, fs, qs, vs, bd, rs⟩ := e
  dsimp only at *
  generalize bt rs = x at *
  have H2 : Hid (∀ W, Below w.heap.size w W → Calls Tryz.prog 72 #[.slice A2 m2 c2, .slice B2 k2 d2] W (YesB W)) := fun W hW => sameFuncs_x (a2.new hW) (e2.new hW)
  have H3 : Hid (∀ W, Below w.heap.size w W → Calls Tryz.prog 72 #[.slice A3 m3 c3, .slice B3 k3 d3] W (YesB W)) := fun W hW => sameFuncs_x (a3.new hW) (e3.new hW)
  have H4 : Hid (∀ W, Below w.heap.size w W → Calls Tryz.prog 73 #[.slice A4 m4 c4, .slice B4 k4 d4] W (YesB W)) := fun W hW => sameDecls_x (a4.new hW) (e4.new hW)
  have H5 : Hid (∀ W, Below w.heap.size w W → Calls Tryz.prog 74 #[.slice A5 m5 c5, .slice B5 k5 d5] W (YesB W)) := fun W hW => sameStmts_x (a5.new hW) (e5.new hW)
  rw [map_flat] at a1 e1
  obtain ⟨rfl, hm, ea⟩ := a1.elem (f := fun x => [D.s x]) (fun _ => rfl) (by decide)
  obtain ⟨rfl, _, eb⟩ := e1.elem (f := fun x => [D.s x]) (fun _ => rfl) (by decide)
  unfold maxLen at hm
  have HA := Lib.hid ea
  have HB := Lib.hid eb
  clear ea eb ha hb a1 a2 a3 a4 a5 e1 e2 e3 e4 e5
  have b0 := (box_alloc w 32 #[.slice A1 l.length c1, .slice A2 m2 c2, .slice A3 m3 c3, .slice A4 m4 c4, .slice A5 m5 c5, .string x]).new (allocB (w.alloc (.cells #[.slice A1 l.length c1, .slice A2 m2 c2, .slice A3 m3 c3, .slice A4 m4 c4, .slice A5 m5 c5, .string x] 32)) (.cells #[.slice B1 l.length d1, .slice B2 k2 d2, .slice B3 k3 d3, .slice B4 k4 d4, .slice B5 k5 d5, .string x] 32))
  have b1 := box_alloc (w.alloc (.cells #[.slice A1 l.length c1, .slice A2 m2 c2, .slice A3 m3 c3, .slice A4 m4 c4, .slice A5 m5 c5, .string x] 32)) 32 #[.slice B1 l.length d1, .slice B2 k2 d2, .slice B3 k3 d3, .slice B4 k4 d4, .slice B5 k5 d5, .string x]
  have bU : Below w.heap.size w ((w.alloc (.cells #[.slice A1 l.length c1, .slice A2 m2 c2, .slice A3 m3 c3, .slice A4 m4 c4, .slice A5 m5 c5, .string x] 32)).alloc (.cells #[.slice B1 l.length d1, .slice B2 k2 d2, .slice B3 k3 d3, .slice B4 k4 d4, .slice B5 k5 d5, .string x] 32)) := (allocB w _).trans ((allocB _ _).mono (by simp))
  rw [show (w.alloc (.cells #[.slice A1 l.length c1, .slice A2 m2 c2, .slice A3 m3 c3, .slice A4 m4 c4, .slice A5 m5 c5, .string x] 32)).heap.size = w.heap.size + 1 by simp] at b1
  go_enter Tryz.func43, Tryz.ntmps43
  go_wp2
  generalize ((w.alloc (.cells #[.slice A1 l.length c1, .slice A2 m2 c2, .slice A3 m3 c3, .slice A4 m4 c4, .slice A5 m5 c5, .string x] 32)).alloc (.cells #[.slice B1 l.length d1, .slice B2 k2 d2, .slice B3 k3 d3, .slice B4 k4 d4, .slice B5 k5 d5, .string x] 32)) = U at *
  go_loopw [5] (fun iv wr => ∃ k q : Nat, k ≤ l.length ∧ iv = .int .i64 k ∧ wr = U.drewN q) (fun iv _ => l.length - (intOf iv).toNat)
  case atStart => exact ⟨0, 0, Nat.zero_le _, rfl, rfl⟩
  case round =>
    obtain ⟨k, q, hk, rfl, rfl⟩ := hrel
    have p0 := box_cell (b0.drewN q) 0 _ rfl
    have q0 := box_cell (b1.drewN q) 0 _ rfl
    by_cases hkn : k < l.length
    · obtain ⟨g1, o1, vs, rfl, z1, r1, t1⟩ := HA.out k _ (List.getElem?_eq_getElem hkn)
      obtain ⟨g2, o2, us, rfl, z2, r2, t2⟩ := HB.out k _ (List.getElem?_eq_getElem hkn)
      obtain ⟨v1, rfl, u1⟩ := rds_one t1
      obtain ⟨v2, rfl, u2⟩ := rds_one t2
      have p1 := (range_below r1 z1 bU) 0 _ rfl
      have p2 := (range_below r2 z2 bU) 0 _ rfl
      obtain ⟨y, hy⟩ : ∃ y, l[k] = y := ⟨_, rfl⟩
      rw [hy] at u1 u2
      obtain rfl := s_form u1
      obtain rfl := s_form u2
      simp only [Nat.mul_one, Nat.add_zero] at p1 p2
      replace p0 := box_cell b0 0 _ rfl
      replace q0 := box_cell b1 0 _ rfl
      generalize bt y = s at *
      clear r1 r2 z1 z2 t1 t2 u1 u2 hy HA HB H2 H3 H4 H5 b0 b1
      go_wp2_with fail
      go_quiet (fail)
      go_wp2
      go_roundw
      case rel => exact ⟨k + 1, _, by omega, by go_num, rfl⟩
      case measure => simp [intOf] <;> omega
    · obtain rfl : k = l.length := by omega
      have hWW := drewN_below bU q
      replace b0 := b0.drewN q
      replace b1 := b1.drewN q
      generalize U.drewN q = U2 at *
      clear HA HB hkn hk
      have p1 := box_cell b0 1 _ rfl
      have q1 := box_cell b1 1 _ rfl
      have p2 := box_cell b0 2 _ rfl
      have q2 := box_cell b1 2 _ rfl
      go_wp2_with fail
      refine (H2.out _ hWW).mono ?_
      rintro en w2 ⟨rfl, hc⟩
      replace b0 := b0.new hc
      replace b1 := b1.new hc
      replace hWW := hWW.trans (hc.mono hWW.size)
      clear hc
      have p2 := box_cell b0 2 _ rfl
      have q2 := box_cell b1 2 _ rfl
      go_wp2_with fail
      refine (H3.out _ hWW).mono ?_
      rintro en w3 ⟨rfl, hc⟩
      replace b0 := b0.new hc
      replace b1 := b1.new hc
      replace hWW := hWW.trans (hc.mono hWW.size)
      clear hc
      have p3 := box_cell b0 3 _ rfl
      have q3 := box_cell b1 3 _ rfl
      go_wp2_with fail
      refine (H4.out _ hWW).mono ?_
      rintro en w4 ⟨rfl, hc⟩
      replace b0 := b0.new hc
      replace b1 := b1.new hc
      replace hWW := hWW.trans (hc.mono hWW.size)
      clear hc
      have p4 := box_cell b0 4 _ rfl
      have q4 := box_cell b1 4 _ rfl
      go_wp2_with fail
      refine (H5.out _ hWW).mono ?_
      rintro en w5 ⟨rfl, hc⟩
      replace b0 := b0.new hc
      replace b1 := b1.new hc
      replace hWW := hWW.trans (hc.mono hWW.size)
      clear hc
      have p5 := box_cell b0 5 _ rfl
      have q5 := box_cell b1 5 _ rfl
      go_wp2
      go_ret
      exact ⟨rfl, hWW⟩
theorem six {α : Type} : ∀ l : List α, l.length = 6 → ∃ a b c d e f, l = [a, b, c, d, e, f]
  | [a, b, c, d, e, f], _ => ⟨a, b, c, d, e, f, rfl⟩
theorem sameProgram_x {e : Pr} {va vb : List Value} (ha : Rds Tt w e.d va) (hb : Rds Tt w e.d vb) : Calls Tryz.prog 23 #[.agg va.toArray, .agg vb.toArray] w (YesB w) := by
  have la : va.length = 6 := ha.len.symm
  have lb : vb.length = 6 := hb.len.symm
  have H : Hid (∀ W, Below w.heap.size w W → Calls Tryz.prog 43 #[.agg va.toArray, .agg vb.toArray] W (YesB W)) := fun W hW => sameRef_x (ha.new hW) (hb.new hW)
  clear ha hb
  obtain ⟨a0, a1, a2, a3, a4, a5, rfl⟩ := six va la
  obtain ⟨b0, b1, b2, b3, b4, b5, rfl⟩ := six vb lb
  have bU : Below w.heap.size w ((w.alloc (.cells #[a0, a1, a2, a3, a4, a5] 32)).alloc (.cells #[b0, b1, b2, b3, b4, b5] 32)) := (allocB w _).trans ((allocB _ _).mono (by simp))
  go_enter Tryz.func23, Tryz.ntmps23
  go_wp2_with fail
  generalize ((w.alloc (.cells #[a0, a1, a2, a3, a4, a5] 32)).alloc (.cells #[b0, b1, b2, b3, b4, b5] 32)) = U at *
  refine (H.out U bU).mono ?_
  rintro en w1 ⟨rfl, hb1⟩
  go_wp2
  go_ret
  exact ⟨rfl, bU.trans (hb1.mono bU.size)⟩
end Ps
end Go.Proofs.YtggdhgppclnckaaGreatDoor
