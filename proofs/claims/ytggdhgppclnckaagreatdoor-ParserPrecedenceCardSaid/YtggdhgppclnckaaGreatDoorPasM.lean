/-
  Primaries that end with a bracket.
-/
import Derived.Test.YtggdhgppclnckaaGreatDoorPasJ
namespace Go.Proofs.YtggdhgppclnckaaGreatDoor
open Go Go.RowKit Lx
set_option maxRecDepth 20000

namespace Ps
variable {w : World} {g b n c : Nat} {L : List Tok} {i : Nat} {o : Int}
/-- Blocks from s on, but not the two from p on. -/
abbrev Ob3 (s p : Nat) : Nat → Prop := fun k => s ≤ k ∧ k ≠ p ∧ k ≠ p + 1
theorem rd_len {Q : Nat → Prop} {w : World} {l : List Ex} {A : Option Addr} {m q : Nat} (h : Rd Q w (.l 7 (dsE l)) (.slice A m q)) : l.length = m := by
  have e := dsE_len l
  generalize dsE l = ds at *
  cases h with
  | nil => simp at e; omega
  | l _ _ g o _ _ f hl => omega
theorem rd_one {Q : Nat → Prop} {w : World} {x : Ex} {A : Option Addr} {q : Nat} (h : Rd Q w (.l 7 (dsE [x])) (.slice A 1 q)) : ∃ (G P : Nat) (f0 f1 f2 f3 f4 f5 f6 : Value), A = some ⟨G, P, none⟩ ∧ Q G ∧ G < w.heap.size ∧
    (w.cell? ⟨G, P, none⟩ = some f0 ∧ w.cell? ⟨G, P + 1, none⟩ = some f1 ∧ w.cell? ⟨G, P + 2, none⟩ = some f2 ∧ w.cell? ⟨G, P + 3, none⟩ = some f3 ∧ w.cell? ⟨G, P + 4, none⟩ = some f4 ∧ w.cell? ⟨G, P + 5, none⟩ = some f5 ∧ w.cell? ⟨G, P + 6, none⟩ = some f6) ∧ Rds Q w x.d [f0, f1, f2, f3, f4, f5, f6] := by
  rw [dsE_one] at h
  have e := x.d_len
  obtain ⟨d0, d1, d2, d3, d4, d5, d6, hd⟩ : ∃ d0 d1 d2 d3 d4 d5 d6, x.d = [d0, d1, d2, d3, d4, d5, d6] := by cases x; simp only [Ex.d]; exact ⟨_, _, _, _, _, _, _, rfl⟩
  rw [hd] at h ⊢
  cases h with
  | l _ _ g o _ _ f hl hn hc hS hg hf hr =>
    refine ⟨g, o, f 0, f 1, f 2, f 3, f 4, f 5, f 6, rfl, hS, hg, ⟨hf 0 (by simp), hf 1 (by simp), hf 2 (by simp), hf 3 (by simp), hf 4 (by simp), hf 5 (by simp), hf 6 (by simp)⟩, ?_⟩
    exact .cons (hr 0 _ rfl) (.cons (hr 1 _ rfl) (.cons (hr 2 _ rfl) (.cons (hr 3 _ rfl) (.cons (hr 4 _ rfl) (.cons (hr 5 _ rfl) (.cons (hr 6 _ rfl) .nil))))))

set_option maxHeartbeats 8000000 in
theorem parenthesized_x {X : P Ex} {q : Nat} (hx : Does g b n c L 166 rdE X q) : Does g b n c L 268 rdE (paren L X) (q + 1) := by
  intro w i o h hq
  generalize hr : paren L X i o = r
  unfold paren at hr
  have hsz := h.cs.size
  have hbz := h.hb
  have b0 : Below w.heap.size w ((w.alloc (.cells #[.int .i64 0, .int .i64 0, .bool false, .slice none 0 0, .slice none 0 0, .string ⟨#[]⟩, .slice none 0 0] 53)).alloc (.cells #[.int .i64 0, .int .i64 0, .bool false, .slice none 0 0, .slice none 0 0, .string ⟨#[]⟩, .slice none 0 0] 53)) := (allocB w _).trans ((allocB _ _).mono (by simp))
  have x0 := (box_alloc w 53 #[.int .i64 0, .int .i64 0, .bool false, .slice none 0 0, .slice none 0 0, .string ⟨#[]⟩, .slice none 0 0]).new (allocB (w.alloc (.cells #[.int .i64 0, .int .i64 0, .bool false, .slice none 0 0, .slice none 0 0, .string ⟨#[]⟩, .slice none 0 0] 53)) (.cells #[.int .i64 0, .int .i64 0, .bool false, .slice none 0 0, .slice none 0 0, .string ⟨#[]⟩, .slice none 0 0] 53))
  have xe0 := box_alloc (w.alloc (.cells #[.int .i64 0, .int .i64 0, .bool false, .slice none 0 0, .slice none 0 0, .string ⟨#[]⟩, .slice none 0 0] 53)) 53 #[.int .i64 0, .int .i64 0, .bool false, .slice none 0 0, .slice none 0 0, .string ⟨#[]⟩, .slice none 0 0]
  rw [show (w.alloc (.cells #[.int .i64 0, .int .i64 0, .bool false, .slice none 0 0, .slice none 0 0, .string ⟨#[]⟩, .slice none 0 0] 53)).heap.size = w.heap.size + 1 by simp] at xe0
  have at0 := h.new b0
  have hs0 : w.heap.size + 2 ≤ ((w.alloc (.cells #[.int .i64 0, .int .i64 0, .bool false, .slice none 0 0, .slice none 0 0, .string ⟨#[]⟩, .slice none 0 0] 53)).alloc (.cells #[.int .i64 0, .int .i64 0, .bool false, .slice none 0 0, .slice none 0 0, .string ⟨#[]⟩, .slice none 0 0] 53)).heap.size := by simp
  have hB0 : But g w ((w.alloc (.cells #[.int .i64 0, .int .i64 0, .bool false, .slice none 0 0, .slice none 0 0, .string ⟨#[]⟩, .slice none 0 0] 53)).alloc (.cells #[.int .i64 0, .int .i64 0, .bool false, .slice none 0 0, .slice none 0 0, .string ⟨#[]⟩, .slice none 0 0] 53)) := But.of_below b0
  clear h b0
  have HA := HA_ (g := g) (b := b) (n := n) (c := c) (L := L)
  have HO := HO_ (g := g) (b := b) (n := n) (c := c) (L := L)
  have HW := HW_ (g := g) (b := b) (n := n) (c := c) (L := L)
  have HX := Lib.hid hx
  have HL : Hid (∀ W j p, At W g b n c L j p → n ≤ q + j → Calls Tryz.prog 194 #[.pointer (some ⟨g, 0, none⟩), .func (.func 166) #[.pointer (some ⟨g, 0, none⟩)] #[]] W (Giv g b n c L (rdL 7 Ex.d W.heap.size) W j 0 (list L X j p))) := fun W j p hW hj => listExpr_x hx en_expr hW hj
  have HP : Hid (∀ W j p, At W g b n c L j p → n ≤ q + j → Calls Tryz.prog 277 #[.pointer (some ⟨g, 0, none⟩), .func (.func 166) #[.pointer (some ⟨g, 0, none⟩)] #[]] W (Giv g b n c L (rdP rdE W.heap.size) W j 0 (pair L X j p))) := fun W j p hW hj => pairExpr_x hx en_expr hW hj
  have HF : Hid (∀ W j p, At W g b n c L j p → Calls Tryz.prog 125 #[.pointer (some ⟨g, 0, none⟩), .int .i64 4] W fun en w' => en = .returned (.agg #[.int .i64 (tkn L j).ln, .int .i64 (tkn L j).co, .int .i64 4]) ∧ Below W.heap.size W w') := fun W j p hW => failure_x hW 4
  clear hx
  go_enter Tryz.func268, Tryz.ntmps268
  go_wp2_with fail
  generalize ((w.alloc (.cells #[.int .i64 0, .int .i64 0, .bool false, .slice none 0 0, .slice none 0 0, .string ⟨#[]⟩, .slice none 0 0] 53)).alloc (.cells #[.int .i64 0, .int .i64 0, .bool false, .slice none 0 0, .slice none 0 0, .string ⟨#[]⟩, .slice none 0 0] 53)) = W0 at *
  refine (HA.out _ _ _ [40] (by decide) at0).mono ?_
  rintro en W2 (⟨t1, j3, q4, v11, hm5, rfl, rfl, hat6, hle7, hb8⟩ | ⟨j3, er9, hm5, rfl, hj10, hb8⟩)
  rotate_left
  · rw [bd_no hm5] at hr
    go_wp2
    exact post_panic (fn := Tryz.f268) rfl (Or.inr ⟨j3, er9, hr.symm, rfl, hj10, But.trans hB0 hb8⟩)
  rw [bd_ok hm5] at hr
  have at12 := hat6
  have hB13 : But g w W2 := But.trans hB0 hb8
  have x14 := x0.but hb8 (by omega)
  have x15 := xe0.but hb8 (by omega)
  have hs16 : w.heap.size + 2 ≤ W2.heap.size := Nat.le_trans hs0 hb8.size
  clear hat6 hB0 x0 xe0
  cases t1
  · simp only [Bool.false_eq_true, if_false] at hr
    obtain ⟨rfl, rfl, _⟩ := acc_not hm5
    clear hm5
    go_wp2_with fail
    refine (HO.out _ _ _ [108, 101, 110] (by decide) at12).mono ?_
    rintro en W18 (⟨t17, j19, q20, v27, hm21, rfl, rfl, hat22, hle23, hb24⟩ | ⟨j19, er25, hm21, rfl, hj26, hb24⟩)
    rotate_left
    · rw [bd_no hm21] at hr
      go_wp2
      exact post_panic (fn := Tryz.f268) rfl (Or.inr ⟨j19, er25, hr.symm, rfl, hj26, But.trans hB13 hb24⟩)
    rw [bd_ok hm21] at hr
    have at28 := hat22
    have hB29 : But g w W18 := But.trans hB13 hb24
    have x30 := x14.but hb24 (by omega)
    have x31 := x15.but hb24 (by omega)
    have hs32 : w.heap.size + 2 ≤ W18.heap.size := Nat.le_trans hs16 hb24.size
    clear hat22 hB13 x14 x15
    cases t17
    · simp only [Bool.false_eq_true, if_false] at hr
      obtain ⟨rfl, rfl⟩ := opn_not hm21
      clear hm21
      go_wp2_with fail
      refine (HO.out _ _ _ [112, 117, 115, 104] (by decide) at28).mono ?_
      rintro en W34 (⟨t33, j35, q36, v43, hm37, rfl, rfl, hat38, hle39, hb40⟩ | ⟨j35, er41, hm37, rfl, hj42, hb40⟩)
      rotate_left
      · rw [bd_no hm37] at hr
        go_wp2
        exact post_panic (fn := Tryz.f268) rfl (Or.inr ⟨j35, er41, hr.symm, rfl, hj42, But.trans hB29 hb40⟩)
      rw [bd_ok hm37] at hr
      have at44 := hat38
      have hB45 : But g w W34 := But.trans hB29 hb40
      have x46 := x30.but hb40 (by omega)
      have x47 := x31.but hb40 (by omega)
      have hs48 : w.heap.size + 2 ≤ W34.heap.size := Nat.le_trans hs32 hb40.size
      clear hat38 hB29 x30 x31
      cases t33
      · simp only [Bool.false_eq_true, if_false] at hr
        obtain ⟨rfl, rfl⟩ := opn_not hm37
        clear hm37
        go_wp2_with fail
        refine (HF.out _ _ _ at44).mono ?_
        rintro en W9 ⟨rfl, hb9⟩
        go_wp2
        exact post_panic (fn := Tryz.f268) rfl (Or.inr ⟨_, 4, hr.symm, rfl, at44.hi, But.trans hB45 (But.of_below hb9)⟩)
      · simp only [if_true] at hr
        have hop49 := opn_yes hm37
        clear hm37
        go_wp2_with fail
        refine (HP.out _ _ _ at44 (by omega)).mono ?_
        rintro en W50 (⟨p, j51, q52, v59, hm53, rfl, ⟨_, _, rfl, ⟨x0, x1, x2, x3, x4, x5, x6, rfl, hvx⟩, ⟨y0, y1, y2, y3, y4, y5, y6, rfl, hvy⟩⟩, hat54, hle55, hb56⟩ | ⟨j51, er57, hm53, rfl, hj58, hb56⟩)
        rotate_left
        · rw [bd_no hm53] at hr
          go_wp2
          exact post_panic (fn := Tryz.f268) rfl (Or.inr ⟨j51, er57, hr.symm, rfl, hj58, But.trans hB45 hb56⟩)
        rw [bd_ok hm53] at hr
        have at60 := hat54
        have hB61 : But g w W50 := But.trans hB45 hb56
        have x62 := x46.but hb56 (by omega)
        have x63 := x47.but hb56 (by omega)
        have hs64 : w.heap.size + 2 ≤ W50.heap.size := Nat.le_trans hs48 hb56.size
        clear hat54 hB45 x46 x47
        have hx2 : Rds (Fr (w.heap.size + 2)) W50 p.1.d [x0, x1, x2, x3, x4, x5, x6] := hvx.in fun k hk => Nat.le_trans (by assumption) hk
        have hy2 : Rds (Fr (w.heap.size + 2)) W50 p.2.d [y0, y1, y2, y3, y4, y5, y6] := hvy.in fun k hk => Nat.le_trans (by assumption) hk
        clear hvx hvy
        have bu : Below W50.heap.size W50 ((W50.alloc (.cells #[.int .i64 0, .int .i64 0, .bool false, .slice none 0 0, .slice none 0 0, .string ⟨#[]⟩, .slice none 0 0] 53)).alloc (.cells #[.int .i64 0, .int .i64 0, .bool false, .slice none 0 0, .slice none 0 0, .string ⟨#[]⟩, .slice none 0 0] 53)) := (allocB W50 _).trans ((allocB _ _).mono (by simp))
        have b4 := (box_alloc W50 53 #[.int .i64 0, .int .i64 0, .bool false, .slice none 0 0, .slice none 0 0, .string ⟨#[]⟩, .slice none 0 0]).new (allocB (W50.alloc (.cells #[.int .i64 0, .int .i64 0, .bool false, .slice none 0 0, .slice none 0 0, .string ⟨#[]⟩, .slice none 0 0] 53)) (.cells #[.int .i64 0, .int .i64 0, .bool false, .slice none 0 0, .slice none 0 0, .string ⟨#[]⟩, .slice none 0 0] 53))
        have b5 := box_alloc (W50.alloc (.cells #[.int .i64 0, .int .i64 0, .bool false, .slice none 0 0, .slice none 0 0, .string ⟨#[]⟩, .slice none 0 0] 53)) 53 #[.int .i64 0, .int .i64 0, .bool false, .slice none 0 0, .slice none 0 0, .string ⟨#[]⟩, .slice none 0 0]
        rw [show (W50.alloc (.cells #[.int .i64 0, .int .i64 0, .bool false, .slice none 0 0, .slice none 0 0, .string ⟨#[]⟩, .slice none 0 0] 53)).heap.size = W50.heap.size + 1 by simp] at b5
        have ox := hx2.all
        have oy := hy2.all
        have b5' := b5.other (j := W50.heap.size) #[x0, x1, x2, x3, x4, x5, x6] (by omega)
        have b4f := (b4.set #[x0, x1, x2, x3, x4, x5, x6]).other (j := W50.heap.size + 1) #[y0, y1, y2, y3, y4, y5, y6] (by omega)
        have b5f := b5'.set #[y0, y1, y2, y3, y4, y5, y6]
        go_wp2_with (first | (refine wpList_store_row rfl 53 (.tmp 4) (.tmp 40) rfl W50.heap.size _ rfl rfl 53 _ b4 (by kernel_rfl) rfl ox ?_) | (refine wpList_store_row rfl 53 (.tmp 5) (.tmp 41) rfl (W50.heap.size + 1) _ rfl rfl 53 _ b5' (by kernel_rfl) rfl oy ?_) | (refine wpList_load_row rfl 53 (.tmp 4) rfl W50.heap.size rfl 53 _ (0, 0) (.struct _) b4f rfl rfl (by kernel_rfl) ?_) | (refine wpList_load_row rfl 53 (.tmp 5) rfl (W50.heap.size + 1) rfl 53 _ (0, 0) (.struct _) b5f rfl rfl (by kernel_rfl) ?_))
        clear b5' b4f b5f ox oy
        have kx : Rds (Ob3 (w.heap.size + 2) W50.heap.size) W50 p.1.d [x0, x1, x2, x3, x4, x5, x6] := hx2.keep (Nat.le_refl _) (fun _ _ _ => rfl) fun k hk hlt => by simp [Fr] at hk; simp [Ob3]; omega
        have ky : Rds (Ob3 (w.heap.size + 2) W50.heap.size) W50 p.2.d [y0, y1, y2, y3, y4, y5, y6] := hy2.keep (Nat.le_refl _) (fun _ _ _ => rfl) fun k hk hlt => by simp [Fr] at hk; simp [Ob3]; omega
        clear hx2 hy2
        have at65 := at60.new bu
        have hB66 : But g w ((W50.alloc (.cells #[.int .i64 0, .int .i64 0, .bool false, .slice none 0 0, .slice none 0 0, .string ⟨#[]⟩, .slice none 0 0] 53)).alloc (.cells #[.int .i64 0, .int .i64 0, .bool false, .slice none 0 0, .slice none 0 0, .string ⟨#[]⟩, .slice none 0 0] 53)) := But.trans hB61 (But.of_below bu)
        have x67 := x62.new bu
        have x68 := x63.new bu
        have d69 := kx.new bu
        have d70 := ky.new bu
        have hs71 : w.heap.size + 2 ≤ ((W50.alloc (.cells #[.int .i64 0, .int .i64 0, .bool false, .slice none 0 0, .slice none 0 0, .string ⟨#[]⟩, .slice none 0 0] 53)).alloc (.cells #[.int .i64 0, .int .i64 0, .bool false, .slice none 0 0, .slice none 0 0, .string ⟨#[]⟩, .slice none 0 0] 53)).heap.size := Nat.le_trans hs64 bu.size
        clear at60 hB61 x62 x63 kx ky
        have hz0 : Hid (((W50.alloc (.cells #[.int .i64 0, .int .i64 0, .bool false, .slice none 0 0, .slice none 0 0, .string ⟨#[]⟩, .slice none 0 0] 53)).alloc (.cells #[.int .i64 0, .int .i64 0, .bool false, .slice none 0 0, .slice none 0 0, .string ⟨#[]⟩, .slice none 0 0] 53)).heap.size = W50.heap.size + 1 + 1) := by show _ = _; simp
        generalize ((W50.alloc (.cells #[.int .i64 0, .int .i64 0, .bool false, .slice none 0 0, .slice none 0 0, .string ⟨#[]⟩, .slice none 0 0] 53)).alloc (.cells #[.int .i64 0, .int .i64 0, .bool false, .slice none 0 0, .slice none 0 0, .string ⟨#[]⟩, .slice none 0 0] 53)) = U0 at *
        have at72 := at65.row #[x0, x1, x2, x3, x4, x5, x6] (k := W50.heap.size) (by omega) (by omega)
        have hB73 := But.row (k := W50.heap.size) hB66 (by omega) #[x0, x1, x2, x3, x4, x5, x6]
        have x74 := x67.other (j := W50.heap.size) #[x0, x1, x2, x3, x4, x5, x6] (by omega)
        have x75 := x68.other (j := W50.heap.size) #[x0, x1, x2, x3, x4, x5, x6] (by omega)
        have d76 := d69.row (k := W50.heap.size) (by simp [Ob3]) #[x0, x1, x2, x3, x4, x5, x6]
        have d77 := d70.row (k := W50.heap.size) (by simp [Ob3]) #[x0, x1, x2, x3, x4, x5, x6]
        have hs78 : w.heap.size + 2 ≤ (U0.setRow (W50.heap.size) #[x0, x1, x2, x3, x4, x5, x6]).heap.size := by rw [size_row]; exact hs71
        have hz79 : Hid ((U0.setRow (W50.heap.size) #[x0, x1, x2, x3, x4, x5, x6]).heap.size = W50.heap.size + 1 + 1) := by show _ = _; rw [size_row]; exact hz0.out
        clear at65 hB66 x67 x68 d69 d70
        generalize U0.setRow (W50.heap.size) #[x0, x1, x2, x3, x4, x5, x6] = U1 at *
        have at80 := at72.row #[y0, y1, y2, y3, y4, y5, y6] (k := W50.heap.size + 1) (by omega) (by omega)
        have hB81 := But.row (k := W50.heap.size + 1) hB73 (by omega) #[y0, y1, y2, y3, y4, y5, y6]
        have x82 := x74.other (j := W50.heap.size + 1) #[y0, y1, y2, y3, y4, y5, y6] (by omega)
        have x83 := x75.other (j := W50.heap.size + 1) #[y0, y1, y2, y3, y4, y5, y6] (by omega)
        have d84 := d76.row (k := W50.heap.size + 1) (by simp [Ob3]) #[y0, y1, y2, y3, y4, y5, y6]
        have d85 := d77.row (k := W50.heap.size + 1) (by simp [Ob3]) #[y0, y1, y2, y3, y4, y5, y6]
        have hs86 : w.heap.size + 2 ≤ (U1.setRow (W50.heap.size + 1) #[y0, y1, y2, y3, y4, y5, y6]).heap.size := by rw [size_row]; exact hs78
        have hz87 : Hid ((U1.setRow (W50.heap.size + 1) #[y0, y1, y2, y3, y4, y5, y6]).heap.size = W50.heap.size + 1 + 1) := by show _ = _; rw [size_row]; exact hz79.out
        clear at72 hB73 x74 x75 d76 d77
        generalize U1.setRow (W50.heap.size + 1) #[y0, y1, y2, y3, y4, y5, y6] = U2 at *
        have HZ_ := hz87
        have dl88 : Rd (Fr (w.heap.size + 2)) (U2.alloc (.cells #[x0, x1, x2, x3, x4, x5, x6, y0, y1, y2, y3, y4, y5, y6] 53)) (.l 7 (dsE [p.1, p.2])) (.slice (some ⟨U2.heap.size, 0, none⟩) 2 2) := by
          have := (Rds.laidQ (sz := 7) (n := 2) 53 (d84.app d85) (by simp [Ex.d_len]) (show Ob3 (w.heap.size + 2) W50.heap.size U2.heap.size by have := HZ_.out; simp [Ob3]; omega) (by decide)).in (S' := Fr (w.heap.size + 2)) fun k hk => hk.1
          simpa [dsE] using this
        rw [HZ_.out] at dl88
        have bl89 := allocB U2 (.cells #[x0, x1, x2, x3, x4, x5, x6, y0, y1, y2, y3, y4, y5, y6] 53)
        have at90 := at80.new bl89
        have hB91 : But g w (U2.alloc (.cells #[x0, x1, x2, x3, x4, x5, x6, y0, y1, y2, y3, y4, y5, y6] 53)) := But.trans hB81 (But.of_below bl89)
        have x92 := x82.new bl89
        have x93 := x83.new bl89
        have hs94 : w.heap.size + 2 ≤ (U2.alloc (.cells #[x0, x1, x2, x3, x4, x5, x6, y0, y1, y2, y3, y4, y5, y6] 53)).heap.size := Nat.le_trans hs86 bl89.size
        clear at80 hB81 x82 x83
        generalize U2.alloc (.cells #[x0, x1, x2, x3, x4, x5, x6, y0, y1, y2, y3, y4, y5, y6] 53) = U3 at *
        refine (node_x _ _ _ _ _).mono ?_
        rintro en W95 ⟨rfl, hb96⟩
        have at97 := at90.new hb96
        have hB98 : But g w W95 := But.trans hB91 (But.of_below hb96)
        have x99 := x92.new hb96
        have x100 := x93.new hb96
        have d101 := dl88.new hb96
        have hs102 : w.heap.size + 2 ≤ W95.heap.size := Nat.le_trans hs94 hb96.size
        clear at90 hB91 x92 x93 dl88
        have nd103 := node_rds 19 [p.1, p.2] d101
        go_wp2_with (refine wpList_store_row rfl 53 (.tmp 3) (.tmp 45) rfl (w.heap.size + 1) _ rfl rfl 53 _ x100 (by kernel_rfl) rfl (by simp [Value.oneCell']) ?_)
        have hzW104 : W95.heap.size ≤ (W95.setRow (w.heap.size + 1) #[.int .i64 19, .int .i64 0, .bool false, .slice none 0 0, .slice none 0 0, .string ⟨#[]⟩, .slice (some ⟨W50.heap.size + 1 + 1, 0, none⟩) 2 2]).heap.size := by rw [size_row]; exact Nat.le_refl _
        have at105 := at97.row #[.int .i64 19, .int .i64 0, .bool false, .slice none 0 0, .slice none 0 0, .string ⟨#[]⟩, .slice (some ⟨W50.heap.size + 1 + 1, 0, none⟩) 2 2] (k := w.heap.size + 1) (by omega) (by omega)
        have hB106 : But g w (W95.setRow (w.heap.size + 1) #[.int .i64 19, .int .i64 0, .bool false, .slice none 0 0, .slice none 0 0, .string ⟨#[]⟩, .slice (some ⟨W50.heap.size + 1 + 1, 0, none⟩) 2 2]) := But.row hB98 (by omega) _
        have x107 := x99.other (j := w.heap.size + 1) #[.int .i64 19, .int .i64 0, .bool false, .slice none 0 0, .slice none 0 0, .string ⟨#[]⟩, .slice (some ⟨W50.heap.size + 1 + 1, 0, none⟩) 2 2] (by omega)
        have x108 := x100.set #[.int .i64 19, .int .i64 0, .bool false, .slice none 0 0, .slice none 0 0, .string ⟨#[]⟩, .slice (some ⟨W50.heap.size + 1 + 1, 0, none⟩) 2 2]
        have d109 := nd103.row (k := w.heap.size + 1) (by simp [Fr]) #[.int .i64 19, .int .i64 0, .bool false, .slice none 0 0, .slice none 0 0, .string ⟨#[]⟩, .slice (some ⟨W50.heap.size + 1 + 1, 0, none⟩) 2 2]
        have hs110 : w.heap.size + 2 ≤ (W95.setRow (w.heap.size + 1) #[.int .i64 19, .int .i64 0, .bool false, .slice none 0 0, .slice none 0 0, .string ⟨#[]⟩, .slice (some ⟨W50.heap.size + 1 + 1, 0, none⟩) 2 2]).heap.size := Nat.le_trans hs102 hzW104
        clear hzW104 at97 hB98 x99 x100 nd103
        generalize W95.setRow (w.heap.size + 1) #[.int .i64 19, .int .i64 0, .bool false, .slice none 0 0, .slice none 0 0, .string ⟨#[]⟩, .slice (some ⟨W50.heap.size + 1 + 1, 0, none⟩) 2 2] = W104 at *
        refine (HW.out _ _ _ [41] (by decide) at105).mono ?_
        rintro en W111 (⟨⟨⟩, j112, q113, v120, hm114, rfl, rfl, hat115, hle116, hb117⟩ | ⟨j112, er118, hm114, rfl, hj119, hb117⟩)
        rotate_left
        · rw [bd_no hm114] at hr
          go_wp2
          exact post_panic (fn := Tryz.f268) rfl (Or.inr ⟨j112, er118, hr.symm, rfl, hj119, But.trans hB106 hb117⟩)
        rw [bd_ok hm114] at hr
        have at121 := hat115
        have hB122 : But g w W111 := But.trans hB106 hb117
        have x123 := x107.but hb117 (by omega)
        have x124 := x108.but hb117 (by omega)
        have d125 := d109.but hb117 (by simp [Fr]; omega)
        have hs126 : w.heap.size + 2 ≤ W111.heap.size := Nat.le_trans hs110 hb117.size
        clear hat115 hB106 x107 x108 d109
        clear hm114
        have onesF := Rds.all d125
        go_wp2_with (first | (refine wpList_load_row rfl 53 (.tmp 3) rfl (w.heap.size + 1) rfl 53 _ (0, 0) (.struct _) x124 rfl rfl (by kernel_rfl) ?_) | (refine wpList_store_row rfl 53 (.tmp 2) (.tmp 48) rfl w.heap.size _ rfl rfl 53 _ x123 (by kernel_rfl) rfl onesF ?_))
        refine bodyPost_ret (results_cell_row rfl _ _ w.heap.size _ _ _ (.struct _) rfl (x123.set _) rfl rfl (by kernel_rfl)) rfl ?_
        exact Or.inl ⟨node 19 [p.1, p.2], j112, q113, _, hr.symm, rfl, ⟨_, _, _, _, _, _, _, rfl, (d125.row (by simp [Fr]) _).in fun k hk => by simp [Fr] at hk ⊢; omega⟩, at121.row _ hsz hbz, by omega, But.row hB122 (Nat.le_refl _) _⟩
    · simp only [if_true] at hr
      have hop127 := opn_yes hm21
      clear hm21
      go_wp2_with fail
      refine (HX.out _ _ _ at28 (by omega)).mono ?_
      rintro en W129 (⟨x, j130, q131, v138, hm132, rfl, ⟨x0, x1, x2, x3, x4, x5, x6, rfl, hv128⟩, hat133, hle134, hb135⟩ | ⟨j130, er136, hm132, rfl, hj137, hb135⟩)
      rotate_left
      · rw [bd_no hm132] at hr
        go_wp2
        exact post_panic (fn := Tryz.f268) rfl (Or.inr ⟨j130, er136, hr.symm, rfl, hj137, But.trans hB29 hb135⟩)
      rw [bd_ok hm132] at hr
      have at139 := hat133
      have hB140 : But g w W129 := But.trans hB29 hb135
      have x141 := x30.but hb135 (by omega)
      have x142 := x31.but hb135 (by omega)
      have hs143 : w.heap.size + 2 ≤ W129.heap.size := Nat.le_trans hs32 hb135.size
      clear hat133 hB29 x30 x31
      have d144 : Rds (Fr (w.heap.size + 2)) W129 x.d [x0, x1, x2, x3, x4, x5, x6] := hv128.in fun k hk => Nat.le_trans (by assumption) hk
      clear hv128
      go_wp2_with fail
      have bl147 := allocB W129 (.cells #[x0, x1, x2, x3, x4, x5, x6] 53)
      have dl148 : Rd (Fr (w.heap.size + 2)) (W129.alloc (.cells #[x0, x1, x2, x3, x4, x5, x6] 53)) (.l 7 (dsE [x])) (.slice (some ⟨W129.heap.size, 0, none⟩) 1 1) := by
        have := Rds.laidQ (sz := 7) (n := 1) 53 (d144) (by simp [Ex.d_len]) (show w.heap.size + 2 ≤ W129.heap.size by assumption) (by decide)
        simpa [dsE] using this
      have at149 := at139.new bl147
      have hB150 : But g w (W129.alloc (.cells #[x0, x1, x2, x3, x4, x5, x6] 53)) := But.trans hB140 (But.of_below bl147)
      have x151 := x141.new bl147
      have x152 := x142.new bl147
      have d153 := d144.new bl147
      have hs154 : w.heap.size + 2 ≤ (W129.alloc (.cells #[x0, x1, x2, x3, x4, x5, x6] 53)).heap.size := Nat.le_trans hs143 bl147.size
      clear at139 hB140 x141 x142 d144
      generalize W129.alloc (.cells #[x0, x1, x2, x3, x4, x5, x6] 53) = W145 at *
      generalize hgA146 : W129.heap.size = A146 at *
      clear hgA146 bl147
      refine (node_x _ _ _ _ _).mono ?_
      rintro en W155 ⟨rfl, hb156⟩
      have at157 := at149.new hb156
      have hB158 : But g w W155 := But.trans hB150 (But.of_below hb156)
      have x159 := x151.new hb156
      have x160 := x152.new hb156
      have d161 := d153.new hb156
      have d162 := dl148.new hb156
      have hs163 : w.heap.size + 2 ≤ W155.heap.size := Nat.le_trans hs154 hb156.size
      clear at149 hB150 x151 x152 d153 dl148
      have nd164 := node_rds 20 [x] d162
      go_wp2_with (refine wpList_store_row rfl 53 (.tmp 3) (.tmp 31) rfl (w.heap.size + 1) _ rfl rfl 53 _ x160 (by kernel_rfl) rfl (by simp [Value.oneCell']) ?_)
      have hzW165 : W155.heap.size ≤ (W155.setRow (w.heap.size + 1) #[.int .i64 20, .int .i64 0, .bool false, .slice none 0 0, .slice none 0 0, .string ⟨#[]⟩, .slice (some ⟨A146, 0, none⟩) 1 1]).heap.size := by rw [size_row]; exact Nat.le_refl _
      have at166 := at157.row #[.int .i64 20, .int .i64 0, .bool false, .slice none 0 0, .slice none 0 0, .string ⟨#[]⟩, .slice (some ⟨A146, 0, none⟩) 1 1] (k := w.heap.size + 1) (by omega) (by omega)
      have hB167 : But g w (W155.setRow (w.heap.size + 1) #[.int .i64 20, .int .i64 0, .bool false, .slice none 0 0, .slice none 0 0, .string ⟨#[]⟩, .slice (some ⟨A146, 0, none⟩) 1 1]) := But.row hB158 (by omega) _
      have x168 := x159.other (j := w.heap.size + 1) #[.int .i64 20, .int .i64 0, .bool false, .slice none 0 0, .slice none 0 0, .string ⟨#[]⟩, .slice (some ⟨A146, 0, none⟩) 1 1] (by omega)
      have x169 := x160.set #[.int .i64 20, .int .i64 0, .bool false, .slice none 0 0, .slice none 0 0, .string ⟨#[]⟩, .slice (some ⟨A146, 0, none⟩) 1 1]
      have d170 := nd164.row (k := w.heap.size + 1) (by simp [Fr]) #[.int .i64 20, .int .i64 0, .bool false, .slice none 0 0, .slice none 0 0, .string ⟨#[]⟩, .slice (some ⟨A146, 0, none⟩) 1 1]
      have hs171 : w.heap.size + 2 ≤ (W155.setRow (w.heap.size + 1) #[.int .i64 20, .int .i64 0, .bool false, .slice none 0 0, .slice none 0 0, .string ⟨#[]⟩, .slice (some ⟨A146, 0, none⟩) 1 1]).heap.size := Nat.le_trans hs163 hzW165
      clear hzW165 at157 hB158 x159 x160 nd164
      generalize W155.setRow (w.heap.size + 1) #[.int .i64 20, .int .i64 0, .bool false, .slice none 0 0, .slice none 0 0, .string ⟨#[]⟩, .slice (some ⟨A146, 0, none⟩) 1 1] = W165 at *
      refine (HW.out _ _ _ [41] (by decide) at166).mono ?_
      rintro en W172 (⟨⟨⟩, j173, q174, v181, hm175, rfl, rfl, hat176, hle177, hb178⟩ | ⟨j173, er179, hm175, rfl, hj180, hb178⟩)
      rotate_left
      · rw [bd_no hm175] at hr
        go_wp2
        exact post_panic (fn := Tryz.f268) rfl (Or.inr ⟨j173, er179, hr.symm, rfl, hj180, But.trans hB167 hb178⟩)
      rw [bd_ok hm175] at hr
      have at182 := hat176
      have hB183 : But g w W172 := But.trans hB167 hb178
      have x184 := x168.but hb178 (by omega)
      have x185 := x169.but hb178 (by omega)
      have d186 := d170.but hb178 (by simp [Fr]; omega)
      have hs187 : w.heap.size + 2 ≤ W172.heap.size := Nat.le_trans hs171 hb178.size
      clear hat176 hB167 x168 x169 d170
      clear hm175
      have onesF := Rds.all d186
      go_wp2_with (first | (refine wpList_load_row rfl 53 (.tmp 3) rfl (w.heap.size + 1) rfl 53 _ (0, 0) (.struct _) x185 rfl rfl (by kernel_rfl) ?_) | (refine wpList_store_row rfl 53 (.tmp 2) (.tmp 48) rfl w.heap.size _ rfl rfl 53 _ x184 (by kernel_rfl) rfl onesF ?_))
      refine bodyPost_ret (results_cell_row rfl _ _ w.heap.size _ _ _ (.struct _) rfl (x184.set _) rfl rfl (by kernel_rfl)) rfl ?_
      exact Or.inl ⟨node 20 [x], j173, q174, _, hr.symm, rfl, ⟨_, _, _, _, _, _, _, rfl, (d186.row (by simp [Fr]) _).in fun k hk => by simp [Fr] at hk ⊢; omega⟩, at182.row _ hsz hbz, by omega, But.row hB183 (Nat.le_refl _) _⟩
  · simp only [if_true] at hr
    obtain ⟨rfl, _⟩ := acc_yes hm5
    clear hm5
    go_wp2_with fail
    refine (HL.out _ _ _ at12 (by omega)).mono ?_
    rintro en W188 (⟨l, j189, q190, v197, hm191, rfl, ⟨A, m, cc, rfl, hv⟩, hat192, hle193, hb194⟩ | ⟨j189, er195, hm191, rfl, hj196, hb194⟩)
    rotate_left
    · rw [bd_no hm191] at hr
      go_wp2
      exact post_panic (fn := Tryz.f268) rfl (Or.inr ⟨j189, er195, hr.symm, rfl, hj196, But.trans hB13 hb194⟩)
    rw [bd_ok hm191] at hr
    have at198 := hat192
    have hB199 : But g w W188 := But.trans hB13 hb194
    have x200 := x14.but hb194 (by omega)
    have x201 := x15.but hb194 (by omega)
    have hs202 : w.heap.size + 2 ≤ W188.heap.size := Nat.le_trans hs16 hb194.size
    clear hat192 hB13 x14 x15
    have hv2 : Rd (Fr (w.heap.size + 2)) W188 (.l 7 (dsE l)) (.slice A m cc) := dsE_flat l ▸ hv.in fun k hk => Nat.le_trans (by assumption) hk
    have hlen : l.length = m := rd_len hv2
    go_wp2_with fail
    refine (node_x _ _ _ _ _).mono ?_
    rintro en W203 ⟨rfl, hb204⟩
    have at205 := at198.new hb204
    have hB206 : But g w W203 := But.trans hB199 (But.of_below hb204)
    have x207 := x200.new hb204
    have x208 := x201.new hb204
    have d209 := hv2.new hb204
    have hs210 : w.heap.size + 2 ≤ W203.heap.size := Nat.le_trans hs202 hb204.size
    clear at198 hB199 x200 x201 hv2
    have nd211 := node_rds 16 l d209
    have hcell := box_cell (Box.set x208 #[.int .i64 16, .int .i64 0, .bool false, .slice none 0 0, .slice none 0 0, .string ⟨#[]⟩, .slice A m cc]) 6 (.slice A m cc) rfl
    by_cases hm1 : m = 1
    · subst hm1
      obtain ⟨x, rfl⟩ : ∃ x, l = [x] := by
        match l, hlen with
        | [x], _ => exact ⟨x, rfl⟩
      have hrow : Rd (Fr (w.heap.size + 2)) W203 (.l 7 (dsE [x])) (.slice A 1 cc) := by
        have := nd211
        unfold node Rv.zero at this
        simp only [Ex.d] at this
        obtain ⟨v, hv, hr⟩ := this.at 6 _ rfl
        simp at hv; subst hv; exact hr
      obtain ⟨G, P, f0, f1, f2, f3, f4, f5, f6, rfl, hG, hGl, ⟨p0, p1, p2, p3, p4, p5, p6⟩, hf⟩ := rd_one hrow
      have hGne : G ≠ w.heap.size + 1 := by simp [Fr] at hG; omega
      have g0 : (W203.setRow (w.heap.size + 1) #[.int .i64 16, .int .i64 0, .bool false, .slice none 0 0, .slice none 0 0, .string ⟨#[]⟩, .slice (some ⟨G, P, none⟩) 1 cc]).cell? ⟨G, P, none⟩ = some f0 := (World.cell?_of_block (a := ⟨G, P, none⟩) (setRow_other _ _ _ _ hGne)).trans p0
      have g1 : (W203.setRow (w.heap.size + 1) #[.int .i64 16, .int .i64 0, .bool false, .slice none 0 0, .slice none 0 0, .string ⟨#[]⟩, .slice (some ⟨G, P, none⟩) 1 cc]).cell? ⟨G, P + 1, none⟩ = some f1 := (World.cell?_of_block (a := ⟨G, P + 1, none⟩) (setRow_other _ _ _ _ hGne)).trans p1
      have g2 : (W203.setRow (w.heap.size + 1) #[.int .i64 16, .int .i64 0, .bool false, .slice none 0 0, .slice none 0 0, .string ⟨#[]⟩, .slice (some ⟨G, P, none⟩) 1 cc]).cell? ⟨G, P + 2, none⟩ = some f2 := (World.cell?_of_block (a := ⟨G, P + 2, none⟩) (setRow_other _ _ _ _ hGne)).trans p2
      have g3 : (W203.setRow (w.heap.size + 1) #[.int .i64 16, .int .i64 0, .bool false, .slice none 0 0, .slice none 0 0, .string ⟨#[]⟩, .slice (some ⟨G, P, none⟩) 1 cc]).cell? ⟨G, P + 3, none⟩ = some f3 := (World.cell?_of_block (a := ⟨G, P + 3, none⟩) (setRow_other _ _ _ _ hGne)).trans p3
      have g4 : (W203.setRow (w.heap.size + 1) #[.int .i64 16, .int .i64 0, .bool false, .slice none 0 0, .slice none 0 0, .string ⟨#[]⟩, .slice (some ⟨G, P, none⟩) 1 cc]).cell? ⟨G, P + 4, none⟩ = some f4 := (World.cell?_of_block (a := ⟨G, P + 4, none⟩) (setRow_other _ _ _ _ hGne)).trans p4
      have g5 : (W203.setRow (w.heap.size + 1) #[.int .i64 16, .int .i64 0, .bool false, .slice none 0 0, .slice none 0 0, .string ⟨#[]⟩, .slice (some ⟨G, P, none⟩) 1 cc]).cell? ⟨G, P + 5, none⟩ = some f5 := (World.cell?_of_block (a := ⟨G, P + 5, none⟩) (setRow_other _ _ _ _ hGne)).trans p5
      have g6 : (W203.setRow (w.heap.size + 1) #[.int .i64 16, .int .i64 0, .bool false, .slice none 0 0, .slice none 0 0, .string ⟨#[]⟩, .slice (some ⟨G, P, none⟩) 1 cc]).cell? ⟨G, P + 6, none⟩ = some f6 := (World.cell?_of_block (a := ⟨G, P + 6, none⟩) (setRow_other _ _ _ _ hGne)).trans p6
      have onesX : (#[f0, f1, f2, f3, f4, f5, f6] : Array Value).all (·.oneCell') = true := hf.all
      clear p0 p1 p2 p3 p4 p5 p6
      go_wp2_with (first | (refine wpList_store_row rfl 53 (.tmp 3) (.tmp 16) rfl (w.heap.size + 1) _ rfl rfl 53 _ x208 (by kernel_rfl) rfl (by simp [Value.oneCell']) ?_) | (refine wpList_store_row rfl 53 (.tmp 3) (.tmp 24) rfl (w.heap.size + 1) _ rfl rfl 53 _ (Box.set x208 #[.int .i64 16, .int .i64 0, .bool false, .slice none 0 0, .slice none 0 0, .string ⟨#[]⟩, .slice (some ⟨G, P, none⟩) 1 cc]) (by kernel_rfl) rfl onesX ?_))
      clear g0 g1 g2 g3 g4 g5 g6 hcell
      have hzW213 : W203.heap.size ≤ (W203.setRow (w.heap.size + 1) #[.int .i64 16, .int .i64 0, .bool false, .slice none 0 0, .slice none 0 0, .string ⟨#[]⟩, .slice (some ⟨G, P, none⟩) 1 cc]).heap.size := by rw [size_row]; exact Nat.le_refl _
      have at214 := at205.row #[.int .i64 16, .int .i64 0, .bool false, .slice none 0 0, .slice none 0 0, .string ⟨#[]⟩, .slice (some ⟨G, P, none⟩) 1 cc] (k := w.heap.size + 1) (by omega) (by omega)
      have hB215 : But g w (W203.setRow (w.heap.size + 1) #[.int .i64 16, .int .i64 0, .bool false, .slice none 0 0, .slice none 0 0, .string ⟨#[]⟩, .slice (some ⟨G, P, none⟩) 1 cc]) := But.row hB206 (by omega) _
      have x216 := x207.other (j := w.heap.size + 1) #[.int .i64 16, .int .i64 0, .bool false, .slice none 0 0, .slice none 0 0, .string ⟨#[]⟩, .slice (some ⟨G, P, none⟩) 1 cc] (by omega)
      have x217 := x208.set #[.int .i64 16, .int .i64 0, .bool false, .slice none 0 0, .slice none 0 0, .string ⟨#[]⟩, .slice (some ⟨G, P, none⟩) 1 cc]
      have d218 := hf.row (k := w.heap.size + 1) (by simp [Fr]) #[.int .i64 16, .int .i64 0, .bool false, .slice none 0 0, .slice none 0 0, .string ⟨#[]⟩, .slice (some ⟨G, P, none⟩) 1 cc]
      have hs219 : w.heap.size + 2 ≤ (W203.setRow (w.heap.size + 1) #[.int .i64 16, .int .i64 0, .bool false, .slice none 0 0, .slice none 0 0, .string ⟨#[]⟩, .slice (some ⟨G, P, none⟩) 1 cc]).heap.size := Nat.le_trans hs210 hzW213
      clear hzW213 at205 hB206 x207 x208 hf
      generalize W203.setRow (w.heap.size + 1) #[.int .i64 16, .int .i64 0, .bool false, .slice none 0 0, .slice none 0 0, .string ⟨#[]⟩, .slice (some ⟨G, P, none⟩) 1 cc] = W213 at *
      have hzW220 : W213.heap.size ≤ (W213.setRow (w.heap.size + 1) #[f0, f1, f2, f3, f4, f5, f6]).heap.size := by rw [size_row]; exact Nat.le_refl _
      have at221 := at214.row #[f0, f1, f2, f3, f4, f5, f6] (k := w.heap.size + 1) (by omega) (by omega)
      have hB222 : But g w (W213.setRow (w.heap.size + 1) #[f0, f1, f2, f3, f4, f5, f6]) := But.row hB215 (by omega) _
      have x223 := x216.other (j := w.heap.size + 1) #[f0, f1, f2, f3, f4, f5, f6] (by omega)
      have x224 := x217.set #[f0, f1, f2, f3, f4, f5, f6]
      have d225 := d218.row (k := w.heap.size + 1) (by simp [Fr]) #[f0, f1, f2, f3, f4, f5, f6]
      have hs226 : w.heap.size + 2 ≤ (W213.setRow (w.heap.size + 1) #[f0, f1, f2, f3, f4, f5, f6]).heap.size := Nat.le_trans hs219 hzW220
      clear hzW220 at214 hB215 x216 x217 d218
      generalize W213.setRow (w.heap.size + 1) #[f0, f1, f2, f3, f4, f5, f6] = W220 at *
      refine (HW.out _ _ _ [41] (by decide) at221).mono ?_
      rintro en W227 (⟨⟨⟩, j228, q229, v236, hm230, rfl, rfl, hat231, hle232, hb233⟩ | ⟨j228, er234, hm230, rfl, hj235, hb233⟩)
      rotate_left
      · rw [bd_no hm230] at hr
        go_wp2
        exact post_panic (fn := Tryz.f268) rfl (Or.inr ⟨j228, er234, hr.symm, rfl, hj235, But.trans hB222 hb233⟩)
      rw [bd_ok hm230] at hr
      have at237 := hat231
      have hB238 : But g w W227 := But.trans hB222 hb233
      have x239 := x223.but hb233 (by omega)
      have x240 := x224.but hb233 (by omega)
      have d241 := d225.but hb233 (by simp [Fr]; omega)
      have hs242 : w.heap.size + 2 ≤ W227.heap.size := Nat.le_trans hs226 hb233.size
      clear hat231 hB222 x223 x224 d225
      clear hm230
      have onesF := Rds.all d241
      go_wp2_with (first | (refine wpList_load_row rfl 53 (.tmp 3) rfl (w.heap.size + 1) rfl 53 _ (0, 0) (.struct _) x240 rfl rfl (by kernel_rfl) ?_) | (refine wpList_store_row rfl 53 (.tmp 2) (.tmp 48) rfl w.heap.size _ rfl rfl 53 _ x239 (by kernel_rfl) rfl onesF ?_))
      refine bodyPost_ret (results_cell_row rfl _ _ w.heap.size _ _ _ (.struct _) rfl (x239.set _) rfl rfl (by kernel_rfl)) rfl ?_
      exact Or.inl ⟨x, j228, q229, _, hr.symm, rfl, ⟨_, _, _, _, _, _, _, rfl, (d241.row (by simp [Fr]) _).in fun k hk => by simp [Fr] at hk ⊢; omega⟩, at237.row _ hsz hbz, by omega, But.row hB238 (Nat.le_refl _) _⟩
    · have hm2 : ((m : Int) == 1) = false := by simp; omega
      have h1 : one l = node 16 l := by
        match l, hlen with
        | [], _ => rfl
        | [x], h => exact absurd h.symm hm1
        | x :: y :: t, _ => rfl
      rw [h1] at hr
      go_wp2_with (refine wpList_store_row rfl 53 (.tmp 3) (.tmp 16) rfl (w.heap.size + 1) _ rfl rfl 53 _ x208 (by kernel_rfl) rfl (by simp [Value.oneCell']) ?_)
      clear hcell hm1 hm2 hlen h1
      have hzW243 : W203.heap.size ≤ (W203.setRow (w.heap.size + 1) #[.int .i64 16, .int .i64 0, .bool false, .slice none 0 0, .slice none 0 0, .string ⟨#[]⟩, .slice A m cc]).heap.size := by rw [size_row]; exact Nat.le_refl _
      have at244 := at205.row #[.int .i64 16, .int .i64 0, .bool false, .slice none 0 0, .slice none 0 0, .string ⟨#[]⟩, .slice A m cc] (k := w.heap.size + 1) (by omega) (by omega)
      have hB245 : But g w (W203.setRow (w.heap.size + 1) #[.int .i64 16, .int .i64 0, .bool false, .slice none 0 0, .slice none 0 0, .string ⟨#[]⟩, .slice A m cc]) := But.row hB206 (by omega) _
      have x246 := x207.other (j := w.heap.size + 1) #[.int .i64 16, .int .i64 0, .bool false, .slice none 0 0, .slice none 0 0, .string ⟨#[]⟩, .slice A m cc] (by omega)
      have x247 := x208.set #[.int .i64 16, .int .i64 0, .bool false, .slice none 0 0, .slice none 0 0, .string ⟨#[]⟩, .slice A m cc]
      have d248 := nd211.row (k := w.heap.size + 1) (by simp [Fr]) #[.int .i64 16, .int .i64 0, .bool false, .slice none 0 0, .slice none 0 0, .string ⟨#[]⟩, .slice A m cc]
      have hs249 : w.heap.size + 2 ≤ (W203.setRow (w.heap.size + 1) #[.int .i64 16, .int .i64 0, .bool false, .slice none 0 0, .slice none 0 0, .string ⟨#[]⟩, .slice A m cc]).heap.size := Nat.le_trans hs210 hzW243
      clear hzW243 at205 hB206 x207 x208 nd211
      generalize W203.setRow (w.heap.size + 1) #[.int .i64 16, .int .i64 0, .bool false, .slice none 0 0, .slice none 0 0, .string ⟨#[]⟩, .slice A m cc] = W243 at *
      refine (HW.out _ _ _ [41] (by decide) at244).mono ?_
      rintro en W250 (⟨⟨⟩, j251, q252, v259, hm253, rfl, rfl, hat254, hle255, hb256⟩ | ⟨j251, er257, hm253, rfl, hj258, hb256⟩)
      rotate_left
      · rw [bd_no hm253] at hr
        go_wp2
        exact post_panic (fn := Tryz.f268) rfl (Or.inr ⟨j251, er257, hr.symm, rfl, hj258, But.trans hB245 hb256⟩)
      rw [bd_ok hm253] at hr
      have at260 := hat254
      have hB261 : But g w W250 := But.trans hB245 hb256
      have x262 := x246.but hb256 (by omega)
      have x263 := x247.but hb256 (by omega)
      have d264 := d248.but hb256 (by simp [Fr]; omega)
      have hs265 : w.heap.size + 2 ≤ W250.heap.size := Nat.le_trans hs249 hb256.size
      clear hat254 hB245 x246 x247 d248
      clear hm253
      have onesF := Rds.all d264
      go_wp2_with (first | (refine wpList_load_row rfl 53 (.tmp 3) rfl (w.heap.size + 1) rfl 53 _ (0, 0) (.struct _) x263 rfl rfl (by kernel_rfl) ?_) | (refine wpList_store_row rfl 53 (.tmp 2) (.tmp 48) rfl w.heap.size _ rfl rfl 53 _ x262 (by kernel_rfl) rfl onesF ?_))
      refine bodyPost_ret (results_cell_row rfl _ _ w.heap.size _ _ _ (.struct _) rfl (x262.set _) rfl rfl (by kernel_rfl)) rfl ?_
      exact Or.inl ⟨node 16 l, j251, q252, _, hr.symm, rfl, ⟨_, _, _, _, _, _, _, rfl, (d264.row (by simp [Fr]) _).in fun k hk => by simp [Fr] at hk ⊢; omega⟩, at260.row _ hsz hbz, by omega, But.row hB261 (Nat.le_refl _) _⟩
end Ps
end Go.Proofs.YtggdhgppclnckaaGreatDoor
