/-
  The levels of operators, and unary operators.
-/
import Derived.Test.YtggdhgppclnckaaGreatDoorPasG
namespace Go.Proofs.YtggdhgppclnckaaGreatDoor
open Go Go.RowKit Lx
set_option maxRecDepth 20000

namespace Ps
variable {w : World} {g b n c : Nat} {L : List Tok} {i : Nat} {o : Int}
theorem HA_ : Hid (∀ W j q s, s ≠ [] → At W g b n c L j q → Calls Tryz.prog 97 #[.pointer (some ⟨g, 0, none⟩), .string (bt s)] W (Giv g b n c L rdB W j 0 (acc L s j q))) := fun _ _ _ s hs hW => accept_x hW s hs
theorem HO_ : Hid (∀ W j q s, s ≠ [] → At W g b n c L j q → Calls Tryz.prog 193 #[.pointer (some ⟨g, 0, none⟩), .string (bt s)] W (Giv g b n c L rdB W j 0 (opn L s j q))) := fun _ _ _ s hs hW => opens_x hW s hs
theorem HW_ : Hid (∀ W j q s, s ≠ [] → At W g b n c L j q → Calls Tryz.prog 99 #[.pointer (some ⟨g, 0, none⟩), .string (bt s)] W (Giv g b n c L rdU W j 1 (want L s j q))) := fun _ _ _ s hs hW => expect_x hW s hs
theorem enters (f : FuncId) (h : ∀ (args : Array Value) (W : World), (callFunc f args).run Tryz.prog W = .ok (.enter f args) W) : Enters f := h
theorem en_unary : Enters 228 := fun args W => by simp [go_sem]
theorem product_x {S : P Ex} {q : Nat} (hf : Does g b n c L 228 rdE S q) : Does g b n c L 221 rdE (chain L S [([42], 14)]) q := by
  intro w i o h hq
  generalize hr : chain L S [([42], 14)] i o = r
  have hsz := h.cs.size
  have hbz := h.hb
  have b0 := allocB w (.cells #[.int .i64 0, .int .i64 0, .bool false, .slice none 0 0, .slice none 0 0, .string ⟨#[]⟩, .slice none 0 0] 53)
  have x0 := box_alloc w 53 #[.int .i64 0, .int .i64 0, .bool false, .slice none 0 0, .slice none 0 0, .string ⟨#[]⟩, .slice none 0 0]
  have at0 := h.new b0
  have hB0 : But g w (w.alloc (.cells #[.int .i64 0, .int .i64 0, .bool false, .slice none 0 0, .slice none 0 0, .string ⟨#[]⟩, .slice none 0 0] 53)) := But.of_below b0
  have hs0 : Hid ((w.alloc (.cells #[.int .i64 0, .int .i64 0, .bool false, .slice none 0 0, .slice none 0 0, .string ⟨#[]⟩, .slice none 0 0] 53)).heap.size = w.heap.size + 1) := by show _ = _; simp
  clear h b0
  go_enter Tryz.func221, Tryz.ntmps221
  go_wp2_with fail
  generalize w.alloc (.cells #[.int .i64 0, .int .i64 0, .bool false, .slice none 0 0, .slice none 0 0, .string ⟨#[]⟩, .slice none 0 0] 53) = W0 at *
  have b1 := allocB W0 (.cells #[.string ⟨#[42]⟩, .int .i64 14] 206)
  have hops : OpsAt (W0.alloc (.cells #[.string ⟨#[42]⟩, .int .i64 14] 206)) W0.heap.size [([42], 14)] := by
    intro j s op hj
    have hx := box_alloc W0 206 #[.string ⟨#[42]⟩, .int .i64 14]
    match j, hj with
    | 0, hj => simp at hj; obtain ⟨rfl, rfl⟩ := hj; exact ⟨box_cell hx 0 _ rfl, box_cell hx 1 _ rfl⟩
    | j + 1, hj => simp at hj
  have at1 := at0.new b1
  have hB1 := hB0.trans (But.of_below b1)
  have x1 := x0.new b1
  have hs1 : W0.heap.size < (W0.alloc (.cells #[.string ⟨#[42]⟩, .int .i64 14] 206)).heap.size := by simp
  have hz := hs0.out
  rw [hz] at hops hs1
  clear at0 hB0 x0 b1 hz
  generalize W0.alloc (.cells #[.string ⟨#[42]⟩, .int .i64 14] 206) = W1 at *
  refine (chain_x hf en_unary at1 hq [([42], 14)] (w.heap.size + 1) 1 hops hs1 (by omega) rfl (by rintro s op h rfl; simp at h) (by decide)).mono ?_
  rintro en W2 (⟨a, j, q1, v, hm, rfl, ⟨a0, a1, a2, a3, a4, a5, a6, rfl, hv⟩, hat, hle, hb⟩ | ⟨j, er, hm, rfl, hj, hb⟩)
  · rw [hm] at hr
    have x2 := x1.but hb (by omega)
    have ones : (#[a0, a1, a2, a3, a4, a5, a6] : Array Value).all (·.oneCell') = true := hv.all
    go_wp2_with (refine wpList_store_row rfl 53 (.tmp 2) (.tmp 8) rfl w.heap.size _ rfl rfl 53 _ x2 (by kernel_rfl) rfl ones ?_)
    refine bodyPost_ret (results_cell_row rfl _ _ w.heap.size _ _ _ (.struct _) rfl (x2.set _) rfl rfl (by kernel_rfl)) rfl ?_
    exact Or.inl ⟨a, j, q1, _, hr.symm, rfl, ⟨_, _, _, _, _, _, _, rfl, (hv.row (by simp [Fr]; omega) _).in fun k hk => by simp [Fr] at hk ⊢; omega⟩, hat.row _ hsz hbz, hle, But.row (hB1.trans hb) (Nat.le_refl _) _⟩
  · rw [hm] at hr
    go_wp2
    exact post_panic (fn := Tryz.f221) rfl (Or.inr ⟨j, er, hr.symm, rfl, hj, hB1.trans hb⟩)

theorem en_product : Enters 221 := fun args W => by simp [go_sem]
theorem sum_x {S : P Ex} {q : Nat} (hf : Does g b n c L 221 rdE S q) : Does g b n c L 215 rdE (chain L S [([43], 12), ([45], 13)]) q := by
  intro w i o h hq
  generalize hr : chain L S [([43], 12), ([45], 13)] i o = r
  have hsz := h.cs.size
  have hbz := h.hb
  have b0 := allocB w (.cells #[.int .i64 0, .int .i64 0, .bool false, .slice none 0 0, .slice none 0 0, .string ⟨#[]⟩, .slice none 0 0] 53)
  have x0 := box_alloc w 53 #[.int .i64 0, .int .i64 0, .bool false, .slice none 0 0, .slice none 0 0, .string ⟨#[]⟩, .slice none 0 0]
  have at0 := h.new b0
  have hB0 : But g w (w.alloc (.cells #[.int .i64 0, .int .i64 0, .bool false, .slice none 0 0, .slice none 0 0, .string ⟨#[]⟩, .slice none 0 0] 53)) := But.of_below b0
  have hs0 : Hid ((w.alloc (.cells #[.int .i64 0, .int .i64 0, .bool false, .slice none 0 0, .slice none 0 0, .string ⟨#[]⟩, .slice none 0 0] 53)).heap.size = w.heap.size + 1) := by show _ = _; simp
  clear h b0
  go_enter Tryz.func215, Tryz.ntmps215
  go_wp2_with fail
  generalize w.alloc (.cells #[.int .i64 0, .int .i64 0, .bool false, .slice none 0 0, .slice none 0 0, .string ⟨#[]⟩, .slice none 0 0] 53) = W0 at *
  have b1 := allocB W0 (.cells #[.string ⟨#[43]⟩, .int .i64 12, .string ⟨#[45]⟩, .int .i64 13] 206)
  have hops : OpsAt (W0.alloc (.cells #[.string ⟨#[43]⟩, .int .i64 12, .string ⟨#[45]⟩, .int .i64 13] 206)) W0.heap.size [([43], 12), ([45], 13)] := by
    intro j s op hj
    have hx := box_alloc W0 206 #[.string ⟨#[43]⟩, .int .i64 12, .string ⟨#[45]⟩, .int .i64 13]
    match j, hj with
    | 0, hj => simp at hj; obtain ⟨rfl, rfl⟩ := hj; exact ⟨box_cell hx 0 _ rfl, box_cell hx 1 _ rfl⟩
    | 1, hj => simp at hj; obtain ⟨rfl, rfl⟩ := hj; exact ⟨box_cell hx 2 _ rfl, box_cell hx 3 _ rfl⟩
    | j + 2, hj => simp at hj
  have at1 := at0.new b1
  have hB1 := hB0.trans (But.of_below b1)
  have x1 := x0.new b1
  have hs1 : W0.heap.size < (W0.alloc (.cells #[.string ⟨#[43]⟩, .int .i64 12, .string ⟨#[45]⟩, .int .i64 13] 206)).heap.size := by simp
  have hz := hs0.out
  rw [hz] at hops hs1
  clear at0 hB0 x0 b1 hz
  generalize W0.alloc (.cells #[.string ⟨#[43]⟩, .int .i64 12, .string ⟨#[45]⟩, .int .i64 13] 206) = W1 at *
  refine (chain_x hf en_product at1 hq [([43], 12), ([45], 13)] (w.heap.size + 1) 2 hops hs1 (by omega) rfl (by rintro s op h rfl; simp at h) (by decide)).mono ?_
  rintro en W2 (⟨a, j, q1, v, hm, rfl, ⟨a0, a1, a2, a3, a4, a5, a6, rfl, hv⟩, hat, hle, hb⟩ | ⟨j, er, hm, rfl, hj, hb⟩)
  · rw [hm] at hr
    have x2 := x1.but hb (by omega)
    have ones : (#[a0, a1, a2, a3, a4, a5, a6] : Array Value).all (·.oneCell') = true := hv.all
    go_wp2_with (refine wpList_store_row rfl 53 (.tmp 2) (.tmp 9) rfl w.heap.size _ rfl rfl 53 _ x2 (by kernel_rfl) rfl ones ?_)
    refine bodyPost_ret (results_cell_row rfl _ _ w.heap.size _ _ _ (.struct _) rfl (x2.set _) rfl rfl (by kernel_rfl)) rfl ?_
    exact Or.inl ⟨a, j, q1, _, hr.symm, rfl, ⟨_, _, _, _, _, _, _, rfl, (hv.row (by simp [Fr]; omega) _).in fun k hk => by simp [Fr] at hk ⊢; omega⟩, hat.row _ hsz hbz, hle, But.row (hB1.trans hb) (Nat.le_refl _) _⟩
  · rw [hm] at hr
    go_wp2
    exact post_panic (fn := Tryz.f215) rfl (Or.inr ⟨j, er, hr.symm, rfl, hj, hB1.trans hb⟩)

theorem en_comparison : Enters 206 := fun args W => by simp [go_sem]
theorem and_x {S : P Ex} {q : Nat} (hf : Does g b n c L 206 rdE S q) : Does g b n c L 192 rdE (chain L S [([38, 38], 6)]) q := by
  intro w i o h hq
  generalize hr : chain L S [([38, 38], 6)] i o = r
  have hsz := h.cs.size
  have hbz := h.hb
  have b0 := allocB w (.cells #[.int .i64 0, .int .i64 0, .bool false, .slice none 0 0, .slice none 0 0, .string ⟨#[]⟩, .slice none 0 0] 53)
  have x0 := box_alloc w 53 #[.int .i64 0, .int .i64 0, .bool false, .slice none 0 0, .slice none 0 0, .string ⟨#[]⟩, .slice none 0 0]
  have at0 := h.new b0
  have hB0 : But g w (w.alloc (.cells #[.int .i64 0, .int .i64 0, .bool false, .slice none 0 0, .slice none 0 0, .string ⟨#[]⟩, .slice none 0 0] 53)) := But.of_below b0
  have hs0 : Hid ((w.alloc (.cells #[.int .i64 0, .int .i64 0, .bool false, .slice none 0 0, .slice none 0 0, .string ⟨#[]⟩, .slice none 0 0] 53)).heap.size = w.heap.size + 1) := by show _ = _; simp
  clear h b0
  go_enter Tryz.func192, Tryz.ntmps192
  go_wp2_with fail
  generalize w.alloc (.cells #[.int .i64 0, .int .i64 0, .bool false, .slice none 0 0, .slice none 0 0, .string ⟨#[]⟩, .slice none 0 0] 53) = W0 at *
  have b1 := allocB W0 (.cells #[.string ⟨#[38, 38]⟩, .int .i64 6] 206)
  have hops : OpsAt (W0.alloc (.cells #[.string ⟨#[38, 38]⟩, .int .i64 6] 206)) W0.heap.size [([38, 38], 6)] := by
    intro j s op hj
    have hx := box_alloc W0 206 #[.string ⟨#[38, 38]⟩, .int .i64 6]
    match j, hj with
    | 0, hj => simp at hj; obtain ⟨rfl, rfl⟩ := hj; exact ⟨box_cell hx 0 _ rfl, box_cell hx 1 _ rfl⟩
    | j + 1, hj => simp at hj
  have at1 := at0.new b1
  have hB1 := hB0.trans (But.of_below b1)
  have x1 := x0.new b1
  have hs1 : W0.heap.size < (W0.alloc (.cells #[.string ⟨#[38, 38]⟩, .int .i64 6] 206)).heap.size := by simp
  have hz := hs0.out
  rw [hz] at hops hs1
  clear at0 hB0 x0 b1 hz
  generalize W0.alloc (.cells #[.string ⟨#[38, 38]⟩, .int .i64 6] 206) = W1 at *
  refine (chain_x hf en_comparison at1 hq [([38, 38], 6)] (w.heap.size + 1) 1 hops hs1 (by omega) rfl (by rintro s op h rfl; simp at h) (by decide)).mono ?_
  rintro en W2 (⟨a, j, q1, v, hm, rfl, ⟨a0, a1, a2, a3, a4, a5, a6, rfl, hv⟩, hat, hle, hb⟩ | ⟨j, er, hm, rfl, hj, hb⟩)
  · rw [hm] at hr
    have x2 := x1.but hb (by omega)
    have ones : (#[a0, a1, a2, a3, a4, a5, a6] : Array Value).all (·.oneCell') = true := hv.all
    go_wp2_with (refine wpList_store_row rfl 53 (.tmp 2) (.tmp 8) rfl w.heap.size _ rfl rfl 53 _ x2 (by kernel_rfl) rfl ones ?_)
    refine bodyPost_ret (results_cell_row rfl _ _ w.heap.size _ _ _ (.struct _) rfl (x2.set _) rfl rfl (by kernel_rfl)) rfl ?_
    exact Or.inl ⟨a, j, q1, _, hr.symm, rfl, ⟨_, _, _, _, _, _, _, rfl, (hv.row (by simp [Fr]; omega) _).in fun k hk => by simp [Fr] at hk ⊢; omega⟩, hat.row _ hsz hbz, hle, But.row (hB1.trans hb) (Nat.le_refl _) _⟩
  · rw [hm] at hr
    go_wp2
    exact post_panic (fn := Tryz.f192) rfl (Or.inr ⟨j, er, hr.symm, rfl, hj, hB1.trans hb⟩)

theorem en_and : Enters 192 := fun args W => by simp [go_sem]
theorem or_x {S : P Ex} {q : Nat} (hf : Does g b n c L 192 rdE S q) : Does g b n c L 179 rdE (chain L S [([124, 124], 7)]) q := by
  intro w i o h hq
  generalize hr : chain L S [([124, 124], 7)] i o = r
  have hsz := h.cs.size
  have hbz := h.hb
  have b0 := allocB w (.cells #[.int .i64 0, .int .i64 0, .bool false, .slice none 0 0, .slice none 0 0, .string ⟨#[]⟩, .slice none 0 0] 53)
  have x0 := box_alloc w 53 #[.int .i64 0, .int .i64 0, .bool false, .slice none 0 0, .slice none 0 0, .string ⟨#[]⟩, .slice none 0 0]
  have at0 := h.new b0
  have hB0 : But g w (w.alloc (.cells #[.int .i64 0, .int .i64 0, .bool false, .slice none 0 0, .slice none 0 0, .string ⟨#[]⟩, .slice none 0 0] 53)) := But.of_below b0
  have hs0 : Hid ((w.alloc (.cells #[.int .i64 0, .int .i64 0, .bool false, .slice none 0 0, .slice none 0 0, .string ⟨#[]⟩, .slice none 0 0] 53)).heap.size = w.heap.size + 1) := by show _ = _; simp
  clear h b0
  go_enter Tryz.func179, Tryz.ntmps179
  go_wp2_with fail
  generalize w.alloc (.cells #[.int .i64 0, .int .i64 0, .bool false, .slice none 0 0, .slice none 0 0, .string ⟨#[]⟩, .slice none 0 0] 53) = W0 at *
  have b1 := allocB W0 (.cells #[.string ⟨#[124, 124]⟩, .int .i64 7] 206)
  have hops : OpsAt (W0.alloc (.cells #[.string ⟨#[124, 124]⟩, .int .i64 7] 206)) W0.heap.size [([124, 124], 7)] := by
    intro j s op hj
    have hx := box_alloc W0 206 #[.string ⟨#[124, 124]⟩, .int .i64 7]
    match j, hj with
    | 0, hj => simp at hj; obtain ⟨rfl, rfl⟩ := hj; exact ⟨box_cell hx 0 _ rfl, box_cell hx 1 _ rfl⟩
    | j + 1, hj => simp at hj
  have at1 := at0.new b1
  have hB1 := hB0.trans (But.of_below b1)
  have x1 := x0.new b1
  have hs1 : W0.heap.size < (W0.alloc (.cells #[.string ⟨#[124, 124]⟩, .int .i64 7] 206)).heap.size := by simp
  have hz := hs0.out
  rw [hz] at hops hs1
  clear at0 hB0 x0 b1 hz
  generalize W0.alloc (.cells #[.string ⟨#[124, 124]⟩, .int .i64 7] 206) = W1 at *
  refine (chain_x hf en_and at1 hq [([124, 124], 7)] (w.heap.size + 1) 1 hops hs1 (by omega) rfl (by rintro s op h rfl; simp at h) (by decide)).mono ?_
  rintro en W2 (⟨a, j, q1, v, hm, rfl, ⟨a0, a1, a2, a3, a4, a5, a6, rfl, hv⟩, hat, hle, hb⟩ | ⟨j, er, hm, rfl, hj, hb⟩)
  · rw [hm] at hr
    have x2 := x1.but hb (by omega)
    have ones : (#[a0, a1, a2, a3, a4, a5, a6] : Array Value).all (·.oneCell') = true := hv.all
    go_wp2_with (refine wpList_store_row rfl 53 (.tmp 2) (.tmp 8) rfl w.heap.size _ rfl rfl 53 _ x2 (by kernel_rfl) rfl ones ?_)
    refine bodyPost_ret (results_cell_row rfl _ _ w.heap.size _ _ _ (.struct _) rfl (x2.set _) rfl rfl (by kernel_rfl)) rfl ?_
    exact Or.inl ⟨a, j, q1, _, hr.symm, rfl, ⟨_, _, _, _, _, _, _, rfl, (hv.row (by simp [Fr]; omega) _).in fun k hk => by simp [Fr] at hk ⊢; omega⟩, hat.row _ hsz hbz, hle, But.row (hB1.trans hb) (Nat.le_refl _) _⟩
  · rw [hm] at hr
    go_wp2
    exact post_panic (fn := Tryz.f179) rfl (Or.inr ⟨j, er, hr.symm, rfl, hj, hB1.trans hb⟩)

set_option maxHeartbeats 4000000 in
theorem unary_x {X : P Ex} {q : Nat} (hp : Does g b n c L 239 rdE (post L X) q) : ∀ (k : Nat) (w : World) (i : Nat) (o : Int), At w g b n c L i o → n ≤ q + i → n ≤ k + i →
    Calls Tryz.prog 228 #[.pointer (some ⟨g, 0, none⟩)] w (Giv g b n c L (rdE w.heap.size) w i 0 (unF L X k i o)) := by
  intro k
  induction k with
  | zero => intro w i o h _ hk; have := h.hi; omega
  | succ k ih =>
    intro w i o h hq hk
    have ih := Lib.hid ih
    have HP := Lib.hid hp
    generalize hr : unF L X (k + 1) i o = r
    unfold unF at hr
    clear hp
    have hsz := h.cs.size
    have hbz := h.hb
    have b0 := allocB w (.cells #[.int .i64 0, .int .i64 0, .bool false, .slice none 0 0, .slice none 0 0, .string ⟨#[]⟩, .slice none 0 0] 53)
    have x0 := box_alloc w 53 #[.int .i64 0, .int .i64 0, .bool false, .slice none 0 0, .slice none 0 0, .string ⟨#[]⟩, .slice none 0 0]
    have at0 := h.new b0
    have hs0 : w.heap.size + 1 ≤ (w.alloc (.cells #[.int .i64 0, .int .i64 0, .bool false, .slice none 0 0, .slice none 0 0, .string ⟨#[]⟩, .slice none 0 0] 53)).heap.size := by simp
    have hB0 : But g w (w.alloc (.cells #[.int .i64 0, .int .i64 0, .bool false, .slice none 0 0, .slice none 0 0, .string ⟨#[]⟩, .slice none 0 0] 53)) := But.of_below b0
    clear h
    have HA := HA_ (g := g) (b := b) (n := n) (c := c) (L := L)
    go_enter Tryz.func228, Tryz.ntmps228
    go_wp2_with fail
    generalize w.alloc (.cells #[.int .i64 0, .int .i64 0, .bool false, .slice none 0 0, .slice none 0 0, .string ⟨#[]⟩, .slice none 0 0] 53) = W0 at *
    refine (HA.out _ _ _ [33] (by decide) at0).mono ?_
    rintro en W2 (⟨t1, j3, q4, v11, hm5, rfl, rfl, hat6, hle7, hb8⟩ | ⟨j3, er9, hm5, rfl, hj10, hb8⟩)
    rotate_left
    · rw [bd_no hm5] at hr
      go_wp2
      exact post_panic (fn := Tryz.f228) rfl (Or.inr ⟨j3, er9, hr.symm, rfl, hj10, But.trans hB0 hb8⟩)
    rw [bd_ok hm5] at hr
    have at12 := hat6
    have hB13 : But g w W2 := But.trans hB0 hb8
    have x14 := x0.but hb8 (by omega)
    have hs15 : w.heap.size + 1 ≤ W2.heap.size := Nat.le_trans hs0 hb8.size
    clear hat6 hB0 x0
    cases t1
    · simp only [Bool.false_eq_true, if_false] at hr
      obtain ⟨rfl, rfl, _⟩ := acc_not hm5
      clear hm5
      go_wp2_with fail
      refine (HA.out _ _ _ [45] (by decide) at12).mono ?_
      rintro en W17 (⟨t16, j18, q19, v26, hm20, rfl, rfl, hat21, hle22, hb23⟩ | ⟨j18, er24, hm20, rfl, hj25, hb23⟩)
      rotate_left
      · rw [bd_no hm20] at hr
        go_wp2
        exact post_panic (fn := Tryz.f228) rfl (Or.inr ⟨j18, er24, hr.symm, rfl, hj25, But.trans hB13 hb23⟩)
      rw [bd_ok hm20] at hr
      have at27 := hat21
      have hB28 : But g w W17 := But.trans hB13 hb23
      have x29 := x14.but hb23 (by omega)
      have hs30 : w.heap.size + 1 ≤ W17.heap.size := Nat.le_trans hs15 hb23.size
      clear hat21 hB13 x14
      cases t16
      · simp only [Bool.false_eq_true, if_false] at hr
        obtain ⟨rfl, rfl, _⟩ := acc_not hm20
        clear hm20
        go_wp2_with fail
        refine (HP.out _ _ _ at27 (by omega)).mono ?_
        rintro en W32 (⟨x, j33, q34, v41, hm35, rfl, ⟨x0, x1, x2, x3, x4, x5, x6, rfl, hv31⟩, hat36, hle37, hb38⟩ | ⟨j33, er39, hm35, rfl, hj40, hb38⟩)
        rotate_left
        · rw [hm35] at hr
          go_wp2
          exact post_panic (fn := Tryz.f228) rfl (Or.inr ⟨j33, er39, hr.symm, rfl, hj40, But.trans hB28 hb38⟩)
        rw [hm35] at hr
        have at42 := hat36
        have hB43 : But g w W32 := But.trans hB28 hb38
        have x44 := x29.but hb38 (by omega)
        have hs45 : w.heap.size + 1 ≤ W32.heap.size := Nat.le_trans hs30 hb38.size
        clear hat36 hB28 x29
        have d46 : Rds (Fr (w.heap.size + 1)) W32 x.d [x0, x1, x2, x3, x4, x5, x6] := hv31.in fun k hk => Nat.le_trans (by assumption) hk
        clear hv31
        go_wp2_with (refine wpList_store_row rfl 53 (.tmp 2) (.tmp 18) rfl w.heap.size _ rfl rfl 53 _ x44 (by kernel_rfl) rfl (Rds.all d46) ?_)
        refine bodyPost_ret (results_cell_row rfl _ _ w.heap.size _ _ _ (.struct _) rfl (x44.set _) rfl rfl (by kernel_rfl)) rfl ?_
        exact Or.inl ⟨x, j33, q34, _, hr.symm, rfl, ⟨_, _, _, _, _, _, _, rfl, (d46.row (by simp [Fr]) _).in fun k hk => by simp [Fr] at hk ⊢; omega⟩, at42.row _ hsz hbz, by omega, But.row hB43 (Nat.le_refl _) _⟩
      · simp only [if_true] at hr
        obtain ⟨rfl, _⟩ := acc_yes hm20
        clear hm20
        go_wp2_with fail
        refine (ih.out _ _ _ at27 (by omega) (by omega)).mono ?_
        rintro en W48 (⟨x, j49, q50, v57, hm51, rfl, ⟨x0, x1, x2, x3, x4, x5, x6, rfl, hv47⟩, hat52, hle53, hb54⟩ | ⟨j49, er55, hm51, rfl, hj56, hb54⟩)
        rotate_left
        · rw [bd_no hm51] at hr
          go_wp2
          exact post_panic (fn := Tryz.f228) rfl (Or.inr ⟨j49, er55, hr.symm, rfl, hj56, But.trans hB28 hb54⟩)
        rw [bd_ok hm51] at hr
        have at58 := hat52
        have hB59 : But g w W48 := But.trans hB28 hb54
        have x60 := x29.but hb54 (by omega)
        have hs61 : w.heap.size + 1 ≤ W48.heap.size := Nat.le_trans hs30 hb54.size
        clear hat52 hB28 x29
        have d62 : Rds (Fr (w.heap.size + 1)) W48 x.d [x0, x1, x2, x3, x4, x5, x6] := hv47.in fun k hk => Nat.le_trans (by assumption) hk
        clear hv47
        go_wp2_with fail
        have bl65 := allocB W48 (.cells #[x0, x1, x2, x3, x4, x5, x6] 53)
        have dl66 : Rd (Fr (w.heap.size + 1)) (W48.alloc (.cells #[x0, x1, x2, x3, x4, x5, x6] 53)) (.l 7 (dsE [x])) (.slice (some ⟨W48.heap.size, 0, none⟩) 1 1) := by
          have := Rds.laidQ (sz := 7) (n := 1) 53 (d62) (by simp [Ex.d_len]) (show w.heap.size + 1 ≤ W48.heap.size by assumption) (by decide)
          simpa [dsE] using this
        have at67 := at58.new bl65
        have hB68 : But g w (W48.alloc (.cells #[x0, x1, x2, x3, x4, x5, x6] 53)) := But.trans hB59 (But.of_below bl65)
        have x69 := x60.new bl65
        have d70 := d62.new bl65
        have hs71 : w.heap.size + 1 ≤ (W48.alloc (.cells #[x0, x1, x2, x3, x4, x5, x6] 53)).heap.size := Nat.le_trans hs61 bl65.size
        clear at58 hB59 x60 d62
        generalize W48.alloc (.cells #[x0, x1, x2, x3, x4, x5, x6] 53) = W63 at *
        generalize hgA64 : W48.heap.size = A64 at *
        clear hgA64 bl65
        refine (node_x _ _ _ _ _).mono ?_
        rintro en W72 ⟨rfl, hb73⟩
        have at74 := at67.new hb73
        have hB75 : But g w W72 := But.trans hB68 (But.of_below hb73)
        have x76 := x69.new hb73
        have d77 := d70.new hb73
        have d78 := dl66.new hb73
        have hs79 : w.heap.size + 1 ≤ W72.heap.size := Nat.le_trans hs71 hb73.size
        clear at67 hB68 x69 d70 dl66
        have nd80 := node_rds 11 [x] d78
        go_wp2_with (refine wpList_store_row rfl 53 (.tmp 2) (.tmp 16) rfl w.heap.size _ rfl rfl 53 _ x76 (by kernel_rfl) rfl (by simp [Value.oneCell']) ?_)
        refine bodyPost_ret (results_cell_row rfl _ _ w.heap.size _ _ _ (.struct _) rfl (x76.set _) rfl rfl (by kernel_rfl)) rfl ?_
        exact Or.inl ⟨node 11 [x], j49, q50, _, hr.symm, rfl, ⟨_, _, _, _, _, _, _, rfl, (nd80.row (by simp [Fr]) _).in fun k hk => by simp [Fr] at hk ⊢; omega⟩, at74.row _ hsz hbz, by omega, But.row hB75 (Nat.le_refl _) _⟩
    · simp only [if_true] at hr
      obtain ⟨rfl, _⟩ := acc_yes hm5
      clear hm5
      go_wp2_with fail
      refine (ih.out _ _ _ at12 (by omega) (by omega)).mono ?_
      rintro en W82 (⟨x, j83, q84, v91, hm85, rfl, ⟨x0, x1, x2, x3, x4, x5, x6, rfl, hv81⟩, hat86, hle87, hb88⟩ | ⟨j83, er89, hm85, rfl, hj90, hb88⟩)
      rotate_left
      · rw [bd_no hm85] at hr
        go_wp2
        exact post_panic (fn := Tryz.f228) rfl (Or.inr ⟨j83, er89, hr.symm, rfl, hj90, But.trans hB13 hb88⟩)
      rw [bd_ok hm85] at hr
      have at92 := hat86
      have hB93 : But g w W82 := But.trans hB13 hb88
      have x94 := x14.but hb88 (by omega)
      have hs95 : w.heap.size + 1 ≤ W82.heap.size := Nat.le_trans hs15 hb88.size
      clear hat86 hB13 x14
      have d96 : Rds (Fr (w.heap.size + 1)) W82 x.d [x0, x1, x2, x3, x4, x5, x6] := hv81.in fun k hk => Nat.le_trans (by assumption) hk
      clear hv81
      go_wp2_with fail
      have bl99 := allocB W82 (.cells #[x0, x1, x2, x3, x4, x5, x6] 53)
      have dl100 : Rd (Fr (w.heap.size + 1)) (W82.alloc (.cells #[x0, x1, x2, x3, x4, x5, x6] 53)) (.l 7 (dsE [x])) (.slice (some ⟨W82.heap.size, 0, none⟩) 1 1) := by
        have := Rds.laidQ (sz := 7) (n := 1) 53 (d96) (by simp [Ex.d_len]) (show w.heap.size + 1 ≤ W82.heap.size by assumption) (by decide)
        simpa [dsE] using this
      have at101 := at92.new bl99
      have hB102 : But g w (W82.alloc (.cells #[x0, x1, x2, x3, x4, x5, x6] 53)) := But.trans hB93 (But.of_below bl99)
      have x103 := x94.new bl99
      have d104 := d96.new bl99
      have hs105 : w.heap.size + 1 ≤ (W82.alloc (.cells #[x0, x1, x2, x3, x4, x5, x6] 53)).heap.size := Nat.le_trans hs95 bl99.size
      clear at92 hB93 x94 d96
      generalize W82.alloc (.cells #[x0, x1, x2, x3, x4, x5, x6] 53) = W97 at *
      generalize hgA98 : W82.heap.size = A98 at *
      clear hgA98 bl99
      refine (node_x _ _ _ _ _).mono ?_
      rintro en W106 ⟨rfl, hb107⟩
      have at108 := at101.new hb107
      have hB109 : But g w W106 := But.trans hB102 (But.of_below hb107)
      have x110 := x103.new hb107
      have d111 := d104.new hb107
      have d112 := dl100.new hb107
      have hs113 : w.heap.size + 1 ≤ W106.heap.size := Nat.le_trans hs105 hb107.size
      clear at101 hB102 x103 d104 dl100
      have nd114 := node_rds 5 [x] d112
      go_wp2_with (refine wpList_store_row rfl 53 (.tmp 2) (.tmp 9) rfl w.heap.size _ rfl rfl 53 _ x110 (by kernel_rfl) rfl (by simp [Value.oneCell']) ?_)
      refine bodyPost_ret (results_cell_row rfl _ _ w.heap.size _ _ _ (.struct _) rfl (x110.set _) rfl rfl (by kernel_rfl)) rfl ?_
      exact Or.inl ⟨node 5 [x], j83, q84, _, hr.symm, rfl, ⟨_, _, _, _, _, _, _, rfl, (nd114.row (by simp [Fr]) _).in fun k hk => by simp [Fr] at hk ⊢; omega⟩, at108.row _ hsz hbz, by omega, But.row hB109 (Nat.le_refl _) _⟩
end Ps
end Go.Proofs.YtggdhgppclnckaaGreatDoor
