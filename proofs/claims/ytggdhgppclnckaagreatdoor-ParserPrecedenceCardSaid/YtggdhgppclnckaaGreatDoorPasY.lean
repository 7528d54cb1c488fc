/-
  Declarations; statements of any depth.
-/
import Derived.Test.YtggdhgppclnckaaGreatDoorPasX
import Derived.Test.YtggdhgppclnckaaGreatDoorPasO
import Derived.Test.YtggdhgppclnckaaGreatDoorPasQ
import Derived.Test.YtggdhgppclnckaaGreatDoorPasV
import Derived.Test.YtggdhgppclnckaaGreatDoorPasW
namespace Go.Proofs.YtggdhgppclnckaaGreatDoor
open Go Go.RowKit Lx
set_option maxRecDepth 20000

namespace Ps
variable {w : World} {g b n c : Nat} {L : List Tok} {i : Nat} {o : Int}
theorem stmt_all (hfr : FrOk g b n c L) : ∀ k : Nat, Does1 g b n c L 143 rdSt (stmt L k) k
  | 0 => fun w i o h hq => absurd h.hi (by omega)
  | k + 1 => by
    intro w i o h hq
    have hL : L.length = n := h.hn
    have hx : Does g b n c L 166 rdE (expr L L.length) (k + 1) := fun w i o h hq => expr_all hfr L.length w i o h (by have := h.hn; omega)
    exact statement_x hx (body_x (stmt_all hfr k)) (change_x hx (draw_x hfr hx)) w i o h hq
theorem decl_x : Does g b n c L 127 rdDe (decl L) n := by
  intro w i o h hq
  have hsz := h.cs.size
  have hbz := h.hb
  have hLn := h.hn
  have b0 := allocB w (.cells #[.string ⟨#[]⟩, .int .i64 0, .int .i64 0, .int .i64 0, .int .i64 0, .slice none 0 0] 76)
  have x0 := box_alloc w 76 #[.string ⟨#[]⟩, .int .i64 0, .int .i64 0, .int .i64 0, .int .i64 0, .slice none 0 0]
  have at0 := h.new b0
  have hB0 : But g w (w.alloc (.cells #[.string ⟨#[]⟩, .int .i64 0, .int .i64 0, .int .i64 0, .int .i64 0, .slice none 0 0] 76)) := But.of_below b0
  have hs0 : w.heap.size + 1 ≤ (w.alloc (.cells #[.string ⟨#[]⟩, .int .i64 0, .int .i64 0, .int .i64 0, .int .i64 0, .slice none 0 0] 76)).heap.size := by simp
  clear h b0
  have HW := HW_ (g := g) (b := b) (n := n) (c := c) (L := L)
  have HNM : Hid (∀ W j q, At W g b n c L j q → Calls Tryz.prog 98 #[.pointer (some ⟨g, 0, none⟩)] W (Giv g b n c L rdS W j 1 (name L j q))) := fun W j q hW => name_x hW
  have HT : Hid (∀ W j q, At W g b n c L j q → Calls Tryz.prog 142 #[.pointer (some ⟨g, 0, none⟩)] W (Giv g b n c L (rdT W.heap.size) W j 0 (tyF L L.length j q))) := fun W j q hW => ty_all L.length W j q hW (by omega)
  generalize hr : decl L i o = r
  unfold decl at hr
  go_enter Tryz.func127, Tryz.ntmps127
  go_wp2_with fail
  generalize w.alloc (.cells #[.string ⟨#[]⟩, .int .i64 0, .int .i64 0, .int .i64 0, .int .i64 0, .slice none 0 0] 76) = W0 at *
  refine (HNM.out _ _ _ at0).mono ?_
  rintro en w1 (⟨s, j, q1, v, hm, rfl, rfl, hat, hle, hb⟩ | ⟨j, er, hm, rfl, hj, hb⟩)
  · rw [bd_ok hm] at hr
    have x1 := x0.but hb (by omega)
    clear hm at0 x0
    go_wp2_with fail
    refine (HW.out _ _ _ [58] (by decide) hat).mono ?_
    rintro en w2 (⟨⟨⟩, j2, q2, v, hm, rfl, rfl, hat2, hle2, hb2⟩ | ⟨j2, er, hm, rfl, hj2, hb2⟩)
    · rw [bd_ok hm] at hr
      have x2 := x1.but hb2 (by omega)
      clear hm hat x1
      go_wp2_with fail
      refine (HT.out _ _ _ hat2).mono ?_
      rintro en w3 (⟨t, j3, q3, v, hm, rfl, ⟨a0, a1, a2, a3, a4, rfl, hv⟩, hat3, hle3, hb3⟩ | ⟨j3, er, hm, rfl, hj3, hb3⟩)
      · rw [bd_ok hm] at hr
        have x3 := x2.but hb3 (by omega)
        have hs2 : w.heap.size + 1 ≤ w2.heap.size := Nat.le_trans hs0 (Nat.le_trans hb.size hb2.size)
        have hd : Rds (Fr (w.heap.size + 1)) w3 (De.mk s t).d [.string (bt s), a0, a1, a2, a3, a4] := .cons (.s s) (hv.in fun k hk => Nat.le_trans hs2 hk)
        have ones : (#[.string (bt s), a0, a1, a2, a3, a4] : Array Value).all (·.oneCell') = true := hd.all
        clear hm hat2 x2
        go_wp2_with (refine wpList_store_row rfl 76 (.tmp 2) (.tmp 11) rfl w.heap.size _ rfl rfl 76 _ x3 (by kernel_rfl) rfl ones ?_)
        refine bodyPost_ret (results_cell_row rfl _ _ w.heap.size _ _ _ (.struct _) rfl (x3.set _) rfl rfl (by kernel_rfl)) rfl ?_
        exact Or.inl ⟨⟨s, t⟩, _, _, _, hr.symm, rfl, ⟨_, _, _, _, _, _, rfl, (hd.row (by simp [Fr]) _).in fun k hk => by simp [Fr] at hk ⊢; omega⟩, hat3.row _ hsz hbz, by omega, But.row (((hB0.trans hb).trans hb2).trans hb3) (Nat.le_refl _) _⟩
      · rw [bd_no hm] at hr
        go_wp2
        exact post_panic (fn := Tryz.f127) rfl (Or.inr ⟨j3, er, hr.symm, rfl, hj3, ((hB0.trans hb).trans hb2).trans hb3⟩)
    · rw [bd_no hm] at hr
      go_wp2
      exact post_panic (fn := Tryz.f127) rfl (Or.inr ⟨j2, er, hr.symm, rfl, hj2, (hB0.trans hb).trans hb2⟩)
  · rw [bd_no hm] at hr
    go_wp2
    exact post_panic (fn := Tryz.f127) rfl (Or.inr ⟨j, er, hr.symm, rfl, hj, hB0.trans hb⟩)
end Ps
end Go.Proofs.YtggdhgppclnckaaGreatDoor
