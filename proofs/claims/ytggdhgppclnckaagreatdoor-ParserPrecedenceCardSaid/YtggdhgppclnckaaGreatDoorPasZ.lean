/-
  Blocks.
-/
import Derived.Test.YtggdhgppclnckaaGreatDoorPasY
namespace Go.Proofs.YtggdhgppclnckaaGreatDoor
open Go Go.RowKit Lx
set_option maxRecDepth 20000

namespace Ps
variable {w : World} {g b n c : Nat} {L : List Tok} {i : Nat} {o : Int}
/-- Variables, statements, the name of the result. -/
def rdBl (b : Nat) (w : World) (x : List De × List St × Bs) (v : Value) : Prop := ∃ A n c B m d, v = .tuple #[.slice A n c, .slice B m d, .string (bt x.2.2)] ∧ Rd (Fr b) w (.l 6 (x.1.flatMap De.d)) (.slice A n c) ∧ Rd (Fr b) w (.l 25 (dsS x.2.1)) (.slice B m d)
set_option maxHeartbeats 8000000 in
theorem block_x (hfr : FrOk g b n c L) : Does1 g b n c L 102 rdBl (block L) n := by
  intro w i o h hq
  have HD : Hid (∀ W j q, At W g b n c L j q → Calls Tryz.prog 127 #[.pointer (some ⟨g, 0, none⟩)] W (Giv g b n c L (rdDe W.heap.size) W j 0 (decl L j q))) := fun W j q hW => decl_x W j q hW (by omega)
  have HS : Hid (∀ W j p, At W g b n c L j p → Calls Tryz.prog 128 #[.pointer (some ⟨g, 0, none⟩), .string ⟨#[114, 101, 116, 117, 114, 110]⟩] W (Giv g b n c L (rdL 25 St.d W.heap.size) W j 0 (stmtsF L (stmt L L.length) [114, 101, 116, 117, 114, 110] L.length [] j p))) := fun W j p hW => stmtsUntil_x (stmt_all hfr L.length) hW (by have := hW.hn; omega) [114, 101, 116, 117, 114, 110] (by decide)
  have HNM : Hid (∀ W j q, At W g b n c L j q → Calls Tryz.prog 98 #[.pointer (some ⟨g, 0, none⟩)] W (Giv g b n c L rdS W j 1 (name L j q))) := fun W j q hW => name_x hW
  have HA := HA_ (g := g) (b := b) (n := n) (c := c) (L := L)
  have HW := HW_ (g := g) (b := b) (n := n) (c := c) (L := L)
  obtain ⟨ti, hti, hz1, hs1, hby1⟩ := info_three info_Decl
  have hsz := h.cs.size
  have hbz := h.hb
  have hLn := h.hn
  obtain ⟨S, hS⟩ : ∃ S, w.heap.size = S := ⟨_, rfl⟩
  rw [hS] at hsz hbz
  generalize hr : block L i o = r
  unfold block at hr
  have HR := Lib.hid hr
  clear hr
  go_enter Tryz.func102, Tryz.ntmps102
  go_wp2
  go_loopg [5] L.length (fun k tv wr => ∃ A m c' l j q', tv = .slice A m c' ∧ Hid (bd (varsF L k l) (fun v => bd (stmtsF L (stmt L L.length) [114, 101, 116, 117, 114, 110] L.length []) fun b => bd (name L) fun s => bd (want L [59]) fun _ => ret (v, b, s)) j q' = r) ∧ At wr g b n c L j q' ∧ Own wr S 76 6 A m c' (l.flatMap De.d) ∧ l.length = m ∧ Hid (But g w wr) ∧ i ≤ j ∧ m ≤ j ∧ n ≤ k + j)
  case atStart => exact ⟨none, 0, 0, [], i, o, rfl, HR.out, h, Own.nil _ _ _ _, rfl, But.refl g w, by omega, by omega, by omega⟩
  case round =>
    obtain ⟨A, m, c', l, j, q', rfl, hk, hw, hown, hlm, hbw, hij, hmj, hkj⟩ := hrel
    clear HR h
    have hi := hw.hi
    have hl := hw.len
    have hln := hw.hn
    cases gk with
    | zero => omega
    | succ gk =>
      have hk2 := hk.out
      unfold varsF at hk2
      rw [bd_assoc] at hk2
      go_wp2_with fail
      refine (HA.out _ _ _ [118, 97, 114] (by decide) hw).mono ?_
      rintro en w3 (⟨t, j2, q2, v, hm, rfl, rfl, hat, hle, hb⟩ | ⟨j2, er, hm, rfl, hj2, hb⟩)
      · rw [bd_ok hm] at hk2
        have hS3 := hbw.out.size
        have hown3 := hown.but hb (by omega)
        have HB3 : Hid (But g w w3) := hbw.out.trans hb
        cases t
        · obtain ⟨rfl, rfl, _⟩ := acc_not hm
          simp only [Bool.false_eq_true, if_false] at hk2
          have hk3 : bd (stmtsF L (stmt L L.length) [114, 101, 116, 117, 114, 110] L.length []) (fun b => bd (name L) fun s => bd (want L [59]) fun _ => ret (l, b, s)) _ _ = r := hk2
          clear hown hb hm hw hbw hk hk2
          go_wp2_with fail
          refine (HS.out _ _ _ hat).mono ?_
          rintro en w4 (⟨bd4, j4, q4, v, hm, rfl, ⟨B, p, e, rfl, hv⟩, hat4, hle4, hb4⟩ | ⟨j4, er, hm, rfl, hj4, hb4⟩)
          · rw [bd_ok hm] at hk3
            have hown4 := hown3.but hb4 (by omega)
            have HB4 := HB3.out.trans hb4
            have hv4 : Rd (Fr S) w4 (.l 25 (dsS bd4)) (.slice B p e) := dsS_flat bd4 ▸ hv.in fun k hk => Nat.le_trans (by have := HB3.out.size; omega) hk
            clear hm hat hown3 HB3 hv
            go_wp2_with fail
            refine (HNM.out _ _ _ hat4).mono ?_
            rintro en w5 (⟨s, j5, q5, v, hm, rfl, rfl, hat5, hle5, hb5⟩ | ⟨j5, er, hm, rfl, hj5, hb5⟩)
            · rw [bd_ok hm] at hk3
              have hown5 := hown4.but hb5 (by omega)
              have hv5 := hv4.but hb5 (by simp [Fr]; omega)
              clear hm hat4 hown4 hv4
              go_wp2_with fail
              refine (HW.out _ _ _ [59] (by decide) hat5).mono ?_
              rintro en w6 (⟨⟨⟩, j6, q6, v, hm, rfl, rfl, hat6, hle6, hb6⟩ | ⟨j6, er, hm, rfl, hj6, hb6⟩)
              · rw [bd_ok hm] at hk3
                have hown6 := hown5.but hb6 (by omega)
                have hv6 := hv5.but hb6 (by simp [Fr]; omega)
                clear hm hat5 hown5 hv5
                go_wp2
                go_ret3
                exact Or.inl ⟨(l, bd4, s), _, _, _, hk3.symm, rfl, ⟨A, m, c', B, p, e, rfl, hS ▸ hown6.rd, hS ▸ hv6⟩, hat6, by omega, ((HB4.trans hb5).trans hb6)⟩
              · rw [bd_no hm] at hk3
                go_wp2
                exact post_panic (fn := Tryz.f102) rfl (Or.inr ⟨j6, er, hk3.symm, rfl, hj6, (HB4.trans hb5).trans hb6⟩)
            · rw [bd_no hm] at hk3
              go_wp2
              exact post_panic (fn := Tryz.f102) rfl (Or.inr ⟨j5, er, hk3.symm, rfl, hj5, HB4.trans hb5⟩)
          · rw [bd_no hm] at hk3
            go_wp2
            exact post_panic (fn := Tryz.f102) rfl (Or.inr ⟨j4, er, hk3.symm, rfl, hj4, HB3.out.trans hb4⟩)
        · obtain ⟨rfl, _⟩ := acc_yes hm
          simp only [if_true] at hk2
          rw [bd_assoc] at hk2
          clear hown hb hm hw hbw hk
          go_wp2_with fail
          refine (HD.out _ _ _ hat).mono ?_
          rintro en w4 (⟨x, j3, q3, v, hm, rfl, ⟨x0, x1, x2, x3, x4, x5, rfl, hv⟩, hat3, hle3, hb3⟩ | ⟨j3, er, hm, rfl, hj3, hb3⟩)
          · rw [bd_ok hm, bd_assoc] at hk2
            have HK := Lib.hid hk2
            have hown4 := hown3.but hb3 (by omega)
            have HB4 := HB3.out.trans hb3
            have hS4 := HB4.size
            obtain ⟨wz, hwz⟩ : ∃ wz, w4.alloc (.cells #[x0, x1, x2, x3, x4, x5] 76) = wz := ⟨_, rfl⟩
            have HWZ := Lib.hid hwz
            have bz : Below w4.heap.size w4 wz := hwz ▸ allocB w4 _
            have HBZ : Hid (But g w wz) := HB4.trans (But.of_below bz)
            have HATZ := Lib.hid (hat3.new bz)
            have hownz := hown4.new bz
            have hvz : Hid (Rds (fun k => S ≤ k ∧ offA A k) wz (De.d x) [x0, x1, x2, x3, x4, x5]) := by
              refine (hv.keep bz.size (fun k _ hk => bz.block k hk) fun k hk _ => ⟨by have := hb3.size; have := HB3.out.size; simp [Fr] at hk; omega, fun a ha => ?_⟩)
              have := (hown3.lt a ha).2
              simp [Fr] at hk; omega
            have NEWS := cells_of_alloc w4 [x0, x1, x2, x3, x4, x5] 76
            have ones := hv.ones
            have hsz4 : S ≤ wz.heap.size := by have := bz.size; omega
            obtain ⟨vs, hrow, hrd⟩ := hownz
            rw [show (.cells [x0, x1, x2, x3, x4, x5].toArray 76 : Obj) = .cells #[x0, x1, x2, x3, x4, x5] 76 from rfl, hwz] at NEWS
            clear hown3 hown4 HB3 HB4 hk2 hm hv hat hat3 hb3 bz hwz
            have hm8 : m + 1 ≤ 10000 := by omega
            go_wp2_with (at_builtin; (rw [HWZ.out]; refine wpList_append_own_at _ rfl (.tmp 10) (.tmp 13) 29 rfl S 76 ti (.agg #[.string ⟨#[]⟩, .int .i64 0, .int .i64 0, .int .i64 0, .int .i64 0, .slice none 0 0]) 6 72 Tryz.underlying29 hti hz1 hs1 hby1 rfl (by decide) (.slice A m c') m vs rfl hrow ⟨w4.heap.size, 0, none⟩ 1 1 [x0, x1, x2, x3, x4, x5] rfl rfl NEWS ones (by unfold maxLen; omega) (by omega) hsz4 ?_))
            intro v' w5 hown5 hgrow _ hnew
            obtain ⟨A5, c5, rfl, hown6⟩ := Own.snoc hrow hrd hvz.out hown5 (by decide) hgrow (hnew_or hnew)
            have hb5 := grown_below hrow hgrow hsz4
            have HAT5 := HATZ.out.below (B := S) hb5 hsz hbz
            have HB5 : Hid (But g w w5) := grown_but hrow hgrow HBZ.out (by omega) hsz4
            clear hown5 hgrow hnew hrow hrd hvz HATZ HBZ NEWS
            go_wp2_with fail
            refine (HW.out _ _ _ [59] (by decide) HAT5).mono ?_
            rintro en w6 (⟨⟨⟩, j6, q6, v, hm, rfl, rfl, hat6, hle6, hb6⟩ | ⟨j6, er, hm, rfl, hj6, hb6⟩)
            · have hk6 := HK.out
              rw [bd_ok hm] at hk6
              have HK6 := Lib.hid hk6
              have hsz5 := HB5.out.size
              have hown7 := hown6.but hb6 (by omega)
              clear hk6 hm HK
              go_wp2
              go_roundg gk
              case measure => omega
              case rel => exact ⟨A5, m + 1, c5, l ++ [x], j6, q6, rfl, HK6.out, hat6, by rw [List.flatMap_append]; simpa using hown7, by simp [hlm], HB5.out.trans hb6, by omega, by omega, by omega⟩
            · have hk6 := HK.out
              rw [bd_no hm] at hk6
              go_wp2
              exact post_panic (fn := Tryz.f102) rfl (Or.inr ⟨j6, er, hk6.symm, rfl, hj6, HB5.out.trans hb6⟩)
          · rw [bd_no hm] at hk2
            go_wp2
            exact post_panic (fn := Tryz.f102) rfl (Or.inr ⟨j3, er, hk2.symm, rfl, hj3, HB3.out.trans hb3⟩)
      · rw [bd_no hm] at hk2
        go_wp2
        exact post_panic (fn := Tryz.f102) rfl (Or.inr ⟨j2, er, hk2.symm, rfl, hj2, hbw.out.trans hb⟩)
end Ps
end Go.Proofs.YtggdhgppclnckaaGreatDoor
