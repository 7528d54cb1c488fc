/-
  Lists of statements, and bodies.
-/
import Derived.Test.YtggdhgppclnckaaGreatDoorPasR
namespace Go.Proofs.YtggdhgppclnckaaGreatDoor
open Go Go.RowKit Lx
set_option maxRecDepth 20000

namespace Ps
variable {w : World} {g b n c : Nat} {L : List Tok} {i : Nat} {o : Int}

def rdSt (b : Nat) (w : World) (e : St) (v : Value) : Prop := ∃ a0 a1 a2 a3 a4 a5 a6 a7 a8 a9 a10 a11 a12 a13 a14 a15 a16 a17 a18 a19 a20 a21 a22 a23 a24, v = .agg #[a0, a1, a2, a3, a4, a5, a6, a7, a8, a9, a10, a11, a12, a13, a14, a15, a16, a17, a18, a19, a20, a21, a22, a23, a24] ∧ Rds (Fr b) w e.d [a0, a1, a2, a3, a4, a5, a6, a7, a8, a9, a10, a11, a12, a13, a14, a15, a16, a17, a18, a19, a20, a21, a22, a23, a24]
theorem st_rds {Q : Nat → Prop} {w : World} (k : Int) (nm fn : Bs) (i : Int) {ex : Ex} (xs : List Ex) {dr : Dr} (th el : List St) {e0 e1 e2 e3 e4 e5 e6 d0 d1 d2 d3 d4 d5 d6 d7 d8 d9 d10 v x y : Value} (he : Rds Q w ex.d [e0, e1, e2, e3, e4, e5, e6]) (hx : Rd Q w (.l 7 (dsE xs)) v) (hd : Rds Q w dr.d [d0, d1, d2, d3, d4, d5, d6, d7, d8, d9, d10]) (ht : Rd Q w (.l 25 (dsS th)) x) (hl : Rd Q w (.l 25 (dsS el)) y) :
    Rds Q w (St.mk k nm fn i ex xs dr th el).d [.int .i64 k, .string (bt nm), .string (bt fn), .int .i64 i, e0, e1, e2, e3, e4, e5, e6, v, d0, d1, d2, d3, d4, d5, d6, d7, d8, d9, d10, x, y] := by
  simp only [St.d]
  exact .cons (.n _ _) (.cons (.s nm) (.cons (.s fn) (.cons (.n _ _) (he.app (.cons hx (hd.app (.cons ht (.cons hl .nil))))))))
theorem zex_rds {Q : Nat → Prop} {w : World} : Rds Q w Ex.zero.d [.int .i64 0, .int .i64 0, .bool false, .slice none 0 0, .slice none 0 0, .string ⟨#[]⟩, .slice none 0 0] := mk_rds 0 0 [] [] zero_rds nil_rd
theorem zdr_rds {Q : Nat → Prop} {w : World} : Rds Q w Dr.zero.d [.int .i64 0, .int .i64 0, .int .i64 0, .bool false, .slice none 0 0, .slice none 0 0, .bool false, .slice none 0 0, .slice none 0 0, .slice none 0 0, .string ⟨#[]⟩] := dr_rds 0 0 0 [] [] zero_rds zero_rds nil_rd
theorem nils_rd {Q : Nat → Prop} {w : World} : Rd Q w (.l 25 (dsS [])) (.slice none 0 0) := .nil 25
/-- The method f reads what M reads, and takes a token at least. -/
def Does1 {α : Type} (g b n c : Nat) (L : List Tok) (f : FuncId) (rd : Nat → World → α → Value → Prop) (M : P α) (q : Nat) : Prop :=
  ∀ (w : World) (i : Nat) (o : Int), At w g b n c L i o → n ≤ q + i → Calls Tryz.prog f #[.pointer (some ⟨g, 0, none⟩)] w (Giv g b n c L (rd w.heap.size) w i 1 (M i o))

theorem info_Stmt : (Tryz.prog.info? 61).map (fun i => (i.zero, i.size, i.bytes)) = some (some (.agg #[.int .i64 0, .string ⟨#[]⟩, .string ⟨#[]⟩, .int .i64 0, .int .i64 0, .int .i64 0, .bool false, .slice none 0 0, .slice none 0 0, .string ⟨#[]⟩, .slice none 0 0, .slice none 0 0, .int .i64 0, .int .i64 0, .int .i64 0, .bool false, .slice none 0 0, .slice none 0 0, .bool false, .slice none 0 0, .slice none 0 0, .slice none 0 0, .string ⟨#[]⟩, .slice none 0 0, .slice none 0 0]), 25, 408) := by kernel_rfl
set_option maxHeartbeats 8000000 in
theorem stmtsUntil_x {M : P St} {q : Nat} (hf : Does1 g b n c L 143 rdSt M q) (h : At w g b n c L i o) (hq : n ≤ q + i) (s : Bs) (hs : s ≠ []) :
    Calls Tryz.prog 128 #[.pointer (some ⟨g, 0, none⟩), .string (bt s)] w (Giv g b n c L (rdL 25 St.d w.heap.size) w i 0 (stmtsF L M s L.length [] i o)) := by
  have HF := Lib.hid hf
  have HA : Hid (∀ W j q, At W g b n c L j q → Calls Tryz.prog 97 #[.pointer (some ⟨g, 0, none⟩), .string (bt s)] W (Giv g b n c L rdB W j 0 (acc L s j q))) := fun W j q hW => accept_x hW s hs
  obtain ⟨ti, hti, hz1, hs1, hby1⟩ := info_three info_Stmt
  have hsz := h.cs.size
  have hbz := h.hb
  have hLn := h.hn
  obtain ⟨S, hS⟩ : ∃ S, w.heap.size = S := ⟨_, rfl⟩
  rw [hS] at hsz hbz
  generalize hr : stmtsF L M s L.length [] i o = r
  have HR := Lib.hid hr
  clear hf hr
  generalize bt s = y at *
  go_enter Tryz.func128, Tryz.ntmps128
  go_wp2
  go_loopg [5] L.length (fun k tv wr => ∃ A m c' l j q', tv = .slice A m c' ∧ Hid (stmtsF L M s k l j q' = r) ∧ At wr g b n c L j q' ∧ Own wr S 61 25 A m c' (l.flatMap St.d) ∧ l.length = m ∧ Hid (But g w wr) ∧ i ≤ j ∧ m ≤ j ∧ n ≤ k + j)
  case atStart => exact ⟨none, 0, 0, [], i, o, rfl, HR.out, h, Own.nil _ _ _ _, rfl, But.refl g w, by omega, by omega, by omega⟩
  case round =>
    obtain ⟨A, m, c', l, j, q', rfl, hk, hw, hown, hlm, hbw, hij, hmj, hkj⟩ := hrel
    clear HR h
    have hi := hw.hi
    have hl := hw.len
    have hln := hw.hn
    cases gk with
    | zero => omega
    | succ gk =>
      have hk2 := hk.out
      unfold stmtsF at hk2
      go_wp2_with fail
      refine (HA.out _ _ _ hw).mono ?_
      rintro en w3 (⟨t, j2, q2, v, hm, rfl, rfl, hat, hle, hb⟩ | ⟨j2, er, hm, rfl, hj2, hb⟩)
      · rw [bd_ok hm] at hk2
        have hS3 := hbw.out.size
        have hown3 := hown.but hb (by omega)
        have HB3 : Hid (But g w w3) := hbw.out.trans hb
        cases t
        · obtain ⟨rfl, rfl, _⟩ := acc_not hm
          simp only [Bool.false_eq_true, if_false] at hk2
          clear hown hb hm hw hbw hk
          go_wp2_with fail
          refine (HF.out _ _ _ hat (by omega)).mono ?_
          rintro en w4 (⟨x, j3, q3, v, hm, rfl, ⟨x0, x1, x2, x3, x4, x5, x6, x7, x8, x9, x10, x11, x12, x13, x14, x15, x16, x17, x18, x19, x20, x21, x22, x23, x24, rfl, hv⟩, hat3, hle3, hb3⟩ | ⟨j3, er, hm, rfl, hj3, hb3⟩)
          · rw [bd_ok hm] at hk2
            have HK := Lib.hid hk2
            have hown4 := hown3.but hb3 (by omega)
            have HB4 := HB3.out.trans hb3
            have hS4 := HB4.size
            obtain ⟨wz, hwz⟩ : ∃ wz, w4.alloc (.cells #[x0, x1, x2, x3, x4, x5, x6, x7, x8, x9, x10, x11, x12, x13, x14, x15, x16, x17, x18, x19, x20, x21, x22, x23, x24] 61) = wz := ⟨_, rfl⟩
            have HWZ := Lib.hid hwz
            have bz : Below w4.heap.size w4 wz := hwz ▸ allocB w4 _
            have HBZ : Hid (But g w wz) := HB4.trans (But.of_below bz)
            have HATZ := Lib.hid (hat3.new bz)
            have hownz := hown4.new bz
            have hvz : Hid (Rds (fun k => S ≤ k ∧ offA A k) wz (St.d x) [x0, x1, x2, x3, x4, x5, x6, x7, x8, x9, x10, x11, x12, x13, x14, x15, x16, x17, x18, x19, x20, x21, x22, x23, x24]) := by
              refine (hv.keep bz.size (fun k _ hk => bz.block k hk) fun k hk _ => ⟨by have := hb3.size; have := HB3.out.size; simp [Fr] at hk; omega, fun a ha => ?_⟩)
              have := (hown3.lt a ha).2
              simp [Fr] at hk; omega
            have NEWS := cells_of_alloc w4 [x0, x1, x2, x3, x4, x5, x6, x7, x8, x9, x10, x11, x12, x13, x14, x15, x16, x17, x18, x19, x20, x21, x22, x23, x24] 61
            have ones := hv.ones
            have hsz4 : S ≤ wz.heap.size := by have := bz.size; omega
            obtain ⟨vs, hrow, hrd⟩ := hownz
            rw [show (.cells [x0, x1, x2, x3, x4, x5, x6, x7, x8, x9, x10, x11, x12, x13, x14, x15, x16, x17, x18, x19, x20, x21, x22, x23, x24].toArray 61 : Obj) = .cells #[x0, x1, x2, x3, x4, x5, x6, x7, x8, x9, x10, x11, x12, x13, x14, x15, x16, x17, x18, x19, x20, x21, x22, x23, x24] 61 from rfl, hwz] at NEWS
            clear hown3 hown4 HB3 HB4 hk2 hm hv hat hat3 hb3 bz hwz
            have hm8 : m + 1 ≤ 10000 := by omega
            go_wp2_with (at_builtin; (rw [HWZ.out]; refine wpList_append_own_at _ rfl (.tmp 10) (.tmp 13) 30 rfl S 61 ti (.agg #[.int .i64 0, .string ⟨#[]⟩, .string ⟨#[]⟩, .int .i64 0, .int .i64 0, .int .i64 0, .bool false, .slice none 0 0, .slice none 0 0, .string ⟨#[]⟩, .slice none 0 0, .slice none 0 0, .int .i64 0, .int .i64 0, .int .i64 0, .bool false, .slice none 0 0, .slice none 0 0, .bool false, .slice none 0 0, .slice none 0 0, .slice none 0 0, .string ⟨#[]⟩, .slice none 0 0, .slice none 0 0]) 25 408 Tryz.underlying30 hti hz1 hs1 hby1 rfl (by decide) (.slice A m c') m vs rfl hrow ⟨w4.heap.size, 0, none⟩ 1 1 [x0, x1, x2, x3, x4, x5, x6, x7, x8, x9, x10, x11, x12, x13, x14, x15, x16, x17, x18, x19, x20, x21, x22, x23, x24] rfl rfl NEWS ones (by unfold maxLen; omega) (by omega) hsz4 ?_))
            intro v' w5 hown5 hgrow _ hnew
            obtain ⟨A5, c5, rfl, hown6⟩ := Own.snoc hrow hrd hvz.out hown5 (by decide) hgrow (hnew_or hnew)
            have hb5 := grown_below hrow hgrow hsz4
            have HAT5 := Lib.hid (HATZ.out.below (B := S) hb5 hsz hbz)
            have HB5 : Hid (But g w w5) := grown_but hrow hgrow HBZ.out (by omega) hsz4
            clear hown5 hgrow hnew hrow hrd hvz HATZ HBZ NEWS
            go_wp2
            go_roundg gk
            case measure => omega
            case rel => exact ⟨A5, m + 1, c5, l ++ [x], j3, q3, rfl, HK.out, HAT5.out, by rw [List.flatMap_append]; simpa using hown6, by simp [hlm], HB5.out, by omega, by omega, by omega⟩
          · rw [bd_no hm] at hk2
            go_wp2
            exact post_panic (fn := Tryz.f128) rfl (Or.inr ⟨j3, er, hk2.symm, rfl, hj3, HB3.out.trans hb3⟩)
        · obtain ⟨rfl, _⟩ := acc_yes hm
          simp only [if_true] at hk2
          go_wp2
          go_ret
          exact Or.inl ⟨l, _, _, _, hk2.symm, rfl, ⟨A, m, c', rfl, hS ▸ hown3.rd⟩, hat, by omega, HB3.out⟩
      · rw [bd_no hm] at hk2
        go_wp2
        exact post_panic (fn := Tryz.f128) rfl (Or.inr ⟨j2, er, hk2.symm, rfl, hj2, hbw.out.trans hb⟩)
theorem body_x {M : P St} {q : Nat} (hf : Does1 g b n c L 143 rdSt M q) : Does g b n c L 167 (rdL 25 St.d) (body L M) (q + 1) := by
  intro w i o h hq
  have HW := Lib.hid (expect_x h [123] (by decide))
  have HS : Hid (∀ W j p, At W g b n c L j p → n ≤ q + j → Calls Tryz.prog 128 #[.pointer (some ⟨g, 0, none⟩), .string ⟨#[125]⟩] W (Giv g b n c L (rdL 25 St.d W.heap.size) W j 0 (stmtsF L M [125] L.length [] j p))) := fun W j p hW hj => stmtsUntil_x hf hW hj [125] (by decide)
  generalize hr : body L M i o = r
  unfold body at hr
  clear hf h
  go_enter Tryz.func167, Tryz.ntmps167
  go_wp2_with fail
  refine HW.out.mono ?_
  rintro en w1 (⟨⟨⟩, j, q1, v, hm, rfl, rfl, hat, hle, hb⟩ | ⟨j, er, hm, rfl, hj, hb⟩)
  · rw [bd_ok hm] at hr
    clear hm HW
    go_wp2_with fail
    refine (HS.out _ _ _ hat (by omega)).mono ?_
    rintro en w2 (⟨l, j2, q2, v, hm, rfl, ⟨A, m, c2, rfl, hv⟩, hat2, hle2, hb2⟩ | ⟨j2, er, hm, rfl, hj2, hb2⟩)
    · rw [hm] at hr
      go_wp2
      go_ret
      exact Or.inl ⟨l, j2, q2, _, hr.symm, rfl, ⟨A, m, c2, rfl, hv.in fun k hk => Nat.le_trans hb.size hk⟩, hat2, by omega, hb.trans hb2⟩
    · rw [hm] at hr
      go_wp2
      exact post_panic (fn := Tryz.f167) rfl (Or.inr ⟨j2, er, hr.symm, rfl, hj2, hb.trans hb2⟩)
  · rw [bd_no hm] at hr
    go_wp2
    exact post_panic (fn := Tryz.f167) rfl (Or.inr ⟨j, er, hr.symm, rfl, hj, hb⟩)
end Ps
end Go.Proofs.YtggdhgppclnckaaGreatDoor
