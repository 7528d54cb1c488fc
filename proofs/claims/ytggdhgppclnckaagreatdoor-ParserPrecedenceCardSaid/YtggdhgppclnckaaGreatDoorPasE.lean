/-
  The parser's lists: one part or several with commas between them; and up to a sign.
-/
import Derived.Test.YtggdhgppclnckaaGreatDoorPasT
namespace Go.Proofs.YtggdhgppclnckaaGreatDoor
open Go Go.RowKit Lx
set_option maxRecDepth 20000

namespace Ps
variable {w : World} {g b n c : Nat} {L : List Tok} {i : Nat} {o : Int}

theorem info_Expr : (Tryz.prog.info? 53).map (fun i => (i.zero, i.size, i.bytes)) = some (some (.agg #[.int .i64 0, .int .i64 0, .bool false, .slice none 0 0, .slice none 0 0, .string ⟨#[]⟩, .slice none 0 0]), 7, 112) := by kernel_rfl
set_option maxHeartbeats 4000000 in
theorem listExpr_x {f : FuncId} {M : P Ex} {q : Nat} (hf : Does g b n c L f rdE M q) (he : Enters f) (h : At w g b n c L i o) (hq : n ≤ q + i) :
    Calls Tryz.prog 194 #[.pointer (some ⟨g, 0, none⟩), .func (.func f) #[.pointer (some ⟨g, 0, none⟩)] #[]] w (Giv g b n c L (rdL 7 Ex.d w.heap.size) w i 0 (list L M i o)) := by
  have HF := Lib.hid hf
  have HA : Hid (∀ W j q, At W g b n c L j q → Calls Tryz.prog 97 #[.pointer (some ⟨g, 0, none⟩), .string ⟨#[44]⟩] W (Giv g b n c L rdB W j 0 (acc L [44] j q))) := fun W j q hW => accept_x hW [44] (by decide)
  obtain ⟨ti, hti, hz1, hs1, hby1⟩ := info_three info_Expr
  have HE : Hid (Enters f) := he
  have hsz := h.cs.size
  have hbz := h.hb
  have hLn := h.hn
  obtain ⟨S, hS⟩ : ∃ S, w.heap.size = S := ⟨_, rfl⟩
  rw [hS] at hsz hbz
  generalize hr : list L M i o = r
  unfold list at hr
  have H1 := Lib.hid (hf w i o h hq)
  clear hf h he
  go_enter Tryz.func194, Tryz.ntmps194
  have hen : ∀ (args : Array Value) (W : World), (callFunc f args).run Tryz.prog W = .ok (.enter f args) W := HE.out
  go_wp2_with fail
  clear hen
  refine H1.out.mono ?_
  rintro en w1 (⟨a, j, q1, v, hm, rfl, ⟨a0, a1, a2, a3, a4, a5, a6, rfl, hv⟩, hat, hle, hb⟩ | ⟨j, er, hm, rfl, hj, hb⟩)
  · rw [bd_ok hm] at hr
    have HR := Lib.hid hr
    have hx : ∀ b', b' ≤ w1.heap.size → w1.heap.size < (w1.alloc (.cells #[a0, a1, a2, a3, a4, a5, a6] 53)).heap.size := fun _ _ => by simp
    have HO := own_first 53 7 hv hb.size rfl
    have hat2 := hat.new (allocB w1 (.cells #[a0, a1, a2, a3, a4, a5, a6] 53))
    have hb2 := hb.trans (But.of_below (allocB w1 (.cells #[a0, a1, a2, a3, a4, a5, a6] 53)))
    go_wp2_with fail
    generalize w1.alloc (.cells #[a0, a1, a2, a3, a4, a5, a6] 53) = w2 at *
    generalize w1.heap.size = s1 at *
    clear hr hm hv hx hat hb H1
    rw [hS] at HO
    go_loopg [5] L.length (fun k tv wr => ∃ A m c' l j q', tv = .slice A m c' ∧ Hid (listF L M k l j q' = r) ∧ At wr g b n c L j q' ∧ Own wr S 53 7 A m c' (l.flatMap Ex.d) ∧ l.length = m ∧ Hid (But g w wr) ∧ i ≤ j ∧ m ≤ j + 1 ∧ n ≤ k + j)
    case atStart => exact ⟨_, 1, 1, [a], j, q1, rfl, HR.out, hat2, by simpa using HO, rfl, hb2, by omega, by omega, by omega⟩
    case round =>
      obtain ⟨A, m, c', l, j, q', rfl, hk, hw, hown, hlm, hbw, hij, hmj, hkj⟩ := hrel
      clear HR HO hat2 hb2
      have hi := hw.hi
      have hl := hw.len
      have hln := hw.hn
      cases gk with
      | zero => omega
      | succ gk =>
        have hk2 := hk.out
        unfold listF at hk2
        go_wp2_with fail
        refine (HA.out _ _ _ hw).mono ?_
        rintro en w3 (⟨t, j2, q2, v, hm, rfl, rfl, hat, hle, hb⟩ | ⟨j2, er, hm, rfl, hj2, hb⟩)
        · rw [bd_ok hm] at hk2
          have hS3 := hbw.out.size
          have hown3 := hown.but hb (by omega)
          have HB3 : Hid (But g w w3) := hbw.out.trans hb
          cases t
          · obtain ⟨rfl, rfl, _⟩ := acc_not hm
            simp only [Bool.false_eq_true, if_false] at hk2
            go_wp2
            go_ret
            exact Or.inl ⟨l, _, _, _, hk2.symm, rfl, ⟨A, m, c', rfl, hS ▸ hown3.rd⟩, hat, by omega, HB3.out⟩
          · obtain ⟨rfl, _⟩ := acc_yes hm
            simp only [if_true] at hk2
            clear hown hb hm hw hbw hk
            have hen : ∀ (args : Array Value) (W : World), (callFunc f args).run Tryz.prog W = .ok (.enter f args) W := HE.out
            go_wp2_with fail
            clear hen
            refine (HF.out _ _ _ hat (by omega)).mono ?_
            rintro en w4 (⟨x, j3, q3, v, hm, rfl, ⟨x0, x1, x2, x3, x4, x5, x6, rfl, hv⟩, hat3, hle3, hb3⟩ | ⟨j3, er, hm, rfl, hj3, hb3⟩)
            · rw [bd_ok hm] at hk2
              have HK := Lib.hid hk2
              have hown4 := hown3.but hb3 (by omega)
              have HB4 := HB3.out.trans hb3
              have hS4 := HB4.size
              obtain ⟨wz, hwz⟩ : ∃ wz, w4.alloc (.cells #[x0, x1, x2, x3, x4, x5, x6] 53) = wz := ⟨_, rfl⟩
              have HWZ := Lib.hid hwz
              have bz : Below w4.heap.size w4 wz := hwz ▸ allocB w4 _
              have HBZ : Hid (But g w wz) := HB4.trans (But.of_below bz)
              have HATZ := Lib.hid (hat3.new bz)
              have hownz := hown4.new bz
              have hvz : Hid (Rds (fun k => S ≤ k ∧ offA A k) wz (Ex.d x) [x0, x1, x2, x3, x4, x5, x6]) := by
                refine (hv.keep bz.size (fun k _ hk => bz.block k hk) fun k hk _ => ⟨by have := hb3.size; have := HB3.out.size; simp [Fr] at hk; omega, fun a ha => ?_⟩)
                have := (hown3.lt a ha).2
                simp [Fr] at hk; omega
              have NEWS := cells_of_alloc w4 [x0, x1, x2, x3, x4, x5, x6] 53
              have ones := hv.ones
              have hsz4 : S ≤ wz.heap.size := by have := bz.size; omega
              obtain ⟨vs, hrow, hrd⟩ := hownz
              rw [show (.cells [x0, x1, x2, x3, x4, x5, x6].toArray 53 : Obj) = .cells #[x0, x1, x2, x3, x4, x5, x6] 53 from rfl, hwz] at NEWS
              clear hown3 hown4 HB3 HB4 hk2 hm hv hat hat3 hb3 bz hwz
              have hm8 : m + 1 ≤ 10000 := by omega
              go_wp2_with (at_builtin; (rw [HWZ.out]; refine wpList_append_own_at _ rfl (.tmp 11) (.tmp 14) 51 rfl S 53 ti (.agg #[.int .i64 0, .int .i64 0, .bool false, .slice none 0 0, .slice none 0 0, .string ⟨#[]⟩, .slice none 0 0]) 7 112 Tryz.underlying51 hti hz1 hs1 hby1 rfl (by decide) (.slice A m c') m vs rfl hrow ⟨w4.heap.size, 0, none⟩ 1 1 [x0, x1, x2, x3, x4, x5, x6] rfl rfl NEWS ones (by unfold maxLen; omega) (by omega) hsz4 ?_))
              intro v' w5 hown5 hgrow _ hnew
              obtain ⟨A5, c5, rfl, hown6⟩ := Own.snoc hrow hrd hvz.out hown5 (by decide) hgrow (hnew_or hnew)
              have hb5 := grown_below hrow hgrow hsz4
              have HAT5 := Lib.hid (HATZ.out.below (B := S) hb5 hsz hbz)
              have HB5 : Hid (But g w w5) := grown_but hrow hgrow HBZ.out (by omega) hsz4
              clear hown5 hgrow hnew hrow hrd hvz HATZ HBZ NEWS
              go_wp2
              go_roundg gk
              case measure => omega
              case rel => exact ⟨A5, m + 1, c5, l ++ [x], j3, q3, rfl, HK.out, HAT5.out, by rw [List.flatMap_append]; simpa using hown6, by simp [hlm], HB5.out, by omega, by omega, by omega⟩
            · rw [bd_no hm] at hk2
              go_wp2
              exact post_panic rfl (Or.inr ⟨j3, er, hk2.symm, rfl, hj3, HB3.out.trans hb3⟩)
        · rw [bd_no hm] at hk2
          go_wp2
          exact post_panic rfl (Or.inr ⟨j2, er, hk2.symm, rfl, hj2, hbw.out.trans hb⟩)
  · rw [bd_no hm] at hr
    go_wp2
    exact post_panic rfl (Or.inr ⟨j, er, hr.symm, rfl, hj, hb⟩)
end Ps
end Go.Proofs.YtggdhgppclnckaaGreatDoor
