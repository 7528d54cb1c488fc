/-
  The parser's numbers.
-/
import Derived.Test.YtggdhgppclnckaaGreatDoorPasF
import Derived.Test.YtggdhgppclnckaaGreatDoorShelf
import Derived.Lib.AtoiErrMem
namespace Go.Proofs.YtggdhgppclnckaaGreatDoor
open Go Go.RowKit Lx
set_option maxRecDepth 20000

namespace Ps
variable {w : World} {g b n c : Nat} {L : List Tok} {i : Nat} {o : Int}
theorem Giv.weak {α : Type} {rd : World → α → Value → Prop} {d d' : Nat} {r : R α} {e : Ending} {w' : World} (h : Giv g b n c L rd w i d r e w') (hd : d' ≤ d) : Giv g b n c L rd w i d' r e w' := by
  rcases h with ⟨a, j, q, v, h1, h2, h3, h4, h5, h6⟩ | h
  · exact .inl ⟨a, j, q, v, h1, h2, h3, h4, by omega, h6⟩
  · exact .inr h
theorem bytes_below (w : World) (e : TypeId) (t : ByteArray) : Below w.heap.size w (Lib.bytesWorld w e t) := Lib.bytesWorld_below w e t
theorem fold_ge (t : Bs) (a : Nat) : a ≤ t.foldl (fun n c => n * 10 + (c.toNat - 48)) a := by
  induction t generalizing a with
  | nil => exact Nat.le_refl _
  | cons c t ih => exact Nat.le_trans (by omega) (ih (a * 10 + (c.toNat - 48)))
theorem parse_digits (t : Bs) (hd : ∀ c ∈ t, isD c.toNat = true) (a : Nat) : (t.foldl (fun n c => n * 10 + (c.toNat - 48)) a < 18446744073709551616 → Lib.parseUint10 a t = .ok (t.foldl (fun n c => n * 10 + (c.toNat - 48)) a)) ∧ (18446744073709551616 ≤ t.foldl (fun n c => n * 10 + (c.toNat - 48)) a → a < 18446744073709551616 → Lib.parseUint10 a t = .range) := by
  induction t generalizing a with
  | nil => exact ⟨fun _ => rfl, fun h1 h2 => absurd h1 (by simpa using h2)⟩
  | cons c t ih =>
    have hc : 48 ≤ c.toNat ∧ c.toNat ≤ 57 := by
      have := hd c (by simp)
      simp [isD] at this
      omega
    obtain ⟨i1, i2⟩ := ih (fun x hx => hd x (by simp [hx])) (a * 10 + (c.toNat - 48))
    have hge := fold_ge t (a * 10 + (c.toNat - 48))
    simp only [List.foldl_cons]
    refine ⟨fun h => ?_, fun h h2 => ?_⟩
    · rw [Lib.parseUint10, if_pos hc, if_neg (by omega), if_neg (by omega)]
      exact i1 h
    · rw [Lib.parseUint10, if_pos hc]
      by_cases h3 : 1844674407370955162 ≤ a
      · rw [if_pos h3]
      · rw [if_neg h3]
        by_cases h4 : 18446744073709551616 ≤ a * 10 + (c.toNat - 48)
        · rw [if_pos h4]
        · rw [if_neg h4]; exact i2 h (by omega)
/-- The digits' value, as Atoi finds it. -/
theorem atoi_digits (t : Bs) (h0 : 0 < t.length) (h1 : t.length ≤ 60) (hd : ∀ c ∈ t, isD c.toNat = true) :
    (numv t < 9223372036854775808 ∧ Lib.atoiAll t = .ok (numv t)) ∨ (1000000 < numv t ∧ Lib.atoiAll t = .range) := by
  obtain ⟨p1, p2⟩ := parse_digits t hd 0
  match t, h0 with
  | c :: r, _ =>
    have hc : 48 ≤ c.toNat ∧ c.toNat ≤ 57 := by
      have := hd c (by simp)
      simp [isD] at this
      omega
    rw [Lib.atoiAll_plain c r (by omega) (by omega), Lib.parseMag, if_neg (by simp)]
    by_cases h1 : numv (c :: r) < 18446744073709551616
    · rw [p1 h1]
      by_cases h2 : numv (c :: r) < 9223372036854775808
      · exact .inl ⟨h2, by show Lib.signless (.ok (numv (c :: r))) = _; simp [Lib.signless]; omega⟩
      · exact .inr ⟨by omega, by show Lib.signless (.ok (numv (c :: r))) = _; simp [Lib.signless]; omega⟩
    · rw [p2 (by unfold numv at h1; omega) (by omega)]
      exact .inr ⟨by omega, rfl⟩
set_option maxHeartbeats 2000000 in
theorem number_x (h : At w g b n c L i o) : Calls Tryz.prog 164 #[.pointer (some ⟨g, 0, none⟩)] w (Giv g b n c L (rdN w.heap.size) w i 1 (number L i o)) := by
  have HT := Lib.hid (textOf_x h 2)
  have HK : Hid (∀ W, At W g b n c L i o → (tkn L i).k = 2 → Calls Tryz.prog 124 #[.pointer (some ⟨g, 0, none⟩)] W (Giv g b n c L rdU W i 1 (take (tkn L i).t i o))) := fun W hW hk => take_x hW (by omega)
  have HK2 : Hid ((tkn L i).k = 2 → take (tkn L i).t i o = .ok () (i + 1) o) := fun hk => by
    have := h.good.words _ h.mem (by omega) (by omega)
    unfold take
    rw [if_neg, if_neg]
    · rintro (e | e | e) <;> rw [e] at this <;> revert this <;> decide
    · rintro (e | e | e) <;> rw [e] at this <;> revert this <;> decide
  have HF : Hid (∀ W, At W g b n c L i o → Calls Tryz.prog 125 #[.pointer (some ⟨g, 0, none⟩), .int .i64 9] W fun en w' => en = .returned (.agg #[.int .i64 (tkn L i).ln, .int .i64 (tkn L i).co, .int .i64 9]) ∧ Below W.heap.size W w') := fun W hW => failure_x hW 9
  have HD : Hid ((tkn L i).k = 2 → 0 < (tkn L i).t.length ∧ (tkn L i).t.length ≤ 60 ∧ ∀ c ∈ (tkn L i).t, isD c.toNat = true) := fun hk => h.good.nums _ h.mem hk
  have hi := h.hi
  generalize hr : number L i o = r
  unfold number at hr
  clear h
  go_enter Tryz.func164, Tryz.ntmps164
  go_wp2_with fail
  refine HT.out.mono ?_
  rintro en w1 (⟨a, j, q1, v, hm, rfl, rfl, hat, hle, hb⟩ | ⟨j, er, hm, rfl, hj, hb⟩)
  · unfold textM at hm
    split at hm
    · next e =>
      injection hm with m1 m2 m3
      subst m1 m2 m3
      rw [if_pos e] at hr
      obtain ⟨d0, d1, d2⟩ := HD.out e
      have HT1 : Hid (∀ W, At W g b n c L i o → Calls Tryz.prog 124 #[.pointer (some ⟨g, 0, none⟩)] W (Giv g b n c L rdU W i 1 (take (tkn L i).t i o))) := fun W hW => HK.out W hW e
      have hk2 := HK2.out e
      have hat2 := atoi_digits _ d0 d1 d2
      obtain ⟨ev, hev, hev2⟩ := hat.gl.er
      have hszT : (bt (tkn L i).t).size ≤ 60 := by show (tkn L i).t.toArray.size ≤ 60; simpa using d1
      have hdl : (bt (tkn L i).t).data.toList = (tkn L i).t := rfl
      clear HK HK2 HT HD d0 d1 d2
      rw [← hdl] at hat2 hr
      have HF1 := Lib.hid HF.out
      clear HF hdl
      generalize bt (tkn L i).t = sx at *
      rcases hat2 with ⟨hlt, ho⟩ | ⟨hlt, ho⟩
      · have HATO := Lib.hid (Tryz.strconv_Atoi_ok sx (by omega) _ ho w1)
        clear ho hev hev2 hszT
        generalize numv sx.data.toList = N at *
        by_cases hn : 1000000 < N
        · rw [if_pos hn] at hr
          have q1 : decide ((1000000 : Int) < (N : Int)) = true := by simp; omega
          have q2 : (1000000 : Int) < (N : Int) := by omega
          go_wp2_with fail
          refine HATO.out.mono ?_
          rintro en w2 ⟨rfl, hw2⟩
          have hb2 : Below w1.heap.size w1 w2 := by
            rcases hw2 with rfl | ⟨t, rfl⟩
            · exact Below.refl _ _
            · exact bytes_below _ _ _
          have HF2 := Lib.hid (HF1.out w2 (hat.new hb2))
          clear HATO HF1 hw2 hn HT1 hk2
          go_wp2_with fail
          refine HF2.out.mono ?_
          rintro en w3 ⟨rfl, hb3⟩
          go_wp2
          exact post_panic (fn := Tryz.f164) rfl (Or.inr ⟨i, 9, hr.symm, rfl, hi, (hb.trans (But.of_below hb2)).trans (But.of_below hb3)⟩)
        · rw [if_neg hn] at hr
          have q1 : decide ((1000000 : Int) < (N : Int)) = false := by simp; omega
          have q2 : ¬ (1000000 : Int) < (N : Int) := by omega
          go_wp2_with fail
          refine HATO.out.mono ?_
          rintro en w2 ⟨rfl, hw2⟩
          have hb2 : Below w1.heap.size w1 w2 := by
            rcases hw2 with rfl | ⟨t, rfl⟩
            · exact Below.refl _ _
            · exact bytes_below _ _ _
          have HT2 := Lib.hid (HT1.out w2 (hat.new hb2))
          rw [hk2] at HT2
          clear HATO HF1 hw2 hn HT1 hk2
          go_wp2_with fail
          refine HT2.out.mono ?_
          rintro en w3 (⟨⟨⟩, j2, q2', v, hm2, rfl, rfl, hat2, hle2, hb3⟩ | ⟨j2, er, hm2, rfl, hj2, hb3⟩)
          · injection hm2 with _ m2 m3
            subst m2 m3
            go_wp2
            go_ret
            exact Or.inl ⟨_, i + 1, o, _, hr.symm, rfl, rfl, hat2, Nat.le_refl _, (hb.trans (But.of_below hb2)).trans hb3⟩
          · cases hm2
      · have HATO := Lib.hid (Tryz.strconv_Atoi_range sx (by omega) ho ev w1 hev hev2)
        rw [if_pos hlt] at hr
        generalize Lib.atoiSat sx.data.toList = V at *
        clear ho hev hev2 hszT hlt HT1 hk2
        go_wp2_with fail
        refine HATO.out.mono ?_
        rintro en w2 ⟨N, rfl, _, _, hb2⟩
        have HF2 := Lib.hid (HF1.out w2 (hat.new hb2))
        clear HATO HF1
        go_wp2_with fail
        refine HF2.out.mono ?_
        rintro en w3 ⟨rfl, hb3⟩
        go_wp2
        exact post_panic (fn := Tryz.f164) rfl (Or.inr ⟨i, 9, hr.symm, rfl, hi, (hb.trans (But.of_below hb2)).trans (But.of_below hb3)⟩)
    · cases hm
  · unfold textM at hm
    split at hm
    · cases hm
    · next e =>
      injection hm with m1 m2
      subst m1 m2
      rw [if_neg e] at hr
      go_wp2
      exact post_panic (fn := Tryz.f164) rfl (Or.inr ⟨i, 4, hr.symm, rfl, hi, hb⟩)
/-- A fraction may stand at token i: a slash follows, or a draw with fractions occurs. -/
def FrAt (L : List Tok) (i : Nat) : Prop := (tkn L (i + 1)).t = [47] ∨ ∃ t ∈ L, t.t = [103, 101, 111, 109, 101, 116, 114, 105, 99] ∨ t.t = [105, 110, 116, 101, 114, 118, 97, 108]
/-- Fractions are read, wherever one may stand. -/
def FrOk (g b n c : Nat) (L : List Tok) : Prop := ∀ (w : World) (i : Nat) (o : Int), At w g b n c L i o → FrAt L i → Calls Tryz.prog 195 #[.pointer (some ⟨g, 0, none⟩)] w (Giv g b n c L (rdR w.heap.size) w i 1 (fraction L i o))
theorem number_bd {i j : Nat} {o q x : Int} (h : number L i o = .ok x j q) : 0 ≤ x ∧ x ≤ 1000000 := by
  unfold number at h
  split at h
  · split at h
    · cases h
    · injection h with h _ _; subst h; omega
  · cases h
theorem integer_x (h : At w g b n c L i o) : Calls Tryz.prog 163 #[.pointer (some ⟨g, 0, none⟩)] w (Giv g b n c L (rdN w.heap.size) w i 1 (integer L i o)) := by
  have HA := Lib.hid (accept_x h [45] (by decide))
  have HN : Hid (∀ W j q, At W g b n c L j q → Calls Tryz.prog 164 #[.pointer (some ⟨g, 0, none⟩)] W (Giv g b n c L (rdN W.heap.size) W j 1 (number L j q))) := fun W j q hW => number_x hW
  generalize hr : integer L i o = r
  unfold integer at hr
  clear h
  go_enter Tryz.func163, Tryz.ntmps163
  go_wp2_with fail
  refine HA.out.mono ?_
  rintro en w1 (⟨t, j, q1, v, hm, rfl, rfl, hat, hle, hb⟩ | ⟨j, er, hm, rfl, hj, hb⟩)
  · rw [bd_ok hm] at hr
    cases t
    · simp only [Bool.false_eq_true, if_false] at hr
      obtain ⟨rfl, rfl, _⟩ := acc_not hm
      clear hm HA
      go_wp2_with fail
      refine (HN.out _ _ _ hat).mono ?_
      rintro en w2 (⟨x, j2, q2, v, hm, rfl, rfl, hat2, hle2, hb2⟩ | ⟨j2, er, hm, rfl, hj2, hb2⟩)
      · rw [hm] at hr
        go_wp2
        go_ret
        exact Or.inl ⟨x, j2, q2, _, hr.symm, rfl, rfl, hat2, hle2, hb.trans hb2⟩
      · rw [hm] at hr
        go_wp2
        exact post_panic rfl (Or.inr ⟨j2, er, hr.symm, rfl, hj2, hb.trans hb2⟩)
    · simp only [if_true] at hr
      obtain ⟨rfl, _⟩ := acc_yes hm
      clear hm HA
      go_wp2_with fail
      refine (HN.out _ _ _ hat).mono ?_
      rintro en w2 (⟨x, j2, q2, v, hm, rfl, rfl, hat2, hle2, hb2⟩ | ⟨j2, er, hm, rfl, hj2, hb2⟩)
      · rw [bd_ok hm] at hr
        obtain ⟨b0, b1⟩ := number_bd hm
        have zw : IntKind.i64.wrap (-x) = -x := by rw [IntKind.wrap_i64]; omega
        go_wp2
        go_ret
        exact Or.inl ⟨-x, j2, q2, _, hr.symm, rfl, rfl, hat2, by omega, hb.trans hb2⟩
      · rw [bd_no hm] at hr
        go_wp2
        exact post_panic rfl (Or.inr ⟨j2, er, hr.symm, rfl, hj2, hb.trans hb2⟩)
  · rw [bd_no hm] at hr
    go_wp2
    exact post_panic rfl (Or.inr ⟨j, er, hr.symm, rfl, hj, hb⟩)
end Ps
end Go.Proofs.YtggdhgppclnckaaGreatDoor
