/-
  The parser's small steps: accept, expect, opens, the text of a token, a name, what comes behind.
  What comes behind the next token.
  The parser's data as it lies in memory: expressions. A node.
  What a function does that reads a part; lists as they lie in memory. No walk.
-/
import Derived.Test.YtggdhgppclnckaaGreatDoorPasA
import Derived.Deep.RegionHeld3
import Derived.Maps.AppendAt
import Derived.Deep.WholeRow
namespace Go.Proofs.YtggdhgppclnckaaGreatDoor
open Go Go.RowKit Lx
set_option maxRecDepth 20000

namespace Ps
attribute [local go_sem] fld_tok0 fld_tok1
variable {w : World} {g b n c : Nat} {L : List Tok} {i : Nat} {o : Int}
theorem take_ok {s : Bs} {i j : Nat} {o q : Int} (h : take s i o = .ok () j q) : j = i + 1 := by
  unfold take at h
  split at h
  · split at h
    · cases h
    · injection h with _ h _; exact h.symm
  · split at h
    · injection h with _ h _; exact h.symm
    · injection h with _ h _; exact h.symm
theorem acc_yes {s : Bs} {i j : Nat} {o q : Int} (h : acc L s i o = .ok true j q) : j = i + 1 ∧ (tkn L i).t = s := by
  unfold acc at h
  split at h
  · next e =>
    refine ⟨?_, e⟩
    cases ht : take s i o with
    | ok a j' q' => rw [bd_ok ht] at h; injection h with _ h1 _; subst h1; exact take_ok ht
    | no j' e' => rw [bd_no ht] at h; cases h
  · cases h
theorem acc_not {s : Bs} {i j : Nat} {o q : Int} (h : acc L s i o = .ok false j q) : j = i ∧ q = o ∧ (tkn L i).t ≠ s := by
  unfold acc at h
  split at h
  · next e =>
    cases ht : take s i o with
    | ok a j' q' => rw [bd_ok ht] at h; cases h
    | no j' e' => rw [bd_no ht] at h; cases h
  · next e => injection h with _ h1 h2; exact ⟨h1.symm, h2.symm, e⟩
theorem want_ok {s : Bs} {i j : Nat} {o q : Int} (h : want L s i o = .ok () j q) : j = i + 1 := by
  unfold want at h
  cases ha : acc L s i o with
  | no j' e' => rw [bd_no ha] at h; cases h
  | ok a j' q' =>
    rw [bd_ok ha] at h
    cases a
    · cases h
    · injection h with _ h1 _
      have := (acc_yes ha).1
      omega
theorem opn_yes {s : Bs} {i j : Nat} {o q : Int} (h : opn L s i o = .ok true j q) : j = i + 2 := by
  unfold opn at h
  cases ha : acc L s i o with
  | no j' e' => rw [bd_no ha] at h; cases h
  | ok a j' q' =>
    rw [bd_ok ha] at h
    cases a
    · cases h
    · simp only [if_true] at h
      cases hw : want L [40] j' q' with
      | no j2 e2 => rw [bd_no hw] at h; cases h
      | ok a2 j2 q2 =>
        rw [bd_ok hw] at h
        injection h with _ h1 _
        have := (acc_yes ha).1
        have := want_ok hw
        omega
theorem opn_not {s : Bs} {i j : Nat} {o q : Int} (h : opn L s i o = .ok false j q) : j = i ∧ q = o := by
  unfold opn at h
  cases ha : acc L s i o with
  | no j' e' => rw [bd_no ha] at h; cases h
  | ok a j' q' =>
    rw [bd_ok ha] at h
    cases a
    · simp only [Bool.false_eq_true, if_false] at h
      injection h with _ h1 h2
      obtain ⟨e1, e2, _⟩ := acc_not ha
      omega
    · simp only [if_true] at h
      cases hw : want L [40] j' q' with
      | no j2 e2 => rw [bd_no hw] at h; cases h
      | ok a2 j2 q2 => rw [bd_ok hw] at h; cases h
theorem At.some (h : At w g b n c L i o) {s : Bs} (hs : s ≠ []) (e : (tkn L i).t = s) : (tkn L i).k ≠ 5 := fun hk => hs (e ▸ h.good.fin _ h.mem hk)

theorem accept_x (h : At w g b n c L i o) (s : Bs) (hs : s ≠ []) : Calls Tryz.prog 97 #[.pointer (some ⟨g, 0, none⟩), .string (bt s)] w (Giv g b n c L rdB w i 0 (acc L s i o)) := by
  have HN : Hid (Calls Tryz.prog 123 #[.pointer (some ⟨g, 0, none⟩)] w fun e w' => e = .returned (tokV (tkn L i)) ∧ Below w.heap.size w w') := next_x h
  have HT : Hid ((tkn L i).t = s → ∀ W, Below w.heap.size w W → Calls Tryz.prog 124 #[.pointer (some ⟨g, 0, none⟩)] W (Giv g b n c L rdU W i 1 (take s i o))) := fun e W hW => e ▸ take_x (h.new hW) (h.some hs e)
  have HW : Hid (∀ w1, Below w.heap.size w w1 → At w1 g b n c L i o ∧ But g w w1) := fun w1 hb => ⟨h.new hb, But.of_below hb⟩
  have hi := h.hi
  unfold tokV at HN
  generalize hr : acc L s i o = r
  unfold acc at hr
  clear h
  have hl : (bt (tkn L i).t).toList = (tkn L i).t := bt_list _
  have hl2 : (bt s).toList = s := bt_list _
  generalize bt (tkn L i).t = x at *
  generalize bt s = y at *
  by_cases e : (tkn L i).t = s
  · have q : (x.toList == y.toList) = true := by rw [hl, hl2]; simpa using e
    rw [if_pos e] at hr
    have HT2 := Lib.hid (HT.out e)
    clear hl hl2 HT e hs
    generalize tkn L i = t at *
    go_enter Tryz.func97, Tryz.ntmps97
    go_wp2_with fail
    refine HN.out.mono ?_
    rintro en w1 ⟨rfl, hb1⟩
    go_wp2_with fail
    refine (HT2.out w1 hb1).mono ?_
    rintro en w2 (⟨⟨⟩, j, q1, v, hm, rfl, rfl, hat, hle, hb⟩ | ⟨j, er, hm, rfl, hj, hb⟩)
    · rw [bd_ok hm] at hr
      go_wp2
      go_ret
      exact Or.inl ⟨true, j, q1, _, hr.symm, rfl, rfl, hat, by omega, (But.of_below hb1).trans hb⟩
    · rw [bd_no hm] at hr
      go_wp2
      exact post_panic rfl (Or.inr ⟨j, er, hr.symm, rfl, hj, (But.of_below hb1).trans hb⟩)
  · have q : (x.toList == y.toList) = false := by rw [hl, hl2]; simpa using e
    rw [if_neg e] at hr
    clear hl hl2 HT e hs
    generalize tkn L i = t at *
    go_enter Tryz.func97, Tryz.ntmps97
    go_wp2_with fail
    refine HN.out.mono ?_
    rintro en w1 ⟨rfl, hb1⟩
    obtain ⟨h1, hB1⟩ := HW.out w1 hb1
    go_wp2
    go_ret
    exact Or.inl ⟨false, i, o, _, hr.symm, rfl, rfl, h1, by omega, hB1⟩
theorem expect_x (h : At w g b n c L i o) (s : Bs) (hs : s ≠ []) : Calls Tryz.prog 99 #[.pointer (some ⟨g, 0, none⟩), .string (bt s)] w (Giv g b n c L rdU w i 1 (want L s i o)) := by
  have HA := Lib.hid (accept_x h s hs)
  have HF : Hid (∀ W, At W g b n c L i o → Calls Tryz.prog 125 #[.pointer (some ⟨g, 0, none⟩), .int .i64 4] W fun en w' => en = .returned (failV L i 4) ∧ Below W.heap.size W w') := fun W hW => failure_x hW 4
  have HG : Hid (∀ e, Ending.panicked [{ v := .iface 91 (failV L i e), recovered := false }] = .panicked (chn L i e)) := fun _ => rfl
  unfold failV at HF HG
  have hi := h.hi
  generalize hr : want L s i o = r
  unfold want at hr
  clear h hs
  generalize bt s = y at *
  go_enter Tryz.func99, Tryz.ntmps99
  go_wp2_with fail
  refine HA.out.mono ?_
  rintro en w1 (⟨a, j, q1, v, hm, rfl, rfl, hat, hle, hb⟩ | ⟨j, er, hm, rfl, hj, hb⟩)
  · rw [bd_ok hm] at hr
    cases a
    · obtain ⟨rfl, rfl, _⟩ := acc_not hm
      have HF1 := Lib.hid (HF.out w1 hat)
      clear HF HA hm
      go_wp2_with fail
      refine HF1.out.mono ?_
      rintro en w2 ⟨rfl, hb2⟩
      go_wp2
      exact post_panic rfl (Or.inr ⟨j, 4, hr.symm, HG.out 4, hi, hb.trans (But.of_below hb2)⟩)
    · obtain ⟨rfl, _⟩ := acc_yes hm
      go_wp2
      go_end0
      exact Or.inl ⟨(), _, q1, _, hr.symm, rfl, rfl, hat, Nat.le_refl _, hb⟩
  · rw [bd_no hm] at hr
    go_wp2
    exact post_panic rfl (Or.inr ⟨j, er, hr.symm, rfl, hj, hb⟩)
theorem opens_x (h : At w g b n c L i o) (s : Bs) (hs : s ≠ []) : Calls Tryz.prog 193 #[.pointer (some ⟨g, 0, none⟩), .string (bt s)] w (Giv g b n c L rdB w i 0 (opn L s i o)) := by
  have HA := Lib.hid (accept_x h s hs)
  have HE : Hid (∀ W j q, At W g b n c L j q → Calls Tryz.prog 99 #[.pointer (some ⟨g, 0, none⟩), .string ⟨#[40]⟩] W (Giv g b n c L rdU W j 1 (want L [40] j q))) := fun W j q hW => expect_x hW [40] (by decide)
  generalize hr : opn L s i o = r
  unfold opn at hr
  clear h hs
  generalize bt s = y at *
  go_enter Tryz.func193, Tryz.ntmps193
  go_wp2_with fail
  refine HA.out.mono ?_
  rintro en w1 (⟨a, j, q1, v, hm, rfl, rfl, hat, hle, hb⟩ | ⟨j, er, hm, rfl, hj, hb⟩)
  · rw [bd_ok hm] at hr
    cases a
    · simp only [Bool.false_eq_true, if_false] at hr
      go_wp2
      go_ret
      exact Or.inl ⟨false, j, q1, _, hr.symm, rfl, rfl, hat, hle, hb⟩
    · simp only [if_true] at hr
      go_wp2_with fail
      refine (HE.out _ _ _ hat).mono ?_
      rintro en w2 (⟨⟨⟩, j2, q2, v, hm2, rfl, rfl, hat2, hle2, hb2⟩ | ⟨j2, er, hm2, rfl, hj2, hb2⟩)
      · rw [bd_ok hm2] at hr
        go_wp2
        go_ret
        exact Or.inl ⟨true, j2, q2, _, hr.symm, rfl, rfl, hat2, by omega, hb.trans hb2⟩
      · rw [bd_no hm2] at hr
        go_wp2
        exact post_panic rfl (Or.inr ⟨j2, er, hr.symm, rfl, hj2, hb.trans hb2⟩)
  · rw [bd_no hm] at hr
    go_wp2
    exact post_panic rfl (Or.inr ⟨j, er, hr.symm, rfl, hj, hb⟩)
/-- The text of a token of a kind: nothing is taken. -/
def textM (L : List Tok) (k : Int) : P Bs := fun i o => if (tkn L i).k = k then .ok (tkn L i).t i o else .no i 4
theorem textOf_x (h : At w g b n c L i o) (k : Int) : Calls Tryz.prog 103 #[.pointer (some ⟨g, 0, none⟩), .int .i64 k] w (Giv g b n c L rdS w i 0 (textM L k i o)) := by
  have HN : Hid (∀ W, Below w.heap.size w W → Calls Tryz.prog 123 #[.pointer (some ⟨g, 0, none⟩)] W fun e w' => e = .returned (tokV (tkn L i)) ∧ Below W.heap.size W w') := fun W hW => next_x (h.new hW)
  have HF : Hid (∀ W, Below w.heap.size w W → Calls Tryz.prog 125 #[.pointer (some ⟨g, 0, none⟩), .int .i64 4] W fun en w' => en = .returned (failV L i 4) ∧ Below W.heap.size W w') := fun W hW => failure_x (h.new hW) 4
  have HG : Hid (∀ e, Ending.panicked [{ v := .iface 91 (failV L i e), recovered := false }] = .panicked (chn L i e)) := fun _ => rfl
  have HW : Hid (∀ w1, Below w.heap.size w w1 → At w1 g b n c L i o ∧ But g w w1) := fun w1 hb => ⟨h.new hb, But.of_below hb⟩
  have hi := h.hi
  unfold tokV at HN
  unfold failV at HF HG
  generalize hr : textM L k i o = r
  unfold textM at hr
  clear h
  by_cases e : (tkn L i).k = k
  · have q : ((tkn L i).k != k) = false := by simp [e]
    rw [if_pos e] at hr
    clear e HF HG
    generalize tkn L i = t at *
    go_enter Tryz.func103, Tryz.ntmps103
    go_wp2_with fail
    refine (HN.out _ (Below.refl _ _)).mono ?_
    rintro en w1 ⟨rfl, hb1⟩
    go_wp2_with fail
    refine (HN.out _ hb1).mono ?_
    rintro en w2 ⟨rfl, hb2⟩
    obtain ⟨h2, hB2⟩ := HW.out w2 (nextB hb1 hb2)
    go_wp2
    go_ret
    exact Or.inl ⟨t.t, i, o, _, hr.symm, rfl, rfl, h2, Nat.le_refl _, hB2⟩
  · have q : ((tkn L i).k != k) = true := by simpa using e
    rw [if_neg e] at hr
    clear e
    generalize htk : tkn L i = t at *
    subst htk
    go_enter Tryz.func103, Tryz.ntmps103
    go_wp2_with fail
    refine (HN.out _ (Below.refl _ _)).mono ?_
    rintro en w1 ⟨rfl, hb1⟩
    go_wp2_with fail
    refine (HF.out _ hb1).mono ?_
    rintro en w2 ⟨rfl, hb2⟩
    go_wp2
    exact post_panic rfl (Or.inr ⟨i, 4, hr.symm, HG.out 4, hi, But.of_below (nextB hb1 hb2)⟩)
theorem name_x (h : At w g b n c L i o) : Calls Tryz.prog 98 #[.pointer (some ⟨g, 0, none⟩)] w (Giv g b n c L rdS w i 1 (name L i o)) := by
  have HT := Lib.hid (textOf_x h 1)
  have HK : Hid (∀ W, At W g b n c L i o → (tkn L i).k = 1 → Calls Tryz.prog 124 #[.pointer (some ⟨g, 0, none⟩)] W (Giv g b n c L rdU W i 1 (take (tkn L i).t i o))) := fun W hW hk => take_x hW (by omega)
  have HK2 : Hid ((tkn L i).k = 1 → take (tkn L i).t i o = .ok () (i + 1) o) := fun hk => by
    have := h.good.words _ h.mem (by omega) (by omega)
    unfold take
    rw [if_neg, if_neg]
    · rintro (e | e | e) <;> rw [e] at this <;> revert this <;> decide
    · rintro (e | e | e) <;> rw [e] at this <;> revert this <;> decide
  have hi := h.hi
  generalize hr : name L i o = r
  unfold name at hr
  clear h
  go_enter Tryz.func98, Tryz.ntmps98
  go_wp2_with fail
  refine HT.out.mono ?_
  rintro en w1 (⟨a, j, q1, v, hm, rfl, rfl, hat, hle, hb⟩ | ⟨j, er, hm, rfl, hj, hb⟩)
  · unfold textM at hm
    split at hm
    · next e =>
      injection hm with m1 m2 m3
      subst m1 m2 m3
      rw [if_pos e] at hr
      have HT1 := Lib.hid (HK.out w1 hat e)
      have hk2 := HK2.out e
      clear HK HK2 HT
      go_wp2_with fail
      refine HT1.out.mono ?_
      rintro en w2 (⟨⟨⟩, j2, q2, v, hm2, rfl, rfl, hat2, hle2, hb2⟩ | ⟨j2, er, hm2, rfl, hj2, hb2⟩)
      · rw [hk2] at hm2
        injection hm2 with _ m2 m3
        subst m2 m3
        clear hk2
        go_wp2
        go_ret
        exact Or.inl ⟨_, i + 1, o, _, hr.symm, rfl, rfl, hat2, Nat.le_refl _, hb.trans hb2⟩
      · rw [hk2] at hm2; cases hm2
    · cases hm
  · unfold textM at hm
    split at hm
    · cases hm
    · next e =>
      injection hm with m1 m2
      subst m1 m2
      rw [if_neg e] at hr
      go_wp2
      exact post_panic rfl (Or.inr ⟨i, 4, hr.symm, rfl, hi, hb⟩)
end Ps
end Go.Proofs.YtggdhgppclnckaaGreatDoor

namespace Go.Proofs.YtggdhgppclnckaaGreatDoor
open Go Go.RowKit Lx
set_option maxRecDepth 20000

namespace Ps
attribute [local go_sem] fld_tok0 fld_tok1
variable {w : World} {g b n c : Nat} {L : List Tok} {i : Nat} {o : Int}
def GivesB (t : Bool) (w : World) (e : Ending) (w' : World) : Prop := e = .returned (.bool t) ∧ Below w.heap.size w w'
set_option maxHeartbeats 2000000 in
theorem isBefore_x (h : At w g b n c L i o) (k : Int) (hk : k ≠ 5) (s : Bs) : Calls Tryz.prog 182 #[.pointer (some ⟨g, 0, none⟩), .int .i64 k, .string (bt s)] w (GivesB (decide ((tkn L i).k = k) && decide ((tkn L (i + 1)).t = s)) w) := by
  have HN : Hid (∀ W, Below w.heap.size w W → Calls Tryz.prog 123 #[.pointer (some ⟨g, 0, none⟩)] W fun e w' => e = .returned (tokV (tkn L i)) ∧ Below W.heap.size W w') := fun W hW => next_x (h.new hW)
  unfold tokV at HN
  have hl := h.len
  have hin := h.hi
  by_cases e : (tkn L i).k = k
  · have hm := h.more (by rw [e]; exact hk)
    have hd : decide ((tkn L i).k = k) = true := by simpa using e
    have q : ((tkn L i).k == k) = true := by simpa using e
    have HC : Hid (∀ W, Below w.heap.size w W → W.cell? ⟨g, 0, none⟩ = some (.slice (some ⟨b, 0, none⟩) n c) ∧ W.cell? ⟨g, 1, none⟩ = some (.int .i64 i) ∧ W.cell? ⟨b, (i + 1) * 4 + 1, none⟩ = some (.string (bt (tkn L (i + 1)).t))) := fun W hW => by
      have hW := h.new hW
      refine ⟨hW.cs.c0, hW.cs.c1, ?_⟩
      have hlt : i + 1 < L.length := by rw [h.hn]; exact hm
      have := (hW.tk (i + 1) (tkn L (i + 1)) (by rw [tkn, List.getD_eq_getElem?_getD, List.getElem?_eq_getElem hlt]; rfl)).c1
      exact this
    have q2 : ((bt (tkn L (i + 1)).t).toList == (bt s).toList) = decide ((tkn L (i + 1)).t = s) := by
      rw [bt_list, bt_list, Bool.eq_iff_iff]; simp
    rw [hd, Bool.true_and, ← q2]
    have zw : IntKind.i64.wrap ((i : Int) + 1) = (i : Int) + 1 := by rw [IntKind.wrap_i64]; omega
    have zt : ((i : Int) + 1).toNat = i + 1 := by omega
    have z0 : (0 : Int) ≤ (i : Int) + 1 := by omega
    have z2 : (i : Int) + 1 < (n : Int) := by omega
    clear hd e h hk q2
    generalize bt (tkn L (i + 1)).t = x at *
    generalize bt s = y at *
    generalize tkn L i = t at *
    go_enter Tryz.func182, Tryz.ntmps182
    go_wp2
    refine wp_region_held_drew (S := fun W => Below w.heap.size w W) (by kernel_rfl) ?_ (fun hHeld => ?_)
    · exact drewN_below (Below.refl _ _) 1
    refine tkH (i := 0) (oi := ⟨some 7, _, _, _, _, _⟩) (v := ?_) ?_ ?_
    rotate_left
    · intro W hSw
      go_simp
      try with_reducible rfl
    try simp only [Act.put, List.setIfInBounds_toArray, List.set_cons_zero, List.set_cons_succ]
    refine tkH (i := 3) (oi := ⟨some 10, _, _, _, _, _⟩) (v := ?_) ?_ ?_
    rotate_left
    · intro W hSw
      go_simp
      try with_reducible rfl
    try simp only [Act.put, List.setIfInBounds_toArray, List.set_cons_zero, List.set_cons_succ]
    refine wpAnyH_ready (rs := [1]) (by kernel_rfl) (by simp) ?_
    refine AllReadyH.cons (o := ⟨some 8, _, _, _, _, _⟩) rfl (fun K hK => ?_) AllReadyH.nil
    go_simp
    refine (HN.out _ hHeld).mono ?_
    rintro en w1 ⟨rfl, hb1⟩
    refine hK.out _ _ (nextB hHeld hb1) (fun hHeld => ?_)
    clear hK K
    try simp only [Act.put, List.setIfInBounds_toArray, List.set_cons_zero, List.set_cons_succ]
    refine tkH (i := 2) (oi := ⟨some 9, _, _, _, _, _⟩) (v := ?_) ?_ ?_
    rotate_left
    · intro W hSw
      go_simp
      try with_reducible rfl
    try simp only [Act.put, List.setIfInBounds_toArray, List.set_cons_zero, List.set_cons_succ]
    refine tkH (i := 4) (oi := ⟨some 11, _, _, _, _, _⟩) (v := ?_) ?_ ?_
    rotate_left
    · intro W hSw
      go_simp
      try with_reducible rfl
    try simp only [Act.put, List.setIfInBounds_toArray, List.set_cons_zero, List.set_cons_succ]
    refine tkH (i := 5) (oi := ⟨some 12, _, _, _, _, _⟩) (v := ?_) ?_ ?_
    rotate_left
    · intro W hSw
      go_simp
      try with_reducible rfl
    try simp only [Act.put, List.setIfInBounds_toArray, List.set_cons_zero, List.set_cons_succ]
    refine tkH (i := 6) (oi := ⟨some 13, _, _, _, _, _⟩) (v := ?_) ?_ ?_
    rotate_left
    · intro W hSw
      go_simp
      try with_reducible rfl
    try simp only [Act.put, List.setIfInBounds_toArray, List.set_cons_zero, List.set_cons_succ]
    refine tkH (i := 7) (oi := ⟨some 14, _, _, _, _, _⟩) (v := ?_) ?_ ?_
    rotate_left
    · intro W hSw
      go_simp
      try with_reducible rfl
    try simp only [Act.put, List.setIfInBounds_toArray, List.set_cons_zero, List.set_cons_succ]
    refine tkH (i := 8) (oi := ⟨some 15, _, _, _, _, _⟩) (v := ?_) ?_ ?_
    rotate_left
    · intro W hSw
      go_simp
      try with_reducible rfl
    try simp only [Act.put, List.setIfInBounds_toArray, List.set_cons_zero, List.set_cons_succ]
    refine tkH (i := 9) (oi := ⟨some 16, _, _, _, _, _⟩) (v := ?_) ?_ ?_
    rotate_left
    · intro W hSw
      obtain ⟨c0, c1, t1⟩ := HC.out W hSw
      go_simp
      try with_reducible rfl
    try simp only [Act.put, List.setIfInBounds_toArray, List.set_cons_zero, List.set_cons_succ]
    refine tkH (i := 10) (oi := ⟨some 17, _, _, _, _, _⟩) (v := ?_) ?_ ?_
    rotate_left
    · intro W hSw
      go_simp
      try with_reducible rfl
    try simp only [Act.put, List.setIfInBounds_toArray, List.set_cons_zero, List.set_cons_succ]
    refine tkH (i := 11) (oi := ⟨some 18, _, _, _, _, _⟩) (v := ?_) ?_ ?_
    rotate_left
    · intro W hSw
      go_simp
      try with_reducible rfl
    try simp only [Act.put, List.setIfInBounds_toArray, List.set_cons_zero, List.set_cons_succ]
    refine tkH (i := 12) (oi := ⟨some 19, _, _, _, _, _⟩) (v := ?_) ?_ ?_
    rotate_left
    · intro W hSw
      go_simp
      try with_reducible rfl
    try simp only [Act.put, List.setIfInBounds_toArray, List.set_cons_zero, List.set_cons_succ]
    refine tkH (i := 13) (oi := ⟨some 20, _, _, _, _, _⟩) (v := ?_) ?_ ?_
    rotate_left
    · intro W hSw
      obtain ⟨c0, c1, t1⟩ := HC.out W hSw
      go_simp
      try with_reducible rfl
    try simp only [Act.put, List.setIfInBounds_toArray, List.set_cons_zero, List.set_cons_succ]
    refine tkH (i := 14) (oi := ⟨some 21, _, _, _, _, _⟩) (v := ?_) ?_ ?_
    rotate_left
    · intro W hSw
      go_simp
      try with_reducible rfl
    try simp only [Act.put, List.setIfInBounds_toArray, List.set_cons_zero, List.set_cons_succ]
    refine tkH (i := 15) (oi := ⟨some 22, _, _, _, _, _⟩) (v := ?_) ?_ ?_
    rotate_left
    · intro W hSw
      go_simp
      try with_reducible rfl
    try simp only [Act.put, List.setIfInBounds_toArray, List.set_cons_zero, List.set_cons_succ]
    refine tkH (i := 16) (oi := ⟨some 23, _, _, _, _, _⟩) (v := ?_) ?_ ?_
    rotate_left
    · intro W hSw
      go_simp
      try with_reducible rfl
    try simp only [Act.put, List.setIfInBounds_toArray, List.set_cons_zero, List.set_cons_succ]
    refine tkH (i := 17) (oi := ⟨some 24, _, _, _, _, _⟩) (v := ?_) ?_ ?_
    rotate_left
    · intro W hSw
      obtain ⟨c0, c1, t1⟩ := HC.out W hSw
      go_simp
      try with_reducible rfl
    try simp only [Act.put, List.setIfInBounds_toArray, List.set_cons_zero, List.set_cons_succ]
    refine tkH (i := 18) (oi := ⟨some 25, _, _, _, _, _⟩) (v := ?_) ?_ ?_
    rotate_left
    · intro W hSw
      go_simp
      try with_reducible rfl
    try simp only [Act.put, List.setIfInBounds_toArray, List.set_cons_zero, List.set_cons_succ]
    refine tkH (i := 19) (oi := ⟨some 26, _, _, _, _, _⟩) (v := ?_) ?_ ?_
    rotate_left
    · intro W hSw
      go_simp
      try with_reducible rfl
    try simp only [Act.put, List.setIfInBounds_toArray, List.set_cons_zero, List.set_cons_succ]
    refine tkH (i := 20) (oi := ⟨some 27, _, _, _, _, _⟩) (v := ?_) ?_ ?_
    rotate_left
    · intro W hSw
      go_simp
      try with_reducible rfl
    try simp only [Act.put, List.setIfInBounds_toArray, List.set_cons_zero, List.set_cons_succ]
    refine wpAnyH_ready (rs := [21]) (by kernel_rfl) (by simp) ?_
    refine AllReadyH.cons (o := ⟨some 6, _, _, _, _, _⟩) rfl (fun K hK => ?_) AllReadyH.nil
    go_simp
    refine hK.out _ _ hHeld (fun hHeld => ?_)
    clear hK K
    try simp only [Act.put, List.setIfInBounds_toArray, List.set_cons_zero, List.set_cons_succ]
    refine wpAnyH_done (by kernel_rfl) ?_ _
    go_wp2
    go_ret
    exact ⟨rfl, hHeld⟩
  · have hd : decide ((tkn L i).k = k) = false := by simpa using e
    have q : ((tkn L i).k == k) = false := by simpa using e
    rw [hd, Bool.false_and]
    clear hd e h hk
    generalize bt s = y at *
    generalize tkn L i = t at *
    go_enter Tryz.func182, Tryz.ntmps182
    go_wp2
    refine wp_region_held_drew (S := fun W => Below w.heap.size w W) (by kernel_rfl) ?_ (fun hHeld => ?_)
    · exact drewN_below (Below.refl _ _) 1
    refine tkH (i := 0) (oi := ⟨some 7, _, _, _, _, _⟩) (v := ?_) ?_ ?_
    rotate_left
    · intro W hSw
      go_simp
      try with_reducible rfl
    try simp only [Act.put, List.setIfInBounds_toArray, List.set_cons_zero, List.set_cons_succ]
    refine tkH (i := 3) (oi := ⟨some 10, _, _, _, _, _⟩) (v := ?_) ?_ ?_
    rotate_left
    · intro W hSw
      go_simp
      try with_reducible rfl
    try simp only [Act.put, List.setIfInBounds_toArray, List.set_cons_zero, List.set_cons_succ]
    refine wpAnyH_ready (rs := [1]) (by kernel_rfl) (by simp) ?_
    refine AllReadyH.cons (o := ⟨some 8, _, _, _, _, _⟩) rfl (fun K hK => ?_) AllReadyH.nil
    go_simp
    refine (HN.out _ hHeld).mono ?_
    rintro en w1 ⟨rfl, hb1⟩
    refine hK.out _ _ (nextB hHeld hb1) (fun hHeld => ?_)
    clear hK K
    try simp only [Act.put, List.setIfInBounds_toArray, List.set_cons_zero, List.set_cons_succ]
    refine tkH (i := 2) (oi := ⟨some 9, _, _, _, _, _⟩) (v := ?_) ?_ ?_
    rotate_left
    · intro W hSw
      go_simp
      try with_reducible rfl
    try simp only [Act.put, List.setIfInBounds_toArray, List.set_cons_zero, List.set_cons_succ]
    refine tkH (i := 4) (oi := ⟨some 11, _, _, _, _, _⟩) (v := ?_) ?_ ?_
    rotate_left
    · intro W hSw
      go_simp
      try with_reducible rfl
    try simp only [Act.put, List.setIfInBounds_toArray, List.set_cons_zero, List.set_cons_succ]
    refine tkH (i := 5) (oi := ⟨some 12, _, _, _, _, _⟩) (v := ?_) ?_ ?_
    rotate_left
    · intro W hSw
      go_simp
      try with_reducible rfl
    try simp only [Act.put, List.setIfInBounds_toArray, List.set_cons_zero, List.set_cons_succ]
    refine tkU (i := 6) (oi := ⟨some 13, _, _, _, _, _⟩) ?_
    try simp only [Act.put, List.setIfInBounds_toArray, List.set_cons_zero, List.set_cons_succ]
    refine tkU (i := 7) (oi := ⟨some 14, _, _, _, _, _⟩) ?_
    try simp only [Act.put, List.setIfInBounds_toArray, List.set_cons_zero, List.set_cons_succ]
    refine tkU (i := 8) (oi := ⟨some 15, _, _, _, _, _⟩) ?_
    try simp only [Act.put, List.setIfInBounds_toArray, List.set_cons_zero, List.set_cons_succ]
    refine tkU (i := 9) (oi := ⟨some 16, _, _, _, _, _⟩) ?_
    try simp only [Act.put, List.setIfInBounds_toArray, List.set_cons_zero, List.set_cons_succ]
    refine tkU (i := 10) (oi := ⟨some 17, _, _, _, _, _⟩) ?_
    try simp only [Act.put, List.setIfInBounds_toArray, List.set_cons_zero, List.set_cons_succ]
    refine tkU (i := 11) (oi := ⟨some 18, _, _, _, _, _⟩) ?_
    try simp only [Act.put, List.setIfInBounds_toArray, List.set_cons_zero, List.set_cons_succ]
    refine tkU (i := 12) (oi := ⟨some 19, _, _, _, _, _⟩) ?_
    try simp only [Act.put, List.setIfInBounds_toArray, List.set_cons_zero, List.set_cons_succ]
    refine tkU (i := 13) (oi := ⟨some 20, _, _, _, _, _⟩) ?_
    try simp only [Act.put, List.setIfInBounds_toArray, List.set_cons_zero, List.set_cons_succ]
    refine tkU (i := 14) (oi := ⟨some 21, _, _, _, _, _⟩) ?_
    try simp only [Act.put, List.setIfInBounds_toArray, List.set_cons_zero, List.set_cons_succ]
    refine tkU (i := 15) (oi := ⟨some 22, _, _, _, _, _⟩) ?_
    try simp only [Act.put, List.setIfInBounds_toArray, List.set_cons_zero, List.set_cons_succ]
    refine tkU (i := 16) (oi := ⟨some 23, _, _, _, _, _⟩) ?_
    try simp only [Act.put, List.setIfInBounds_toArray, List.set_cons_zero, List.set_cons_succ]
    refine tkU (i := 17) (oi := ⟨some 24, _, _, _, _, _⟩) ?_
    try simp only [Act.put, List.setIfInBounds_toArray, List.set_cons_zero, List.set_cons_succ]
    refine tkU (i := 18) (oi := ⟨some 25, _, _, _, _, _⟩) ?_
    try simp only [Act.put, List.setIfInBounds_toArray, List.set_cons_zero, List.set_cons_succ]
    refine tkU (i := 19) (oi := ⟨some 26, _, _, _, _, _⟩) ?_
    try simp only [Act.put, List.setIfInBounds_toArray, List.set_cons_zero, List.set_cons_succ]
    refine tkH (i := 20) (oi := ⟨some 27, _, _, _, _, _⟩) (v := ?_) ?_ ?_
    rotate_left
    · intro W hSw
      go_simp
      try with_reducible rfl
    try simp only [Act.put, List.setIfInBounds_toArray, List.set_cons_zero, List.set_cons_succ]
    refine wpAnyH_ready (rs := [21]) (by kernel_rfl) (by simp) ?_
    refine AllReadyH.cons (o := ⟨some 6, _, _, _, _, _⟩) rfl (fun K hK => ?_) AllReadyH.nil
    go_simp
    refine hK.out _ _ hHeld (fun hHeld => ?_)
    clear hK K
    try simp only [Act.put, List.setIfInBounds_toArray, List.set_cons_zero, List.set_cons_succ]
    refine wpAnyH_done (by kernel_rfl) ?_ _
    go_wp2
    go_ret
    exact ⟨rfl, hHeld⟩
end Ps
end Go.Proofs.YtggdhgppclnckaaGreatDoor

namespace Go.Proofs.YtggdhgppclnckaaGreatDoor
open Go Go.RowKit Lx
set_option maxRecDepth 20000

namespace Ps
def Rv.d (r : Rv) : List D := [.b r.neg, .l 1 (r.num.map (.n .u32 ·)), .l 1 (r.den.map (.n .u32 ·))]
mutual
def Ex.d : Ex → List D
  | .mk op i r nm xs => [.n .i64 op, .n .i64 i, .b r.neg, .l 1 (r.num.map (.n .u32 ·)), .l 1 (r.den.map (.n .u32 ·)), .s nm, .l 7 (dsE xs)]
def dsE : List Ex → List D
  | [] => []
  | e :: l => e.d ++ dsE l
end
theorem Ex.d_len (e : Ex) : e.d.length = 7 := by cases e; simp [Ex.d]
theorem dsE_len (a : List Ex) : (dsE a).length = a.length * 7 := by
  induction a with
  | nil => simp [dsE]
  | cons e a ih => simp [dsE, ih, Ex.d_len]; omega
theorem dsE_one (e : Ex) : dsE [e] = e.d := by simp [dsE]

/-- The value holds the expression. -/
def rdE (b : Nat) (w : World) (e : Ex) (v : Value) : Prop := ∃ a0 a1 a2 a3 a4 a5 a6, v = .agg #[a0, a1, a2, a3, a4, a5, a6] ∧ Rds (Fr b) w e.d [a0, a1, a2, a3, a4, a5, a6]
/-- A value that is one cell. -/
theorem Rd.one {S : Nat → Prop} {w : World} {d : D} {v : Value} (h : Rd S w d v) : v.oneCell' = true := by cases h <;> rfl
theorem Rds.ones {S : Nat → Prop} {w : World} {d : List D} {v : List Value} (h : Rds S w d v) : ∀ x ∈ v, x.oneCell' = true := by
  induction h with
  | nil => intro x hx; cases hx
  | cons h _ ih =>
    intro x hx
    rcases List.mem_cons.1 hx with rfl | hx
    · exact h.one
    · exact ih x hx
theorem Rds.all {S : Nat → Prop} {w : World} {d : List D} {v : List Value} (h : Rds S w d v) : v.toArray.all (·.oneCell') = true := by
  rw [Array.all_eq_true_iff_forall_mem]
  intro x hx
  exact h.ones x (by simpa using hx)
variable {w : World} {g b n c : Nat} {L : List Tok} {i : Nat} {o : Int}
theorem node_x (op : Int) (A : Option Addr) (m q : Nat) (w : World) : Calls Tryz.prog 180 #[.int .i64 op, .slice A m q] w fun e w' =>
    e = .returned (.agg #[.int .i64 op, .int .i64 0, .bool false, .slice none 0 0, .slice none 0 0, .string ⟨#[]⟩, .slice A m q]) ∧ Below w.heap.size w w' := by
  go_enter Tryz.func180, Tryz.ntmps180
  go_wp2
  refine bodyPost_ret (results_cell_row rfl _ _ w.heap.size _ _ _ (.struct _) rfl (box_alloc w _ _) rfl rfl (by kernel_rfl)) rfl ?_
  exact ⟨rfl, allocB w _⟩
theorem rdE.but {w w' : World} {b b' : Nat} {e : Ex} {v : Value} (h : rdE b w e v) (hb : But g w w') (hg : g < b) (hle : b' ≤ b) : rdE b' w' e v := by
  obtain ⟨a0, a1, a2, a3, a4, a5, a6, rfl, h⟩ := h
  exact ⟨_, _, _, _, _, _, _, rfl, h.lift hb hg hle⟩
end Ps
end Go.Proofs.YtggdhgppclnckaaGreatDoor

namespace Go.Proofs.YtggdhgppclnckaaGreatDoor
open Go Go.RowKit Lx
set_option maxRecDepth 20000

namespace Ps
/-- A load of a whole variable, as an operation. -/
theorem Box.yield {W : World} {k : Nat} {t : TypeId} {cs : Array Value} {fs : Array Field} {op : Oper} {a : Act} {x : Operand} (ho : op.op = .load t x) (hx : a.eval x = .pointer (some ⟨k, 0, none⟩)) (h : Box W k t cs)
    (hu : Tryz.prog.underlying t = some (.struct fs)) (hi : (Tryz.prog.info? t).map (·.size) = some cs.size) : (execOp a.eval op).run Tryz.prog W = .ok (.value (.agg cs)) W := by
  unfold execOp
  simp only [ho, hx, Instr.loadAt, Instr.sureAddr, Sem.run_bind, Sem.run_pure, Result.andThen_ok, h.load hu hi]
theorem Rds.laidQ {Q : Nat → Prop} {w : World} {ds : List D} {vs : List Value} {sz n : Nat} (t : TypeId) (h : Rds Q w ds vs) (hl : ds.length = n * sz) (hQ : Q w.heap.size) (hn : n ≤ maxLen) : Rd Q (w.alloc (.cells vs.toArray t)) (.l sz ds) (.slice (some ⟨w.heap.size, 0, none⟩) n n) := by
  have hk : Rds Q (w.alloc (.cells vs.toArray t)) ds vs := h.keep (allocB w _).size (fun k _ hk => (allocB w _).block k hk) fun _ h _ => h
  refine .l sz ds w.heap.size 0 n n (fun i => vs[i]?.getD undef) hl (Nat.le_refl _) hn hQ (by simp) (fun i hi => ?_) fun i d hd => ?_
  · rw [World.cell?_alloc_new, Nat.zero_add, List.getElem?_toArray]
    have : i < vs.length := by rw [← h.len]; exact hi
    simp [List.getElem?_eq_getElem this]
  · obtain ⟨v, hv, hr⟩ := hk.at i d hd
    simp only [hv, Option.getD_some]; exact hr
theorem Rd.new {Q : Nat → Prop} {w w' : World} {d : D} {v : Value} (h : Rd Q w d v) (hb : Below w.heap.size w w') : Rd Q w' d v := h.keep hb.size (fun k _ hk => hb.block k hk) fun _ h _ => h
theorem Rds.new {Q : Nat → Prop} {w w' : World} {d : List D} {v : List Value} (h : Rds Q w d v) (hb : Below w.heap.size w w') : Rds Q w' d v := h.keep hb.size (fun k _ hk => hb.block k hk) fun _ h _ => h
theorem Rd.row {Q : Nat → Prop} {w : World} {d : D} {v : Value} {k : Nat} (h : Rd Q w d v) (hk : ¬ Q k) (cs : Array Value) : Rd Q (w.setRow k cs) d v := h.keep (by rw [size_row]; exact Nat.le_refl _) (fun j hj _ => setRow_other w k j cs (fun e => hk (e ▸ hj))) fun _ h _ => h
theorem Rds.row {Q : Nat → Prop} {w : World} {d : List D} {v : List Value} {k : Nat} (h : Rds Q w d v) (hk : ¬ Q k) (cs : Array Value) : Rds Q (w.setRow k cs) d v := h.keep (by rw [size_row]; exact Nat.le_refl _) (fun j hj _ => setRow_other w k j cs (fun e => hk (e ▸ hj))) fun _ h _ => h
theorem node_rds {Q : Nat → Prop} {w : World} (op : Int) (xs : List Ex) {v : Value} (h : Rd Q w (.l 7 (dsE xs)) v) : Rds Q w (node op xs).d [.int .i64 op, .int .i64 0, .bool false, .slice none 0 0, .slice none 0 0, .string ⟨#[]⟩, v] := by
  unfold node Rv.zero
  simp only [Ex.d, List.map_nil]
  exact .cons (.n _ _) (.cons (.n _ _) (.cons (.b _) (.cons (.nil _) (.cons (.nil _) (.cons (.s []) (.cons h .nil))))))
/-- Blocks behind S, but not the box e. -/
abbrev Ob (S e : Nat) : Nat → Prop := fun k => S < k ∧ k ≠ e
theorem At.row {w : World} {g b n c : Nat} {L : List Tok} {i k : Nat} {o : Int} (h : At w g b n c L i o) (cs : Array Value) (hg : g < k) (hb : b < k) : At (w.setRow k cs) g b n c L i o := h.below (B := k) (below_row (Below.refl _ _) (Nat.le_refl _) cs) hg hb
theorem At.drew {w : World} {g b n c : Nat} {L : List Tok} {i : Nat} {o : Int} (h : At w g b n c L i o) : At w.drew g b n c L i o := h.drewN 1
theorem But.drew {g : Nat} {w w' : World} (h : But g w w') : But g w w'.drew := h.drewN 1
theorem Box.drew {w : World} {k : Nat} {t : TypeId} {cs : Array Value} (h : Box w k t cs) : Box w.drew k t cs := h
theorem Rds.drew {Q : Nat → Prop} {w : World} {d : List D} {v : List Value} (h : Rds Q w d v) : Rds Q w.drew d v := h.keep (Nat.le_refl _) (fun _ _ _ => rfl) fun _ h _ => h
theorem Rd.drew {Q : Nat → Prop} {w : World} {d : D} {v : Value} (h : Rd Q w d v) : Rd Q w.drew d v := h.keep (Nat.le_refl _) (fun _ _ _ => rfl) fun _ h _ => h
theorem box_cell {W : World} {k : Nat} {t : TypeId} {cs : Array Value} (h : Box W k t cs) (j : Nat) (v : Value) (hv : cs[j]? = some v) : W.cell? ⟨k, j, none⟩ = some v := by
  simp [World.cell?, show W.heap[k]? = some (.cells cs t (0, 0)) from h, hv]
/-- Two variables as results. -/
theorem results_two {fn : Func} {p q : Tmp} {t u : TypeId} (h : fn.results = #[.cell p t, .cell q u]) (tmps : Array Value) (w : World) {j k : Nat} {cs ds : Array Value} {fs gs : Array Field}
    (hp : tmps.getD p undef = .pointer (some ⟨j, 0, none⟩)) (hq : tmps.getD q undef = .pointer (some ⟨k, 0, none⟩)) (hj : Box w j t cs) (hk : Box w k u ds)
    (ht : Tryz.prog.underlying t = some (.struct fs)) (hu : Tryz.prog.underlying u = some (.struct gs)) (it : (Tryz.prog.info? t).map (·.size) = some cs.size) (iu : (Tryz.prog.info? u).map (·.size) = some ds.size) :
    (results fn tmps).run Tryz.prog w = .ok (.tuple #[.agg cs, .agg ds]) w := by
  have hp' : tmps[p]?.getD undef = .pointer (some ⟨j, 0, none⟩) := by simpa using hp
  have hq' : tmps[q]?.getD undef = .pointer (some ⟨k, 0, none⟩) := by simpa using hq
  simp [results, h, hp', hq', asAddr, hj.load ht it, hk.load hu iu]
/-- The method f reads what M reads, where at most q tokens are left. -/
def Does {α : Type} (g b n c : Nat) (L : List Tok) (f : FuncId) (rd : Nat → World → α → Value → Prop) (M : P α) (q : Nat) : Prop :=
  ∀ (w : World) (i : Nat) (o : Int), At w g b n c L i o → n ≤ q + i → Calls Tryz.prog f #[.pointer (some ⟨g, 0, none⟩)] w (Giv g b n c L (rd w.heap.size) w i 0 (M i o))
/-- A call of the function enters it. -/
def Enters (f : FuncId) : Prop := ∀ (args : Array Value) (W : World), (callFunc f args).run Tryz.prog W = .ok (.enter f args) W
/-- The slice holds the elements. -/
def rdL {α : Type} (k : Nat) (d : α → List D) (b : Nat) (w : World) (l : List α) (v : Value) : Prop := ∃ A n c, v = .slice A n c ∧ Rd (Fr b) w (.l k (l.flatMap d)) v
theorem info_three {t : TypeId} {z : Value} {n b : Nat} (h : (Tryz.prog.info? t).map (fun i => (i.zero, i.size, i.bytes)) = some (some z, n, b)) :
    ∃ i, Tryz.prog.info? t = some i ∧ i.zero = some z ∧ i.size = n ∧ i.bytes = b := by
  cases hi : Tryz.prog.info? t with
  | none => rw [hi] at h; cases h
  | some i =>
    rw [hi] at h
    simp only [Option.map_some] at h
    injection h with h
    injection h with h1 h2
    injection h2 with h2 h3
    exact ⟨i, rfl, h1, h2, h3⟩
theorem cells_of_alloc (w : World) (cs : List Value) (t : TypeId) : ∀ j u, cs[j]? = some u → (w.alloc (.cells cs.toArray t)).cell? ((⟨w.heap.size, 0, none⟩ : Addr).add j) = some u := by
  intro j u hj
  rw [add_plain, Nat.zero_add, World.cell?_alloc_new, List.getElem?_toArray, hj]
section
variable {w w' : World} {base sz n c : Nat} {t : TypeId} {A : Option Addr} {ds : List D}
theorem Own.new (h : Own w base t sz A n c ds) (hb : Below w.heap.size w w') : Own w' base t sz A n c ds := by
  have hlt := h.lt
  obtain ⟨vs, h, r⟩ := h
  exact ⟨vs, own_row h fun a ha => hb.block _ (hlt a ha).2, r.keep hb.size (fun k _ hk => hb.block k hk) fun _ h _ => h⟩
theorem grown_below {vs : List Value} (hr : w.ownsRow base t sz (.slice A n c) n vs) (hgrow : w.grownBy w' (Value.ownBlock (.slice A n c))) (hbs : base ≤ w.heap.size) : Below base w w' :=
  (Below.refl base w).grown hgrow hbs fun k hk => (hr.lt k hk).1
theorem hnew_or {v v' : Value} {N : Nat} (h : v'.ownBlock = v.ownBlock ∨ v'.ownBlock = some N) : ∀ k, v'.ownBlock = some k → v.ownBlock = some k ∨ N ≤ k := by
  intro k hk
  rcases h with h | h
  · rw [hk] at h; exact .inl h.symm
  · rw [hk] at h; injection h with h; exact .inr (by omega)
/-- A slice of one element that the call has just laid. -/
theorem own_first {b : Nat} {cs : List Value} (t : TypeId) (k : Nat) (h : Rds (Fr b) w ds cs) (hb : b ≤ w.heap.size) (hk : cs.length = k) : Own (w.alloc (.cells cs.toArray t)) b t k (some ⟨w.heap.size, 0, none⟩) 1 1 ds := by
  refine ⟨cs, ⟨by rw [hk, Nat.one_mul], .inr ⟨w.heap.size, 1, cs.toArray, rfl, hb, heap_alloc_new _ _, Nat.le_refl _, by decide, by simp [hk], by simp [← hk]⟩⟩, ?_⟩
  refine h.keep (allocB w _).size (fun j _ hj => (allocB w _).block j hj) fun j hj hlt => ⟨hj, fun a ha => ?_⟩
  injection ha with ha
  subst ha
  simp; omega
end
end Ps
end Go.Proofs.YtggdhgppclnckaaGreatDoor
