/-
  Parse.
-/
import Derived.Test.YtggdhgppclnckaaGreatDoorPaif
import Derived.Test.YtggdhgppclnckaaGreatDoorGoodP
import Derived.Test.YtggdhgppclnckaaGreatDoorLexX
namespace Go.Proofs.YtggdhgppclnckaaGreatDoor
open Go Go.RowKit Lx
set_option maxRecDepth 20000

namespace Ps
theorem results_three {fn : Func} {p q u : Tmp} {t s : TypeId} (h : fn.results = #[.cell p t, .cell q s, .tmp u]) (tmps : Array Value) (w : World) {j k : Nat} {cs ds : Array Value} {fs gs : Array Field}
    (hp : tmps.getD p undef = .pointer (some ⟨j, 0, none⟩)) (hq : tmps.getD q undef = .pointer (some ⟨k, 0, none⟩)) (hj : Box w j t cs) (hk : Box w k s ds)
    (ht : Tryz.prog.underlying t = some (.struct fs)) (hu : Tryz.prog.underlying s = some (.struct gs)) (it : (Tryz.prog.info? t).map (·.size) = some cs.size) (iu : (Tryz.prog.info? s).map (·.size) = some ds.size) :
    (results fn tmps).run Tryz.prog w = .ok (.tuple #[.agg cs, .agg ds, tmps.getD u undef]) w := by
  have hp' : tmps[p]?.getD undef = .pointer (some ⟨j, 0, none⟩) := by simpa using hp
  have hq' : tmps[q]?.getD undef = .pointer (some ⟨k, 0, none⟩) := by simpa using hq
  simp [results, h, hp', hq', asAddr, hj.load ht it, hk.load hu iu]
theorem tk_row {w : World} {B : Nat} {A : Option Addr} {n c : Nat} {T : List Tok} (h : w.ownsRow B 44 4 (.slice A n c) n (rowT T)) (hT : T.length = n) (hn : 0 < n) :
    ∃ g, A = some ⟨g, 0, none⟩ ∧ B ≤ g ∧ g < w.heap.size ∧ ∀ (i : Nat) (t : Tok), T[i]? = some t → TkC w g i t := by
  obtain ⟨g, cap, e, hb, hg⟩ := h.form hn
  injection e with e1 e2 e3
  subst e1 e3
  refine ⟨g, rfl, hb, hg, fun i t ht => ?_⟩
  have hi : i < n := by rw [← hT]; exact (List.getElem?_eq_some_iff.1 ht).1
  have key : ∀ j, j < 4 → w.cell? ⟨g, i * 4 + j, none⟩ = t.cells[j]? := fun j hj => by
    rw [h.cellAt (i * 4 + j) (by omega), rowT_get T i j t hj ht]
  exact ⟨key 0 (by omega), key 1 (by omega), key 2 (by omega), key 3 (by omega)⟩
/-- The lexer's outcome. -/
def lexOut (s : ByteArray) : Out := if s.size ≤ 8192 then lex s.toList (1, 1) else .bad 1 1 9
/-- What Parse returns: the program, or the position and the error. -/
def GivesParse (O : Out) (w : World) (e : Ending) (w' : World) : Prop :=
  (∃ pr a0 a1 a2 a3 a4 a5, (∃ T j q, O = .ok T ∧ program T 0 0 = .ok pr j q) ∧ e = .returned (.tuple #[.agg #[a0, a1, a2, a3, a4, a5], .agg #[.int .i64 0, .int .i64 0], .int .i64 0]) ∧ Rds (Fr w.heap.size) w' pr.d [a0, a1, a2, a3, a4, a5] ∧ Below w.heap.size w w') ∨
  (∃ l co er, ((∃ T j, O = .ok T ∧ program T 0 0 = .no j er ∧ j < T.length ∧ l = (tkn T j).ln ∧ co = (tkn T j).co) ∨ O = .bad l co er) ∧ e = .returned (.tuple #[.agg #[.slice none 0 0, .slice none 0 0, .slice none 0 0, .slice none 0 0, .slice none 0 0, .string ⟨#[]⟩], .agg #[.int .i64 l, .int .i64 co], .int .i64 er]) ∧ Below w.heap.size w w')
set_option maxHeartbeats 8000000 in
theorem parse_x (s : ByteArray) (w : World) (hm : s.size ≤ maxLen) (hgl : Gl w) (h8 : 5 ≤ w.heap.size) (hfr : ∀ T, lexOut s = .ok T → ∀ g b n c, FrOk g b n c T) : Calls Tryz.prog 20 #[.string s] w (GivesParse (lexOut s) w) := by
  have HT : Hid (∀ W, Calls Tryz.prog 39 #[.string s] W (GivesOut (lexOut s) W)) := fun W => tokens_x s W hm
  have HG : Hid (∀ T, lexOut s = .ok T → Good T) := fun T hT => by
    unfold lexOut at hT
    split at hT
    · next hs => exact good_lex (by rw [Lib.toList_data]; simpa using hs) hT
    · cases hT
  have HR := Lib.hid hfr
  clear hfr
  generalize lexOut s = O at *
  have e1 : (w.alloc (.cells #[.slice none 0 0, .slice none 0 0, .slice none 0 0, .slice none 0 0, .slice none 0 0, .string ⟨#[]⟩] 32)).heap.size = w.heap.size + 1 := by simp
  have b1 := allocB w (.cells #[.slice none 0 0, .slice none 0 0, .slice none 0 0, .slice none 0 0, .slice none 0 0, .string ⟨#[]⟩] 32)
  have b2 := b1.trans ((allocB (w.alloc (.cells #[.slice none 0 0, .slice none 0 0, .slice none 0 0, .slice none 0 0, .slice none 0 0, .string ⟨#[]⟩] 32)) (.cells #[.int .i64 0, .int .i64 0] 38)).mono b1.size)
  have xp := (box_alloc w 32 #[.slice none 0 0, .slice none 0 0, .slice none 0 0, .slice none 0 0, .slice none 0 0, .string ⟨#[]⟩]).new (allocB (w.alloc (.cells #[.slice none 0 0, .slice none 0 0, .slice none 0 0, .slice none 0 0, .slice none 0 0, .string ⟨#[]⟩] 32)) (.cells #[.int .i64 0, .int .i64 0] 38))
  have xq := box_alloc (w.alloc (.cells #[.slice none 0 0, .slice none 0 0, .slice none 0 0, .slice none 0 0, .slice none 0 0, .string ⟨#[]⟩] 32)) 38 #[.int .i64 0, .int .i64 0]
  rw [e1] at xq
  clear e1 b1
  go_enter Tryz.func20, Tryz.ntmps20
  go_wp2_with fail
  generalize ((w.alloc (.cells #[.slice none 0 0, .slice none 0 0, .slice none 0 0, .slice none 0 0, .slice none 0 0, .string ⟨#[]⟩] 32)).alloc (.cells #[.int .i64 0, .int .i64 0] 38)) = w1 at *
  have l1 := xp.lt
  have l2 := xq.lt
  refine (HT.out w1).mono ?_
  rintro e w2 (⟨T, A, n, c, hO, rfl, hTn, hown, hb1⟩ | ⟨l, co, er, hO, her, rfl, hb1⟩)
  rotate_left
  · have x6 := box_alloc w2 38 #[.int .i64 l, .int .i64 co]
    have xp2 := (xp.new hb1).new (allocB w2 (.cells #[.int .i64 l, .int .i64 co] 38))
    have xq2 := (xq.new hb1).new (allocB w2 (.cells #[.int .i64 l, .int .i64 co] 38))
    have bB2 : Below w.heap.size w (w2.alloc (.cells #[.int .i64 l, .int .i64 co] 38)) := (b2.trans (hb1.mono b2.size)).trans ((allocB w2 _).mono (Nat.le_trans b2.size hb1.size))
    have hs2 := hb1.size
    have q1 : (er != 0) = true := by simpa using her
    clear xp xq hb1 HT HG HR b2
    go_wp2_with fail
    generalize w2.alloc (.cells #[.int .i64 l, .int .i64 co] 38) = w3 at *
    have x6d := x6.drew
    have xpd := xp2.drew
    have xqd := xq2.drew
    clear x6 xp2 xq2
    refine wp_region_held_drew (S := fun W => Box W w2.heap.size 38 #[.int .i64 l, .int .i64 co]) (by kernel_rfl) ?_ (fun hHeld => ?_)
    · exact x6d
    refine tkH (i := 0) (oi := ⟨some 18, _, _, _, _, _⟩) (v := ?_) ?_ ?_
    rotate_left
    · intro W hSw
      go_simp
      try with_reducible rfl
    try simp only [Act.put, List.setIfInBounds_toArray, List.set_cons_zero, List.set_cons_succ]
    refine tkH (i := 1) (oi := ⟨some 19, _, _, _, _, _⟩) (v := .agg #[.int .i64 l, .int .i64 co]) (fun W hSw => Box.yield rfl rfl (hSw) rfl (by kernel_rfl)) ?_
    try simp only [Act.put, List.setIfInBounds_toArray, List.set_cons_zero, List.set_cons_succ]
    refine tkH (i := 2) (oi := ⟨some 20, _, _, _, _, _⟩) (v := ?_) ?_ ?_
    rotate_left
    · intro W hSw
      go_simp
      try with_reducible rfl
    try simp only [Act.put, List.setIfInBounds_toArray, List.set_cons_zero, List.set_cons_succ]
    refine wpAnyH_ready (rs := [3]) (by kernel_rfl) (by simp) ?_
    refine AllReadyH.cons (o := ⟨none, _, _, _, _, _⟩) rfl (fun K hK => ?_) AllReadyH.nil
    rw [if_pos (by rfl)]
    refine wp_store_row 32 (.tmp 2) (.tmp 18) rfl (w.heap.size) _ rfl rfl 32 _ (xpd) (by kernel_rfl) rfl (by simp [Value.oneCell']) ?_
    refine hK.out _ _ (x6d.other _ (by omega)) (fun hHeld => ?_)
    clear hK K
    try simp only [Act.put]
    refine wpAnyH_ready (rs := [4]) (by kernel_rfl) (by simp) ?_
    refine AllReadyH.cons (o := ⟨none, _, _, _, _, _⟩) rfl (fun K hK => ?_) AllReadyH.nil
    rw [if_pos (by rfl)]
    refine wp_store_row 38 (.tmp 3) (.tmp 19) rfl (w.heap.size + 1) _ rfl rfl 38 _ (xqd.other _ (by omega)) (by kernel_rfl) rfl (by simp [Value.oneCell']) ?_
    refine hK.out _ _ ((x6d.other _ (by omega)).other _ (by omega)) (fun hHeld => ?_)
    clear hK K
    try simp only [Act.put]
    refine wpAnyH_ready (rs := [5]) (by kernel_rfl) (by simp) ?_
    refine AllReadyH.cons (o := ⟨some 4, _, _, _, _, _⟩) rfl (fun K hK => ?_) AllReadyH.nil
    go_simp
    refine hK.out _ _ (hHeld) (fun hHeld => ?_)
    clear hK K
    try simp only [Act.put, List.setIfInBounds_toArray, List.set_cons_zero, List.set_cons_succ]
    refine wpAnyH_done (by kernel_rfl) ?_ _
    go_wp2
    refine bodyPost_ret (results_three rfl _ _ rfl rfl ((xpd.set _).other _ (by omega)) ((xqd.other _ (by omega)).set _) rfl rfl (by kernel_rfl) (by kernel_rfl)) rfl ?_
    exact Or.inr ⟨l, co, er, .inr hO, rfl, below_row (below_row (drewN_below bB2 1) (Nat.le_refl _) _) (by omega) _⟩
  · have hg := HG.out T hO
    obtain ⟨b, rfl, hbl, hbh, htk⟩ := tk_row hown hTn (by have := hg.pos; omega)
    have bA := allocB w2 (.cells #[.int .i64 0, .int .i64 0] 38)
    have xp3 := (xp.new hb1).new bA
    have xq3 := (xq.new hb1).new bA
    have bB1 : Below w.heap.size w w2 := b2.trans (hb1.mono b2.size)
    have bB3 : Below w.heap.size w (w2.alloc (.cells #[.int .i64 0, .int .i64 0] 38)) := bB1.trans (bA.mono bB1.size)
    have hs2 := hb1.size
    have HRD := Lib.hid (read_x T b n c (w2.alloc (.cells #[.int .i64 0, .int .i64 0] 38)) (Nat.lt_of_lt_of_le hbh bA.size) (fun j t ht => (htk j t ht).keep (bA.block b hbh)) hTn hg (hgl.keep fun k hk => bB3.block k (by omega)) (by have := bB3.size; omega) (by omega) (fun g => HR.out T hO g b n c))
    have hs3 := bA.size
    clear xp xq hb1 HT HG HR b2 hown htk bA bB1
    go_wp2_with fail
    generalize w2.alloc (.cells #[.int .i64 0, .int .i64 0] 38) = w3 at *
    refine HRD.out.mono ?_
    rintro e w4 (⟨pr, j, q, a0, a1, a2, a3, a4, a5, hpr, rfl, hv, hb4⟩ | ⟨j, er, hpr, hj, rfl, hb4⟩)
    · have xp4 := xp3.new hb4
      have xq4 := xq3.new hb4
      have bB4 := bB3.trans (hb4.mono bB3.size)
      have hs4 := hb4.size
      clear xp3 xq3 bB3 HRD
      have bu : Below w4.heap.size w4 ((w4.alloc (.cells #[.slice none 0 0, .slice none 0 0, .slice none 0 0, .slice none 0 0, .slice none 0 0, .string ⟨#[]⟩] 32)).alloc (.cells #[.int .i64 0, .int .i64 0, .int .i64 0] 91)) := (allocB w4 _).trans ((allocB _ _).mono (by simp))
      have y8 := (box_alloc w4 32 #[.slice none 0 0, .slice none 0 0, .slice none 0 0, .slice none 0 0, .slice none 0 0, .string ⟨#[]⟩]).new (allocB (w4.alloc (.cells #[.slice none 0 0, .slice none 0 0, .slice none 0 0, .slice none 0 0, .slice none 0 0, .string ⟨#[]⟩] 32)) (.cells #[.int .i64 0, .int .i64 0, .int .i64 0] 91))
      have y9 := box_alloc (w4.alloc (.cells #[.slice none 0 0, .slice none 0 0, .slice none 0 0, .slice none 0 0, .slice none 0 0, .string ⟨#[]⟩] 32)) 91 #[.int .i64 0, .int .i64 0, .int .i64 0]
      rw [show (w4.alloc (.cells #[.slice none 0 0, .slice none 0 0, .slice none 0 0, .slice none 0 0, .slice none 0 0, .string ⟨#[]⟩] 32)).heap.size = w4.heap.size + 1 by simp] at y9
      have y8f := (y8.set #[a0, a1, a2, a3, a4, a5]).other (j := w4.heap.size + 1) #[.int .i64 0, .int .i64 0, .int .i64 0] (by omega)
      have y9' := y9.other (j := w4.heap.size) #[a0, a1, a2, a3, a4, a5] (by omega)
      have y9f := y9'.set #[.int .i64 0, .int .i64 0, .int .i64 0]
      have xp5 := ((xp4.new bu).other (j := w4.heap.size) #[a0, a1, a2, a3, a4, a5] (by omega)).other (j := w4.heap.size + 1) #[.int .i64 0, .int .i64 0, .int .i64 0] (by omega)
      have xq5 := ((xq4.new bu).other (j := w4.heap.size) #[a0, a1, a2, a3, a4, a5] (by omega)).other (j := w4.heap.size + 1) #[.int .i64 0, .int .i64 0, .int .i64 0] (by omega)
      have bB5 : Below w.heap.size w ((((w4.alloc (.cells #[.slice none 0 0, .slice none 0 0, .slice none 0 0, .slice none 0 0, .slice none 0 0, .string ⟨#[]⟩] 32)).alloc (.cells #[.int .i64 0, .int .i64 0, .int .i64 0] 91)).setRow w4.heap.size #[a0, a1, a2, a3, a4, a5]).setRow (w4.heap.size + 1) #[.int .i64 0, .int .i64 0, .int .i64 0]) := below_row (below_row (bB4.trans (bu.mono bB4.size)) (by have := bB4.size; omega) _) (by have := bB4.size; omega) _
      have hd5 : Rds (Fr (w.heap.size + 2)) ((((w4.alloc (.cells #[.slice none 0 0, .slice none 0 0, .slice none 0 0, .slice none 0 0, .slice none 0 0, .string ⟨#[]⟩] 32)).alloc (.cells #[.int .i64 0, .int .i64 0, .int .i64 0] 91)).setRow w4.heap.size #[a0, a1, a2, a3, a4, a5]).setRow (w4.heap.size + 1) #[.int .i64 0, .int .i64 0, .int .i64 0]) pr.d [a0, a1, a2, a3, a4, a5] := by
        have h1 : Rds (fun k => w.heap.size + 2 ≤ k ∧ k ≠ w4.heap.size ∧ k ≠ w4.heap.size + 1) w4 pr.d [a0, a1, a2, a3, a4, a5] := hv.keep (Nat.le_refl _) (fun _ _ _ => rfl) fun k hk hlt => by simp [Fr] at hk; omega
        exact (((h1.new bu).row (by simp) _).row (by simp) _).in fun k hk => hk.1
      have onesP : (#[a0, a1, a2, a3, a4, a5] : Array Value).all (·.oneCell') = true := hv.all
      go_wp2_with (first | (refine wpList_store_row rfl 32 (.tmp 8) (.tmp 24) rfl w4.heap.size _ rfl rfl 32 _ y8 (by kernel_rfl) rfl (onesP) ?_) | (refine wpList_store_row rfl 91 (.tmp 9) (.tmp 25) rfl (w4.heap.size + 1) _ rfl rfl 91 _ y9' (by kernel_rfl) rfl (by simp [Value.oneCell']) ?_))
      clear y8 y9 y9' bu
      generalize (((w4.alloc (.cells #[.slice none 0 0, .slice none 0 0, .slice none 0 0, .slice none 0 0, .slice none 0 0, .string ⟨#[]⟩] 32)).alloc (.cells #[.int .i64 0, .int .i64 0, .int .i64 0] 91)).setRow w4.heap.size #[a0, a1, a2, a3, a4, a5]).setRow (w4.heap.size + 1) #[.int .i64 0, .int .i64 0, .int .i64 0] = w5 at *
      have x8d := y8f.drew
      have x9d := y9f.drew
      have xpd := xp5.drew
      have xqd := xq5.drew
      clear y8f y9f xp5 xq5
      refine wp_region_held_drew (S := fun W => Box W w4.heap.size 32 #[a0, a1, a2, a3, a4, a5] ∧ Box W (w4.heap.size + 1) 91 #[.int .i64 0, .int .i64 0, .int .i64 0]) (by kernel_rfl) ?_ (fun hHeld => ?_)
      · exact ⟨x8d, x9d⟩
      refine tkH (i := 0) (oi := ⟨some 26, _, _, _, _, _⟩) (v := .agg #[a0, a1, a2, a3, a4, a5]) (fun W hSw => Box.yield rfl rfl (hSw.1) rfl (by kernel_rfl)) ?_
      try simp only [Act.put, List.setIfInBounds_toArray, List.set_cons_zero, List.set_cons_succ]
      refine tkH (i := 1) (oi := ⟨some 27, _, _, _, _, _⟩) (v := ?_) ?_ ?_
      rotate_left
      · intro W hSw
        go_simp
        try with_reducible rfl
      try simp only [Act.put, List.setIfInBounds_toArray, List.set_cons_zero, List.set_cons_succ]
      refine tkH (i := 2) (oi := ⟨some 28, _, _, _, _, _⟩) (v := ?_) ?_ ?_
      rotate_left
      · intro W hSw
        have p0 := box_cell hSw.2 0 (.int .i64 0) rfl
        have p1 := box_cell hSw.2 1 (.int .i64 0) rfl
        have p2 := box_cell hSw.2 2 (.int .i64 0) rfl
        go_simp
        try with_reducible rfl
      try simp only [Act.put, List.setIfInBounds_toArray, List.set_cons_zero, List.set_cons_succ]
      refine tkH (i := 3) (oi := ⟨some 29, _, _, _, _, _⟩) (v := ?_) ?_ ?_
      rotate_left
      · intro W hSw
        go_simp
        try with_reducible rfl
      try simp only [Act.put, List.setIfInBounds_toArray, List.set_cons_zero, List.set_cons_succ]
      refine tkH (i := 4) (oi := ⟨some 30, _, _, _, _, _⟩) (v := ?_) ?_ ?_
      rotate_left
      · intro W hSw
        have p0 := box_cell hSw.2 0 (.int .i64 0) rfl
        have p1 := box_cell hSw.2 1 (.int .i64 0) rfl
        have p2 := box_cell hSw.2 2 (.int .i64 0) rfl
        go_simp
        try with_reducible rfl
      try simp only [Act.put, List.setIfInBounds_toArray, List.set_cons_zero, List.set_cons_succ]
      refine wpAnyH_ready (rs := [5]) (by kernel_rfl) (by simp) ?_
      refine AllReadyH.cons (o := ⟨none, _, _, _, _, _⟩) rfl (fun K hK => ?_) AllReadyH.nil
      rw [if_pos (by rfl)]
      refine wp_store_row 32 (.tmp 2) (.tmp 26) rfl (w.heap.size) _ rfl rfl 32 _ (xpd) (by kernel_rfl) rfl (onesP) ?_
      refine hK.out _ _ (⟨x8d.other _ (by omega), x9d.other _ (by omega)⟩) (fun hHeld => ?_)
      clear hK K
      try simp only [Act.put]
      refine wpAnyH_ready (rs := [6]) (by kernel_rfl) (by simp) ?_
      refine AllReadyH.cons (o := ⟨none, _, _, _, _, _⟩) rfl (fun K hK => ?_) AllReadyH.nil
      rw [if_pos (by rfl)]
      refine wp_store_row 38 (.tmp 3) (.tmp 28) rfl (w.heap.size + 1) _ rfl rfl 38 _ (xqd.other _ (by omega)) (by kernel_rfl) rfl (by simp [Value.oneCell']) ?_
      refine hK.out _ _ (⟨(x8d.other _ (by omega)).other _ (by omega), (x9d.other _ (by omega)).other _ (by omega)⟩) (fun hHeld => ?_)
      clear hK K
      try simp only [Act.put]
      refine wpAnyH_ready (rs := [7]) (by kernel_rfl) (by simp) ?_
      refine AllReadyH.cons (o := ⟨some 4, _, _, _, _, _⟩) rfl (fun K hK => ?_) AllReadyH.nil
      go_simp
      refine hK.out _ _ (hHeld) (fun hHeld => ?_)
      clear hK K
      try simp only [Act.put, List.setIfInBounds_toArray, List.set_cons_zero, List.set_cons_succ]
      refine wpAnyH_done (by kernel_rfl) ?_ _
      go_wp2
      refine bodyPost_ret (results_three rfl _ _ rfl rfl ((xpd.set _).other _ (by omega)) ((xqd.other _ (by omega)).set _) rfl rfl (by kernel_rfl) (by kernel_rfl)) rfl ?_
      exact Or.inl ⟨pr, _, _, _, _, _, _, ⟨T, j, q, hO, hpr⟩, rfl, (((hd5.drew).row (by simp [Fr]) _).row (by simp [Fr]) _).in fun k hk => by simp [Fr] at hk ⊢; omega, below_row (below_row (drewN_below bB5 1) (Nat.le_refl _) _) (by omega) _⟩
    · have xp4 := xp3.new hb4
      have xq4 := xq3.new hb4
      have bB4 := bB3.trans (hb4.mono bB3.size)
      have hs4 := hb4.size
      clear xp3 xq3 bB3 HRD
      have bu : Below w4.heap.size w4 ((w4.alloc (.cells #[.slice none 0 0, .slice none 0 0, .slice none 0 0, .slice none 0 0, .slice none 0 0, .string ⟨#[]⟩] 32)).alloc (.cells #[.int .i64 0, .int .i64 0, .int .i64 0] 91)) := (allocB w4 _).trans ((allocB _ _).mono (by simp))
      have y8 := (box_alloc w4 32 #[.slice none 0 0, .slice none 0 0, .slice none 0 0, .slice none 0 0, .slice none 0 0, .string ⟨#[]⟩]).new (allocB (w4.alloc (.cells #[.slice none 0 0, .slice none 0 0, .slice none 0 0, .slice none 0 0, .slice none 0 0, .string ⟨#[]⟩] 32)) (.cells #[.int .i64 0, .int .i64 0, .int .i64 0] 91))
      have y9 := box_alloc (w4.alloc (.cells #[.slice none 0 0, .slice none 0 0, .slice none 0 0, .slice none 0 0, .slice none 0 0, .string ⟨#[]⟩] 32)) 91 #[.int .i64 0, .int .i64 0, .int .i64 0]
      rw [show (w4.alloc (.cells #[.slice none 0 0, .slice none 0 0, .slice none 0 0, .slice none 0 0, .slice none 0 0, .string ⟨#[]⟩] 32)).heap.size = w4.heap.size + 1 by simp] at y9
      have y8f := (y8.set #[.slice none 0 0, .slice none 0 0, .slice none 0 0, .slice none 0 0, .slice none 0 0, .string ⟨#[]⟩]).other (j := w4.heap.size + 1) #[.int .i64 (tkn T j).ln, .int .i64 (tkn T j).co, .int .i64 er] (by omega)
      have y9' := y9.other (j := w4.heap.size) #[.slice none 0 0, .slice none 0 0, .slice none 0 0, .slice none 0 0, .slice none 0 0, .string ⟨#[]⟩] (by omega)
      have y9f := y9'.set #[.int .i64 (tkn T j).ln, .int .i64 (tkn T j).co, .int .i64 er]
      have xp5 := ((xp4.new bu).other (j := w4.heap.size) #[.slice none 0 0, .slice none 0 0, .slice none 0 0, .slice none 0 0, .slice none 0 0, .string ⟨#[]⟩] (by omega)).other (j := w4.heap.size + 1) #[.int .i64 (tkn T j).ln, .int .i64 (tkn T j).co, .int .i64 er] (by omega)
      have xq5 := ((xq4.new bu).other (j := w4.heap.size) #[.slice none 0 0, .slice none 0 0, .slice none 0 0, .slice none 0 0, .slice none 0 0, .string ⟨#[]⟩] (by omega)).other (j := w4.heap.size + 1) #[.int .i64 (tkn T j).ln, .int .i64 (tkn T j).co, .int .i64 er] (by omega)
      have bB5 : Below w.heap.size w ((((w4.alloc (.cells #[.slice none 0 0, .slice none 0 0, .slice none 0 0, .slice none 0 0, .slice none 0 0, .string ⟨#[]⟩] 32)).alloc (.cells #[.int .i64 0, .int .i64 0, .int .i64 0] 91)).setRow w4.heap.size #[.slice none 0 0, .slice none 0 0, .slice none 0 0, .slice none 0 0, .slice none 0 0, .string ⟨#[]⟩]).setRow (w4.heap.size + 1) #[.int .i64 (tkn T j).ln, .int .i64 (tkn T j).co, .int .i64 er]) := below_row (below_row (bB4.trans (bu.mono bB4.size)) (by have := bB4.size; omega) _) (by have := bB4.size; omega) _
      go_wp2_with (first | (refine wpList_store_row rfl 32 (.tmp 8) (.tmp 24) rfl w4.heap.size _ rfl rfl 32 _ y8 (by kernel_rfl) rfl (by simp [Value.oneCell']) ?_) | (refine wpList_store_row rfl 91 (.tmp 9) (.tmp 25) rfl (w4.heap.size + 1) _ rfl rfl 91 _ y9' (by kernel_rfl) rfl (by simp [Value.oneCell']) ?_))
      clear y8 y9 y9' bu
      generalize (((w4.alloc (.cells #[.slice none 0 0, .slice none 0 0, .slice none 0 0, .slice none 0 0, .slice none 0 0, .string ⟨#[]⟩] 32)).alloc (.cells #[.int .i64 0, .int .i64 0, .int .i64 0] 91)).setRow w4.heap.size #[.slice none 0 0, .slice none 0 0, .slice none 0 0, .slice none 0 0, .slice none 0 0, .string ⟨#[]⟩]).setRow (w4.heap.size + 1) #[.int .i64 (tkn T j).ln, .int .i64 (tkn T j).co, .int .i64 er] = w5 at *
      have x8d := y8f.drew
      have x9d := y9f.drew
      have xpd := xp5.drew
      have xqd := xq5.drew
      clear y8f y9f xp5 xq5
      refine wp_region_held_drew (S := fun W => Box W w4.heap.size 32 #[.slice none 0 0, .slice none 0 0, .slice none 0 0, .slice none 0 0, .slice none 0 0, .string ⟨#[]⟩] ∧ Box W (w4.heap.size + 1) 91 #[.int .i64 (tkn T j).ln, .int .i64 (tkn T j).co, .int .i64 er]) (by kernel_rfl) ?_ (fun hHeld => ?_)
      · exact ⟨x8d, x9d⟩
      refine tkH (i := 0) (oi := ⟨some 26, _, _, _, _, _⟩) (v := .agg #[.slice none 0 0, .slice none 0 0, .slice none 0 0, .slice none 0 0, .slice none 0 0, .string ⟨#[]⟩]) (fun W hSw => Box.yield rfl rfl (hSw.1) rfl (by kernel_rfl)) ?_
      try simp only [Act.put, List.setIfInBounds_toArray, List.set_cons_zero, List.set_cons_succ]
      refine tkH (i := 1) (oi := ⟨some 27, _, _, _, _, _⟩) (v := ?_) ?_ ?_
      rotate_left
      · intro W hSw
        go_simp
        try with_reducible rfl
      try simp only [Act.put, List.setIfInBounds_toArray, List.set_cons_zero, List.set_cons_succ]
      refine tkH (i := 2) (oi := ⟨some 28, _, _, _, _, _⟩) (v := ?_) ?_ ?_
      rotate_left
      · intro W hSw
        have p0 := box_cell hSw.2 0 (.int .i64 (tkn T j).ln) rfl
        have p1 := box_cell hSw.2 1 (.int .i64 (tkn T j).co) rfl
        have p2 := box_cell hSw.2 2 (.int .i64 er) rfl
        go_simp
        try with_reducible rfl
      try simp only [Act.put, List.setIfInBounds_toArray, List.set_cons_zero, List.set_cons_succ]
      refine tkH (i := 3) (oi := ⟨some 29, _, _, _, _, _⟩) (v := ?_) ?_ ?_
      rotate_left
      · intro W hSw
        go_simp
        try with_reducible rfl
      try simp only [Act.put, List.setIfInBounds_toArray, List.set_cons_zero, List.set_cons_succ]
      refine tkH (i := 4) (oi := ⟨some 30, _, _, _, _, _⟩) (v := ?_) ?_ ?_
      rotate_left
      · intro W hSw
        have p0 := box_cell hSw.2 0 (.int .i64 (tkn T j).ln) rfl
        have p1 := box_cell hSw.2 1 (.int .i64 (tkn T j).co) rfl
        have p2 := box_cell hSw.2 2 (.int .i64 er) rfl
        go_simp
        try with_reducible rfl
      try simp only [Act.put, List.setIfInBounds_toArray, List.set_cons_zero, List.set_cons_succ]
      refine wpAnyH_ready (rs := [5]) (by kernel_rfl) (by simp) ?_
      refine AllReadyH.cons (o := ⟨none, _, _, _, _, _⟩) rfl (fun K hK => ?_) AllReadyH.nil
      rw [if_pos (by rfl)]
      refine wp_store_row 32 (.tmp 2) (.tmp 26) rfl (w.heap.size) _ rfl rfl 32 _ (xpd) (by kernel_rfl) rfl (by simp [Value.oneCell']) ?_
      refine hK.out _ _ (⟨x8d.other _ (by omega), x9d.other _ (by omega)⟩) (fun hHeld => ?_)
      clear hK K
      try simp only [Act.put]
      refine wpAnyH_ready (rs := [6]) (by kernel_rfl) (by simp) ?_
      refine AllReadyH.cons (o := ⟨none, _, _, _, _, _⟩) rfl (fun K hK => ?_) AllReadyH.nil
      rw [if_pos (by rfl)]
      refine wp_store_row 38 (.tmp 3) (.tmp 28) rfl (w.heap.size + 1) _ rfl rfl 38 _ (xqd.other _ (by omega)) (by kernel_rfl) rfl (by simp [Value.oneCell']) ?_
      refine hK.out _ _ (⟨(x8d.other _ (by omega)).other _ (by omega), (x9d.other _ (by omega)).other _ (by omega)⟩) (fun hHeld => ?_)
      clear hK K
      try simp only [Act.put]
      refine wpAnyH_ready (rs := [7]) (by kernel_rfl) (by simp) ?_
      refine AllReadyH.cons (o := ⟨some 4, _, _, _, _, _⟩) rfl (fun K hK => ?_) AllReadyH.nil
      go_simp
      refine hK.out _ _ (hHeld) (fun hHeld => ?_)
      clear hK K
      try simp only [Act.put, List.setIfInBounds_toArray, List.set_cons_zero, List.set_cons_succ]
      refine wpAnyH_done (by kernel_rfl) ?_ _
      go_wp2
      refine bodyPost_ret (results_three rfl _ _ rfl rfl ((xpd.set _).other _ (by omega)) ((xqd.other _ (by omega)).set _) rfl rfl (by kernel_rfl) (by kernel_rfl)) rfl ?_
      exact Or.inr ⟨_, _, er, .inl ⟨T, j, hO, hpr, hj, rfl, rfl⟩, rfl, below_row (below_row (drewN_below bB5 1) (Nat.le_refl _) _) (by omega) _⟩
end Ps
end Go.Proofs.YtggdhgppclnckaaGreatDoor
