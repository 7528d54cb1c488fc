/-
  lexer.Tokens on a text that is not too long.
-/
import Derived.Test.YtggdhgppclnckaaGreatDoorLexW
import Derived.Deep.RegionWith
namespace Go.Proofs.YtggdhgppclnckaaGreatDoor
open Go Go.RowKit Lx
set_option maxRecDepth 100000

theorem run_store_func (P : Program) (w : World) (a : Addr) (m : Mode) (f : Fn) (x y : Array Value) : (store a (.func f x y) m).run P w = stored P w a (.func f x y) m := run_store P w a _ m rfl
attribute [local go_sem] run_store_func
theorem onB_but {g B : Nat} {a b c : World} (h : But g a b) (k : Below B b c) (hB : a.heap.size ≤ B) : But g a c :=
  ⟨k.os.trans h.os, k.tape.trans h.tape, k.output.trans h.output, Nat.le_trans h.size k.size, fun i hi hg => (k.block i (Nat.lt_of_lt_of_le hi hB)).trans (h.block i hi hg)⟩
/-- A reader of s lies in a new block. -/
def NewRd (s : ByteArray) (w : World) (v : Value) (w' : World) : Prop := ∃ g, v = .pointer (some ⟨g, 0, none⟩) ∧ w.heap.size ≤ g ∧ RdAt w' g s 0 0 (1, 1) ∧ Below w.heap.size w w'
theorem NewRd.mk {s : ByteArray} {w w1 : World} (hs : s.size ≤ 8192) (h : Below w.heap.size w w1) (t : TypeId) : NewRd s w (.pointer (some ⟨w1.heap.size, 0, none⟩)) (w1.alloc (.cells #[.string s, .int .i64 0, .int .i64 0, .int .i64 1, .int .i64 1] t)) :=
  ⟨_, rfl, h.size, ⟨⟨by simp, by simp, by simp, by simp, by simp, by simp, fun i => by simp⟩, Nat.le_refl _, Nat.zero_le _, hs, by simp⟩, h.alloc h.size _⟩
theorem NewRd.drewN {s : ByteArray} {w w1 : World} {v : Value} (h : NewRd s w v w1) (n : Nat) : NewRd s w v (w1.drewN n) := by
  obtain ⟨g, e, hg, hr, hB⟩ := h
  exact ⟨g, e, hg, hr.drewN n, drewN_below hB n⟩

theorem row_but {g B : Nat} {w w' : World} {e : TypeId} {size : Nat} {v : Value} {n : Nat} {xs : List Value} (h : w.ownsRow B e size v n xs) (hb : But g w w') (hg : g < B) : w'.ownsRow B e size v n xs := by
  obtain ⟨h1, h2⟩ := h
  refine ⟨h1, ?_⟩
  rcases h2 with h2 | ⟨g', cap, cur, e1, e2, e3, e4⟩
  · exact Or.inl h2
  · refine Or.inr ⟨g', cap, cur, e1, e2, ?_, e4⟩
    have hlt : g' < w.heap.size := by
      rcases Nat.lt_or_ge g' w.heap.size with h | h
      · exact h
      · rw [Array.getElem?_eq_none h] at e3; cases e3
    rw [hb.block g' hlt (by omega)]; exact e3
theorem info_token : (Tryz.prog.info? 44).map (fun i => (i.zero, i.size, i.bytes)) = some (some (.agg #[.int .i64 0, .string ⟨#[]⟩, .int .i64 0, .int .i64 0]), 4, 40) := by kernel_rfl
theorem info_three {t : TypeId} {z : Value} {n b : Nat} (h : (Tryz.prog.info? t).map (fun i => (i.zero, i.size, i.bytes)) = some (some z, n, b)) :
    ∃ i, Tryz.prog.info? t = some i ∧ i.zero = some z ∧ i.size = n ∧ i.bytes = b := by
  cases hi : Tryz.prog.info? t with
  | none => rw [hi] at h; cases h
  | some i =>
    rw [hi] at h
    simp only [Option.map_some] at h
    injection h with h
    injection h with h1 h2
    injection h2 with h2 h3
    exact ⟨i, rfl, h1, h2, h3⟩
theorem row_grown {w0 w w' : World} {B base e s n : Nat} {v : Value} {xs : List Value} (h : Below B w0 w) (hr : w.ownsRow base e s v n xs) (hg : w.grownBy w' v.ownBlock) (hB : B ≤ w.heap.size) (hb : B ≤ base) : Below B w0 w' :=
  h.grown hg hB fun k hk => Nat.le_trans hb (hr.lt k hk).1
theorem cells_new (w : World) (cs : List Value) (t : TypeId) : ∀ j u, cs[j]? = some u → (w.alloc (.cells cs.toArray t)).cell? ((⟨w.heap.size, 0, none⟩ : Addr).add j) = some u := by
  intro j u hj
  rw [add_plain, Nat.zero_add, World.cell?_alloc_new, List.getElem?_toArray, hj]
theorem row_slice {w : World} {B : Nat} {e : TypeId} {size : Nat} {v : Value} {n : Nat} {xs : List Value} (h : w.ownsRow B e size v n xs) : ∃ A c, v = .slice A n c := by
  obtain ⟨_, h2⟩ := h
  rcases h2 with ⟨h2, h3⟩ | ⟨g', cap, cur, e1, _⟩
  · exact ⟨none, 0, by rw [h2, h3]⟩
  · exact ⟨_, _, e1⟩
theorem row_low {w : World} {B B' : Nat} {e : TypeId} {size : Nat} {v : Value} {n : Nat} {xs : List Value} (h : w.ownsRow B e size v n xs) (hb : B' ≤ B) : w.ownsRow B' e size v n xs := by
  obtain ⟨h1, h2⟩ := h
  refine ⟨h1, ?_⟩
  rcases h2 with h2 | ⟨g', cap, cur, e1, e2, e3⟩
  · exact Or.inl h2
  · exact Or.inr ⟨g', cap, cur, e1, by omega, e3⟩
/-- The method of a rule. -/
def rF : Nat → FuncId | 0 => 59 | 1 => 60 | 2 => 61 | 3 => 62 | _ => 63
theorem rF_cont (g : Nat) (s : ByteArray) (b i : Nat) : Cont (rF i) g s b (rQ (s.data.toList.drop b) i) := by
  match i with
  | 0 => exact cont_blank g s b
  | 1 => exact cont_comment g s b
  | 2 => exact cont_name g s b
  | 3 => exact cont_number g s b
  | i + 4 => exact cont_sign g s b
theorem rF_enter (i : Nat) (args : Array Value) (W : World) : (callFunc (rF i) args).run Tryz.prog W = .ok (.enter (rF i) args) W := by
  match i with
  | 0 => exact enter_blank args W
  | 1 => exact enter_comment args W
  | 2 => exact enter_name args W
  | 3 => exact enter_number args W
  | i + 4 => exact enter_sign args W
/-- The five rules lie in block q. -/
structure RuleAt (w : World) (gr q i : Nat) : Prop where
  c0 : w.cell? ⟨q, i * 3, none⟩ = some (.int .i64 (rKind i))
  c1 : w.cell? ⟨q, i * 3 + 1, none⟩ = some (.func (.func (rF i)) #[.pointer (some ⟨gr, 0, none⟩)] #[])
  c2 : w.cell? ⟨q, i * 3 + 2, none⟩ = some (.int .i64 (rLim i))
theorem RuleAt.but {w w' : World} {gr q i : Nat} (h : RuleAt w gr q i) (hb : But gr w w') (hq : q < w.heap.size) (hne : q ≠ gr) : RuleAt w' gr q i :=
  ⟨(hb.cell (p := ⟨q, i * 3, none⟩) hq hne).trans h.c0, (hb.cell (p := ⟨q, i * 3 + 1, none⟩) hq hne).trans h.c1, (hb.cell (p := ⟨q, i * 3 + 2, none⟩) hq hne).trans h.c2⟩
theorem rules_new (w : World) (gr : Nat) (t : TypeId) (i : Nat) (hi : i < 5) : RuleAt (w.alloc (.cells #[.int .i64 0, .func (.func 59) #[.pointer (some ⟨gr, 0, none⟩)] #[], .int .i64 8192,
    .int .i64 0, .func (.func 60) #[.pointer (some ⟨gr, 0, none⟩)] #[], .int .i64 8192,
    .int .i64 1, .func (.func 61) #[.pointer (some ⟨gr, 0, none⟩)] #[], .int .i64 12,
    .int .i64 2, .func (.func 62) #[.pointer (some ⟨gr, 0, none⟩)] #[], .int .i64 60,
    .int .i64 4, .func (.func 63) #[.pointer (some ⟨gr, 0, none⟩)] #[], .int .i64 2] t)) gr w.heap.size i := by
  match i, hi with
  | 0, _ => exact ⟨by simp only [World.cell?_alloc_new]; rfl, by simp only [World.cell?_alloc_new]; rfl, by simp only [World.cell?_alloc_new]; rfl⟩
  | 1, _ => exact ⟨by simp only [World.cell?_alloc_new]; rfl, by simp only [World.cell?_alloc_new]; rfl, by simp only [World.cell?_alloc_new]; rfl⟩
  | 2, _ => exact ⟨by simp only [World.cell?_alloc_new]; rfl, by simp only [World.cell?_alloc_new]; rfl, by simp only [World.cell?_alloc_new]; rfl⟩
  | 3, _ => exact ⟨by simp only [World.cell?_alloc_new]; rfl, by simp only [World.cell?_alloc_new]; rfl, by simp only [World.cell?_alloc_new]; rfl⟩
  | 4, _ => exact ⟨by simp only [World.cell?_alloc_new]; rfl, by simp only [World.cell?_alloc_new]; rfl, by simp only [World.cell?_alloc_new]; rfl⟩

set_option maxHeartbeats 8000000 in
theorem tokens_short (s : ByteArray) (w : World) (hs : s.size ≤ 8192) (o : Out) (ho : lex s.data.toList (1, 1) = o) : Calls Tryz.prog 39 #[.string s] w (GivesOut o w) := by
  have HO := Lib.hid ho
  clear ho
  have h1 : ¬ (8192 : Int) < (s.size : Int) := by omega
  go_enter Tryz.func39, Tryz.ntmps39
  go_wp2
  go_step3
  go_wp2
  obtain ⟨w2, hw2⟩ : ∃ w2, (w.alloc (.cells #[.int .i64 0, .int .i64 0] 38)).alloc (.cells #[.int .i64 1, .int .i64 1] 38) = w2 := ⟨_, rfl⟩
  have c0 : w2.cell? ⟨w.heap.size + 1, 0, none⟩ = some (.int .i64 1) := by rw [← hw2]; simp
  have c1 : w2.cell? ⟨w.heap.size + 1, 1, none⟩ = some (.int .i64 1) := by rw [← hw2]; simp
  have d0 : w2.cell? ⟨w.heap.size, 0, none⟩ = some (.int .i64 0) := by rw [← hw2]; simp
  have d1 : w2.cell? ⟨w.heap.size, 1, none⟩ = some (.int .i64 0) := by rw [← hw2]; simp
  have f2 : ∀ i, w2.frozen? ⟨w.heap.size, i, none⟩ = false := fun i => by rw [← hw2]; simp
  have hB2 : Below w.heap.size w w2 := hw2 ▸ ((Below.refl w.heap.size w).alloc (Nat.le_refl _) _).alloc (by simp) _
  have hz2 : w2.heap.size = w.heap.size + 2 := by rw [← hw2]; simp
  rw [hw2]
  have HW2 := Lib.hid hw2
  have HZ2 := Lib.hid hz2
  have F2 := Lib.hid f2
  clear hw2 hz2 f2
  go_cut [6] (fun u6 wx => NewRd s w2 u6 wx)
  · have HC : Hid (∀ W, Calls Tryz.prog 58 #[.string s] W fun e w' => e = .returned (.string s) ∧ Below W.heap.size W w') := fun W => clone_x s W hs
    have hsz : w.heap.size + 1 < w2.heap.size := by have := HZ2.out; omega
    go_region_with ((go_at_call 58; refine (HC.out _).mono ?_; rintro e w3 ⟨rfl, hb⟩; have e0 := (hb.cell (p := ⟨w.heap.size + 1, 0, none⟩) hsz).trans c0; have e1 := (hb.cell (p := ⟨w.heap.size + 1, 1, none⟩) hsz).trans c1))
    all_goals
      go_wp2
      go_meet
      exact NewRd.mk hs (w := w2) ⟨hb.os, hb.tape, hb.output, hb.size, hb.block⟩ _
  case rest =>
    obtain ⟨gr, rfl, hgr, hr, hB3⟩ := hcut
    go_wp2
    go_step3
    go_wp2
    obtain ⟨w4, hw4⟩ : ∃ w4, wc.alloc (.cells #[.int .i64 0, .func (.func 59) #[.pointer (some ⟨gr, 0, none⟩)] #[], .int .i64 8192,
      .int .i64 0, .func (.func 60) #[.pointer (some ⟨gr, 0, none⟩)] #[], .int .i64 8192,
      .int .i64 1, .func (.func 61) #[.pointer (some ⟨gr, 0, none⟩)] #[], .int .i64 12,
      .int .i64 2, .func (.func 62) #[.pointer (some ⟨gr, 0, none⟩)] #[], .int .i64 60,
      .int .i64 4, .func (.func 63) #[.pointer (some ⟨gr, 0, none⟩)] #[], .int .i64 2] 114) = w4 := ⟨_, rfl⟩
    have HRU : Hid (∀ i, i < 5 → RuleAt w4 gr wc.heap.size i) := fun i hi => hw4 ▸ rules_new wc gr _ i hi
    have hb4 : Below wc.heap.size wc w4 := hw4 ▸ allocB _ _
    have hz4 : w4.heap.size = wc.heap.size + 1 := by rw [← hw4]; simp
    have hgrs := hr.cs.size
    have hr4 := hr.below hb4 hgrs
    rw [hw4]
    have HB4 : Hid (Below w2.heap.size w2 w4) := nextB hB3 hb4
    have d0' : Hid (w4.cell? ⟨w.heap.size, 0, none⟩ = some (.int .i64 0)) := ((HB4.out).cell (p := ⟨w.heap.size, 0, none⟩) (by show w.heap.size < _; have := HZ2.out; omega)).trans d0
    have d1' : Hid (w4.cell? ⟨w.heap.size, 1, none⟩ = some (.int .i64 0)) := ((HB4.out).cell (p := ⟨w.heap.size, 1, none⟩) (by show w.heap.size < _; have := HZ2.out; omega)).trans d1
    have f0' : Hid (∀ i, w4.frozen? ⟨w.heap.size, i, none⟩ = false) := fun i => ((HB4.out).frozen (p := ⟨w.heap.size, i, none⟩) (by show w.heap.size < _; have := HZ2.out; omega)).trans (F2.out i)
    have HB0 : Hid (Below w.heap.size w w4) := nextB hB2 HB4.out
    have HG : Hid (w.heap.size + 2 ≤ gr ∧ gr < wc.heap.size ∧ w4.heap.size = wc.heap.size + 1) := ⟨by have := HZ2.out; omega, hgrs, hz4⟩
    obtain ⟨q, hq⟩ : ∃ q, wc.heap.size = q := ⟨_, rfl⟩
    rw [hq] at HRU HG ⊢
    clear d0 d1 hw4 hb4 hz4 hB3 hr HB4 HW2 HZ2 hB2 hgrs hgr c0 c1 hq F2
    go_loopg [8] (s.size) (fun r tv wr => ∃ (A : Option Addr) (n c : Nat) (T : List Tok) (k b : Nat) (p : Int × Int), tv = .slice A n c ∧ n ≤ k ∧ Hid (T.length = n) ∧ Hid (k + r = s.size) ∧ RdAt wr gr s b k p ∧ Hid (wr.ownsRow (q + 1) 44 4 (.slice A n c) n (rowT T)) ∧ Hid (o = (lex (s.data.toList.drop k) p).app T) ∧ But gr w4 wr)
    case atStart => exact ⟨none, 0, 0, [], 0, 0, (1, 1), rfl, Nat.le_refl _, rfl, by show _ = _; omega, hr4, World.ownsRow_nil _ _ _ _, by show _ = _; rw [List.drop_zero, HO.out, Out.app_nil], But.refl _ _⟩
    case round =>
      obtain ⟨A, n, c, T, k, b, p, rfl, hnk, hTn, hkr, hr, hown, hlex, hB⟩ := hrel
      have c0 := hr.cs.c0
      have c2 := hr.cs.c2
      have c3 := hr.cs.c3
      have c4 := hr.cs.c4
      clear hr4 HO
      by_cases hlt : k < s.size
      · have hdt : decide ((k : Int) < (s.size : Int)) = true := by simpa using hlt
        go_wp2_with fail
        go_quiet (fail)
        have hr1 := hr.drewN nq
        have hB1 := hB.drewN nq
        have hown1 : Hid ((wr.drewN nq).ownsRow (q + 1) 44 4 (.slice A n c) n (rowT T)) := hown.out
        clear c0 c2 c3 c4 hr hB hown
        generalize wr.drewN nq = w5 at *
        have c3 := hr1.cs.c3
        have c4 := hr1.cs.c4
        go_wp2_with fail
        obtain ⟨gp, hgp⟩ : ∃ gp, w5.heap.size = gp := ⟨_, rfl⟩
        obtain ⟨w6, hw6⟩ : ∃ w6, w5.alloc (.cells #[.int .i64 p.1, .int .i64 p.2] 38) = w6 := ⟨_, rfl⟩
        have hb6 : Below w5.heap.size w5 w6 := hw6 ▸ allocB _ _
        have p0 : w6.cell? ⟨gp, 0, none⟩ = some (.int .i64 p.1) := by rw [← hw6, ← hgp]; simp
        have p1 : w6.cell? ⟨gp, 1, none⟩ = some (.int .i64 p.2) := by rw [← hw6, ← hgp]; simp
        have hz6 : w6.heap.size = gp + 1 := by rw [← hw6, ← hgp]; simp
        have hq5 : q + 1 ≤ gp := by rw [← hgp]; have := hB1.size; have := HG.out; omega
        rw [hgp] at hb6 ⊢
        rw [hw6]
        have P0 := Lib.hid p0
        have P1 := Lib.hid p1
        have HGP : Hid (q + 1 ≤ gp ∧ w6.heap.size = gp + 1) := ⟨hq5, hz6⟩
        have hr6 := hr1.below hb6 (by have := HG.out; omega)
        have hB6 : But gr w4 w6 := hB1.trans (But.of_below (hgp ▸ hb6))
        have HB6 := Lib.hid hB6
        have HOWN6 : Hid (w6.ownsRow (q + 1) 44 4 (.slice A n c) n (rowT T)) := row_but hown1.out (But.of_below (hgp ▸ hb6) : But gr w5 w6) (by have := HG.out; omega)
        clear p0 p1 hz6 hq5 hw6 hgp hb6 hr1 hB1 hown1 hB6 c3 c4
        have hs5 := hs
        go_loopw [8, 55] (fun tv iv wq => ∃ (i b' : Nat), i ≤ 5 ∧ tv = .slice A n c ∧ iv = .int .i64 i ∧ RdAt wq gr s b' k p ∧ Hid (∀ j, j < i → rRun (s.data.toList.drop k) j = 0) ∧ But gr w6 wq) (fun _ iv _ => 5 - (intOf iv).toNat)
        case atStart => exact ⟨0, b, by omega, rfl, rfl, hr6, fun j hj => by omega, But.refl _ _⟩
        case round =>
          obtain ⟨i, b', hi5, rfl, rfl, hrq, hno, hBq⟩ := hrel
          clear hr6
          by_cases hi : i < 5
          · have hi' : (i : Int) < 5 := by omega
            have RU := (((HRU.out i hi).but HB6.out (by have := HG.out; omega) (by have := HG.out; omega)).but hBq (by have := HG.out; have := HGP.out; omega) (by have := HG.out; omega))
            obtain ⟨r0, r1, r2⟩ := RU
            have hi0 : (0 : Int) ≤ (i : Int) := by omega
            go_wp2_with fail
            obtain ⟨gb, hgb⟩ : ∃ gb, wr.heap.size = gb := ⟨_, rfl⟩
            obtain ⟨w7, hw7⟩ : ∃ w7, wr.alloc (.cells #[.int .i64 (rKind i), .func (.func (rF i)) #[.pointer (some ⟨gr, 0, none⟩)] #[], .int .i64 (rLim i)] 114) = w7 := ⟨_, rfl⟩
            have hb7 : Below wr.heap.size wr w7 := hw7 ▸ allocB _ _
            have e0 : w7.cell? ⟨gb, 0, none⟩ = some (.int .i64 (rKind i)) := by rw [← hw7, ← hgb]; simp
            have e2 : w7.cell? ⟨gb, 2, none⟩ = some (.int .i64 (rLim i)) := by rw [← hw7, ← hgb]; simp
            have hz7 : w7.heap.size = gb + 1 := by rw [← hw7, ← hgb]; simp
            have hgp6 : gp < gb := by rw [← hgb]; have := hBq.size; have := HGP.out; omega
            have hr7 := hrq.below hb7 (by have := hrq.cs.size; omega)
            have hB7 : But gr w6 w7 := hBq.trans (But.of_below hb7)
            rw [hgb, hw7]
            have hrd := read_x hr7 (rF i) (rQ (s.data.toList.drop k) i) (rF_cont gr s k i) (rF_enter i)
            have HRD := Lib.hid hrd
            have HE0 := Lib.hid e0
            have HE2 := Lib.hid e2
            have HGB : Hid (gp < gb ∧ w7.heap.size = gb + 1 ∧ gr ≠ gb ∧ w.heap.size < gb) := ⟨hgp6, hz7, by have := HG.out; have := HGP.out; omega, by have := HG.out; have := HGP.out; omega⟩
            have HB7 := Lib.hid hB7
            have hl0 : 0 < (s.data.toList.drop k).length := by simp; omega
            have HL0 := Lib.hid hl0
            clear hl0 hrd e0 e2 hz7 hgp6 hr7 hB7 hw7 hgb hb7 r0 r1 r2 hrq hBq
            obtain ⟨m, hm⟩ : ∃ m, rRun (s.data.toList.drop k) i = m := ⟨_, rfl⟩
            have hml : m ≤ s.size - k := by rw [← hm]; have := gRun_le (rQ (s.data.toList.drop k) i) (s.data.toList.drop k) 0; simpa [rRun] using this
            have HM := Lib.hid hm
            have HRD2 : Hid (Calls Tryz.prog 64 #[.pointer (some ⟨gr, 0, none⟩), .func (.func (rF i)) #[.pointer (some ⟨gr, 0, none⟩)] #[]] w7 (GivesRun gr s k p m w7)) := by rw [← hm]; exact HRD.out
            clear hm HRD
            go_wp2_with fail
            refine HRD2.out.mono ?_
            rintro e w8 ⟨rfl, hr8, hB8⟩
            obtain ⟨TX, hTX⟩ : ∃ TX, s.extract k (k + m) = TX := ⟨_, rfl⟩
            have hTl : TX.toList = (s.data.toList.drop k).take m := by rw [← hTX, extract_list, Nat.add_sub_cancel_left]
            have hTs : TX.size = m := by rw [← hTX]; simp; omega
            have hTb : TX = bs ((s.data.toList.drop k).take m) := by rw [← hTX, bs_extract]
            rw [hTX]
            have e0 := (hB8.cell (p := ⟨gb, 0, none⟩) (by show gb < _; have := HGB.out; omega) (by have := HGB.out; show gb ≠ gr; omega)).trans HE0.out
            have e2 := (hB8.cell (p := ⟨gb, 2, none⟩) (by show gb < _; have := HGB.out; omega) (by have := HGB.out; show gb ≠ gr; omega)).trans HE2.out
            have HB8 : Hid (But gr w6 w8) := HB7.out.trans hB8
            have HR8 := Lib.hid hr8
            clear hTX HRD2 hr8 hB8 HE0 HE2 HB7
            by_cases hm0 : m = 0
            · have hTe : TX.toList = [] := by rw [hTl, hm0]; rfl
              have hTe2 : TX.toList.isEmpty = true := by rw [hTe]; rfl
              have HT := Lib.hid hTl
              clear hTl hTs hTb
              subst hm0
              go_wp2
              go_roundw
              case rel =>
                have hr9 := HR8.out
                exact ⟨i + 1, k, by omega, rfl, by go_num, by simpa [mvs] using hr9, fun j hj => by
                  rcases Nat.lt_or_ge j i with h | h
                  · exact hno.out j h
                  · have : j = i := by omega
                    rw [this]; exact HM.out, HB8.out⟩
              case measure => simp [intOf] <;> omega
            · have hTe : TX.toList.isEmpty = false := by
                rw [hTl]
                cases hx : (s.data.toList.drop k).take m with
                | nil =>
                  have hx2 := congrArg List.length hx
                  rw [List.length_take] at hx2
                  have := HL0.out
                  have hm2 : m ≤ (s.data.toList.drop k).length := by simp; omega
                  simp at hx2; omega
                | cons => rfl
              have hTe2 : (TX.toList == []) = false := by
                rw [List.isEmpty_eq_false_iff] at hTe
                exact beq_eq_false_iff_ne.2 hTe
              have hdoes := rule_does (s.data.toList.drop k) p (by simp; omega) i hi hno.out (by rw [HM.out]; omega)
              rw [HM.out] at hdoes
              have HT := Lib.hid hTl
              have HTB := Lib.hid hTb
              have HTS := Lib.hid hTs
              have HDO := Lib.hid hdoes
              have P0' := (HB8.out.cell (p := ⟨gp, 0, none⟩) (by show gp < _; have := HGP.out; omega) (by show gp ≠ gr; have := HG.out; have := HGP.out; omega)).trans P0.out
              have P1' := (HB8.out.cell (p := ⟨gp, 1, none⟩) (by show gp < _; have := HGP.out; omega) (by show gp ≠ gr; have := HG.out; have := HGP.out; omega)).trans P1.out
              have HB48 : Hid (But gr w4 w8) := HB6.out.trans HB8.out
              clear hTl hTb hTs hdoes
              by_cases hlim : (rLim i : Int) < (TX.size : Int)
              · have x0 := (HB48.out.cell (p := ⟨w.heap.size, 0, none⟩) (by show w.heap.size < _; have := HG.out; omega) (by show w.heap.size ≠ gr; have := HG.out; omega)).trans d0'.out
                have x1 := (HB48.out.cell (p := ⟨w.heap.size, 1, none⟩) (by show w.heap.size < _; have := HG.out; omega) (by show w.heap.size ≠ gr; have := HG.out; omega)).trans d1'.out
                have hfz : ∀ i, w8.frozen? ⟨w.heap.size, i, none⟩ = false := fun i => (World.frozen?_of_block (a := ⟨w.heap.size, i, none⟩) (HB48.out.block w.heap.size (by have := HG.out; omega) (by have := HG.out; omega))).trans (f0'.out i)
                have z0 := hfz 0
                have z1 := hfz 1
                clear hfz
                go_wp2_with fail
                have HBW : Hid (∀ z0 z1, Below w.heap.size w ((w8.setCell ⟨w.heap.size, 0, none⟩ z0).setCell ⟨w.heap.size, 1, none⟩ z1)) := fun z0 z1 =>
                  ((HB0.out.trans (HB48.out.below (by have := HG.out; omega) HB0.out.size)).setCell (p := ⟨w.heap.size, 0, none⟩) (Nat.le_refl _) z0).setCell (p := ⟨w.heap.size, 1, none⟩) (Nat.le_refl _) z1
                have HOF : Hid (o = .bad p.1 p.2 9) := by
                  have h1 := HDO.out.1 (by rw [← HTS.out]; omega)
                  show _ = _
                  rw [hlex.out, h1]; rfl
                clear HB48 HDO HTS HTB HT
                go_region
                go_wp2
                rw [Exit.noGoto_ret]
                exact bodyPost_ret (v := .tuple #[.slice none 0 0, .agg #[.int .i64 p.1, .int .i64 p.2], .int .i64 9]) (by simp [results, Tryz.results39, go_sem, x0, x1]) rfl (Or.inr ⟨_, _, 9, HOF.out, by decide, rfl, drewN_below (HBW.out _ _) 1⟩)
              · have hlim2 : m ≤ rLim i := by rw [← HTS.out]; omega
                obtain ⟨hd1, hd2⟩ := HDO.out.2 hlim2
                by_cases hi1 : i ≤ 1
                · have hk0 : (rKind i != 0) = false := by
                    have : i = 0 ∨ i = 1 := by omega
                    rcases this with rfl | rfl <;> rfl
                  have HL2 : Hid (o = (lex (s.data.toList.drop (k + m)) (mvs p ((s.data.toList.drop k).take m))).app T) := by
                    show _ = _
                    rw [hlex.out, hd1 hi1, List.drop_drop]
                  have HO8 : Hid (w8.ownsRow (q + 1) 44 4 (.slice A n c) n (rowT T)) := row_but HOWN6.out HB8.out (by have := HG.out; omega)
                  clear hd1 hd2 HDO
                  go_wp2
                  go_roundg (s.size - (k + m))
                  case measure => have := hkr.out; omega
                  case rel => exact ⟨A, n, c, T, k + m, k, _, rfl, by omega, hTn, by show _ = _; omega, HR8.out, HO8, HL2, HB48.out⟩
                · have hk0 : (rKind i != 0) = true := by
                    have : i = 2 ∨ i = 3 ∨ i = 4 := by omega
                    rcases this with rfl | rfl | rfl <;> rfl
                  have HL2 : Hid (o = (lex (s.data.toList.drop (k + m)) (mvs p ((s.data.toList.drop k).take m))).app (T ++ [⟨kd (rKind i) ((s.data.toList.drop k).take m), (s.data.toList.drop k).take m, p.1, p.2⟩])) := by
                    show _ = _
                    rw [hlex.out, hd2 (by omega), List.drop_drop, Out.app_cons]
                  have HO8 : Hid (w8.ownsRow (q + 1) 44 4 (.slice A n c) n (rowT T)) := row_but HOWN6.out HB8.out (by have := HG.out; omega)
                  have HTK := Lib.hid (token_x (rKind i) TX p.1 p.2 w8)
                  rw [HT.out] at HTK
                  clear hd1 hd2 HDO
                  go_wp2_with fail
                  refine HTK.out.mono ?_
                  rintro e w9 ⟨rfl, hB9⟩
                  have HO9 : Hid (w9.ownsRow (q + 1) 44 4 (.slice A n c) n (rowT T)) := row_but HO8.out (But.of_below hB9 : But gr w8 w9) (by have := HG.out; omega)
                  have HR9 := Lib.hid (HR8.out.below hB9 (by have := HR8.out.cs.size; omega))
                  have HB9 : Hid (But gr w4 w9) := HB48.out.trans (But.of_below hB9)
                  obtain ⟨kk, hkk⟩ : ∃ kk, kd (rKind i) ((s.data.toList.drop k).take m) = kk := ⟨_, rfl⟩
                  rw [hkk] at HL2 ⊢
                  unfold tkV
                  clear HTK hB9 HO8 hkk HB8 HB48 P0' P1' e0 e2
                  obtain ⟨ti, hti, hz1, hs1, hby1⟩ := info_three info_token
                  obtain ⟨wa, hwa⟩ : ∃ wa, w9.alloc (.cells #[.int .i64 kk, .string TX, .int .i64 p.1, .int .i64 p.2] 44) = wa := ⟨_, rfl⟩
                  have hba : Below w9.heap.size w9 wa := hwa ▸ allocB _ _
                  have NEWS : ∀ j u, [Value.int .i64 kk, .string TX, .int .i64 p.1, .int .i64 p.2][j]? = some u → wa.cell? ((⟨w9.heap.size, 0, none⟩ : Addr).add j) = some u := hwa ▸ cells_new w9 [Value.int .i64 kk, .string TX, .int .i64 p.1, .int .i64 p.2] 44
                  have HOA : Hid (wa.ownsRow (q + 1) 44 4 (.slice A n c) n (rowT T)) := row_but HO9.out (But.of_below hba : But gr w9 wa) (by have := HG.out; omega)
                  have HRA := Lib.hid (HR9.out.below hba (by have := HR9.out.cs.size; omega))
                  have HBA : Hid (But gr w4 wa) := HB9.out.trans (But.of_below hba)
                  have hszA : q + 1 ≤ wa.heap.size := by have := HBA.out.size; have := HG.out; omega
                  have HWA := Lib.hid hwa
                  have hrl := HOA.out
                  clear hwa hba HO9 HR9 HB9
                  go_wp2_with (at_builtin; (rw [HWA.out]; refine wpList_append_own_at _ rfl (.tmp 74) (.tmp 80) 36 rfl (q + 1) 44 ti (.agg #[.int .i64 0, .string ⟨#[]⟩, .int .i64 0, .int .i64 0]) 4 40 Tryz.underlying36 hti hz1 hs1 hby1 rfl (by decide) (.slice A n c) n (rowT T) rfl hrl ⟨w9.heap.size, 0, none⟩ 1 1 [.int .i64 kk, .string TX, .int .i64 p.1, .int .i64 p.2] rfl rfl NEWS (by simp [Value.oneCell']) (by unfold maxLen; omega) (by omega) hszA ?_))
                  intro v' wz hownz hgrow _ _
                  have hbz : Below (q + 1) wa wz := row_grown (Below.refl (q + 1) wa) hrl hgrow hszA (Nat.le_refl _)
                  have HRZ := Lib.hid (HRA.out.below hbz (by have := HG.out; omega))
                  have HBZ : Hid (But gr w4 wz) := onB_but HBA.out hbz (by have := HG.out; omega)
                  obtain ⟨A2, c2, rfl⟩ := row_slice hownz
                  have HOZ : Hid (wz.ownsRow (q + 1) 44 4 (.slice A2 (n + 1) c2) (n + 1) (rowT (T ++ [⟨kk, (s.data.toList.drop k).take m, p.1, p.2⟩]))) := by
                    rw [rowT_append, rowT_one]
                    show World.ownsRow _ _ _ _ _ _ (_ ++ [_, .string (bs _), _, _])
                    rw [← HTB.out]; exact hownz
                  have HLZ : Hid ((T ++ [(⟨kk, (s.data.toList.drop k).take m, p.1, p.2⟩ : Tok)]).length = n + 1) := by show _ = _; rw [List.length_append, hTn.out]; rfl
                  clear hbz hownz hgrow hrl HOA HRA HBA NEWS hszA
                  go_wp2
                  go_roundg (s.size - (k + m))
                  case measure => have := hkr.out; omega
                  case rel => exact ⟨A2, n + 1, c2, _, k + m, k, _, rfl, by omega, HLZ, by show _ = _; omega, HRZ.out, HOZ, HL2, HBZ.out⟩
          · obtain rfl : i = 5 := by omega
            have P0' := (hBq.cell (p := ⟨gp, 0, none⟩) (by show gp < _; have := HGP.out; omega) (by show gp ≠ gr; have := HG.out; have := HGP.out; omega)).trans P0.out
            have P1' := (hBq.cell (p := ⟨gp, 1, none⟩) (by show gp < _; have := HGP.out; omega) (by show gp ≠ gr; have := HG.out; have := HGP.out; omega)).trans P1.out
            have HB48 : Hid (But gr w4 wr) := HB6.out.trans hBq
            have x0 := (HB48.out.cell (p := ⟨w.heap.size, 0, none⟩) (by show w.heap.size < _; have := HG.out; omega) (by show w.heap.size ≠ gr; have := HG.out; omega)).trans d0'.out
            have x1 := (HB48.out.cell (p := ⟨w.heap.size, 1, none⟩) (by show w.heap.size < _; have := HG.out; omega) (by show w.heap.size ≠ gr; have := HG.out; omega)).trans d1'.out
            have hfz : ∀ i, wr.frozen? ⟨w.heap.size, i, none⟩ = false := fun i => (World.frozen?_of_block (a := ⟨w.heap.size, i, none⟩) (HB48.out.block w.heap.size (by have := HG.out; omega) (by have := HG.out; omega))).trans (f0'.out i)
            have z0 := hfz 0
            have z1 := hfz 1
            have HBW : Hid (∀ z0 z1, Below w.heap.size w ((wr.setCell ⟨w.heap.size, 0, none⟩ z0).setCell ⟨w.heap.size, 1, none⟩ z1)) := fun z0 z1 =>
              ((HB0.out.trans (HB48.out.below (by have := HG.out; omega) HB0.out.size)).setCell (p := ⟨w.heap.size, 0, none⟩) (Nat.le_refl _) z0).setCell (p := ⟨w.heap.size, 1, none⟩) (Nat.le_refl _) z1
            have HOF : Hid (o = .bad p.1 p.2 4) := by
              have h1 := rule_none (s.data.toList.drop k) p (by simp; omega) hno.out
              show _ = _
              rw [hlex.out, h1]; rfl
            clear hfz HB48 hno hrq hBq hlex
            go_wp2_with fail
            go_region
            go_wp2
            rw [Exit.noGoto_ret]
            exact bodyPost_ret (v := .tuple #[.slice none 0 0, .agg #[.int .i64 p.1, .int .i64 p.2], .int .i64 4]) (by simp [results, Tryz.results39, go_sem, x0, x1]) rfl (Or.inr ⟨_, _, 4, HOF.out, by decide, rfl, drewN_below (HBW.out _ _) 1⟩)
      · have hks : k = s.size := by have := hr.hn; omega
        have hdt : decide ((k : Int) < (s.size : Int)) = false := by simpa using hlt
        have HL2 : Hid (o = .ok (T ++ [⟨5, [], p.1, p.2⟩])) := by
          show _ = _
          rw [hlex.out, List.drop_of_length_le (by simp; omega), lex_nil]; rfl
        clear hlex hks
        go_wp2_with fail
        go_quiet (fail)
        have hr1 := hr.drewN nq
        have hB1 := hB.drewN nq
        have hown1 : Hid ((wr.drewN nq).ownsRow (q + 1) 44 4 (.slice A n c) n (rowT T)) := hown.out
        clear c0 c2 c3 c4 hr hB hown
        generalize wr.drewN nq = w5 at *
        have c3 := hr1.cs.c3
        have c4 := hr1.cs.c4
        have hk8 := hr1.hn
        have HTK := Lib.hid (token_x 5 ⟨#[]⟩ p.1 p.2 w5)
        have hkd : kd 5 (⟨#[]⟩ : ByteArray).toList = 5 := by rw [Lib.toList_data]; decide
        rw [hkd] at HTK
        clear hkd
        go_wp2_with fail
        refine HTK.out.mono ?_
        rintro e w9 ⟨rfl, hB9⟩
        unfold tkV
        have HO9 : Hid (w9.ownsRow (q + 1) 44 4 (.slice A n c) n (rowT T)) := row_but hown1.out (But.of_below hB9 : But gr w5 w9) (by have := HG.out; omega)
        have HB9 : Hid (But gr w4 w9) := hB1.trans (But.of_below hB9)
        obtain ⟨ti, hti, hz1, hs1, hby1⟩ := info_three info_token
        obtain ⟨wa, hwa⟩ : ∃ wa, w9.alloc (.cells #[.int .i64 5, .string ⟨#[]⟩, .int .i64 p.1, .int .i64 p.2] 44) = wa := ⟨_, rfl⟩
        have hba : Below w9.heap.size w9 wa := hwa ▸ allocB _ _
        have NEWS : ∀ j u, [Value.int .i64 5, .string ⟨#[]⟩, .int .i64 p.1, .int .i64 p.2][j]? = some u → wa.cell? ((⟨w9.heap.size, 0, none⟩ : Addr).add j) = some u := hwa ▸ cells_new w9 [Value.int .i64 5, .string ⟨#[]⟩, .int .i64 p.1, .int .i64 p.2] 44
        have HOA : Hid (wa.ownsRow (q + 1) 44 4 (.slice A n c) n (rowT T)) := row_but HO9.out (But.of_below hba : But gr w9 wa) (by have := HG.out; omega)
        have HBA : Hid (But gr w4 wa) := HB9.out.trans (But.of_below hba)
        have hszA : q + 1 ≤ wa.heap.size := by have := HBA.out.size; have := HG.out; omega
        have HWA := Lib.hid hwa
        have hrl := HOA.out
        clear hwa hba HO9 HB9 HTK hB9 hr1 hB1 hown1 c3 c4
        go_wp2_with (at_builtin; (rw [HWA.out]; refine wpList_append_own_at _ rfl (.tmp 84) (.tmp 90) 36 rfl (q + 1) 44 ti (.agg #[.int .i64 0, .string ⟨#[]⟩, .int .i64 0, .int .i64 0]) 4 40 Tryz.underlying36 hti hz1 hs1 hby1 rfl (by decide) (.slice A n c) n (rowT T) rfl hrl ⟨w9.heap.size, 0, none⟩ 1 1 [.int .i64 5, .string ⟨#[]⟩, .int .i64 p.1, .int .i64 p.2] rfl rfl NEWS (by simp [Value.oneCell']) (by unfold maxLen; omega) (by omega) hszA ?_))
        intro v' wz hownz hgrow _ _
        have hbz : Below (q + 1) wa wz := row_grown (Below.refl (q + 1) wa) hrl hgrow hszA (Nat.le_refl _)
        have HBZ : Hid (But gr w4 wz) := onB_but HBA.out hbz (by have := HG.out; omega)
        obtain ⟨A2, c2, rfl⟩ := row_slice hownz
        have HOZ : Hid (wz.ownsRow (q + 1) 44 4 (.slice A2 (n + 1) c2) (n + 1) (rowT (T ++ [⟨5, [], p.1, p.2⟩]))) := by
          rw [rowT_append, rowT_one]
          exact hownz
        have HLZ : Hid ((T ++ [(⟨5, [], p.1, p.2⟩ : Tok)]).length = n + 1) := by show _ = _; rw [List.length_append, hTn.out]; rfl
        have x0 := (HBZ.out.cell (p := ⟨w.heap.size, 0, none⟩) (by show w.heap.size < _; have := HG.out; omega) (by show w.heap.size ≠ gr; have := HG.out; omega)).trans d0'.out
        have x1 := (HBZ.out.cell (p := ⟨w.heap.size, 1, none⟩) (by show w.heap.size < _; have := HG.out; omega) (by show w.heap.size ≠ gr; have := HG.out; omega)).trans d1'.out
        have hfz : ∀ i, wz.frozen? ⟨w.heap.size, i, none⟩ = false := fun i => (World.frozen?_of_block (a := ⟨w.heap.size, i, none⟩) (HBZ.out.block w.heap.size (by have := HG.out; omega) (by have := HG.out; omega))).trans (f0'.out i)
        have z0 := hfz 0
        have z1 := hfz 1
        have HBW : Hid (∀ z0 z1, Below w.heap.size w ((wz.setCell ⟨w.heap.size, 0, none⟩ z0).setCell ⟨w.heap.size, 1, none⟩ z1)) := fun z0 z1 =>
          ((HB0.out.trans (HBZ.out.below (by have := HG.out; omega) HB0.out.size)).setCell (p := ⟨w.heap.size, 0, none⟩) (Nat.le_refl _) z0).setCell (p := ⟨w.heap.size, 1, none⟩) (Nat.le_refl _) z1
        clear hbz hownz hgrow hrl HOA HBA NEWS hszA hfz HBZ
        go_wp2
        rw [Exit.noGoto_ret]
        exact bodyPost_ret (v := .tuple #[.slice A2 (n + 1) c2, .agg #[.int .i64 0, .int .i64 0], .int .i64 0]) (by simp [results, Tryz.results39, go_sem, x0, x1]) rfl
          (Or.inl ⟨_, A2, n + 1, c2, HL2.out, rfl, HLZ.out, row_low (row_but HOZ.out (((But.refl w.heap.size wz).set 0 _).set 1 _) (by have := HG.out; omega)) (by have := HG.out; omega), HBW.out _ _⟩)
theorem tokens_x (s : ByteArray) (w : World) (hm : s.size ≤ maxLen) : Calls Tryz.prog 39 #[.string s] w (GivesOut (if s.size ≤ 8192 then lex s.toList (1, 1) else .bad 1 1 9) w) := by
  rw [Lib.toList_data]
  split
  · next h => exact tokens_short s w h _ rfl
  · next h => exact tokens_long s w (by omega) hm
end Go.Proofs.YtggdhgppclnckaaGreatDoor
