/-
  Package value on valid types: typeFault, bounds, zero, Zero.
-/
import Derived.Test.YtklndjkblfncjaaGreatDoorRep
namespace Go.Proofs.YtklndjkblfncjaaGreatDoor
open Go Go.RowKit
set_option maxRecDepth 20000

set_option maxHeartbeats 4000000 in
theorem typeFault_e (S : Nat → Prop) (d : Nat) (hd : d ≤ 10) (T : Ty) (A : Option Addr) (n c : Nat) (w : World) (h : TyRd S w d T A n c) :
    Calls Tryz.prog 33 #[tyV T A n c] w (FaultIs (tyErr d T) w) := by
  have hb1 : Below w.heap.size w (w.alloc (.cells #[.int .i64 T.k, .int .i64 T.lo, .int .i64 T.hi, .int .i64 T.mx, .slice A n c] 24)) := allocB _ _
  have HF := Lib.hid (validate_e S d hd T A n c _ (h.below hb1))
  have hdef : tyErr d T = if tvErr d T ≠ 0 then tvErr d T else if T.k = 4 then 8 else 0 := rfl
  obtain ⟨x, hx⟩ : ∃ x, tvErr d T = x := ⟨_, rfl⟩
  obtain ⟨z, hz⟩ : ∃ z, tyErr d T = z := ⟨_, rfl⟩
  rw [hx] at HF hdef
  rw [hz] at hdef ⊢
  have HD := Lib.hid hdef
  clear h hb1 hx hz hdef
  go_enter Tryz.func33, Tryz.ntmps33
  go_wp2_with fail
  refine HF.out.mono ?_
  rintro e1 w1 ⟨rfl, hb⟩
  obtain ⟨p0, p1, p2, p3, p4⟩ := (box5_new w (.int .i64 T.k) (.int .i64 T.lo) (.int .i64 T.hi) (.int .i64 T.mx) (.slice A n c) 24).below hb (by simp)
  have hB : Below w.heap.size w w1 := nextB (allocB _ _) hb
  clear HF hb
  have hD := HD.out
  clear HD
  by_cases hx0 : x = 0
  · subst hx0
    rw [if_neg (by decide)] at hD
    by_cases k4 : T.k = 4
    · have b4 : (T.k == 4) = true := by simpa using k4
      rw [if_pos k4] at hD
      have HZ := Lib.hid hD
      clear hD k4
      go_wp2
      go_ret
      exact ⟨by rw [HZ.out]; rfl, hB⟩
    · have b4 : (T.k == 4) = false := by simpa using k4
      rw [if_neg k4] at hD
      have HZ := Lib.hid hD
      clear hD k4
      go_wp2
      go_ret
      exact ⟨by rw [HZ.out]; rfl, hB⟩
  · have bx : (x != 0) = true := by simpa using hx0
    rw [if_pos hx0] at hD
    have HZ := Lib.hid hD
    clear hD hx0
    go_wp2
    go_ret
    exact ⟨by rw [HZ.out]; rfl, hB⟩
theorem typeFault_x (S : Nat → Prop) (d : Nat) (T : Ty) (A : Option Addr) (n c : Nat) (w : World) (h : TyRd S w d T A n c) (hg : Good d T) (hk : T.k ≠ 4) :
    Calls Tryz.prog 33 #[tyV T A n c] w (Fine w) := by
  have := typeFault_e S d hg.deep T A n c w h
  rw [tyErr_zero.2 ⟨hg.zero, hk⟩] at this
  exact this

def Bounds (T : Ty) (w : World) (e : Ending) (w' : World) : Prop := e = .returned (.tuple #[.int .i64 (tlow T), .int .i64 (thigh T)]) ∧ Below w.heap.size w w'
set_option maxHeartbeats 4000000 in
theorem bounds_x (T : Ty) (A : Option Addr) (n c : Nat) (w : World) : Calls Tryz.prog 53 #[tyV T A n c] w (Bounds T w) := by
  by_cases k1 : T.k = 1
  · have b1 : (T.k == 1) = true := by simpa using k1
    have e1 : tlow T = 0 := by unfold tlow; rw [if_pos k1]
    have e2 : thigh T = 1 := by unfold thigh; rw [if_pos k1]
    unfold Bounds
    rw [e1, e2]
    clear k1 e1 e2
    go_enter Tryz.func53, Tryz.ntmps53
    go_wp2
    go_ret2
    exact ⟨rfl, allocB _ _⟩
  · have b1 : (T.k == 1) = false := by simpa using k1
    by_cases k3 : T.k = 3
    · have b3 : (T.k == 3) = true := by simpa using k3
      have e1 : tlow T = 0 := by unfold tlow; rw [if_neg k1, if_pos k3]
      have e2 : thigh T = 9223372036854775807 := by unfold thigh; rw [if_neg k1, if_pos k3]
      unfold Bounds
      rw [e1, e2]
      clear k1 k3 e1 e2
      go_enter Tryz.func53, Tryz.ntmps53
      go_wp2
      go_ret2
      exact ⟨rfl, allocB _ _⟩
    · have b3 : (T.k == 3) = false := by simpa using k3
      have e1 : tlow T = T.lo := by unfold tlow; rw [if_neg k1, if_neg k3]
      have e2 : thigh T = T.hi := by unfold thigh; rw [if_neg k1, if_neg k3]
      unfold Bounds
      rw [e1, e2]
      clear k1 k3 e1 e2
      go_enter Tryz.func53, Tryz.ntmps53
      go_wp2_with fail
      go_quiet (fail)
      go_wp2
      go_ret2
      exact ⟨rfl, drewN_below (allocB _ _) _⟩

/-- A box of two cells that may be written. -/
def Box2 (W : World) (b : Nat) (x0 x1 : Value) : Prop := W.cell? ⟨b, 0, none⟩ = some x0 ∧ W.cell? ⟨b, 1, none⟩ = some x1 ∧ W.frozen? ⟨b, 0, none⟩ = false ∧ W.frozen? ⟨b, 1, none⟩ = false
theorem box2_new (w : World) (x0 x1 : Value) (t : TypeId) : Box2 (w.alloc (.cells #[x0, x1] t)) w.heap.size x0 x1 := by
  unfold Box2
  simp only [World.cell?_alloc_new]
  exact ⟨rfl, rfl, frozen_of_row _ _ 0 _ _ (heap_alloc_new w _), frozen_of_row _ _ 1 _ _ (heap_alloc_new w _)⟩
theorem Box2.keep {w W : World} {b : Nat} {x0 x1 : Value} (h : Box2 w b x0 x1) (hb : W.heap[b]? = w.heap[b]?) : Box2 W b x0 x1 := by
  have hc : ∀ j, W.cell? ⟨b, j, none⟩ = w.cell? ⟨b, j, none⟩ := fun j => World.cell?_of_block (w := w) (a := ⟨b, j, none⟩) hb
  have hf : ∀ j, W.frozen? ⟨b, j, none⟩ = w.frozen? ⟨b, j, none⟩ := fun j => World.frozen?_of_block (w := w) (a := ⟨b, j, none⟩) hb
  obtain ⟨h0, h1, h2, h3⟩ := h
  exact ⟨(hc _).trans h0, (hc _).trans h1, (hf _).trans h2, (hf _).trans h3⟩
theorem Box2.below {w W : World} {b : Nat} {x0 x1 : Value} (h : Box2 w b x0 x1) (hb : Below w.heap.size w W) (hl : b < w.heap.size) : Box2 W b x0 x1 := h.keep (hb.block b hl)
/-- A type's box and the result's. -/
theorem boxes_tv (w : World) (x0 x1 x2 x3 x4 y0 y1 : Value) (t u : TypeId) (v : World) (hv : (w.alloc (.cells #[x0, x1, x2, x3, x4] t)).alloc (.cells #[y0, y1] u) = v) :
    v.heap.size = w.heap.size + 2 ∧ Below w.heap.size w v ∧ ∀ W, Below v.heap.size v W → Box5 W w.heap.size x0 x1 x2 x3 x4 ∧ Box2 W (w.heap.size + 1) y0 y1 := by
  refine ⟨by rw [← hv]; simp, by rw [← hv]; exact ((Below.refl _ _).alloc (Nat.le_refl _) _).alloc (by simp) _, fun W hW => ?_⟩
  have h1 := (box5_new w x0 x1 x2 x3 x4 t).below (allocB _ (.cells #[y0, y1] u)) (by simp)
  have h2 := box2_new (w.alloc (.cells #[x0, x1, x2, x3, x4] t)) y0 y1 u
  rw [hv] at h1 h2
  rw [World.size_alloc] at h2
  exact ⟨h1.below hW (by rw [← hv]; simp; omega), h2.below hW (by rw [← hv]; simp)⟩

theorem VlRd.set {S : Nat → Prop} {w : World} {d b j n c : Nat} {V : Vl} {A : Option Addr} {u : Value} (h : VlRd S w d V A n c) (hb : ∀ x, S x → x ≠ b) : VlRd S (w.setCell ⟨b, j, none⟩ u) d V A n c :=
  h.keep (by simp [World.setCell]) (fun x hx _ => Below.heap_setCell _ _ _ _ (hb x hx)) fun _ h => h
theorem TyRd.set {S : Nat → Prop} {w : World} {d b j n c : Nat} {T : Ty} {A : Option Addr} {u : Value} (h : TyRd S w d T A n c) (hb : ∀ x, S x → x ≠ b) : TyRd S (w.setCell ⟨b, j, none⟩ u) d T A n c :=
  h.keep (by simp [World.setCell]) (fun x hx _ => Below.heap_setCell _ _ _ _ (hb x hx)) fun _ h => h

/-- A value comes back in memory of its own. -/
def GivesVl (d : Nat) (V : Vl) (w : World) (e : Ending) (w' : World) : Prop := ∃ B m q, e = .returned (vlV V B m q) ∧ VlRd (fun b => w.heap.size ≤ b) w' d V B m q ∧ Below w.heap.size w w'

theorem VlOwn.push {w w' : World} {base d : Nat} {A : Option Addr} {n c g cap : Nat} {l : List VlAt} {x : VlAt} (h : VlOwn w base d A n c l) (hx : VlRd (fun b => base ≤ b ∧ offA A b) w d x.V x.A x.n x.c) (hown : w'.ownsRow base 27 2 (.slice (some ⟨g, 0, none⟩) (n + 1) cap) (n + 1) (vlRow l ++ x.cells)) (hgrow : w.grownBy w' (Value.ownBlock (.slice A n c))) (hat : Value.ownBlock (.slice A n c) = some g ∨ g = w.heap.size) :
    VlOwn w' base d (some ⟨g, 0, none⟩) (n + 1) cap (l ++ [x]) := by
  obtain ⟨A', c', hv, hO, _⟩ := h.snoc hx hown hgrow (fun k hk => by
    simp [Value.ownBlock] at hk
    subst hk
    rcases hat with h1 | h1
    · exact .inl h1
    · exact .inr (by omega))
  injection hv with h1 _ h2
  subst h1
  subst h2
  exact hO
theorem TyOwn.push {w w' : World} {base d : Nat} {A : Option Addr} {n c g cap : Nat} {l : List TyAt} {x : TyAt} (h : TyOwn w base d A n c l) (hx : TyRd (fun b => base ≤ b ∧ offA A b) w d x.T x.A x.n x.c) (hown : w'.ownsRow base 24 5 (.slice (some ⟨g, 0, none⟩) (n + 1) cap) (n + 1) (tyRow l ++ x.cells)) (hgrow : w.grownBy w' (Value.ownBlock (.slice A n c))) (hat : Value.ownBlock (.slice A n c) = some g ∨ g = w.heap.size) :
    TyOwn w' base d (some ⟨g, 0, none⟩) (n + 1) cap (l ++ [x]) := by
  obtain ⟨A', c', hv, hO, _⟩ := h.snoc hx hown hgrow (fun k hk => by
    simp [Value.ownBlock] at hk
    subst hk
    rcases hat with h1 | h1
    · exact .inl h1
    · exact .inr (by omega))
  injection hv with h1 _ h2
  subst h1
  subst h2
  exact hO
/-- What an append to the call's own row leaves of older memory. -/
theorem grown_own {w0 w w' : World} {base : Nat} {A : Option Addr} {n c : Nat} {t : TypeId} {sz : Nat} {xs : List Value} (hb : Below base w0 w) (hr : w.ownsRow base t sz (.slice A n c) n xs) (hgrow : w.grownBy w' (Value.ownBlock (.slice A n c))) (hbase : base ≤ w.heap.size) : Below base w0 w' :=
  hb.grown hgrow hbase (fun k hk => (hr.lt k hk).1)
theorem vl_news (w : World) (x : VlAt) (t : TypeId) : ∀ j u, x.cells[j]? = some u → (w.alloc (.cells #[.int .i64 x.V.i, .slice x.A x.n x.c] t)).cell? ((⟨w.heap.size, 0, none⟩ : Addr).add j) = some u :=
  fun j u hu => World.news_of_block (cs := #[.int .i64 x.V.i, .slice x.A x.n x.c]) (heap_alloc_new w _) j u hu
set_option maxHeartbeats 8000000 in
theorem zero_x : ∀ (d : Nat) (S : Nat → Prop) (T : Ty) (A : Option Addr) (n c : Nat) (w : World), TyRd S w d T A n c → TyOk d T → Calls Tryz.prog 38 #[tyV T A n c] w (GivesVl d (vzero d T) w)
  | 0, _, _, _, _, _, _, h, _ => h.elim
  | d + 1, S, T, A, n, c, w, h, hok => by
    have IH := zero_x d
    obtain ⟨i0, hi, hz0, hz1, hz2⟩ := info_parts info_value
    by_cases k5 : T.k = 5
    · have b5 : (T.k == 5) = true := by simpa using k5
      obtain ⟨hz, hn2, hn4, hels⟩ := hok.tuple k5
      obtain ⟨hl, hcap, htop⟩ := h.len
      rw [hl] at hn4
      unfold maxLen at htop
      have HV : Hid (vzero (d + 1) T = .mk 0 (T.es.map (vzero d))) := by show _ = _; simp only [vzero, if_pos k5]
      have H := Lib.hid h
      have HE : Hid (∀ e ∈ T.es, TyOk d e) := fun e he => (hels e he).1
      have HI := Lib.hid IH
      have HLN := Lib.hid hl
      clear h hok IH k5 hz hn2 hels hl
      obtain ⟨v, hv⟩ : ∃ v, (w.alloc (.cells #[.int .i64 T.k, .int .i64 T.lo, .int .i64 T.hi, .int .i64 T.mx, .slice A n c] 24)).alloc (.cells #[.int .i64 0, .slice none 0 0] 27) = v := ⟨_, rfl⟩
      obtain ⟨hvs, hwv, hbx⟩ := boxes_tv w _ _ _ _ _ _ _ _ _ v hv
      have HBX := Lib.hid hbx
      have HVV := Lib.hid hv
      have HWV := Lib.hid hwv
      have hvs2 : w.heap.size + 1 < v.heap.size := by omega
      have HVS := Lib.hid hvs
      clear hv hbx hwv hvs
      go_enter Tryz.func38, Tryz.ntmps38
      go_wp2
      rw [HVV.out]
      go_loopw [3, 15] (fun ev iv wr => ∃ (i : Nat) (Q : Option Addr) (q : Nat) (l : List VlAt), i ≤ n ∧ iv = .int .i64 i ∧ ev = .slice Q i q ∧ Hid (VlOwn wr v.heap.size d Q i q l ∧ l.map VlAt.V = (T.es.take i).map (vzero d)) ∧ Hid (Below v.heap.size v wr)) (fun _ iv _ => n - (intOf iv).toNat)
      case atStart => exact ⟨0, none, 0, [], Nat.zero_le _, rfl, rfl, ⟨VlOwn.nil _ _ _, by simp⟩, Below.refl _ _⟩
      case round =>
        obtain ⟨i, Q, q, l, hi', rfl, rfl, HO, HB⟩ := hrel
        by_cases hlt : i < n
        · obtain ⟨e, g, o, A', n', c', he, rfl, _, hg, hc, hr⟩ := (H.out.below (nextB HWV.out HB.out)).get hlt
          obtain ⟨c0, c1, c2, c3, c4⟩ := hc
          have HF := Lib.hid (HI.out S e A' n' c' _ (hr.below (allocB wr (.cells #[.int .i64 e.k, .int .i64 e.lo, .int .i64 e.hi, .int .i64 e.mx, .slice A' n' c'] 24))) (HE.out e (List.mem_of_getElem? he)))
          have HEI := Lib.hid he
          clear he hr
          go_wp2_with fail
          refine HF.out.mono ?_
          rintro e1 w1 ⟨B, m, p, rfl, hv, hb⟩
          obtain ⟨x, hx⟩ : ∃ x : VlAt, x = ⟨vzero d e, B, m, p⟩ := ⟨_, rfl⟩
          have hb1 : Below wr.heap.size wr w1 := nextB (allocB _ _) hb
          have hO1 := HO.out.1.below hb1
          have hOW := hO1.below (allocB w1 (.cells #[.int .i64 x.V.i, .slice x.A x.n x.c] 27))
          have hx1 : VlRd (fun b => v.heap.size ≤ b ∧ offA Q b) w1 d x.V x.A x.n x.c := by
            rw [hx]
            refine hv.in fun b hb => ?_
            rw [World.size_alloc] at hb
            have := HB.out.size
            refine ⟨by omega, fun a ha => ?_⟩
            have := (row_lt HO.out.1.row a ha).2
            omega
          have hx2 := hx1.below (allocB w1 (.cells #[.int .i64 x.V.i, .slice x.A x.n x.c] 27))
          have hsz : v.heap.size ≤ w1.heap.size := Nat.le_trans HB.out.size hb1.size
          have HX2 := Lib.hid hx2
          have HOW := Lib.hid hOW
          have HBB : Hid (Below v.heap.size v (w1.alloc (.cells #[.int .i64 x.V.i, .slice x.A x.n x.c] 27))) := (nextB HB.out hb1).alloc hsz _
          have HXV : Hid (x.V = vzero d e) := by rw [hx]; rfl
          have ev1 : (vzero d e).i = x.V.i := by rw [hx]
          have ev2 : B = x.A := by rw [hx]
          have ev3 : m = x.n := by rw [hx]
          have ev4 : p = x.c := by rw [hx]
          simp only [vlV, ev1]
          subst ev2
          subst ev3
          subst ev4
          clear hx hv hb hb1 hO1 hx1 hOW hx2 HF c0 c1 c2 c3 c4 ev1
          go_wp2_with (at_builtin; refine wpList_append_lies _ rfl _ _ 25 rfl v.heap.size 27 i0 (.agg #[.int .i64 0, .slice none 0 0]) 2 32 Tryz.underlying25 hi hz0 hz1 hz2 rfl (by decide) _ _ _ rfl HOW.out.row ⟨_, 0, none⟩ 1 1 x.cells rfl rfl (vl_news _ x _) x.oneCell (by decide) ?r1 ?r2 ?r3 _ rfl ?_)
          case r1 => unfold maxLen; omega
          case r2 => omega
          case r3 => rw [World.size_alloc]; omega
          intro g3 c3 w3 hown hgrow hat hlt3
          have hOO := HOW.out.push HX2.out hown hgrow (by rw [World.size_alloc]; exact hat)
          have HB3 := Lib.hid (grown_own HBB.out HOW.out.row hgrow (by rw [World.size_alloc]; omega))
          have HO3 : Hid (VlOwn w3 v.heap.size d (some ⟨g3, 0, none⟩) (i + 1) c3 (l ++ [x]) ∧ (l ++ [x]).map VlAt.V = (T.es.take (i + 1)).map (vzero d)) := by
            refine ⟨hOO, ?_⟩
            rw [List.map_append, HO.out.2, List.take_add_one, HEI.out, List.map_append]
            simp [HXV.out]
          clear hown hgrow hat hOO
          go_wp2
          go_roundw
          case rel => exact ⟨i + 1, _, _, _, by omega, by go_num, rfl, HO3, HB3⟩
          case measure => simp [intOf] <;> omega
        · obtain rfl : i = n := by omega
          obtain ⟨_, r0, r1, f0, f1⟩ := HBX.out wr HB.out
          have hrd := (HO.out.1.rd (.mk 0 (T.es.map (vzero d))) (by
            show T.es.map (vzero d) = _
            rw [HO.out.2, List.take_of_length_le (by rw [HLN.out]; exact Nat.le_refl _)]))
          have hset : ∀ y0 y1, VlRd (fun b => v.heap.size ≤ b) ((wr.setCell ⟨w.heap.size + 1, 0, none⟩ y0).setCell ⟨w.heap.size + 1, 1, none⟩ y1) (d + 1) (.mk 0 (T.es.map (vzero d))) Q i q := fun y0 y1 => (hrd.set (fun x hx => by omega)).set (fun x hx => by omega)
          have HSET := Lib.hid hset
          have HFB := Lib.hid (((nextB HWV.out HB.out).setCell (p := ⟨w.heap.size + 1, 0, none⟩) (by simp) (.int .i64 0)).setCell (p := ⟨w.heap.size + 1, 1, none⟩) (by simp) (.slice Q i q))
          clear hrd hset
          go_wp2
          refine bodyPost_ret (v := vlV (vzero (d + 1) T) Q i q) (by simp [results, Tryz.results38, go_sem, r0, r1, HV.out, Vl.i]) rfl ⟨Q, i, q, rfl, ?_, HFB.out⟩
          rw [HV.out]
          exact (HSET.out _ _).in fun b hb => by have := HVS.out; omega
    · have b5 : (T.k == 5) = false := by simpa using k5
      by_cases k6 : T.k = 6
      · have b6 : (T.k == 6) = true := by simpa using k6
        have HV : Hid (vzero (d + 1) T = .mk 0 []) := by show _ = _; simp only [vzero, if_neg k5, if_pos k6]
        clear h hok IH k5 k6
        go_enter Tryz.func38, Tryz.ntmps38
        go_wp2
        refine bodyPost_ret (v := vlV (vzero (d + 1) T) none 0 0) (by simp [results, Tryz.results38, go_sem, HV.out, Vl.i]) rfl ⟨none, 0, 0, rfl, ?_, ?_⟩
        · rw [HV.out]; exact VlRd.nil _ _ rfl
        · exact ((Below.refl _ _).alloc (Nat.le_refl _) _).alloc (by simp) _
      · have b6 : (T.k == 6) = false := by simpa using k6
        have HV : Hid (vzero (d + 1) T = .mk (min (max 0 (tlow T)) (thigh T)) []) := by show _ = _; simp only [vzero, if_neg k5, if_neg k6]
        have HBD := Lib.hid (fun W => bounds_x T A n c W)
        obtain ⟨v, hv⟩ : ∃ v, (w.alloc (.cells #[.int .i64 T.k, .int .i64 T.lo, .int .i64 T.hi, .int .i64 T.mx, .slice A n c] 24)).alloc (.cells #[.int .i64 0, .slice none 0 0] 27) = v := ⟨_, rfl⟩
        obtain ⟨hvs, hwv, hbx⟩ := boxes_tv w _ _ _ _ _ _ _ _ _ v hv
        have HBX := Lib.hid hbx
        have HVV := Lib.hid hv
        have HWV := Lib.hid hwv
        clear h hok IH k5 k6 hv hbx hwv hvs
        go_enter Tryz.func38, Tryz.ntmps38
        go_wp2_with fail
        rw [HVV.out]
        refine (HBD.out v).mono ?_
        rintro e1 w1 ⟨rfl, hb⟩
        obtain ⟨_, r0, r1, f0, f1⟩ := HBX.out w1 hb
        have HFB : Hid (∀ y0 y1, Below w.heap.size w ((w1.setCell ⟨w.heap.size + 1, 0, none⟩ y0).setCell ⟨w.heap.size + 1, 1, none⟩ y1)) := fun y0 y1 => (((nextB HWV.out hb)).setCell (p := ⟨w.heap.size + 1, 0, none⟩) (by simp) y0).setCell (p := ⟨w.heap.size + 1, 1, none⟩) (by simp) y1
        generalize tlow T = lo at *
        generalize thigh T = hh at *
        obtain ⟨z, hz⟩ : ∃ z, min (max 0 lo) hh = z := ⟨_, rfl⟩
        rw [hz] at HV
        have HZ := Lib.hid hz
        clear hb HBD HBX hz
        go_wp2
        all_goals
          have hz := HZ.out
          refine bodyPost_ret (v := vlV (vzero (d + 1) T) none 0 0) (by simp [results, Tryz.results38, go_sem, r0, r1, HV.out, Vl.i] <;> omega) rfl ⟨none, 0, 0, rfl, ?_, HFB.out _ _⟩
          rw [HV.out]; exact VlRd.nil _ _ rfl

def GivesVlOk (d : Nat) (V : Vl) (w : World) (e : Ending) (w' : World) : Prop := ∃ B m q, e = .returned (.tuple #[vlV V B m q, .int .i64 0]) ∧ VlRd (fun b => w.heap.size ≤ b) w' d V B m q ∧ Below w.heap.size w w'
set_option maxHeartbeats 4000000 in
theorem Zero_x (S : Nat → Prop) (d : Nat) (T : Ty) (A : Option Addr) (n c : Nat) (w : World) (h : TyRd S w d T A n c) (hg : Good d T) (hk : T.k ≠ 4) :
    Calls Tryz.prog 19 #[tyV T A n c] w (GivesVlOk d (vzero d T) w) := by
  obtain ⟨v, hv⟩ : ∃ v, (w.alloc (.cells #[.int .i64 T.k, .int .i64 T.lo, .int .i64 T.hi, .int .i64 T.mx, .slice A n c] 24)).alloc (.cells #[.int .i64 0, .slice none 0 0] 27) = v := ⟨_, rfl⟩
  obtain ⟨hvs, hwv, hbx⟩ := boxes_tv w _ _ _ _ _ _ _ _ _ v hv
  have HF := Lib.hid (typeFault_x S d T A n c v (h.below hwv) hg hk)
  have HZ : Hid (∀ W, Below v.heap.size v W → Calls Tryz.prog 38 #[tyV T A n c] W (GivesVl d (vzero d T) W)) := fun W hW => zero_x d S T A n c W (h.below (nextB hwv hW)) hg.ok
  have HBX := Lib.hid hbx
  have HVV := Lib.hid hv
  have HWV := Lib.hid hwv
  have HVS := Lib.hid hvs
  clear h hg hk hv hbx hwv hvs
  go_enter Tryz.func19, Tryz.ntmps19
  go_wp2_with fail
  rw [HVV.out]
  refine HF.out.mono ?_
  rintro e1 w1 ⟨rfl, hb⟩
  obtain ⟨⟨p0, p1, p2, p3, p4⟩, _⟩ := HBX.out w1 hb
  have HZ1 := Lib.hid (HZ.out w1 hb)
  clear HF HZ
  go_wp2_with fail
  refine HZ1.out.mono ?_
  rintro e2 w2 ⟨B, m, q, rfl, hr, hb2⟩
  have hB2 := nextB hb hb2
  obtain ⟨_, r0, r1, f0, f1⟩ := HBX.out w2 hB2
  have hs1 := hb.size
  have hset : ∀ y0 y1, VlRd (fun b => w1.heap.size ≤ b) ((w2.setCell ⟨w.heap.size + 1, 0, none⟩ y0).setCell ⟨w.heap.size + 1, 1, none⟩ y1) d (vzero d T) B m q := fun y0 y1 => (hr.set (fun x hx => by have := HVS.out; omega)).set (fun x hx => by have := HVS.out; omega)
  have HSET := Lib.hid hset
  have HFB := Lib.hid ((((nextB HWV.out hB2)).setCell (p := ⟨w.heap.size + 1, 0, none⟩) (by simp) (.int .i64 (vzero d T).i)).setCell (p := ⟨w.heap.size + 1, 1, none⟩) (by simp) (.slice B m q))
  clear hr hb hb2 hB2 hset HZ1 HBX p0 p1 p2 p3 p4
  go_wp2
  refine bodyPost_ret (v := .tuple #[vlV (vzero d T) B m q, .int .i64 0]) (by simp [results, Tryz.results19, go_sem, r0, r1]) rfl ⟨B, m, q, rfl, ?_, HFB.out⟩
  exact (HSET.out _ _).in fun b hb => by have := HVS.out; omega
end Go.Proofs.YtklndjkblfncjaaGreatDoor
