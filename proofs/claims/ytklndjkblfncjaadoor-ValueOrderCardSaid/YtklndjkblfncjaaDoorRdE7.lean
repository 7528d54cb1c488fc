/-
  value.readElements and value.read on valid types: the value that cells stand for.
-/
import Derived.Test.YtklndjkblfncjaaDoorCel7
import Derived.Test.YtklndjkblfncjaaDoorReadP
namespace Go.Proofs.YtklndjkblfncjaaDoor
open Go Go.RowKit
set_option maxRecDepth 20000

/-- A slice reads as a list of ints, in a block below bd. -/
structure IntRd (bd : Nat) (w : World) (Q : Option Addr) (n q : Nat) (L : List Int) : Prop where
  len : L.length = n
  cap : n ≤ q
  top : q ≤ 9223372036854775807
  at_ : 0 < n → ∃ g o, Q = some ⟨g, o, none⟩ ∧ g < bd ∧ ∀ i x, L[i]? = some x → w.cell? ⟨g, o + i, none⟩ = some (.int .i64 x)
theorem IntRd.below {bd B : Nat} {w w' : World} {Q : Option Addr} {n q : Nat} {L : List Int} (h : IntRd bd w Q n q L) (hb : Below B w w') (hB : bd ≤ B) : IntRd bd w' Q n q L :=
  ⟨h.len, h.cap, h.top, fun hn => by
    obtain ⟨g, o, e, hg, hc⟩ := h.at_ hn
    exact ⟨g, o, e, hg, fun i x hx => (hb.cell (p := ⟨g, o + i, none⟩) (by show g < B; omega)).trans (hc i x hx)⟩⟩
/-- What is left behind the first cell. -/
def tailAt (Q : Option Addr) (q : Nat) : Option Addr := match Q with
  | some ⟨g, o, p⟩ => if q = 1 then some ⟨g, o, p⟩ else some ⟨g, o + 1, p⟩
  | none => none
theorem IntRd.tail {bd : Nat} {w : World} {Q : Option Addr} {n q : Nat} {x : Int} {L : List Int} (h : IntRd bd w Q (n + 1) q (x :: L)) : IntRd bd w (tailAt Q q) n (q - 1) L := by
  have hc := h.cap
  refine ⟨by have := h.len; simpa using this, by omega, by have := h.top; omega, fun hn => ?_⟩
  obtain ⟨g, o, rfl, hg, hat⟩ := h.at_ (by omega)
  refine ⟨g, o + 1, ?_, hg, fun i y hy => ?_⟩
  · simp only [tailAt]
    rw [if_neg (by omega)]
  · have := hat (i + 1) y (by rw [List.getElem?_cons_succ]; exact hy)
    rw [← this]; congr 2; omega

/-- The boxes of the value that is built, and of an element; the row of the elements. -/
structure RInv (p d : Nat) (v W : World) (Q : Option Addr) (n q : Nat) (l : List VlAt) : Prop where
  box : Box2 W p (.int .i64 0) (.slice Q n q)
  elt : ∃ y0 y1, Box2 W (p + 1) y0 y1
  own : VlOwn W (p + 2) d Q n q l
  bel : Below p v W
  size : p + 2 ≤ W.heap.size
  vs : v.heap.size = p
theorem RInv.below {p d n q : Nat} {v W W' : World} {Q : Option Addr} {l : List VlAt} (h : RInv p d v W Q n q l) (hb : Below W.heap.size W W') : RInv p d v W' Q n q l := by
  have hs := h.size
  obtain ⟨y0, y1, he⟩ := h.elt
  exact ⟨h.box.below hb (by omega), ⟨y0, y1, he.below hb (by omega)⟩, h.own.below hb, h.bel.trans (hb.mono (by omega)), Nat.le_trans hs hb.size, h.vs⟩
/-- The element's box is filled. -/
theorem RInv.fill {p d n q : Nat} {v W : World} {Q : Option Addr} {l : List VlAt} (h : RInv p d v W Q n q l) (y0 y1 : Value) :
    RInv p d v ((W.setCell ⟨p + 1, 0, none⟩ y0).setCell ⟨p + 1, 1, none⟩ y1) Q n q l ∧ Box2 ((W.setCell ⟨p + 1, 0, none⟩ y0).setCell ⟨p + 1, 1, none⟩ y1) (p + 1) y0 y1 := by
  obtain ⟨z0, z1, he⟩ := h.elt
  have hb := (he.set0 y0).set1 y1
  refine ⟨⟨?_, ⟨y0, y1, hb⟩, (h.own.setB (by omega)).setB (by omega), (h.bel.setCell (p := ⟨p + 1, 0, none⟩) (by simp) y0).setCell (p := ⟨p + 1, 1, none⟩) (by simp) y1, by simp [World.setCell]; exact h.size, h.vs⟩, hb⟩
  exact (h.box.keep (Below.heap_setCell _ _ _ _ (by simp))).keep (Below.heap_setCell _ _ _ _ (by simp))
theorem RInv.added {p d n q g3 c3 : Nat} {v W w1 w3 : World} {Q : Option Addr} {l : List VlAt} {x : VlAt} (h : RInv p d v W Q n q l) (hx : VlRd (fun b => p + 2 ≤ b ∧ offA Q b) W d x.V x.A x.n x.c) (hw1 : w1 = W.alloc (.cells x.cells.toArray 31))
    (hown : w3.ownsRow (p + 2) 31 2 (.slice (some ⟨g3, 0, none⟩) (n + 1) c3) (n + 1) (vlRow l ++ x.cells)) (hgrow : w1.grownBy w3 (Value.ownBlock (.slice Q n q))) (hat : Value.ownBlock (.slice Q n q) = some g3 ∨ g3 = w1.heap.size) :
    RInv p d v (w3.setCell ⟨p, 1, none⟩ (.slice (some ⟨g3, 0, none⟩) (n + 1) c3)) (some ⟨g3, 0, none⟩) (n + 1) c3 (l ++ [x]) := by
  subst hw1
  have hs := h.size
  have hO := h.own.below (allocB W (.cells x.cells.toArray 31))
  have hX := hx.below (allocB W (.cells x.cells.toArray 31))
  have hB : Below (p + 2) W w3 := grown_own ((Below.refl (p + 2) W).alloc hs _) hO.row hgrow (by rw [World.size_alloc]; omega)
  obtain ⟨y0, y1, he⟩ := h.elt
  refine ⟨(h.box.keep (hB.block p (by omega))).set1 _, ⟨y0, y1, (he.keep (hB.block (p + 1) (by omega))).keep (Below.heap_setCell _ _ _ _ (by simp))⟩, (hO.push hX hown hgrow hat).setB (by omega), (h.bel.trans (hB.mono (by omega))).setCell (p := ⟨p, 1, none⟩) (Nat.le_refl _) _, by simp [World.setCell]; have := hB.size; omega, h.vs⟩

theorem RInv.grown {p d n q : Nat} {v W w3 : World} {Q : Option Addr} {l : List VlAt} {x : VlAt} (h : RInv p d v W Q n q l)
    (hgrow : (W.alloc (.cells x.cells.toArray 31)).grownBy w3 (Value.ownBlock (.slice Q n q))) : Box2 w3 p (.int .i64 0) (.slice Q n q) ∧ Below (p + 2) W w3 := by
  have hs := h.size
  have hO := h.own.below (allocB W (.cells x.cells.toArray 31))
  have hB : Below (p + 2) W w3 := grown_own ((Below.refl (p + 2) W).alloc hs _) hO.row hgrow (by rw [World.size_alloc]; omega)
  exact ⟨h.box.keep (hB.block p (by omega)), hB⟩
def GivesRead (bd d : Nat) (V : Vl) (L : List Int) (w : World) (e : Ending) (w' : World) : Prop := ∃ B m q Q n k, e = .returned (.tuple #[vlV V B m q, .slice Q n k]) ∧ VlRd (fun b => w.heap.size ≤ b) w' d V B m q ∧ IntRd bd w' Q n k L ∧ Below w.heap.size w w'
def ReadAt (d : Nat) : Prop := ∀ (bd : Nat) (S : Nat → Prop) (T : Ty) (A : Option Addr) (n c : Nat) (Q : Option Addr) (nq qq : Nat) (L : List Int) (w : World),
  TyRd S w d T A n c → TyOk d T → bd ≤ w.heap.size → IntRd bd w Q nq qq L → twidth d T ≤ L.length → Calls Tryd.prog 28 #[tyV T A n c, .slice Q nq qq] w (GivesRead bd d (vval d T L) (L.drop (twidth d T)) w)

set_option maxHeartbeats 16000000 in
theorem readEls_x (d : Nat) (IH : ReadAt d) (bd : Nat) (S : Nat → Prop) (Ls : List Ty) (A : Option Addr) (n c : Nat) (Q : Option Addr) (nq qq : Nat) (L : List Int) (w : World) (h : TyRd S w (d + 1) (.mk 0 0 0 0 Ls) A n c) (hok : ∀ e ∈ Ls, TyOk d e) (hn : n ≤ 8) (hbd : bd ≤ w.heap.size) (hr : IntRd bd w Q nq qq L) (hlen : (Ls.map (twidth d)).sum ≤ L.length) :
    Calls Tryd.prog 42 #[.slice A n c, .slice Q nq qq] w (GivesRead bd (d + 1) (.mk 0 (vvals (vval d) (twidth d) Ls L)) (L.drop (Ls.map (twidth d)).sum) w) := by
  obtain ⟨i0, hi, hy0, hy1, hy2⟩ := info_parts info_value
  obtain ⟨hl, hcap, htop⟩ := h.len
  unfold maxLen at htop
  have hl' : Ls.length = n := hl
  obtain ⟨v, hv⟩ : ∃ v, w.alloc (.cells #[.int .i64 0, .slice none 0 0] 31) = v := ⟨_, rfl⟩
  have hvs : v.heap.size = w.heap.size + 1 := by rw [← hv]; simp
  have hwv : Below w.heap.size w v := by rw [← hv]; exact allocB _ _
  have hb0 : Box2 v w.heap.size (.int .i64 0) (.slice none 0 0) := by rw [← hv]; exact box2_new _ _ _ _
  obtain ⟨u, hu⟩ : ∃ u, (v.alloc (.cells #[.int .i64 0, .slice none 0 0] 31)).alloc (.cells #[.int .i64 0, .slice none 0 0] 31) = u := ⟨_, rfl⟩
  have hvu : Below v.heap.size v u := by rw [← hu]; exact ((Below.refl _ _).alloc (Nat.le_refl _) _).alloc (by simp) _
  have hinv : RInv (w.heap.size + 1) d v u none 0 0 [] := by
    refine ⟨?_, ⟨.int .i64 0, .slice none 0 0, ?_⟩, VlOwn.nil _ _ _, hvs ▸ hvu, by rw [← hu]; simp; omega, hvs⟩
    · have := (box2_new v (.int .i64 0) (.slice none 0 0) 31).below (allocB _ (.cells #[.int .i64 0, .slice none 0 0] 31)) (by simp)
      rw [hu, hvs] at this; exact this
    · have := box2_new (v.alloc (.cells #[.int .i64 0, .slice none 0 0] 31)) (.int .i64 0) (.slice none 0 0) 31
      rw [hu, World.size_alloc, hvs] at this; exact this
  obtain ⟨p, hp⟩ : ∃ p, w.heap.size + 1 = p := ⟨_, rfl⟩
  rw [hp] at hinv
  obtain ⟨X, hX⟩ : ∃ X, vvals (vval d) (twidth d) Ls L = X := ⟨_, rfl⟩
  obtain ⟨Ws, hWs⟩ : ∃ Ws, Ls.map (twidth d) = Ws := ⟨_, rfl⟩
  have HIE : Hid (∀ i e, Ls[i]? = some e → (X.take (i + 1) = X.take i ++ [vval d e (L.drop (Ws.take i).sum)] ∧ (Ws.take (i + 1)).sum = (Ws.take i).sum + twidth d e ∧ twidth d e ≤ (L.drop (Ws.take i).sum).length) ∧ TyOk d e) := by
    intro i e he
    have h1 : Ws[i]? = some (twidth d e) := by rw [← hWs, List.getElem?_map, he]; rfl
    have h2 := sum_next h1
    have h3 := sum_take_le Ws (i + 1)
    rw [hWs] at hlen
    refine ⟨⟨?_, h2, by rw [List.length_drop]; omega⟩, hok e (List.mem_of_getElem? he)⟩
    rw [← hX, ← hWs]; exact vvals_take _ _ he
  have HXL : Hid (X.length = n ∧ Ws.length = n) := ⟨by rw [← hX, vvals_length]; exact hl', by rw [← hWs, List.length_map]; exact hl'⟩
  have HX := Lib.hid hX
  have HWS := Lib.hid hWs
  have H : Hid (∀ W, Below p v W → TyRd S W (d + 1) (.mk 0 0 0 0 Ls) A n c) := fun W hW => h.below (hwv.trans (hW.mono (by omega)))
  have HRB : Hid (∀ W, Below p v W → Box2 W w.heap.size (.int .i64 0) (.slice none 0 0)) := fun W hW => hb0.keep (hW.block _ (by omega))
  have HR0 := Lib.hid ((hr.below hwv hbd).below hvu (by omega))
  have HI := Lib.hid IH
  have HV := Lib.hid hv
  have HU := Lib.hid hu
  have HP := Lib.hid hp
  have HWV := Lib.hid hwv
  have HINV := Lib.hid hinv
  rw [hX, hWs]
  clear h hok hr hlen hl hl' hv hvs hwv hb0 hu hvu hinv hp hX hWs IH
  go_enter Tryd.func42, Tryd.ntmps42
  go_wp2
  rw [HV.out, HU.out, HP.out]
  go_loopw [1, 12] (fun lv iv wr => ∃ (i : Nat) (Qc : Option Addr) (nc kc : Nat) (Qv : Option Addr) (qv : Nat) (l : List VlAt), i ≤ n ∧ iv = .int .i64 i ∧ lv = .slice Qc nc kc ∧ Hid (IntRd bd wr Qc nc kc (L.drop (Ws.take i).sum) ∧ RInv p d v wr Qv i qv l ∧ l.map VlAt.V = X.take i)) (fun _ iv _ => n - (intOf iv).toNat)
  case atStart => exact ⟨0, _, _, _, none, 0, [], Nat.zero_le _, rfl, rfl, (by simpa using HR0.out), HINV.out, by simp⟩
  case round =>
    obtain ⟨i, Qc, nc, kc, Qv, qv, l, hi', rfl, rfl, REL⟩ := hrel
    by_cases hlt : i < n
    · obtain ⟨e, ge, oe, Ae, ne, ce, he, rfl, _, hge, hce, hre⟩ := (H.out wr REL.out.2.1.bel).get hlt
      obtain ⟨⟨hxi, hsn, hle⟩, hoe⟩ := HIE.out i e he
      have hb1 := allocB wr (.cells #[.int .i64 e.k, .int .i64 e.lo, .int .i64 e.hi, .int .i64 e.mx, .slice Ae ne ce] 27)
      have hpw := REL.out.2.1.size
      have hpv := REL.out.2.1.vs
      have hbp : bd ≤ p := by have := HP.out; omega
      have HF := Lib.hid (HI.out bd S e Ae ne ce Qc nc kc _ _ (hre.below hb1) hoe (by rw [World.size_alloc]; omega) (REL.out.1.below hb1 (by omega)) hle)
      have HB1 := Lib.hid hb1
      have HXI := Lib.hid hxi
      have HSN := Lib.hid hsn
      obtain ⟨c0, c1, c2, c3, c4⟩ := hce
      clear he hre hb1 hxi hsn hle hoe hge
      go_wp2_with fail
      refine HF.out.mono ?_
      rintro e1 w1 ⟨B, mB, qB, Q1, n1, k1, rfl, hV, hR, hb⟩
      have hb2 : Below wr.heap.size wr w1 := nextB HB1.out hb
      have INV1 := Lib.hid (REL.out.2.1.below hb2)
      generalize vval d e (L.drop (Ws.take i).sum) = V1 at *
      obtain ⟨INV2, he2⟩ := INV1.out.fill (.int .i64 V1.i) (.slice B mB qB)
      obtain ⟨z0, z1, y0, y1, yf0, yf1⟩ := INV1.out.elt
      obtain ⟨u0, u1, _, _⟩ := INV2.box
      obtain ⟨t0, t1, _, _⟩ := he2
      have hsz : ((w1.setCell ⟨p + 1, 0, none⟩ (.int .i64 V1.i)).setCell ⟨p + 1, 1, none⟩ (.slice B mB qB)).heap.size = w1.heap.size := by simp [World.setCell]
      have hQv : ∀ a, Qv = some a → a.block < wr.heap.size := fun a ha => (row_lt REL.out.2.1.own.row a ha).2
      have hxV : VlRd (fun b => p + 2 ≤ b ∧ offA Qv b) ((w1.setCell ⟨p + 1, 0, none⟩ (.int .i64 V1.i)).setCell ⟨p + 1, 1, none⟩ (.slice B mB qB)) d V1 B mB qB := by
        have h1 : VlRd (fun b => p + 2 ≤ b ∧ offA Qv b) w1 d V1 B mB qB := hV.in fun b hb => by
          rw [World.size_alloc] at hb
          exact ⟨by omega, fun a ha => by have := hQv a ha; omega⟩
        exact (h1.set fun y hy => by have := hy.1; omega).set fun y hy => by have := hy.1; omega
      have HOW := Lib.hid (INV2.own.below (allocB ((w1.setCell ⟨p + 1, 0, none⟩ (.int .i64 V1.i)).setCell ⟨p + 1, 1, none⟩ (.slice B mB qB)) (.cells #[.int .i64 V1.i, .slice B mB qB] 31)))
      have hnews : ∀ j y, ((⟨V1, B, mB, qB⟩ : VlAt).cells)[j]? = some y → (((w1.setCell ⟨p + 1, 0, none⟩ (.int .i64 V1.i)).setCell ⟨p + 1, 1, none⟩ (.slice B mB qB)).alloc (.cells #[.int .i64 V1.i, .slice B mB qB] 31)).cell? ((⟨w1.heap.size, 0, none⟩ : Addr).add j) = some y := by
        rw [← hsz]
        exact fun j y hy => World.news_of_block (heap_alloc_new _ _) j y (by simpa [VlAt.cells] using hy)
      have HNW := Lib.hid hnews
      have HXV := Lib.hid hxV
      have HI2 := Lib.hid INV2
      have HSZ := Lib.hid hsz
      have hp2 : p + 2 ≤ w1.heap.size := INV1.out.size
      have HR := Lib.hid hR
      have HPV : Hid (bd ≤ p) := hbp
      clear hV hR hb hnews hxV INV2 hQv hsz HF c0 c1 c2 c3 c4
      go_wp2_with (at_builtin; refine wpList_append_lies _ rfl _ _ 29 rfl (p + 2) 31 i0 (.agg #[.int .i64 0, .slice none 0 0]) 2 32 Tryd.underlying29 hi hy0 hy1 hy2 rfl (by decide) (.slice Qv i qv) i (vlRow l) rfl HOW.out.row ⟨w1.heap.size, 0, none⟩ 1 1 (VlAt.mk V1 B mB qB).cells rfl rfl HNW.out (VlAt.oneCell _) (by decide) (by unfold maxLen; omega) (by omega) (by rw [World.size_alloc, HSZ.out]; omega) _ rfl ?_)
      intro g3 c3 w3 hown hgrow hat hlt3
      have hgr := HI2.out.grown (x := ⟨V1, B, mB, qB⟩) hgrow
      have HN := Lib.hid (HI2.out.added (x := ⟨V1, B, mB, qB⟩) HXV.out rfl hown hgrow (by rw [World.size_alloc, HSZ.out]; first | exact hat | (rw [World.size_alloc, HSZ.out] at hat; exact hat)))
      obtain ⟨⟨v0, v1, vf0, vf1⟩, hB3⟩ := hgr
      have HREL : Hid (IntRd bd (w3.setCell ⟨p, 1, none⟩ (.slice (some ⟨g3, 0, none⟩) (i + 1) c3)) Q1 n1 k1 (L.drop (Ws.take (i + 1)).sum) ∧ RInv p d v (w3.setCell ⟨p, 1, none⟩ (.slice (some ⟨g3, 0, none⟩) (i + 1) c3)) (some ⟨g3, 0, none⟩) (i + 1) c3 (l ++ [⟨V1, B, mB, qB⟩]) ∧ (l ++ [(⟨V1, B, mB, qB⟩ : VlAt)]).map VlAt.V = X.take (i + 1)) := by
        refine ⟨?_, HN.out, by rw [List.map_append, REL.out.2.2, HXI.out]; rfl⟩
        rw [HSN.out, ← List.drop_drop]
        have hB4 : Below p w1 (w3.setCell ⟨p, 1, none⟩ (.slice (some ⟨g3, 0, none⟩) (i + 1) c3)) :=
          ((((Below.refl p w1).setCell (p := ⟨p + 1, 0, none⟩) (by simp) (.int .i64 V1.i)).setCell (p := ⟨p + 1, 1, none⟩) (by simp) (.slice B mB qB)).trans (hB3.mono (by omega))).setCell (p := ⟨p, 1, none⟩) (Nat.le_refl _) _
        exact HR.out.below hB4 HPV.out
      clear hown hgrow hat HI2 HXV HOW HNW HSZ HN hB3 HR HXI HSN INV1
      clear y0 y1 yf0 yf1 u0 u1 t0 t1
      go_wp2
      go_roundw
      case rel => exact ⟨i + 1, _, _, _, _, _, _, by omega, by go_num, rfl, HREL⟩
      case measure => simp [intOf] <;> omega
    · obtain rfl : i = n := by omega
      have hfx : X.take i = X := by rw [List.take_of_length_le (by rw [HXL.out.1]; exact Nat.le_refl _)]
      have hfw : Ws.take i = Ws := by rw [List.take_of_length_le (by rw [HXL.out.2]; exact Nat.le_refl _)]
      rw [hfx, hfw] at REL
      obtain ⟨r0, r1, f0, f1⟩ := HRB.out wr REL.out.2.1.bel
      obtain ⟨b0, b1, _, _⟩ := REL.out.2.1.box
      have hrd := REL.out.2.1.own.rd (.mk 0 X) REL.out.2.2.symm
      have HRD : Hid (∀ y0 y1, VlRd (fun b => w.heap.size ≤ b) ((wr.setCell ⟨w.heap.size, 0, none⟩ y0).setCell ⟨w.heap.size, 1, none⟩ y1) (d + 1) (.mk 0 X) Qv i qv) := fun y0 y1 => ((hrd.set (fun z hz => by have := HP.out; omega)).set (fun z hz => by have := HP.out; omega)).in fun b hb => by have := HP.out; omega
      have HB5 : Hid (∀ y0 y1, Below w.heap.size wr ((wr.setCell ⟨w.heap.size, 0, none⟩ y0).setCell ⟨w.heap.size, 1, none⟩ y1)) := fun y0 y1 => ((Below.refl w.heap.size wr).setCell (p := ⟨w.heap.size, 0, none⟩) (Nat.le_refl _) y0).setCell (p := ⟨w.heap.size, 1, none⟩) (Nat.le_refl _) y1
      clear hrd hfx hfw
      go_wp2
      exact bodyPost_ret (v := .tuple #[vlV (.mk 0 X) Qv i qv, .slice Qc nc kc]) (by simp [results, Tryd.results42, go_sem, r0, r1, Vl.i]) rfl ⟨Qv, i, qv, Qc, nc, kc, rfl, HRD.out _ _, REL.out.1.below (HB5.out _ _) hbd, (HWV.out.trans (REL.out.2.1.bel.mono (by have := HP.out; omega))).trans (HB5.out _ _)⟩
end Go.Proofs.YtklndjkblfncjaaDoor
