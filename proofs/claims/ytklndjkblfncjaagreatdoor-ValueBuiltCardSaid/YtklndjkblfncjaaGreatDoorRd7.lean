/-
  value.readElements and value.read on valid types: the value that cells stand for.
  value.read: the list case.
  value.read on valid types.
-/
import Derived.Test.YtklndjkblfncjaaGreatDoorCel7
import Derived.Test.YtklndjkblfncjaaGreatDoorReadP
namespace Go.Proofs.YtklndjkblfncjaaGreatDoor
open Go Go.RowKit
set_option maxRecDepth 20000

/-- A slice reads as a list of ints, in a block below bd. -/
structure IntRd (bd : Nat) (w : World) (Q : Option Addr) (n q : Nat) (L : List Int) : Prop where
  len : L.length = n
  cap : n ≤ q
  top : q ≤ 9223372036854775807
  at_ : 0 < n → ∃ g o, Q = some ⟨g, o, none⟩ ∧ g < bd ∧ ∀ i x, L[i]? = some x → w.cell? ⟨g, o + i, none⟩ = some (.int .i64 x)
theorem IntRd.below {bd B : Nat} {w w' : World} {Q : Option Addr} {n q : Nat} {L : List Int} (h : IntRd bd w Q n q L) (hb : Below B w w') (hB : bd ≤ B) : IntRd bd w' Q n q L :=
  ⟨h.len, h.cap, h.top, fun hn => by
    obtain ⟨g, o, e, hg, hc⟩ := h.at_ hn
    exact ⟨g, o, e, hg, fun i x hx => (hb.cell (p := ⟨g, o + i, none⟩) (by show g < B; omega)).trans (hc i x hx)⟩⟩
/-- What is left behind the first cell. -/
def tailAt (Q : Option Addr) (q : Nat) : Option Addr := match Q with
  | some ⟨g, o, p⟩ => if q = 1 then some ⟨g, o, p⟩ else some ⟨g, o + 1, p⟩
  | none => none
theorem IntRd.tail {bd : Nat} {w : World} {Q : Option Addr} {n q : Nat} {x : Int} {L : List Int} (h : IntRd bd w Q (n + 1) q (x :: L)) : IntRd bd w (tailAt Q q) n (q - 1) L := by
  have hc := h.cap
  refine ⟨by have := h.len; simpa using this, by omega, by have := h.top; omega, fun hn => ?_⟩
  obtain ⟨g, o, rfl, hg, hat⟩ := h.at_ (by omega)
  refine ⟨g, o + 1, ?_, hg, fun i y hy => ?_⟩
  · simp only [tailAt]
    rw [if_neg (by omega)]
  · have := hat (i + 1) y (by rw [List.getElem?_cons_succ]; exact hy)
    rw [← this]; congr 2; omega

/-- The boxes of the value that is built, and of an element; the row of the elements. -/
structure RInv (p d : Nat) (v W : World) (Q : Option Addr) (n q : Nat) (l : List VlAt) : Prop where
  box : Box2 W p (.int .i64 0) (.slice Q n q)
  elt : ∃ y0 y1, Box2 W (p + 1) y0 y1
  own : VlOwn W (p + 2) d Q n q l
  bel : Below p v W
  size : p + 2 ≤ W.heap.size
  vs : v.heap.size = p
theorem RInv.below {p d n q : Nat} {v W W' : World} {Q : Option Addr} {l : List VlAt} (h : RInv p d v W Q n q l) (hb : Below W.heap.size W W') : RInv p d v W' Q n q l := by
  have hs := h.size
  obtain ⟨y0, y1, he⟩ := h.elt
  exact ⟨h.box.below hb (by omega), ⟨y0, y1, he.below hb (by omega)⟩, h.own.below hb, h.bel.trans (hb.mono (by omega)), Nat.le_trans hs hb.size, h.vs⟩
/-- The element's box is filled. -/
theorem RInv.fill {p d n q : Nat} {v W : World} {Q : Option Addr} {l : List VlAt} (h : RInv p d v W Q n q l) (y0 y1 : Value) :
    RInv p d v ((W.setCell ⟨p + 1, 0, none⟩ y0).setCell ⟨p + 1, 1, none⟩ y1) Q n q l ∧ Box2 ((W.setCell ⟨p + 1, 0, none⟩ y0).setCell ⟨p + 1, 1, none⟩ y1) (p + 1) y0 y1 := by
  obtain ⟨z0, z1, he⟩ := h.elt
  have hb := (he.set0 y0).set1 y1
  refine ⟨⟨?_, ⟨y0, y1, hb⟩, (h.own.setB (by omega)).setB (by omega), (h.bel.setCell (p := ⟨p + 1, 0, none⟩) (by simp) y0).setCell (p := ⟨p + 1, 1, none⟩) (by simp) y1, by simp [World.setCell]; exact h.size, h.vs⟩, hb⟩
  exact (h.box.keep (Below.heap_setCell _ _ _ _ (by simp))).keep (Below.heap_setCell _ _ _ _ (by simp))
theorem RInv.added {p d n q g3 c3 : Nat} {v W w1 w3 : World} {Q : Option Addr} {l : List VlAt} {x : VlAt} (h : RInv p d v W Q n q l) (hx : VlRd (fun b => p + 2 ≤ b ∧ offA Q b) W d x.V x.A x.n x.c) (hw1 : w1 = W.alloc (.cells x.cells.toArray 27))
    (hown : w3.ownsRow (p + 2) 27 2 (.slice (some ⟨g3, 0, none⟩) (n + 1) c3) (n + 1) (vlRow l ++ x.cells)) (hgrow : w1.grownBy w3 (Value.ownBlock (.slice Q n q))) (hat : Value.ownBlock (.slice Q n q) = some g3 ∨ g3 = w1.heap.size) :
    RInv p d v (w3.setCell ⟨p, 1, none⟩ (.slice (some ⟨g3, 0, none⟩) (n + 1) c3)) (some ⟨g3, 0, none⟩) (n + 1) c3 (l ++ [x]) := by
  subst hw1
  have hs := h.size
  have hO := h.own.below (allocB W (.cells x.cells.toArray 27))
  have hX := hx.below (allocB W (.cells x.cells.toArray 27))
  have hB : Below (p + 2) W w3 := grown_own ((Below.refl (p + 2) W).alloc hs _) hO.row hgrow (by rw [World.size_alloc]; omega)
  obtain ⟨y0, y1, he⟩ := h.elt
  refine ⟨(h.box.keep (hB.block p (by omega))).set1 _, ⟨y0, y1, (he.keep (hB.block (p + 1) (by omega))).keep (Below.heap_setCell _ _ _ _ (by simp))⟩, (hO.push hX hown hgrow hat).setB (by omega), (h.bel.trans (hB.mono (by omega))).setCell (p := ⟨p, 1, none⟩) (Nat.le_refl _) _, by simp [World.setCell]; have := hB.size; omega, h.vs⟩

theorem RInv.grown {p d n q : Nat} {v W w3 : World} {Q : Option Addr} {l : List VlAt} {x : VlAt} (h : RInv p d v W Q n q l)
    (hgrow : (W.alloc (.cells x.cells.toArray 27)).grownBy w3 (Value.ownBlock (.slice Q n q))) : Box2 w3 p (.int .i64 0) (.slice Q n q) ∧ Below (p + 2) W w3 := by
  have hs := h.size
  have hO := h.own.below (allocB W (.cells x.cells.toArray 27))
  have hB : Below (p + 2) W w3 := grown_own ((Below.refl (p + 2) W).alloc hs _) hO.row hgrow (by rw [World.size_alloc]; omega)
  exact ⟨h.box.keep (hB.block p (by omega)), hB⟩
def GivesRead (bd d : Nat) (V : Vl) (L : List Int) (w : World) (e : Ending) (w' : World) : Prop := ∃ B m q Q n k, e = .returned (.tuple #[vlV V B m q, .slice Q n k]) ∧ VlRd (fun b => w.heap.size ≤ b) w' d V B m q ∧ IntRd bd w' Q n k L ∧ Below w.heap.size w w'
def ReadAt (d : Nat) : Prop := ∀ (bd : Nat) (S : Nat → Prop) (T : Ty) (A : Option Addr) (n c : Nat) (Q : Option Addr) (nq qq : Nat) (L : List Int) (w : World),
  TyRd S w d T A n c → TyOk d T → bd ≤ w.heap.size → IntRd bd w Q nq qq L → twidth d T ≤ L.length → Calls Tryz.prog 35 #[tyV T A n c, .slice Q nq qq] w (GivesRead bd d (vval d T L) (L.drop (twidth d T)) w)

set_option maxHeartbeats 16000000 in
theorem readEls_x (d : Nat) (IH : ReadAt d) (bd : Nat) (S : Nat → Prop) (Ls : List Ty) (A : Option Addr) (n c : Nat) (Q : Option Addr) (nq qq : Nat) (L : List Int) (w : World) (h : TyRd S w (d + 1) (.mk 0 0 0 0 Ls) A n c) (hok : ∀ e ∈ Ls, TyOk d e) (hn : n ≤ 8) (hbd : bd ≤ w.heap.size) (hr : IntRd bd w Q nq qq L) (hlen : (Ls.map (twidth d)).sum ≤ L.length) :
    Calls Tryz.prog 50 #[.slice A n c, .slice Q nq qq] w (GivesRead bd (d + 1) (.mk 0 (vvals (vval d) (twidth d) Ls L)) (L.drop (Ls.map (twidth d)).sum) w) := by
  obtain ⟨i0, hi, hy0, hy1, hy2⟩ := info_parts info_value
  obtain ⟨hl, hcap, htop⟩ := h.len
  unfold maxLen at htop
  have hl' : Ls.length = n := hl
  obtain ⟨v, hv⟩ : ∃ v, w.alloc (.cells #[.int .i64 0, .slice none 0 0] 27) = v := ⟨_, rfl⟩
  have hvs : v.heap.size = w.heap.size + 1 := by rw [← hv]; simp
  have hwv : Below w.heap.size w v := by rw [← hv]; exact allocB _ _
  have hb0 : Box2 v w.heap.size (.int .i64 0) (.slice none 0 0) := by rw [← hv]; exact box2_new _ _ _ _
  obtain ⟨u, hu⟩ : ∃ u, (v.alloc (.cells #[.int .i64 0, .slice none 0 0] 27)).alloc (.cells #[.int .i64 0, .slice none 0 0] 27) = u := ⟨_, rfl⟩
  have hvu : Below v.heap.size v u := by rw [← hu]; exact ((Below.refl _ _).alloc (Nat.le_refl _) _).alloc (by simp) _
  have hinv : RInv (w.heap.size + 1) d v u none 0 0 [] := by
    refine ⟨?_, ⟨.int .i64 0, .slice none 0 0, ?_⟩, VlOwn.nil _ _ _, hvs ▸ hvu, by rw [← hu]; simp; omega, hvs⟩
    · have := (box2_new v (.int .i64 0) (.slice none 0 0) 27).below (allocB _ (.cells #[.int .i64 0, .slice none 0 0] 27)) (by simp)
      rw [hu, hvs] at this; exact this
    · have := box2_new (v.alloc (.cells #[.int .i64 0, .slice none 0 0] 27)) (.int .i64 0) (.slice none 0 0) 27
      rw [hu, World.size_alloc, hvs] at this; exact this
  obtain ⟨p, hp⟩ : ∃ p, w.heap.size + 1 = p := ⟨_, rfl⟩
  rw [hp] at hinv
  obtain ⟨X, hX⟩ : ∃ X, vvals (vval d) (twidth d) Ls L = X := ⟨_, rfl⟩
  obtain ⟨Ws, hWs⟩ : ∃ Ws, Ls.map (twidth d) = Ws := ⟨_, rfl⟩
  have HIE : Hid (∀ i e, Ls[i]? = some e → (X.take (i + 1) = X.take i ++ [vval d e (L.drop (Ws.take i).sum)] ∧ (Ws.take (i + 1)).sum = (Ws.take i).sum + twidth d e ∧ twidth d e ≤ (L.drop (Ws.take i).sum).length) ∧ TyOk d e) := by
    intro i e he
    have h1 : Ws[i]? = some (twidth d e) := by rw [← hWs, List.getElem?_map, he]; rfl
    have h2 := sum_next h1
    have h3 := sum_take_le Ws (i + 1)
    rw [hWs] at hlen
    refine ⟨⟨?_, h2, by rw [List.length_drop]; omega⟩, hok e (List.mem_of_getElem? he)⟩
    rw [← hX, ← hWs]; exact vvals_take _ _ he
  have HXL : Hid (X.length = n ∧ Ws.length = n) := ⟨by rw [← hX, vvals_length]; exact hl', by rw [← hWs, List.length_map]; exact hl'⟩
  have HX := Lib.hid hX
  have HWS := Lib.hid hWs
  have H : Hid (∀ W, Below p v W → TyRd S W (d + 1) (.mk 0 0 0 0 Ls) A n c) := fun W hW => h.below (hwv.trans (hW.mono (by omega)))
  have HRB : Hid (∀ W, Below p v W → Box2 W w.heap.size (.int .i64 0) (.slice none 0 0)) := fun W hW => hb0.keep (hW.block _ (by omega))
  have HR0 := Lib.hid ((hr.below hwv hbd).below hvu (by omega))
  have HI := Lib.hid IH
  have HV := Lib.hid hv
  have HU := Lib.hid hu
  have HP := Lib.hid hp
  have HWV := Lib.hid hwv
  have HINV := Lib.hid hinv
  rw [hX, hWs]
  clear h hok hr hlen hl hl' hv hvs hwv hb0 hu hvu hinv hp hX hWs IH
  go_enter Tryz.func50, Tryz.ntmps50
  go_wp2
  rw [HV.out, HU.out, HP.out]
  go_loopw [1, 12] (fun lv iv wr => ∃ (i : Nat) (Qc : Option Addr) (nc kc : Nat) (Qv : Option Addr) (qv : Nat) (l : List VlAt), i ≤ n ∧ iv = .int .i64 i ∧ lv = .slice Qc nc kc ∧ Hid (IntRd bd wr Qc nc kc (L.drop (Ws.take i).sum) ∧ RInv p d v wr Qv i qv l ∧ l.map VlAt.V = X.take i)) (fun _ iv _ => n - (intOf iv).toNat)
  case atStart => exact ⟨0, _, _, _, none, 0, [], Nat.zero_le _, rfl, rfl, (by simpa using HR0.out), HINV.out, by simp⟩
  case round =>
    obtain ⟨i, Qc, nc, kc, Qv, qv, l, hi', rfl, rfl, REL⟩ := hrel
    by_cases hlt : i < n
    · obtain ⟨e, ge, oe, Ae, ne, ce, he, rfl, _, hge, hce, hre⟩ := (H.out wr REL.out.2.1.bel).get hlt
      obtain ⟨⟨hxi, hsn, hle⟩, hoe⟩ := HIE.out i e he
      have hb1 := allocB wr (.cells #[.int .i64 e.k, .int .i64 e.lo, .int .i64 e.hi, .int .i64 e.mx, .slice Ae ne ce] 24)
      have hpw := REL.out.2.1.size
      have hpv := REL.out.2.1.vs
      have hbp : bd ≤ p := by have := HP.out; omega
      have HF := Lib.hid (HI.out bd S e Ae ne ce Qc nc kc _ _ (hre.below hb1) hoe (by rw [World.size_alloc]; omega) (REL.out.1.below hb1 (by omega)) hle)
      have HB1 := Lib.hid hb1
      have HXI := Lib.hid hxi
      have HSN := Lib.hid hsn
      obtain ⟨c0, c1, c2, c3, c4⟩ := hce
      clear he hre hb1 hxi hsn hle hoe hge
      go_wp2_with fail
      refine HF.out.mono ?_
      rintro e1 w1 ⟨B, mB, qB, Q1, n1, k1, rfl, hV, hR, hb⟩
      have hb2 : Below wr.heap.size wr w1 := nextB HB1.out hb
      have INV1 := Lib.hid (REL.out.2.1.below hb2)
      generalize vval d e (L.drop (Ws.take i).sum) = V1 at *
      obtain ⟨INV2, he2⟩ := INV1.out.fill (.int .i64 V1.i) (.slice B mB qB)
      obtain ⟨z0, z1, y0, y1, yf0, yf1⟩ := INV1.out.elt
      obtain ⟨u0, u1, _, _⟩ := INV2.box
      obtain ⟨t0, t1, _, _⟩ := he2
      have hsz : ((w1.setCell ⟨p + 1, 0, none⟩ (.int .i64 V1.i)).setCell ⟨p + 1, 1, none⟩ (.slice B mB qB)).heap.size = w1.heap.size := by simp [World.setCell]
      have hQv : ∀ a, Qv = some a → a.block < wr.heap.size := fun a ha => (row_lt REL.out.2.1.own.row a ha).2
      have hxV : VlRd (fun b => p + 2 ≤ b ∧ offA Qv b) ((w1.setCell ⟨p + 1, 0, none⟩ (.int .i64 V1.i)).setCell ⟨p + 1, 1, none⟩ (.slice B mB qB)) d V1 B mB qB := by
        have h1 : VlRd (fun b => p + 2 ≤ b ∧ offA Qv b) w1 d V1 B mB qB := hV.in fun b hb => by
          rw [World.size_alloc] at hb
          exact ⟨by omega, fun a ha => by have := hQv a ha; omega⟩
        exact (h1.set fun y hy => by have := hy.1; omega).set fun y hy => by have := hy.1; omega
      have HOW := Lib.hid (INV2.own.below (allocB ((w1.setCell ⟨p + 1, 0, none⟩ (.int .i64 V1.i)).setCell ⟨p + 1, 1, none⟩ (.slice B mB qB)) (.cells #[.int .i64 V1.i, .slice B mB qB] 27)))
      have hnews : ∀ j y, ((⟨V1, B, mB, qB⟩ : VlAt).cells)[j]? = some y → (((w1.setCell ⟨p + 1, 0, none⟩ (.int .i64 V1.i)).setCell ⟨p + 1, 1, none⟩ (.slice B mB qB)).alloc (.cells #[.int .i64 V1.i, .slice B mB qB] 27)).cell? ((⟨w1.heap.size, 0, none⟩ : Addr).add j) = some y := by
        rw [← hsz]
        exact fun j y hy => World.news_of_block (heap_alloc_new _ _) j y (by simpa [VlAt.cells] using hy)
      have HNW := Lib.hid hnews
      have HXV := Lib.hid hxV
      have HI2 := Lib.hid INV2
      have HSZ := Lib.hid hsz
      have hp2 : p + 2 ≤ w1.heap.size := INV1.out.size
      have HR := Lib.hid hR
      have HPV : Hid (bd ≤ p) := hbp
      clear hV hR hb hnews hxV INV2 hQv hsz HF c0 c1 c2 c3 c4
      go_wp2_with (at_builtin; refine wpList_append_lies _ rfl _ _ 25 rfl (p + 2) 27 i0 (.agg #[.int .i64 0, .slice none 0 0]) 2 32 Tryz.underlying25 hi hy0 hy1 hy2 rfl (by decide) (.slice Qv i qv) i (vlRow l) rfl HOW.out.row ⟨w1.heap.size, 0, none⟩ 1 1 (VlAt.mk V1 B mB qB).cells rfl rfl HNW.out (VlAt.oneCell _) (by decide) (by unfold maxLen; omega) (by omega) (by rw [World.size_alloc, HSZ.out]; omega) _ rfl ?_)
      intro g3 c3 w3 hown hgrow hat hlt3
      have hgr := HI2.out.grown (x := ⟨V1, B, mB, qB⟩) hgrow
      have HN := Lib.hid (HI2.out.added (x := ⟨V1, B, mB, qB⟩) HXV.out rfl hown hgrow (by rw [World.size_alloc, HSZ.out]; first | exact hat | (rw [World.size_alloc, HSZ.out] at hat; exact hat)))
      obtain ⟨⟨v0, v1, vf0, vf1⟩, hB3⟩ := hgr
      have HREL : Hid (IntRd bd (w3.setCell ⟨p, 1, none⟩ (.slice (some ⟨g3, 0, none⟩) (i + 1) c3)) Q1 n1 k1 (L.drop (Ws.take (i + 1)).sum) ∧ RInv p d v (w3.setCell ⟨p, 1, none⟩ (.slice (some ⟨g3, 0, none⟩) (i + 1) c3)) (some ⟨g3, 0, none⟩) (i + 1) c3 (l ++ [⟨V1, B, mB, qB⟩]) ∧ (l ++ [(⟨V1, B, mB, qB⟩ : VlAt)]).map VlAt.V = X.take (i + 1)) := by
        refine ⟨?_, HN.out, by rw [List.map_append, REL.out.2.2, HXI.out]; rfl⟩
        rw [HSN.out, ← List.drop_drop]
        have hB4 : Below p w1 (w3.setCell ⟨p, 1, none⟩ (.slice (some ⟨g3, 0, none⟩) (i + 1) c3)) :=
          ((((Below.refl p w1).setCell (p := ⟨p + 1, 0, none⟩) (by simp) (.int .i64 V1.i)).setCell (p := ⟨p + 1, 1, none⟩) (by simp) (.slice B mB qB)).trans (hB3.mono (by omega))).setCell (p := ⟨p, 1, none⟩) (Nat.le_refl _) _
        exact HR.out.below hB4 HPV.out
      clear hown hgrow hat HI2 HXV HOW HNW HSZ HN hB3 HR HXI HSN INV1
      clear y0 y1 yf0 yf1 u0 u1 t0 t1
      go_wp2
      go_roundw
      case rel => exact ⟨i + 1, _, _, _, _, _, _, by omega, by go_num, rfl, HREL⟩
      case measure => simp [intOf] <;> omega
    · obtain rfl : i = n := by omega
      have hfx : X.take i = X := by rw [List.take_of_length_le (by rw [HXL.out.1]; exact Nat.le_refl _)]
      have hfw : Ws.take i = Ws := by rw [List.take_of_length_le (by rw [HXL.out.2]; exact Nat.le_refl _)]
      rw [hfx, hfw] at REL
      obtain ⟨r0, r1, f0, f1⟩ := HRB.out wr REL.out.2.1.bel
      obtain ⟨b0, b1, _, _⟩ := REL.out.2.1.box
      have hrd := REL.out.2.1.own.rd (.mk 0 X) REL.out.2.2.symm
      have HRD : Hid (∀ y0 y1, VlRd (fun b => w.heap.size ≤ b) ((wr.setCell ⟨w.heap.size, 0, none⟩ y0).setCell ⟨w.heap.size, 1, none⟩ y1) (d + 1) (.mk 0 X) Qv i qv) := fun y0 y1 => ((hrd.set (fun z hz => by have := HP.out; omega)).set (fun z hz => by have := HP.out; omega)).in fun b hb => by have := HP.out; omega
      have HB5 : Hid (∀ y0 y1, Below w.heap.size wr ((wr.setCell ⟨w.heap.size, 0, none⟩ y0).setCell ⟨w.heap.size, 1, none⟩ y1)) := fun y0 y1 => ((Below.refl w.heap.size wr).setCell (p := ⟨w.heap.size, 0, none⟩) (Nat.le_refl _) y0).setCell (p := ⟨w.heap.size, 1, none⟩) (Nat.le_refl _) y1
      clear hrd hfx hfw
      go_wp2
      exact bodyPost_ret (v := .tuple #[vlV (.mk 0 X) Qv i qv, .slice Qc nc kc]) (by simp [results, Tryz.results50, go_sem, r0, r1, Vl.i]) rfl ⟨Qv, i, qv, Qc, nc, kc, rfl, HRD.out _ _, REL.out.1.below (HB5.out _ _) hbd, (HWV.out.trans (REL.out.2.1.bel.mono (by have := HP.out; omega))).trans (HB5.out _ _)⟩
end Go.Proofs.YtklndjkblfncjaaGreatDoor

namespace Go.Proofs.YtklndjkblfncjaaGreatDoor
open Go Go.RowKit
set_option maxRecDepth 20000

theorem sum_replicate (k m : Nat) : (List.replicate k m).sum = k * m := by
  induction k with
  | zero => simp
  | succ k ih => rw [List.replicate_succ, List.sum_cons, ih, Nat.succ_mul]; omega

set_option maxHeartbeats 16000000 in
theorem readList_x (d : Nat) (IH : ReadAt d) (bd : Nat) (S : Nat → Prop) (T : Ty) (A : Option Addr) (n c : Nat) (Q : Option Addr) (nq qq : Nat) (L : List Int) (w : World) (h : TyRd S w (d + 1) T A n c) (hok : TyOk (d + 1) T) (hbd : bd ≤ w.heap.size) (hr : IntRd bd w Q nq qq L) (hlen : twidth (d + 1) T ≤ L.length) (k6 : T.k = 6) :
    Calls Tryz.prog 35 #[tyV T A n c, .slice Q nq qq] w (GivesRead bd (d + 1) (vval (d + 1) T L) (L.drop (twidth (d + 1) T)) w) := by
  obtain ⟨hlohi, hm1, hm4, e, he, hoe, hek⟩ := hok.list k6
  clear hlohi hek
  have k5 : ¬ T.k = 5 := by omega
  have b5 : (T.k == 5) = false := by simpa using k5
  have b6 : (T.k == 6) = true := by simpa using k6
  obtain ⟨tw, htw⟩ : ∃ tw, twidth d e = tw := ⟨_, rfl⟩
  have hW : twidth (d + 1) T = 1 + T.mx.toNat * tw := by simp only [twidth, if_neg k5, if_pos k6, he, List.map_cons, List.headD_cons, htw]
  have hVv : vval (d + 1) T L = .mk 0 (vvals (vval d) (twidth d) (List.replicate (min (max 0 (L.headD 0)) T.mx).toNat e) (L.drop 1)) := by simp only [vval, if_neg k5, if_pos k6, he, List.headD_cons]
  rw [hW] at hlen ⊢
  rw [hVv]
  obtain ⟨hl, hcap, htop⟩ := h.len
  unfold maxLen at htop
  have hE0 : TyRd S w (d + 1) (.mk 0 0 0 0 T.es) A n c := h
  rw [he] at hE0 hl
  have hn1 : n = 1 := hl.symm
  have HRE0 : ∀ (k : Nat), k ≤ 4 → ∀ (S : Nat → Prop) (A : Option Addr) (c : Nat) (Q : Option Addr) (nq qq : Nat) (L : List Int) (w : World), TyRd S w (d + 1) (.mk 0 0 0 0 (List.replicate k e)) A k c → bd ≤ w.heap.size → IntRd bd w Q nq qq L → k * tw ≤ L.length →
      Calls Tryz.prog 50 #[.slice A k c, .slice Q nq qq] w (GivesRead bd (d + 1) (.mk 0 (vvals (vval d) (twidth d) (List.replicate k e) L)) (L.drop (k * tw)) w) := fun k hk S A c Q nq qq L w h hb hr hle => by
    have hs : ((List.replicate k e).map (twidth d)).sum = k * tw := by rw [List.map_replicate, htw, sum_replicate]
    have := readEls_x d IH bd S (List.replicate k e) A k c Q nq qq L w h (fun x hx => by rw [List.eq_of_mem_replicate hx]; exact hoe) (by omega) hb hr (by rw [hs]; exact hle)
    rw [hs] at this; exact this
  subst hn1
  obtain ⟨mx, hmx⟩ : ∃ mx : Nat, T.mx = mx := ⟨T.mx.toNat, by omega⟩
  have hrl := hr.len
  have hrc := hr.cap
  have hrt := hr.top
  obtain ⟨v, hvv⟩ : ∃ v, (w.alloc (.cells #[.int .i64 T.k, .int .i64 T.lo, .int .i64 T.hi, .int .i64 T.mx, .slice A 1 c] 24)).alloc (.cells #[.int .i64 0, .slice none 0 0] 27) = v := ⟨_, rfl⟩
  obtain ⟨hvs, hwv, hbx⟩ := boxes_tv w _ _ _ _ _ _ _ _ _ v hvv
  rw [hmx] at hbx hlen hm1 hm4 ⊢
  rw [Int.toNat_natCast] at hlen ⊢
  have hmx4 : mx ≤ 4 := by omega
  have hRV := hr.below hwv hbd
  cases L with
  | nil => simp at hlen
  | cons x L =>
  obtain ⟨nq', rfl⟩ : ∃ k, nq = k + 1 := ⟨nq - 1, by simp at hrl; omega⟩
  obtain ⟨gq, oq, rfl, hgq, hat⟩ := hRV.at_ (by omega)
  have hx0 := hat 0 x rfl
  have hTL := hRV.tail
  have hgw : gq < w.heap.size := by omega
  have hcv : v.drew.cell? ⟨gq, oq, none⟩ = some (.int .i64 x) := hx0
  obtain ⟨m0, hm0⟩ : ∃ m0 : Int, max 0 x = m0 := ⟨_, rfl⟩
  obtain ⟨k, hk⟩ : ∃ k : Nat, min m0 (mx : Int) = k := ⟨(min m0 (mx : Int)).toNat, by omega⟩
  have hkm : k ≤ mx := by omega
  have HM0 : Hid ((0 < x → m0 = x) ∧ (¬ 0 < x → m0 = 0)) := ⟨fun h => by omega, fun h => by omega⟩
  have HK0 : Hid (((mx : Int) < m0 → (k : Int) = mx) ∧ (¬ (mx : Int) < m0 → (k : Int) = m0)) := ⟨fun h => by omega, fun h => by omega⟩
  have hmul : k * tw + (mx - k) * tw = mx * tw := by rw [← Nat.add_mul]; congr 1; omega
  have hlenL : mx * tw ≤ L.length := by simp at hlen; omega
  simp only [List.headD_cons, hm0, hk, Int.toNat_natCast, List.drop_succ_cons, List.drop_zero]
  rw [show ((x :: L).drop (1 + mx * tw)) = L.drop (k * tw + (mx - k) * tw) by rw [hmul, Nat.add_comm, List.drop_succ_cons], ← List.drop_drop]
  obtain ⟨X, hX⟩ : ∃ X, vvals (vval d) (twidth d) (List.replicate k e) L = X := ⟨_, rfl⟩
  obtain ⟨L1, hL1⟩ : ∃ L1, L.drop (k * tw) = L1 := ⟨_, rfl⟩
  have hl1 : (mx - k) * tw ≤ L1.length := by rw [← hL1, List.length_drop]; omega
  have HF1 : Hid (∀ (S : Nat → Prop) (A : Option Addr) (c : Nat) (Q : Option Addr) (nq qq : Nat) (w : World), TyRd S w (d + 1) (.mk 0 0 0 0 (List.replicate k e)) A k c → bd ≤ w.heap.size → IntRd bd w Q nq qq L → Calls Tryz.prog 50 #[.slice A k c, .slice Q nq qq] w (GivesRead bd (d + 1) (.mk 0 X) L1 w)) := fun S A c Q nq qq w h hb hr => by
    have := HRE0 k (by omega) S A c Q nq qq L w h hb hr (by omega)
    rw [hX, hL1] at this; exact this
  have HF2 : Hid (∀ (S : Nat → Prop) (A : Option Addr) (c : Nat) (Q : Option Addr) (nq qq : Nat) (w : World), TyRd S w (d + 1) (.mk 0 0 0 0 (List.replicate (mx - k) e)) A (mx - k) c → bd ≤ w.heap.size → IntRd bd w Q nq qq L1 → Calls Tryz.prog 50 #[.slice A (mx - k) c, .slice Q nq qq] w (GivesRead bd (d + 1) (.mk 0 (vvals (vval d) (twidth d) (List.replicate (mx - k) e) L1)) (L1.drop ((mx - k) * tw)) w)) := fun S A c Q nq qq w h hb hr =>
    HRE0 (mx - k) (by omega) S A c Q nq qq L1 w h hb hr hl1
  have HP1 : Hid (∀ W, Below v.heap.size v W → Calls Tryz.prog 51 #[.slice A 1 c, .int .i64 k] W fun e' w' => ∃ B q, e' = .returned (.slice B k q) ∧ TyRd (fun b => S b ∨ W.heap.size ≤ b) w' (d + 1) (.mk 0 0 0 0 (List.replicate k e)) B k q ∧ Below W.heap.size W w') := fun W hW => rep_x k (by omega) S d e A c W ((hE0.below hwv).below hW)
  have HP2 : Hid (∀ W, Below v.heap.size v W → Calls Tryz.prog 51 #[.slice A 1 c, .int .i64 ((mx - k : Nat) : Int)] W fun e' w' => ∃ B q, e' = .returned (.slice B (mx - k) q) ∧ TyRd (fun b => S b ∨ W.heap.size ≤ b) w' (d + 1) (.mk 0 0 0 0 (List.replicate (mx - k) e)) B (mx - k) q ∧ Below W.heap.size W w') := fun W hW => rep_x (mx - k) (by omega) S d e A c W ((hE0.below hwv).below hW)
  have HTL : Hid (∀ W, Below v.heap.size v W → IntRd bd W (tailAt (some ⟨gq, oq, none⟩) qq) nq' (qq - 1) L) := fun W hW => hTL.below hW (by omega)
  have HBX := Lib.hid hbx
  have HVV := Lib.hid hvv
  have HWV := Lib.hid hwv
  have HVS := Lib.hid hvs
  have hbv : bd ≤ v.heap.size := by omega
  obtain ⟨R1, hR1⟩ : ∃ R1, L1.drop ((mx - k) * tw) = R1 := ⟨_, rfl⟩
  rw [hR1] at HF2
  rw [hX, hL1, hR1]
  generalize vvals (vval d) (twidth d) (List.replicate (mx - k) e) L1 = X2 at HF2
  have hsub : (mx : Int) - (k : Int) = ((mx - k : Nat) : Int) := by omega
  have HSB := Lib.hid hsub
  have hqc : nq' + 1 ≤ qq := hrc
  have hk0 : Below v.heap.size v v.drew := (Below.refl _ _).drew
  clear h hok IH HRE0 hE0 hl hr hRV hX hL1 hR1 hl1 hmul hlen hlenL hm0 hk hW hVv he htw hmx hvv hbx hwv hvs hat hTL hx0 k5 k6 hrl hrc hrt hoe hcap htop hm1 hm4 hsub
  go_enter Tryz.func35, Tryz.ntmps35
  go_wp2_with fail
  rw [HVV.out]
  refine wp_region_held_drew (S := fun W => W.cell? ⟨gq, oq, none⟩ = some (.int .i64 x) ∧ Below v.heap.size v W) (by kernel_rfl) ⟨hcv, hk0⟩ (fun hHeld => ?_)
  refine tkH (i := 0) (oi := ⟨some 21, _, _, _, _, _⟩) (v := ?_) ?_ ?_
  rotate_left
  · intro w hSw; go_simp; try with_reducible rfl
  try simp only [Act.put, List.setIfInBounds_toArray, List.set_cons_zero, List.set_cons_succ]
  refine tkH (i := 1) (oi := ⟨some 22, _, _, _, _, _⟩) (v := ?_) ?_ ?_
  rotate_left
  · intro w hSw; go_simp; try with_reducible rfl
  try simp only [Act.put, List.setIfInBounds_toArray, List.set_cons_zero, List.set_cons_succ]
  refine tkH (i := 2) (oi := ⟨some 23, _, _, _, _, _⟩) (v := ?_) ?_ ?_
  rotate_left
  · intro w hSw
    obtain ⟨⟨p0, p1, p2, p3, p4⟩, _⟩ := HBX.out w hSw.2
    obtain hq0 := hSw.1
    go_simp
    try with_reducible rfl
  try simp only [Act.put, List.setIfInBounds_toArray, List.set_cons_zero, List.set_cons_succ]
  refine tkH (i := 3) (oi := ⟨some 24, _, _, _, _, _⟩) (v := .int .i64 m0) ?_ ?_
  · intro w hSw
    by_cases hx : 0 < x
    · rw [HM0.out.1 (by omega)]; have hxd : decide (0 < x) = true := by simpa using hx
      go_simp
    · rw [HM0.out.2 (by omega)]; have hxd : decide (0 < x) = false := by simpa using Int.not_lt.mp hx
      go_simp
  try simp only [Act.put, List.setIfInBounds_toArray, List.set_cons_zero, List.set_cons_succ]
  refine tkH (i := 4) (oi := ⟨some 25, _, _, _, _, _⟩) (v := ?_) ?_ ?_
  rotate_left
  · intro w hSw; go_simp; try with_reducible rfl
  try simp only [Act.put, List.setIfInBounds_toArray, List.set_cons_zero, List.set_cons_succ]
  refine tkH (i := 5) (oi := ⟨some 26, _, _, _, _, _⟩) (v := ?_) ?_ ?_
  rotate_left
  · intro w hSw
    obtain ⟨⟨p0, p1, p2, p3, p4⟩, _⟩ := HBX.out w hSw.2
    obtain hq0 := hSw.1
    go_simp
    try with_reducible rfl
  try simp only [Act.put, List.setIfInBounds_toArray, List.set_cons_zero, List.set_cons_succ]
  refine tkH (i := 6) (oi := ⟨some 27, _, _, _, _, _⟩) (v := .int .i64 k) ?_ ?_
  · intro w hSw
    by_cases hx : (mx : Int) < m0
    · rw [HK0.out.1 (by omega)]; have hxd : decide ((mx : Int) < m0) = true := by simpa using hx
      go_simp
    · rw [HK0.out.2 (by omega)]; have hxd : decide ((mx : Int) < m0) = false := by simpa using Int.not_lt.mp hx
      go_simp
  try simp only [Act.put, List.setIfInBounds_toArray, List.set_cons_zero, List.set_cons_succ]
  refine tkH (i := 7) (oi := ⟨some 6, _, _, _, _, _⟩) (v := ?_) ?_ ?_
  rotate_left
  · intro w hSw; go_simp; try with_reducible rfl
  try simp only [Act.put, List.setIfInBounds_toArray, List.set_cons_zero, List.set_cons_succ]
  refine wpAnyH_done (by kernel_rfl) ?_ _
  go_wp2_with fail
  go_cut [7, 8] (fun u7 u8 wx => ∃ (b : Nat) (B2 : Option Addr) (m2 q2 : Nat) (Q2 : Option Addr) (n2 k2 : Nat), u7 = .pointer (some ⟨b, 0, none⟩) ∧ u8 = .slice Q2 n2 k2 ∧ Hid (v.heap.size ≤ b ∧ Box2 wx b (.int .i64 0) (.slice B2 m2 q2) ∧ VlRd (fun b => v.heap.size ≤ b) wx (d + 1) (.mk 0 X) B2 m2 q2 ∧ IntRd bd wx Q2 n2 k2 L1 ∧ Below v.heap.size v wx))
  case first =>
    replace hk0 : Below v.heap.size v v.drew.drew := ((Below.refl _ _).drew).drew
    clear hcv HM0 HK0 HF2 HP2 HSB X2
    refine wp_region_held_drew (S := Below v.heap.size v) (by kernel_rfl) hk0 (fun hHeld => ?_)
    obtain ⟨w0, hw0⟩ : ∃ w0, w0 = v.drew.drew := ⟨_, rfl⟩
    rw [← hw0] at hk0 hHeld ⊢
    clear hw0
    refine tkH (i := 0) (oi := ⟨some 29, _, _, _, _, _⟩) (v := ?_) ?_ ?_
    rotate_left
    · intro w hSw; go_simp; try with_reducible rfl
    try simp only [Act.put, List.setIfInBounds_toArray, List.set_cons_zero, List.set_cons_succ]
    refine tkH (i := 1) (oi := ⟨some 30, _, _, _, _, _⟩) (v := ?_) ?_ ?_
    rotate_left
    · intro w hSw
      obtain ⟨⟨p0, p1, p2, p3, p4⟩, _⟩ := HBX.out w hSw
      go_simp
      try with_reducible rfl
    try simp only [Act.put, List.setIfInBounds_toArray, List.set_cons_zero, List.set_cons_succ]
    refine tkH (i := 2) (oi := ⟨some 31, _, _, _, _, _⟩) (v := ?_) ?_ ?_
    rotate_left
    · intro w hSw; go_simp; try with_reducible rfl
    try simp only [Act.put, List.setIfInBounds_toArray, List.set_cons_zero, List.set_cons_succ]
    refine tkH (i := 4) (oi := ⟨some 33, _, _, _, _, _⟩) (v := ?_) ?_ ?_
    rotate_left
    · intro w hSw; go_simp; try with_reducible rfl
    try simp only [Act.put, List.setIfInBounds_toArray, List.set_cons_zero, List.set_cons_succ]
    refine tkH (i := 5) (oi := ⟨some 34, _, _, _, _, _⟩) (v := .slice (tailAt (some ⟨gq, oq, none⟩) qq) nq' (qq - 1 : Nat)) ?_ ?_
    · intro w hSw
      by_cases hq1 : qq = 1
      · subst hq1
        obtain rfl : nq' = 0 := by omega
        go_simp
        try (simp [tailAt])
      · have h1q : (1 : Int) ≤ (nq' : Int) + 1 := by omega
        simp only [tailAt, if_neg hq1]
        go_simp
    try simp only [Act.put, List.setIfInBounds_toArray, List.set_cons_zero, List.set_cons_succ]
    refine wpAnyH_ready (rs := [3, 10]) (by kernel_rfl) (by simp) ?_
    refine AllReadyH.cons (o := ⟨some 32, _, _, _, _, _⟩) rfl (fun K hK => ?_) (AllReadyH.cons (o := ⟨some 7, _, _, _, _, _⟩) rfl (fun K hK => ?_) AllReadyH.nil)
    · go_simp
      go_at_call 51
      (with_reducible refine (HP1.out _ hk0).mono ?_)
      rintro e1 w1 ⟨B1, q1, rfl, hrep, hb1⟩
      have hks := hk0.size
      have hns := hb1.size
      replace hk0 := nextB hk0 hb1
      clear hb1 hks hns
      go_wp2_with fail
      refine hK.out _ _ hk0 (fun hHeld => ?_)
      clear hK K
      try simp only [Act.put, List.setIfInBounds_toArray, List.set_cons_zero, List.set_cons_succ]
      refine wpAnyH_ready (rs := [6, 10]) (by kernel_rfl) (by simp) ?_
      refine AllReadyH.cons (o := ⟨some 35, _, _, _, _, _⟩) rfl (fun K hK => ?_) (AllReadyH.cons (o := ⟨some 7, _, _, _, _, _⟩) rfl (fun K hK => ?_) AllReadyH.nil)
      · go_simp
        go_at_call 50
        (with_reducible refine (HF1.out _ _ _ _ _ _ _ hrep (Nat.le_trans hbv hk0.size) (HTL.out _ hk0)).mono ?_)
        rintro e2 w2 ⟨B2, m2, q2, Q2, n2, k2, rfl, hV2, hR2, hb2⟩
        have hkE0 := hk0.size
        have hns := hb2.size
        replace hk0 := nextB hk0 hb2
        clear hb2 hns hrep
        go_wp2_with fail
        refine hK.out _ _ hk0 (fun hHeld => ?_)
        clear hK K
        try simp only [Act.put, List.setIfInBounds_toArray, List.set_cons_zero, List.set_cons_succ]
        refine tkH (i := 7) (oi := ⟨some 28, _, _, _, _, _⟩) (v := ?_) ?_ ?_
        rotate_left
        · intro w hSw; go_simp; try with_reducible rfl
        try simp only [Act.put, List.setIfInBounds_toArray, List.set_cons_zero, List.set_cons_succ]
        refine tkH (i := 8) (oi := ⟨some 36, _, _, _, _, _⟩) (v := ?_) ?_ ?_
        rotate_left
        · intro w hSw; go_simp; try with_reducible rfl
        try simp only [Act.put, List.setIfInBounds_toArray, List.set_cons_zero, List.set_cons_succ]
        refine tkH (i := 9) (oi := ⟨some 37, _, _, _, _, _⟩) (v := ?_) ?_ ?_
        rotate_left
        · intro w hSw; go_simp; try with_reducible rfl
        try simp only [Act.put, List.setIfInBounds_toArray, List.set_cons_zero, List.set_cons_succ]
        refine wpAnyH_ready (rs := [10]) (by kernel_rfl) (by simp) ?_
        refine AllReadyH.cons (o := ⟨some 7, _, _, _, _, _⟩) rfl (fun K hK => ?_) AllReadyH.nil
        go_simp
        obtain ⟨wn, hwn⟩ : ∃ wn, w2.alloc (.cells #[.int .i64 0, .slice none 0 0] 27) = wn := ⟨_, rfl⟩
        have hbn : Below w2.heap.size w2 wn := hwn ▸ allocB _ _
        have hxb : Box2 wn w2.heap.size (.int .i64 0) (.slice none 0 0) := hwn ▸ box2_new _ _ _ _
        have hsn : wn.heap.size = w2.heap.size + 1 := by rw [← hwn]; simp
        rw [hwn]
        have hks := hk0.size
        obtain ⟨pb, hpe⟩ : ∃ pb, w2.heap.size = pb := ⟨_, rfl⟩
        have HVS : Hid (∀ y0 y1, VlRd (fun b => v.heap.size ≤ b) ((wn.setCell ⟨pb, 0, none⟩ y0).setCell ⟨pb, 1, none⟩ y1) (d + 1) (.mk 0 X) B2 m2 q2) := fun y0 y1 => (hV2.below (((hbn.setCell (p := ⟨pb, 0, none⟩) (by simp [hpe]) y0).setCell (p := ⟨pb, 1, none⟩) (by simp [hpe]) y1))).in fun b hb => by omega
        have HR2 := Lib.hid (hR2.below hbn (by omega))
        clear hV2 hR2
        replace hk0 := nextB hk0 hbn
        rw [hpe] at hxb hsn hks ⊢
        have hpb : pb < wn.heap.size := by omega
        have hpv : v.heap.size ≤ pb := by omega
        clear hwn hbn hsn hks hpe
        refine hK.out _ _ hk0 (fun hHeld => ?_)
        clear hK K
        try simp only [Act.put, List.setIfInBounds_toArray, List.set_cons_zero, List.set_cons_succ]
        refine wpAnyH_ready (rs := [11]) (by kernel_rfl) (by simp) ?_
        refine AllReadyH.cons (o := ⟨none, _, _, _, _, _⟩) rfl (fun K hK => ?_) AllReadyH.nil
        obtain ⟨b0, b1, bf0, bf1⟩ := id hxb
        go_simp
        have hkE := (hk0.setCell (p := ⟨pb, 0, none⟩) hpv (.int .i64 0)).setCell (p := ⟨pb, 1, none⟩) hpv (.slice B2 m2 q2)
        refine hK.out _ _ hkE (fun hHeld => ?_)
        clear hK K b0 b1 bf0 bf1
        try simp only [Act.put, List.setIfInBounds_toArray, List.set_cons_zero, List.set_cons_succ]
        refine tkH (i := 12) (oi := ⟨some 8, _, _, _, _, _⟩) (v := ?_) ?_ ?_
        rotate_left
        · intro w hSw; go_simp; try with_reducible rfl
        try simp only [Act.put, List.setIfInBounds_toArray, List.set_cons_zero, List.set_cons_succ]
        refine wpAnyH_done (by kernel_rfl) ?_ _
        go_wp2_with fail
        go_meet
        exact ⟨pb, B2, m2, q2, Q2, n2, k2, rfl, rfl, ⟨hpv, (hxb.set0 _).set1 _, HVS.out _ _, HR2.out.below (((Below.refl v.heap.size _).setCell (p := ⟨pb, 0, none⟩) hpv _).setCell (p := ⟨pb, 1, none⟩) hpv _) hbv, hkE⟩⟩

      · go_simp
        obtain ⟨wn, hwn⟩ : ∃ wn, w1.alloc (.cells #[.int .i64 0, .slice none 0 0] 27) = wn := ⟨_, rfl⟩
        have hbn : Below w1.heap.size w1 wn := hwn ▸ allocB _ _
        have hxb : Box2 wn w1.heap.size (.int .i64 0) (.slice none 0 0) := hwn ▸ box2_new _ _ _ _
        have hsn : wn.heap.size = w1.heap.size + 1 := by rw [← hwn]; simp
        rw [hwn]
        have hks := hk0.size
        obtain ⟨pb, hpe⟩ : ∃ pb, w1.heap.size = pb := ⟨_, rfl⟩
        replace hrep := hrep.below hbn
        replace hk0 := nextB hk0 hbn
        rw [hpe] at hxb hsn hks ⊢
        have hpb : pb < wn.heap.size := by omega
        have hpv : v.heap.size ≤ pb := by omega
        clear hwn hbn hsn hks hpe
        refine hK.out _ _ hk0 (fun hHeld => ?_)
        clear hK K
        try simp only [Act.put, List.setIfInBounds_toArray, List.set_cons_zero, List.set_cons_succ]
        refine wpAnyH_ready (rs := [6]) (by kernel_rfl) (by simp) ?_
        refine AllReadyH.cons (o := ⟨some 35, _, _, _, _, _⟩) rfl (fun K hK => ?_) AllReadyH.nil
        go_simp
        go_at_call 50
        (with_reducible refine (HF1.out _ _ _ _ _ _ _ hrep (Nat.le_trans hbv hk0.size) (HTL.out _ hk0)).mono ?_)
        rintro e2 w2 ⟨B2, m2, q2, Q2, n2, k2, rfl, hV2, hR2, hb2⟩
        have hkE0 := hk0.size
        have hns := hb2.size
        replace hk0 := nextB hk0 hb2
        replace hxb := hxb.below hb2 (by omega)
        have HVS : Hid (∀ y0 y1, VlRd (fun b => v.heap.size ≤ b) ((w2.setCell ⟨pb, 0, none⟩ y0).setCell ⟨pb, 1, none⟩ y1) (d + 1) (.mk 0 X) B2 m2 q2) := fun y0 y1 => ((hV2.set (fun z hz => by omega)).set (fun z hz => by omega)).in fun b hb => by omega
        replace hpb := Nat.lt_of_lt_of_le hpb hns
        have HR2 := Lib.hid hR2
        clear hV2 hR2
        clear hb2 hns hrep
        go_wp2_with fail
        refine hK.out _ _ hk0 (fun hHeld => ?_)
        clear hK K
        try simp only [Act.put, List.setIfInBounds_toArray, List.set_cons_zero, List.set_cons_succ]
        refine tkH (i := 7) (oi := ⟨some 28, _, _, _, _, _⟩) (v := ?_) ?_ ?_
        rotate_left
        · intro w hSw; go_simp; try with_reducible rfl
        try simp only [Act.put, List.setIfInBounds_toArray, List.set_cons_zero, List.set_cons_succ]
        refine tkH (i := 8) (oi := ⟨some 36, _, _, _, _, _⟩) (v := ?_) ?_ ?_
        rotate_left
        · intro w hSw; go_simp; try with_reducible rfl
        try simp only [Act.put, List.setIfInBounds_toArray, List.set_cons_zero, List.set_cons_succ]
        refine tkH (i := 9) (oi := ⟨some 37, _, _, _, _, _⟩) (v := ?_) ?_ ?_
        rotate_left
        · intro w hSw; go_simp; try with_reducible rfl
        try simp only [Act.put, List.setIfInBounds_toArray, List.set_cons_zero, List.set_cons_succ]
        refine wpAnyH_ready (rs := [11]) (by kernel_rfl) (by simp) ?_
        refine AllReadyH.cons (o := ⟨none, _, _, _, _, _⟩) rfl (fun K hK => ?_) AllReadyH.nil
        obtain ⟨b0, b1, bf0, bf1⟩ := id hxb
        go_simp
        have hkE := (hk0.setCell (p := ⟨pb, 0, none⟩) hpv (.int .i64 0)).setCell (p := ⟨pb, 1, none⟩) hpv (.slice B2 m2 q2)
        refine hK.out _ _ hkE (fun hHeld => ?_)
        clear hK K b0 b1 bf0 bf1
        try simp only [Act.put, List.setIfInBounds_toArray, List.set_cons_zero, List.set_cons_succ]
        refine tkH (i := 12) (oi := ⟨some 8, _, _, _, _, _⟩) (v := ?_) ?_ ?_
        rotate_left
        · intro w hSw; go_simp; try with_reducible rfl
        try simp only [Act.put, List.setIfInBounds_toArray, List.set_cons_zero, List.set_cons_succ]
        refine wpAnyH_done (by kernel_rfl) ?_ _
        go_wp2_with fail
        go_meet
        exact ⟨pb, B2, m2, q2, Q2, n2, k2, rfl, rfl, ⟨hpv, (hxb.set0 _).set1 _, HVS.out _ _, HR2.out.below (((Below.refl v.heap.size _).setCell (p := ⟨pb, 0, none⟩) hpv _).setCell (p := ⟨pb, 1, none⟩) hpv _) hbv, hkE⟩⟩

    · go_simp
      obtain ⟨wn, hwn⟩ : ∃ wn, w0.alloc (.cells #[.int .i64 0, .slice none 0 0] 27) = wn := ⟨_, rfl⟩
      have hbn : Below w0.heap.size w0 wn := hwn ▸ allocB _ _
      have hxb : Box2 wn w0.heap.size (.int .i64 0) (.slice none 0 0) := hwn ▸ box2_new _ _ _ _
      have hsn : wn.heap.size = w0.heap.size + 1 := by rw [← hwn]; simp
      rw [hwn]
      have hks := hk0.size
      obtain ⟨pb, hpe⟩ : ∃ pb, w0.heap.size = pb := ⟨_, rfl⟩
      replace hk0 := nextB hk0 hbn
      rw [hpe] at hxb hsn hks ⊢
      have hpb : pb < wn.heap.size := by omega
      have hpv : v.heap.size ≤ pb := by omega
      clear hwn hbn hsn hks hpe
      refine hK.out _ _ hk0 (fun hHeld => ?_)
      clear hK K
      try simp only [Act.put, List.setIfInBounds_toArray, List.set_cons_zero, List.set_cons_succ]
      refine wpAnyH_ready (rs := [3]) (by kernel_rfl) (by simp) ?_
      refine AllReadyH.cons (o := ⟨some 32, _, _, _, _, _⟩) rfl (fun K hK => ?_) AllReadyH.nil
      go_simp
      go_at_call 51
      (with_reducible refine (HP1.out _ hk0).mono ?_)
      rintro e1 w1 ⟨B1, q1, rfl, hrep, hb1⟩
      have hks := hk0.size
      have hns := hb1.size
      replace hk0 := nextB hk0 hb1
      replace hxb := hxb.below hb1 (by omega)
      replace hpb := Nat.lt_of_lt_of_le hpb hns
      clear hb1 hks hns
      go_wp2_with fail
      refine hK.out _ _ hk0 (fun hHeld => ?_)
      clear hK K
      try simp only [Act.put, List.setIfInBounds_toArray, List.set_cons_zero, List.set_cons_succ]
      refine wpAnyH_ready (rs := [6]) (by kernel_rfl) (by simp) ?_
      refine AllReadyH.cons (o := ⟨some 35, _, _, _, _, _⟩) rfl (fun K hK => ?_) AllReadyH.nil
      go_simp
      go_at_call 50
      (with_reducible refine (HF1.out _ _ _ _ _ _ _ hrep (Nat.le_trans hbv hk0.size) (HTL.out _ hk0)).mono ?_)
      rintro e2 w2 ⟨B2, m2, q2, Q2, n2, k2, rfl, hV2, hR2, hb2⟩
      have hkE0 := hk0.size
      have hns := hb2.size
      replace hk0 := nextB hk0 hb2
      replace hxb := hxb.below hb2 (by omega)
      have HVS : Hid (∀ y0 y1, VlRd (fun b => v.heap.size ≤ b) ((w2.setCell ⟨pb, 0, none⟩ y0).setCell ⟨pb, 1, none⟩ y1) (d + 1) (.mk 0 X) B2 m2 q2) := fun y0 y1 => ((hV2.set (fun z hz => by omega)).set (fun z hz => by omega)).in fun b hb => by omega
      replace hpb := Nat.lt_of_lt_of_le hpb hns
      have HR2 := Lib.hid hR2
      clear hV2 hR2
      clear hb2 hns hrep
      go_wp2_with fail
      refine hK.out _ _ hk0 (fun hHeld => ?_)
      clear hK K
      try simp only [Act.put, List.setIfInBounds_toArray, List.set_cons_zero, List.set_cons_succ]
      refine tkH (i := 7) (oi := ⟨some 28, _, _, _, _, _⟩) (v := ?_) ?_ ?_
      rotate_left
      · intro w hSw; go_simp; try with_reducible rfl
      try simp only [Act.put, List.setIfInBounds_toArray, List.set_cons_zero, List.set_cons_succ]
      refine tkH (i := 8) (oi := ⟨some 36, _, _, _, _, _⟩) (v := ?_) ?_ ?_
      rotate_left
      · intro w hSw; go_simp; try with_reducible rfl
      try simp only [Act.put, List.setIfInBounds_toArray, List.set_cons_zero, List.set_cons_succ]
      refine tkH (i := 9) (oi := ⟨some 37, _, _, _, _, _⟩) (v := ?_) ?_ ?_
      rotate_left
      · intro w hSw; go_simp; try with_reducible rfl
      try simp only [Act.put, List.setIfInBounds_toArray, List.set_cons_zero, List.set_cons_succ]
      refine wpAnyH_ready (rs := [11]) (by kernel_rfl) (by simp) ?_
      refine AllReadyH.cons (o := ⟨none, _, _, _, _, _⟩) rfl (fun K hK => ?_) AllReadyH.nil
      obtain ⟨b0, b1, bf0, bf1⟩ := id hxb
      go_simp
      have hkE := (hk0.setCell (p := ⟨pb, 0, none⟩) hpv (.int .i64 0)).setCell (p := ⟨pb, 1, none⟩) hpv (.slice B2 m2 q2)
      refine hK.out _ _ hkE (fun hHeld => ?_)
      clear hK K b0 b1 bf0 bf1
      try simp only [Act.put, List.setIfInBounds_toArray, List.set_cons_zero, List.set_cons_succ]
      refine tkH (i := 12) (oi := ⟨some 8, _, _, _, _, _⟩) (v := ?_) ?_ ?_
      rotate_left
      · intro w hSw; go_simp; try with_reducible rfl
      try simp only [Act.put, List.setIfInBounds_toArray, List.set_cons_zero, List.set_cons_succ]
      refine wpAnyH_done (by kernel_rfl) ?_ _
      go_wp2_with fail
      go_meet
      exact ⟨pb, B2, m2, q2, Q2, n2, k2, rfl, rfl, ⟨hpv, (hxb.set0 _).set1 _, HVS.out _ _, HR2.out.below (((Below.refl v.heap.size _).setCell (p := ⟨pb, 0, none⟩) hpv _).setCell (p := ⟨pb, 1, none⟩) hpv _) hbv, hkE⟩⟩

  case rest =>
    obtain ⟨b, B2, m2, q2, Q2, n2, k2, rfl, rfl, hcutH⟩ := hcut
    obtain ⟨hvb, hbox, hV, hR, hk1⟩ := hcutH.out
    clear hcutH
    obtain ⟨⟨p0, p1, p2, p3, p4⟩, _⟩ := HBX.out wc hk1
    have hbl : b < wc.heap.size := World.block_lt_of_cell? wc _ hbox.1
    have HV := Lib.hid hV
    have HR := Lib.hid hR
    have HBOX := Lib.hid hbox
    clear hV hR hbox
    go_wp2_with fail
    rw [HSB.out]
    refine (HP2.out _ hk1).mono ?_
    rintro e3 w3 ⟨B3, q3, rfl, hrep, hb3⟩
    have hk3 := nextB hk1 hb3
    have hs1 := hk1.size
    have hs3 := hb3.size
    go_wp2_with fail
    refine (HF2.out _ _ _ _ _ _ _ hrep (Nat.le_trans hbv hk3.size) (HR.out.below hb3 (Nat.le_trans hbv hk1.size))).mono ?_
    rintro e4 w4 ⟨B4, m4, q4, Q4, n4, k4, rfl, hV4, hR4, hb4⟩
    have hk4 := nextB hk3 hb4
    have hs4 := hb4.size
    obtain ⟨b0, b1, _, _⟩ := (HBOX.out.below hb3 hbl).below hb4 (by omega)
    obtain ⟨_, r0, r1, f0, f1⟩ := HBX.out w4 hk4
    have HV5 : Hid (∀ y0 y1, VlRd (fun b => w.heap.size ≤ b) ((w4.setCell ⟨w.heap.size + 1, 0, none⟩ y0).setCell ⟨w.heap.size + 1, 1, none⟩ y1) (d + 1) (.mk 0 X) B2 m2 q2) := fun y0 y1 => ((((HV.out.below hb3).below hb4).set (fun z hz => by have := HVS.out; omega)).set (fun z hz => by have := HVS.out; omega)).in fun b hb => by have := HVS.out; omega
    have HB5 : Hid (∀ y0 y1, Below (w.heap.size + 1) w4 ((w4.setCell ⟨w.heap.size + 1, 0, none⟩ y0).setCell ⟨w.heap.size + 1, 1, none⟩ y1)) := fun y0 y1 => ((Below.refl (w.heap.size + 1) w4).setCell (p := ⟨w.heap.size + 1, 0, none⟩) (Nat.le_refl _) y0).setCell (p := ⟨w.heap.size + 1, 1, none⟩) (Nat.le_refl _) y1
    have HR4 := Lib.hid hR4
    have HWB := Lib.hid (nextB HWV.out hk4)
    clear hV4 hR4 hb4 hb3 hrep p0 p1 p2 p3 p4 HBX hk4 hk3
    go_wp2
    exact bodyPost_ret (v := .tuple #[vlV (.mk 0 X) B2 m2 q2, .slice Q4 n4 k4]) (by simp [results, Tryz.results35, go_sem, r0, r1, Vl.i]) rfl ⟨B2, m2, q2, Q4, n4, k4, rfl, HV5.out _ _, HR4.out.below (HB5.out _ _) (by omega), HWB.out.trans ((HB5.out _ _).mono (by omega))⟩
end Go.Proofs.YtklndjkblfncjaaGreatDoor

namespace Go.Proofs.YtklndjkblfncjaaGreatDoor
open Go Go.RowKit
set_option maxRecDepth 20000

set_option maxHeartbeats 16000000 in
theorem read_x : ∀ d, ReadAt d
  | 0, _, _, _, _, _, _, _, _, _, _, _, h, _, _, _, _ => h.elim
  | d + 1, bd, S, T, A, n, c, Q, nq, qq, L, w, h, hok, hbd, hr, hlen => by
    have IH := read_x d
    obtain ⟨hl, hcap, htop⟩ := h.len
    unfold maxLen at htop
    have hrl := hr.len
    have hrc := hr.cap
    have hrt := hr.top
    obtain ⟨v, hvv⟩ : ∃ v, (w.alloc (.cells #[.int .i64 T.k, .int .i64 T.lo, .int .i64 T.hi, .int .i64 T.mx, .slice A n c] 24)).alloc (.cells #[.int .i64 0, .slice none 0 0] 27) = v := ⟨_, rfl⟩
    obtain ⟨hvs, hwv, hbx⟩ := boxes_tv w _ _ _ _ _ _ _ _ _ v hvv
    have HBX := Lib.hid hbx
    have HVV := Lib.hid hvv
    have HWV := Lib.hid hwv
    have HVS := Lib.hid hvs
    have HRV := Lib.hid (hr.below hwv hbd)
    clear hvv hbx hvs
    by_cases k5 : T.k = 5
    · have b5 : (T.k == 5) = true := by simpa using k5
      obtain ⟨hz, hn2, hn4, hels⟩ := hok.tuple k5
      have hW : twidth (d + 1) T = (T.es.map (twidth d)).sum := by simp only [twidth, if_pos k5]
      have hVv : vval (d + 1) T L = .mk 0 (vvals (vval d) (twidth d) T.es L) := by simp only [vval, if_pos k5]
      have hF := readEls_x d IH bd S T.es A n c Q nq qq L v (h.below hwv) (fun e he => (hels e he).1) (by rw [← hl]; omega) (Nat.le_trans hbd hwv.size) HRV.out (by rw [← hW]; exact hlen)
      rw [← hW, ← hVv] at hF
      have HF := Lib.hid hF
      clear h hok IH hels hz k5 hl hwv hr hlen hW hVv hF hn2 hn4 hrl hrc hrt
      generalize vval (d + 1) T L = X at *
      generalize L.drop (twidth (d + 1) T) = Y at *
      go_enter Tryz.func35, Tryz.ntmps35
      go_wp2_with fail
      rw [HVV.out]
      refine HF.out.mono ?_
      rintro e1 w1 ⟨B, m, q, Q1, n1, k1, rfl, hV, hR, hb⟩
      obtain ⟨_, r0, r1, f0, f1⟩ := HBX.out w1 hb
      have HRD : Hid (∀ y0 y1, VlRd (fun b => w.heap.size ≤ b) ((w1.setCell ⟨w.heap.size + 1, 0, none⟩ y0).setCell ⟨w.heap.size + 1, 1, none⟩ y1) (d + 1) X B m q) := fun y0 y1 => ((hV.set (fun z hz => by have := HVS.out; omega)).set (fun z hz => by have := HVS.out; omega)).in fun b hb => by have := HVS.out; omega
      have HB5 : Hid (∀ y0 y1, Below (w.heap.size + 1) w1 ((w1.setCell ⟨w.heap.size + 1, 0, none⟩ y0).setCell ⟨w.heap.size + 1, 1, none⟩ y1)) := fun y0 y1 => ((Below.refl (w.heap.size + 1) w1).setCell (p := ⟨w.heap.size + 1, 0, none⟩) (Nat.le_refl _) y0).setCell (p := ⟨w.heap.size + 1, 1, none⟩) (Nat.le_refl _) y1
      have HWB := Lib.hid (nextB HWV.out hb)
      have HRR := Lib.hid hR
      clear hV hb HF HBX hR
      go_wp2
      exact bodyPost_ret (v := .tuple #[vlV X B m q, .slice Q1 n1 k1]) (by simp [results, Tryz.results35, go_sem, r0, r1]) rfl ⟨B, m, q, Q1, n1, k1, rfl, HRD.out _ _, HRR.out.below (HB5.out _ _) (by omega), HWB.out.trans ((HB5.out _ _).mono (by omega))⟩
    · have b5 : (T.k == 5) = false := by simpa using k5
      by_cases k6 : T.k = 6
      · exact readList_x d IH bd S T A n c Q nq qq L w h hok hbd hr hlen k6
      · have b6 : (T.k == 6) = false := by simpa using k6
        have hW : twidth (d + 1) T = 1 := by simp only [twidth, if_neg k5, if_neg k6]
        have hVv : vval (d + 1) T L = .mk (L.headD 0) [] := by simp only [vval, if_neg k5, if_neg k6]
        rw [hW] at hlen ⊢
        rw [hVv]
        cases L with
        | nil => simp at hlen
        | cons x L =>
        obtain ⟨nq', rfl⟩ : ∃ k, nq = k + 1 := ⟨nq - 1, by simp at hrl; omega⟩
        obtain ⟨gq, oq, rfl, hgq, hat⟩ := HRV.out.at_ (by omega)
        have hx0 := hat 0 x rfl
        have HTL := Lib.hid HRV.out.tail
        have hgw : gq < w.heap.size := by omega
        have hcv : v.drew.cell? ⟨gq, oq, none⟩ = some (.int .i64 x) := hx0
        have hcs : ((v.drew.setCell ⟨w.heap.size + 1, 0, none⟩ (.int .i64 x)).setCell ⟨w.heap.size + 1, 1, none⟩ (.slice none 0 0)).cell? ⟨gq, oq, none⟩ = some (.int .i64 x) := by
          rw [cell_far _ _ _ _ (by show w.heap.size + 1 ≠ gq; omega), cell_far _ _ _ _ (by show w.heap.size + 1 ≠ gq; omega)]; exact hcv
        have HFB : Hid (Below (w.heap.size + 1) v ((v.drew.setCell ⟨w.heap.size + 1, 0, none⟩ (.int .i64 x)).setCell ⟨w.heap.size + 1, 1, none⟩ (.slice none 0 0))) := (((Below.refl (w.heap.size + 1) v).drew).setCell (p := ⟨w.heap.size + 1, 0, none⟩) (Nat.le_refl _) _).setCell (p := ⟨w.heap.size + 1, 1, none⟩) (Nat.le_refl _) _
        obtain ⟨_, r0, r1, f0, f1⟩ := HBX.out v (Below.refl _ _)
        show Calls _ _ _ _ (GivesRead bd (d + 1) (.mk x []) L w)
        clear h hok IH k5 k6 hl hwv hr hlen hW hVv hat hx0 hrl HBX
        by_cases hq1 : qq = 1
        · subst hq1
          have hn0 : nq' = 0 := by omega
          subst hn0
          have HTL2 : Hid (IntRd bd v (some ⟨gq, oq, none⟩) 0 0 L) := HTL.out
          replace HTL := HTL2
          clear HTL2
          go_enter Tryz.func35, Tryz.ntmps35
          go_wp2_with fail
          rw [HVV.out]
          refine wp_region_held_drew (S := fun W => W.cell? ⟨gq, oq, none⟩ = some (.int .i64 x)) (by kernel_rfl) hcv (fun hHeld => ?_)
          refine tkH (i := 0) (oi := ⟨some 52, _, _, _, _, _⟩) (v := ?_) ?_ ?_
          rotate_left
          · intro w hSw; go_simp; try with_reducible rfl
          try simp only [Act.put, List.setIfInBounds_toArray, List.set_cons_zero, List.set_cons_succ]
          refine tkH (i := 1) (oi := ⟨some 53, _, _, _, _, _⟩) (v := ?_) ?_ ?_
          rotate_left
          · intro w hSw; go_simp; try with_reducible rfl
          try simp only [Act.put, List.setIfInBounds_toArray, List.set_cons_zero, List.set_cons_succ]
          refine tkH (i := 2) (oi := ⟨some 54, _, _, _, _, _⟩) (v := ?_) ?_ ?_
          rotate_left
          · intro w hSw; go_simp; try with_reducible rfl
          try simp only [Act.put, List.setIfInBounds_toArray, List.set_cons_zero, List.set_cons_succ]
          refine tkH (i := 3) (oi := ⟨some 55, _, _, _, _, _⟩) (v := ?_) ?_ ?_
          rotate_left
          · intro w hSw; go_simp; try with_reducible rfl
          try simp only [Act.put, List.setIfInBounds_toArray, List.set_cons_zero, List.set_cons_succ]
          refine tkH (i := 4) (oi := ⟨some 56, _, _, _, _, _⟩) (v := ?_) ?_ ?_
          rotate_left
          · intro w hSw; go_simp; try with_reducible rfl
          try simp only [Act.put, List.setIfInBounds_toArray, List.set_cons_zero, List.set_cons_succ]
          refine tkH (i := 5) (oi := ⟨some 57, _, _, _, _, _⟩) (v := ?_) ?_ ?_
          rotate_left
          · intro w hSw; go_simp; try with_reducible rfl
          try simp only [Act.put, List.setIfInBounds_toArray, List.set_cons_zero, List.set_cons_succ]
          refine wpAnyH_ready (rs := [6]) (by kernel_rfl) (by simp) ?_
          refine AllReadyH.cons (o := ⟨none, _, _, _, _, _⟩) rfl (fun K hK => ?_) AllReadyH.nil
          go_simp
          refine hK.out _ _ hcs (fun hHeld => ?_)
          clear hK K
          try simp only [Act.put, List.setIfInBounds_toArray, List.set_cons_zero, List.set_cons_succ]
          refine tkH (i := 7) (oi := ⟨some 5, _, _, _, _, _⟩) (v := ?_) ?_ ?_
          rotate_left
          · intro w hSw; go_simp; try with_reducible rfl
          try simp only [Act.put, List.setIfInBounds_toArray, List.set_cons_zero, List.set_cons_succ]
          refine wpAnyH_done (by kernel_rfl) ?_ _
          go_wp2
          exact bodyPost_ret (v := .tuple #[vlV (.mk x []) none 0 0, .slice (some ⟨gq, oq, none⟩) 0 0]) (by simp [results, Tryz.results35, go_sem, r0, r1, Vl.i]) rfl ⟨none, 0, 0, some ⟨gq, oq, none⟩, 0, 0, rfl, VlRd.nil _ _ rfl, HTL.out.below HFB.out (by omega), HWV.out.trans (HFB.out.mono (by omega))⟩

        · have HTL2 : Hid (IntRd bd v (some ⟨gq, oq + 1, none⟩) nq' (qq - 1) L) := by
            have h := HTL.out
            simp only [tailAt, if_neg hq1] at h
            exact h
          have h1q : (1 : Int) ≤ (nq' : Int) + 1 := by omega
          replace HTL := HTL2
          clear HTL2
          go_enter Tryz.func35, Tryz.ntmps35
          go_wp2_with fail
          rw [HVV.out]
          refine wp_region_held_drew (S := fun W => W.cell? ⟨gq, oq, none⟩ = some (.int .i64 x)) (by kernel_rfl) hcv (fun hHeld => ?_)
          refine tkH (i := 0) (oi := ⟨some 52, _, _, _, _, _⟩) (v := ?_) ?_ ?_
          rotate_left
          · intro w hSw; go_simp; try with_reducible rfl
          try simp only [Act.put, List.setIfInBounds_toArray, List.set_cons_zero, List.set_cons_succ]
          refine tkH (i := 1) (oi := ⟨some 53, _, _, _, _, _⟩) (v := ?_) ?_ ?_
          rotate_left
          · intro w hSw; go_simp; try with_reducible rfl
          try simp only [Act.put, List.setIfInBounds_toArray, List.set_cons_zero, List.set_cons_succ]
          refine tkH (i := 2) (oi := ⟨some 54, _, _, _, _, _⟩) (v := ?_) ?_ ?_
          rotate_left
          · intro w hSw; go_simp; try with_reducible rfl
          try simp only [Act.put, List.setIfInBounds_toArray, List.set_cons_zero, List.set_cons_succ]
          refine tkH (i := 3) (oi := ⟨some 55, _, _, _, _, _⟩) (v := ?_) ?_ ?_
          rotate_left
          · intro w hSw; go_simp; try with_reducible rfl
          try simp only [Act.put, List.setIfInBounds_toArray, List.set_cons_zero, List.set_cons_succ]
          refine tkH (i := 4) (oi := ⟨some 56, _, _, _, _, _⟩) (v := ?_) ?_ ?_
          rotate_left
          · intro w hSw; go_simp; try with_reducible rfl
          try simp only [Act.put, List.setIfInBounds_toArray, List.set_cons_zero, List.set_cons_succ]
          refine tkH (i := 5) (oi := ⟨some 57, _, _, _, _, _⟩) (v := ?_) ?_ ?_
          rotate_left
          · intro w hSw; go_simp; try with_reducible rfl
          try simp only [Act.put, List.setIfInBounds_toArray, List.set_cons_zero, List.set_cons_succ]
          refine wpAnyH_ready (rs := [6]) (by kernel_rfl) (by simp) ?_
          refine AllReadyH.cons (o := ⟨none, _, _, _, _, _⟩) rfl (fun K hK => ?_) AllReadyH.nil
          go_simp
          refine hK.out _ _ hcs (fun hHeld => ?_)
          clear hK K
          try simp only [Act.put, List.setIfInBounds_toArray, List.set_cons_zero, List.set_cons_succ]
          refine tkH (i := 7) (oi := ⟨some 5, _, _, _, _, _⟩) (v := ?_) ?_ ?_
          rotate_left
          · intro w hSw; go_simp; try with_reducible rfl
          try simp only [Act.put, List.setIfInBounds_toArray, List.set_cons_zero, List.set_cons_succ]
          refine wpAnyH_done (by kernel_rfl) ?_ _
          go_wp2
          exact bodyPost_ret (v := .tuple #[vlV (.mk x []) none 0 0, .slice (some ⟨gq, oq + 1, none⟩) nq' (qq - 1)]) (by simp [results, Tryz.results35, go_sem, r0, r1, Vl.i]) rfl ⟨none, 0, 0, some ⟨gq, oq + 1, none⟩, nq', qq - 1, rfl, VlRd.nil _ _ rfl, HTL.out.below HFB.out (by omega), HWV.out.trans (HFB.out.mono (by omega))⟩
end Go.Proofs.YtklndjkblfncjaaGreatDoor
