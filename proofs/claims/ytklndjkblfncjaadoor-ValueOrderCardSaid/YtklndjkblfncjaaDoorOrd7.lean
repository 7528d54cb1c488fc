/-
  exactppllaw07.ValueOrder: the walk.
-/
import Derived.Test.YtklndjkblfncjaaDoorAwk7
import Derived.Test.YtklndjkblfncjaaDoorSome7
import Derived.Test.YtklndjkblfncjaaDoorVcm7
import Derived.Test.YtklndjkblfncjaaDoorFmt7
import Derived.Test.YtklndjkblfncjaaDoorSm27
import Derived.Test.YtklndjkblfncjaaDoorOrS7
namespace Go.Proofs.YtklndjkblfncjaaDoor
open Go Go.RowKit
set_option maxRecDepth 20000

theorem toList_ne {P Q : ByteArray} (h : P ≠ Q) : (P.toList == Q.toList) = false := by
  rw [beq_eq_false_iff_ne, Lib.toList_data, Lib.toList_data]
  intro e
  apply h
  cases P; cases Q
  simpa [Array.toList_inj] using e
/-- What the law holds while it compares: the type, the three values and their boxes. -/
structure O3 (S S' : Nat → Prop) (T : Ty) (A : Option Addr) (n c bt p q r : Nat) (x y z : VlAt) (w W : World) : Prop where
  ty : TyRd S W 2 T A n c
  bT : Box5 W bt (.int .i64 T.k) (.int .i64 T.lo) (.int .i64 T.hi) (.int .i64 T.mx) (.slice A n c)
  vx : VlRd S' W 3 x.V x.A x.n x.c
  vy : VlRd S' W 3 y.V y.A y.n y.c
  vz : VlRd S' W 3 z.V z.A z.n z.c
  bx : Box2 W p (.int .i64 x.V.i) (.slice x.A x.n x.c)
  bY : Box2 W q (.int .i64 y.V.i) (.slice y.A y.n y.c)
  bz : Box2 W r (.int .i64 z.V.i) (.slice z.A z.n z.c)
  base : Below w.heap.size w W
  tab : Tab W
theorem O3.below {S S' : Nat → Prop} {T : Ty} {A : Option Addr} {n c bt p q r : Nat} {x y z : VlAt} {w W W' : World} (h : O3 S S' T A n c bt p q r x y z w W) (hb : Below W.heap.size W W') : O3 S S' T A n c bt p q r x y z w W' :=
  ⟨h.ty.below hb, h.bT.below hb (World.block_lt_of_cell? W _ h.bT.1), h.vx.below hb, h.vy.below hb, h.vz.below hb, h.bx.below hb (World.block_lt_of_cell? W _ h.bx.1), h.bY.below hb (World.block_lt_of_cell? W _ h.bY.1), h.bz.below hb (World.block_lt_of_cell? W _ h.bz.1), nextB h.base hb, h.tab.below hb⟩
/-- The law's calls, in whatever world in which what it holds is there. -/
structure C3 (S S' : Nat → Prop) (T : Ty) (A : Option Addr) (n c bt p q r : Nat) (x y z : VlAt) (w : World) (a b d : Int) : Prop where
  cx : ∀ W, O3 S S' T A n c bt p q r x y z w W → Calls Tryd.prog 7 #[tyV T A n c, vlV x.V x.A x.n x.c] W (FaultIs a W)
  cy : ∀ W, O3 S S' T A n c bt p q r x y z w W → Calls Tryd.prog 7 #[tyV T A n c, vlV y.V y.A y.n y.c] W (FaultIs b W)
  cz : ∀ W, O3 S S' T A n c bt p q r x y z w W → Calls Tryd.prog 7 #[tyV T A n c, vlV z.V z.A z.n z.c] W (FaultIs d W)
theorem C3.of {S S' : Nat → Prop} {T : Ty} {A : Option Addr} {n c bt p q r : Nat} {x y z : VlAt} {w : World} (hg : Good 2 T) (hk : T.k ≠ 3 ∧ T.k ≠ 4) : C3 S S' T A n c bt p q r x y z w (verr 2 T x.V) (verr 2 T y.V) (verr 2 T z.V) :=
  ⟨fun W h => refCheck_x _ 2 T A n c W h.ty hg hk _ 3 x.V x.A x.n x.c h.vx, fun W h => refCheck_x _ 2 T A n c W h.ty hg hk _ 3 y.V y.A y.n y.c h.vy, fun W h => refCheck_x _ 2 T A n c W h.ty hg hk _ 3 z.V z.A z.n z.c h.vz⟩
/-- The comparisons and the texts, where the three are values of the type. -/
structure D3 (S S' : Nat → Prop) (T : Ty) (A : Option Addr) (n c bt p q r : Nat) (x y z : VlAt) (w : World) (X Y Z K : Int) (P Q : ByteArray) : Prop where
  xy : ∀ W, O3 S S' T A n c bt p q r x y z w W → Calls Tryd.prog 9 #[tyV T A n c, vlV x.V x.A x.n x.c, vlV y.V y.A y.n y.c] W (GivesCmp X W)
  yx : ∀ W, O3 S S' T A n c bt p q r x y z w W → Calls Tryd.prog 9 #[tyV T A n c, vlV y.V y.A y.n y.c, vlV x.V x.A x.n x.c] W (GivesCmp Y W)
  yz : ∀ W, O3 S S' T A n c bt p q r x y z w W → Calls Tryd.prog 9 #[tyV T A n c, vlV y.V y.A y.n y.c, vlV z.V z.A z.n z.c] W (GivesCmp Z W)
  xz : ∀ W, O3 S S' T A n c bt p q r x y z w W → Calls Tryd.prog 9 #[tyV T A n c, vlV x.V x.A x.n x.c, vlV z.V z.A z.n z.c] W (GivesCmp K W)
  fx : ∀ W, O3 S S' T A n c bt p q r x y z w W → Calls Tryd.prog 10 #[tyV T A n c, vlV x.V x.A x.n x.c] W fun e w' => e = .returned (.tuple #[.string P, .int .i64 0]) ∧ Below W.heap.size W w'
  fy : ∀ W, O3 S S' T A n c bt p q r x y z w W → Calls Tryd.prog 10 #[tyV T A n c, vlV y.V y.A y.n y.c] W fun e w' => e = .returned (.tuple #[.string Q, .int .i64 0]) ∧ Below W.heap.size W w'
  same : ∀ W, O3 S S' T A n c bt p q r x y z w W → Calls Tryd.prog 11 #[vlV x.V x.A x.n x.c, vlV y.V y.A y.n y.c] W (SaysIff (P = Q) W)
  cases : (X = 1 ∧ Y = -1 ∧ P ≠ Q) ∨ ((X = 0 ∧ Y = 0 ∧ P = Q) ∨ (X = -1 ∧ Y = 1 ∧ P ≠ Q)) ∧ (Z = 1 ∨ (Z = 0 ∨ Z = -1) ∧ (K = 0 ∨ K = -1))
theorem D3.of {S S' : Nat → Prop} {T : Ty} {A : Option Addr} {n c bt p q r : Nat} {x y z : VlAt} {w : World} (hd : deepOk 2 T) (hg : Good 2 T) (hk : T.k ≠ 3 ∧ T.k ≠ 4) (hx : verr 2 T x.V = 0) (hy : verr 2 T y.V = 0) (hz : verr 2 T z.V = 0) :
    ∃ X Y Z K P Q, D3 S S' T A n c bt p q r x y z w X Y Z K P Q := by
  have hw := hg.wide
  have lx : (vflat 2 T x.V).length ≤ 1000 := by rw [flat_width 2 T x.V hd hg.ok hx]; omega
  have ly : (vflat 2 T y.V).length ≤ 1000 := by rw [flat_width 2 T y.V hd hg.ok hy]; omega
  have lz : (vflat 2 T z.V).length ≤ 1000 := by rw [flat_width 2 T z.V hd hg.ok hz]; omega
  have hpq : (⟨(vfmt 2 T x.V).toArray⟩ : ByteArray) = ⟨(vfmt 2 T y.V).toArray⟩ ↔ x.V = y.V := by
    constructor
    · intro e
      injection e with e
      exact fmt_inj hd hg.ok hk.2 hx hy (by simpa using congrArg Array.toList e)
    · intro e; rw [e]
  refine ⟨_, _, _, _, _, _, fun W h => Compare_x _ 2 T A n c W h.ty hg hk.2 _ 3 _ _ _ _ h.vx hx lx _ 3 _ _ _ _ h.vy hy ly, fun W h => Compare_x _ 2 T A n c W h.ty hg hk.2 _ 3 _ _ _ _ h.vy hy ly _ 3 _ _ _ _ h.vx hx lx,
    fun W h => Compare_x _ 2 T A n c W h.ty hg hk.2 _ 3 _ _ _ _ h.vy hy ly _ 3 _ _ _ _ h.vz hz lz, fun W h => Compare_x _ 2 T A n c W h.ty hg hk.2 _ 3 _ _ _ _ h.vx hx lx _ 3 _ _ _ _ h.vz hz lz,
    fun W h => Format_x _ 2 (by omega) T A n c W h.ty hg hk.2 _ 3 _ _ _ _ h.vx hx h.tab, fun W h => Format_x _ 2 (by omega) T A n c W h.ty hg hk.2 _ 3 _ _ _ _ h.vy hy h.tab, fun W h => ?_, ?_⟩
  · rw [hpq]
    exact same2_x 3 _ _ _ _ _ _ _ _ _ _ 3 W h.vx h.vy
  · simp only [ne_eq, hpq]
    have h1 := vcmp_neg (vflat 2 T y.V) (vflat 2 T x.V)
    have h2 := vcmp_trans (vflat 2 T x.V) (vflat 2 T y.V) (vflat 2 T z.V)
    have h3 := vcmp_range (vflat 2 T x.V) (vflat 2 T y.V)
    have h4 := vcmp_range (vflat 2 T y.V) (vflat 2 T z.V)
    have h5 := vcmp_range (vflat 2 T x.V) (vflat 2 T z.V)
    have h6 : vcmp (vflat 2 T x.V) (vflat 2 T y.V) = 0 ↔ x.V = y.V := (vcmp_eq _ _).trans ⟨fun e => flat_inj hd hg.ok hx hy e, fun e => by rw [e]⟩
    generalize vcmp (vflat 2 T x.V) (vflat 2 T y.V) = X at *
    generalize vcmp (vflat 2 T y.V) (vflat 2 T x.V) = Y at *
    generalize vcmp (vflat 2 T y.V) (vflat 2 T z.V) = Z at *
    generalize vcmp (vflat 2 T x.V) (vflat 2 T z.V) = K at *
    by_cases he : x.V = y.V
    · have := h6.2 he
      subst this
      refine .inr ⟨.inl ⟨rfl, by omega, he⟩, ?_⟩
      omega
    · have hX : X ≠ 0 := fun e => he (h6.1 e)
      by_cases h1x : X = 1
      · exact .inl ⟨h1x, by omega, he⟩
      · refine .inr ⟨.inr ⟨by omega, by omega, he⟩, ?_⟩
        omega

set_option maxHeartbeats 16000000 in
theorem valueOrder.walk {A : Option Addr} {n c : Nat} {w : World} (htab : Tab w) (hcap : n ≤ c) (htop : c ≤ maxLen) (hI : 0 < n → ∃ ad, A = some ad ∧ IntsAt w ad n (-9223372036854775808) 9223372036854775807) :
    Calls Tryd.prog 3 #[.slice A n c] w (SaysTrue w) := by
  have HN := Lib.hid (new_any A n c w hcap htop hI)
  clear hcap htop hI
  go_enter Tryd.func3, Tryd.ntmps3
  go_wp2_with fail
  refine HN.out.mono ?_
  rintro e1 w1 ⟨g, rfl, hg, hs1, hb1⟩
  go_wp2_with fail
  refine (type_x 2 (by omega) (by omega) g w1 hs1).mono ?_
  rintro e2 w2 ⟨T, A2, n2, c2, rfl, hT, hBT, hs2, hk2⟩
  have hg1 := hs1.size
  obtain ⟨u, hu⟩ : ∃ u, w2.alloc (.cells #[.int .i64 T.k, .int .i64 T.lo, .int .i64 T.hi, .int .i64 T.mx, .slice A2 n2 c2] 27) = u := ⟨_, rfl⟩
  have hbu : Below w2.heap.size w2 u := hu ▸ allocB _ _
  have hBox : Box5 u w2.heap.size (.int .i64 T.k) (.int .i64 T.lo) (.int .i64 T.hi) (.int .i64 T.mx) (.slice A2 n2 c2) := hu ▸ box5_new _ _ _ _ _ _ _
  have hTu := hT.below hbu
  have hszu : w2.heap.size < u.heap.size := World.block_lt_of_cell? u _ hBox.1
  have hgood := hBT.good (by omega)
  have hk34 : T.k ≠ 3 ∧ T.k ≠ 4 := by have := hBT.kind; omega
  have hg2 : g < w2.heap.size := hs2.size
  have hgu : g < u.heap.size := by omega
  have hsu : Src u g := hs2.below hbu
  have hwu : Below w.heap.size w u := (hb1.trans (hk2.below hg (by have := hb1.size; omega))).trans (hbu.mono (by have := hb1.size; have := hk2.size; omega))
  have htu : Tab u := htab.below hwu
  obtain ⟨bt, hbt⟩ : ∃ bt, w2.heap.size = bt := ⟨_, rfl⟩
  have HTW : Hid (∀ W, But g u W → TyRd (fun b => w1.heap.size ≤ b) W 2 T A2 n2 c2 ∧ Box5 W bt (.int .i64 T.k) (.int .i64 T.lo) (.int .i64 T.hi) (.int .i64 T.mx) (.slice A2 n2 c2)) :=
    fun W hW => ⟨hTu.butG hW fun b hb => by omega, (hbt ▸ hBox).keep (hW.block _ (by omega) (by omega))⟩
  have HSM : Hid (∀ W, But g u W → Src W g → Calls Tryd.prog 6 #[.pointer (some ⟨g, 0, none⟩), tyV T A2 n2 c2] W (GivesSome 2 g W)) :=
    fun W hW hs => some_x 2 _ T A2 n2 c2 g W (HTW.out W hW).1 (fun b hb => by omega) hBT.ok hk34 hs
  have HO : Hid (∀ W p q r x y z, FIN3 g u W p q r x y z → O3 (fun b => w1.heap.size ≤ b) (fun b => u.heap.size ≤ b) T A2 n2 c2 bt p q r x y z w W) := fun W p q r x y z F =>
    have hb : Below w.heap.size w W := hwu.trans (F.but.below hg hwu.size)
    ⟨(HTW.out W F.but).1, (HTW.out W F.but).2, F.vx, F.vy, F.vz, F.bx, F.bY, F.bz, hb, htab.below hb⟩
  have HGD : Hid (Good 2 T ∧ (T.k ≠ 3 ∧ T.k ≠ 4) ∧ deepOk 2 T) := ⟨hgood, hk34, hTu.deep⟩
  have HU := Lib.hid hu
  have HSU := Lib.hid hsu
  have HGU := Lib.hid hgu
  clear HN hs1 hb1 hg1 hT hBT hs2 hk2 hbu hTu hgood hg2 hg hu hsu hgu hwu htu htab hszu hk34
  rw [hbt] at hBox
  have HBT := Lib.hid hbt
  clear hbt
  go_wp2_with fail
  rw [HU.out]
  rw [HBT.out]
  refine wp_region_held_drew (S := fun W => Box5 W bt (.int .i64 T.k) (.int .i64 T.lo) (.int .i64 T.hi) (.int .i64 T.mx) (.slice A2 n2 c2)) (by kernel_rfl) hBox (fun hHeld => ?_)
  refine tkH (i := 0) (oi := ⟨some 24, _, _, _, _, _⟩) (v := ?_) ?_ ?_
  rotate_left
  · intro w hSw; go_simp; try with_reducible rfl
  try simp only [Act.put, List.setIfInBounds_toArray, List.set_cons_zero, List.set_cons_succ]
  refine tkH (i := 1) (oi := ⟨some 25, _, _, _, _, _⟩) (v := ?_) ?_ ?_
  rotate_left
  · intro w hSw; obtain ⟨p0, p1, p2, p3, p4⟩ := hSw; go_simp; try with_reducible rfl
  try simp only [Act.put, List.setIfInBounds_toArray, List.set_cons_zero, List.set_cons_succ]
  refine tkH (i := 3) (oi := ⟨some 27, _, _, _, _, _⟩) (v := ?_) ?_ ?_
  rotate_left
  · intro w hSw; go_simp; try with_reducible rfl
  try simp only [Act.put, List.setIfInBounds_toArray, List.set_cons_zero, List.set_cons_succ]
  refine tkH (i := 4) (oi := ⟨some 28, _, _, _, _, _⟩) (v := ?_) ?_ ?_
  rotate_left
  · intro w hSw; obtain ⟨p0, p1, p2, p3, p4⟩ := hSw; go_simp; try with_reducible rfl
  try simp only [Act.put, List.setIfInBounds_toArray, List.set_cons_zero, List.set_cons_succ]
  refine tkH (i := 6) (oi := ⟨some 30, _, _, _, _, _⟩) (v := ?_) ?_ ?_
  rotate_left
  · intro w hSw; go_simp; try with_reducible rfl
  try simp only [Act.put, List.setIfInBounds_toArray, List.set_cons_zero, List.set_cons_succ]
  refine tkH (i := 7) (oi := ⟨some 31, _, _, _, _, _⟩) (v := ?_) ?_ ?_
  rotate_left
  · intro w hSw; obtain ⟨p0, p1, p2, p3, p4⟩ := hSw; go_simp; try with_reducible rfl
  try simp only [Act.put, List.setIfInBounds_toArray, List.set_cons_zero, List.set_cons_succ]
  refine st0_0 (T := T) (g := g) (bt := bt) (u := u) HGU.out (Lib.hid fun W hW => (HTW.out W hW).2) HSM (Lib.hid fun W p q r x y z F => ?_) (ST3.start HSU.out.drew (But.refl g u).drew) (by kernel_rfl) (by kernel_rfl) rfl
  obtain ⟨S, S', HW⟩ : ∃ S S', Hid (O3 S S' T A2 n2 c2 bt p q r x y z w W) := ⟨_, _, Lib.hid (HO.out W p q r x y z F)⟩
  have HC : Hid (C3 S S' T A2 n2 c2 bt p q r x y z w (verr 2 T x.V) (verr 2 T y.V) (verr 2 T z.V)) := Lib.hid (C3.of HGD.out.1 HGD.out.2.1)
  have HDD : Hid (verr 2 T x.V = 0 → verr 2 T y.V = 0 → verr 2 T z.V = 0 → ∃ X Y Z K P Q, D3 S S' T A2 n2 c2 bt p q r x y z w X Y Z K P Q) := Lib.hid fun hx hy hz => D3.of HGD.out.2.2 HGD.out.1 HGD.out.2.1 hx hy hz
  clear F HO HSM HTW HU HSU HGU hBox hHeld HBT HGD
  generalize verr 2 T x.V = ea at *
  generalize verr 2 T y.V = eb at *
  generalize verr 2 T z.V = ec at *
  obtain ⟨tq0, tq1, tq2, tq3, tq4⟩ := HW.out.bT
  obtain ⟨xq0, xq1, _, _⟩ := HW.out.bx
  have HH := Lib.hid (HC.out.cx W HW.out)
  by_cases hz1 : ea = 0
  rotate_left
  · have hn : (ea != 0) = true := by simpa using hz1
    go_wp2_with fail
    refine HH.out.mono ?_
    rintro e' W1 ⟨rfl, hb⟩
    have HB := Lib.hid (nextB HW.out.base hb)
    have HA := Lib.hid (awake_x W1)
    clear hb tq0 tq1 tq2 tq3 tq4 xq0 xq1
    go_wp2_with fail
    refine HA.out.mono ?_
    rintro e'' Wz ⟨rfl, hb⟩
    have HE := Lib.hid (nextB HB.out hb)
    clear hb
    go_wp2
    go_ret
    exact ⟨rfl, HE.out⟩
  subst hz1
  go_wp2_with fail
  refine HH.out.mono ?_
  rintro e' W1 ⟨rfl, hb⟩
  have HW1 := Lib.hid (HW.out.below hb)
  clear hb HH HW tq0 tq1 tq2 tq3 tq4 xq0 xq1
  obtain ⟨tq0, tq1, tq2, tq3, tq4⟩ := HW1.out.bT
  obtain ⟨yq0, yq1, _, _⟩ := HW1.out.bY
  have HH := Lib.hid (HC.out.cy W1 HW1.out)
  by_cases hz2 : eb = 0
  rotate_left
  · have hn : (eb != 0) = true := by simpa using hz2
    go_wp2_with fail
    refine HH.out.mono ?_
    rintro e' W2 ⟨rfl, hb⟩
    have HB := Lib.hid (nextB HW1.out.base hb)
    have HA := Lib.hid (awake_x W2)
    clear hb tq0 tq1 tq2 tq3 tq4 yq0 yq1
    go_wp2_with fail
    refine HA.out.mono ?_
    rintro e'' Wz ⟨rfl, hb⟩
    have HE := Lib.hid (nextB HB.out hb)
    clear hb
    go_wp2
    go_ret
    exact ⟨rfl, HE.out⟩
  subst hz2
  go_wp2_with fail
  refine HH.out.mono ?_
  rintro e' W2 ⟨rfl, hb⟩
  have HW2 := Lib.hid (HW1.out.below hb)
  clear hb HH HW1 tq0 tq1 tq2 tq3 tq4 yq0 yq1
  obtain ⟨tq0, tq1, tq2, tq3, tq4⟩ := HW2.out.bT
  obtain ⟨zq0, zq1, _, _⟩ := HW2.out.bz
  have HH := Lib.hid (HC.out.cz W2 HW2.out)
  by_cases hz3 : ec = 0
  rotate_left
  · have hn : (ec != 0) = true := by simpa using hz3
    go_wp2_with fail
    refine HH.out.mono ?_
    rintro e' W3 ⟨rfl, hb⟩
    have HB := Lib.hid (nextB HW2.out.base hb)
    have HA := Lib.hid (awake_x W3)
    clear hb tq0 tq1 tq2 tq3 tq4 zq0 zq1
    go_wp2_with fail
    refine HA.out.mono ?_
    rintro e'' Wz ⟨rfl, hb⟩
    have HE := Lib.hid (nextB HB.out hb)
    clear hb
    go_wp2
    go_ret
    exact ⟨rfl, HE.out⟩
  subst hz3
  go_wp2_with fail
  refine HH.out.mono ?_
  rintro e' W3 ⟨rfl, hb⟩
  have HW3 := Lib.hid (HW2.out.below hb)
  clear hb HH HW2 tq0 tq1 tq2 tq3 tq4 zq0 zq1
  obtain ⟨X, Y, Z, K, P, Q, HD⟩ : ∃ X Y Z K P Q, Hid (D3 S S' T A2 n2 c2 bt p q r x y z w X Y Z K P Q) := by
    obtain ⟨X, Y, Z, K, P, Q, h⟩ := HDD.out (by trivial) (by trivial) (by trivial)
    exact ⟨X, Y, Z, K, P, Q, Lib.hid h⟩
  clear HDD HC
  obtain ⟨tq0, tq1, tq2, tq3, tq4⟩ := HW3.out.bT
  obtain ⟨xq0, xq1, _, _⟩ := HW3.out.bx
  obtain ⟨yq0, yq1, _, _⟩ := HW3.out.bY
  have HH := Lib.hid (HD.out.xy W3 HW3.out)
  go_wp2_with fail
  refine HH.out.mono ?_
  rintro e' W4 ⟨rfl, hb⟩
  have HW4 := Lib.hid (HW3.out.below hb)
  clear hb HH HW3 tq0 tq1 tq2 tq3 tq4 xq0 xq1 yq0 yq1
  obtain ⟨tq0, tq1, tq2, tq3, tq4⟩ := HW4.out.bT
  obtain ⟨yq0, yq1, _, _⟩ := HW4.out.bY
  obtain ⟨xq0, xq1, _, _⟩ := HW4.out.bx
  have HH := Lib.hid (HD.out.yx W4 HW4.out)
  go_wp2_with fail
  refine HH.out.mono ?_
  rintro e' W5 ⟨rfl, hb⟩
  have HW5 := Lib.hid (HW4.out.below hb)
  clear hb HH HW4 tq0 tq1 tq2 tq3 tq4 yq0 yq1 xq0 xq1
  obtain ⟨tq0, tq1, tq2, tq3, tq4⟩ := HW5.out.bT
  obtain ⟨yq0, yq1, _, _⟩ := HW5.out.bY
  obtain ⟨zq0, zq1, _, _⟩ := HW5.out.bz
  have HH := Lib.hid (HD.out.yz W5 HW5.out)
  go_wp2_with fail
  refine HH.out.mono ?_
  rintro e' W6 ⟨rfl, hb⟩
  have HW6 := Lib.hid (HW5.out.below hb)
  clear hb HH HW5 tq0 tq1 tq2 tq3 tq4 yq0 yq1 zq0 zq1
  obtain ⟨tq0, tq1, tq2, tq3, tq4⟩ := HW6.out.bT
  obtain ⟨xq0, xq1, _, _⟩ := HW6.out.bx
  obtain ⟨zq0, zq1, _, _⟩ := HW6.out.bz
  have HH := Lib.hid (HD.out.xz W6 HW6.out)
  go_wp2_with fail
  refine HH.out.mono ?_
  rintro e' W7 ⟨rfl, hb⟩
  have HW7 := Lib.hid (HW6.out.below hb)
  clear hb HH HW6 tq0 tq1 tq2 tq3 tq4 xq0 xq1 zq0 zq1
  obtain ⟨tq0, tq1, tq2, tq3, tq4⟩ := HW7.out.bT
  obtain ⟨xq0, xq1, _, _⟩ := HW7.out.bx
  have HH := Lib.hid (HD.out.fx W7 HW7.out)
  go_wp2_with fail
  refine HH.out.mono ?_
  rintro e' W8 ⟨rfl, hb⟩
  have HW8 := Lib.hid (HW7.out.below hb)
  clear hb HH HW7 tq0 tq1 tq2 tq3 tq4 xq0 xq1
  obtain ⟨tq0, tq1, tq2, tq3, tq4⟩ := HW8.out.bT
  obtain ⟨yq0, yq1, _, _⟩ := HW8.out.bY
  have HH := Lib.hid (HD.out.fy W8 HW8.out)
  go_wp2_with fail
  refine HH.out.mono ?_
  rintro e' W9 ⟨rfl, hb⟩
  have HW9 := Lib.hid (HW8.out.below hb)
  clear hb HH HW8 tq0 tq1 tq2 tq3 tq4 yq0 yq1
  obtain ⟨xq0, xq1, _, _⟩ := HW9.out.bx
  obtain ⟨yq0, yq1, _, _⟩ := HW9.out.bY
  rcases HD.out.cases with ⟨rfl, rfl, h⟩ | ⟨⟨rfl, rfl, h⟩ | ⟨rfl, rfl, h⟩, hr⟩
  · have hPQ := Lib.hid h
    have hpq := toList_ne h
    clear h
    have HH := Lib.hid (HD.out.same W9 HW9.out)
    go_wp2_with fail
    refine HH.out.mono ?_
    rintro e' V1 ⟨b, rfl, hbt, hb⟩
    obtain rfl : b = false := by simpa using fun h => hPQ.out (hbt.1 h)
    have HB := Lib.hid (nextB HW9.out.base hb)
    have HA := Lib.hid (awake_x V1)
    clear hb hbt HH xq0 xq1 yq0 yq1
    go_wp2_with fail
    refine HA.out.mono ?_
    rintro e'' Wz ⟨rfl, hb⟩
    have HE := Lib.hid (nextB HB.out hb)
    clear hb
    go_wp2
    go_ret
    exact ⟨rfl, HE.out⟩
  · subst h
    have hPQ := Lib.hid (rfl : P = P)
    rcases hr with rfl | ⟨rfl | rfl, rfl | rfl⟩
    all_goals
      have HH := Lib.hid (HD.out.same W9 HW9.out)
      go_wp2_with fail
      refine HH.out.mono ?_
      rintro e' V1 ⟨b, rfl, hbt, hb⟩
      obtain rfl : b = true := by exact hbt.2 hPQ.out
      have HB := Lib.hid (nextB HW9.out.base hb)
      have HA := Lib.hid (awake_x V1)
      clear hb hbt HH xq0 xq1 yq0 yq1
      go_wp2_with fail
      refine HA.out.mono ?_
      rintro e'' Wz ⟨rfl, hb⟩
      have HE := Lib.hid (nextB HB.out hb)
      clear hb
      go_wp2
      go_ret
      exact ⟨rfl, HE.out⟩
  · have hPQ := Lib.hid h
    have hpq := toList_ne h
    clear h
    rcases hr with rfl | ⟨rfl | rfl, rfl | rfl⟩
    all_goals
      have HH := Lib.hid (HD.out.same W9 HW9.out)
      go_wp2_with fail
      refine HH.out.mono ?_
      rintro e' V1 ⟨b, rfl, hbt, hb⟩
      obtain rfl : b = false := by simpa using fun h => hPQ.out (hbt.1 h)
      have HB := Lib.hid (nextB HW9.out.base hb)
      have HA := Lib.hid (awake_x V1)
      clear hb hbt HH xq0 xq1 yq0 yq1
      go_wp2_with fail
      refine HA.out.mono ?_
      rintro e'' Wz ⟨rfl, hb⟩
      have HE := Lib.hid (nextB HB.out hb)
      clear hb
      go_wp2
      go_ret
      exact ⟨rfl, HE.out⟩
end Go.Proofs.YtklndjkblfncjaaDoor
