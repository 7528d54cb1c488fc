/-
  nodes; the reference's Depth, arities, extremes.
-/
import Derived.Test.YtlhncmnhpnhfhaaFxN
namespace Go.Proofs.Ytlhncmnhpnhfhaa
open Go Go.RowKit Go.Shelf
set_option maxRecDepth 20000
namespace Fx

/-- The six cells of an argument, and its own arguments. -/
theorem kid {S : Nat → Prop} {w : World} {xs : List Fm} {B : Option Addr} {n d i : Nat} (h : Rd S w (.l 6 (fds xs)) (.slice B n d)) (hi : i < xs.length) :
    ∃ a g o x2 x3 x4 A' c', xs[i]? = some a ∧ B = some ⟨g, o, none⟩ ∧ g < w.heap.size ∧ w.cell? ⟨g, o + i * 6, none⟩ = some (.int .i64 a.op) ∧ w.cell? ⟨g, o + i * 6 + 1, none⟩ = some (.int .i64 a.num) ∧
      w.cell? ⟨g, o + i * 6 + 2, none⟩ = some x2 ∧ w.cell? ⟨g, o + i * 6 + 3, none⟩ = some x3 ∧ w.cell? ⟨g, o + i * 6 + 4, none⟩ = some x4 ∧ w.cell? ⟨g, o + i * 6 + 5, none⟩ = some (.slice A' a.args.length c') ∧
      Rd S w (.l 6 (fds a.args)) (.slice A' a.args.length c') := by
  obtain ⟨a, ha⟩ : ∃ a, xs[i]? = some a := ⟨_, List.getElem?_eq_getElem hi⟩
  obtain ⟨g, o, e, hf⟩ := rd_at h ha
  obtain ⟨x2, h2⟩ := hf.c2
  obtain ⟨x3, h3⟩ := hf.c3
  obtain ⟨x4, h4⟩ := hf.c4
  obtain ⟨A', c', h5, hr⟩ := hf.c5
  exact ⟨a, g, o, x2, x3, x4, A', c', ha, e, hf.lt, hf.c0, hf.c1, h2, h3, h4, h5, hr⟩
theorem rd_nb {S : Nat → Prop} {w w' : World} {d : D} {v : Value} (h : Rd S w d v) (hb : Below w.heap.size w w') : Rd S w' d v :=
  h.keep hb.size (fun b _ hl => hb.block b hl) fun _ h _ => h
theorem fv_nb {S : Nat → Prop} {w w' : World} {f : Fm} {v : Array Value} (h : FV S w f v) (hb : Below w.heap.size w w') : FV S w' f v :=
  h.keep hb.size (fun b _ hl => hb.block b hl) fun _ h _ => h
/-- A form's box: five cells that may be read, whatever is made behind it. -/
theorem box6 (w : World) (x0 x1 x2 x3 x4 x5 : Value) (t : TypeId) (v : World) (hv : w.alloc (.cells #[x0, x1, x2, x3, x4, x5] t) = v) :
    v.heap.size = w.heap.size + 1 ∧ Below w.heap.size w v ∧ ∀ W, Below v.heap.size v W → W.cell? ⟨w.heap.size, 0, none⟩ = some x0 ∧ W.cell? ⟨w.heap.size, 1, none⟩ = some x1 ∧ W.cell? ⟨w.heap.size, 2, none⟩ = some x2 ∧
      W.cell? ⟨w.heap.size, 3, none⟩ = some x3 ∧ W.cell? ⟨w.heap.size, 4, none⟩ = some x4 ∧ W.cell? ⟨w.heap.size, 5, none⟩ = some x5 := by
  subst hv
  refine ⟨by simp, allocB _ _, fun W hW => ?_⟩
  have k : ∀ i, W.cell? ⟨w.heap.size, i, none⟩ = (w.alloc (.cells #[x0, x1, x2, x3, x4, x5] t)).cell? ⟨w.heap.size, i, none⟩ := fun i => hW.cell (p := ⟨w.heap.size, i, none⟩) (by simp)
  exact ⟨(k 0).trans (by simp), (k 1).trans (by simp), (k 2).trans (by simp), (k 3).trans (by simp), (k 4).trans (by simp), (k 5).trans (by simp)⟩

def NodesOut (f : Fm) (w : World) (e : Ending) (w' : World) : Prop := ∃ x : Nat, e = .returned (.int .i64 (x : Int)) ∧ x ≤ sz f ∧ (x ≤ 499 → sz f = x) ∧ Below w.heap.size w w'
set_option maxHeartbeats 4000000 in
theorem nodes_x {S : Nat → Prop} : ∀ (f : Fm), sz f ≤ 2000000 → ∀ (v : Array Value) (w : World), FV S w f v → Calls Try.prog 6 #[.agg v] w (NodesOut f w) := by
  refine Fm.ind' fun f ih => ?_
  intro hsz v w hw
  obtain ⟨va, vb, vc, B, d, rfl, hr⟩ := hw
  obtain ⟨v, hv⟩ : ∃ v, w.alloc (.cells #[.int .i64 f.op, .int .i64 f.num, va, vb, vc, .slice B f.args.length d] 27) = v := ⟨_, rfl⟩
  obtain ⟨hvs, hwv, hbx⟩ := box6 w _ _ _ _ _ _ _ v hv
  have hcap := rd_caps hr
  unfold maxLen at hcap
  have HBX := Lib.hid hbx
  have HVV := Lib.hid hv
  have HWV := Lib.hid hwv
  have H := Lib.hid hr
  have HI := Lib.hid ih
  have HZ := Lib.hid (sz_eq f)
  clear hr hv hwv hbx ih
  go_enter Try.func6, Try.ntmps6
  go_wp2
  rw [HVV.out]
  go_loopw [3, 4] (fun nv iv wr => ∃ i a : Nat, i ≤ f.args.length ∧ iv = .int .i64 i ∧ nv = .int .i64 a ∧ Hid ((a ≤ 1 + ((f.args.take i).map sz).sum ∧ (a ≤ 499 → a = 1 + ((f.args.take i).map sz).sum)) ∧ Below v.heap.size v wr))
    (fun _ iv _ => f.args.length - (intOf iv).toNat)
  case atStart => exact ⟨0, 1, Nat.zero_le _, rfl, rfl, ⟨by simp, by simp⟩, Below.refl _ _⟩
  case round =>
    obtain ⟨i, a, hi, rfl, rfl, HAB⟩ := hrel
    have HA := Lib.hid HAB.out.1
    have HB := Lib.hid HAB.out.2
    have ha : a ≤ 2000000 := by
      have h1 := HA.out.1
      have h2 := sum_take_le f.args i
      have h3 := HZ.out
      omega
    clear HAB
    obtain ⟨p0, p1, p2, p3, p4, p5⟩ := HBX.out wr HB.out
    by_cases hlt : i < f.args.length
    · have hlt' : (i : Int) < (f.args.length : Int) := by omega
      by_cases h5 : a < 500
      · have h5' : (a : Int) < 500 := by omega
        obtain ⟨b, g, o, x2, x3, x4, A', c', hb, rfl, hg, k0, k1, k2, k3, k4, k5, hr⟩ := kid (rd_nb H.out (nextB HWV.out HB.out)) hlt
        have hmem := List.mem_of_getElem? hb
        have hk := sz_kid hmem
        have HF := Lib.hid (HI.out b hmem (by omega) _ wr ⟨x2, x3, x4, A', c', rfl, hr⟩)
        have HT := Lib.hid (sum_take f.args hb)
        clear hb hr hmem
        go_wp2_with fail
        refine HF.out.mono ?_
        rintro e1 w1 ⟨x, rfl, hx1, hx2, hbw⟩
        have HX := Lib.hid hx2
        have HB2 := Lib.hid (nextB HB.out hbw)
        clear HF hbw HB k0 k1 k2 k3 k4 k5 p0 p1 p2 p3 p4 p5 hx2
        go_wp2
        go_roundw
        case rel =>
          refine ⟨i + 1, a + x, by omega, by go_num, by go_num, ⟨?_, fun h => ?_⟩, HB2.out⟩
          · have := HA.out.1; have := HT.out; omega
          · have := HA.out.2 (by omega); have := HT.out; have := HX.out (by omega); omega
        case measure => simp [intOf] <;> omega
      · have h5' : ¬ (a : Int) < 500 := by omega
        go_wp2
        go_ret
        refine ⟨a, rfl, ?_, fun h => by omega, nextB HWV.out HB.out⟩
        have h1 := HA.out.1
        have h2 := sum_take_le f.args i
        have h3 := HZ.out
        omega
    · obtain rfl : i = f.args.length := by omega
      go_wp2
      go_ret
      have h1 := HA.out
      rw [List.take_length] at h1
      have h3 := HZ.out
      exact ⟨a, rfl, by omega, fun h => by have := h1.2 h; omega, nextB HWV.out HB.out⟩

def DepOut (d : Nat) (w : World) (e : Ending) (w' : World) : Prop := ∃ x : Nat, e = .returned (.int .i64 (x : Int)) ∧ (1 ≤ x ∧ x ≤ d) ∧ Below w.heap.size w w'
set_option maxHeartbeats 4000000 in
theorem depth_ref {S : Nat → Prop} : ∀ (d m : Nat), d ≤ m → m ≤ 201 → ∀ (f : Fm), Deep d f → ∀ (v : Array Value) (w : World), FV S w f v → Calls Try.prog 23 #[.agg v, .int .i64 (m : Int)] w (DepOut d w) := by
  intro d
  induction d with
  | zero => intro m _ _ f h; obtain ⟨_, e, _⟩ := h.args; omega
  | succ d ih =>
    intro m hdm hm f hd v w hw
    obtain ⟨d', e, hds⟩ := hd.args
    obtain rfl : d' = d := by omega
    clear hd
    obtain ⟨va, vb, vc, B, c, rfl, hr⟩ := hw
    obtain ⟨v, hv⟩ : ∃ v, w.alloc (.cells #[.int .i64 f.op, .int .i64 f.num, va, vb, vc, .slice B f.args.length c] 27) = v := ⟨_, rfl⟩
    obtain ⟨hvs, hwv, hbx⟩ := box6 w _ _ _ _ _ _ _ v hv
    have hcap := rd_caps hr
    unfold maxLen at hcap
    have HBX := Lib.hid hbx
    have HVV := Lib.hid hv
    have HWV := Lib.hid hwv
    have H := Lib.hid hr
    have HI := Lib.hid (ih (m - 1) (by omega) (by omega))
    have HD := Lib.hid hds
    have e1 : (m : Int) - 1 = ((m - 1 : Nat) : Int) := by omega
    have hn0 : d' = 0 → f.args.length = 0 := fun h0 => by
      subst h0
      rcases Nat.eq_zero_or_pos f.args.length with h1 | h1
      · exact h1
      · obtain ⟨_, e, _⟩ := (hds _ (List.getElem_mem h1)).args; omega
    clear hr hv hwv hbx ih hds e
    by_cases hm1 : m = 1
    · subst hm1
      clear hn0
      go_enter Try.func23, Try.ntmps23
      go_wp2
      rw [HVV.out]
      go_ret
      exact ⟨1, rfl, by omega, HWV.out⟩
    · have hmm : ¬ (m : Int) ≤ 1 := by omega
      clear hn0
      go_enter Try.func23, Try.ntmps23
      go_wp2
      rw [HVV.out]
      go_loopw [5, 6] (fun dv iv wr => ∃ i a : Nat, i ≤ f.args.length ∧ iv = .int .i64 i ∧ dv = .int .i64 a ∧ Hid (a ≤ d' ∧ Below v.heap.size v wr)) (fun _ iv _ => f.args.length - (intOf iv).toNat)
      case atStart => exact ⟨0, 0, Nat.zero_le _, rfl, rfl, Nat.zero_le _, Below.refl _ _⟩
      case round =>
        obtain ⟨i, a, hi, rfl, rfl, HAB⟩ := hrel
        have ha := HAB.out.1
        have HB := Lib.hid HAB.out.2
        clear HAB
        obtain ⟨p0, p1, p2, p3, p4, p5⟩ := HBX.out wr HB.out
        by_cases hlt : i < f.args.length
        · have hlt' : (i : Int) < (f.args.length : Int) := by omega
          obtain ⟨b, g, o, x2, x3, x4, A', c', hb, rfl, hg, k0, k1, k2, k3, k4, k5, hr⟩ := kid (rd_nb H.out (nextB HWV.out HB.out)) hlt
          have HF := Lib.hid (HI.out b (HD.out b (List.mem_of_getElem? hb)) _ wr ⟨x2, x3, x4, A', c', rfl, hr⟩)
          clear hb hr
          go_wp2_with fail
          refine HF.out.mono ?_
          rintro e2 w1 ⟨x, rfl, ⟨hx1, hx2⟩, hbw⟩
          have HB2 := Lib.hid (nextB HB.out hbw)
          clear HF hbw HB k0 k1 k2 k3 k4 k5 p0 p1 p2 p3 p4 p5
          by_cases hax : a < x
          · go_wp2
            go_roundw
            case rel => exact ⟨i + 1, x, by omega, by go_num, rfl, by omega, HB2.out⟩
            case measure => simp [intOf] <;> omega
          · go_wp2
            go_roundw
            case rel => exact ⟨i + 1, a, by omega, by go_num, rfl, by omega, HB2.out⟩
            case measure => simp [intOf] <;> omega
        · obtain rfl : i = f.args.length := by omega
          go_wp2
          go_ret
          exact ⟨a + 1, by go_num, by omega, nextB HWV.out HB.out⟩

def ArOut (p : Fm → Bool) (f : Fm) (w : World) (e : Ending) (w' : World) : Prop := e = .returned (.bool (al p f)) ∧ Below w.heap.size w w'
set_option maxHeartbeats 4000000 in
theorem arities_ref {S : Nat → Prop} : ∀ (f : Fm) (v : Array Value) (w : World), FV S w f v → Calls Try.prog 24 #[.agg v] w (ArOut (fun x => !broken x) f w) := by
  refine Fm.ind' fun f ih => ?_
  intro v w hw
  obtain ⟨va, vb, vc, B, d, rfl, hr⟩ := hw
  obtain ⟨v, hv⟩ : ∃ v, w.alloc (.cells #[.int .i64 f.op, .int .i64 f.num, va, vb, vc, .slice B f.args.length d] 27) = v := ⟨_, rfl⟩
  obtain ⟨hvs, hwv, hbx⟩ := box6 w _ _ _ _ _ _ _ v hv
  have hcap := rd_caps hr
  unfold maxLen at hcap
  obtain ⟨p0, p1, p2, p3, p4, p5⟩ := hbx v (Below.refl _ _)
  have HBX := Lib.hid hbx
  have HVV := Lib.hid hv
  have HWV := Lib.hid hwv
  have H := Lib.hid hr
  have HI := Lib.hid ih
  have HZ := Lib.hid (al_eq (fun x => !broken x) f)
  clear hr hv hwv hbx ih
  have HQA := Lib.hid fun m => (show Calls Try.prog 37 #[.int .i64 f.op] (v.drewN m) fun e w2 => e = .returned (.int .i64 (arity f.op)) ∧ ∃ j, w2 = v.drewN j from (arity_ref f.op (v.drewN m)).mono fun _ w' ⟨h1, h2⟩ => ⟨h1, m, h2⟩)
  by_cases hbr : arity f.op = (f.args.length : Int)
  · have HR := Lib.hid (show broken f = false by simp [broken, hbr])
    go_enter Try.func24, Try.ntmps24
    go_wp2_with fail
    rw [HVV.out]
    go_quiet (with_reducible exact HQA.out _)
    go_wp2_with fail
    clear hbr HQA
    go_loopw [3] (fun iv wr => ∃ i : Nat, i ≤ f.args.length ∧ iv = .int .i64 i ∧ Hid ((∀ j a, j < i → f.args[j]? = some a → al (fun x => !broken x) a = true) ∧ Below v.heap.size v wr))
      (fun iv _ => f.args.length - (intOf iv).toNat)
    case atStart => exact ⟨0, Nat.zero_le _, rfl, fun j a h => absurd h (by omega), drewN_below (Below.refl _ _) _⟩
    case round =>
      obtain ⟨i, hi, rfl, HAB⟩ := hrel
      have HA := Lib.hid HAB.out.1
      have HB := Lib.hid HAB.out.2
      clear HAB p0 p1 p2 p3 p4 p5
      obtain ⟨p0, p1, p2, p3, p4, p5⟩ := HBX.out wr HB.out
      by_cases hlt : i < f.args.length
      · have hlt' : (i : Int) < (f.args.length : Int) := by omega
        obtain ⟨b, g, o, x2, x3, x4, A', c', hb, rfl, hg, k0, k1, k2, k3, k4, k5, hr⟩ := kid (rd_nb H.out (nextB HWV.out HB.out)) hlt
        have HF := Lib.hid (HI.out b (List.mem_of_getElem? hb) _ wr ⟨x2, x3, x4, A', c', rfl, hr⟩)
        have HK := Lib.hid hb
        clear hr hb
        go_wp2_with fail
        refine HF.out.mono ?_
        rintro e1 w1 ⟨rfl, hbw⟩
        have HB2 := Lib.hid (nextB HB.out hbw)
        clear HF hbw HB k0 k1 k2 k3 k4 k5 p0 p1 p2 p3 p4 p5
        cases hq : al (fun x => !broken x) b with
        | true =>
          have HQ := Lib.hid hq
          clear hq
          go_wp2
          go_roundw
          case rel =>
            refine ⟨i + 1, by omega, by go_num, fun j a hj ha => ?_, HB2.out⟩
            by_cases e : j = i
            · subst e
              rw [HK.out] at ha; cases ha; exact HQ.out
            · exact HA.out j a (by omega) ha
          case measure => simp [intOf] <;> omega
        | false =>
          have HQ := Lib.hid hq
          clear hq
          go_wp2
          go_ret
          refine ⟨ret_bool ?_, nextB HWV.out HB2.out⟩
          rw [HZ.out]
          symm
          rw [Bool.and_eq_false_iff]
          right
          rw [List.all_eq_false]
          exact ⟨b, List.mem_of_getElem? HK.out, by rw [HQ.out]; simp⟩
      · obtain rfl : i = f.args.length := by omega
        go_wp2
        go_ret
        refine ⟨ret_bool ?_, nextB HWV.out HB.out⟩
        rw [HZ.out, HR.out]
        symm
        simp only [Bool.not_false, Bool.true_and, List.all_eq_true]
        intro a ha
        obtain ⟨j, hj, rfl⟩ := List.getElem_of_mem ha
        exact HA.out j _ hj (List.getElem?_eq_getElem hj)
  · have HR := Lib.hid (show broken f = true by simp [broken]; omega)
    go_enter Try.func24, Try.ntmps24
    go_wp2_with fail
    rw [HVV.out]
    go_quiet (with_reducible exact HQA.out _)
    go_wp2
    go_ret
    refine ⟨ret_bool ?_, drewN_below HWV.out _⟩
    rw [HZ.out, HR.out]
    rfl

def ExOut (f : Fm) (w : World) (e : Ending) (w' : World) : Prop := ∃ M L : Int, e = .returned (.tuple #[.int .i64 M, .int .i64 L, .bool (!al (fun x => !decide (x.op = 2)) f)]) ∧ (∀ n : Nat, (0 ≤ L ∧ M < n) ↔ al (fun x => !unknown n x) f = true) ∧ Below w.heap.size w w'

theorem all_take (p : Fm → Bool) (xs : List Fm) {i : Nat} {a : Fm} (h : xs[i]? = some a) : (xs.take (i + 1)).all (al p) = ((xs.take i).all (al p) && al p a) := by
  rw [List.take_add_one, h]; simp
set_option maxHeartbeats 4000000 in
theorem extremes_ref {S : Nat → Prop} : ∀ (f : Fm) (v : Array Value) (w : World), FV S w f v → Calls Try.prog 25 #[.agg v] w (ExOut f w) := by
  refine Fm.ind' fun f ih => ?_
  intro v w hw
  obtain ⟨va, vb, vc, B, d, rfl, hr⟩ := hw
  obtain ⟨v, hv⟩ : ∃ v, w.alloc (.cells #[.int .i64 f.op, .int .i64 f.num, va, vb, vc, .slice B f.args.length d] 27) = v := ⟨_, rfl⟩
  obtain ⟨hvs, hwv, hbx⟩ := box6 w _ _ _ _ _ _ _ v hv
  have hcap := rd_caps hr
  unfold maxLen at hcap
  obtain ⟨p0, p1, p2, p3, p4, p5⟩ := hbx v (Below.refl _ _)
  have HBX := Lib.hid hbx
  have HVV := Lib.hid hv
  have HWV := Lib.hid hwv
  have H := Lib.hid hr
  have HI := Lib.hid ih
  have HZ := Lib.hid fun p => al_eq p f
  clear hr hv hwv hbx ih
  by_cases e3 : f.op = 3
  · have UN : ∀ n : Nat, (0 ≤ f.num ∧ f.num < n) ↔ unknown n f = false := fun n => by simp [unknown, e3]
    have DQ : decide (f.op = 2) = false := by simp [e3]
    have E3 := Lib.hid e3
    rw [e3] at p0
    clear e3
    go_enter Try.func25, Try.ntmps25
    go_wp2_with fail
    rw [HVV.out]
    go_quiet (fail)
    go_wp2_with fail
    go_quiet (fail)
    go_wp2_with fail

    go_loopw [5, 6, 7, 8] (fun mv lv rv iv wr => ∃ (i : Nat) (M L : Int) (R : Bool), i ≤ f.args.length ∧ iv = .int .i64 i ∧ mv = .int .i64 M ∧ lv = .int .i64 L ∧ rv = .bool R ∧
        Hid ((R = (decide (f.op = 2) || !(f.args.take i).all (al fun x => !decide (x.op = 2)))) ∧ (∀ n : Nat, (0 ≤ L ∧ M < n) ↔ (unknown n f = false ∧ (f.args.take i).all (al fun x => !unknown n x) = true)) ∧ Below v.heap.size v wr))
      (fun _ _ _ iv _ => f.args.length - (intOf iv).toNat)
    case atStart => exact ⟨0, _, _, _, Nat.zero_le _, rfl, rfl, rfl, rfl, by rw [DQ]; rfl, fun n => by simpa using UN n, drewN_below (drewN_below (Below.refl _ _) _) _⟩
    case round =>
      obtain ⟨i, M, L, R, hi, rfl, rfl, rfl, rfl, HAB⟩ := hrel
      have HR := Lib.hid HAB.out.1
      have HU := Lib.hid HAB.out.2.1
      have HB := Lib.hid HAB.out.2.2
      clear HAB p0 p1 p2 p3 p4 p5
      obtain ⟨p0, p1, p2, p3, p4, p5⟩ := HBX.out wr HB.out
      by_cases hlt : i < f.args.length
      · have hlt' : (i : Int) < (f.args.length : Int) := by omega
        obtain ⟨b, g, o, x2, x3, x4, A', c', hb, rfl, hg, k0, k1, k2, k3, k4, k5, hr⟩ := kid (rd_nb H.out (nextB HWV.out HB.out)) hlt
        have HF := Lib.hid (HI.out b (List.mem_of_getElem? hb) _ wr ⟨x2, x3, x4, A', c', rfl, hr⟩)
        have HT := Lib.hid (fun p => all_take p f.args hb)
        clear hr hb
        go_wp2_with fail
        refine HF.out.mono ?_
        rintro e1 w1 ⟨M1, L1, rfl, hu1, hbw⟩
        have HB2 := Lib.hid (nextB HB.out hbw)
        have HU1 := Lib.hid hu1
        clear HF hbw HB k0 k1 k2 k3 k4 k5 p0 p1 p2 p3 p4 p5 hu1
        have nxt : ∀ (M' L' : Int) (R' : Bool), M' = max M M1 → L' = min L L1 → R' = (R || !al (fun x => !decide (x.op = 2)) b) →
            (R' = (decide (f.op = 2) || !(f.args.take (i + 1)).all (al fun x => !decide (x.op = 2)))) ∧ (∀ n : Nat, (0 ≤ L' ∧ M' < n) ↔ (unknown n f = false ∧ (f.args.take (i + 1)).all (al fun x => !unknown n x) = true)) ∧ Below v.heap.size v w1 := by
          rintro M' L' R' rfl rfl rfl
          refine ⟨?_, fun n => ?_, HB2.out⟩
          · rw [HT.out, HR.out]
            cases decide (f.op = 2) <;> cases (f.args.take i).all (al fun x => !decide (x.op = 2)) <;> cases al (fun x => !decide (x.op = 2)) b <;> rfl
          · rw [HT.out, Bool.and_eq_true, ← and_assoc, ← HU.out n, ← HU1.out n]
            omega
        have NX := Lib.hid nxt
        clear nxt
        by_cases hM : M < M1 <;> by_cases hL : L1 < L <;> cases R
        all_goals
          go_wp2
          go_roundw
          case rel => exact ⟨i + 1, _, _, _, by omega, by go_num, rfl, rfl, rfl, NX.out _ _ _ (by omega) (by omega) rfl⟩
          case measure => simp [intOf] <;> omega
      · obtain rfl : i = f.args.length := by omega
        go_wp2
        all_goals
          go_ret3
          refine ⟨M, L, ?_, fun n => ?_, nextB HWV.out HB.out⟩
          · rw [HZ.out, HR.out, List.take_length]
            cases decide (f.op = 2) <;> rfl
          · rw [HZ.out, HU.out, List.take_length]
            simp
  · have UN : ∀ n : Nat, ((0 : Int) ≤ 0 ∧ (-1 : Int) < n) ↔ unknown n f = false := fun n => by simp [unknown, e3]; omega
    have h3 : ¬ (f.op = 3) := e3
    by_cases h2 : f.op = 2
    · have DQ : decide (f.op = 2) = true := by simp [h2]
      rw [h2] at p0
      have DQ' := DQ
      clear h3 e3 h2
      go_enter Try.func25, Try.ntmps25
      go_wp2_with fail
      rw [HVV.out]
      go_quiet (fail)
      go_wp2_with fail
      go_loopw [5, 6, 7, 8] (fun mv lv rv iv wr => ∃ (i : Nat) (M L : Int) (R : Bool), i ≤ f.args.length ∧ iv = .int .i64 i ∧ mv = .int .i64 M ∧ lv = .int .i64 L ∧ rv = .bool R ∧
          Hid ((R = (decide (f.op = 2) || !(f.args.take i).all (al fun x => !decide (x.op = 2)))) ∧ (∀ n : Nat, (0 ≤ L ∧ M < n) ↔ (unknown n f = false ∧ (f.args.take i).all (al fun x => !unknown n x) = true)) ∧ Below v.heap.size v wr))
        (fun _ _ _ iv _ => f.args.length - (intOf iv).toNat)
      case atStart => exact ⟨0, _, _, _, Nat.zero_le _, rfl, rfl, rfl, rfl, by rw [DQ]; rfl, fun n => by simpa using UN n, drewN_below (Below.refl _ _) _⟩
      case round =>
        obtain ⟨i, M, L, R, hi, rfl, rfl, rfl, rfl, HAB⟩ := hrel
        have HR := Lib.hid HAB.out.1
        have HU := Lib.hid HAB.out.2.1
        have HB := Lib.hid HAB.out.2.2
        clear HAB p0 p1 p2 p3 p4 p5
        obtain ⟨p0, p1, p2, p3, p4, p5⟩ := HBX.out wr HB.out
        by_cases hlt : i < f.args.length
        · have hlt' : (i : Int) < (f.args.length : Int) := by omega
          obtain ⟨b, g, o, x2, x3, x4, A', c', hb, rfl, hg, k0, k1, k2, k3, k4, k5, hr⟩ := kid (rd_nb H.out (nextB HWV.out HB.out)) hlt
          have HF := Lib.hid (HI.out b (List.mem_of_getElem? hb) _ wr ⟨x2, x3, x4, A', c', rfl, hr⟩)
          have HT := Lib.hid (fun p => all_take p f.args hb)
          clear hr hb
          go_wp2_with fail
          refine HF.out.mono ?_
          rintro e1 w1 ⟨M1, L1, rfl, hu1, hbw⟩
          have HB2 := Lib.hid (nextB HB.out hbw)
          have HU1 := Lib.hid hu1
          clear HF hbw HB k0 k1 k2 k3 k4 k5 p0 p1 p2 p3 p4 p5 hu1
          have nxt : ∀ (M' L' : Int) (R' : Bool), M' = max M M1 → L' = min L L1 → R' = (R || !al (fun x => !decide (x.op = 2)) b) →
              (R' = (decide (f.op = 2) || !(f.args.take (i + 1)).all (al fun x => !decide (x.op = 2)))) ∧ (∀ n : Nat, (0 ≤ L' ∧ M' < n) ↔ (unknown n f = false ∧ (f.args.take (i + 1)).all (al fun x => !unknown n x) = true)) ∧ Below v.heap.size v w1 := by
            rintro M' L' R' rfl rfl rfl
            refine ⟨?_, fun n => ?_, HB2.out⟩
            · rw [HT.out, HR.out]
              cases decide (f.op = 2) <;> cases (f.args.take i).all (al fun x => !decide (x.op = 2)) <;> cases al (fun x => !decide (x.op = 2)) b <;> rfl
            · rw [HT.out, Bool.and_eq_true, ← and_assoc, ← HU.out n, ← HU1.out n]
              omega
          have NX := Lib.hid nxt
          clear nxt
          by_cases hM : M < M1 <;> by_cases hL : L1 < L <;> cases R
          all_goals
            go_wp2
            go_roundw
            case rel => exact ⟨i + 1, _, _, _, by omega, by go_num, rfl, rfl, rfl, NX.out _ _ _ (by omega) (by omega) rfl⟩
            case measure => simp [intOf] <;> omega
        · obtain rfl : i = f.args.length := by omega
          go_wp2
          all_goals
            go_ret3
            refine ⟨M, L, ?_, fun n => ?_, nextB HWV.out HB.out⟩
            · rw [HZ.out, HR.out, List.take_length]
              cases decide (f.op = 2) <;> rfl
            · rw [HZ.out, HU.out, List.take_length]
              simp
    · have DQ : decide (f.op = 2) = false := by simp [h2]
      have b2 : (f.op == 2) = false := by simpa using h2
      have b3 : (f.op == 3) = false := by simpa using h3
      go_enter Try.func25, Try.ntmps25
      go_wp2_with fail
      rw [HVV.out]
      go_quiet (fail)
      go_wp2_with fail
      clear e3 h3 h2
      go_loopw [5, 6, 7, 8] (fun mv lv rv iv wr => ∃ (i : Nat) (M L : Int) (R : Bool), i ≤ f.args.length ∧ iv = .int .i64 i ∧ mv = .int .i64 M ∧ lv = .int .i64 L ∧ rv = .bool R ∧
          Hid ((R = (decide (f.op = 2) || !(f.args.take i).all (al fun x => !decide (x.op = 2)))) ∧ (∀ n : Nat, (0 ≤ L ∧ M < n) ↔ (unknown n f = false ∧ (f.args.take i).all (al fun x => !unknown n x) = true)) ∧ Below v.heap.size v wr))
        (fun _ _ _ iv _ => f.args.length - (intOf iv).toNat)
      case atStart => exact ⟨0, _, _, _, Nat.zero_le _, rfl, rfl, rfl, rfl, by rw [DQ]; rfl, fun n => by simpa using UN n, drewN_below (Below.refl _ _) _⟩
      case round =>
        obtain ⟨i, M, L, R, hi, rfl, rfl, rfl, rfl, HAB⟩ := hrel
        have HR := Lib.hid HAB.out.1
        have HU := Lib.hid HAB.out.2.1
        have HB := Lib.hid HAB.out.2.2
        clear HAB p0 p1 p2 p3 p4 p5
        obtain ⟨p0, p1, p2, p3, p4, p5⟩ := HBX.out wr HB.out
        by_cases hlt : i < f.args.length
        · have hlt' : (i : Int) < (f.args.length : Int) := by omega
          obtain ⟨b, g, o, x2, x3, x4, A', c', hb, rfl, hg, k0, k1, k2, k3, k4, k5, hr⟩ := kid (rd_nb H.out (nextB HWV.out HB.out)) hlt
          have HF := Lib.hid (HI.out b (List.mem_of_getElem? hb) _ wr ⟨x2, x3, x4, A', c', rfl, hr⟩)
          have HT := Lib.hid (fun p => all_take p f.args hb)
          clear hr hb
          go_wp2_with fail
          refine HF.out.mono ?_
          rintro e1 w1 ⟨M1, L1, rfl, hu1, hbw⟩
          have HB2 := Lib.hid (nextB HB.out hbw)
          have HU1 := Lib.hid hu1
          clear HF hbw HB k0 k1 k2 k3 k4 k5 p0 p1 p2 p3 p4 p5 hu1
          have nxt : ∀ (M' L' : Int) (R' : Bool), M' = max M M1 → L' = min L L1 → R' = (R || !al (fun x => !decide (x.op = 2)) b) →
              (R' = (decide (f.op = 2) || !(f.args.take (i + 1)).all (al fun x => !decide (x.op = 2)))) ∧ (∀ n : Nat, (0 ≤ L' ∧ M' < n) ↔ (unknown n f = false ∧ (f.args.take (i + 1)).all (al fun x => !unknown n x) = true)) ∧ Below v.heap.size v w1 := by
            rintro M' L' R' rfl rfl rfl
            refine ⟨?_, fun n => ?_, HB2.out⟩
            · rw [HT.out, HR.out]
              cases decide (f.op = 2) <;> cases (f.args.take i).all (al fun x => !decide (x.op = 2)) <;> cases al (fun x => !decide (x.op = 2)) b <;> rfl
            · rw [HT.out, Bool.and_eq_true, ← and_assoc, ← HU.out n, ← HU1.out n]
              omega
          have NX := Lib.hid nxt
          clear nxt
          by_cases hM : M < M1 <;> by_cases hL : L1 < L <;> cases R
          all_goals
            go_wp2
            go_roundw
            case rel => exact ⟨i + 1, _, _, _, by omega, by go_num, rfl, rfl, rfl, NX.out _ _ _ (by omega) (by omega) rfl⟩
            case measure => simp [intOf] <;> omega
        · obtain rfl : i = f.args.length := by omega
          go_wp2
          all_goals
            go_ret3
            refine ⟨M, L, ?_, fun n => ?_, nextB HWV.out HB.out⟩
            · rw [HZ.out, HR.out, List.take_length]
              cases decide (f.op = 2) <;> rfl
            · rw [HZ.out, HU.out, List.take_length]
              simp
end Fx
end Go.Proofs.Ytlhncmnhpnhfhaa
