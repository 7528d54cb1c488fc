/-
  The iterator over the parts of a form: visitPart, parts.
-/
import Derived.RangeFuncNested
import Derived.RangeFuncBound
import Derived.RangeFuncCalls
import Derived.RangeFuncLeaves
import Derived.Shelf.Abstract
import Derived.Shelf.RegionOpen
import Derived.WalkKit
import Derived.OwnWalkIn
import Derived.TacticsInMore
import Derived.LoopNIn
import Derived.LoopIn
import Derived.Test.YtlhncmnhpnhfhaaFxA
namespace Go.Proofs.Ytlhncmnhpnhfhaa
open Go Go.RowKit Go.Shelf
set_option maxRecDepth 20000
attribute [local go_sem] Oper.semAt_some
namespace Fx

theorem YieldAt.wide {m m' : Nat} {P : Program} {l : Nat} {args : Array Value} {W : World} {R : Ending → World → Prop} (h : YieldAt Fence.wide m P l args W R) : YieldAt Fence.wide m' P l args W R := by
  obtain ⟨fn, tmps, assign, body, hy, hR⟩ := h
  exact ⟨fn, tmps, assign, body, hy, hR.1, fun c cs _ => hR.2 c cs (room_wide _)⟩

/-- A part of a form: its level, and where it lies. -/
structure Pt (n₀ : Nat) (W0 : World) where
  lv : Nat
  g : Nat
  o : Nat
  f : Fm
  at_ : FAt (Lo n₀) W0 f g o
def Pt.key {n₀ : Nat} {W0 : World} (p : Pt n₀ W0) : Nat × Fm := (p.lv, p.f)
abbrev Pt.encs {n₀ : Nat} {W0 : World} (p : Pt n₀ W0) : Array Value := #[.int .i64 p.lv, .pointer (some ⟨p.g, p.o, none⟩)]

theorem flat_next {α β : Type} (F : α → List β) {l : List α} {i : Nat} {a : α} (h : l[i]? = some a) : (l.take (i + 1)).flatMap F = (l.take i).flatMap F ++ F a := by
  rw [List.take_add_one, h]; simp
theorem flat_split {α β : Type} (F : α → List β) {l : List α} {i : Nat} {a : α} (h : l[i]? = some a) : l.flatMap F = (l.take i).flatMap F ++ F a ++ (l.drop (i + 1)).flatMap F := by
  rw [← flat_next F h, ← List.flatMap_append, List.take_append_drop]

set_option maxHeartbeats 2000000 in
theorem visit_in {n₀ N deepest l : Nat} {W0 : World} {J Jx : List (Pt n₀ W0) → World → Prop} (hD : deepest ≤ 1000)
    (hY : ∀ m pre x W, J pre W → pre.length < N → YieldAt Fence.wide m Try.prog l (Pt.encs x) W fun e W' =>
      (e = .returned (.bool true) ∧ J (pre ++ [x]) W' ∧ Below n₀ W W') ∨ (e = .returned (.bool false) ∧ Jx (pre ++ [x]) W')) :
    ∀ (k lv : Nat) (f : Fm) (g o n : Nat) (pre : List (Pt n₀ W0)) (W : World), FAt (Lo n₀) W0 f g o → Below n₀ W0 W → lv + k = deepest + 1 → J pre W → pre.length + (parts k lv f).length ≤ N →
      CallsIn Fence.wide n Try.prog 45 #[.pointer (some ⟨g, o, none⟩), .int .i64 lv, .int .i64 deepest, .func (.yield l) #[] #[]] W fun e W' =>
        (e = .returned (.bool true) ∧ (∃ ys, ys.map Pt.key = parts k lv f ∧ J (pre ++ ys) W') ∧ Below n₀ W W') ∨ (e = .returned (.bool false) ∧ ∃ ys, ys.map Pt.key <+: parts k lv f ∧ Jx (pre ++ ys) W') := by
  intro k
  induction k with
  | zero =>
    intro lv f g o n pre W hf hb hk hJ hN
    have e1 : (deepest : Int) < (lv : Int) := by omega
    clear hY hk
    refine callsIn_of_wp Try.func45 rfl trivial ?_ rfl
    simp only [Try.ntmps45, List.size_toArray, List.length_cons, List.length_nil, Nat.reduceAdd, Nat.reduceSub, Array.replicate_succ, Array.replicate_zero, List.push_toArray, List.append_toArray, List.nil_append, List.cons_append]
    gi_wp2
    go_ret
    exact .inl ⟨rfl, ⟨[], by simp [parts], by simpa using hJ⟩, Below.refl _ _⟩
  | succ k ih =>
    intro lv f g o n pre W hf hb hk hJ hN
    have e1 : ¬ (deepest : Int) < (lv : Int) := by omega
    have hlt : pre.length < N := by simp [parts] at hN; omega
    obtain ⟨fn, tmps, assign, body, hy, hR⟩ := hY (n - 1) pre ⟨lv, g, o, f, hf⟩ W hJ hlt
    dsimp only [Pt.encs] at hy
    refine callsIn_of_wp Try.func45 rfl trivial ?_ rfl
    simp only [Try.ntmps45, List.size_toArray, List.length_cons, List.length_nil, Nat.reduceAdd, Nat.reduceSub, Array.replicate_succ, Array.replicate_zero, List.push_toArray, List.append_toArray, List.nil_append, List.cons_append]
    obtain ⟨A, c, h50, hr50⟩ := hf.c5
    have hcap := rd_caps hr50
    unfold maxLen at hcap
    have h5 : ∀ W', Below n₀ W0 W' → W'.cell? ⟨g, o + 5, none⟩ = some (.slice A f.args.length c) := fun W' h => (h.cell (p := ⟨g, o + 5, none⟩) hf.inS).trans h50
    gi_wp2_with (refine ⟨fun h => (by cases h), ?_⟩; refine hR.mono ?_; clear hR; rintro e W2 (⟨rfl, hJ2, hb2⟩ | ⟨rfl, hx2⟩); (have h52 := h5 W2 (hb.trans hb2)))
    · have HY := Lib.hid hY
      clear hy hY h52
      gi_loopw [23] (fun p wr => ∃ i : Nat, p = .int .i64 i ∧ i ≤ f.args.length ∧ (∃ ys, ys.map Pt.key = (lv, f) :: (f.args.take i).flatMap (parts k (lv + 1)) ∧ J (pre ++ ys) wr) ∧ Below n₀ W wr)
        (fun p _ => f.args.length - (intOf p).toNat)
      case atStart =>
        exact ⟨0, rfl, Nat.zero_le _, ⟨[⟨lv, g, o, f, hf⟩], by simp [Pt.key], hJ2⟩, hb2⟩
      case round =>
        obtain ⟨i, rfl, hi, ⟨ys, hys, hJs⟩, hbs⟩ := hrel
        have h5w := h5 wr (hb.trans hbs)
        by_cases hlt2 : i < f.args.length
        · have hl1 : (i : Int) < (f.args.length : Int) := by omega
          obtain ⟨a, ha⟩ : ∃ a, f.args[i]? = some a := ⟨_, List.getElem?_eq_getElem hlt2⟩
          obtain ⟨g', o', rfl, hfa⟩ := rd_at hr50 ha
          have hsp := flat_split (parts k (lv + 1)) ha
          have hlen := congrArg List.length hys
          have ic := ih (lv + 1) a g' (o' + i * 6) (n - 1) (pre ++ ys) wr hfa (hb.trans hbs) (by omega) hJs (by
            simp only [parts, List.length_cons, hsp, List.length_append] at hN
            simp only [List.length_map, List.length_cons] at hlen
            simp only [List.length_append]
            omega)
          simp only [Int.natCast_add, Int.natCast_one] at ic
          have hlv : (lv : Int) + 1 ≤ 1001 := by omega
          have hfn : Fence.wide.fn 45 := trivial
          have HS := Lib.hid hsp
          have HL := Lib.hid hlen
          have HYS := Lib.hid hys
          have HA := Lib.hid ha
          clear hsp hlen hys ha
          gi_wp2_with (refine ⟨fun h => (by cases h), ?_⟩; gi_at_call 45; refine ic.mono ?_; clear ic; rintro e W3 (⟨rfl, ⟨zs, hzs, hJ3⟩, hb3⟩ | ⟨rfl, zs, hzs, hx3⟩))
          · gi_wp2
            go_roundw
            case rel =>
              refine ⟨i + 1, by simp, by omega, ⟨ys ++ zs, ?_, by simpa using hJ3⟩, hbs.trans hb3⟩
              rw [flat_next _ HA.out, List.map_append, HYS.out, hzs]; simp
            case measure => simp [intOf]; omega
          · gi_wp2
            go_ret
            refine .inr ⟨rfl, ys ++ zs, ?_, by simpa using hx3⟩
            obtain ⟨r, hr⟩ := hzs
            refine ⟨r ++ (f.args.drop (i + 1)).flatMap (parts k (lv + 1)), ?_⟩
            simp only [parts, HS.out, List.map_append, HYS.out, ← hr]; simp
        · obtain rfl : i = f.args.length := by omega
          gi_wp2
          go_ret
          refine .inl ⟨rfl, ⟨ys, ?_, hJs⟩, hbs⟩
          rw [hys, List.take_length]; simp [parts]
    · gi_wp2
      go_ret
      exact .inr ⟨rfl, [⟨lv, g, o, f, hf⟩], ⟨f.args.flatMap (parts k (lv + 1)), by simp [parts, Pt.key]⟩, by simpa using hx2⟩

set_option maxHeartbeats 1000000 in
theorem parts1_in {n₀ deepest l Bf Bd g o n : Nat} {W0 : World} {f : Fm} {J Jx : List (Pt n₀ W0) → World → Prop} (hD : deepest ≤ 1000) (hf : FAt (Lo n₀) W0 f g o)
    (hY : ∀ m pre x W, J pre W → pre.length < (parts deepest 1 f).length → YieldAt Fence.wide m Try.prog l (Pt.encs x) W fun e W' =>
      (e = .returned (.bool true) ∧ J (pre ++ [x]) W' ∧ Below n₀ W W') ∨ (e = .returned (.bool false) ∧ Jx (pre ++ [x]) W'))
    (W : World) (hb : Below n₀ W0 W) (cf : W.cell? ⟨Bf, 0, none⟩ = some (.pointer (some ⟨g, o, none⟩))) (cd : W.cell? ⟨Bd, 0, none⟩ = some (.int .i64 deepest)) (h0 : J [] W) :
    CallsIn Fence.wide n Try.prog 44 #[.func (.yield l) #[] #[], .pointer (some ⟨Bf, 0, none⟩), .pointer (some ⟨Bd, 0, none⟩)] W fun e W' => (∃ v, e = .returned v) ∧
      ((∃ ys, ys.map Pt.key = parts deepest 1 f ∧ J ys W') ∨ (∃ ys, ys.map Pt.key <+: parts deepest 1 f ∧ Jx ys W')) := by
  have hv := visit_in hD hY deepest 1 f g o (n - 1) [] W hf hb (by omega) h0 (by simp)
  simp only [Int.natCast_one] at hv
  have hfn : Fence.wide.fn 45 := trivial
  refine callsIn_of_wp Try.func44 rfl trivial ?_ rfl
  simp only [Try.ntmps44, List.size_toArray, List.length_cons, List.length_nil, Nat.reduceAdd, Nat.reduceSub, Array.replicate_succ, Array.replicate_zero, List.push_toArray, List.append_toArray, List.nil_append, List.cons_append]
  gi_wp2_with (refine ⟨fun h => (by cases h), ?_⟩; gi_at_call 45; refine hv.mono ?_; clear hv; rintro e W3 (⟨rfl, ⟨zs, hzs, hJ3⟩, hb3⟩ | ⟨rfl, zs, hzs, hx3⟩))
  · go_end0
    exact ⟨⟨_, rfl⟩, .inl ⟨zs, hzs, by simpa using hJ3⟩⟩
  · go_end0
    exact ⟨⟨_, rfl⟩, .inr ⟨zs, hzs, by simpa using hx3⟩⟩

theorem parts_stops {n₀ deepest Bf Bd g o n : Nat} {W0 w : World} {f : Fm} (hD : deepest ≤ 1000) (hf : FAt (Lo n₀) W0 f g o) (hb : Below n₀ W0 w) (hn : n₀ ≤ w.heap.size)
    (hBf : Bf < w.heap.size) (hBd : Bd < w.heap.size) (cf : w.cell? ⟨Bf, 0, none⟩ = some (.pointer (some ⟨g, o, none⟩))) (cd : w.cell? ⟨Bd, 0, none⟩ = some (.int .i64 deepest)) :
    SeqStopsK Fence.wide n Try.prog 44 #[.pointer (some ⟨Bf, 0, none⟩), .pointer (some ⟨Bd, 0, none⟩)] (Pt.encs (n₀ := n₀) (W0 := W0)) (Below n₀)
      (fun ys => ys.map Pt.key = parts deepest 1 f) (fun ys => ys.map Pt.key <+: parts deepest 1 f) (parts deepest 1 f).length w := fun _l _J _Jx W hW _ _ hY h0 =>
  parts1_in hD hf (fun _ pre x W1 hj hl => YieldAt.wide (hY pre x W1 hj hl)) W (hb.trans (hW.mono hn)) ((hW.cell (p := ⟨Bf, 0, none⟩) hBf).trans cf) ((hW.cell (p := ⟨Bd, 0, none⟩) hBd).trans cd) h0

theorem parts_x (p : Option Addr) (d : Int) (w : World) : Calls Try.prog 32 #[.pointer p, .int .i64 d] w fun e w' =>
    e = .returned (.func (.func 44) #[] #[.pointer (some ⟨w.heap.size, 0, none⟩), .pointer (some ⟨w.heap.size + 1, 0, none⟩)]) ∧ w' = (w.alloc (.cells #[.pointer p] 53)).alloc (.cells #[.int .i64 d] 3) := by
  go_enter Try.func32, Try.ntmps32
  go_wp2
  go_ret
  exact ⟨rfl, rfl⟩
end Fx
end Go.Proofs.Ytlhncmnhpnhfhaa
