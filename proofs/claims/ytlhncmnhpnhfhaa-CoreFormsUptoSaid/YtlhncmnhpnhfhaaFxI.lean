/-
  Forms of every depth; lists of small numbers.
-/
import Derived.Test.YtlhncmnhpnhfhaaFxM
import Derived.Maps.AppendAt
import Derived.RangeFuncBox
namespace Go.Proofs.Ytlhncmnhpnhfhaa
open Go Go.RowKit Go.Shelf
set_option maxRecDepth 20000
namespace Fx

theorem form_x (nv : Nat) : ∀ d : Nat, 1 ≤ d → d ≤ 10 → ∀ (g m c : Nat) (ad : Addr) (w : World), Src w g → IntsAt w ad m 0 (nv - 1) → ad.block ≠ g → 0 < m → m ≤ 1000 →
    Calls Try.prog 9 #[.pointer (some ⟨g, 0, none⟩), .slice (some ad) m c, .int .i64 d] w (GivesF nv d w.heap.size g w) := by
  intro d h1
  induction d with
  | zero => omega
  | succ d ih =>
    intro h2 g m c ad w hs hI hne hm hm1
    by_cases hd : d = 0
    · subst hd
      exact form_base nv g m c ad w hs hI hne hm hm1
    · refine form_step nv d ((d + 1 : Nat) : Int) (by omega) (by omega) (fun g m c ad w a1 a2 a3 a4 a5 => ?_) g m c ad w hs hI hne hm hm1
      have := ih (by omega) (by omega) g m c ad w a1 a2 a3 a4 a5
      rw [show ((d + 1 : Nat) : Int) - 1 = (d : Int) by omega]
      exact this

/-- A list of n numbers from 0 to most, in a row of its own. -/
def GivesInts (n : Nat) (most : Int) (g : Nat) (w : World) (e : Ending) (w' : World) : Prop := ∃ (b c : Nat) (zs : List Int), e = .returned (.slice (some ⟨b, 0, none⟩) n c) ∧ w.heap.size ≤ b ∧ zs.length = n ∧ n ≤ c ∧ c ≤ maxLen ∧
  w'.ownsRow w.heap.size 3 1 (.slice (some ⟨b, 0, none⟩) n c) n (zs.map (.int .i64)) ∧ (∀ z ∈ zs, 0 ≤ z ∧ z ≤ most) ∧ Src w' g ∧ But g w w'

theorem infoInt' : (Try.prog.info? 3).map (fun i => (i.zero, i.size, i.bytes)) = some (some (.int .i64 0), 1, 8) := by kernel_rfl
theorem own_but {w w' : World} {base g sz n : Nat} {t : TypeId} {v : Value} {vs : List Value} (h : w.ownsRow base t sz v n vs) (hb : But g w w') (hg : g < base) : w'.ownsRow base t sz v n vs := by
  refine ⟨h.1, ?_⟩
  rcases h.2 with e | ⟨b, cap, cur, e, h1, h2, rest⟩
  · exact .inl e
  · exact .inr ⟨b, cap, cur, e, h1, (hb.block b (Array.getElem?_eq_some_iff.1 h2).1 (by omega)).trans h2, rest⟩
set_option maxHeartbeats 2000000 in
theorem ints_x (n : Nat) (most : Int) (g : Nat) (w : World) (hn : 0 < n) (hn1 : n ≤ 1000) (h0 : 0 ≤ most) (h1 : most ≤ 1000) (hs : Src w g) :
    Calls Try.prog 17 #[.pointer (some ⟨g, 0, none⟩), .int .i64 n, .int .i64 most] w (GivesInts n most g w) := by
  obtain ⟨i0, hi, hz0, hz1, hz2⟩ := info_parts infoInt'
  go_enter Try.func17, Try.ntmps17
  go_wp2
  go_loopw [7, 8] (fun p q wr => ∃ (i : Nat) (zs : List Int), q = .int .i64 i ∧ i ≤ n ∧ zs.length = i ∧ wr.ownsRow w.heap.size 3 1 p i (zs.map (.int .i64)) ∧ (∀ z ∈ zs, 0 ≤ z ∧ z ≤ most) ∧ Src wr g ∧ But g w wr)
    (fun _ q _ => n - (intOf q).toNat)
  case atStart =>
    exact ⟨0, [], rfl, Nat.zero_le _, rfl, World.ownsRow_nil _ _ _ _, by simp, hs, But.refl _ _⟩
  case round =>
    obtain ⟨i, zs, rfl, hin, hl, hrow, hz, hsr, hb⟩ := hrel
    have hgs := hs.size
    by_cases hlt : i < n
    · have hlt' : (i : Int) < (n : Int) := by omega
      go_wp2_with (first
        | ((with_reducible refine (N_any g wr (most + 1) hsr (by omega) (by omega)).mono ?_); rintro e W2 ⟨z, rfl, hz2', hs2, hb2⟩; (have hrow2 := own_but hrow hb2 hgs); (have hb3 := hb.trans hb2))
        | (at_builtin; refine wpList_append_own _ rfl _ _ 28 rfl w.heap.size 3 i0 (.int .i64 0) 1 8 Try.underlying28 hi hz0 hz1 hz2 rfl (by decide) _ _ _ rfl (hrow2.alloc _) ⟨W2.heap.size, 0, none⟩ 1 1 [.int .i64 z] rfl rfl (cell_one_new _ _ _) (by simp [Value.oneCell']) (by unfold maxLen; omega) (by omega) (by have := hb3.size; simp; omega) ?_; intro v' w1 hown' hgrow _; obtain ⟨g', cap', rfl⟩ := ownsRow_succ hown'))
      have hbel : Below w.heap.size W2 w1 := ((Below.refl _ W2).alloc hb3.size _).grown hgrow (by have := hb3.size; simp; omega) fun k e => (hrow2.lt k e).1
      go_roundw
      case rel =>
        refine ⟨i + 1, zs ++ [z], by simp, by omega, by simp [hl], by simpa using hown', fun x hx => ?_, hs2.belowB hbel hgs, hb3.onB hbel (Nat.le_refl _)⟩
        rcases List.mem_append.1 hx with hx | hx
        · exact hz x hx
        · simp at hx; subst hx; omega
      case measure => simp [intOf]; omega
    · obtain rfl : i = n := by omega
      rcases hrow.2 with ⟨rfl, h0'⟩ | ⟨b, cap, cur, rfl, h1', h2', h3', h4', _⟩
      · omega
      · go_wp2
        go_ret
        exact ⟨b, cap, zs, rfl, h1', hl, h3', h4', hrow, hz, hsr, hb⟩
end Fx
end Go.Proofs.Ytlhncmnhpnhfhaa
