/-
  exactppllaw07.ValueRaw: the walk, whole.
-/
import Derived.Test.YtklndjkblfncjaaGreatDoorRaW7
import Derived.Test.YtklndjkblfncjaaGreatDoorAgr7
import Derived.Test.YtklndjkblfncjaaGreatDoorAwk7
namespace Go.Proofs.YtklndjkblfncjaaGreatDoor
open Go Go.RowKit
set_option maxRecDepth 20000

/-- A list of ints that came in, read as one. -/
theorem ints_rd {W : World} {A : Option Addr} {n c : Nat} (hcap : n ≤ c) (htop : c ≤ maxLen) (hI : 0 < n → ∃ ad, A = some ad ∧ IntsAt W ad n (-9223372036854775808) 9223372036854775807) :
    ∃ L, IntRd W.heap.size W A n c L ∧ ∀ x ∈ L, x ≤ 9223372036854775807 := by
  by_cases hn : 0 < n
  · obtain ⟨ad, rfl, hlt, hc⟩ := hI hn
    have hs : ad.spot = none := by
      obtain ⟨z, hz, _⟩ := hc 0 hn
      simpa [Addr.add] using spot_none hz
    obtain ⟨ab, ao, asp⟩ := ad
    simp only at hs
    subst hs
    obtain ⟨l, hl, hp⟩ := pick_all (0 : Int) hc
    refine ⟨l, ⟨hl, hcap, htop, fun _ => ⟨ab, ao, rfl, hlt, fun i x hx => ?_⟩⟩, fun x hx => ?_⟩
    · have := (hp i x hx).1
      rw [add_none] at this
      exact this
    · obtain ⟨i, hi⟩ := List.mem_iff_getElem?.1 hx
      exact (hp i x hi).2.2
  · exact ⟨[], ⟨by simp; omega, hcap, htop, fun h => absurd h hn⟩, fun x hx => by cases hx⟩
theorem valueRaw.walk {D : Nat} {T : Ty} {A : Option Addr} {n c : Nat} {w : World} (htab : Tab w) (h : TyRd (fun _ => True) w D T A n c)
    {d1 : Nat} {V : Vl} {B : Option Addr} {m q : Nat} (hv : VlRd (fun _ => True) w d1 V B m q) (hr1 : V.i ≤ 9223372036854775807)
    {d2 : Nat} {U : Vl} {C : Option Addr} {m' q' : Nat} (hu : VlRd (fun _ => True) w d2 U C m' q') (hr2 : U.i ≤ 9223372036854775807)
    {Q : Option Addr} {nq qq : Nat} (hcap : nq ≤ qq) (htop : qq ≤ maxLen) (hI : 0 < nq → ∃ ad, Q = some ad ∧ IntsAt w ad nq (-9223372036854775808) 9223372036854775807) :
    Calls Tryz.prog 3 #[tyV T A n c, vlV V B m q, vlV U C m' q', .slice Q nq qq] w (SaysTrue w) := by
  obtain ⟨L, hL, hr3⟩ := ints_rd hcap htop hI
  exact valueRaw.core h hv hu (Lib.hid fun W hW hd => agrees_x _ 5 (by omega) T A n c W ((h.below hW).cut hd) _ d1 V B m q (hv.below hW) hr1 _ d2 U C m' q' (hu.below hW) hr2 Q nq qq L ((hL.below hW (Nat.le_refl _)).bd hW.size) hr3 (htab.below hW)) (Lib.hid awake_x)
end Go.Proofs.YtklndjkblfncjaaGreatDoor
