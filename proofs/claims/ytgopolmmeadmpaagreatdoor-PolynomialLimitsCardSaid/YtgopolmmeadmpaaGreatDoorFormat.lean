/-
  Format of the polynomial p^2 - q^2; the statements' check that the program is awake.
-/
import Derived.Test.YtgopolmmeadmpaaGreatDoorBuild
import Derived.Test.YtgopolmmeadmpaaGreatDoorShelf
namespace Go.Proofs.YtgopolmmeadmpaaGreatDoor
open Go Go.RowKit Go.WideMaps
set_option maxRecDepth 100000

theorem bExtra : Go.Proofs.Builder.Extra Tryz.prog Go.Proofs.Tryz.lays169_ren := {
  sizeBuilder := by kernel_rfl
  liesBuilder := by kernel_rfl
  t5 := Tryz.underlying5
  a5 := Tryz.isAgg5
  z5 := Tryz.sizeOf5
  v5 := Tryz.zeroValue5
  infoByte := by kernel_rfl
  cellsByte := by kernel_rfl
  sizeByte := by kernel_rfl
  neB5 := by decide }
theorem string_x {w : World} {B b : Nat} {l : List UInt8} (h : Bld B b ⟨l.toArray⟩ w) (h0 : l ≠ []) : Calls Tryz.prog 61 #[.pointer (some ⟨b, 0, none⟩)] w fun e w' => e = .returned (.string ⟨l.toArray⟩) ∧ Below B w w' :=
  Go.Proofs.Any.Builder_String Go.Proofs.Tryz.lays169 bExtra B b l w h h0

theorem infoStr : (Tryz.prog.info? 9).map (fun i => (i.zero, i.size, i.bytes)) = some (some (.string ⟨#[]⟩), 1, 16) := by kernel_rfl
theorem ratText_one : ratText 1 = ⟨#[49]⟩ := by
  unfold ratText
  rw [if_neg (by decide), if_pos (by decide)]
  exact dec_one

set_option maxHeartbeats 8000000 in
theorem formatP {w : World} {h k : Nat} {s : Bool} {A B : Option Addr} {an ac bm bd : Nat} {q : Rat} (hl : Laid w) (hr : RN w s A an ac B bm bd q k) (hq : q = 1 ∨ q = -1) (k0 : 1 ≤ k) (hk8 : k ≤ 300000) (h0 : w.cell? ⟨h, 0, none⟩ = some (.string ⟨#[112]⟩)) (h1 : w.cell? ⟨h, 1, none⟩ = some (.string ⟨#[113]⟩)) (hh : h < w.heap.size) :
    Calls Tryz.prog 58 #[.agg #[.int .i64 2, .int .i64 0, .int .i64 0, .int .i64 0, .int .i64 0, .int .i64 0, .int .i64 0, .int .i64 0, .bool s, .slice A an ac, .slice B bm bd], .slice (some ⟨h, 0, none⟩) 2 2] w fun e w' => e = .returned (.tuple #[.string ⟨#[112, 94, 50]⟩, .int .i64 0]) ∧ Below w.heap.size w w' := by
  obtain ⟨i0, hi, hz0, hz1, hz2⟩ := info_parts infoStr
  obtain ⟨v, hv⟩ : ∃ v, w.alloc (.cells #[.int .i64 2, .int .i64 0, .int .i64 0, .int .i64 0, .int .i64 0, .int .i64 0, .int .i64 0, .int .i64 0, .bool s, .slice A an ac, .slice B bm bd] 43) = v := ⟨_, rfl⟩
  have hbv : Below w.heap.size w v := hv ▸ (Below.refl _ w).alloc (Nat.le_refl _) _
  have hvs : v.heap.size = w.heap.size + 1 := (alloc_facts hv).2.2.2
  have HBX : Hid (TermBox w.heap.size 2 0 0 0 0 0 0 0 ⟨[2, 0, 0, 0, 0, 0, 0, 0], s, A, an, ac, B, bm, bd⟩ v) := TermBox.mk (t := ⟨[2, 0, 0, 0, 0, 0, 0, 0], s, A, an, ac, B, bm, bd⟩) hv
  obtain ⟨d0, d1, d2, d3, d4, d5, d6, d7, d8, d9, d10⟩ := HBX.out
  have g0 : v.cell? ⟨h, 0, none⟩ = some (.string ⟨#[112]⟩) := (hbv.cell (p := ⟨h, 0, none⟩) hh).trans h0
  have g1 : v.cell? ⟨h, 1, none⟩ = some (.string ⟨#[113]⟩) := (hbv.cell (p := ⟨h, 1, none⟩) hh).trans h1
  have i0 := mix0 (.int .i64 2) (.int .i64 0) (.int .i64 0) (.int .i64 0) (.int .i64 0) (.int .i64 0) (.int .i64 0) (.int .i64 0)
  have i1 := mix1 (.int .i64 2) (.int .i64 0) (.int .i64 0) (.int .i64 0) (.int .i64 0) (.int .i64 0) (.int .i64 0) (.int .i64 0)
  have i2 := mix2 (.int .i64 2) (.int .i64 0) (.int .i64 0) (.int .i64 0) (.int .i64 0) (.int .i64 0) (.int .i64 0) (.int .i64 0)
  have i3 := mix3 (.int .i64 2) (.int .i64 0) (.int .i64 0) (.int .i64 0) (.int .i64 0) (.int .i64 0) (.int .i64 0) (.int .i64 0)
  have i4 := mix4 (.int .i64 2) (.int .i64 0) (.int .i64 0) (.int .i64 0) (.int .i64 0) (.int .i64 0) (.int .i64 0) (.int .i64 0)
  have i5 := mix5 (.int .i64 2) (.int .i64 0) (.int .i64 0) (.int .i64 0) (.int .i64 0) (.int .i64 0) (.int .i64 0) (.int .i64 0)
  have i6 := mix6 (.int .i64 2) (.int .i64 0) (.int .i64 0) (.int .i64 0) (.int .i64 0) (.int .i64 0) (.int .i64 0) (.int .i64 0)
  have i7 := mix7 (.int .i64 2) (.int .i64 0) (.int .i64 0) (.int .i64 0) (.int .i64 0) (.int .i64 0) (.int .i64 0) (.int .i64 0)
  have HL := Lib.hid hl
  have HR := Lib.hid hr
  have HV := Lib.hid hv
  clear hl hr hv h0 h1
  go_enter Tryz.func58, Tryz.ntmps58
  go_wp2_with fail
  rw [HV.out]
  refine wp_loop_rounds 9 ?_
  rw [rounds_succ]
  go_wp2_with (go_at_call 76; refine (itoa2 _).mono ?_; rintro e w' ⟨rfl, rfl⟩)
  generalize (Question.appendCap 1 0 9).cut (v.tape v.drawn (Question.appendCap 1 0 9)) = C
  have hpart : (({ data := #[112] } : ByteArray) ++ (({ data := #[94] } : ByteArray) ++ ({ data := #[50] } : ByteArray))) = ⟨#[112, 94, 50]⟩ := by rfl
  rw [hpart]
  obtain ⟨u, hu⟩ : ∃ u, ((v.alloc (.cells #[.string ⟨#[112, 94, 50]⟩] 9)).alloc (.cells (#[.string ⟨#[112, 94, 50]⟩] ++ Builtin.zeroCells #[.string ⟨#[]⟩] (C - 1)) 9)).drew = u := ⟨_, rfl⟩
  have hbu : Below v.heap.size v u := hu ▸ (((Below.refl _ v).alloc (Nat.le_refl _) _).alloc (by simp) _).drew
  have hus : u.heap.size = w.heap.size + 3 := by rw [← hu]; simp [hvs]
  have hpc : u.cell? ⟨w.heap.size + 1 + 1, 0, none⟩ = some (.string ⟨#[112, 94, 50]⟩) := by
    rw [← hu, ← hvs]
    have h := World.cell?_alloc_new (w := v.alloc (.cells #[.string ⟨#[112, 94, 50]⟩] 9))
    rw [World.size_alloc] at h
    exact (h _ _ 0).trans (by rw [Array.getElem?_append_left (by simp)]; rfl)
  have hfz : u.frozen? ⟨w.heap.size, 8, none⟩ = false := (hbu.frozen (p := ⟨w.heap.size, 8, none⟩) (by rw [hvs]; exact Nat.lt_succ_self _)).trans (by rw [← HV.out]; exact frozen_of_row _ _ 8 _ _ (heap_alloc_new w _))
  have HBU : Hid (TermBox w.heap.size 2 0 0 0 0 0 0 0 ⟨[2, 0, 0, 0, 0, 0, 0, 0], s, A, an, ac, B, bm, bd⟩ u) := HBX.out.far (hbu.block _ (by rw [hvs]; exact Nat.lt_succ_self _))
  rw [hu]
  have HU := Lib.hid hu
  clear hu d0 d1 d2 d3 d4 d5 d6 d7 d8 d9 d10 g0 g1 hpart
  obtain ⟨d0, d1, d2, d3, d4, d5, d6, d7, d8, d9, d10⟩ := HBU.out
  rw [rounds_succ]
  go_wp2
  rw [rounds_succ]
  go_wp2
  rw [rounds_succ]
  go_wp2
  rw [rounds_succ]
  go_wp2
  rw [rounds_succ]
  go_wp2
  rw [rounds_succ]
  go_wp2
  rw [rounds_succ]
  go_wp2
  have hz9 : Below w.heap.size w (u.setCell ⟨w.heap.size, 8, none⟩ (.bool false)) := (hbv.trans (hbu.mono hbv.size)).setCell (p := ⟨w.heap.size, 8, none⟩) (Nat.le_refl _) _
  have hlo : Loose (u.setCell ⟨w.heap.size, 8, none⟩ (.bool false)) false A an ac B bm bd 1 k := by
    obtain ⟨_, n1, n2, n3, n4⟩ := HR.out.below hz9
    rcases hq with rfl | rfl
    · exact ⟨1, 1, n1.num, n2.num, by decide, n3, n4⟩
    · exact ⟨1, 1, n1.num, n2.num, by decide, n3, n4⟩
  have HF := Lib.hid (ratFormat_r (HL.out.below hz9) hlo k0 (by omega))
  rw [ratText_one] at HF
  have HJ : Hid (∀ w3, Below (u.setCell ⟨w.heap.size, 8, none⟩ (.bool false)).heap.size (u.setCell ⟨w.heap.size, 8, none⟩ (.bool false)) w3 → Below w.heap.size w w3 ∧ w3.cell? ⟨w.heap.size + 1 + 1, 0, none⟩ = some (.string ⟨#[112, 94, 50]⟩)) := fun w3 hb3 => ⟨nextB hz9 hb3, by
    rw [hb3.cell (p := ⟨w.heap.size + 1 + 1, 0, none⟩) (by simp [hus])]
    rw [World.cell?_setCell_other _ _ _ _ (by simp)]
    exact hpc⟩
  clear hlo hz9 hpc
  rw [rounds_succ]
  go_wp2_with fail
  refine HF.out.mono ?_
  rintro e w3 ⟨rfl, hb3⟩
  obtain ⟨hb4, hpc3⟩ := HJ.out w3 hb3
  clear HF HJ
  go_wp2_with fail
  refine (join_one _ _ _ _ _ hpc3).mono ?_
  rintro e w4 ⟨rfl, rfl⟩
  clear hpc3
  clear HBU
  go_wp2
  go_ret2
  exact ⟨rfl, hb4⟩

set_option maxHeartbeats 8000000 in
theorem formatQ {w : World} {h k : Nat} {s : Bool} {A B : Option Addr} {an ac bm bd : Nat} {q : Rat} (hl : Laid w) (hr : RN w s A an ac B bm bd q k) (hq : q = 1 ∨ q = -1) (k0 : 1 ≤ k) (hk8 : k ≤ 300000) (h0 : w.cell? ⟨h, 0, none⟩ = some (.string ⟨#[112]⟩)) (h1 : w.cell? ⟨h, 1, none⟩ = some (.string ⟨#[113]⟩)) (hh : h < w.heap.size) :
    Calls Tryz.prog 58 #[.agg #[.int .i64 0, .int .i64 2, .int .i64 0, .int .i64 0, .int .i64 0, .int .i64 0, .int .i64 0, .int .i64 0, .bool s, .slice A an ac, .slice B bm bd], .slice (some ⟨h, 0, none⟩) 2 2] w fun e w' => e = .returned (.tuple #[.string ⟨#[113, 94, 50]⟩, .int .i64 0]) ∧ Below w.heap.size w w' := by
  obtain ⟨i0, hi, hz0, hz1, hz2⟩ := info_parts infoStr
  obtain ⟨v, hv⟩ : ∃ v, w.alloc (.cells #[.int .i64 0, .int .i64 2, .int .i64 0, .int .i64 0, .int .i64 0, .int .i64 0, .int .i64 0, .int .i64 0, .bool s, .slice A an ac, .slice B bm bd] 43) = v := ⟨_, rfl⟩
  have hbv : Below w.heap.size w v := hv ▸ (Below.refl _ w).alloc (Nat.le_refl _) _
  have hvs : v.heap.size = w.heap.size + 1 := (alloc_facts hv).2.2.2
  have HBX : Hid (TermBox w.heap.size 0 2 0 0 0 0 0 0 ⟨[0, 2, 0, 0, 0, 0, 0, 0], s, A, an, ac, B, bm, bd⟩ v) := TermBox.mk (t := ⟨[0, 2, 0, 0, 0, 0, 0, 0], s, A, an, ac, B, bm, bd⟩) hv
  obtain ⟨d0, d1, d2, d3, d4, d5, d6, d7, d8, d9, d10⟩ := HBX.out
  have g0 : v.cell? ⟨h, 0, none⟩ = some (.string ⟨#[112]⟩) := (hbv.cell (p := ⟨h, 0, none⟩) hh).trans h0
  have g1 : v.cell? ⟨h, 1, none⟩ = some (.string ⟨#[113]⟩) := (hbv.cell (p := ⟨h, 1, none⟩) hh).trans h1
  have i0 := mix0 (.int .i64 0) (.int .i64 2) (.int .i64 0) (.int .i64 0) (.int .i64 0) (.int .i64 0) (.int .i64 0) (.int .i64 0)
  have i1 := mix1 (.int .i64 0) (.int .i64 2) (.int .i64 0) (.int .i64 0) (.int .i64 0) (.int .i64 0) (.int .i64 0) (.int .i64 0)
  have i2 := mix2 (.int .i64 0) (.int .i64 2) (.int .i64 0) (.int .i64 0) (.int .i64 0) (.int .i64 0) (.int .i64 0) (.int .i64 0)
  have i3 := mix3 (.int .i64 0) (.int .i64 2) (.int .i64 0) (.int .i64 0) (.int .i64 0) (.int .i64 0) (.int .i64 0) (.int .i64 0)
  have i4 := mix4 (.int .i64 0) (.int .i64 2) (.int .i64 0) (.int .i64 0) (.int .i64 0) (.int .i64 0) (.int .i64 0) (.int .i64 0)
  have i5 := mix5 (.int .i64 0) (.int .i64 2) (.int .i64 0) (.int .i64 0) (.int .i64 0) (.int .i64 0) (.int .i64 0) (.int .i64 0)
  have i6 := mix6 (.int .i64 0) (.int .i64 2) (.int .i64 0) (.int .i64 0) (.int .i64 0) (.int .i64 0) (.int .i64 0) (.int .i64 0)
  have i7 := mix7 (.int .i64 0) (.int .i64 2) (.int .i64 0) (.int .i64 0) (.int .i64 0) (.int .i64 0) (.int .i64 0) (.int .i64 0)
  have HL := Lib.hid hl
  have HR := Lib.hid hr
  have HV := Lib.hid hv
  clear hl hr hv h0 h1
  go_enter Tryz.func58, Tryz.ntmps58
  go_wp2_with fail
  rw [HV.out]
  refine wp_loop_rounds 9 ?_
  rw [rounds_succ]
  go_wp2
  rw [rounds_succ]
  go_wp2_with (go_at_call 76; refine (itoa2 _).mono ?_; rintro e w' ⟨rfl, rfl⟩)
  generalize (Question.appendCap 1 0 9).cut (v.tape v.drawn (Question.appendCap 1 0 9)) = C
  have hpart : (({ data := #[113] } : ByteArray) ++ (({ data := #[94] } : ByteArray) ++ ({ data := #[50] } : ByteArray))) = ⟨#[113, 94, 50]⟩ := by rfl
  rw [hpart]
  obtain ⟨u, hu⟩ : ∃ u, ((v.alloc (.cells #[.string ⟨#[113, 94, 50]⟩] 9)).alloc (.cells (#[.string ⟨#[113, 94, 50]⟩] ++ Builtin.zeroCells #[.string ⟨#[]⟩] (C - 1)) 9)).drew = u := ⟨_, rfl⟩
  have hbu : Below v.heap.size v u := hu ▸ (((Below.refl _ v).alloc (Nat.le_refl _) _).alloc (by simp) _).drew
  have hus : u.heap.size = w.heap.size + 3 := by rw [← hu]; simp [hvs]
  have hpc : u.cell? ⟨w.heap.size + 1 + 1, 0, none⟩ = some (.string ⟨#[113, 94, 50]⟩) := by
    rw [← hu, ← hvs]
    have h := World.cell?_alloc_new (w := v.alloc (.cells #[.string ⟨#[113, 94, 50]⟩] 9))
    rw [World.size_alloc] at h
    exact (h _ _ 0).trans (by rw [Array.getElem?_append_left (by simp)]; rfl)
  have hfz : u.frozen? ⟨w.heap.size, 8, none⟩ = false := (hbu.frozen (p := ⟨w.heap.size, 8, none⟩) (by rw [hvs]; exact Nat.lt_succ_self _)).trans (by rw [← HV.out]; exact frozen_of_row _ _ 8 _ _ (heap_alloc_new w _))
  have HBU : Hid (TermBox w.heap.size 0 2 0 0 0 0 0 0 ⟨[0, 2, 0, 0, 0, 0, 0, 0], s, A, an, ac, B, bm, bd⟩ u) := HBX.out.far (hbu.block _ (by rw [hvs]; exact Nat.lt_succ_self _))
  rw [hu]
  have HU := Lib.hid hu
  clear hu d0 d1 d2 d3 d4 d5 d6 d7 d8 d9 d10 g0 g1 hpart
  obtain ⟨d0, d1, d2, d3, d4, d5, d6, d7, d8, d9, d10⟩ := HBU.out
  rw [rounds_succ]
  go_wp2
  rw [rounds_succ]
  go_wp2
  rw [rounds_succ]
  go_wp2
  rw [rounds_succ]
  go_wp2
  rw [rounds_succ]
  go_wp2
  rw [rounds_succ]
  go_wp2
  have hz9 : Below w.heap.size w (u.setCell ⟨w.heap.size, 8, none⟩ (.bool false)) := (hbv.trans (hbu.mono hbv.size)).setCell (p := ⟨w.heap.size, 8, none⟩) (Nat.le_refl _) _
  have hlo : Loose (u.setCell ⟨w.heap.size, 8, none⟩ (.bool false)) false A an ac B bm bd 1 k := by
    obtain ⟨_, n1, n2, n3, n4⟩ := HR.out.below hz9
    rcases hq with rfl | rfl
    · exact ⟨1, 1, n1.num, n2.num, by decide, n3, n4⟩
    · exact ⟨1, 1, n1.num, n2.num, by decide, n3, n4⟩
  have HF := Lib.hid (ratFormat_r (HL.out.below hz9) hlo k0 (by omega))
  rw [ratText_one] at HF
  have HJ : Hid (∀ w3, Below (u.setCell ⟨w.heap.size, 8, none⟩ (.bool false)).heap.size (u.setCell ⟨w.heap.size, 8, none⟩ (.bool false)) w3 → Below w.heap.size w w3 ∧ w3.cell? ⟨w.heap.size + 1 + 1, 0, none⟩ = some (.string ⟨#[113, 94, 50]⟩)) := fun w3 hb3 => ⟨nextB hz9 hb3, by
    rw [hb3.cell (p := ⟨w.heap.size + 1 + 1, 0, none⟩) (by simp [hus])]
    rw [World.cell?_setCell_other _ _ _ _ (by simp)]
    exact hpc⟩
  clear hlo hz9 hpc
  rw [rounds_succ]
  go_wp2_with fail
  refine HF.out.mono ?_
  rintro e w3 ⟨rfl, hb3⟩
  obtain ⟨hb4, hpc3⟩ := HJ.out w3 hb3
  clear HF HJ
  go_wp2_with fail
  refine (join_one _ _ _ _ _ hpc3).mono ?_
  rintro e w4 ⟨rfl, rfl⟩
  clear hpc3
  clear HBU
  go_wp2
  go_ret2
  exact ⟨rfl, hb4⟩
end Go.Proofs.YtgopolmmeadmpaaGreatDoor
