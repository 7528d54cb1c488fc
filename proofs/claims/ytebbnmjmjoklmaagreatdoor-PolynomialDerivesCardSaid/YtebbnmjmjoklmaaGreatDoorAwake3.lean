/-
  Degree of polynomials with few terms.
  (*strings.Builder).WriteString; strings.Join of one text; strconv.Itoa of a small number.
  Format of the polynomial p^2 - q^2; the statements' check that the program is awake.
  Format of a polynomial that denotes p^2 - q^2.
  The statements' check that the program is awake: it returns true.
-/
import Derived.Lib.Builder
import Derived.Lib.AppendStr
import Derived.Laws.Externs
import Derived.Test.YtebbnmjmjoklmaaGreatDoorShelf
import Derived.Test.YtebbnmjmjoklmaaGreatDoorMulP
namespace Go.Proofs.YtebbnmjmjoklmaaGreatDoor
open Go Go.RowKit Go.WideMaps
set_option maxRecDepth 20000

set_option maxHeartbeats 4000000 in
theorem normFor_x {w : World} {A : Option Addr} {n c k v : Nat} {E : Int} {ds : List Tq} (hl : Laid w) (hd : PolyRd w A n c ds k E) (hE : E ≤ 1000000000) (k0 : 1 ≤ k) (hk8 : k ≤ 300000) (hbig : 1 + n * (k + 1) ≤ 300000) (h12 : n ≤ 49) (hin : inLim ds) (hv : v < 8) :
    Calls Tryz.prog 29 #[.slice A n c, .int .i64 (v : Int)] w fun e w' => ∃ P r q rs, e = Two P r q 0 ∧ PolyNf w' P r q rs (1 + n * (k + 1)) E ∧ Eqv (trms rs) (trms ds) ∧ rs.length ≤ n ∧ Below w.heap.size w w' := by
  have H := Lib.hid (norm_x hl hd hE k0 hk8 hbig h12 hin)
  have HV := Lib.hid (fun w1 => isVar_x (v : Int) w1 (by omega) (by omega))
  clear hl hd hin hbig
  go_enter Tryz.func29, Tryz.ntmps29
  go_wp2_with fail
  refine H.out.mono ?_
  rintro e w1 ⟨P, r, q, rs, rfl, h1, h2, h3, h4⟩
  have H1 := Lib.hid h1
  have H2 := Lib.hid h2
  have H3 := Lib.hid h3
  clear h1 h2 h3 H
  unfold Two
  go_wp2_with fail
  refine (HV.out w1).mono ?_
  rintro e w2 ⟨rfl, rfl⟩
  go_wp2
  go_ret2
  exact ⟨_, _, _, _, rfl, H1.out, H2.out, H3.out, h4⟩
end Go.Proofs.YtebbnmjmjoklmaaGreatDoor

namespace Go.Proofs.YtebbnmjmjoklmaaGreatDoor
open Go Go.RowKit Go.WideMaps
set_option maxRecDepth 100000

theorem sizeB : (Tryz.prog.info? 92).map (·.size) = some 2 := by kernel_rfl
theorem liesB : liesAt Tryz.prog Tryz.prog.depth 92 (2 / Tryz.prog.cellsOf 92) 0 92 1 = true := by kernel_rfl
theorem infoByte : (Tryz.prog.info? 5).map (fun i => (i.zero, i.size, i.bytes)) = some (some (.int .u8 0), 1, 1) := by kernel_rfl

set_option maxHeartbeats 1000000 in
theorem check_used (b : Nat) (w : World) (h0 : w.cell? ⟨b, 0, none⟩ = some (.pointer (some ⟨b, 0, none⟩))) :
    Calls Tryz.prog 72 #[.pointer (some ⟨b, 0, none⟩)] w fun e w' => e = .returned (.tuple #[]) ∧ w = w' := by
  obtain ⟨j, hj, _⟩ := Option.map_eq_some_iff.1 sizeB
  go_enter Tryz.func72, Tryz.ntmps72
  go_wp2
  rw [Lib.run_neq_ptr_same w _ Tryz.underlying89 hj]
  go_wp2
  go_end0
  exact ⟨rfl, rfl⟩
set_option maxHeartbeats 1000000 in
theorem check_fresh (b : Nat) (w : World) (h0 : w.cell? ⟨b, 0, none⟩ = some (.pointer none)) (hsh : w.shape? b = some (92, 2)) (hfz : w.frozen? ⟨b, 0, none⟩ = false) :
    Calls Tryz.prog 72 #[.pointer (some ⟨b, 0, none⟩)] w fun e w' => e = .returned (.tuple #[]) ∧ w.setCell ⟨b, 0, none⟩ (.pointer (some ⟨b, 0, none⟩)) = w' := by
  obtain ⟨j, hj, hjs⟩ := Option.map_eq_some_iff.1 sizeB
  go_enter Tryz.func72, Tryz.ntmps72
  go_wp2
  rw [Lib.run_to_unsafe w ⟨b, 0, none⟩ Tryz.underlying89 Tryz.underlying138 hj (by rw [hjs]; decide) hsh (Nat.zero_lt_succ 1)]
  simp only [Result.andThen]
  rw [Oper.upon_value]
  go_wp2
  rw [run_callFunc_extern Tryz.func92 (by kernel_rfl) (by kernel_rfl) (by kernel_rfl) (e := Extern.AbiNoEscape.same) (by kernel_rfl)]
  rw [Lib.run_noEscape]
  simp only [Result.andThen]
  rw [Oper.upon_value]
  go_wp2
  rw [Lib.run_from_unsafe w ⟨b, 0, none⟩ Tryz.underlying138 Tryz.underlying89 hj hsh liesB]
  simp only [Result.andThen]
  rw [Oper.upon_value]
  go_wp2
  go_end0
  exact ⟨rfl, rfl⟩
/-- The builder at b has the bytes of the text t, and has been used or not. -/
def Bld (B b : Nat) (t : ByteArray) (w : World) : Prop := Lib.IsBuilder 92 5 B b (Lib.strCells t) w
theorem strCells_append (s t : ByteArray) : Lib.strCells (s ++ t) = Lib.strCells s ++ Lib.strCells t := by
  unfold Lib.strCells
  rw [← List.map_append]
  congr 1
set_option maxHeartbeats 2000000 in
theorem writeText_x {w : World} {B b : Nat} {t : ByteArray} (h : Bld B b t w) (s : ByteArray) (hlen : t.size + s.size ≤ 1000000) (hBw : B ≤ w.heap.size) :
    Calls Tryz.prog 52 #[.pointer (some ⟨b, 0, none⟩), .string s] w fun e w' => e = .returned (.tuple #[.int .i64 s.size, .nilIface]) ∧ Bld B b (t ++ s) w' ∧ Below B w w' := by
  obtain ⟨i0, hi, hz0, hz1, hz2⟩ := info_parts infoByte
  have HC : Hid (Calls Tryz.prog 72 #[.pointer (some ⟨b, 0, none⟩)] w fun e w' => e = .returned (.tuple #[]) ∧ Lib.BuilderAt 92 5 B b (.pointer (some ⟨b, 0, none⟩)) (Lib.strCells t) w' ∧ Below B w w') := by
    rcases h with h | h
    · refine (check_fresh b w h.cell0 h.shape h.frozen0).mono ?_
      rintro e w' ⟨rfl, rfl⟩
      exact ⟨rfl, h.used _, (Below.refl B w).setCell (p := ⟨b, 0, none⟩) h.1 _⟩
    · refine (check_used b w h.cell0).mono ?_
      rintro e w' ⟨rfl, rfl⟩
      exact ⟨rfl, h, Below.refl B _⟩
  have hsl := Lib.strCells_length t
  clear h
  go_enter Tryz.func52, Tryz.ntmps52
  go_wp2_with fail
  refine HC.out.mono ?_
  rintro e w1 ⟨rfl, h1, hb1⟩
  obtain ⟨hB, v, hbk, hown, hne⟩ := h1
  have c0 : w1.cell? ⟨b, 0, none⟩ = some (.pointer (some ⟨b, 0, none⟩)) := by rw [Lib.cell_of_heap hbk]; rfl
  have c1 : w1.cell? ⟨b, 1, none⟩ = some v := by rw [Lib.cell_of_heap hbk]; rfl
  go_wp2_with (at_builtin; refine Lib.wpList_append_own_string _ rfl _ _ 90 9 rfl B 5 i0 Tryz.underlying90 Tryz.underlying9 hi hz0 hz1 hz2 _ _ _ rfl hown s rfl ?c3 ?c4 ?c5 ?_)
  case c3 => unfold maxLen; omega
  case c4 => omega
  case c5 => have := hb1.size; omega
  intro v' w2 hown' hgrow _
  have hlt : b < w1.heap.size := by
    rcases Nat.lt_or_ge b w1.heap.size with h' | h'
    · exact h'
    · simp [Array.getElem?_eq_none h'] at hbk
  have hb2 : w2.heap[b]? = some (.cells #[.pointer (some ⟨b, 0, none⟩), v] 92 (0, 0)) := by
    rw [hgrow.block b hlt (fun e => hne e.symm)]
    exact hbk
  have d0 : w2.cell? ⟨b, 0, none⟩ = some (.pointer (some ⟨b, 0, none⟩)) := by rw [Lib.cell_of_heap hb2]; rfl
  have d1 : w2.cell? ⟨b, 1, none⟩ = some v := by rw [Lib.cell_of_heap hb2]; rfl
  have f1 : w2.frozen? ⟨b, 1, none⟩ = false := Lib.frozen_of_heap hb2 1
  obtain ⟨ao, n', cap, rfl⟩ : ∃ ao n' cap, v' = .slice ao n' cap := by
    rcases hown'.2 with ⟨hv, _⟩ | ⟨g, cap, cur, hv, _⟩
    · exact ⟨_, _, _, hv⟩
    · exact ⟨_, _, _, hv⟩
  have HB : Hid (Bld B b (t ++ s) (w2.setCell ⟨b, 1, none⟩ (.slice ao n' cap))) := by
    refine .inr ?_
    rw [strCells_append]
    exact Lib.BuilderAt.put hB hb2 (bs' := Lib.strCells t ++ Lib.strCells s) (by simpa [Lib.strCells_length] using hown') (by decide)
  have HBB : Hid (Below B w (w2.setCell ⟨b, 1, none⟩ (.slice ao n' cap))) := (hb1.grown hgrow (by have := hb1.size; omega) (fun k hk => (hown.lt k hk).1)).setCell (p := ⟨b, 1, none⟩) hB _
  clear hown' hgrow hown hbk hb2 c0 c1
  go_wp2
  go_ret2
  exact ⟨rfl, HB.out, HBB.out⟩
theorem small2 (w : World) : Calls Tryz.prog 142 #[.int .i64 2] w fun e w' => e = .returned (.string ⟨#[50]⟩) ∧ w = w' := by
  go_enter Tryz.func142, Tryz.ntmps142
  go_wp2
  exact bodyPost_ret (v := .string ⟨#[50]⟩) (by first | rfl | (simp [results, Tryz.results142, go_sem]; done) | (simp [results, Tryz.results142, go_sem]; rfl)) rfl ⟨rfl, rfl⟩
theorem formatInt2 (w : World) : Calls Tryz.prog 122 #[.int .i64 2, .int .i64 10] w fun e w' => e = .returned (.string ⟨#[50]⟩) ∧ w = w' := by
  go_enter Tryz.func122, Tryz.ntmps122
  go_wp2_with (go_at_call 142; refine (small2 _).mono ?_; rintro e w' ⟨rfl, rfl⟩)
  exact bodyPost_ret (v := .string ⟨#[50]⟩) (by first | rfl | (simp [results, Tryz.results122, go_sem]; done) | (simp [results, Tryz.results122, go_sem]; rfl)) rfl ⟨rfl, rfl⟩
theorem itoaI2 (w : World) : Calls Tryz.prog 87 #[.int .i64 2] w fun e w' => e = .returned (.string ⟨#[50]⟩) ∧ w = w' := by
  go_enter Tryz.func87, Tryz.ntmps87
  go_wp2_with (go_at_call 122; refine (formatInt2 _).mono ?_; rintro e w' ⟨rfl, rfl⟩)
  exact bodyPost_ret (v := .string ⟨#[50]⟩) (by first | rfl | (simp [results, Tryz.results87, go_sem]; done) | (simp [results, Tryz.results87, go_sem]; rfl)) rfl ⟨rfl, rfl⟩
theorem itoa2 (w : World) : Calls Tryz.prog 68 #[.int .i64 2] w fun e w' => e = .returned (.string ⟨#[50]⟩) ∧ w = w' := by
  go_enter Tryz.func68, Tryz.ntmps68
  go_wp2_with (go_at_call 87; refine (itoaI2 _).mono ?_; rintro e w' ⟨rfl, rfl⟩)
  exact bodyPost_ret (v := .string ⟨#[50]⟩) (by first | rfl | (simp [results, Tryz.results68, go_sem]; done) | (simp [results, Tryz.results68, go_sem]; rfl)) rfl ⟨rfl, rfl⟩
set_option maxHeartbeats 1000000 in
theorem join_one (g c : Nat) (s t : ByteArray) (w : World) (h0 : w.cell? ⟨g, 0, none⟩ = some (.string s)) : Calls Tryz.prog 71 #[.slice (some ⟨g, 0, none⟩) 1 c, .string t] w fun e w' => e = .returned (.string s) ∧ w = w' := by
  go_enter Tryz.func71, Tryz.ntmps71
  go_wp2
  go_ret
  exact ⟨rfl, rfl⟩
end Go.Proofs.YtebbnmjmjoklmaaGreatDoor

namespace Go.Proofs.YtebbnmjmjoklmaaGreatDoor
open Go Go.RowKit Go.WideMaps
set_option maxRecDepth 100000

theorem bExtra : Go.Proofs.Builder.Extra Tryz.prog Go.Proofs.Tryz.lays169_ren := {
  sizeBuilder := by kernel_rfl
  liesBuilder := by kernel_rfl
  t5 := Tryz.underlying5
  a5 := Tryz.isAgg5
  z5 := Tryz.sizeOf5
  v5 := Tryz.zeroValue5
  infoByte := by kernel_rfl
  cellsByte := by kernel_rfl
  sizeByte := by kernel_rfl
  neB5 := by decide }
theorem string_x {w : World} {B b : Nat} {l : List UInt8} (h : Bld B b ⟨l.toArray⟩ w) (h0 : l ≠ []) : Calls Tryz.prog 54 #[.pointer (some ⟨b, 0, none⟩)] w fun e w' => e = .returned (.string ⟨l.toArray⟩) ∧ Below B w w' :=
  Go.Proofs.Any.Builder_String Go.Proofs.Tryz.lays169 bExtra B b l w h h0

theorem infoStr : (Tryz.prog.info? 9).map (fun i => (i.zero, i.size, i.bytes)) = some (some (.string ⟨#[]⟩), 1, 16) := by kernel_rfl
theorem ratText_one : ratText 1 = ⟨#[49]⟩ := by
  unfold ratText
  rw [if_neg (by decide), if_pos (by decide)]
  exact dec_one

set_option maxHeartbeats 8000000 in
theorem formatP {w : World} {h k : Nat} {s : Bool} {A B : Option Addr} {an ac bm bd : Nat} {q : Rat} (hl : Laid w) (hr : RN w s A an ac B bm bd q k) (hq : q = 1 ∨ q = -1) (k0 : 1 ≤ k) (hk8 : k ≤ 300000) (h0 : w.cell? ⟨h, 0, none⟩ = some (.string ⟨#[112]⟩)) (h1 : w.cell? ⟨h, 1, none⟩ = some (.string ⟨#[113]⟩)) (hh : h < w.heap.size) :
    Calls Tryz.prog 51 #[.agg #[.int .i64 2, .int .i64 0, .int .i64 0, .int .i64 0, .int .i64 0, .int .i64 0, .int .i64 0, .int .i64 0, .bool s, .slice A an ac, .slice B bm bd], .slice (some ⟨h, 0, none⟩) 2 2] w fun e w' => e = .returned (.tuple #[.string ⟨#[112, 94, 50]⟩, .int .i64 0]) ∧ Below w.heap.size w w' := by
  obtain ⟨i0, hi, hz0, hz1, hz2⟩ := info_parts infoStr
  obtain ⟨v, hv⟩ : ∃ v, w.alloc (.cells #[.int .i64 2, .int .i64 0, .int .i64 0, .int .i64 0, .int .i64 0, .int .i64 0, .int .i64 0, .int .i64 0, .bool s, .slice A an ac, .slice B bm bd] 47) = v := ⟨_, rfl⟩
  have hbv : Below w.heap.size w v := hv ▸ (Below.refl _ w).alloc (Nat.le_refl _) _
  have hvs : v.heap.size = w.heap.size + 1 := (alloc_facts hv).2.2.2
  have HBX : Hid (TermBox w.heap.size 2 0 0 0 0 0 0 0 ⟨[2, 0, 0, 0, 0, 0, 0, 0], s, A, an, ac, B, bm, bd⟩ v) := TermBox.mk (t := ⟨[2, 0, 0, 0, 0, 0, 0, 0], s, A, an, ac, B, bm, bd⟩) hv
  obtain ⟨d0, d1, d2, d3, d4, d5, d6, d7, d8, d9, d10⟩ := HBX.out
  have g0 : v.cell? ⟨h, 0, none⟩ = some (.string ⟨#[112]⟩) := (hbv.cell (p := ⟨h, 0, none⟩) hh).trans h0
  have g1 : v.cell? ⟨h, 1, none⟩ = some (.string ⟨#[113]⟩) := (hbv.cell (p := ⟨h, 1, none⟩) hh).trans h1
  have i0 := mix0 (.int .i64 2) (.int .i64 0) (.int .i64 0) (.int .i64 0) (.int .i64 0) (.int .i64 0) (.int .i64 0) (.int .i64 0)
  have i1 := mix1 (.int .i64 2) (.int .i64 0) (.int .i64 0) (.int .i64 0) (.int .i64 0) (.int .i64 0) (.int .i64 0) (.int .i64 0)
  have i2 := mix2 (.int .i64 2) (.int .i64 0) (.int .i64 0) (.int .i64 0) (.int .i64 0) (.int .i64 0) (.int .i64 0) (.int .i64 0)
  have i3 := mix3 (.int .i64 2) (.int .i64 0) (.int .i64 0) (.int .i64 0) (.int .i64 0) (.int .i64 0) (.int .i64 0) (.int .i64 0)
  have i4 := mix4 (.int .i64 2) (.int .i64 0) (.int .i64 0) (.int .i64 0) (.int .i64 0) (.int .i64 0) (.int .i64 0) (.int .i64 0)
  have i5 := mix5 (.int .i64 2) (.int .i64 0) (.int .i64 0) (.int .i64 0) (.int .i64 0) (.int .i64 0) (.int .i64 0) (.int .i64 0)
  have i6 := mix6 (.int .i64 2) (.int .i64 0) (.int .i64 0) (.int .i64 0) (.int .i64 0) (.int .i64 0) (.int .i64 0) (.int .i64 0)
  have i7 := mix7 (.int .i64 2) (.int .i64 0) (.int .i64 0) (.int .i64 0) (.int .i64 0) (.int .i64 0) (.int .i64 0) (.int .i64 0)
  have HL := Lib.hid hl
  have HR := Lib.hid hr
  have HV := Lib.hid hv
  clear hl hr hv h0 h1
  go_enter Tryz.func51, Tryz.ntmps51
  go_wp2_with fail
  rw [HV.out]
  refine wp_loop_rounds 9 ?_
  rw [rounds_succ]
  go_wp2_with (go_at_call 68; refine (itoa2 _).mono ?_; rintro e w' ⟨rfl, rfl⟩)
  generalize (Question.appendCap 1 0 9).cut (v.tape v.drawn (Question.appendCap 1 0 9)) = C
  have hpart : (({ data := #[112] } : ByteArray) ++ (({ data := #[94] } : ByteArray) ++ ({ data := #[50] } : ByteArray))) = ⟨#[112, 94, 50]⟩ := by rfl
  rw [hpart]
  obtain ⟨u, hu⟩ : ∃ u, ((v.alloc (.cells #[.string ⟨#[112, 94, 50]⟩] 9)).alloc (.cells (#[.string ⟨#[112, 94, 50]⟩] ++ Builtin.zeroCells #[.string ⟨#[]⟩] (C - 1)) 9)).drew = u := ⟨_, rfl⟩
  have hbu : Below v.heap.size v u := hu ▸ (((Below.refl _ v).alloc (Nat.le_refl _) _).alloc (by simp) _).drew
  have hus : u.heap.size = w.heap.size + 3 := by rw [← hu]; simp [hvs]
  have hpc : u.cell? ⟨w.heap.size + 1 + 1, 0, none⟩ = some (.string ⟨#[112, 94, 50]⟩) := by
    rw [← hu, ← hvs]
    have h := World.cell?_alloc_new (w := v.alloc (.cells #[.string ⟨#[112, 94, 50]⟩] 9))
    rw [World.size_alloc] at h
    exact (h _ _ 0).trans (by rw [Array.getElem?_append_left (by simp)]; rfl)
  have hfz : u.frozen? ⟨w.heap.size, 8, none⟩ = false := (hbu.frozen (p := ⟨w.heap.size, 8, none⟩) (by rw [hvs]; exact Nat.lt_succ_self _)).trans (by rw [← HV.out]; exact frozen_of_row _ _ 8 _ _ (heap_alloc_new w _))
  have HBU : Hid (TermBox w.heap.size 2 0 0 0 0 0 0 0 ⟨[2, 0, 0, 0, 0, 0, 0, 0], s, A, an, ac, B, bm, bd⟩ u) := HBX.out.far (hbu.block _ (by rw [hvs]; exact Nat.lt_succ_self _))
  rw [hu]
  have HU := Lib.hid hu
  clear hu d0 d1 d2 d3 d4 d5 d6 d7 d8 d9 d10 g0 g1 hpart
  obtain ⟨d0, d1, d2, d3, d4, d5, d6, d7, d8, d9, d10⟩ := HBU.out
  rw [rounds_succ]
  go_wp2
  rw [rounds_succ]
  go_wp2
  rw [rounds_succ]
  go_wp2
  rw [rounds_succ]
  go_wp2
  rw [rounds_succ]
  go_wp2
  rw [rounds_succ]
  go_wp2
  rw [rounds_succ]
  go_wp2
  have hz9 : Below w.heap.size w (u.setCell ⟨w.heap.size, 8, none⟩ (.bool false)) := (hbv.trans (hbu.mono hbv.size)).setCell (p := ⟨w.heap.size, 8, none⟩) (Nat.le_refl _) _
  have hlo : Loose (u.setCell ⟨w.heap.size, 8, none⟩ (.bool false)) false A an ac B bm bd 1 k := by
    obtain ⟨_, n1, n2, n3, n4⟩ := HR.out.below hz9
    rcases hq with rfl | rfl
    · exact ⟨1, 1, n1.num, n2.num, by decide, n3, n4⟩
    · exact ⟨1, 1, n1.num, n2.num, by decide, n3, n4⟩
  have HF := Lib.hid (ratFormat_r (HL.out.below hz9) hlo k0 (by omega))
  rw [ratText_one] at HF
  have HJ : Hid (∀ w3, Below (u.setCell ⟨w.heap.size, 8, none⟩ (.bool false)).heap.size (u.setCell ⟨w.heap.size, 8, none⟩ (.bool false)) w3 → Below w.heap.size w w3 ∧ w3.cell? ⟨w.heap.size + 1 + 1, 0, none⟩ = some (.string ⟨#[112, 94, 50]⟩)) := fun w3 hb3 => ⟨nextB hz9 hb3, by
    rw [hb3.cell (p := ⟨w.heap.size + 1 + 1, 0, none⟩) (by simp [hus])]
    rw [World.cell?_setCell_other _ _ _ _ (by simp)]
    exact hpc⟩
  clear hlo hz9 hpc
  rw [rounds_succ]
  go_wp2_with fail
  refine HF.out.mono ?_
  rintro e w3 ⟨rfl, hb3⟩
  obtain ⟨hb4, hpc3⟩ := HJ.out w3 hb3
  clear HF HJ
  go_wp2_with fail
  refine (join_one _ _ _ _ _ hpc3).mono ?_
  rintro e w4 ⟨rfl, rfl⟩
  clear hpc3
  clear HBU
  go_wp2
  go_ret2
  exact ⟨rfl, hb4⟩

set_option maxHeartbeats 8000000 in
theorem formatQ {w : World} {h k : Nat} {s : Bool} {A B : Option Addr} {an ac bm bd : Nat} {q : Rat} (hl : Laid w) (hr : RN w s A an ac B bm bd q k) (hq : q = 1 ∨ q = -1) (k0 : 1 ≤ k) (hk8 : k ≤ 300000) (h0 : w.cell? ⟨h, 0, none⟩ = some (.string ⟨#[112]⟩)) (h1 : w.cell? ⟨h, 1, none⟩ = some (.string ⟨#[113]⟩)) (hh : h < w.heap.size) :
    Calls Tryz.prog 51 #[.agg #[.int .i64 0, .int .i64 2, .int .i64 0, .int .i64 0, .int .i64 0, .int .i64 0, .int .i64 0, .int .i64 0, .bool s, .slice A an ac, .slice B bm bd], .slice (some ⟨h, 0, none⟩) 2 2] w fun e w' => e = .returned (.tuple #[.string ⟨#[113, 94, 50]⟩, .int .i64 0]) ∧ Below w.heap.size w w' := by
  obtain ⟨i0, hi, hz0, hz1, hz2⟩ := info_parts infoStr
  obtain ⟨v, hv⟩ : ∃ v, w.alloc (.cells #[.int .i64 0, .int .i64 2, .int .i64 0, .int .i64 0, .int .i64 0, .int .i64 0, .int .i64 0, .int .i64 0, .bool s, .slice A an ac, .slice B bm bd] 47) = v := ⟨_, rfl⟩
  have hbv : Below w.heap.size w v := hv ▸ (Below.refl _ w).alloc (Nat.le_refl _) _
  have hvs : v.heap.size = w.heap.size + 1 := (alloc_facts hv).2.2.2
  have HBX : Hid (TermBox w.heap.size 0 2 0 0 0 0 0 0 ⟨[0, 2, 0, 0, 0, 0, 0, 0], s, A, an, ac, B, bm, bd⟩ v) := TermBox.mk (t := ⟨[0, 2, 0, 0, 0, 0, 0, 0], s, A, an, ac, B, bm, bd⟩) hv
  obtain ⟨d0, d1, d2, d3, d4, d5, d6, d7, d8, d9, d10⟩ := HBX.out
  have g0 : v.cell? ⟨h, 0, none⟩ = some (.string ⟨#[112]⟩) := (hbv.cell (p := ⟨h, 0, none⟩) hh).trans h0
  have g1 : v.cell? ⟨h, 1, none⟩ = some (.string ⟨#[113]⟩) := (hbv.cell (p := ⟨h, 1, none⟩) hh).trans h1
  have i0 := mix0 (.int .i64 0) (.int .i64 2) (.int .i64 0) (.int .i64 0) (.int .i64 0) (.int .i64 0) (.int .i64 0) (.int .i64 0)
  have i1 := mix1 (.int .i64 0) (.int .i64 2) (.int .i64 0) (.int .i64 0) (.int .i64 0) (.int .i64 0) (.int .i64 0) (.int .i64 0)
  have i2 := mix2 (.int .i64 0) (.int .i64 2) (.int .i64 0) (.int .i64 0) (.int .i64 0) (.int .i64 0) (.int .i64 0) (.int .i64 0)
  have i3 := mix3 (.int .i64 0) (.int .i64 2) (.int .i64 0) (.int .i64 0) (.int .i64 0) (.int .i64 0) (.int .i64 0) (.int .i64 0)
  have i4 := mix4 (.int .i64 0) (.int .i64 2) (.int .i64 0) (.int .i64 0) (.int .i64 0) (.int .i64 0) (.int .i64 0) (.int .i64 0)
  have i5 := mix5 (.int .i64 0) (.int .i64 2) (.int .i64 0) (.int .i64 0) (.int .i64 0) (.int .i64 0) (.int .i64 0) (.int .i64 0)
  have i6 := mix6 (.int .i64 0) (.int .i64 2) (.int .i64 0) (.int .i64 0) (.int .i64 0) (.int .i64 0) (.int .i64 0) (.int .i64 0)
  have i7 := mix7 (.int .i64 0) (.int .i64 2) (.int .i64 0) (.int .i64 0) (.int .i64 0) (.int .i64 0) (.int .i64 0) (.int .i64 0)
  have HL := Lib.hid hl
  have HR := Lib.hid hr
  have HV := Lib.hid hv
  clear hl hr hv h0 h1
  go_enter Tryz.func51, Tryz.ntmps51
  go_wp2_with fail
  rw [HV.out]
  refine wp_loop_rounds 9 ?_
  rw [rounds_succ]
  go_wp2
  rw [rounds_succ]
  go_wp2_with (go_at_call 68; refine (itoa2 _).mono ?_; rintro e w' ⟨rfl, rfl⟩)
  generalize (Question.appendCap 1 0 9).cut (v.tape v.drawn (Question.appendCap 1 0 9)) = C
  have hpart : (({ data := #[113] } : ByteArray) ++ (({ data := #[94] } : ByteArray) ++ ({ data := #[50] } : ByteArray))) = ⟨#[113, 94, 50]⟩ := by rfl
  rw [hpart]
  obtain ⟨u, hu⟩ : ∃ u, ((v.alloc (.cells #[.string ⟨#[113, 94, 50]⟩] 9)).alloc (.cells (#[.string ⟨#[113, 94, 50]⟩] ++ Builtin.zeroCells #[.string ⟨#[]⟩] (C - 1)) 9)).drew = u := ⟨_, rfl⟩
  have hbu : Below v.heap.size v u := hu ▸ (((Below.refl _ v).alloc (Nat.le_refl _) _).alloc (by simp) _).drew
  have hus : u.heap.size = w.heap.size + 3 := by rw [← hu]; simp [hvs]
  have hpc : u.cell? ⟨w.heap.size + 1 + 1, 0, none⟩ = some (.string ⟨#[113, 94, 50]⟩) := by
    rw [← hu, ← hvs]
    have h := World.cell?_alloc_new (w := v.alloc (.cells #[.string ⟨#[113, 94, 50]⟩] 9))
    rw [World.size_alloc] at h
    exact (h _ _ 0).trans (by rw [Array.getElem?_append_left (by simp)]; rfl)
  have hfz : u.frozen? ⟨w.heap.size, 8, none⟩ = false := (hbu.frozen (p := ⟨w.heap.size, 8, none⟩) (by rw [hvs]; exact Nat.lt_succ_self _)).trans (by rw [← HV.out]; exact frozen_of_row _ _ 8 _ _ (heap_alloc_new w _))
  have HBU : Hid (TermBox w.heap.size 0 2 0 0 0 0 0 0 ⟨[0, 2, 0, 0, 0, 0, 0, 0], s, A, an, ac, B, bm, bd⟩ u) := HBX.out.far (hbu.block _ (by rw [hvs]; exact Nat.lt_succ_self _))
  rw [hu]
  have HU := Lib.hid hu
  clear hu d0 d1 d2 d3 d4 d5 d6 d7 d8 d9 d10 g0 g1 hpart
  obtain ⟨d0, d1, d2, d3, d4, d5, d6, d7, d8, d9, d10⟩ := HBU.out
  rw [rounds_succ]
  go_wp2
  rw [rounds_succ]
  go_wp2
  rw [rounds_succ]
  go_wp2
  rw [rounds_succ]
  go_wp2
  rw [rounds_succ]
  go_wp2
  rw [rounds_succ]
  go_wp2
  have hz9 : Below w.heap.size w (u.setCell ⟨w.heap.size, 8, none⟩ (.bool false)) := (hbv.trans (hbu.mono hbv.size)).setCell (p := ⟨w.heap.size, 8, none⟩) (Nat.le_refl _) _
  have hlo : Loose (u.setCell ⟨w.heap.size, 8, none⟩ (.bool false)) false A an ac B bm bd 1 k := by
    obtain ⟨_, n1, n2, n3, n4⟩ := HR.out.below hz9
    rcases hq with rfl | rfl
    · exact ⟨1, 1, n1.num, n2.num, by decide, n3, n4⟩
    · exact ⟨1, 1, n1.num, n2.num, by decide, n3, n4⟩
  have HF := Lib.hid (ratFormat_r (HL.out.below hz9) hlo k0 (by omega))
  rw [ratText_one] at HF
  have HJ : Hid (∀ w3, Below (u.setCell ⟨w.heap.size, 8, none⟩ (.bool false)).heap.size (u.setCell ⟨w.heap.size, 8, none⟩ (.bool false)) w3 → Below w.heap.size w w3 ∧ w3.cell? ⟨w.heap.size + 1 + 1, 0, none⟩ = some (.string ⟨#[113, 94, 50]⟩)) := fun w3 hb3 => ⟨nextB hz9 hb3, by
    rw [hb3.cell (p := ⟨w.heap.size + 1 + 1, 0, none⟩) (by simp [hus])]
    rw [World.cell?_setCell_other _ _ _ _ (by simp)]
    exact hpc⟩
  clear hlo hz9 hpc
  rw [rounds_succ]
  go_wp2_with fail
  refine HF.out.mono ?_
  rintro e w3 ⟨rfl, hb3⟩
  obtain ⟨hb4, hpc3⟩ := HJ.out w3 hb3
  clear HF HJ
  go_wp2_with fail
  refine (join_one _ _ _ _ _ hpc3).mono ?_
  rintro e w4 ⟨rfl, rfl⟩
  clear hpc3
  clear HBU
  go_wp2
  go_ret2
  exact ⟨rfl, hb4⟩
end Go.Proofs.YtebbnmjmjoklmaaGreatDoor

namespace Go.Proofs.YtebbnmjmjoklmaaGreatDoor
open Go Go.RowKit Go.WideMaps
set_option maxRecDepth 100000

set_option maxHeartbeats 1000000 in
theorem sign_first (w : World) : Calls Tryz.prog 53 #[.bool true, .bool false] w fun e w' => e = .returned (.string ⟨#[]⟩) ∧ w = w' := by
  go_enter Tryz.func53, Tryz.ntmps53
  go_wp2
  go_ret
  exact ⟨rfl, rfl⟩
set_option maxHeartbeats 1000000 in
theorem sign_minus (w : World) : Calls Tryz.prog 53 #[.bool false, .bool true] w fun e w' => e = .returned (.string ⟨#[32, 45, 32]⟩) ∧ w = w' := by
  go_enter Tryz.func53, Tryz.ntmps53
  go_wp2
  go_ret
  exact ⟨rfl, rfl⟩
theorem Bld.below {B b : Nat} {t : ByteArray} {w w' : World} (h : Bld B b t w) (hb : Below w.heap.size w w') : Bld B b t w' := by
  have key : ∀ p, Lib.BuilderAt 92 5 B b p (Lib.strCells t) w → Lib.BuilderAt 92 5 B b p (Lib.strCells t) w' := by
    rintro p ⟨h1, v, h2, h3, h4⟩
    have hlt : b < w.heap.size := by
      rcases Nat.lt_or_ge b w.heap.size with h' | h'
      · exact h'
      · simp [Array.getElem?_eq_none h'] at h2
    exact ⟨h1, v, (hb.block b hlt).trans h2, ownsRow_below h3 hb, h4⟩
  exact h.imp (key _) (key _)
theorem Bld.fresh (w : World) : Bld w.heap.size w.heap.size ⟨#[]⟩ (w.alloc (.cells #[.pointer none, .slice none 0 0] 92)) :=
  .inl ⟨Nat.le_refl _, .slice none 0 0, heap_alloc_new w _, World.ownsRow_nil _ _ _ _, by simp [Value.ownBlock]⟩
/-- The two terms of p^2 - q^2. -/
def pq : List Trm := [([2, 0, 0, 0, 0, 0, 0, 0], 1), ([0, 2, 0, 0, 0, 0, 0, 0], -1)]
theorem pq_norml : Norml pq := ⟨by simp [pq, mlt], by intro t ht; simp only [pq, List.mem_cons, List.not_mem_nil, or_false] at ht; rcases ht with rfl | rfl <;> decide⟩

set_option maxHeartbeats 8000000 in
theorem formatPQ {w : World} {A : Option Addr} {n c k h : Nat} {E : Int} {ds : List Tq} (hl : Laid w) (hd : PolyRd w A n c ds k E) (hE : E ≤ 1000000000) (k0 : 1 ≤ k) (hk8 : k ≤ 300000) (hbig : 1 + n * (k + 1) ≤ 300000) (h12 : n ≤ 49) (hin : inLim ds) (heq : Eqv (trms ds) pq) (g0 : w.cell? ⟨h, 0, none⟩ = some (.string ⟨#[112]⟩)) (g1 : w.cell? ⟨h, 1, none⟩ = some (.string ⟨#[113]⟩)) (hh : h < w.heap.size) :
    Calls Tryz.prog 28 #[.slice A n c, .slice (some ⟨h, 0, none⟩) 2 2] w fun e w' => e = .returned (.tuple #[.string ⟨#[112, 94, 50, 32, 45, 32, 113, 94, 50]⟩, .int .i64 0]) ∧ Below w.heap.size w w' := by
  have H := Lib.hid (norm_x hl hd hE k0 hk8 hbig h12 hin)
  have HL := Lib.hid hl
  have HEQ := Lib.hid heq
  have G0 := Lib.hid g0
  have G1 := Lib.hid g1
  obtain ⟨K, hK⟩ : ∃ K, 1 + n * (k + 1) = K := ⟨_, rfl⟩
  rw [hK] at H
  have hK0 : 1 ≤ K := by omega
  have hK8 : K ≤ 300000 := by omega
  clear hl hd hin hbig heq g0 g1 hK
  go_enter Tryz.func28, Tryz.ntmps28
  go_wp2_with fail
  refine H.out.mono ?_
  rintro e w1 ⟨P, r, q, rs, rfl, hnf, hqe, _, hb1⟩
  have htr : trms rs = pq := Norml.unique hnf.norml pq_norml (hqe.trans HEQ.out)
  have hl2 : (trms rs).length = 2 := by rw [htr]; rfl
  have hr2 : r = 2 := by rw [hnf.rd.len]; simpa [trms] using hl2
  clear hl2
  subst hr2
  obtain ⟨x, y, hxy⟩ : ∃ x y, rs = [x, y] := by
    have := hnf.rd.len
    match rs, this with
    | [x, y], _ => exact ⟨x, y, rfl⟩
  subst hxy
  simp only [trms, pq, List.map_cons, List.map_nil, List.cons.injEq, Prod.mk.injEq, and_true] at htr
  obtain ⟨⟨hxL, hxq⟩, ⟨hyL, hyq⟩⟩ := htr
  have rx : x.1.rn w1 1 K := hxq ▸ hnf.rn x (by simp)
  have ry : y.1.rn w1 (-1) K := hyq ▸ hnf.rn y (by simp)
  have sx : x.1.s = false := rx.1.trans (by decide)
  have sy : y.1.s = true := ry.1.trans (by decide)
  obtain ⟨g, hP, hrow⟩ := hnf.rd.row (by omega)
  subst hP
  have h8 : ∀ u ∈ tms [x, y], u.L.length = 8 := fun u hu => by
    obtain ⟨z, hz, rfl⟩ := List.mem_map.1 hu
    exact (hnf.rd.mono z hz).1
  obtain ⟨w0, hw0⟩ : ∃ w0, w1.alloc (.cells #[.pointer none, .slice none 0 0] 92) = w0 := ⟨_, rfl⟩
  obtain ⟨b, hbn⟩ : ∃ b, w1.heap.size = b := ⟨_, rfl⟩
  have hbd : Bld b b ⟨#[]⟩ w0 := by rw [← hw0, ← hbn]; exact Bld.fresh w1
  have hb0 : Below w1.heap.size w1 w0 := hw0 ▸ (Below.refl _ w1).alloc (Nat.le_refl _) _
  have hs0 : w0.heap.size = w1.heap.size + 1 := (alloc_facts hw0).2.2.2
  obtain ⟨c0, c1, c2, c3, c4, c5, c6, c7, c8, c9, c10⟩ := row_cells (i := 0) (ownsRow_below hrow hb0) h8 rfl rfl hxL
  simp only [Nat.zero_mul, Nat.zero_add] at c0 c1 c2 c3 c4 c5 c6 c7 c8 c9 c10
  have SG0 : Hid (∀ w, Calls Tryz.prog 53 #[.bool true, .bool x.1.s] w fun e w' => e = .returned (.string ⟨#[]⟩) ∧ w = w') := fun w => by rw [sx]; exact sign_first w
  have SG1 : Hid (∀ w, Calls Tryz.prog 53 #[.bool false, .bool y.1.s] w fun e w' => e = .returned (.string ⟨#[32, 45, 32]⟩) ∧ w = w') := fun w => by rw [sy]; exact sign_minus w
  have HW0 := Lib.hid hw0
  have HBN := Lib.hid hbn
  have HROW := Lib.hid hrow
  have RX := Lib.hid rx
  have RY := Lib.hid ry
  have HXL := Lib.hid hxL
  have HYL := Lib.hid hyL
  have SX := Lib.hid sx
  have SY := Lib.hid sy
  have hwb : Below w.heap.size w w0 := nextB hb1 hb0
  have w0b : b ≤ w0.heap.size := by omega
  have w0X : Below b w1 w0 := hb0.mono (by omega)
  have w0B := hb0
  have w0W := hwb
  clear hs0 hnf hqe hxL hxq hyL hyq rx ry sx sy hrow hw0 hbn H
  unfold Two
  go_wp2_with fail
  rw [HW0.out, HBN.out]
  refine wp_loop_rounds 3 ?_
  obtain ⟨v0, hv0⟩ : ∃ v, w0.alloc (.cells #[.int .i64 2, .int .i64 0, .int .i64 0, .int .i64 0, .int .i64 0, .int .i64 0, .int .i64 0, .int .i64 0, .bool x.1.s, .slice x.1.A x.1.n x.1.c, .slice x.1.B x.1.m x.1.d] 47) = v := ⟨_, rfl⟩
  have hbv0 : Below w0.heap.size w0 v0 := hv0 ▸ (Below.refl _ w0).alloc (Nat.le_refl _) _
  have hvs0 : v0.heap.size = w0.heap.size + 1 := (alloc_facts hv0).2.2.2
  have HBX0 : Hid (∀ W, Below v0.heap.size v0 W → W.cell? ⟨w0.heap.size, 8, none⟩ = some (.bool x.1.s)) := fun W hW => (hW.cell (p := ⟨w0.heap.size, 8, none⟩) (by rw [hvs0]; exact Nat.lt_succ_self _)).trans (TermBox.mk (t := x.1) hv0).2.2.2.2.2.2.2.2.1
  obtain ⟨d0, d1, d2, d3, d4, d5, d6, d7, d8, d9, d10⟩ := TermBox.mk (t := x.1) hv0
  have wv0 : Below w.heap.size w v0 := w0W.trans (hbv0.mono w0W.size)
  have HFM0 := Lib.hid (formatP (h := h) (HL.out.below wv0) (RX.out.below (w0B.trans (hbv0.mono w0B.size))) (.inl rfl) hK0 hK8 ((wv0.cell (p := ⟨h, 0, none⟩) hh).trans G0.out) ((wv0.cell (p := ⟨h, 1, none⟩) hh).trans G1.out) (Nat.lt_of_lt_of_le hh wv0.size))
  have HV0 := Lib.hid hv0
  clear hv0 hvs0
  rw [rounds_succ]
  go_wp2_with fail
  rw [HV0.out]
  refine HFM0.out.mono ?_
  rintro e wf0 ⟨rfl, hbf0⟩
  have e8 := HBX0.out wf0 hbf0
  clear c0 c1 c2 c3 c4 c5 c6 c7 c8 c9 c10 d0 d1 d2 d3 d4 d5 d6 d7 d8 d9 d10
  go_wp2_with fail
  refine (SG0.out wf0).mono ?_
  rintro e ws0 ⟨rfl, rfl⟩
  clear e8
  have hbd0 := (hbd.below hbv0).below hbf0
  have hbw0 : b ≤ wf0.heap.size := Nat.le_trans (Nat.le_trans w0b hbv0.size) hbf0.size
  have HWA0 := Lib.hid (writeText_x hbd0 ⟨#[]⟩ (by decide) hbw0)
  go_wp2_with fail
  refine HWA0.out.mono ?_
  rintro e wa0 ⟨rfl, hba0, hbl0⟩
  have hbwa0 : b ≤ wa0.heap.size := Nat.le_trans hbw0 hbl0.size
  have HWB0 := Lib.hid (writeText_x hba0 ⟨#[112, 94, 50]⟩ (by decide) hbwa0)
  clear hbd0 hba0 HWA0
  go_wp2_with fail
  refine HWB0.out.mono ?_
  rintro e wn0 ⟨rfl, wn0D, hbm0⟩
  have wn0b : b ≤ wn0.heap.size := Nat.le_trans hbwa0 hbm0.size
  have wn0X : Below b w1 wn0 := ((w0X.trans (hbv0.mono w0b)).trans (hbf0.mono (Nat.le_trans w0b hbv0.size))).trans (hbl0.trans hbm0)
  have wn0B : Below w1.heap.size w1 wn0 := by rw [HBN.out]; exact wn0X
  have wn0W : Below w.heap.size w wn0 := nextB hb1 wn0B
  have wn0R := ownsRow_below HROW.out wn0B
  clear HWB0 HFM0
  go_wp2

  obtain ⟨c0, c1, c2, c3, c4, c5, c6, c7, c8, c9, c10⟩ := row_cells (i := 1) (wn0R) h8 rfl rfl HYL.out
  simp only [Nat.one_mul, Nat.reduceAdd] at c0 c1 c2 c3 c4 c5 c6 c7 c8 c9 c10
  obtain ⟨v1, hv1⟩ : ∃ v, wn0.alloc (.cells #[.int .i64 0, .int .i64 2, .int .i64 0, .int .i64 0, .int .i64 0, .int .i64 0, .int .i64 0, .int .i64 0, .bool y.1.s, .slice y.1.A y.1.n y.1.c, .slice y.1.B y.1.m y.1.d] 47) = v := ⟨_, rfl⟩
  have hbv1 : Below wn0.heap.size wn0 v1 := hv1 ▸ (Below.refl _ wn0).alloc (Nat.le_refl _) _
  have hvs1 : v1.heap.size = wn0.heap.size + 1 := (alloc_facts hv1).2.2.2
  have HBX1 : Hid (∀ W, Below v1.heap.size v1 W → W.cell? ⟨wn0.heap.size, 8, none⟩ = some (.bool y.1.s)) := fun W hW => (hW.cell (p := ⟨wn0.heap.size, 8, none⟩) (by rw [hvs1]; exact Nat.lt_succ_self _)).trans (TermBox.mk (t := y.1) hv1).2.2.2.2.2.2.2.2.1
  obtain ⟨d0, d1, d2, d3, d4, d5, d6, d7, d8, d9, d10⟩ := TermBox.mk (t := y.1) hv1
  have wv1 : Below w.heap.size w v1 := wn0W.trans (hbv1.mono wn0W.size)
  have HFM1 := Lib.hid (formatQ (h := h) (HL.out.below wv1) (RY.out.below (wn0B.trans (hbv1.mono wn0B.size))) (.inr rfl) hK0 hK8 ((wv1.cell (p := ⟨h, 0, none⟩) hh).trans G0.out) ((wv1.cell (p := ⟨h, 1, none⟩) hh).trans G1.out) (Nat.lt_of_lt_of_le hh wv1.size))
  have HV1 := Lib.hid hv1
  clear hv1 hvs1
  rw [rounds_succ]
  go_wp2_with fail
  rw [HV1.out]
  refine HFM1.out.mono ?_
  rintro e wf1 ⟨rfl, hbf1⟩
  have e8 := HBX1.out wf1 hbf1
  clear c0 c1 c2 c3 c4 c5 c6 c7 c8 c9 c10 d0 d1 d2 d3 d4 d5 d6 d7 d8 d9 d10
  go_wp2_with fail
  refine (SG1.out wf1).mono ?_
  rintro e ws1 ⟨rfl, rfl⟩
  clear e8
  have hbd1 := (wn0D.below hbv1).below hbf1
  have hbw1 : b ≤ wf1.heap.size := Nat.le_trans (Nat.le_trans wn0b hbv1.size) hbf1.size
  have HWA1 := Lib.hid (writeText_x hbd1 ⟨#[32, 45, 32]⟩ (by decide) hbw1)
  go_wp2_with fail
  refine HWA1.out.mono ?_
  rintro e wa1 ⟨rfl, hba1, hbl1⟩
  have hbwa1 : b ≤ wa1.heap.size := Nat.le_trans hbw1 hbl1.size
  have HWB1 := Lib.hid (writeText_x hba1 ⟨#[113, 94, 50]⟩ (by decide) hbwa1)
  clear hbd1 hba1 HWA1
  go_wp2_with fail
  refine HWB1.out.mono ?_
  rintro e wn1 ⟨rfl, wn1D, hbm1⟩
  have wn1b : b ≤ wn1.heap.size := Nat.le_trans hbwa1 hbm1.size
  have wn1X : Below b w1 wn1 := ((wn0X.trans (hbv1.mono wn0b)).trans (hbf1.mono (Nat.le_trans wn0b hbv1.size))).trans (hbl1.trans hbm1)
  have wn1B : Below w1.heap.size w1 wn1 := by rw [HBN.out]; exact wn1X
  have wn1W : Below w.heap.size w wn1 := nextB hb1 wn1B
  have wn1R := ownsRow_below HROW.out wn1B
  clear HWB1 HFM1
  go_wp2

  rw [rounds_succ]
  go_wp2_with fail
  have htext : ((((⟨#[]⟩ : ByteArray) ++ (⟨#[]⟩ : ByteArray)) ++ (⟨#[112, 94, 50]⟩ : ByteArray)) ++ (⟨#[32, 45, 32]⟩ : ByteArray)) ++ (⟨#[113, 94, 50]⟩ : ByteArray) = ⟨([112, 94, 50, 32, 45, 32, 113, 94, 50] : List UInt8).toArray⟩ := by rfl
  rw [htext] at wn1D
  refine (string_x wn1D (by decide)).mono ?_
  rintro e wz ⟨rfl, hbz⟩
  have hB : Below w.heap.size w wz := wn1W.trans (hbz.mono (Nat.le_trans hb1.size (by rw [HBN.out]; exact Nat.le_refl _)))
  clear htext wn1D
  go_wp2
  go_ret2
  exact ⟨rfl, hB⟩
end Go.Proofs.YtebbnmjmjoklmaaGreatDoor

namespace Go.Proofs.YtebbnmjmjoklmaaGreatDoor
open Go Go.RowKit Go.WideMaps
set_option maxRecDepth 100000

theorem PolyRd.lim {w : World} {A : Option Addr} {n c k : Nat} {E : Int} {ds : List Tq} (h : PolyRd w A n c ds k E) (hE : E ≤ 1024) : inLim ds := fun x hx e he => by
  have := (h.mono x hx).2 e he
  omega
theorem pq_eqv {x y : Tm} (hx : x.L = single 0 1) (hy : y.L = single 1 1) : Eqv (prods (trms [(x, 1)] ++ trms [(y, 1)]) (trms [(x, 1)] ++ scale (-1) (trms [(y, 1)]))) pq := fun f => by
  have e : prods (trms [(x, 1)] ++ trms [(y, 1)]) (trms [(x, 1)] ++ scale (-1) (trms [(y, 1)])) = [([2, 0, 0, 0, 0, 0, 0, 0], 1), ([1, 1, 0, 0, 0, 0, 0, 0], -1), ([1, 1, 0, 0, 0, 0, 0, 0], 1), ([0, 2, 0, 0, 0, 0, 0, 0], -1)] := by
    simp only [trms, List.map_cons, List.map_nil, hx, hy]
    simp [prods, scale, madd, single, Rat.mul_one, Rat.one_mul]
  rw [e]
  simp only [pq, lin_cons, lin_nil]
  rw [← Rat.add_assoc (-1 * f [1, 1, 0, 0, 0, 0, 0, 0]), ← Rat.add_mul]
  rw [show (-1 : Rat) + 1 = 0 from Rat.neg_add_cancel 1, Rat.zero_mul, Rat.zero_add]

set_option maxHeartbeats 8000000 in
theorem awake3 {w : World} (hl : Laid w) : Calls Tryz.prog 12 #[] w (True1 w) := by
  have HL := Lib.hid hl
  have HV0 := Lib.hid (var_x (v := 0) hl (by decide))
  clear hl
  go_enter Tryz.func12, Tryz.ntmps12
  go_wp2_with fail
  refine HV0.out.mono ?_
  rintro e w1 ⟨x, gx, rfl, hxL, nx, b1⟩
  have HV1 := Lib.hid (var_x (v := 1) (HL.out.below b1) (by decide))
  have HX := Lib.hid nx
  have HXL := Lib.hid hxL
  clear HV0 nx hxL
  unfold Two
  go_wp2_with fail
  refine HV1.out.mono ?_
  rintro e w2 ⟨y, gy, rfl, hyL, ny, b2⟩
  have c2 := nextB b1 b2
  have px := HX.out.rd.below b2
  have HA := Lib.hid (add_x (HL.out.below c2) px ny.rd (by decide) (by decide) (by decide) (by decide) (by decide) (px.lim (by decide)) (ny.rd.lim (by decide)))
  have HY := Lib.hid ny
  have HYL := Lib.hid hyL
  have HPX := Lib.hid px
  clear HV1 ny hyL px HX
  unfold Two
  go_wp2_with fail
  refine HA.out.mono ?_
  rintro e w3 ⟨Ps, rs, qs, s, rfl, ns, es, ls, b3⟩
  have c3 := nextB c2 b3
  have px := HPX.out.below b3
  have py := HY.out.rd.below b3
  have HS := Lib.hid (sub_x (HL.out.below c3) px py (by decide) (by decide) (by decide) (by decide) (by decide) (px.lim (by decide)) (py.lim (by decide)))
  have NS := Lib.hid ns
  have ES := Lib.hid es
  have LS := Lib.hid ls
  clear HA ns es ls px py HPX HY
  unfold Two
  go_wp2_with fail
  refine HS.out.mono ?_
  rintro e w4 ⟨Pd, rd, qd, d, rfl, nd, ed, ld, b4⟩
  have c4 := nextB c3 b4
  have ps := NS.out.rd.below b4
  have hrs : rs ≤ 2 := by rw [NS.out.rd.len]; exact LS.out
  have hrd : rd ≤ 2 := by rw [nd.rd.len]; exact ld
  have hnm : rs * rd ≤ 4 := Nat.mul_le_mul hrs hrd
  have hm15 : rd * (17 + 17 + 1) ≤ 70 := by omega
  have hbig : 1 + rs * (rd * (17 + 17 + 1)) ≤ 300000 := by
    have := Nat.mul_le_mul hrs hm15
    omega
  have HM := Lib.hid (mul_ok (kd' := 17) (ke' := 17) (HL.out.below c4) ps nd.rd (by decide) (by decide) (by decide) (by decide) (by decide) (by decide) (by decide) (by omega) (by omega) hbig (by decide) (by omega) (by omega) (by omega))
  have ED := Lib.hid ed
  have HBIG := Lib.hid hbig
  have HNM := Lib.hid hnm
  clear HS nd ed ld ps NS LS hrs hrd hnm hm15 hbig
  unfold Two
  go_wp2_with fail
  refine HM.out.mono ?_
  rintro e w5 ⟨Pm, rm, qm, m, rfl, nm, em, lm, b5⟩
  have c5 := nextB c4 b5
  have hin : inLim m := nm.rd.lim (by decide)
  · obtain ⟨K, hK⟩ : ∃ K, 1 + rs * (rd * (17 + 17 + 1)) = K := ⟨_, rfl⟩
    obtain ⟨v, hv⟩ : ∃ v, w5.alloc (.cells #[.string ⟨#[112]⟩, .string ⟨#[113]⟩] 9) = v := ⟨_, rfl⟩
    have hbv : Below w5.heap.size w5 v := hv ▸ (Below.refl _ w5).alloc (Nat.le_refl _) _
    have ha : ∀ q, (⟨w5.heap.size, 0, none⟩ : Addr).add q = ⟨w5.heap.size, q, none⟩ := fun q => by unfold Addr.add; split <;> simp_all
    have hcl := (alloc_facts hv).2.2
    simp only [ha] at hcl
    have hrm : rm ≤ 4 := by rw [nm.rd.len]; exact Nat.le_trans lm HNM.out
    have hKb : K ≤ 500 := by
      have h1 := HNM.out
      have h2 : rs * (rd * 35) = rs * rd * 35 := by rw [Nat.mul_assoc]
      have h3 : 1 + rs * (rd * 35) = K := hK
      rw [h2] at h3
      omega
    rw [hK] at nm
    have hk4 : rm * (K + 1) ≤ 4 * (K + 1) := Nat.mul_le_mul_right _ hrm
    have heq : Eqv (trms m) pq := em.trans ((Eqv.prods ES.out ED.out).trans (pq_eqv HXL.out HYL.out))
    have HF := Lib.hid (formatPQ (h := w5.heap.size) ((HL.out.below c5).below hbv) (nm.rd.below hbv) (by decide) (by omega) (by omega) (by omega) (by omega) hin heq (hcl.1 0 _ rfl) (hcl.1 1 _ rfl) (by rw [hcl.2]; exact Nat.lt_succ_self _))
    have HV := Lib.hid hv
    have c6 := nextB c5 hbv
    clear hv hcl nm em lm heq hK hKb hk4 HM ha hin hbv
    unfold Two
    go_wp2_with fail
    rw [HV.out]
    refine HF.out.mono ?_
    rintro e w6 ⟨rfl, b6⟩
    have c7 := nextB c6 b6
    clear HF
    go_wp2
    go_ret
    exact ⟨rfl, c7⟩
end Go.Proofs.YtebbnmjmjoklmaaGreatDoor
