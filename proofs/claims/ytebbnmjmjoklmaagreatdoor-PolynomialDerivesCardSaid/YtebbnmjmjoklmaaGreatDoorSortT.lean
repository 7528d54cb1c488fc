/-
  slices.SortFunc over fewer than fifty terms, and the normal form of a sum (sum.poly).
-/
import Derived.Test.YtebbnmjmjoklmaaGreatDoorPdq
namespace Go.Proofs.YtebbnmjmjoklmaaGreatDoor
open Go Go.RowKit Go.WideMaps Go.Sort
set_option maxRecDepth 20000

theorem sorted_perm {d r : Array Q8} (hp : PermIn 0 d.size d r) (h3 : SortedIn lt8 0 d.size r) : r.size = d.size ∧ (cs8 r).Perm (cs8 d) ∧ (cs8 r).Pairwise fun x y => mlt x.1.L y.1.L = false := by
  obtain ⟨h1, _, h2⟩ := hp
  refine ⟨h1, ?_, ?_⟩
  · have e1 : r.extract 0 d.size = r := by rw [← h1]; exact Array.extract_size
    have e2 : d.extract 0 d.size = d := Array.extract_size
    rw [e1, e2] at h2
    have : r.toList.Perm d.toList := h2
    exact this.map _
  · unfold cs8
    rw [List.pairwise_map, List.pairwise_iff_getElem]
    intro i j hi hj hij
    have hj' : j < d.size := by rw [← h1]; simpa using hj
    have := h3 i j (Nat.zero_le _) hij hj'
    rw [getElem!_pos _ j (by rw [h1]; exact hj'), getElem!_pos _ i (by rw [h1]; omega)] at this
    simpa [lt8] using this
theorem sort_perm (d : Array Q8) : (Sort.sort lt8 d).size = d.size ∧ (cs8 (Sort.sort lt8 d)).Perm (cs8 d) ∧ (cs8 (Sort.sort lt8 d)).Pairwise fun x y => mlt x.1.L y.1.L = false := by
  obtain ⟨h1, h2⟩ := sort_sorts lt8 swo8 d
  exact sorted_perm h1 h2
set_option maxHeartbeats 2000000 in
theorem sortTerms_x {w : World} {base g cap : Nat} {d : Array Q8} (hrow : w.ownsRow base 47 11 (.slice (some ⟨g, 0, none⟩) d.size cap) d.size (rowOf (tms (cs8 d)))) (hn : d.size ≤ 49) :
    Calls Tryz.prog 64 #[.slice (some ⟨g, 0, none⟩) d.size cap, .func (.func 65) #[.int .i64 (-1)] #[]] w fun e w' => e = .returned (.tuple #[]) ∧
      w'.ownsRow base 47 11 (.slice (some ⟨g, 0, none⟩) d.size cap) d.size (rowOf (tms (cs8 (Sort.sort lt8 d)))) ∧ Keeps g g g w w' := by
  have hp := pdq_x (d.size + 1) (w := w) (base := base) (g := g) (cap := cap) (a := 0) (b := d.size) (limit := bitsLen d.size) (d := d) (by omega) hrow (by omega) (by omega) (Nat.zero_le _) (Nat.le_refl _) (by have := (bitsLen_le_iff d.size 62).2 (by omega); omega)
  rw [show ((0 : Nat) : Int) = 0 from rfl, show pdq lt8 d 0 d.size (bitsLen d.size) true true = Sort.sort lt8 d from rfl] at hp
  have HS := Lib.hid hp
  have h2 : IntKind.u64.wrap (d.size : Int) = (d.size : Int) := by simp [IntKind.wrap, IntKind.bits, IntKind.signed]; omega
  have hl := len_small (d.size : Int) w (by omega) (by omega)
  rw [Int.toNat_natCast, bitLen_eq _ (by omega)] at hl
  have HL := Lib.hid hl
  clear hrow hp hl
  generalize Sort.sort lt8 d = r at HS ⊢
  generalize bitsLen d.size = lim at *
  generalize d.size = n at *
  go_enter Tryz.func64, Tryz.ntmps64
  go_wp2_with fail
  refine HL.out.mono ?_
  rintro e w' ⟨rfl, rfl⟩
  go_wp2_with fail
  refine HS.out.mono ?_
  rintro e w' ⟨rfl, h3, h4⟩
  have H3 := Lib.hid h3
  have H4 := Lib.hid h4
  clear h3 h4
  go_wp2
  go_end0
  exact ⟨rfl, H3.out, H4.out⟩

theorem ownsRow_zero {w : World} {base : Nat} {e : TypeId} {size : Nat} {v : Value} {n : Nat} {xs : List Value} (h : w.ownsRow base e size v n xs) : w.ownsRow 0 e size v n xs :=
  ⟨h.1, h.2.imp id fun ⟨g, cap, cur, a, _, b⟩ => ⟨g, cap, cur, a, Nat.zero_le _, b⟩⟩
/-- A polynomial in memory, as a slice of terms. -/
structure PolyRd (w : World) (A : Option Addr) (n c : Nat) (ds : List Tq) (k : Nat) (E : Int) : Prop where
  len : n = ds.length
  cap : n ≤ c
  big : n < 1000000
  row : 0 < n → ∃ g, A = some ⟨g, 0, none⟩ ∧ w.ownsRow 0 47 11 (.slice (some ⟨g, 0, none⟩) n c) n (rowOf (tms ds))
  mono : ∀ x ∈ ds, MonoE E x.1.L
  coef : ∀ x ∈ ds, x.1.loose w x.2 k
theorem PolyRd.below {w w' : World} {A : Option Addr} {n c : Nat} {ds : List Tq} {k : Nat} {E : Int} (h : PolyRd w A n c ds k E) (hb : Below w.heap.size w w') : PolyRd w' A n c ds k E :=
  ⟨h.len, h.cap, h.big, fun hn => by obtain ⟨g, e, hr⟩ := h.row hn; exact ⟨g, e, ownsRow_below hr hb⟩, h.mono, fun x hx => (h.coef x hx).below hb⟩
theorem PolyRd.le {w : World} {A : Option Addr} {n c : Nat} {ds : List Tq} {k j : Nat} {E F : Int} (h : PolyRd w A n c ds k E) (hk : k ≤ j) (hE : E ≤ F) : PolyRd w A n c ds j F :=
  ⟨h.len, h.cap, h.big, h.row, fun x hx => (h.mono x hx).le hE, fun x hx => (h.coef x hx).mono hk⟩
/-- In normal form. -/
structure PolyNf (w : World) (A : Option Addr) (n c : Nat) (ds : List Tq) (k : Nat) (E : Int) : Prop where
  rd : PolyRd w A n c ds k E
  norml : Norml (trms ds)
  rn : ∀ x ∈ ds, x.1.rn w x.2 k
theorem PolyNf.below {w w' : World} {A : Option Addr} {n c : Nat} {ds : List Tq} {k : Nat} {E : Int} (h : PolyNf w A n c ds k E) (hb : Below w.heap.size w w') : PolyNf w' A n c ds k E :=
  ⟨h.rd.below hb, h.norml, fun x hx => (h.rn x hx).below hb⟩
/-- A polynomial in normal form comes back: it denotes what l does. -/
def GivesP (w : World) (l : List Trm) (k : Nat) (E : Int) (e : Ending) (w' : World) : Prop :=
  ∃ A n c ds, e = .returned (.slice A n c) ∧ PolyNf w' A n c ds k E ∧ Eqv (trms ds) l ∧ Below w.heap.size w w'
theorem to_q8 : ∀ {l : List Tq}, (∀ x ∈ l, x.1.L.length = 8) → ∃ d : List Q8, d.map Subtype.val = l
  | [], _ => ⟨[], rfl⟩
  | x :: l, h => by
    obtain ⟨d, hd⟩ := to_q8 (l := l) fun y hy => h y (List.mem_cons_of_mem _ hy)
    exact ⟨⟨x, h x (List.mem_cons_self)⟩ :: d, by rw [List.map_cons, hd]⟩
theorem nz_trms (cs : List Tq) : Eqv (trms (nz cs)) (trms cs) := fun f => by
  unfold nz
  rw [trms_filter, lin_filter]
theorem mons_nz_nodup {cs : List Tq} (h : (mons cs).Nodup) : (mons (nz cs)).Nodup := h.sublist (List.Sublist.map _ List.filter_sublist)

set_option maxHeartbeats 4000000 in
theorem poly_x {w : World} {base p k : Nat} {E : Int} {cs : List Tq} (h : SumIs w base p cs k E) (k0 : 1 ≤ k) (hn : cs.length < 1000000) (h12 : (nz cs).length ≤ 49) :
    Calls Tryz.prog 41 #[.pointer (some ⟨p, 0, none⟩)] w fun e w' => ∃ A n c ds, e = .returned (.slice A n c) ∧ PolyNf w' A n c ds k E ∧ Eqv (trms ds) (trms cs) ∧ ds.length ≤ cs.length ∧ Below base w w' := by
  obtain ⟨b, g, cap, D, h⟩ := h
  have h8 : ∀ x ∈ cs, x.1.L.length = 8 := fun x hx => (h.mono x hx).1
  have HD := Lib.hid (deleteZero_x h.row h8 (fun x hx => ⟨(h.coef x hx).1.loose, (h.coef x hx).2.mono fun _ hi => hi.2.2⟩) k0 hn)
  obtain ⟨d, HCS⟩ : ∃ d : Array Q8, Hid (cs8 d = nz cs) := by
    obtain ⟨d, hd⟩ := to_q8 (l := nz cs) fun x hx => h8 x (List.mem_filter.1 hx).1
    exact ⟨d.toArray, hd⟩
  have HSZ : Hid (d.size = (nz cs).length) := by show _ = _; rw [← HCS.out, cs8_length]
  have c1 := h.cell1
  have H := Lib.hid h
  clear h
  go_enter Tryz.func41, Tryz.ntmps41
  go_wp2_with fail
  refine HD.out.mono ?_
  rintro e w1 ⟨rfl, hrow1, hk1⟩
  rw [← HCS.out, cs8_length] at hrow1
  have HS := Lib.hid (sortTerms_x hrow1 (by rw [HSZ.out]; exact h12))
  rw [← HSZ.out]
  clear hrow1 c1
  go_wp2_with fail
  refine HS.out.mono ?_
  rintro e w2 ⟨rfl, hrow2, hk2⟩
  have hperm := sort_perm d
  generalize Sort.sort lt8 d = r at hrow2 hperm
  obtain ⟨p1, p2, p3⟩ := hperm
  rw [HCS.out] at p2
  have K := hk1.trans hk2
  have hpl := H.out.lt
  have hbb : base ≤ w.heap.size := by have := H.out.basep; omega
  have hmem : ∀ x ∈ cs8 r, x ∈ cs := fun x hx => (List.mem_filter.1 (p2.mem_iff.1 hx)).1
  have hrn : ∀ x ∈ cs8 r, x.1.rn w2 x.2 k := fun x hx => (H.out.coef x (hmem x hx)).1.keeps K ((H.out.coef x (hmem x hx)).2.mono fun _ hi => ⟨hi.2.2, hi.2.2, hi.2.2⟩)
  have hlen : d.size = (cs8 r).length := by rw [cs8_length, p1]
  have hle := nz_length cs
  have hsz := HSZ.out
  have hcap : d.size ≤ cap := by
    rcases hrow2.2 with ⟨h', _⟩ | ⟨g', cap', cur, h', _, _, hnc, _⟩
    · simp at h'
    · simp only [Value.slice.injEq] at h'
      obtain ⟨_, _, rfl⟩ := h'
      exact hnc
  have NF : PolyNf w2 (some ⟨g, 0, none⟩) d.size cap (cs8 r) k E :=
    ⟨⟨hlen, hcap, by omega, fun _ => ⟨g, rfl, ownsRow_zero hrow2⟩, fun x hx => H.out.mono x (hmem x hx), fun x hx => (hrn x hx).loose⟩,
      norml_of_sorted p3 ((List.Perm.map (fun x : Tq => x.1.L) p2).nodup_iff.2 (mons_nz_nodup H.out.nodup)) (fun x hx => by
        have := (List.mem_filter.1 (p2.mem_iff.1 hx)).2
        simpa using this), hrn⟩
  have HN := Lib.hid NF
  have EQ : Hid (Eqv (trms (cs8 r)) (trms cs)) := fun f => (lin_perm (p2.map _) f).trans (nz_trms cs f)
  have HB : Hid (Below base w w2) := K.below_base H.out.baseg H.out.baseg H.out.baseg hbb
  have HL : Hid ((cs8 r).length ≤ cs.length) := by show _ ≤ _; rw [← hlen, HSZ.out]; exact hle
  clear NF hrn hmem p1 p2 p3 hrow2 hk1 hk2 K hlen hcap HS HD H hsz hle HSZ HCS
  go_wp2
  go_ret
  exact ⟨_, _, _, _, rfl, HN.out, EQ.out, HL.out, HB.out⟩
end Go.Proofs.YtebbnmjmjoklmaaGreatDoor
