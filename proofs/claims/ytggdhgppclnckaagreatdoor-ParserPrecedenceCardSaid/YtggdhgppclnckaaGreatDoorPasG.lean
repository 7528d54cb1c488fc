/-
  Operators of one level, which associate to the left.
-/
import Derived.Test.YtggdhgppclnckaaGreatDoorPasN
namespace Go.Proofs.YtggdhgppclnckaaGreatDoor
open Go Go.RowKit Lx
set_option maxRecDepth 20000

namespace Ps
variable {w : World} {g b n c : Nat} {L : List Tok} {i : Nat} {o : Int}
/-- The operators lie in block ob. -/
def OpsAt (w : World) (ob : Nat) (ops : List (Bs × Int)) : Prop := ∀ (j : Nat) (s : Bs) (op : Int), ops[j]? = some (s, op) → w.cell? ⟨ob, j * 2, none⟩ = some (.string (bt s)) ∧ w.cell? ⟨ob, j * 2 + 1, none⟩ = some (.int .i64 op)
theorem OpsAt.keep {w w' : World} {ob : Nat} {ops : List (Bs × Int)} (h : OpsAt w ob ops) (hb : w'.heap[ob]? = w.heap[ob]?) : OpsAt w' ob ops := fun j s op hj =>
  ⟨(World.cell?_of_block (a := ⟨ob, j * 2, none⟩) hb).trans (h j s op hj).1, (World.cell?_of_block (a := ⟨ob, j * 2 + 1, none⟩) hb).trans (h j s op hj).2⟩
theorem bd_assoc {α β γ : Type} (m : P α) (f : α → P β) (k : β → P γ) : bd (bd m f) k = bd m (fun a => bd (f a) k) := by
  funext i o
  unfold bd
  cases m i o <;> rfl
set_option maxHeartbeats 8000000 in
theorem chain_x {f : FuncId} {M : P Ex} {q : Nat} (hf : Does g b n c L f rdE M q) (he : Enters f) (h : At w g b n c L i o) (hq : n ≤ q + i) (ops : List (Bs × Int)) (ob m : Nat) (ho : OpsAt w ob ops) (hob : ob < w.heap.size) (hog : ob ≠ g) (hom : ops.length = m) (hos : ∀ s op, (s, op) ∈ ops → s ≠ []) (hm2 : m ≤ 2) :
    Calls Tryz.prog 191 #[.pointer (some ⟨g, 0, none⟩), .func (.func f) #[.pointer (some ⟨g, 0, none⟩)] #[], .slice (some ⟨ob, 0, none⟩) m m] w (Giv g b n c L (rdE w.heap.size) w i 0 (chain L M ops i o)) := by
  have HF := Lib.hid hf
  have HA : Hid (∀ W j q s, s ≠ [] → At W g b n c L j q → Calls Tryz.prog 97 #[.pointer (some ⟨g, 0, none⟩), .string (bt s)] W (Giv g b n c L rdB W j 0 (acc L s j q))) := fun W j q s hs hW => accept_x hW s hs
  have HE : Hid (Enters f) := he
  have hsz := h.cs.size
  have hbz := h.hb
  have hLn := h.hn
  have HOPS : Hid (∀ W, But g w W → OpsAt W ob ops) := fun W hW => ho.keep (hW.block ob hob hog)
  obtain ⟨S, hS⟩ : ∃ S, w.heap.size = S := ⟨_, rfl⟩
  generalize hr : chain L M ops i o = r
  unfold chain at hr
  have H1 := Lib.hid (fun W => fun hW : Below w.heap.size w W => hf W i o (h.new hW) hq)
  have HOM := Lib.hid hom
  have HOS := Lib.hid hos
  clear hf h he ho hom hos
  have b0 := allocB w (.cells #[.int .i64 0, .int .i64 0, .bool false, .slice none 0 0, .slice none 0 0, .string ⟨#[]⟩, .slice none 0 0] 53)
  have x6 := box_alloc w 53 #[.int .i64 0, .int .i64 0, .bool false, .slice none 0 0, .slice none 0 0, .string ⟨#[]⟩, .slice none 0 0]
  go_enter Tryz.func191, Tryz.ntmps191
  have hen : ∀ (args : Array Value) (W : World), (callFunc f args).run Tryz.prog W = .ok (.enter f args) W := HE.out
  go_wp2
  go_step3
  go_wp2_with fail
  clear hen
  have H2 := Lib.hid (H1.out _ b0)
  have sz0 := b0.size
  have sz1 := x6.lt
  generalize w.alloc (.cells #[.int .i64 0, .int .i64 0, .bool false, .slice none 0 0, .slice none 0 0, .string ⟨#[]⟩, .slice none 0 0] 53) = w0 at *
  refine H2.out.mono ?_
  rintro en w1 (⟨a, j, q1, v, hm, rfl, ⟨a0, a1, a2, a3, a4, a5, a6, rfl, hv⟩, hat, hle, hb⟩ | ⟨j, er, hm, rfl, hj, hb⟩)
  · rw [bd_ok hm] at hr
    have HR := Lib.hid hr
    have y6 := (x6.but hb (by omega)).new (allocB w1 (.cells #[a0, a1, a2, a3, a4, a5, a6] 53))
    have y7 := box_alloc w1 53 #[a0, a1, a2, a3, a4, a5, a6]
    have hat1 := hat.new (allocB w1 (.cells #[a0, a1, a2, a3, a4, a5, a6] 53))
    have HB1 : Hid (But g w (w1.alloc (.cells #[a0, a1, a2, a3, a4, a5, a6] 53))) := ((But.of_below b0).trans hb).trans (But.of_below (allocB w1 _))
    have HV1 : Hid (Rds (Ob S w1.heap.size) (w1.alloc (.cells #[a0, a1, a2, a3, a4, a5, a6] 53)) a.d [a0, a1, a2, a3, a4, a5, a6]) := hv.keep (allocB w1 _).size (fun k _ hk => (allocB w1 _).block k hk) fun k hk hlt => by simp [Fr] at hk; simp [Ob]; omega
    have s1 := hb.size
    have ones : (#[a0, a1, a2, a3, a4, a5, a6] : Array Value).all (·.oneCell') = true := hv.all
    clear hm H1 H2 hat hv hb x6 hr
    go_wp2_with (refine wpList_store_row rfl 53 (.tmp 7) (.tmp 11) rfl w1.heap.size _ rfl rfl 53 _ (box_alloc w1 53 #[.int .i64 0, .int .i64 0, .bool false, .slice none 0 0, .slice none 0 0, .string ⟨#[]⟩, .slice none 0 0]) (by kernel_rfl) rfl ones ?_)
    rw [World.setRow_alloc_new]
    have s7 := y7.lt
    generalize w1.alloc (.cells #[a0, a1, a2, a3, a4, a5, a6] 53) = w1' at *
    simp only [Act.put]
    go_step3
    go_wp2
    generalize hs1 : w1.heap.size = eb at *
    generalize w0.heap.size = S0 at *
    clear ones
    go_loopg [13] L.length (fun k tv wr => ∃ (e : Ex) (e0 e1 e2 e3 e4 e5 e6 : Value) (j : Nat) (q' : Int), (tv = undef ∨ tv ≠ undef) ∧ Hid (chainF L M ops k e j q' = r) ∧ At wr g b n c L j q' ∧ Box wr eb 53 #[e0, e1, e2, e3, e4, e5, e6] ∧ Box wr S 53 #[.int .i64 0, .int .i64 0, .bool false, .slice none 0 0, .slice none 0 0, .string ⟨#[]⟩, .slice none 0 0] ∧ Hid (Rds (Ob S eb) wr e.d [e0, e1, e2, e3, e4, e5, e6]) ∧ Hid (But g w wr) ∧ i ≤ j ∧ n ≤ k + j)
    case atStart => exact ⟨a, _, _, _, _, _, _, _, j, q1, Classical.em _, HR.out, hat1, y7, hS ▸ y6, HV1.out, HB1.out, by omega, by omega⟩
    case round =>
      obtain ⟨e, e0, e1, e2, e3, e4, e5, e6, j, q', _, hk, hw, z7, z6, HEV, HB, hij, hnk⟩ := hrel
      clear HR hat1 y7 y6 HV1 HB1
      have hi := hw.hi
      have hl := hw.len
      cases gk with
      | zero => omega
      | succ gk =>
        have hk2 := hk.out
        unfold chainF at hk2
        clear hk
        obtain ⟨C, hC⟩ : ∃ C : Option Int → P Ex, (fun r => match r with | none => ret e | some op => bd M fun x => chainF L M ops gk (node op [e, x])) = C := ⟨_, rfl⟩
        have HC0 : Hid (∀ j q, C none j q = .ok e j q) := fun j q => by rw [← hC]; rfl
        have HC1 : Hid (∀ op j q, C (some op) j q = bd M (fun x => chainF L M ops gk (node op [e, x])) j q) := fun op j q => by rw [← hC]
        have HK : Hid (bd (firstOp L ops) C j q' = r) := by rw [← hC]; exact hk2
        clear hk2 hC
        go_wp2_with fail
        generalize wr = wo at *
        go_loopw [14] (fun iv wq => ∃ k : Nat, k ≤ m ∧ iv = .int .i64 k ∧ Hid (bd (firstOp L (ops.drop k)) C j q' = r) ∧ At wq g b n c L j q' ∧ Box wq eb 53 #[e0, e1, e2, e3, e4, e5, e6] ∧ Box wq S 53 #[.int .i64 0, .int .i64 0, .bool false, .slice none 0 0, .slice none 0 0, .string ⟨#[]⟩, .slice none 0 0] ∧ But g wo wq) (fun iv _ => m - (intOf iv).toNat)
        case atStart => exact ⟨0, by omega, rfl, HK.out, hw, z7, z6, But.refl _ _⟩
        case round =>
          obtain ⟨k, hkm, rfl, hkk, hwr, z7q, z6q, hBq⟩ := hrel
          clear HK hw z7 z6
          have hSq := hBq.size
          have hSr := HB.out.size
          by_cases hlt : k < m
          · obtain ⟨⟨sg, op⟩, hop⟩ : ∃ x, ops[k]? = some x := ⟨_, List.getElem?_eq_getElem (by rw [HOM.out]; exact hlt)⟩
            obtain ⟨o0, o1⟩ := HOPS.out wr (HB.out.trans hBq) k sg op hop
            have hdr : ops.drop k = (sg, op) :: ops.drop (k + 1) := by
              have hl' : k < ops.length := by rw [HOM.out]; exact hlt
              rw [List.drop_eq_getElem_cons hl']
              rw [List.getElem?_eq_getElem hl'] at hop
              injection hop with hop
              rw [hop]
            have hsg := HOS.out sg op (List.mem_of_getElem? hop)
            have hk3 := hkk.out
            rw [hdr] at hk3
            unfold firstOp at hk3
            rw [bd_assoc] at hk3
            clear hdr hkk hop
            have z0 : (0 : Int) ≤ (k : Int) := by omega
            have z1 : (k : Int) < (m : Int) := by omega
            have zt : decide ((k : Int) < (m : Int)) = true := by simpa using hlt
            have hnew := allocB wr (.cells #[.string (bt sg), .int .i64 op] 206)
            have x9 := box_alloc wr 206 #[.string (bt sg), .int .i64 op]
            have hat := hwr.new hnew
            have z7n := z7q.new hnew
            have z6n := z6q.new hnew
            have HBn : Hid (But g wo (wr.alloc (.cells #[.string (bt sg), .int .i64 op] 206))) := hBq.trans (But.of_below hnew)
            have hs9 := x9.lt
            have p0 : (wr.alloc (.cells #[.string (bt sg), .int .i64 op] 206)).cell? ⟨wr.heap.size, 0, none⟩ = some (.string (bt sg)) := by simp
            have hs7 := z7q.lt
            have hs6 := z6q.lt
            clear hnew hwr z7q z6q hBq
            go_wp2_with fail
            refine (HA.out _ _ _ sg hsg hat).mono ?_
            rintro en w5 (⟨t, j2, q2, v, hm, rfl, rfl, hat5, hle5, hb5⟩ | ⟨j2, er, hm, rfl, hj2, hb5⟩)
            · rw [bd_ok hm] at hk3
              have s5 := hb5.size
              have z7 := z7n.but hb5 (by omega)
              have z6 := z6n.but hb5 (by omega)
              have z9 := x9.but hb5 (by omega)
              have HB5 : Hid (But g wo w5) := HBn.out.trans hb5
              generalize wr.heap.size = ob9 at *
              cases t
              · obtain ⟨rfl, rfl, _⟩ := acc_not hm
                simp only [Bool.false_eq_true, if_false] at hk3
                have HK3 := Lib.hid hk3
                clear p0 hat z7n z6n x9 HBn hb5 hm hk3
                go_wp2
                go_roundw
                case rel => exact ⟨k + 1, by omega, by go_num, HK3.out, hat5, z7, z6, HB5.out⟩
                case measure => simp [intOf] <;> omega
              · obtain ⟨rfl, _⟩ := acc_yes hm
                simp only [if_true] at hk3
                have HK3 : Hid (bd M (fun x => chainF L M ops gk (node op [e, x])) (j + 1) q2 = r) := by
                  rw [← HC1.out]; exact hk3
                have H3 := Lib.hid (HF.out w5.drew (j + 1) q2 (hat5.drewN 1) (by omega))
                have HB5' : Hid (But g w w5.drew) := (HB.out.trans HB5.out).drewN 1
                have HE5 : Hid (Rds (Ob S eb) w5.drew e.d [e0, e1, e2, e3, e4, e5, e6]) := ((HEV.out.but HB5.out (by simp [Ob]; omega)).keep (Nat.le_refl _) (fun _ _ _ => rfl) fun _ h _ => h)
                have z7' : Box w5.drew eb 53 #[e0, e1, e2, e3, e4, e5, e6] := z7.drewN 1
                have z6' : Box w5.drew S 53 #[.int .i64 0, .int .i64 0, .bool false, .slice none 0 0, .slice none 0 0, .string ⟨#[]⟩, .slice none 0 0] := z6.drewN 1
                have z9' : Box w5.drew ob9 206 #[.string (bt sg), .int .i64 op] := z9.drewN 1
                have s5' : w5.drew.heap.size = w5.heap.size := rfl
                clear p0 hat z7n z6n x9 HBn hb5 hm hk3 HB5 z7 z6 z9
                have hen : ∀ (args : Array Value) (W : World), (callFunc f args).run Tryz.prog W = .ok (.enter f args) W := HE.out
                go_wp2
                refine wp_region_held_drew (S := fun W => Box W ob9 206 #[.string (bt sg), .int .i64 op]) (by kernel_rfl) ?_ (fun hHeld => ?_)
                · exact z9'
                refine tkH (i := 0) (oi := ⟨some 22, _, _, _, _, _⟩) (v := ?_) ?_ ?_
                rotate_left
                · intro W hSw
                  go_simp
                  try with_reducible rfl
                try simp only [Act.put, List.setIfInBounds_toArray, List.set_cons_zero, List.set_cons_succ]
                refine tkH (i := 1) (oi := ⟨some 23, _, _, _, _, _⟩) (v := ?_) ?_ ?_
                rotate_left
                · intro W hSw
                  have p9 := box_cell hSw 1 _ rfl
                  go_simp
                  try with_reducible rfl
                try simp only [Act.put, List.setIfInBounds_toArray, List.set_cons_zero, List.set_cons_succ]
                refine tkH (i := 3) (oi := ⟨some 25, _, _, _, _, _⟩) (v := ?_) ?_ ?_
                rotate_left
                · intro W hSw
                  go_simp
                  try with_reducible rfl
                try simp only [Act.put, List.setIfInBounds_toArray, List.set_cons_zero, List.set_cons_succ]
                refine wpAnyH_ready (rs := [2, 4]) (by kernel_rfl) (by simp) ?_
                refine AllReadyH.cons (o := ⟨some 24, _, _, _, _, _⟩) rfl (fun K hK => ?_) (AllReadyH.cons (o := ⟨some 26, _, _, _, _, _⟩) rfl (fun K hK => ?_) (AllReadyH.nil))
                · rw [if_pos (by rfl)]
                  refine wp_load_row 53 (.tmp 7) rfl (eb) rfl 53 _ (0, 0) (.struct _) (z7') rfl rfl (by kernel_rfl) ?_
                  refine hK.out _ _ (hHeld) (fun hHeld => ?_)
                  clear hK K
                  try simp only [Act.put, List.setIfInBounds_toArray, List.set_cons_zero, List.set_cons_succ]
                  refine wpAnyH_ready (rs := [4]) (by kernel_rfl) (by simp) ?_
                  refine AllReadyH.cons (o := ⟨some 26, _, _, _, _, _⟩) rfl (fun K hK => ?_) AllReadyH.nil
                  go_simp
                  clear hHeld
                  refine H3.out.mono ?_
                  rintro en w6 (⟨x, j3, q3, v, hm3, rfl, ⟨x0, x1, x2, x3, x4, x5, x6, rfl, hvx⟩, hat6, hle3, hb6⟩ | ⟨j3, er, hm3, rfl, hj3, hb6⟩)
                  rotate_left
                  · have hk6 := HK3.out
                    rw [bd_no hm3] at hk6
                    exact post_panic (fn := Tryz.f191) rfl (Or.inr ⟨j3, er, hk6.symm, rfl, hj3, HB5'.out.trans hb6⟩)
                  have hk6 := HK3.out
                  rw [bd_ok hm3] at hk6
                  have s6 := hb6.size
                  have y7 := z7'.but hb6 (by omega)
                  have y9 := z9'.but hb6 (by omega)
                  have hve := HE5.out.but hb6 (by simp [Ob]; omega)
                  have hvy : Rds (Ob S eb) w6 x.d [x0, x1, x2, x3, x4, x5, x6] := hvx.in (fun k hk => by simp [Fr] at hk; simp [Ob]; omega)
                  refine hK.out _ _ (y9) (fun hHeld => ?_)
                  clear hK K
                  try simp only [Act.put, List.setIfInBounds_toArray, List.set_cons_zero, List.set_cons_succ]
                  refine wpAnyH_ready (rs := [5]) (by kernel_rfl) (by simp) ?_
                  refine AllReadyH.cons (o := ⟨some 27, _, _, _, _, _⟩) rfl (fun K hK => ?_) AllReadyH.nil
                  go_simp
                  refine hK.out _ _ (Box.new y9 (allocB _ _)) (fun hHeld => ?_)
                  clear hK K
                  try simp only [Act.put, List.setIfInBounds_toArray, List.set_cons_zero, List.set_cons_succ]
                  refine wpAnyH_ready (rs := [6]) (by kernel_rfl) (by simp) ?_
                  refine AllReadyH.cons (o := ⟨some 28, _, _, _, _, _⟩) rfl (fun K hK => ?_) AllReadyH.nil
                  go_simp
                  refine (node_x _ _ _ _ _).mono ?_
                  rintro en w7 ⟨rfl, hb7⟩
                  refine hK.out _ _ (Box.new (Box.new y9 (allocB _ _)) hb7) (fun hHeld => ?_)
                  clear hK K
                  try simp only [Act.put, List.setIfInBounds_toArray, List.set_cons_zero, List.set_cons_succ]
                  refine wpAnyH_ready (rs := [7]) (by kernel_rfl) (by simp) ?_
                  refine AllReadyH.cons (o := ⟨none, _, _, _, _, _⟩) rfl (fun K hK => ?_) AllReadyH.nil
                  rw [if_pos (by rfl)]
                  refine wp_store_row 53 (.tmp 7) (.tmp 28) rfl (eb) _ rfl rfl 53 _ (Box.new (Box.new y7 (allocB _ _)) hb7) (by kernel_rfl) rfl (by simp [Value.oneCell']) ?_
                  refine hK.out _ _ (Box.other (Box.new (Box.new y9 (allocB _ _)) hb7) _ (by omega)) (fun hHeld => ?_)
                  clear hK K
                  try simp only [Act.put]
                  refine wpAnyH_done (by kernel_rfl) ?_ _
                  go_wp2
                  go_roundg gk
                  case measure => omega
                  case rel =>
                    have hl7 : Rd (Ob S eb) w7 (.l 7 (dsE [e, x])) (.slice (some ⟨w6.heap.size, 0, none⟩) 2 2) := by
                      have := (Rds.laidQ (sz := 7) (n := 2) 53 (hve.app hvy) (by simp [Ex.d_len]) (by simp [Ob]; omega) (by decide)).new hb7
                      simpa [dsE] using this
                    exact ⟨node op [e, x], _, _, _, _, _, _, _, j3, q3, Classical.em _, hk6, ((hat6.new (allocB _ _)).new hb7).row _ (by omega) (by omega), Box.set (Box.new (Box.new y7 (allocB _ _)) hb7) _, Box.other (Box.new (Box.new (z6'.but hb6 (by omega)) (allocB _ _)) hb7) _ (by omega), node_rds op _ (hl7.row (by simp [Ob]) _), But.row (((HB5'.out.trans hb6).trans (But.of_below (allocB _ _))).trans (But.of_below hb7)) (by omega) _, by omega, by omega⟩
                · go_simp
                  clear hHeld
                  refine H3.out.mono ?_
                  rintro en w6 (⟨x, j3, q3, v, hm3, rfl, ⟨x0, x1, x2, x3, x4, x5, x6, rfl, hvx⟩, hat6, hle3, hb6⟩ | ⟨j3, er, hm3, rfl, hj3, hb6⟩)
                  rotate_left
                  · have hk6 := HK3.out
                    rw [bd_no hm3] at hk6
                    exact post_panic (fn := Tryz.f191) rfl (Or.inr ⟨j3, er, hk6.symm, rfl, hj3, HB5'.out.trans hb6⟩)
                  have hk6 := HK3.out
                  rw [bd_ok hm3] at hk6
                  have s6 := hb6.size
                  have y7 := z7'.but hb6 (by omega)
                  have y9 := z9'.but hb6 (by omega)
                  have hve := HE5.out.but hb6 (by simp [Ob]; omega)
                  have hvy : Rds (Ob S eb) w6 x.d [x0, x1, x2, x3, x4, x5, x6] := hvx.in (fun k hk => by simp [Fr] at hk; simp [Ob]; omega)
                  refine hK.out _ _ (y9) (fun hHeld => ?_)
                  clear hK K
                  try simp only [Act.put, List.setIfInBounds_toArray, List.set_cons_zero, List.set_cons_succ]
                  refine wpAnyH_ready (rs := [2]) (by kernel_rfl) (by simp) ?_
                  refine AllReadyH.cons (o := ⟨some 24, _, _, _, _, _⟩) rfl (fun K hK => ?_) AllReadyH.nil
                  rw [if_pos (by rfl)]
                  refine wp_load_row 53 (.tmp 7) rfl (eb) rfl 53 _ (0, 0) (.struct _) (y7) rfl rfl (by kernel_rfl) ?_
                  refine hK.out _ _ (hHeld) (fun hHeld => ?_)
                  clear hK K
                  try simp only [Act.put, List.setIfInBounds_toArray, List.set_cons_zero, List.set_cons_succ]
                  refine wpAnyH_ready (rs := [5]) (by kernel_rfl) (by simp) ?_
                  refine AllReadyH.cons (o := ⟨some 27, _, _, _, _, _⟩) rfl (fun K hK => ?_) AllReadyH.nil
                  go_simp
                  refine hK.out _ _ (Box.new y9 (allocB _ _)) (fun hHeld => ?_)
                  clear hK K
                  try simp only [Act.put, List.setIfInBounds_toArray, List.set_cons_zero, List.set_cons_succ]
                  refine wpAnyH_ready (rs := [6]) (by kernel_rfl) (by simp) ?_
                  refine AllReadyH.cons (o := ⟨some 28, _, _, _, _, _⟩) rfl (fun K hK => ?_) AllReadyH.nil
                  go_simp
                  refine (node_x _ _ _ _ _).mono ?_
                  rintro en w7 ⟨rfl, hb7⟩
                  refine hK.out _ _ (Box.new (Box.new y9 (allocB _ _)) hb7) (fun hHeld => ?_)
                  clear hK K
                  try simp only [Act.put, List.setIfInBounds_toArray, List.set_cons_zero, List.set_cons_succ]
                  refine wpAnyH_ready (rs := [7]) (by kernel_rfl) (by simp) ?_
                  refine AllReadyH.cons (o := ⟨none, _, _, _, _, _⟩) rfl (fun K hK => ?_) AllReadyH.nil
                  rw [if_pos (by rfl)]
                  refine wp_store_row 53 (.tmp 7) (.tmp 28) rfl (eb) _ rfl rfl 53 _ (Box.new (Box.new y7 (allocB _ _)) hb7) (by kernel_rfl) rfl (by simp [Value.oneCell']) ?_
                  refine hK.out _ _ (Box.other (Box.new (Box.new y9 (allocB _ _)) hb7) _ (by omega)) (fun hHeld => ?_)
                  clear hK K
                  try simp only [Act.put]
                  refine wpAnyH_done (by kernel_rfl) ?_ _
                  go_wp2
                  go_roundg gk
                  case measure => omega
                  case rel =>
                    have hl7 : Rd (Ob S eb) w7 (.l 7 (dsE [e, x])) (.slice (some ⟨w6.heap.size, 0, none⟩) 2 2) := by
                      have := (Rds.laidQ (sz := 7) (n := 2) 53 (hve.app hvy) (by simp [Ex.d_len]) (by simp [Ob]; omega) (by decide)).new hb7
                      simpa [dsE] using this
                    exact ⟨node op [e, x], _, _, _, _, _, _, _, j3, q3, Classical.em _, hk6, ((hat6.new (allocB _ _)).new hb7).row _ (by omega) (by omega), Box.set (Box.new (Box.new y7 (allocB _ _)) hb7) _, Box.other (Box.new (Box.new (z6'.but hb6 (by omega)) (allocB _ _)) hb7) _ (by omega), node_rds op _ (hl7.row (by simp [Ob]) _), But.row (((HB5'.out.trans hb6).trans (But.of_below (allocB _ _))).trans (But.of_below hb7)) (by omega) _, by omega, by omega⟩
            · rw [bd_no hm] at hk3
              go_wp2
              exact post_panic (fn := Tryz.f191) rfl (Or.inr ⟨j2, er, hk3.symm, rfl, hj2, (HB.out.trans HBn.out).trans hb5⟩)
          · have hkm2 : k = m := by omega
            subst hkm2
            have hk3 := hkk.out
            rw [List.drop_of_length_le (by rw [HOM.out]; omega)] at hk3
            unfold firstOp at hk3
            have hk4 : C none j q' = r := hk3
            rw [HC0.out] at hk4
            clear hkk hk3
            have ones : (#[e0, e1, e2, e3, e4, e5, e6] : Array Value).all (·.oneCell') = true := (HEV.out).all
            go_wp2_with (first | (refine wpList_load_row rfl 53 (.tmp 7) rfl eb rfl 53 _ (0, 0) (.struct _) z7q rfl rfl (by kernel_rfl) ?_) | (refine wpList_store_row rfl 53 (.tmp 6) (.tmp 30) rfl S _ rfl rfl 53 _ z6q (by kernel_rfl) rfl ones ?_))
            rw [Exit.noGoto_ret]
            refine bodyPost_ret (results_cell_row rfl _ _ S _ _ _ (.struct _) rfl (z6q.set _) rfl rfl (by kernel_rfl)) rfl ?_
            exact Or.inl ⟨e, j, q', _, hk4.symm, rfl, ⟨_, _, _, _, _, _, _, rfl, ((HEV.out.but hBq (by simp [Ob]; omega)).row (by simp [Ob]) _).in (fun k hk => by simp [Ob] at hk; simp [Fr]; omega)⟩, hwr.row _ (by omega) (by omega), by omega, But.row (HB.out.trans hBq) (by omega) _⟩
  · rw [bd_no hm] at hr
    go_wp2
    exact post_panic rfl (Or.inr ⟨j, er, hr.symm, rfl, hj, (But.of_below b0).trans hb⟩)
end Ps
end Go.Proofs.YtggdhgppclnckaaGreatDoor
