import Derived.Test.YthpampfbmpdmoaaTrH7
namespace Go.Proofs.Ythpampfbmpdmoaa
open Go.RowKit
attribute [local go_sem] Oper.semAt_some
namespace Ex
namespace Tr
attribute [local go_sem] node_same

/-- A list of ints that came in, below A. -/
def IntsA (A : Nat) (w : World) (v : Value) (xs : List Int) : Prop := ∃ a cap, v = .slice a xs.length cap ∧ xs.length ≤ cap ∧ xs.length ≤ 1048576 ∧ (xs = [] ∨ ∃ c o, a = some ⟨c, o, none⟩ ∧ c < A ∧ ∀ (i : Nat) (x : Int), xs[i]? = some x → w.cell? ⟨c, o + i, none⟩ = some (.int .i64 x))
theorem IntsA.ka {A : Nat} {w w' : World} {v : Value} {xs : List Int} (h : IntsA A w v xs) (hk : KA A w w') : IntsA A w' v xs := by
  obtain ⟨a, cap, h1, h2, h3, h4⟩ := h
  refine ⟨a, cap, h1, h2, h3, ?_⟩
  rcases h4 with h4 | ⟨c, o, h5, h6, h7⟩
  · exact Or.inl h4
  · exact Or.inr ⟨c, o, h5, h6, fun i x hx => (World.cell?_of_block (w := w) (a := ⟨c, o + i, none⟩) (hk.2.2.2.2 c h6)).trans (h7 i x hx)⟩
/-- While the children are looked up. -/
def LkI (A base fb s0 s1 : Nat) (V : Nat → Prop) (P Q : List Nat) (N : Nat → Nd) (X : Nat → Rd) (m0 m1 : Nat) (vP vR : Value) (g cap hw bx : Nat) (box : Obj) (w1 : World) (j : Nat) (kvv : Value) (wr : World) : Prop :=
  ∃ js : List Nat, js.length = j ∧ (∀ r ∈ js, r < P.length) ∧ FoM base fb s0 s1 V P Q N X m0 m1 vP vR (.slice (some ⟨g, 0, none⟩) cap cap) wr ∧ BufHas wr g (js.map (at_ P)) ∧ QOwn wr hw kvv (js.map (at_ Q)) ∧ hw ≤ wr.heap.size ∧ KA A w1 wr ∧ wr.heap[bx]? = some box ∧ (j = 0 → kvv = .slice none 0 0)

set_option linter.unusedSimpArgs false in
set_option maxRecDepth 100000 in
set_option maxHeartbeats 4000000 in
theorem stepN_is (base fb s0 s1 A n : Nat) (V : Nat → Prop) (P Q : List Nat) (N : Nat → Nd) (X : Nat → Rd) (m0 m1 : Nat) (vP vR vB : Value) (st : Int) (l0 l1 l2 l3 kd nn : Int) (kv : Value) (xs : List Int) (w : World) (hM : FoM base fb s0 s1 V P Q N X m0 m1 vP vR vB w) (hT : TwinOk s0 s1 m0 m1 P Q N X) (hA : A ≤ fb ∧ A ≤ s0 ∧ A ≤ s1) (hn : n < 1048576) (hP : P.length ≤ n) (hP0 : P ≠ []) (hkv : IntsA A w kv xs) :
    Calls Try.prog 19 #[.pointer (some ⟨fb, 0, none⟩), .agg #[.int .i64 st, .bool false, .int .i64 l0, .int .i64 l1, .int .i64 l2, .int .i64 l3, .int .i64 kd, .int .i64 nn, kv]] w fun e w' => e = .returned (.bool true) ∧ FoI base fb s0 s1 (n + 1) w' ∧ KA A w w' := by
  have HM := hide1 hM
  have HT := hide1 hT
  have hfl := (Array.getElem?_eq_some_iff.1 hM.1).1
  obtain ⟨b0, hb0⟩ : ∃ b0, P[0]? = some b0 := ⟨_, List.getElem?_eq_getElem (List.length_pos_iff.2 hP0)⟩
  obtain ⟨gp, cp, rfl, hcp, _⟩ := hM.2.2.2.1.cell hb0
  obtain ⟨d0, hd0⟩ : ∃ d0, Q[0]? = some d0 := ⟨_, List.getElem?_eq_getElem (by rw [← hT.1]; exact List.length_pos_iff.2 hP0)⟩
  obtain ⟨gq, cq, rfl, hcq, _⟩ := hM.2.2.2.2.1.cell hd0
  have hPQ := hT.1
  have HPQ := hide1 hPQ
  have hpos : 0 < P.length := List.length_pos_iff.2 hP0
  have hc2 : w.cell? ⟨fb, 2, none⟩ = some (.slice (some ⟨gp, 0, none⟩) P.length cp) := by simp [World.cell?, hM.1]
  obtain ⟨ka, kc, rfl, hkc, hkl, hk⟩ := hkv
  have HI : Hid (IntsA A w (.slice ka xs.length kc) xs) := ⟨ka, kc, rfl, hkc, hkl, hk⟩
  have HB0 := hide1 hb0
  have HA := hide1 hA
  have hPI : (P.length : Int) ≤ 1048576 := by omega
  have hPI0 : 0 < (P.length : Int) := by omega
  have hxI : (xs.length : Int) ≤ 1048576 := by omega
  clear hM hT hb0 hk hA hd0 hPQ
  go_enter Try.func19, Try.ntmps19
  have hc2B : (w.alloc (.cells #[.int .i64 st, .bool false, .int .i64 l0, .int .i64 l1, .int .i64 l2, .int .i64 l3, .int .i64 kd, .int .i64 nn, .slice ka xs.length kc] 73)).cell? ⟨fb, 2, none⟩ = some (.slice (some ⟨gp, 0, none⟩) P.length cp) := (cell_alloc_old w _ hfl).trans hc2
  go_upto_region 9 with fail
  obtain ⟨wB, hwB⟩ : ∃ wB, w.alloc (.cells #[.int .i64 st, .bool false, .int .i64 l0, .int .i64 l1, .int .i64 l2, .int .i64 l3, .int .i64 kd, .int .i64 nn, .slice ka xs.length kc] 73) = wB := ⟨_, rfl⟩
  have HKB : Hid (Kept w wB) := by rw [← hwB]; exact (Kept.refl w).alloc _ _
  have hbx : wB.heap[w.heap.size]? = some (.cells #[.int .i64 st, .bool false, .int .i64 l0, .int .i64 l1, .int .i64 l2, .int .i64 l3, .int .i64 kd, .int .i64 nn, .slice ka xs.length kc] 73 (0, 0)) := by rw [← hwB]; exact World.alloc_heap_new w _
  clear hc2B
  rw [hwB]
  have HMB := hide1 (HM.out.keep HKB.out)
  have HU := hide1 HM.out.under
  obtain ⟨bx, hbxe⟩ : ∃ bx, w.heap.size = bx := ⟨_, rfl⟩
  have HBX := hide1 hbxe
  have hbs := HM.out.2.2.2.2.2.2.1
  rw [hbxe] at hbx hfl hbs HU ⊢
  have HX := hide1 hbx
  have q8 : wB.cell? ⟨bx, 8, none⟩ = some (.slice ka xs.length kc) := by simp [World.cell?, hbx]
  have HBS := hide1 hbs
  have hszB : bx + 1 = wB.heap.size := by rw [← hwB, ← hbxe]; simp
  clear hwB hbx hbxe hbs
  have HMEM := hide1 (show Calls Try.prog 37 #[.pointer (some ⟨fb, 0, none⟩), .int .i64 ((xs.length : Int) + 1)] wB _ from mem_is base fb s0 s1 V P Q N X m0 m1 _ _ vB (xs.length + 1) wB HMB.out (by omega) (by omega))
  go_wp2_with (go_at_call 37; refine HMEM.out.mono ?_; rintro e w1 ⟨g, cap, rfl, hcap, hk1, hF1⟩; have HK1 := hide1 hk1; have HF1 := hide1 hF1; clear hk1 hF1)
  have hs1 : wB.heap.size ≤ w1.heap.size := HK1.out.2.2.2.1
  have HX1 : Hid (w1.heap[bx]? = some (.cells #[.int .i64 st, .bool false, .int .i64 l0, .int .i64 l1, .int .i64 l2, .int .i64 l3, .int .i64 kd, .int .i64 nn, .slice ka xs.length kc] 73 (0, 0))) := (HK1.out.2.2.2.2 bx (by omega) (by omega)).trans HX.out
  have HU1 := hide1 HF1.out.under
  have HKA1 : Hid (KA A w w1) := (HKB.out.ka (by have := HA.out; have := HBX.out; have := HBS.out; omega)).trans (HK1.out.ka HA.out.1 (by have := HA.out; have := HBX.out; have := HBS.out; omega))
  have HI1 := hide1 (HI.out.ka HKA1.out)
  obtain ⟨hw, hhw⟩ : ∃ hw, w1.heap.size = hw := ⟨_, rfl⟩
  rw [hhw] at hs1 HU1
  have HHW := hide1 hhw
  have hgbx : g ≠ bx := by
    intro e
    obtain ⟨cur, _, h1, _⟩ := buf_cell (i := 0) HF1.out.2.2.2.2.2.1 (by omega)
    rw [e, HX1.out] at h1
    injection h1 with h1
    injection h1 with _ h2
    exact absurd h2 (by decide)
  clear hhw q8
  go_loopw [7, 9] (fun v7 v9 wr => ∃ j : Nat, j ≤ xs.length ∧ v9 = .int .i64 (j : Int) ∧ Hid (LkI A base fb s0 s1 V P Q N X m0 m1 (.slice (some ⟨gp, 0, none⟩) P.length cp) (.slice (some ⟨gq, 0, none⟩) Q.length cq) g cap hw bx (.cells #[.int .i64 st, .bool false, .int .i64 l0, .int .i64 l1, .int .i64 l2, .int .i64 l3, .int .i64 kd, .int .i64 nn, .slice ka xs.length kc] 73 (0, 0)) w1 j v7 wr)) (fun _ v9 _ => xs.length - (intOf v9).toNat)
  case atStart => exact ⟨0, Nat.zero_le _, rfl, ⟨[], rfl, (fun r hr => by simp at hr), HF1.out, (fun i b hb => by simp at hb), ⟨rfl, Or.inl ⟨rfl, rfl⟩⟩, by rw [HHW.out]; exact Nat.le_refl _, KA.refl _ _, HX1.out, fun _ => rfl⟩⟩
  case round =>
    obtain ⟨j, hj, rfl, HL⟩ := hrel
    obtain ⟨js, hjs, hjr, hFr, hBr, hQr, hwr, hkar, hxr, hz0⟩ := HL.out
    have q8 : wr.cell? ⟨bx, 8, none⟩ = some (.slice ka xs.length kc) := by simp [World.cell?, hxr]
    by_cases hlt : j < xs.length
    · have hjI : (j : Int) < (xs.length : Int) := by omega
      obtain ⟨x, hx⟩ : ∃ x, xs[j]? = some x := ⟨_, List.getElem?_eq_getElem hlt⟩
      obtain ⟨c, o, rfl, hcx⟩ : ∃ c o, ka = some ⟨c, o, none⟩ ∧ wr.cell? ⟨c, o + j, none⟩ = some (.int .i64 x) := by
        obtain ⟨a2, c2, e2, _, _, h4⟩ := HI1.out.ka hkar
        injection e2 with e2
        subst e2
        rcases h4 with h4 | ⟨c, o, h5, _, h7⟩
        · rw [h4] at hlt
          simp at hlt
        · exact ⟨c, o, h5, h7 j x hx⟩
      have e2 : wr.cell? ⟨fb, 2, none⟩ = some (.slice (some ⟨gp, 0, none⟩) P.length cp) := by simp [World.cell?, hFr.1]
      have hrl := roundI_lt x hpos
      have HRN : Hid (∀ n, Calls Try.prog 38 #[.int .i64 x, .int .i64 (P.length : Int)] (wr.drewN n) fun e w' => e = .returned (.int .i64 (roundI x P.length : Int)) ∧ w' = wr.drewN n) := fun n => round_n x P.length hpos (by omega) _
      obtain ⟨r, hr⟩ : ∃ r, roundI x P.length = r := ⟨_, rfl⟩
      rw [hr] at hrl HRN
      obtain ⟨b, hb⟩ : ∃ b, P[r]? = some b := ⟨_, List.getElem?_eq_getElem hrl⟩
      obtain ⟨d, hd⟩ : ∃ d, Q[r]? = some d := ⟨_, List.getElem?_eq_getElem (by rw [← HT.out.1]; exact hrl)⟩
      have HFr := hide1 hFr
      have HBr := hide1 hBr
      have HQr := hide1 hQr
      have HJ := hide1 hjs
      have HJR := hide1 hjr
      have HKAr := hide1 hkar
      have HXr := hide1 hxr
      have HB := hide1 hb
      have HD := hide1 hd
      clear hFr hBr hQr hjs hjr hkar hxr hb hd hr hx HL hz0
      go_upto_region 13 with fail
      go_quiet ((go_at_call 38; exact Calls.quiet_of_same (HRN.out _)))
      obtain ⟨wq, hwq⟩ : ∃ wq, wr.drewN nq = wq := ⟨_, rfl⟩
      have HKq : Hid (Kept wr wq) := by rw [← hwq]; exact drewN_kept _ _
      rw [hwq]
      have HFq := hide1 (HFr.out.keep HKq.out)
      have e2q : wq.cell? ⟨fb, 2, none⟩ = some (.slice (some ⟨gp, 0, none⟩) P.length cp) := by simp [World.cell?, HFq.out.1]
      have ePq := HFq.out.2.2.2.1.at' HB.out
      obtain ⟨cur, hcur, hcc, hfz, u, hu⟩ := buf_cell (i := j) HFq.out.2.2.2.2.2.1 (by omega)
      have hrI : (r : Int) < (P.length : Int) := by omega
      have hjI2 : (j : Int) < (xs.length : Int) + 1 := by omega
      have hgl : g < wq.heap.size := (Array.getElem?_eq_some_iff.1 hcc).1
      have HCC := hide1 hcc
      have HCU := hide1 hcur
      clear hwq q8 e2 hcx hcc hcur
      go_upto_region 15 with fail
      obtain ⟨w2, hw2⟩ : ∃ w2, wq.setCell ⟨g, j, none⟩ (.pointer (some ⟨b, 0, none⟩)) = w2 := ⟨_, rfl⟩
      have HK2 : Hid (KeptBut g wq w2) := by rw [← hw2]; exact setCell_but _ _ _ _
      have HF2 : Hid (FoM base fb s0 s1 V P Q N X m0 m1 (.slice (some ⟨gp, 0, none⟩) P.length cp) (.slice (some ⟨gq, 0, none⟩) Q.length cq) (.slice (some ⟨g, 0, none⟩) cap cap) w2) := by rw [← hw2]; exact HFq.out.setBuf j _
      have HB2 : Hid (BufHas w2 g ((js ++ [r]).map (at_ P))) := by
        rw [List.map_append, List.map_singleton, at_some HB.out, ← hw2]
        have h1 := (HBr.out.same (HKq.out.2.2.2.2 g (HFr.out.2.2.2.2.2.1.lt g rfl).2)).put (b := b) HCC.out (by rw [HCU.out, List.length_map, HJ.out]; omega)
        rw [List.length_map, HJ.out] at h1
        exact h1
      have hghw : g < hw := HU1.out.2.2.2.2 g rfl
      obtain ⟨a7, c7, h7⟩ := HQr.out.form
      rw [List.length_map, HJ.out] at h7
      subst h7
      have HQ2 : Hid (QOwn w2 hw (.slice a7 j c7) (js.map (at_ Q))) := owns_same HQr.out (fun k hk => (HK2.out.2.2.2.2 k (Nat.lt_of_lt_of_le (ownsRow_lt HQr.out k hk).2 HKq.out.size) (by have := (ownsRow_lt HQr.out k hk).1; omega)).trans (HKq.out.2.2.2.2 k (ownsRow_lt HQr.out k hk).2))
      have e3 : w2.cell? ⟨fb, 3, none⟩ = some (.slice (some ⟨gq, 0, none⟩) Q.length cq) := by simp [World.cell?, HF2.out.1]
      have eQ := HF2.out.2.2.2.2.1.at' HD.out
      have hrQ : (r : Int) < (Q.length : Int) := by have := HPQ.out; omega
      have hs2 : hw ≤ w2.heap.size := Nat.le_trans (Nat.le_trans hwr HKq.out.size) HK2.out.2.2.2.1
      have hjl : (js.map (at_ Q)).length = j := by rw [List.length_map, HJ.out]
      have hjb : (js.map (at_ Q)).length ≤ 8388608 := by rw [hjl]; omega
      have HJL := hide1 hjl
      rw [hw2]
      clear hw2 e2q ePq hfz hu hjl
      go_wp2_with (at_builtin; go_must (refine wpl_Q rfl _ _ rfl _ hw _ (js.map (at_ Q)) j HJL.out (by rfl) (owns_same (w' := w2.alloc (.cells #[.pointer (some ⟨d, 0, none⟩)] 39)) HQ2.out (fun k hk => heap_alloc_old w2 _ (ownsRow_lt HQ2.out k hk).2)) w2.heap.size d (by rfl) (World.alloc_heap_new w2 _) hjb (by exact Nat.le_trans hs2 (alloc_le w2 _)) ?_; intro g3 c3 w3 ho3 hg3 hor3 hl3; have HO3 := hide1 ho3; have HG3 := hide1 hg3; clear ho3 hg3))
      have HS3 : Hid (∀ k, k < w2.heap.size → (Value.slice a7 j c7).ownBlock ≠ some k → w3.heap[k]? = w2.heap[k]?) := fun k h1 h2 => (HG3.out.block k (Nat.lt_of_lt_of_le h1 (alloc_le w2 _)) (fun e => h2 e.symm)).trans (heap_alloc_old w2 _ h1)
      have hs3 : w2.heap.size ≤ w3.heap.size := Nat.le_trans (alloc_le w2 _) HG3.out.size
      have HKB3 : Hid (KB hw w2 w3) := ⟨hs3, fun k hk => HS3.out k (by omega) (fun e => by have := (ownsRow_lt HQ2.out k e).1; omega)⟩
      have HFIN : Hid (LkI A base fb s0 s1 V P Q N X m0 m1 (.slice (some ⟨gp, 0, none⟩) P.length cp) (.slice (some ⟨gq, 0, none⟩) Q.length cq) g cap hw bx (.cells #[.int .i64 st, .bool false, .int .i64 l0, .int .i64 l1, .int .i64 l2, .int .i64 l3, .int .i64 kd, .int .i64 nn, .slice (some ⟨c, o, none⟩) xs.length kc] 73 (0, 0)) w1 (j + 1) (.slice (some ⟨g3, 0, none⟩) (j + 1) c3) w3) := by
        have hbb := HBS.out
        have hAA := HA.out
        refine ⟨js ++ [r], by simp [HJ.out], fun k hk => ?_, HF2.out.below HU1.out (by omega) HKB3.out, HB2.out.same (HKB3.out.2 g hghw), ?_, by omega, ?_, ?_, fun h0 => absurd h0 (by omega)⟩
        · rcases List.mem_append.1 hk with hk | hk
          · exact HJR.out k hk
          · rw [List.mem_singleton.1 hk]
            exact hrl
        · rw [List.map_append, List.map_singleton, at_some HD.out]
          exact HO3.out
        · refine HKAr.out.trans ((HKq.out.ka (by omega)).trans ((HK2.out.ka (by have := (HF2.out.2.2.2.2.2.1.lt g rfl).1; omega) (by have := HKq.out.size; omega)).trans ?_))
          exact ⟨HG3.out.os, HG3.out.tape, HG3.out.output, hs3, fun k hk => HKB3.out.2 k (by omega)⟩
        · exact (HKB3.out.2 bx (by omega)).trans ((HK2.out.2.2.2.2 bx (by have := HKq.out.size; omega) (Ne.symm hgbx)).trans ((HKq.out.2.2.2.2 bx (by omega)).trans HXr.out))
      clear e3 eQ HS3 HKB3 HG3 HO3 hor3 hl3
      go_roundw
      case rel => exact ⟨j + 1, by omega, by go_num, HFIN⟩
      case measure => simp [intOf]; omega
    · have hjL : j = xs.length := by omega
      subst hjL
      have e2 : wr.cell? ⟨fb, 2, none⟩ = some (.slice (some ⟨gp, 0, none⟩) P.length cp) := by simp [World.cell?, hFr.1]
      have eP0 := hFr.2.2.2.1.at' HB0.out
      obtain ⟨cur, hcur, hcc, hfz, u, hu⟩ := buf_cell (i := xs.length) hFr.2.2.2.2.2.1 (by omega)
      have hgl : g < wr.heap.size := (Array.getElem?_eq_some_iff.1 hcc).1
      have hjI2 : (xs.length : Int) < (xs.length : Int) + 1 := by omega
      obtain ⟨a7, c7, h7⟩ := hQr.form
      rw [List.length_map, hjs] at h7
      subst h7
      have HFr := hide1 hFr
      have HBr := hide1 hBr
      have HQr := hide1 hQr
      have HJ := hide1 hjs
      have HJR := hide1 hjr
      have HKAr := hide1 hkar
      have HXr := hide1 hxr
      have HCC := hide1 hcc
      have HCU := hide1 hcur
      have HZ0 := hide1 hz0
      clear hFr hBr hQr hjs hjr hkar hxr HL hz0 hcc hcur hlt hj
      go_upto_region 16 with fail
      go_region
      obtain ⟨w4, hw4⟩ : ∃ w4, (wr.setCell ⟨g, xs.length, none⟩ (.pointer (some ⟨b0, 0, none⟩))).drew = w4 := ⟨_, rfl⟩
      have HK4 : Hid (KeptBut g wr w4) := by rw [← hw4]; exact (setCell_but _ _ _ _).drew
      have HF4 : Hid (FoM base fb s0 s1 V P Q N X m0 m1 (.slice (some ⟨gp, 0, none⟩) P.length cp) (.slice (some ⟨gq, 0, none⟩) Q.length cq) (.slice (some ⟨g, 0, none⟩) cap cap) w4) := by rw [← hw4]; exact (HFr.out.setBuf xs.length _).keep (drew_kept _)
      have HB4 : Hid (BufHas w4 g (js.map (at_ P) ++ [b0])) := by
        have h1 := HBr.out.put (b := b0) HCC.out (by rw [HCU.out, List.length_map, HJ.out]; omega)
        rw [List.length_map, HJ.out] at h1
        rw [← hw4]
        exact h1
      have hghw : g < hw := HU1.out.2.2.2.2 g rfl
      have HQ4 : Hid (QOwn w4 hw (.slice a7 xs.length c7) (js.map (at_ Q))) := owns_same HQr.out (fun k hk => HK4.out.2.2.2.2 k (ownsRow_lt HQr.out k hk).2 (by have := (ownsRow_lt HQr.out k hk).1; omega))
      have hx4 : w4.heap[bx]? = some (.cells #[.int .i64 st, .bool false, .int .i64 l0, .int .i64 l1, .int .i64 l2, .int .i64 l3, .int .i64 kd, .int .i64 nn, .slice ka xs.length kc] 73 (0, 0)) := (HK4.out.2.2.2.2 bx (by omega) (Ne.symm hgbx)).trans HXr.out
      have hs4 : hw ≤ w4.heap.size := Nat.le_trans hwr HK4.out.2.2.2.1
      have q6 : w4.cell? ⟨bx, 6, none⟩ = some (.int .i64 kd) := by simp [World.cell?, hx4]
      have q7 : w4.cell? ⟨bx, 7, none⟩ = some (.int .i64 nn) := by simp [World.cell?, hx4]
      have q9 : w4.cell? ⟨bx, 8, none⟩ = some (.slice ka xs.length kc) := by simp [World.cell?, hx4]
      have HX4 := hide1 hx4
      rw [hw4]
      clear hw4 hfz hu e2 eP0 q8 hx4
      have hm0 := HT.out.2.1
      have hm1 := HT.out.2.2.1
      rcases low_bit st with hbit | hbit
      · rw [hbit]
        have q0 := keepsB (s := s0) (show fb ≠ s0 by have := HBS.out; omega) (show w4.cell? ⟨fb, 0, none⟩ = some (.pointer (some ⟨s0, 0, none⟩)) by simp [World.cell?, HF4.out.1])
        have hne : bx ≠ s0 := by have := HBS.out; omega
        have p6 := keepsB hne q6
        have p7 := keepsB hne q7
        have p8 := keepsB hne q9
        have hkr : KeptBut s0 w4 w4 := (Kept.refl w4).tbut s0
        clear hbit
        have hPn : P.length ≤ 1048576 := by omega
        have hcapI : (xs.length : Int) ≤ (cap : Int) := by omega
        have hcapN : xs.length ≤ cap := by omega
        obtain ⟨er, her⟩ : ∃ er, mkErr N s0 kd nn (js.map (at_ P)) = er := ⟨_, rfl⟩
        have her0 := mkErr_range N s0 kd nn (js.map (at_ P))
        rw [her] at her0
        obtain ⟨her1, her2⟩ := her0
        have HER : Hid (errR X 0 kd nn (js.map (at_ Q)) = er) := ((HT.out.err HBS.out.2.2.2.1 (st := 0) (s := s0) (Or.inl ⟨rfl, rfl⟩) kd nn js HJR.out).symm.trans her)
        have HMK : Hid (∀ W, Kept w4 W → Calls Try.prog 39 #[.pointer (some ⟨s0, 0, none⟩), .int .i64 kd, .int .i64 nn, .slice (some ⟨g, 0, none⟩) xs.length cap] W fun e w' => ∃ pv, e = .returned (.tuple #[pv, .int .i64 er]) ∧ MkGave N s0 m0 kd nn (js.map (at_ P)) pv W w') := fun W hW => by
          rw [← her]
          exact fo_make (HF4.out.keep hW) HT.out HJR.out ((HB4.out.front).same (hW.2.2.2.2 g (by omega))) HJ.out (by omega) (Or.inl ⟨rfl, rfl⟩) hPn kd nn
        have HE := hide1 her
        clear her
        go_upto_region 17 with fail
        go_region_held3 (fun w' => KeptBut s0 w4 w') (first | assumption | exact (Kept.refl _).tbut _ | exact (drew_kept _).tbut _)
          ((go_at_call 39; refine (HMK.out _ (drew_kept _)).mono ?_; rintro e w5 ⟨pv, rfl, hg5⟩; have k5 : KeptBut s0 w4 w5 := ((drew_kept _).tbut _).trans hg5.keptBut))
        have HB5 := hide1 (HB4.out.same (k5.2.2.2.2 g (by omega) (by have := HBS.out; have := (HF4.out.2.2.2.2.2.1.lt g rfl).1; omega)))
        have HQ5 : Hid (QOwn w5 hw (.slice a7 xs.length c7) (js.map (at_ Q))) := owns_same HQ4.out (fun k hk => k5.2.2.2.2 k (ownsRow_lt HQ4.out k hk).2 (by have := (ownsRow_lt HQ4.out k hk).1; have := HBS.out; omega))
        have HX5 := hide1 ((k5.2.2.2.2 bx (by omega) hne).trans HX4.out)
        have HK5 := hide1 k5
        have HG5 := hide1 hg5
        have HV0 : Hid (js = [] → Value.slice a7 xs.length c7 = .slice none 0 0) := fun h => HZ0.out (by rw [← HJ.out, h]; rfl)
        have hs5 : hw ≤ w5.heap.size := Nat.le_trans hs4 k5.2.2.2.1
        have q56 : w5.cell? ⟨bx, 6, none⟩ = some (.int .i64 kd) := by simp [World.cell?, HX5.out]
        have q57 : w5.cell? ⟨bx, 7, none⟩ = some (.int .i64 nn) := by simp [World.cell?, HX5.out]
        clear hg5 k5 q0 p6 p7 p8 hkr q6 q7 q9
        rcases HG5.out with ⟨hne0, hpv, hw5⟩ | ⟨he0, b5, hpv, hb5, hk5, hst5, hn5, hrl5⟩
        · subst hpv
          rw [HE.out] at hne0
          have HF5 : Hid (FoM base fb s0 s1 V P Q N X m0 m1 (.slice (some ⟨gp, 0, none⟩) P.length cp) (.slice (some ⟨gq, 0, none⟩) Q.length cq) (.slice (some ⟨g, 0, none⟩) cap cap) w5) := by rw [hw5]; exact HF4.out.keep (drew_kept _)
          have HRK := hide1 (fo_rmake HF5.out HT.out HJR.out HQ5.out HV0.out (by rw [HJ.out]; omega) 0 kd nn)
          rw [HER.out] at HRK
          have HNE := hide1 hne0
          have hb0 : (er != 0) = true := by simpa using hne0
          clear hw5 HG5
          go_wp2_with (go_at_call 40; refine HRK.out.mono ?_; rintro e w6 ⟨rv, rfl, hg6⟩; have HG6 := hide1 hg6; clear hg6)
          have hrv : rv = .pointer none := by
            rcases HG6.out.2 with ⟨_, h⟩ | ⟨h, _⟩
            · exact h
            · rw [HER.out] at h
              exact absurd h HNE.out
          subst hrv
          have HK6 := hide1 HG6.out.1
          have HF6 := hide1 (HF5.out.keep HK6.out)
          have HB6 := hide1 (HB5.out.same (HK6.out.2.2.2.2 g (by omega)))
          have HX6 := hide1 ((HK6.out.2.2.2.2 bx (by omega)).trans HX5.out)
          have HQ6 : Hid (QOwn w6 hw (.slice a7 xs.length c7) (js.map (at_ Q))) := owns_same HQ5.out (fun k hk => HK6.out.2.2.2.2 k (ownsRow_lt HQ5.out k hk).2)
          have hs6 : hw ≤ w6.heap.size := Nat.le_trans hs5 HK6.out.size
          have c8 : w6.cell? ⟨bx, 8, none⟩ = some (.slice ka xs.length kc) := by simp [World.cell?, HX6.out]
          have cL : w6.cell? ⟨g, xs.length, none⟩ = some (.pointer (some ⟨b0, 0, none⟩)) := HB6.out xs.length b0 (by rw [List.getElem?_append_right (by rw [List.length_map, HJ.out]; exact Nat.le_refl _), List.length_map, HJ.out]; simp)
          have c2 : w6.cell? ⟨fb, 2, none⟩ = some (.slice (some ⟨gp, 0, none⟩) P.length cp) := by simp [World.cell?, HF6.out.1]
          have cP0 := HF6.out.2.2.2.1.at' HB0.out
          clear q56 q57
          go_quiet (fail)
          go_wp2_with fail
          go_loopw [15] (fun vi wr => ∃ j : Nat, j ≤ xs.length ∧ vi = .int .i64 (j : Int) ∧ Hid (FoM base fb s0 s1 V P Q N X m0 m1 (.slice (some ⟨gp, 0, none⟩) P.length cp) (.slice (some ⟨gq, 0, none⟩) Q.length cq) (.slice (some ⟨g, 0, none⟩) cap cap) wr ∧ KeptBut g w6 wr ∧ ∀ (i b : Nat), j ≤ i → (js.map (at_ P))[i]? = some b → wr.cell? ⟨g, i, none⟩ = some (.pointer (some ⟨b, 0, none⟩)))) (fun vi _ => xs.length - (intOf vi).toNat)
          case atStart => exact ⟨0, Nat.zero_le _, rfl, HF6.out.keep (drewN_kept _ _), (drewN_kept _ _).tbut g, fun i b _ hb => HB6.out.front i b hb⟩
          case round =>
            obtain ⟨j, hj, rfl, HZ⟩ := hrel
            by_cases hlt : j < xs.length
            · obtain ⟨r, hr⟩ : ∃ r, js[j]? = some r := ⟨_, List.getElem?_eq_getElem (by rw [HJ.out]; exact hlt)⟩
              have hrP := HJR.out r (List.mem_of_getElem? hr)
              obtain ⟨b, hb⟩ : ∃ b, P[r]? = some b := ⟨_, List.getElem?_eq_getElem hrP⟩
              obtain ⟨d, hd⟩ : ∃ d, Q[r]? = some d := ⟨_, List.getElem?_eq_getElem (by rw [← HPQ.out]; exact hrP)⟩
              have z1 := HZ.out.2.2 j b (Nat.le_refl _) (by rw [List.getElem?_map, hr, Option.map_some, at_some hb])
              have z2 : wr.cell? ⟨fb, 2, none⟩ = some (.slice (some ⟨gp, 0, none⟩) P.length cp) := by simp [World.cell?, HZ.out.1.1]
              have z3 := HZ.out.1.2.2.2.1.at' hb
              obtain ⟨g7, c7', e7, _, z4'⟩ := HQ6.out.cell (i := j) (b := d) (by rw [List.getElem?_map, hr, Option.map_some, at_some hd])
              have hg7 := (ownsRow_lt HQ6.out g7 (by rw [e7]; rfl)).1
              have z4 := HZ.out.2.1.cell (show g7 ≠ g by omega) z4'
              injection e7 with e71 e72 e73
              subst e71
              have z5 : wr.cell? ⟨d, 1, none⟩ = some (.int .i64 (r : Int)) := by
                have h1 := ((HZ.out.1.2.2.2.2.2.2.2.2.2.2.2 d (List.mem_of_getElem? hd)).is (fun k hk => (HZ.out.1.2.2.2.2.2.2.2.2.2.1 k hk).2.1)).cells.2.1
                rw [(HT.out.2.2.2.1 r b d hb hd).st.1] at h1
                exact h1
              obtain ⟨cur2, hcur2, hcc2, hfz2, u2, hu2⟩ := buf_cell (i := j) HZ.out.1.2.2.2.2.2.1 (by omega)
              have hjI : (j : Int) < (xs.length : Int) := by omega
              have hjI3 : (j : Int) < (xs.length : Int) + 1 := by omega
              have hrI : (r : Int) < (P.length : Int) := by omega
              have hglz : g < wr.heap.size := (Array.getElem?_eq_some_iff.1 hcc2).1
              clear hu2 hcc2 hcur2 z4' e72 e73
              have HR := hide1 hr
              clear hr hb hd
              go_upto_region 24 with fail
              go_quiet (fail)
              go_upto_region 26 with fail
              obtain ⟨wy, hwy⟩ : ∃ wy, wr.drewN nq = wy := ⟨_, rfl⟩
              have HKy : Hid (Kept wr wy) := by rw [← hwy]; exact drewN_kept _ _
              rw [hwy]
              have HFy := hide1 (HZ.out.1.keep HKy.out)
              obtain ⟨cur3, hcur3, hcc3, hfz3, u3, hu3⟩ := buf_cell (i := j) HFy.out.2.2.2.2.2.1 (by omega)
              clear hwy hcc3 hcur3 z1 z2 z3 z4 z5 hfz2
              go_wp2_with fail
              go_roundw
              case rel =>
                refine ⟨j + 1, by omega, by go_num, HFy.out.setBuf j _, (HZ.out.2.1.trans (HKy.out.tbut g)).trans (setCell_but _ _ _ _), fun i b hi hb => ?_⟩
                have h9 := grown_cell HKy.out (HZ.out.2.2 i b (by omega) hb)
                have hne9 : (⟨g, j, none⟩ : Addr) ≠ ⟨g, i, none⟩ := fun e => by injection e with _ e2; omega
                refine Eq.trans ?_ h9
                apply World.cell?_setCell_other
                exact hne9
              case measure => simp [intOf]; omega
            · have hjL : j = xs.length := by omega
              subst hjL
              have hAA := HA.out
              have hbb := HBS.out
              have hbxw := HBX.out
              have hgb := (HF6.out.2.2.2.2.2.1.lt g rfl).1
              have HKZ : Hid (KA A w wr) := HKA1.out.trans (HKAr.out.trans ((HK4.out.ka (by omega) (by omega)).trans ((HK5.out.ka (by omega) (by omega)).trans ((HK6.out.ka (by omega)).trans (HZ.out.2.1.ka (by omega) (by omega))))))
              clear hAA hbb hbxw hgb
              go_wp2_with fail
              go_ret
              exact ⟨rfl, ⟨_, _, _, _, _, _, _, _, _, _, HZ.out.1, HT.out, by omega⟩, HKZ.out⟩
        · subst hpv
          rw [HE.out] at he0
          subst he0
          have HW5 : Hid (w5.heap.size = w5.heap.size) := rfl
          have HF5 : Hid (FoM base fb s0 s1 V P Q N X (m0 + 1) m1 (.slice (some ⟨gp, 0, none⟩) P.length cp) (.slice (some ⟨gq, 0, none⟩) Q.length cq) (.slice (some ⟨g, 0, none⟩) cap cap) w5) := HF4.out.but HK5.out (Or.inl rfl) hst5 ((HK5.out.2.2.2.2 s1 HF4.out.2.2.1.lt (by have := HBS.out; omega)).trans HF4.out.2.2.1)
          have HRK := hide1 (fo_rmake HF5.out HT.out HJR.out HQ5.out HV0.out (by rw [HJ.out]; omega) 0 kd nn)
          rw [HER.out] at HRK
          have HN5 := hide1 (nodeV_of (A := w4.heap.size) hn5 hb5 (Or.inl hrl5))
          have hs45 : w4.heap.size ≤ w5.heap.size := HK5.out.2.2.2.1
          clear HG5 hn5 hrl5 hk5 hst5
          go_wp2_with (go_at_call 40; refine HRK.out.mono ?_; rintro e w6 ⟨rv, rfl, hg6⟩; have HG6 := hide1 hg6; clear hg6)
          obtain ⟨d6, hrv, hr6⟩ : ∃ d, rv = .pointer (some ⟨d, 0, none⟩) ∧ RAt w5.heap.size w6.heap.size w6 d (makeR X 0 kd nn (js.map (at_ Q))) := by
            rcases HG6.out.2 with ⟨h, _⟩ | ⟨_, h⟩
            · rw [HER.out] at h
              exact absurd rfl h
            · exact h
          subst hrv
          have HR6 := hide1 (refV_of hr6)
          clear hr6
          have HK6 := hide1 HG6.out.1
          have HF6 := hide1 (HF5.out.keep HK6.out)
          have HB6 := hide1 (HB5.out.same (HK6.out.2.2.2.2 g (by omega)))
          have HX6 := hide1 ((HK6.out.2.2.2.2 bx (by omega)).trans HX5.out)
          have HQ6 : Hid (QOwn w6 hw (.slice a7 xs.length c7) (js.map (at_ Q))) := owns_same HQ5.out (fun k hk => HK6.out.2.2.2.2 k (ownsRow_lt HQ5.out k hk).2)
          have hs6 : hw ≤ w6.heap.size := Nat.le_trans hs5 HK6.out.size
          have c8 : w6.cell? ⟨bx, 8, none⟩ = some (.slice ka xs.length kc) := by simp [World.cell?, HX6.out]
          have cL : w6.cell? ⟨g, xs.length, none⟩ = some (.pointer (some ⟨b0, 0, none⟩)) := HB6.out xs.length b0 (by rw [List.getElem?_append_right (by rw [List.length_map, HJ.out]; exact Nat.le_refl _), List.length_map, HJ.out]; simp)
          have c2 : w6.cell? ⟨fb, 2, none⟩ = some (.slice (some ⟨gp, 0, none⟩) P.length cp) := by simp [World.cell?, HF6.out.1]
          have cP0 := HF6.out.2.2.2.1.at' HB0.out
          clear q56 q57
          go_quiet (fail)
          go_wp2_with fail
          go_loopw [15] (fun vi wr => ∃ j : Nat, j ≤ xs.length ∧ vi = .int .i64 (j : Int) ∧ Hid (FoM base fb s0 s1 V P Q N X (m0 + 1) m1 (.slice (some ⟨gp, 0, none⟩) P.length cp) (.slice (some ⟨gq, 0, none⟩) Q.length cq) (.slice (some ⟨g, 0, none⟩) cap cap) wr ∧ KeptBut g w6 wr ∧ ∀ (i b : Nat), j ≤ i → (js.map (at_ P))[i]? = some b → wr.cell? ⟨g, i, none⟩ = some (.pointer (some ⟨b, 0, none⟩)))) (fun vi _ => xs.length - (intOf vi).toNat)
          case atStart => exact ⟨0, Nat.zero_le _, rfl, HF6.out.keep (drewN_kept _ _), (drewN_kept _ _).tbut g, fun i b _ hb => HB6.out.front i b hb⟩
          case round =>
            obtain ⟨j, hj, rfl, HZ⟩ := hrel
            by_cases hlt : j < xs.length
            · obtain ⟨r, hr⟩ : ∃ r, js[j]? = some r := ⟨_, List.getElem?_eq_getElem (by rw [HJ.out]; exact hlt)⟩
              have hrP := HJR.out r (List.mem_of_getElem? hr)
              obtain ⟨b, hb⟩ : ∃ b, P[r]? = some b := ⟨_, List.getElem?_eq_getElem hrP⟩
              obtain ⟨d, hd⟩ : ∃ d, Q[r]? = some d := ⟨_, List.getElem?_eq_getElem (by rw [← HPQ.out]; exact hrP)⟩
              have z1 := HZ.out.2.2 j b (Nat.le_refl _) (by rw [List.getElem?_map, hr, Option.map_some, at_some hb])
              have z2 : wr.cell? ⟨fb, 2, none⟩ = some (.slice (some ⟨gp, 0, none⟩) P.length cp) := by simp [World.cell?, HZ.out.1.1]
              have z3 := HZ.out.1.2.2.2.1.at' hb
              obtain ⟨g7, c7', e7, _, z4'⟩ := HQ6.out.cell (i := j) (b := d) (by rw [List.getElem?_map, hr, Option.map_some, at_some hd])
              have hg7 := (ownsRow_lt HQ6.out g7 (by rw [e7]; rfl)).1
              have z4 := HZ.out.2.1.cell (show g7 ≠ g by omega) z4'
              injection e7 with e71 e72 e73
              subst e71
              have z5 : wr.cell? ⟨d, 1, none⟩ = some (.int .i64 (r : Int)) := by
                have h1 := ((HZ.out.1.2.2.2.2.2.2.2.2.2.2.2 d (List.mem_of_getElem? hd)).is (fun k hk => (HZ.out.1.2.2.2.2.2.2.2.2.2.1 k hk).2.1)).cells.2.1
                rw [(HT.out.2.2.2.1 r b d hb hd).st.1] at h1
                exact h1
              obtain ⟨cur2, hcur2, hcc2, hfz2, u2, hu2⟩ := buf_cell (i := j) HZ.out.1.2.2.2.2.2.1 (by omega)
              have hjI : (j : Int) < (xs.length : Int) := by omega
              have hjI3 : (j : Int) < (xs.length : Int) + 1 := by omega
              have hrI : (r : Int) < (P.length : Int) := by omega
              have hglz : g < wr.heap.size := (Array.getElem?_eq_some_iff.1 hcc2).1
              clear hu2 hcc2 hcur2 z4' e72 e73
              have HR := hide1 hr
              clear hr hb hd
              go_upto_region 24 with fail
              go_quiet (fail)
              go_upto_region 26 with fail
              obtain ⟨wy, hwy⟩ : ∃ wy, wr.drewN nq = wy := ⟨_, rfl⟩
              have HKy : Hid (Kept wr wy) := by rw [← hwy]; exact drewN_kept _ _
              rw [hwy]
              have HFy := hide1 (HZ.out.1.keep HKy.out)
              obtain ⟨cur3, hcur3, hcc3, hfz3, u3, hu3⟩ := buf_cell (i := j) HFy.out.2.2.2.2.2.1 (by omega)
              clear hwy hcc3 hcur3 z1 z2 z3 z4 z5 hfz2
              go_wp2_with fail
              go_roundw
              case rel =>
                refine ⟨j + 1, by omega, by go_num, HFy.out.setBuf j _, (HZ.out.2.1.trans (HKy.out.tbut g)).trans (setCell_but _ _ _ _), fun i b hi hb => ?_⟩
                have h9 := grown_cell HKy.out (HZ.out.2.2 i b (by omega) hb)
                have hne9 : (⟨g, j, none⟩ : Addr) ≠ ⟨g, i, none⟩ := fun e => by injection e with _ e2; omega
                refine Eq.trans ?_ h9
                apply World.cell?_setCell_other
                exact hne9
              case measure => simp [intOf]; omega
            · have hjL : j = xs.length := by omega
              subst hjL
              have hAA := HA.out
              have hbb := HBS.out
              have hbxw := HBX.out
              have hgb := (HF6.out.2.2.2.2.2.1.lt g rfl).1
              have HKZ : Hid (KA A w wr) := HKA1.out.trans (HKAr.out.trans ((HK4.out.ka (by omega) (by omega)).trans ((HK5.out.ka (by omega) (by omega)).trans ((HK6.out.ka (by omega)).trans (HZ.out.2.1.ka (by omega) (by omega))))))
              clear hAA hbb hbxw hgb
              have hgw : g < hw := hghw
              have h56 := HK6.out.size
              have hzz := HZ.out.2.1
              have h6z := hzz.2.2.2.1
              have HMAY : Hid (mayP kd nn = true ∧ 1 + sizeS N (js.map (at_ P)) ≤ 4194304) := by
                have h := HE.out
                unfold mkErr at h
                cases hq : mayP kd nn
                · rw [hq] at h; simp at h
                · refine ⟨rfl, ?_⟩
                  rw [hq] at h
                  cases ho : ownP N s0 (js.map (at_ P))
                  · rw [ho] at h; simp at h
                  · rw [ho] at h
                    simp at h
                    omega
              have HADD := hide1 (fo_add (A := A) (n := n) (m0 := m0) (m1 := m1) (hw := hw) (a1 := w4.heap.size) (a2 := w5.heap.size) (a3 := w5.heap.size) (a4 := w6.heap.size) HZ.out.1 HT.out HU1.out (by have := HBS.out; omega) hs4 hs45 (Nat.le_refl _) h56 h6z ((HN5.out.kx ⟨h56, fun k hk => HK6.out.2.2.2.2 k hk.2⟩).kx ⟨h6z, fun k hk => hzz.2.2.2.2 k (by omega) (by omega)⟩) (HR6.out.kx ⟨h6z, fun k hk => hzz.2.2.2.2 k (by omega) (by omega)⟩) (by omega) (by omega) (by omega) (by omega) (makeN_ok (fun c hc => by obtain ⟨q, hq, rfl⟩ := List.mem_map.1 hc; exact (HT.out.pair (HJR.out q hq)).1) HMAY.out.2) (by show 1 + sizeS N _ = 1 + sizeR X _; rw [HT.out.size js HJR.out]) ⟨0, s0, m0, by omega, Or.inr ⟨kd, nn, js, HMAY.out.1, HJR.out, rfl, rfl⟩⟩ HA.out.1 hP hn)
              clear hzz
              go_wp2_with (go_at_call 35; refine HADD.out.mono ?_; rintro e w9 ⟨rfl, hF9, hka9, hC9⟩; have HF9 := hide1 hF9; have HKA9 := hide1 hka9; clear hF9 hka9 hC9)
              go_ret
              exact ⟨rfl, HF9.out, HKZ.out.trans HKA9.out⟩
      · rw [hbit]
        have q0 := keepsB (s := s1) (show fb ≠ s1 by have := HBS.out; omega) (show w4.cell? ⟨fb, 1, none⟩ = some (.pointer (some ⟨s1, 0, none⟩)) by simp [World.cell?, HF4.out.1])
        have hne : bx ≠ s1 := by have := HBS.out; omega
        have p6 := keepsB hne q6
        have p7 := keepsB hne q7
        have p8 := keepsB hne q9
        have hkr : KeptBut s1 w4 w4 := (Kept.refl w4).tbut s1
        clear hbit
        have hPn : P.length ≤ 1048576 := by omega
        have hcapI : (xs.length : Int) ≤ (cap : Int) := by omega
        have hcapN : xs.length ≤ cap := by omega
        obtain ⟨er, her⟩ : ∃ er, mkErr N s1 kd nn (js.map (at_ P)) = er := ⟨_, rfl⟩
        have her0 := mkErr_range N s1 kd nn (js.map (at_ P))
        rw [her] at her0
        obtain ⟨her1, her2⟩ := her0
        have HER : Hid (errR X 1 kd nn (js.map (at_ Q)) = er) := ((HT.out.err HBS.out.2.2.2.1 (st := 1) (s := s1) (Or.inr ⟨rfl, rfl⟩) kd nn js HJR.out).symm.trans her)
        have HMK : Hid (∀ W, Kept w4 W → Calls Try.prog 39 #[.pointer (some ⟨s1, 0, none⟩), .int .i64 kd, .int .i64 nn, .slice (some ⟨g, 0, none⟩) xs.length cap] W fun e w' => ∃ pv, e = .returned (.tuple #[pv, .int .i64 er]) ∧ MkGave N s1 m1 kd nn (js.map (at_ P)) pv W w') := fun W hW => by
          rw [← her]
          exact fo_make (HF4.out.keep hW) HT.out HJR.out ((HB4.out.front).same (hW.2.2.2.2 g (by omega))) HJ.out (by omega) (Or.inr ⟨rfl, rfl⟩) hPn kd nn
        have HE := hide1 her
        clear her
        go_upto_region 17 with fail
        go_region_held3 (fun w' => KeptBut s1 w4 w') (first | assumption | exact (Kept.refl _).tbut _ | exact (drew_kept _).tbut _)
          ((go_at_call 39; refine (HMK.out _ (drew_kept _)).mono ?_; rintro e w5 ⟨pv, rfl, hg5⟩; have k5 : KeptBut s1 w4 w5 := ((drew_kept _).tbut _).trans hg5.keptBut))
        have HB5 := hide1 (HB4.out.same (k5.2.2.2.2 g (by omega) (by have := HBS.out; have := (HF4.out.2.2.2.2.2.1.lt g rfl).1; omega)))
        have HQ5 : Hid (QOwn w5 hw (.slice a7 xs.length c7) (js.map (at_ Q))) := owns_same HQ4.out (fun k hk => k5.2.2.2.2 k (ownsRow_lt HQ4.out k hk).2 (by have := (ownsRow_lt HQ4.out k hk).1; have := HBS.out; omega))
        have HX5 := hide1 ((k5.2.2.2.2 bx (by omega) hne).trans HX4.out)
        have HK5 := hide1 k5
        have HG5 := hide1 hg5
        have HV0 : Hid (js = [] → Value.slice a7 xs.length c7 = .slice none 0 0) := fun h => HZ0.out (by rw [← HJ.out, h]; rfl)
        have hs5 : hw ≤ w5.heap.size := Nat.le_trans hs4 k5.2.2.2.1
        have q56 : w5.cell? ⟨bx, 6, none⟩ = some (.int .i64 kd) := by simp [World.cell?, HX5.out]
        have q57 : w5.cell? ⟨bx, 7, none⟩ = some (.int .i64 nn) := by simp [World.cell?, HX5.out]
        clear hg5 k5 q0 p6 p7 p8 hkr q6 q7 q9
        rcases HG5.out with ⟨hne0, hpv, hw5⟩ | ⟨he0, b5, hpv, hb5, hk5, hst5, hn5, hrl5⟩
        · subst hpv
          rw [HE.out] at hne0
          have HF5 : Hid (FoM base fb s0 s1 V P Q N X m0 m1 (.slice (some ⟨gp, 0, none⟩) P.length cp) (.slice (some ⟨gq, 0, none⟩) Q.length cq) (.slice (some ⟨g, 0, none⟩) cap cap) w5) := by rw [hw5]; exact HF4.out.keep (drew_kept _)
          have HRK := hide1 (fo_rmake HF5.out HT.out HJR.out HQ5.out HV0.out (by rw [HJ.out]; omega) 1 kd nn)
          rw [HER.out] at HRK
          have HNE := hide1 hne0
          have hb0 : (er != 0) = true := by simpa using hne0
          clear hw5 HG5
          go_wp2_with (go_at_call 40; refine HRK.out.mono ?_; rintro e w6 ⟨rv, rfl, hg6⟩; have HG6 := hide1 hg6; clear hg6)
          have hrv : rv = .pointer none := by
            rcases HG6.out.2 with ⟨_, h⟩ | ⟨h, _⟩
            · exact h
            · rw [HER.out] at h
              exact absurd h HNE.out
          subst hrv
          have HK6 := hide1 HG6.out.1
          have HF6 := hide1 (HF5.out.keep HK6.out)
          have HB6 := hide1 (HB5.out.same (HK6.out.2.2.2.2 g (by omega)))
          have HX6 := hide1 ((HK6.out.2.2.2.2 bx (by omega)).trans HX5.out)
          have HQ6 : Hid (QOwn w6 hw (.slice a7 xs.length c7) (js.map (at_ Q))) := owns_same HQ5.out (fun k hk => HK6.out.2.2.2.2 k (ownsRow_lt HQ5.out k hk).2)
          have hs6 : hw ≤ w6.heap.size := Nat.le_trans hs5 HK6.out.size
          have c8 : w6.cell? ⟨bx, 8, none⟩ = some (.slice ka xs.length kc) := by simp [World.cell?, HX6.out]
          have cL : w6.cell? ⟨g, xs.length, none⟩ = some (.pointer (some ⟨b0, 0, none⟩)) := HB6.out xs.length b0 (by rw [List.getElem?_append_right (by rw [List.length_map, HJ.out]; exact Nat.le_refl _), List.length_map, HJ.out]; simp)
          have c2 : w6.cell? ⟨fb, 2, none⟩ = some (.slice (some ⟨gp, 0, none⟩) P.length cp) := by simp [World.cell?, HF6.out.1]
          have cP0 := HF6.out.2.2.2.1.at' HB0.out
          clear q56 q57
          go_quiet (fail)
          go_wp2_with fail
          go_loopw [15] (fun vi wr => ∃ j : Nat, j ≤ xs.length ∧ vi = .int .i64 (j : Int) ∧ Hid (FoM base fb s0 s1 V P Q N X m0 m1 (.slice (some ⟨gp, 0, none⟩) P.length cp) (.slice (some ⟨gq, 0, none⟩) Q.length cq) (.slice (some ⟨g, 0, none⟩) cap cap) wr ∧ KeptBut g w6 wr ∧ ∀ (i b : Nat), j ≤ i → (js.map (at_ P))[i]? = some b → wr.cell? ⟨g, i, none⟩ = some (.pointer (some ⟨b, 0, none⟩)))) (fun vi _ => xs.length - (intOf vi).toNat)
          case atStart => exact ⟨0, Nat.zero_le _, rfl, HF6.out.keep (drewN_kept _ _), (drewN_kept _ _).tbut g, fun i b _ hb => HB6.out.front i b hb⟩
          case round =>
            obtain ⟨j, hj, rfl, HZ⟩ := hrel
            by_cases hlt : j < xs.length
            · obtain ⟨r, hr⟩ : ∃ r, js[j]? = some r := ⟨_, List.getElem?_eq_getElem (by rw [HJ.out]; exact hlt)⟩
              have hrP := HJR.out r (List.mem_of_getElem? hr)
              obtain ⟨b, hb⟩ : ∃ b, P[r]? = some b := ⟨_, List.getElem?_eq_getElem hrP⟩
              obtain ⟨d, hd⟩ : ∃ d, Q[r]? = some d := ⟨_, List.getElem?_eq_getElem (by rw [← HPQ.out]; exact hrP)⟩
              have z1 := HZ.out.2.2 j b (Nat.le_refl _) (by rw [List.getElem?_map, hr, Option.map_some, at_some hb])
              have z2 : wr.cell? ⟨fb, 2, none⟩ = some (.slice (some ⟨gp, 0, none⟩) P.length cp) := by simp [World.cell?, HZ.out.1.1]
              have z3 := HZ.out.1.2.2.2.1.at' hb
              obtain ⟨g7, c7', e7, _, z4'⟩ := HQ6.out.cell (i := j) (b := d) (by rw [List.getElem?_map, hr, Option.map_some, at_some hd])
              have hg7 := (ownsRow_lt HQ6.out g7 (by rw [e7]; rfl)).1
              have z4 := HZ.out.2.1.cell (show g7 ≠ g by omega) z4'
              injection e7 with e71 e72 e73
              subst e71
              have z5 : wr.cell? ⟨d, 1, none⟩ = some (.int .i64 (r : Int)) := by
                have h1 := ((HZ.out.1.2.2.2.2.2.2.2.2.2.2.2 d (List.mem_of_getElem? hd)).is (fun k hk => (HZ.out.1.2.2.2.2.2.2.2.2.2.1 k hk).2.1)).cells.2.1
                rw [(HT.out.2.2.2.1 r b d hb hd).st.1] at h1
                exact h1
              obtain ⟨cur2, hcur2, hcc2, hfz2, u2, hu2⟩ := buf_cell (i := j) HZ.out.1.2.2.2.2.2.1 (by omega)
              have hjI : (j : Int) < (xs.length : Int) := by omega
              have hjI3 : (j : Int) < (xs.length : Int) + 1 := by omega
              have hrI : (r : Int) < (P.length : Int) := by omega
              have hglz : g < wr.heap.size := (Array.getElem?_eq_some_iff.1 hcc2).1
              clear hu2 hcc2 hcur2 z4' e72 e73
              have HR := hide1 hr
              clear hr hb hd
              go_upto_region 24 with fail
              go_quiet (fail)
              go_upto_region 26 with fail
              obtain ⟨wy, hwy⟩ : ∃ wy, wr.drewN nq = wy := ⟨_, rfl⟩
              have HKy : Hid (Kept wr wy) := by rw [← hwy]; exact drewN_kept _ _
              rw [hwy]
              have HFy := hide1 (HZ.out.1.keep HKy.out)
              obtain ⟨cur3, hcur3, hcc3, hfz3, u3, hu3⟩ := buf_cell (i := j) HFy.out.2.2.2.2.2.1 (by omega)
              clear hwy hcc3 hcur3 z1 z2 z3 z4 z5 hfz2
              go_wp2_with fail
              go_roundw
              case rel =>
                refine ⟨j + 1, by omega, by go_num, HFy.out.setBuf j _, (HZ.out.2.1.trans (HKy.out.tbut g)).trans (setCell_but _ _ _ _), fun i b hi hb => ?_⟩
                have h9 := grown_cell HKy.out (HZ.out.2.2 i b (by omega) hb)
                have hne9 : (⟨g, j, none⟩ : Addr) ≠ ⟨g, i, none⟩ := fun e => by injection e with _ e2; omega
                refine Eq.trans ?_ h9
                apply World.cell?_setCell_other
                exact hne9
              case measure => simp [intOf]; omega
            · have hjL : j = xs.length := by omega
              subst hjL
              have hAA := HA.out
              have hbb := HBS.out
              have hbxw := HBX.out
              have hgb := (HF6.out.2.2.2.2.2.1.lt g rfl).1
              have HKZ : Hid (KA A w wr) := HKA1.out.trans (HKAr.out.trans ((HK4.out.ka (by omega) (by omega)).trans ((HK5.out.ka (by omega) (by omega)).trans ((HK6.out.ka (by omega)).trans (HZ.out.2.1.ka (by omega) (by omega))))))
              clear hAA hbb hbxw hgb
              go_wp2_with fail
              go_ret
              exact ⟨rfl, ⟨_, _, _, _, _, _, _, _, _, _, HZ.out.1, HT.out, by omega⟩, HKZ.out⟩
        · subst hpv
          rw [HE.out] at he0
          subst he0
          have HW5 : Hid (w5.heap.size = w5.heap.size) := rfl
          have HF5 : Hid (FoM base fb s0 s1 V P Q N X m0 (m1 + 1) (.slice (some ⟨gp, 0, none⟩) P.length cp) (.slice (some ⟨gq, 0, none⟩) Q.length cq) (.slice (some ⟨g, 0, none⟩) cap cap) w5) := HF4.out.but HK5.out (Or.inr rfl) ((HK5.out.2.2.2.2 s0 HF4.out.2.1.lt (by have := HBS.out; omega)).trans HF4.out.2.1) hst5
          have HRK := hide1 (fo_rmake HF5.out HT.out HJR.out HQ5.out HV0.out (by rw [HJ.out]; omega) 1 kd nn)
          rw [HER.out] at HRK
          have HN5 := hide1 (nodeV_of (A := w4.heap.size) hn5 hb5 (Or.inl hrl5))
          have hs45 : w4.heap.size ≤ w5.heap.size := HK5.out.2.2.2.1
          clear HG5 hn5 hrl5 hk5 hst5
          go_wp2_with (go_at_call 40; refine HRK.out.mono ?_; rintro e w6 ⟨rv, rfl, hg6⟩; have HG6 := hide1 hg6; clear hg6)
          obtain ⟨d6, hrv, hr6⟩ : ∃ d, rv = .pointer (some ⟨d, 0, none⟩) ∧ RAt w5.heap.size w6.heap.size w6 d (makeR X 1 kd nn (js.map (at_ Q))) := by
            rcases HG6.out.2 with ⟨h, _⟩ | ⟨_, h⟩
            · rw [HER.out] at h
              exact absurd rfl h
            · exact h
          subst hrv
          have HR6 := hide1 (refV_of hr6)
          clear hr6
          have HK6 := hide1 HG6.out.1
          have HF6 := hide1 (HF5.out.keep HK6.out)
          have HB6 := hide1 (HB5.out.same (HK6.out.2.2.2.2 g (by omega)))
          have HX6 := hide1 ((HK6.out.2.2.2.2 bx (by omega)).trans HX5.out)
          have HQ6 : Hid (QOwn w6 hw (.slice a7 xs.length c7) (js.map (at_ Q))) := owns_same HQ5.out (fun k hk => HK6.out.2.2.2.2 k (ownsRow_lt HQ5.out k hk).2)
          have hs6 : hw ≤ w6.heap.size := Nat.le_trans hs5 HK6.out.size
          have c8 : w6.cell? ⟨bx, 8, none⟩ = some (.slice ka xs.length kc) := by simp [World.cell?, HX6.out]
          have cL : w6.cell? ⟨g, xs.length, none⟩ = some (.pointer (some ⟨b0, 0, none⟩)) := HB6.out xs.length b0 (by rw [List.getElem?_append_right (by rw [List.length_map, HJ.out]; exact Nat.le_refl _), List.length_map, HJ.out]; simp)
          have c2 : w6.cell? ⟨fb, 2, none⟩ = some (.slice (some ⟨gp, 0, none⟩) P.length cp) := by simp [World.cell?, HF6.out.1]
          have cP0 := HF6.out.2.2.2.1.at' HB0.out
          clear q56 q57
          go_quiet (fail)
          go_wp2_with fail
          go_loopw [15] (fun vi wr => ∃ j : Nat, j ≤ xs.length ∧ vi = .int .i64 (j : Int) ∧ Hid (FoM base fb s0 s1 V P Q N X m0 (m1 + 1) (.slice (some ⟨gp, 0, none⟩) P.length cp) (.slice (some ⟨gq, 0, none⟩) Q.length cq) (.slice (some ⟨g, 0, none⟩) cap cap) wr ∧ KeptBut g w6 wr ∧ ∀ (i b : Nat), j ≤ i → (js.map (at_ P))[i]? = some b → wr.cell? ⟨g, i, none⟩ = some (.pointer (some ⟨b, 0, none⟩)))) (fun vi _ => xs.length - (intOf vi).toNat)
          case atStart => exact ⟨0, Nat.zero_le _, rfl, HF6.out.keep (drewN_kept _ _), (drewN_kept _ _).tbut g, fun i b _ hb => HB6.out.front i b hb⟩
          case round =>
            obtain ⟨j, hj, rfl, HZ⟩ := hrel
            by_cases hlt : j < xs.length
            · obtain ⟨r, hr⟩ : ∃ r, js[j]? = some r := ⟨_, List.getElem?_eq_getElem (by rw [HJ.out]; exact hlt)⟩
              have hrP := HJR.out r (List.mem_of_getElem? hr)
              obtain ⟨b, hb⟩ : ∃ b, P[r]? = some b := ⟨_, List.getElem?_eq_getElem hrP⟩
              obtain ⟨d, hd⟩ : ∃ d, Q[r]? = some d := ⟨_, List.getElem?_eq_getElem (by rw [← HPQ.out]; exact hrP)⟩
              have z1 := HZ.out.2.2 j b (Nat.le_refl _) (by rw [List.getElem?_map, hr, Option.map_some, at_some hb])
              have z2 : wr.cell? ⟨fb, 2, none⟩ = some (.slice (some ⟨gp, 0, none⟩) P.length cp) := by simp [World.cell?, HZ.out.1.1]
              have z3 := HZ.out.1.2.2.2.1.at' hb
              obtain ⟨g7, c7', e7, _, z4'⟩ := HQ6.out.cell (i := j) (b := d) (by rw [List.getElem?_map, hr, Option.map_some, at_some hd])
              have hg7 := (ownsRow_lt HQ6.out g7 (by rw [e7]; rfl)).1
              have z4 := HZ.out.2.1.cell (show g7 ≠ g by omega) z4'
              injection e7 with e71 e72 e73
              subst e71
              have z5 : wr.cell? ⟨d, 1, none⟩ = some (.int .i64 (r : Int)) := by
                have h1 := ((HZ.out.1.2.2.2.2.2.2.2.2.2.2.2 d (List.mem_of_getElem? hd)).is (fun k hk => (HZ.out.1.2.2.2.2.2.2.2.2.2.1 k hk).2.1)).cells.2.1
                rw [(HT.out.2.2.2.1 r b d hb hd).st.1] at h1
                exact h1
              obtain ⟨cur2, hcur2, hcc2, hfz2, u2, hu2⟩ := buf_cell (i := j) HZ.out.1.2.2.2.2.2.1 (by omega)
              have hjI : (j : Int) < (xs.length : Int) := by omega
              have hjI3 : (j : Int) < (xs.length : Int) + 1 := by omega
              have hrI : (r : Int) < (P.length : Int) := by omega
              have hglz : g < wr.heap.size := (Array.getElem?_eq_some_iff.1 hcc2).1
              clear hu2 hcc2 hcur2 z4' e72 e73
              have HR := hide1 hr
              clear hr hb hd
              go_upto_region 24 with fail
              go_quiet (fail)
              go_upto_region 26 with fail
              obtain ⟨wy, hwy⟩ : ∃ wy, wr.drewN nq = wy := ⟨_, rfl⟩
              have HKy : Hid (Kept wr wy) := by rw [← hwy]; exact drewN_kept _ _
              rw [hwy]
              have HFy := hide1 (HZ.out.1.keep HKy.out)
              obtain ⟨cur3, hcur3, hcc3, hfz3, u3, hu3⟩ := buf_cell (i := j) HFy.out.2.2.2.2.2.1 (by omega)
              clear hwy hcc3 hcur3 z1 z2 z3 z4 z5 hfz2
              go_wp2_with fail
              go_roundw
              case rel =>
                refine ⟨j + 1, by omega, by go_num, HFy.out.setBuf j _, (HZ.out.2.1.trans (HKy.out.tbut g)).trans (setCell_but _ _ _ _), fun i b hi hb => ?_⟩
                have h9 := grown_cell HKy.out (HZ.out.2.2 i b (by omega) hb)
                have hne9 : (⟨g, j, none⟩ : Addr) ≠ ⟨g, i, none⟩ := fun e => by injection e with _ e2; omega
                refine Eq.trans ?_ h9
                apply World.cell?_setCell_other
                exact hne9
              case measure => simp [intOf]; omega
            · have hjL : j = xs.length := by omega
              subst hjL
              have hAA := HA.out
              have hbb := HBS.out
              have hbxw := HBX.out
              have hgb := (HF6.out.2.2.2.2.2.1.lt g rfl).1
              have HKZ : Hid (KA A w wr) := HKA1.out.trans (HKAr.out.trans ((HK4.out.ka (by omega) (by omega)).trans ((HK5.out.ka (by omega) (by omega)).trans ((HK6.out.ka (by omega)).trans (HZ.out.2.1.ka (by omega) (by omega))))))
              clear hAA hbb hbxw hgb
              have hgw : g < hw := hghw
              have h56 := HK6.out.size
              have hzz := HZ.out.2.1
              have h6z := hzz.2.2.2.1
              have HMAY : Hid (mayP kd nn = true ∧ 1 + sizeS N (js.map (at_ P)) ≤ 4194304) := by
                have h := HE.out
                unfold mkErr at h
                cases hq : mayP kd nn
                · rw [hq] at h; simp at h
                · refine ⟨rfl, ?_⟩
                  rw [hq] at h
                  cases ho : ownP N s1 (js.map (at_ P))
                  · rw [ho] at h; simp at h
                  · rw [ho] at h
                    simp at h
                    omega
              have HADD := hide1 (fo_add (A := A) (n := n) (m0 := m0) (m1 := m1) (hw := hw) (a1 := w4.heap.size) (a2 := w5.heap.size) (a3 := w5.heap.size) (a4 := w6.heap.size) HZ.out.1 HT.out HU1.out (by have := HBS.out; omega) hs4 hs45 (Nat.le_refl _) h56 h6z ((HN5.out.kx ⟨h56, fun k hk => HK6.out.2.2.2.2 k hk.2⟩).kx ⟨h6z, fun k hk => hzz.2.2.2.2 k (by omega) (by omega)⟩) (HR6.out.kx ⟨h6z, fun k hk => hzz.2.2.2.2 k (by omega) (by omega)⟩) (by omega) (by omega) (by omega) (by omega) (makeN_ok (fun c hc => by obtain ⟨q, hq, rfl⟩ := List.mem_map.1 hc; exact (HT.out.pair (HJR.out q hq)).1) HMAY.out.2) (by show 1 + sizeS N _ = 1 + sizeR X _; rw [HT.out.size js HJR.out]) ⟨1, s1, m1, by omega, Or.inr ⟨kd, nn, js, HMAY.out.1, HJR.out, rfl, rfl⟩⟩ HA.out.1 hP hn)
              clear hzz
              go_wp2_with (go_at_call 35; refine HADD.out.mono ?_; rintro e w9 ⟨rfl, hF9, hka9, hC9⟩; have HF9 := hide1 hF9; have HKA9 := hide1 hka9; clear hF9 hka9 hC9)
              go_ret
              exact ⟨rfl, HF9.out, HKZ.out.trans HKA9.out⟩

end Tr
end Ex
end Go.Proofs.Ythpampfbmpdmoaa
