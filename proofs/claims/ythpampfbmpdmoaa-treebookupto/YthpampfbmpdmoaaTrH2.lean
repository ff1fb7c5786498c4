import Derived.Test.YthpampfbmpdmoaaTrH1
namespace Go.Proofs.Ythpampfbmpdmoaa
open Go.RowKit
attribute [local go_sem] Oper.semAt_some
namespace Ex
namespace Tr

theorem flatPt_app (l : List Nat) (b : Nat) : flatPt (l ++ [b]) = flatPt l ++ [.pointer (some ⟨b, 0, none⟩)] := by simp [flatPt]
theorem wpl_P {ops : Array Oper} {rest : List Oper} {o : Oper} {a : Act} {Q : Exit → Act → World → Prop} (hgd : o.guard = none) (s x : Operand) (ho : o.op = .call { callee := .builtin .append, args := #[s, x], argTypes := #[32, 32] }) (w : World)
    (base : Nat) (v : Value) (l : List Nat) (m : Nat) (hm : l.length = m) (hs : a.eval s = v) (hown : POwn w base v l) (lb k : Nat) (hx : a.eval x = .slice (some ⟨lb, 0, none⟩) 1 1) (hbx : w.heap[lb]? = some (.cells #[.pointer (some ⟨k, 0, none⟩)] 29 (0, 0))) (hl : l.length ≤ 8388608) (hbase : base ≤ w.heap.size)
    (h : ∀ g cap w', POwn w' base (.slice (some ⟨g, 0, none⟩) (m + 1) cap) (l ++ [k]) → w.grownBy w' v.ownBlock → (v.ownBlock = some g ∨ g = w.heap.size) → g < w'.heap.size → wpList Try.prog ops Q rest (a.put o.dst (.slice (some ⟨g, 0, none⟩) (m + 1) cap)) w') :
    wpList Try.prog ops Q (o :: rest) a w := by
  obtain ⟨i0, hi, hz0, hz1, hz2⟩ := info_parts nptr_info
  subst hm
  refine wpList_append_lies w hgd s x 32 ho base 29 i0 _ 1 8 Try.underlying32 hi hz0 hz1 hz2 rfl (by decide) v l.length (flatPt l) hs hown ⟨lb, 0, none⟩ 1 1 [.pointer (some ⟨k, 0, none⟩)] hx rfl ?_ ?_ (by decide) (by unfold maxLen; omega) (by omega) hbase w.heap.size rfl ?_
  · intro j y hj
    have hj2 : j < 1 := (List.getElem?_eq_some_iff.1 hj).1
    match j, hj2 with
    | 0, _ => rw [← hj]; simp [World.cell?, Addr.add, hbx]
  · intro u hu
    simp only [List.mem_cons, List.not_mem_nil, or_false] at hu
    subst hu
    rfl
  · intro g cap w' h1 h2 h3 h4
    refine h g cap w' ?_ h2 h3 h4
    unfold POwn
    rw [flatPt_app, List.length_append]
    exact h1
theorem wpl_Q {ops : Array Oper} {rest : List Oper} {o : Oper} {a : Act} {Q : Exit → Act → World → Prop} (hgd : o.guard = none) (s x : Operand) (ho : o.op = .call { callee := .builtin .append, args := #[s, x], argTypes := #[33, 33] }) (w : World)
    (base : Nat) (v : Value) (l : List Nat) (m : Nat) (hm : l.length = m) (hs : a.eval s = v) (hown : QOwn w base v l) (lb k : Nat) (hx : a.eval x = .slice (some ⟨lb, 0, none⟩) 1 1) (hbx : w.heap[lb]? = some (.cells #[.pointer (some ⟨k, 0, none⟩)] 39 (0, 0))) (hl : l.length ≤ 8388608) (hbase : base ≤ w.heap.size)
    (h : ∀ g cap w', QOwn w' base (.slice (some ⟨g, 0, none⟩) (m + 1) cap) (l ++ [k]) → w.grownBy w' v.ownBlock → (v.ownBlock = some g ∨ g = w.heap.size) → g < w'.heap.size → wpList Try.prog ops Q rest (a.put o.dst (.slice (some ⟨g, 0, none⟩) (m + 1) cap)) w') :
    wpList Try.prog ops Q (o :: rest) a w := by
  obtain ⟨i0, hi, hz0, hz1, hz2⟩ := info_parts ref_info
  subst hm
  refine wpList_append_lies w hgd s x 33 ho base 39 i0 _ 1 8 Try.underlying33 hi hz0 hz1 hz2 rfl (by decide) v l.length (flatPt l) hs hown ⟨lb, 0, none⟩ 1 1 [.pointer (some ⟨k, 0, none⟩)] hx rfl ?_ ?_ (by decide) (by unfold maxLen; omega) (by omega) hbase w.heap.size rfl ?_
  · intro j y hj
    have hj2 : j < 1 := (List.getElem?_eq_some_iff.1 hj).1
    match j, hj2 with
    | 0, _ => rw [← hj]; simp [World.cell?, Addr.add, hbx]
  · intro u hu
    simp only [List.mem_cons, List.not_mem_nil, or_false] at hu
    subst hu
    rfl
  · intro g cap w' h1 h2 h3 h4
    refine h g cap w' ?_ h2 h3 h4
    unfold QOwn
    rw [flatPt_app, List.length_append]
    exact h1

theorem fadd_fin {base fb s0 s1 : Nat} {V V' Vb W : Nat → Prop} {P Q : List Nat} {N N' : Nat → Nd} {X X' : Nat → Rd} {m0 m1 b d : Nat} {vP vR vB vP' vR' : Value} {w wF : World} {Z : Rd} (hF : FoM base fb s0 s1 V P Q N X m0 m1 vP vR vB w)
    (hV' : ∀ k, V' k → base ≤ k ∧ k < w.heap.size ∧ vP.ownBlock ≠ some k ∧ vR.ownBlock ≠ some k ∧ vB.ownBlock ≠ some k)
    (i1 : ∀ k, V k → V' k) (i2 : ∀ k, Vb k → V' k) (i3 : ∀ k, W k → V' k) (hd1 : ¬ V d) (hd2 : ¬ Vb d) (hb : NodeV Vb w b (N' b)) (hN' : ∀ c ∈ P, N' c = N c) (hZ : RefV W w d Z) (hX' : ∀ c ∈ Q, X' c = X c) (hXd : X' d = rplace Z Q.length)
    (k1 : w.heap.size ≤ wF.heap.size) (k2 : ∀ k, k < w.heap.size → k ≠ d → k ≠ fb → vP.ownBlock ≠ some k → vR.ownBlock ≠ some k → wF.heap[k]? = w.heap[k]?)
    (k3 : wF.heap[d]? = (w.setCell ⟨d, 1, none⟩ (.int .i64 (Q.length : Int))).heap[d]?)
    (k4 : wF.heap[fb]? = some (.cells #[.pointer (some ⟨s0, 0, none⟩), .pointer (some ⟨s1, 0, none⟩), vP', vR', vB] 35 (0, 0)))
    (k5 : POwn wF base vP' (P ++ [b])) (k6 : QOwn wF base vR' (Q ++ [d])) (k7 : OwnRel vP.ownBlock w.heap.size vP') (k8 : OwnRel vR.ownBlock w.heap.size vR') (k9 : ∀ g, vP'.ownBlock = some g → vR'.ownBlock ≠ some g) :
    FoM base fb s0 s1 V' (P ++ [b]) (Q ++ [d]) N' X' m0 m1 vP' vR' vB wF := by
  obtain ⟨h1, h2, h3, h4, h5, h6, h7, h8, h9, hV, hN, hX⟩ := hF
  have hdV' := hV' d (i3 d hZ.1)
  have hlt4 := ownsRow_lt h4
  have hlt5 := ownsRow_lt h5
  have hlt6 := h6.lt
  have hst : ∀ s m, s < base → s ≠ fb → StoreAt w s m → StoreAt wF s m := fun s m hs hsf h => (k2 s h.lt (by omega) hsf (fun e => by have := (hlt4 s e).1; omega) (fun e => by have := (hlt5 s e).1; omega)).trans h
  have hkx : ∀ U : Nat → Prop, (∀ k, U k → V' k) → ¬ U d → KX U w wF := fun U hU hUd => ⟨k1, fun k hk => k2 k (hV' k (hU k hk)).2.1 (fun e => hUd (e ▸ hk)) (by have := (hV' k (hU k hk)).1; omega) (hV' k (hU k hk)).2.2.1 (hV' k (hU k hk)).2.2.2.1⟩
  have hZ1 : RefV W (w.setCell ⟨d, 1, none⟩ (.int .i64 (Q.length : Int))) d (rplace Z Q.length) := hZ.place Q.length
  have hkW : KX W (w.setCell ⟨d, 1, none⟩ (.int .i64 (Q.length : Int))) wF := ⟨by simpa [World.setCell] using k1, fun k hk => by
    by_cases e : k = d
    · subst e
      exact k3
    · exact (k2 k (hV' k (i3 k hk)).2.1 e (by have := (hV' k (i3 k hk)).1; omega) (hV' k (i3 k hk)).2.2.1 (hV' k (i3 k hk)).2.2.2.1).trans (Below.heap_setCell _ _ _ _ e).symm⟩
  refine ⟨k4, hst s0 m0 h7.2.1 h7.2.2.2.2.1 h2, hst s1 m1 h7.2.2.1 h7.2.2.2.2.2.1 h3, k5, k6, h6.same (fun g hg => ?_), ?_, fun g hg => ⟨k9 g hg, fun e => ?_⟩, fun g hg e => ?_, fun k hk => ?_, fun c hc => ?_, fun c hc => ?_⟩
  · refine k2 g (hlt6 g hg).2 (fun e => hdV'.2.2.2.2 (e ▸ hg)) (by have := (hlt6 g hg).1; omega) (fun e => (h8 g e).2 hg) (fun e => h9 g e hg)
  · omega
  · rcases k7 with k7 | ⟨h, k7, k7'⟩
    · exact (h8 g (by rw [← k7]; exact hg)).2 e
    · rw [k7] at hg
      injection hg with hg
      have := (hlt6 g e).2
      omega
  · rcases k8 with k8 | ⟨h, k8, k8'⟩
    · exact h9 g (by rw [← k8]; exact hg) e
    · rw [k8] at hg
      injection hg with hg
      have := (hlt6 g e).2
      omega
  · obtain ⟨a1, a2, a3, a4, a5⟩ := hV' k hk
    refine ⟨a1, by omega, fun e => ?_, fun e => ?_, a5⟩
    · rcases k7 with k7 | ⟨h, k7, k7'⟩
      · exact a3 (by rw [← k7]; exact e)
      · rw [k7] at e
        injection e with e
        omega
    · rcases k8 with k8 | ⟨h, k8, k8'⟩
      · exact a4 (by rw [← k8]; exact e)
      · rw [k8] at e
        injection e with e
        omega
  · rw [List.mem_append] at hc
    rcases hc with hc | hc
    · rw [hN' c hc]
      exact ((hN c hc).kx (hkx V i1 hd1)).more i1
    · rw [List.mem_singleton.1 hc]
      exact (hb.kx (hkx Vb i2 hd2)).more i2
  · rw [List.mem_append] at hc
    rcases hc with hc | hc
    · rw [hX' c hc]
      exact ((hX c hc).kx (hkx V i1 hd1)).more i1
    · rw [List.mem_singleton.1 hc, hXd]
      exact (hZ1.kx hkW).more i3

set_option linter.unusedSimpArgs false in
set_option maxRecDepth 100000 in
set_option maxHeartbeats 2000000 in
theorem fadd_is (base fb s0 s1 A : Nat) (V V' Vb W : Nat → Prop) (P Q : List Nat) (N N' : Nat → Nd) (X X' : Nat → Rd) (m0 m1 : Nat) (vP vR vB : Value) (w : World) (hF : FoM base fb s0 s1 V P Q N X m0 m1 vP vR vB w) (b d : Nat) (Z : Rd)
    (hV' : ∀ k, V' k → base ≤ k ∧ k < w.heap.size ∧ vP.ownBlock ≠ some k ∧ vR.ownBlock ≠ some k ∧ vB.ownBlock ≠ some k)
    (i1 : ∀ k, V k → V' k) (i2 : ∀ k, Vb k → V' k) (i3 : ∀ k, W k → V' k) (hd1 : ¬ V d) (hd2 : ¬ Vb d) (hb : NodeV Vb w b (N' b)) (hN' : ∀ c ∈ P, N' c = N c) (hZ : RefV W w d Z) (hX' : ∀ c ∈ Q, X' c = X c) (hXd : X' d = rplace Z Q.length) (hA : A ≤ fb) (hl : Q.length ≤ 1048576) (hlP : P.length ≤ 1048576) :
    Calls Try.prog 35 #[.pointer (some ⟨fb, 0, none⟩), .pointer (some ⟨b, 0, none⟩), .pointer (some ⟨d, 0, none⟩)] w fun e w' => e = .returned (.tuple #[]) ∧ ∃ vP' vR', FoM base fb s0 s1 V' (P ++ [b]) (Q ++ [d]) N' X' m0 m1 vP' vR' vB w' ∧ KA A w w' ∧ (∀ k, k < w.heap.size → k ≠ d → k ≠ fb → vP.ownBlock ≠ some k → vR.ownBlock ≠ some k → w'.heap[k]? = w.heap[k]?) := by
  have hc2 : w.cell? ⟨fb, 2, none⟩ = some vP := by simp [World.cell?, hF.1]
  have hc3 : w.cell? ⟨fb, 3, none⟩ = some vR := by simp [World.cell?, hF.1]
  have HF := hide1 hF
  have hfl := (Array.getElem?_eq_some_iff.1 hF.1).1
  obtain ⟨qn, hqn⟩ : ∃ qn, Q.length = qn := ⟨_, rfl⟩
  obtain ⟨pn, hpn⟩ : ∃ pn, P.length = pn := ⟨_, rfl⟩
  obtain ⟨a, cap, hvR⟩ : ∃ a cap, vR = .slice a qn cap := by
    rcases hF.2.2.2.2.1.2 with ⟨rfl, h0⟩ | ⟨g, cap, cur, rfl, _⟩
    · exact ⟨none, 0, by rw [← hqn, h0]⟩
    · exact ⟨_, _, by rw [← hqn]⟩
  obtain ⟨ap, capp, hvP⟩ : ∃ a cap, vP = .slice a pn cap := by
    rcases hF.2.2.2.1.2 with ⟨rfl, h0⟩ | ⟨g, cap, cur, rfl, _⟩
    · exact ⟨none, 0, by rw [← hpn, h0]⟩
    · exact ⟨_, _, by rw [← hpn]⟩
  obtain ⟨kvd, hkvd, _⟩ := hZ.2
  have hd1c : w.cell? ⟨d, 1, none⟩ = some (.int .i64 Z.place) := by simp [World.cell?, hkvd, cellsR]
  have hfd : w.frozen? ⟨d, 1, none⟩ = false := by simp [World.frozen?, hkvd]
  have hdV := hV' d (i3 d hZ.1)
  have hbf := hF.2.2.2.2.2.2.1.1
  have hdf : d ≠ fb := by omega
  have hqI : (qn : Int) ≤ 1048576 := by omega
  have HFIN := hide1 (fun (wF : World) (vP' vR' : Value) => @fadd_fin base fb s0 s1 V V' Vb W P Q N N' X X' m0 m1 b d vP vR vB vP' vR' w wF Z hF hV' i1 i2 i3 hd1 hd2 hb hN' hZ hX' hXd)
  have HDV := hide1 hdV
  clear hkvd hF hV' i1 i2 i3 hd1 hd2 hb hN' hZ hX' hXd hdV hl
  subst hvR hvP
  have HQN := hide1 hqn
  have HPN := hide1 hpn
  clear hqn hpn
  go_enter Try.func35, Try.ntmps35
  go_upto_region 1 with fail
  obtain ⟨w1, hw1⟩ : ∃ w1, w.setCell ⟨d, 1, none⟩ (.int .i64 (qn : Int)) = w1 := ⟨_, rfl⟩
  have HK1 : Hid (KeptBut d w w1) := by rw [← hw1]; exact setCell_but _ _ _ _
  have HW1 := hide1 hw1
  rw [hw1]
  have e2 : w1.cell? ⟨fb, 2, none⟩ = some (.slice ap pn capp) := HK1.out.cell (Ne.symm hdf) hc2
  have hfl1 : fb < w1.heap.size := Nat.lt_of_lt_of_le hfl HK1.out.2.2.2.1
  have HB1 : Hid (w1.heap[fb]? = some (.cells #[.pointer (some ⟨s0, 0, none⟩), .pointer (some ⟨s1, 0, none⟩), .slice ap pn capp, .slice a qn cap, vB] 35 (0, 0))) := (HK1.out.2.2.2.2 fb hfl (Ne.symm hdf)).trans HF.out.1
  have HO1 : Hid (POwn w1 base (.slice ap pn capp) P) := owns_same HF.out.2.2.2.1 (fun k hk => HK1.out.2.2.2.2 k (ownsRow_lt HF.out.2.2.2.1 k hk).2 (fun e => HDV.out.2.2.1 (e ▸ hk)))
  have HQ1 : Hid (QOwn w1 base (.slice a qn cap) Q) := owns_same HF.out.2.2.2.2.1 (fun k hk => HK1.out.2.2.2.2 k (ownsRow_lt HF.out.2.2.2.2.1 k hk).2 (fun e => HDV.out.2.2.2.1 (e ▸ hk)))
  have hbs1 : base ≤ w1.heap.size := Nat.le_trans HF.out.2.2.2.2.2.2.1.2.2.2.2.2.2 HK1.out.2.2.2.1
  have HQF : Hid (∀ k, (Value.slice a qn cap).ownBlock = some k → (Value.slice ap pn capp).ownBlock ≠ some k) := fun k hk e => (HF.out.2.2.2.2.2.2.2.1 k e).1 hk
  clear hw1 hc2 hc3 hd1c hfd
  go_upto_region 2 with (at_builtin; go_must (refine wpl_P rfl _ _ rfl _ base _ P pn HPN.out (by rfl) (owns_same (w' := w1.alloc (.cells #[.pointer (some ⟨b, 0, none⟩)] 29)) HO1.out (fun k hk => heap_alloc_old w1 _ (ownsRow_lt HO1.out k hk).2)) w1.heap.size b (by rfl) (World.alloc_heap_new w1 _) (by omega) (by exact Nat.le_trans hbs1 (alloc_le w1 _)) ?_; intro g2 c2 w2 ho2 hg2 hor2 hl2; have HO2 := hide1 ho2; have HG2 := hide1 hg2; have HB2 := hide1 ((hg2.block fb (Nat.lt_of_lt_of_le hfl1 (alloc_le w1 _)) (fun e => by have := (ownsRow_lt HO1.out fb e.symm).1; omega)).trans ((heap_alloc_old w1 _ hfl1).trans HB1.out)); have e4 : w2.cell? ⟨fb, 2, none⟩ = some (.slice ap pn capp) := (by simp [World.cell?, HB2.out]); have f4 : w2.frozen? ⟨fb, 2, none⟩ = false := (by simp [World.frozen?, HB2.out]); clear ho2 hg2))
  obtain ⟨w3, hw3⟩ : ∃ w3, w2.setCell ⟨fb, 2, none⟩ (.slice (some ⟨g2, 0, none⟩) (pn + 1) c2) = w3 := ⟨_, rfl⟩
  have hsz1 : (w1.alloc (.cells #[.pointer (some ⟨b, 0, none⟩)] 29)).heap.size = w1.heap.size + 1 := by simp
  have hs12 : w1.heap.size + 1 ≤ w2.heap.size := by rw [← hsz1]; exact HG2.out.size
  have hs01 := HK1.out.2.2.2.1
  have HK3 : Hid (KeptBut fb w2 w3) := by rw [← hw3]; exact setCell_but _ _ _ _
  have hs23 := HK3.out.2.2.2.1
  have hor2' : (Value.slice ap pn capp).ownBlock = some g2 ∨ g2 = w1.heap.size + 1 := by rw [← hsz1]; exact hor2
  have hg2b : base ≤ g2 := by
    rcases hor2' with e | e
    · exact (ownsRow_lt HO1.out g2 e).1
    · omega
  have HC3 : Hid (∀ k, k < w1.heap.size → k ≠ fb → (Value.slice ap pn capp).ownBlock ≠ some k → w3.heap[k]? = w1.heap[k]?) := fun k h1 h3 h4 =>
    (HK3.out.2.2.2.2 k (by omega) h3).trans ((HG2.out.block k (by omega) (fun e => h4 e.symm)).trans (heap_alloc_old w1 _ h1))
  have HB3 : Hid (w3.heap[fb]? = some (.cells #[.pointer (some ⟨s0, 0, none⟩), .pointer (some ⟨s1, 0, none⟩), .slice (some ⟨g2, 0, none⟩) (pn + 1) c2, .slice a qn cap, vB] 35 (0, 0))) := by rw [← hw3]; exact (set5 HB2.out _).1
  have HP3 : Hid (POwn w3 base (.slice (some ⟨g2, 0, none⟩) (pn + 1) c2) (P ++ [b])) := owns_same HO2.out (fun k hk => HK3.out.2.2.2.2 k (ownsRow_lt HO2.out k hk).2 (by have := (ownsRow_lt HO2.out k hk).1; omega))
  have HQ3 : Hid (QOwn w3 base (.slice a qn cap) Q) := owns_same HQ1.out (fun k hk => HC3.out k (ownsRow_lt HQ1.out k hk).2 (by have := (ownsRow_lt HQ1.out k hk).1; omega) (HQF.out k hk))
  have e3 : w3.cell? ⟨fb, 3, none⟩ = some (.slice a qn cap) := by simp [World.cell?, HB3.out]
  have hfl3 : fb < w3.heap.size := by omega
  have hbs3 : base ≤ w3.heap.size := by omega
  have HOT3 : Hid (w3.os = w.os ∧ w3.tape = w.tape ∧ w3.output = w.output) := ⟨(HK3.out.1.trans HG2.out.os).trans HK1.out.1, (HK3.out.2.1.trans HG2.out.tape).trans HK1.out.2.1, (HK3.out.2.2.1.trans HG2.out.output).trans HK1.out.2.2.1⟩
  rw [hw3]
  have hqn2 : Q.length ≤ 8388608 := by rw [HQN.out]; omega
  clear hw3 e4 f4 e2
  go_wp2_with (at_builtin; go_must (refine wpl_Q rfl _ _ rfl _ base _ Q qn HQN.out (by rfl) (owns_same (w' := w3.alloc (.cells #[.pointer (some ⟨d, 0, none⟩)] 39)) HQ3.out (fun k hk => heap_alloc_old w3 _ (ownsRow_lt HQ3.out k hk).2)) w3.heap.size d (by rfl) (World.alloc_heap_new w3 _) hqn2 (by exact Nat.le_trans hbs3 (alloc_le w3 _)) ?_; intro g5 c5 w5 ho5 hg5 hor5 hl5; have HO5 := hide1 ho5; have HG5 := hide1 hg5; have HB5 := hide1 ((hg5.block fb (Nat.lt_of_lt_of_le hfl3 (alloc_le w3 _)) (fun e => by have := (ownsRow_lt HQ3.out fb e.symm).1; omega)).trans ((heap_alloc_old w3 _ hfl3).trans HB3.out)); have e4 : w5.cell? ⟨fb, 3, none⟩ = some (.slice a qn cap) := (by simp [World.cell?, HB5.out]); have f4 : w5.frozen? ⟨fb, 3, none⟩ = false := (by simp [World.frozen?, HB5.out]); clear ho5 hg5))
  go_end0
  obtain ⟨w6, hw6⟩ : ∃ w6, w5.setCell ⟨fb, 3, none⟩ (.slice (some ⟨g5, 0, none⟩) (qn + 1) c5) = w6 := ⟨_, rfl⟩
  have hsz3 : (w3.alloc (.cells #[.pointer (some ⟨d, 0, none⟩)] 39)).heap.size = w3.heap.size + 1 := by simp
  have hs35 : w3.heap.size + 1 ≤ w5.heap.size := by rw [← hsz3]; exact HG5.out.size
  have HK6 : Hid (KeptBut fb w5 w6) := by rw [← hw6]; exact setCell_but _ _ _ _
  have hs56 := HK6.out.2.2.2.1
  have hor5' : (Value.slice a qn cap).ownBlock = some g5 ∨ g5 = w3.heap.size + 1 := by rw [← hsz3]; exact hor5
  have HC6 : Hid (∀ k, k < w3.heap.size → k ≠ fb → (Value.slice a qn cap).ownBlock ≠ some k → w6.heap[k]? = w3.heap[k]?) := fun k h1 h3 h4 =>
    (HK6.out.2.2.2.2 k (by omega) h3).trans ((HG5.out.block k (by omega) (fun e => h4 e.symm)).trans (heap_alloc_old w3 _ h1))
  have hg2g5 : g2 ≠ g5 := by
    intro e
    rcases hor5' with h5 | h5
    · rcases hor2' with h2 | h2
      · exact HQF.out g5 h5 (by rw [← e]; exact h2)
      · have := (ownsRow_lt HQ1.out g5 h5).2
        omega
    · have := (ownsRow_lt HP3.out g2 rfl).2
      omega
  have hC : ∀ k, k < w.heap.size → k ≠ d → k ≠ fb → (Value.slice ap pn capp).ownBlock ≠ some k → (Value.slice a qn cap).ownBlock ≠ some k → w6.heap[k]? = w.heap[k]? := fun k a1 a2 a3 a4 a5 =>
    (HC6.out k (by omega) a3 a5).trans ((HC3.out k (by omega) a3 a4).trans (HK1.out.2.2.2.2 k a1 a2))
  rw [hw6]
  refine ⟨rfl, _, _, HFIN.out w6 (.slice (some ⟨g2, 0, none⟩) (pn + 1) c2) (.slice (some ⟨g5, 0, none⟩) (qn + 1) c5) (by omega) hC ?_ ?_ ?_ ?_ ?_ ?_ ?_, ?_, hC⟩
  · rw [HQN.out]
    refine (HC6.out d (by have := HDV.out.2.1; omega) hdf (HDV.out.2.2.2.1)).trans ((HC3.out d (by have := HDV.out.2.1; omega) hdf (HDV.out.2.2.1)).trans ?_)
    rw [← HW1.out]
  · rw [← hw6]
    exact (set5 HB5.out _).2.1
  · exact owns_same HP3.out (fun k hk => HC6.out k (ownsRow_lt HP3.out k hk).2 (by have := (ownsRow_lt HP3.out k hk).1; omega) (fun e => by
      have ek : g2 = k := by simpa [Value.ownBlock] using hk
      subst ek
      rcases hor2' with h2 | h2
      · exact HQF.out g2 e h2
      · have := (ownsRow_lt HQ1.out g2 e).2
        omega))
  · exact owns_same HO5.out (fun k hk => HK6.out.2.2.2.2 k (ownsRow_lt HO5.out k hk).2 (by have := (ownsRow_lt HO5.out k hk).1; omega))
  · rcases hor2' with h2 | h2
    · exact Or.inl (by rw [h2]; rfl)
    · exact Or.inr ⟨g2, rfl, by omega⟩
  · rcases hor5' with h2 | h2
    · exact Or.inl (by rw [h2]; rfl)
    · exact Or.inr ⟨g5, rfl, by omega⟩
  · intro g hg e
    have h1 : g2 = g := by simpa [Value.ownBlock] using hg
    have h2 : g5 = g := by simpa [Value.ownBlock] using e
    omega
  · have hA1 := HF.out.2.2.2.2.2.2.1
    have hP := ownsRow_lt HF.out.2.2.2.1
    have hR := ownsRow_lt HF.out.2.2.2.2.1
    refine ⟨(HK6.out.1.trans HG5.out.os).trans HOT3.out.1, (HK6.out.2.1.trans HG5.out.tape).trans HOT3.out.2.1, (HK6.out.2.2.1.trans HG5.out.output).trans HOT3.out.2.2, by omega, fun k hk => hC k (by omega) (by have := HDV.out.1; omega) (by omega) (fun e => by have := (hP k e).1; omega) (fun e => by have := (hR k e).1; omega)⟩

end Tr
end Ex
end Go.Proofs.Ythpampfbmpdmoaa
