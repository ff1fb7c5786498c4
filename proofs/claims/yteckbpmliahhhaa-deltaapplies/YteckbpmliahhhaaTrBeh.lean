import Derived.Test.YteckbpmliahhhaaTrWay
import Derived.Deep.DeepMust
namespace Go.Proofs.Yteckbpmliahhhaa
open Go.RowKit
attribute [local go_sem] Oper.semAt_some
namespace Ex
namespace Tr

theorem TK.refl (b : Nat) (g : Option Nat) (w : World) : TK b g w w := ⟨rfl, rfl, rfl, Nat.le_refl _, fun _ _ _ _ => rfl⟩
set_option linter.unusedSimpArgs false in
set_option maxRecDepth 100000 in
set_option maxHeartbeats 2000000 in
theorem behind_is (R : Nat → Prop) (N : Nat → Nd) (B M D base b : Nat) (ov : Value) (at_ : Nat) (sk : List (Nat × Nat)) (w : World) (hF : Forest R N B w) (hW : WayAt w D ov at_) (hO : OOwn w base ov sk) (hD : D < base) (hB : B ≤ D) (hbs : base ≤ w.heap.size) (hS : SkOk R N M sk) (hb : R b) (hbM : (N b).size + sk.length ≤ M) (hM : M ≤ 4194304) (ha : at_ ≤ 2305843009213693952) :
    Calls Try.prog 44 #[.pointer (some ⟨D, 0, none⟩), .pointer (some ⟨b, 0, none⟩)] w fun e w' => BehR R N M D base ov.ownBlock (at_ + if (N b).kind = 1 then (N b).width else 0) ((N b).kids.map Prod.fst ++ pendL N sk.reverse) w e w' := by
  obtain ⟨ps, hps⟩ : ∃ ps, (N b).kids.map Prod.fst ++ pendL N sk.reverse = ps := ⟨_, rfl⟩
  obtain ⟨at', hat⟩ : ∃ at', (at_ + if (N b).kind = 1 then (N b).width else 0) = at' := ⟨_, rfl⟩
  rw [hps, hat]
  have HF := hide1 hF
  have HW := hide1 hW
  have HO := hide1 hO
  have HS := hide1 hS
  have HB := hide1 hb
  have HBM := hide1 hbM
  have HPS := hide1 hps
  have HAT := hide1 hat
  have hDl := hW.lt
  have HOG : Hid (∀ g, ov.ownBlock = some g → base ≤ g ∧ g < w.heap.size) := fun g hg => hO.lt g hg
  obtain ⟨o0, o1, f0, f1⟩ := hW.cells
  obtain ⟨kv, hkr, _, _, _, k2, _, _, _, _, _, _, k9, _⟩ := (hF b hb).1.cells
  have hok := (hF b hb).2.1
  have hwd : (N b).width ≤ 2305843009213693952 := by unfold NdOk at hok; omega
  clear hF hW hO hS hb hbM hps hat hkr hok
  go_enter Try.func44, Try.ntmps44
  go_wp2_with fail
  refine wp_scope_once 0 (fun a w' => BehFr D b a ∧ WaySt R N M D base ov.ownBlock w.heap.size at' ps w w') (fun _ w' => openN D w') rfl ?_ ?_
  · rintro a w1 ⟨⟨T, rfl⟩, ov1, sk1, hW1, hO1, hS1, hP1, hR1, hT1⟩
    clear o0 o1 f0 f1 k2 k9
    obtain ⟨o0, o1, f0, f1⟩ := hW1.cells
    have HW1 := hide1 hW1
    have HO1 := hide1 hO1
    have HS1 := hide1 hS1
    have HR1 := hide1 hR1
    have HT1 := hide1 hT1
    have hDl1 := hW1.lt
    have HF1 := hide1 (HF.out.kb (hT1.kb hB hD hDl (fun g hg => (HOG.out g hg).1)))
    rcases List.eq_nil_or_concat sk1 with rfl | ⟨pre, q, rfl⟩
    · obtain ⟨oa, oc, rfl⟩ := hO1.form
      have HP1 := hide1 hP1
      clear hW1 hO1 hS1 hR1 hT1 hP1
      go_wp2_with fail
      simp only [Exit.jump]
      go_ret
      have e := HP1.out
      rw [List.reverse_nil, pendL] at e
      rw [← e]
      exact ⟨rfl, _, _, HW1.out, HO1.out, HS1.out, rfl, HR1.out, HT1.out⟩
    · rw [List.concat_eq_append] at *
      obtain ⟨g, cap, rfl, hbg, hgl, hcap, g0, g1, gz⟩ := hO1.last
      obtain ⟨m, hm⟩ : ∃ m, pre.length = m := ⟨_, rfl⟩
      rw [hm] at o0 g0 g1 gz hcap
      have HM := hide1 hm
      obtain ⟨hq0, hq1, hq2⟩ := hS1.top
      rw [hm] at hq1
      obtain ⟨hN1, hN2, _, _, hN5⟩ := HF1.out q.1 hq0
      obtain ⟨kv, ⟨ka, kc, rfl, hkl, hk4, hkc⟩, _, _, _, _, _, _, _, _, _, p8, _⟩ := hN1.cells
      have hgD : g ≠ D := by omega
      have hqB : q.1 < B := hN1.1
      have hqg : q.1 ≠ g := by omega
      have hqD : q.1 ≠ D := by omega
      have hmI : (m : Int) ≤ 4194304 := by omega
      have HP1 := hide1 hP1
      have HQ0 := hide1 hq0
      have HKC := hide1 hkc
      obtain ⟨i, hi⟩ : ∃ i, q.2 = i := ⟨_, rfl⟩
      obtain ⟨L, hL⟩ : ∃ L, (N q.1).kids.length = L := ⟨_, rfl⟩
      rw [hi] at g1 hq2
      rw [hL] at p8 hq2 hkl hk4
      have HI := hide1 hi
      have HL := hide1 hL
      have hLI : (L : Int) ≤ 4194304 := by omega
      clear hW1 hO1 hS1 hR1 hT1 hP1 hq0 hN1 hN2 hN5 hkc hm hi hL
      by_cases hiL : i = L
      · subst hiL
        go_upto_region 8 with fail
        go_quiet (fail)
        have hcI : (m : Int) ≤ (cap : Int) := by omega
        go_wp2_with fail
        have hpn : pendL N pre.reverse = ps := by
          have e := HP1.out
          rw [List.reverse_append] at e
          have e2 : ((N q.1).kids.map Prod.fst).drop q.2 ++ pendL N pre.reverse = ps := e
          rw [List.drop_eq_nil_of_le (by rw [List.length_map, HL.out, HI.out]; exact Nat.le_refl _), List.nil_append] at e2
          exact e2
        have hO2 := HO1.out
        have hw2 := (show WayAt (w1.drewN nq) D _ at' from HW1.out).setO (.slice (some ⟨g, 0, none⟩) m cap)
        refine wp_goto (And.intro (a := (0 : Nat) = 0) (b := (BehFr D b _ ∧ WaySt R N M D base ov.ownBlock w.heap.size at' ps w _) ∧ openN D _ < openN D w1) rfl ?_)
        refine ⟨⟨behFr_of _ (by kernel_rfl), .slice (some ⟨g, 0, none⟩) m cap, pre, hw2, ?_, HS1.out.front, hpn, HR1.out, ?_⟩, ?_⟩
        · rw [← HM.out]
          exact owns_same hO2.pop (fun d hd => Below.heap_setCell _ _ _ _ (show d ≠ D by simp only [Value.ownBlock, Option.some.injEq] at hd; omega))
        · exact TK.but HT1.out (((drewN_kept w1 nq).tbut D).trans (setCell_but _ _ _ _))
        · have e1 : openN D w1 = m + 1 := by unfold openN; rw [o0]
          have e2 : openN D ((w1.drewN nq).setCell ⟨D, 0, none⟩ (.slice (some ⟨g, 0, none⟩) m cap)) = m := by unfold openN; rw [hw2.cells.1]
          rw [e1, e2]
          exact Nat.lt_succ_self m
      · have hiI : ((i : Int) == (L : Int)) = false := by simp; omega
        have hiJ : (i : Int) < (L : Int) := by omega
        go_upto_region 8 with fail
        go_quiet (fail)
        obtain ⟨gk, hka, hgk, hkk⟩ : ∃ gk, ka = some ⟨gk, 0, none⟩ ∧ gk < B ∧ ∀ (i : Nat) (q' : Nat × Nat), (N q.1).kids[i]? = some q' → w1.cell? ⟨gk, i * 2, none⟩ = some (.pointer (some ⟨q'.1, 0, none⟩)) ∧ w1.cell? ⟨gk, i * 2 + 1, none⟩ = some (.int .i64 (q'.2 : Int)) := by
          rcases HKC.out with h | h
          · have := HL.out
            rw [h, List.length_nil] at this
            omega
          · exact h
        subst hka
        obtain ⟨q', hq'⟩ : ∃ q', (N q.1).kids[i]? = some q' := ⟨_, List.getElem?_eq_getElem (by have := HL.out; omega)⟩
        have r0 := (hkk i q' hq').1
        obtain ⟨k, hk⟩ : ∃ k, q'.1 = k := ⟨_, rfl⟩
        rw [hk] at r0
        have HKM : Hid (q' ∈ (N q.1).kids) := List.mem_of_getElem? hq'
        have HKI : Hid ((((N q.1).kids.map Prod.fst).drop i) = k :: ((N q.1).kids.map Prod.fst).drop (i + 1)) := by
          have h1 : ((N q.1).kids.map Prod.fst)[i]? = some k := by rw [List.getElem?_map, hq']; simp [hk]
          obtain ⟨h2, h3⟩ := List.getElem?_eq_some_iff.1 h1
          show _ = _
          rw [List.drop_eq_getElem_cons h2, h3]
        have HKK := hide1 hk
        have hgkg : gk ≠ g := by omega
        clear hkk hq' hk HKC
        go_upto_region 11 with fail
        have hO2 := HO1.out
        have HO3 := hide1 (OOwn.next (w := w1.drewN nq) hO2 (i + 1))
        have hlast := HO3.out.last
        rw [HM.out] at hlast HO3
        have HTA := hide1 ((show TK D ov.ownBlock w (w1.drewN nq) from TK.but HT1.out ((drewN_kept w1 nq).tbut D)))
        have hne : ∀ d, d ≠ g → ((w1.drewN nq).setCell ⟨g, m * 2 + 1, none⟩ (.int .i64 ((i + 1 : Nat) : Int))).heap[d]? = w1.heap[d]? := fun d hd => Below.heap_setCell _ _ _ _ hd
        rw [show ((i : Int) + 1) = ((i + 1 : Nat) : Int) by omega]
        have HW3 : Hid (WayAt ((w1.drewN nq).setCell ⟨g, m * 2 + 1, none⟩ (.int .i64 ((i + 1 : Nat) : Int))) D (.slice (some ⟨g, 0, none⟩) (m + 1) cap) at') := (hne D (by omega)).trans (by have h := HW1.out; rw [HM.out] at h; exact h)
        have HTB : Hid (TK D ov.ownBlock w ((w1.drewN nq).setCell ⟨g, m * 2 + 1, none⟩ (.int .i64 ((i + 1 : Nat) : Int)))) := by
          have h := HTA.out
          refine ⟨h.1, h.2.1, h.2.2.1, by simpa [World.setCell] using h.2.2.2.1, fun d h1 h2 h3 => ?_⟩
          have hdg : d ≠ g := by
            rintro rfl
            rcases HR1.out with e | ⟨k', e, hk'⟩
            · exact h3 e
            · simp only [Value.ownBlock, Option.some.injEq] at e
              omega
          exact (Below.heap_setCell _ _ _ _ hdg).trans (h.2.2.2.2 d h1 h2 h3)
        obtain ⟨g', cap', he, _, hgl3, _, l0, l1, lz⟩ := hlast
        injection he with he _ _
        injection he with he
        injection he with he
        subst he
        have s8 : ((w1.drewN nq).setCell ⟨g, m * 2 + 1, none⟩ (.int .i64 ((i + 1 : Nat) : Int))).cell? ⟨q.1, 8, none⟩ = some (.slice (some ⟨gk, 0, none⟩) L kc) := (World.cell?_of_block (w := w1) (a := ⟨q.1, 8, none⟩) (hne q.1 hqg)).trans p8
        have s0 : ((w1.drewN nq).setCell ⟨g, m * 2 + 1, none⟩ (.int .i64 ((i + 1 : Nat) : Int))).cell? ⟨gk, i * 2, none⟩ = some (.pointer (some ⟨k, 0, none⟩)) := (World.cell?_of_block (w := w1) (a := ⟨gk, i * 2, none⟩) (hne gk hgkg)).trans r0
        have hiK : ((i + 1 : Nat) : Int) ≤ 4194304 := by omega
        have hiE : ((i + 1 : Nat) : Int) - 1 = (i : Int) := by omega
        generalize (w1.drewN nq).setCell ⟨g, m * 2 + 1, none⟩ (.int .i64 ((i + 1 : Nat) : Int)) = W10 at *
        clear hne o0 o1 f0 f1 g0 g1 gz p8 r0 HO1 HW1 HTA HT1 hO2
        go_quiet (fail)
        go_wp2_with fail
        simp only [Exit.jump]
        go_ret
        have e2 : ps = k :: (((N q.1).kids.map Prod.fst).drop (i + 1) ++ pendL N pre.reverse) := by
          have e := HP1.out
          rw [List.reverse_append] at e
          have e2 : ((N q.1).kids.map Prod.fst).drop q.2 ++ pendL N pre.reverse = ps := e
          rw [HI.out, HKI.out] at e2
          rw [← e2]
          rfl
        rw [e2]
        have hkd := HF1.out.kid HQ0.out HKM.out
        rw [HKK.out] at hkd
        refine ⟨rfl, hkd.1, .slice (some ⟨g, 0, none⟩) (m + 1) cap, pre ++ [(q.1, i + 1)], HW3.out, HO3.out, ?_, ?_, HR1.out, HTB.out, ?_⟩
        · have h := SkOk.next HS1.out (by have := HI.out; have := HL.out; omega)
          rw [HI.out] at h
          exact h
        · rw [List.reverse_append]
          rfl
        · rw [List.length_append, HM.out]
          show (N k).size + (m + 1) ≤ M
          omega
  · intro hpass
    refine wp_seq ?_
    refine Code.wp_mono (Q := Exit.then (fun a w' => BehFr D b a ∧ WaySt R N M D base ov.ownBlock w.heap.size at' ps w w') (fun _ _ _ => False)) (fun e a w h => ?_) ?_
    · cases e with
      | normal => exact wp_seq (wp_label (hpass _ _ h))
      | _ => exact h.elim
    clear hpass
    by_cases hk1 : (N b).kind = 1
    · have HK1 := hide1 hk1
      rw [hk1] at k2
      have hwI : ((N b).width : Int) ≤ 2305843009213693952 := by omega
      have haI : (at_ : Int) ≤ 2305843009213693952 := by omega
      have hbD : b ≠ D := by have := (HF.out b HB.out).1.1; omega
      clear hk1
      go_wp2_with fail
      go_region
      rw [show ((at_ : Int) + ((N b).width : Int)) = ((at_ + (N b).width : Nat) : Int) by omega]
      refine And.intro (a := BehFr D b _) (b := WaySt R N M D base ov.ownBlock w.heap.size at' ps w _) (behFr_of _ (by kernel_rfl)) ?_
      have e1 := HAT.out
      rw [if_pos HK1.out] at e1
      have e2 := HPS.out
      rw [(HF.out b HB.out).2.2.1 HK1.out, List.map_nil, List.nil_append] at e2
      rw [e1]
      have hst := setCell_but w D 1 (.int .i64 (at' : Int))
      refine ⟨ov, sk, HW.out.setA at', owns_same HO.out (fun d hd => Below.heap_setCell _ _ _ _ (show d ≠ D by have := (HO.out.lt d hd).1; omega)), HS.out, e2, Or.inl rfl, TK.but (TK.refl D _ w) (hst.trans ((drew_kept _).tbut D))⟩
    · have HK1 := hide1 hk1
      have hk1I : ((N b).kind == 1) = false := by simpa using hk1
      obtain ⟨oa, oc, hov⟩ := HO.out.form
      obtain ⟨n, hn⟩ : ∃ n, sk.length = n := ⟨_, rfl⟩
      rw [hn] at hov
      subst hov
      have HN := hide1 hn
      have hsk : sk.length ≤ 4194304 := by have := HBM.out; omega
      have hbD : b ≠ D := by have := (HF.out b HB.out).1.1; omega
      clear hk1 hn
      go_wp2_with (at_builtin; go_must (refine wpl_open rfl _ _ rfl _ base _ sk n HN.out (by rfl) (owns_same (w' := w.alloc (.cells #[.pointer (some ⟨b, 0, none⟩), .int .i64 0] 128)) HO.out (fun d hd => heap_alloc_old w _ (HO.out.lt d hd).2)) w.heap.size b 0 (by rfl) (World.alloc_heap_new w _) hsk (by exact Nat.le_trans hbs (alloc_le w _)) ?_; intro g9 c9 w9 ho9 hg9 hor9 hl9; have HO9 := hide1 ho9; have HG9 := hide1 hg9; have HR9 := hide1 hor9; have hD9 : w9.heap[D]? = w.heap[D]? := (hg9.block D (by simp; omega) (fun e => by have := (HOG.out D e.symm).1; omega)).trans (heap_alloc_old w _ hDl); have HW9 := hide1 (show WayAt w9 D _ at_ from hD9.trans HW.out); obtain ⟨u0, u1, x0, x1⟩ := HW9.out.cells; have hDl9 := HW9.out.lt; clear ho9 hg9 hor9 hD9))
      refine ⟨behFr_of _ (by kernel_rfl), .slice (some ⟨g9, 0, none⟩) (n + 1) c9, sk ++ [(b, 0)], ?_, ?_, HS.out.push HB.out HBM.out, ?_, ?_, ?_⟩
      · have e1 := HAT.out
        rw [if_neg HK1.out, Nat.add_zero] at e1
        rw [← e1]
        exact HW9.out.setO _
      · exact owns_same HO9.out (fun d hd => Below.heap_setCell _ _ _ _ (show d ≠ D by have := (HO9.out.lt d hd).1; omega))
      · rw [List.reverse_append]
        show ((N b).kids.map Prod.fst).drop 0 ++ pendL N sk.reverse = ps
        rw [List.drop_zero]
        exact HPS.out
      · rcases HR9.out with h | h
        · exact Or.inl h.symm
        · exact Or.inr ⟨g9, rfl, by rw [h]; simp⟩
      · exact TK.but ⟨HG9.out.os, HG9.out.tape, HG9.out.output, Nat.le_trans (alloc_le w _) HG9.out.size, fun d h1 _ h3 => (HG9.out.block d (Nat.lt_of_lt_of_le h1 (alloc_le w _)) h3).trans (heap_alloc_old w _ h1)⟩ (setCell_but _ _ _ _)

end Tr
end Ex
end Go.Proofs.Yteckbpmliahhhaa
