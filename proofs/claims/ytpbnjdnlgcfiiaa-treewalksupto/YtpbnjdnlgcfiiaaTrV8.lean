import Derived.Test.YtpbnjdnlgcfiiaaTrV6
import Derived.Test.YtpbnjdnlgcfiiaaTrV7
import Derived.Test.YtpbnjdnlgcfiiaaTrR1
namespace Go.Proofs.Ytpbnjdnlgcfiiaa
open Go.RowKit
attribute [local go_sem] Oper.semAt_some
namespace Ex
namespace Tr
attribute [local simp] wide_fn

/-- What last tells, as a number. -/
def LastI (P : List Nat) (N : Nat → Nd) (r : Int) : Prop := r = -1 ∨ ∃ i b : Nat, r = (i : Int) ∧ P[i]? = some b ∧ (N b).size ≤ 4000
theorem LastR.int {P : List Nat} {N : Nat → Nd} {e : Ending} (h : LastR P N e) : ∃ r, e = .returned (.int .i64 r) ∧ LastI P N r := by
  rcases h with h | ⟨i, b, h, h1, h2⟩
  · exact ⟨_, h, Or.inl rfl⟩
  · exact ⟨_, h, Or.inr ⟨i, b, rfl, h1, h2⟩⟩
/-- The leaves among spots. -/
def lfS (X : Nat → Rd) (s : SpM) : Bool := (X s.d).kind == 1
theorem Wants.leaves {s0 s1 m0 m1 : Nat} {P Q : List Nat} {N : Nat → Nd} {X : Nat → Rd} (hT : TwinOk s0 s1 m0 m1 P Q N X) : ∀ {L : List SpM} {xs : List (Nat × Nat)}, Wants P Q X L xs → Wants P Q X (L.filter (lfS X)) (xs.filter (leafB N))
  | [], xs, h => by
    obtain ⟨rfl, _⟩ := h
    exact ⟨rfl, fun s hs => by simp at hs⟩
  | s :: L, xs, h => by
    obtain ⟨rfl, h2⟩ := h
    obtain ⟨ih1, ih2⟩ := Wants.leaves hT (L := L) ⟨rfl, fun q hq => h2 q (List.mem_cons_of_mem _ hq)⟩
    have hk := (twin_of hT (h2 s List.mem_cons_self)).2.2.1
    have e : leafB N (s.pl, btw P X s.d) = lfS X s := by simp only [leafB, lfS, hk]
    refine ⟨?_, fun q hq => h2 q (List.mem_filter.1 hq).1⟩
    rw [List.map_cons]
    cases hb : lfS X s with
    | true => rw [List.filter_cons_of_pos hb, List.filter_cons_of_pos (by rw [e]; exact hb), List.map_cons, ih1]
    | false => rw [List.filter_cons_of_neg (by simp [hb]), List.filter_cons_of_neg (by rw [e]; simp [hb]), ih1]
theorem wants_of {s0 s1 m0 m1 : Nat} {P Q : List Nat} {N : Nat → Nd} {X : Nat → Rd} (hT : TwinOk s0 s1 m0 m1 P Q N X) {base fb : Nat} {V : Nat → Prop} {vP vR vB : Value} {w : World} (hM : FoM base fb s0 s1 V P Q N X m0 m1 vP vR vB w) {i b d : Nat} (hb : P[i]? = some b) (hd : Q[i]? = some d) {L : List SpM} (hL : L.map keyS = wk X (fun d => (N (btw P X d)).width) (szK X [(d, 0, [])]) [(d, 0, [])]) : Wants P Q X L (wl N (N b).size [b] 0) ∧ L.length = (N b).size := by
  have hdQ := List.mem_of_getElem? hd
  obtain ⟨_, _, _, hs, _, _, _, _, _, i', hi', hp', hpl⟩ := twin_of hT hdQ
  have ebt : btw P X d = b := by
    have h1 := (hT.2.2.2.1 i b d hb hd).st.1
    unfold btw
    rw [h1]
    exact at_some hb
  have hsz : szK X [(d, 0, [])] = (N b).size := by rw [← ebt, hs]; simp [szK, sizeR]
  have hR := rfor_of hM hT
  have h1 := wk_wl hT (szK X [(d, 0, [])]) [(d, 0, [])] 0 (fun q hq => by rw [List.mem_singleton.1 hq]; exact hdQ) ⟨rfl, trivial⟩
  rw [← hL, hsz] at h1
  rw [List.map_map] at h1
  have h2 : ([(d, 0, [])].map fun (s : Nat × Nat × List Nat) => btw P X s.1) = [b] := by simp [ebt]
  rw [h2] at h1
  refine ⟨⟨h1, fun s hs' => ?_⟩, ?_⟩
  · have h3 : keyS s ∈ L.map keyS := List.mem_map.2 ⟨s, hs', rfl⟩
    rw [hL] at h3
    exact wk_mem hR _ _ (fun q hq => by rw [List.mem_singleton.1 hq]; exact hdQ) _ h3
  · have h4 := wk_len hR (szK X [(d, 0, [])]) [(d, 0, [])] (fun q hq => by rw [List.mem_singleton.1 hq]; exact hdQ) rfl
    rw [← hL, List.length_map] at h4
    rw [h4, hsz]

set_option linter.unusedSimpArgs false in
set_option maxRecDepth 100000 in
set_option maxHeartbeats 4000000 in
theorem law_walks (v : Value) (l : List StepM) (stop : Int) (w : World) (hS : ScriptA w.heap.size w v l) : Calls Try.prog 3 #[v, .int .i64 stop] w fun e w' => e = .returned (.bool true) ∧ Kept w w' := by
  have HSC := hide1 hS
  have hl : l.length ≤ 1048576 := hS.choose_spec.choose_spec.2.2.1
  clear hS
  go_enter Try.func3, Try.ntmps3
  go_upto_region 4 with (go_at_call 8; refine (grown_is v l w HSC.out).mono ?_; rintro e w1 ⟨base, fb, s0, s1, rfl, hF1, hk1, _, _, _⟩; have HF1 := hide1 hF1; have HK1 := hide1 hk1; clear hF1 hk1)
  obtain ⟨V, P, Q, N, X, m0, m1, vP, vR, vB, hM, hT, hP⟩ := HF1.out
  have HM := hide1 hM
  have HT := hide1 hT
  have HLAST := hide1 (last_is base fb s0 s1 V P Q N X m0 m1 vP vR vB w1 hM hT (by omega))
  clear hM hT HF1
  go_upto_region 5 with (go_at_call 9; refine HLAST.out.mono ?_; rintro e w2 ⟨hw2, hl2⟩; have hw2 := hw2.symm; subst hw2; obtain ⟨r, rfl, hr⟩ := hl2.int; have HR := hide1 hr; clear hl2 hr)
  rcases HR.out with hr | ⟨i, b, hr, hi, hb⟩
  · subst hr
    go_wp2_with fail
    go_ret
    exact ⟨rfl, HK1.out⟩
  · subst hr
    have hbm : b ∈ P := List.mem_of_getElem? hi
    obtain ⟨gp, cp, rfl, _, cP⟩ := HM.out.2.2.2.1.cell hi
    have hiP := (List.getElem?_eq_some_iff.1 hi).1
    obtain ⟨d, hd⟩ : ∃ d, Q[i]? = some d := ⟨_, List.getElem?_eq_getElem (by rw [← HT.out.1]; exact hiP)⟩
    have hdQ := List.mem_of_getElem? hd
    obtain ⟨gq, cq, hvR, _, cQ⟩ := HM.out.2.2.2.2.1.cell hd
    subst hvR
    have c3 : w1.cell? ⟨fb, 3, none⟩ = some (.slice (some ⟨gq, 0, none⟩) Q.length cq) := by simp [World.cell?, HM.out.1]
    have hiQ : i < Q.length := by rw [← HT.out.1]; exact hiP
    have hiI : (i : Int) < (Q.length : Int) := by omega
    have hpb := HT.out.2.2.2.1 i b d hi hd
    have hdz : (X d).size ≤ 4000 := by rw [← hpb.2.1]; exact hb
    have HRF := hide1 (rfor_of HM.out HT.out)
    have HWT := hide1 (walkT_is (R := fun d => d ∈ Q) d w1 HRF.out hdQ (Nat.le_refl _) (by omega) (by have h := (HRF.out d hdQ).2.2.2.2.2.1; exact Nat.le_trans h (Nat.le_trans (Nat.mul_le_mul_right 524288 hdz) (by decide))))
    obtain ⟨n, hn⟩ : ∃ n, (N b).size = n := ⟨_, rfl⟩
    rw [hn] at hb
    have HN := hide1 hn
    have HI := hide1 hi
    have HD := hide1 hd
    clear hpb hn hi hd HLAST HR
    go_wp2_with (go_at_call 10; refine HWT.out.mono ?_; rintro e w3 ⟨v3, L, rfl, ho3, hk3, hp3, hkk3⟩; obtain ⟨va, vc, hv3⟩ := ho3.form; obtain ⟨nl, hnl⟩ : ∃ nl, L.length = nl := ⟨_, rfl⟩; rw [hnl] at hv3; subst hv3; have HNL := hide1 hnl; have HO3 := hide1 ho3; have HKS := hide1 hk3; have HPS := hide1 hp3; have HK3 := hide1 hkk3; clear ho3 hk3 hp3 hkk3 hnl)
    have HWA := hide1 (wants_of HT.out HM.out HI.out HD.out HKS.out)
    have hnn : nl = n := by rw [← HNL.out, HWA.out.2, HN.out]
    subst hnn
    have hnlI : (nl : Int) ≤ 4000 := by omega
    have HRD3 := hide1 (HO3.out.rd (by rw [HNL.out]; omega))
    have HRF3 : Hid (RFor (fun d => d ∈ Q) X (fun d => (N (btw P X d)).width) w1.heap.size w3) := HRF.out.kb (HK3.out.kb (Nat.le_refl _))
    have HI0 : Hid (Kept w3 w3 ∧ SpOwn w3 w3.heap.size (.slice none 0 0) ((L.take 0).filter (lfS X))) := ⟨Kept.refl _, World.ownsRow_nil _ _ _ _⟩
    go_loopw [9, 10] (fun vl vi wr => ∃ j : Nat, j ≤ nl ∧ vi = .int .i64 (j : Int) ∧ (∃ la ln lc, vl = .slice la ln lc) ∧ Hid (Kept w3 wr ∧ SpOwn wr w3.heap.size vl ((L.take j).filter (lfS X)))) (fun _ vi _ => nl - (intOf vi).toNat)
    case atStart => exact ⟨0, Nat.zero_le _, rfl, ⟨_, _, _, rfl⟩, HI0⟩
    case round =>
      obtain ⟨j, hj, rfl, ⟨la, ln, lc, rfl⟩, HJ⟩ := hrel
      clear HI0
      by_cases hlt : j < nl
      · obtain ⟨s, hs⟩ : ∃ s, L[j]? = some s := ⟨_, List.getElem?_eq_getElem (by have := HNL.out; omega)⟩
        have hsm := List.mem_of_getElem? hs
        obtain ⟨pa, pn, pc, hpv⟩ := (HPS.out s hsm).slice
        obtain ⟨a', c', e1, _, e2⟩ := HRD3.out
        injection e1 with e1 e1b e1c
        subst e1 e1c
        clear e1b
        obtain ⟨g, e3, hg, r0, r1, r2⟩ := e2 j s hs
        subst e3
        have t0 := grown_cell HJ.out.1 r0
        have t1 := grown_cell HJ.out.1 r1
        have t2 := grown_cell HJ.out.1 r2
        rw [hpv] at t2
        have hsQ := HWA.out.1.2 s hsm
        have t3 := grown_cell HJ.out.1 (HRF3.out s.d hsQ).1.cells.2.2.1
        have HTK : Hid (L.take (j + 1) = L.take j ++ [s]) := by show _ = _; rw [List.take_add_one, hs]; rfl
        have hjI : (j : Int) < (nl : Int) := by omega
        have hfl : ((L.take j).filter (lfS X)).length ≤ 4194304 := by
          have h1 := List.length_filter_le (lfS X) (L.take j)
          rw [List.length_take] at h1
          omega
        have HFL := hide1 hfl
        obtain ⟨fl, hfe⟩ : ∃ fl, ((L.take j).filter (lfS X)).length = fl := ⟨_, rfl⟩
        have HFE := hide1 hfe
        have hlne : ln = fl := by
          obtain ⟨a2, c2, e⟩ := HJ.out.2.form
          injection e with _ e1 _
          rw [e1, hfe]
        subst hlne
        clear r0 r1 r2 e2 hs hfl hfe
        by_cases hk : (X s.d).kind = 1
        · rw [hk] at t3
          have HFK : Hid ((L.take (j + 1)).filter (lfS X) = (L.take j).filter (lfS X) ++ [s]) := by
            show _ = _
            rw [HTK.out, List.filter_append, List.filter_cons_of_pos (by simp [lfS, hk])]
            rfl
          have HBX : Hid ((wr.alloc (.cells #[.pointer (some ⟨s.d, 0, none⟩), .int .i64 (s.pl : Int), .slice pa pn pc] 42)).heap[wr.heap.size]? = some (.cells (cellsSp s).toArray 42 (0, 0))) := by
            show _ = _
            rw [World.alloc_heap_new]
            unfold cellsSp
            rw [hpv]
          have HPV : Hid (s.pv.oneCell' = true) := (HPS.out s hsm).one
          clear hpv hk hsm hsQ
          go_wp2_with (at_builtin; go_must (refine wpl_spot rfl _ _ rfl _ w3.heap.size _ ((L.take j).filter (lfS X)) ln HFE.out (by rfl) (owns_same (w' := wr.alloc (.cells #[.pointer (some ⟨s.d, 0, none⟩), .int .i64 (s.pl : Int), .slice pa pn pc] 42)) HJ.out.2 (fun q hq => heap_alloc_old wr _ (HJ.out.2.lt q hq).2)) wr.heap.size s HPV.out (by rfl) HBX.out HFL.out (by exact Nat.le_trans HJ.out.1.size (alloc_le wr _)) ?_; intro g9 c9 w9 ho9 hg9 hor9 hl9; have HO9 := hide1 ho9; have HG9 := hide1 hg9; clear ho9 hg9 hor9 hl9))
          go_roundw
          case rel =>
            refine ⟨j + 1, by omega, by go_num, ⟨_, _, _, rfl⟩, ?_, ?_⟩
            · have hkA : Kept w3 (wr.alloc (.cells #[.pointer (some ⟨s.d, 0, none⟩), .int .i64 (s.pl : Int), .slice pa pn pc] 42)) := gtrans HJ.out.1 ((Kept.refl wr).alloc _ _)
              exact ⟨HG9.out.os.trans hkA.1, HG9.out.tape.trans hkA.2.1, HG9.out.output.trans hkA.2.2.1, Nat.le_trans hkA.size HG9.out.size, fun q hq => (HG9.out.block q (Nat.lt_of_lt_of_le hq hkA.size) (fun e => by have := (HJ.out.2.lt q e.symm).1; omega)).trans (hkA.2.2.2.2 q hq)⟩
            · rw [HFK.out]
              exact HO9.out
          case measure => simp [intOf]; omega
        · have hkb : ((X s.d).kind == 1) = false := by simp [hk]
          have HFK : Hid ((L.take (j + 1)).filter (lfS X) = (L.take j).filter (lfS X)) := by
            show _ = _
            rw [HTK.out, List.filter_append, List.filter_cons_of_neg (by simp [lfS, hk])]
            simp
          clear hpv hsm hsQ hk
          go_wp2_with fail
          go_roundw
          case rel => exact ⟨j + 1, by omega, by go_num, ⟨_, _, _, rfl⟩, by rw [HFK.out]; exact HJ.out⟩
          case measure => simp [intOf]; omega
      · have hjj : j = nl := by omega
        subst hjj
        have HJF : Hid (SpOwn wr w3.heap.size (.slice la ln lc) (L.filter (lfS X))) := by
          have h := HJ.out.2
          rw [List.take_of_length_le (by rw [HNL.out]; exact Nat.le_refl _)] at h
          exact h
        have hk13 : Kept w1 wr := gtrans HK3.out HJ.out.1
        have HK13 := hide1 hk13
        have hPl : P.length ≤ 4194304 := by omega
        have HWW : Hid (∀ W, Kept wr W → Calls Try.prog 11 #[.pointer (some ⟨fb, 0, none⟩), .int .i64 (i : Int), .slice va j vc, .bool false, .int .i64 stop] W fun e w' => e = .returned (.bool true) ∧ Kept W w') := fun W hW => by
          have hM := HM.out.keep (gtrans hk13 hW)
          refine walked_w j (fun c => c ∈ P) N W.heap.size b fb i P.length cp gp vc va stop W (forest_of hM HT.out) hbm (Nat.le_refl _) (reads_of hM HT.out (HRD3.out.keep (gtrans HJ.out.1 hW)) HWA.out.1) hiP (grown_cell (gtrans hk13 hW) cP) (by omega) ?_ hPl
          rw [HWA.out.1.len, HNL.out]
        have HWL : Hid (∀ W, Kept wr W → Calls Try.prog 11 #[.pointer (some ⟨fb, 0, none⟩), .int .i64 (i : Int), .slice la ln lc, .bool true, .int .i64 stop] W fun e w' => e = .returned (.bool true) ∧ Kept W w') := fun W hW => by
          have hM := HM.out.keep (gtrans hk13 hW)
          have hfl : (L.filter (lfS X)).length ≤ 4194304 := by
            have h1 := List.length_filter_le (lfS X) L
            rw [HNL.out] at h1
            omega
          have hln : ln = (L.filter (lfS X)).length := by
            obtain ⟨a2, c2, e⟩ := HJF.out.form
            injection e with _ e1 _
          have hwl := Wants.leaves HT.out HWA.out.1
          refine walked_l ln (fun c => c ∈ P) N W.heap.size b fb i P.length cp gp lc la stop W (forest_of hM HT.out) hbm (Nat.le_refl _) (reads_of hM HT.out ((HJF.out.rd hfl).keep hW) hwl) hiP (grown_cell (gtrans hk13 hW) cP) (by omega) ?_ hPl
          rw [hwl.len, hln]
        clear HI HD HRD3 HRF3 HRF HWT HJF cP c3 cQ hk13
        go_wp2_with (first
          | (have _g := HK5; clear _g; go_at_call 11; refine (HWL.out _ HK5.out).mono ?_; rintro e w6 ⟨rfl, hk6⟩; have HK6 := hide1 hk6; clear hk6)
          | (go_at_call 11; refine (HWW.out _ (Kept.refl _)).mono ?_; rintro e w5 ⟨rfl, hk5⟩; have HK5 := hide1 hk5; clear hk5))
        go_ret
        exact ⟨rfl, gtrans (gtrans HK1.out HK13.out) (gtrans HK5.out HK6.out)⟩

end Tr
end Ex
end Go.Proofs.Ytpbnjdnlgcfiiaa
