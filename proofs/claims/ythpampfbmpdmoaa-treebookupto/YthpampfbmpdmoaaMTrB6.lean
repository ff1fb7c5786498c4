import Derived.Test.YthpampfbmpdmoaaTrV4
namespace Go.Proofs.Ythpampfbmpdmoaa
open Go.RowKit
attribute [local go_sem] Oper.semAt_some
namespace Ex
namespace Tr

/-- A path whose block, if it has one, was made from block lo on. -/
def PathF (lo : Nat) (w : World) (v : Value) (p : List Nat) : Prop := PathRd w v p ∧ ∀ g, v.ownBlock = some g → lo ≤ g
theorem PathF.nil (lo : Nat) (w : World) : PathF lo w (.slice none 0 0) [] := ⟨PathRd.nil w, fun _ h => by simp [Value.ownBlock] at h⟩
theorem PathF.keep {lo : Nat} {w w' : World} {v : Value} {p : List Nat} (h : PathF lo w v p) (hk : Kept w w') : PathF lo w' v p := ⟨h.1.keep hk, h.2⟩
theorem PathF.slice {lo : Nat} {w : World} {v : Value} {p : List Nat} (h : PathF lo w v p) : ∃ a n c, v = .slice a n c := h.1.slice
theorem PathF.one {lo : Nat} {w : World} {v : Value} {p : List Nat} (h : PathF lo w v p) : v.oneCell' = true := h.1.one
theorem PathF.less {lo lo' : Nat} {w : World} {v : Value} {p : List Nat} (h : PathF lo w v p) (hl : lo' ≤ lo) : PathF lo' w v p := ⟨h.1, fun g hg => Nat.le_trans hl (h.2 g hg)⟩
theorem PathF.gk {lo : Nat} {w w' : World} {base : Nat} {v pv : Value} {L : List SpM} {p : List Nat} (h : PathF lo w pv p) (hS : SpOwn w base v L) (hk : GK v.ownBlock w w') : PathF lo w' pv p := ⟨h.1.gk hS hk, h.2⟩
def WithF (w : World) (p : List Nat) (e : Ending) (w' : World) : Prop := ∃ v, e = .returned v ∧ PathF w.heap.size w' v p ∧ Kept w w'
set_option linter.unusedSimpArgs false in
set_option maxRecDepth 100000 in
set_option maxHeartbeats 2000000 in
theorem with_isF (p : List Nat) (pv : Value) (n : Nat) (w : World) (hp : PathRd w pv p) (hl : p.length ≤ 4194303) :
    Calls Try.prog 46 #[pv, .int .i64 (n : Int)] w (WithF w (p ++ [n])) := by
  have hfin : ∀ (wA w9 : World) (g9 c9 m : Nat) (q : List Nat) (ov : Option Nat), Kept w wA → IOwn w9 w.heap.size (.slice (some ⟨g9, 0, none⟩) (m + 1) c9) (q ++ [n]) → q = p → (∀ g, ov = some g → w.heap.size ≤ g) → (wA.alloc (.cells #[.int .i64 (n : Int)] 3)).grownBy w9 ov → WithF w (p ++ [n]) (.returned (.slice (some ⟨g9, 0, none⟩) (m + 1) c9)) w9 := by
    intro wA w9 g9 c9 m q ov hk ho hq hov hg
    subst hq
    refine ⟨_, rfl, ⟨ho.path (by rw [List.length_append]; exact Nat.succ_le_succ hl), fun g hg => (World.ownsRow.lt ho g hg).1⟩, ?_⟩
    have hkA : Kept w (wA.alloc (.cells #[.int .i64 (n : Int)] 3)) := gtrans hk ((Kept.refl wA).alloc _ _)
    refine ⟨hg.os.trans hkA.1, hg.tape.trans hkA.2.1, hg.output.trans hkA.2.2.1, Nat.le_trans hkA.size hg.size, fun k hk' => (hg.block k (Nat.lt_of_lt_of_le hk' hkA.size) (fun e => ?_)).trans (hkA.2.2.2.2 k hk')⟩
    have := hov k e.symm
    omega
  rcases hp.form with ⟨rfl, rfl⟩ | ⟨g, cap, rfl⟩
  · have HFIN := hide1 hfin
    clear hfin hp
    go_enter Try.func46, Try.ntmps46
    go_upto_region 3 with fail
    go_wp2_with (at_builtin; go_must (refine wpl_int rfl _ _ rfl _ w.heap.size _ [] 0 rfl (by rfl) (World.ownsRow_nil _ _ _ _) w.heap.size n (by rfl) (World.alloc_heap_new w _) (by simp) (by exact alloc_le w _) ?_; intro g9 c9 w9 ho9 hg9 hor9 hl9; have HO9 := hide1 ho9; have HG9 := hide1 hg9; clear ho9 hg9 hor9 hl9))
    go_ret
    exact HFIN.out w w9 g9 c9 0 [] none (Kept.refl w) HO9.out rfl (fun _ h => by cases h) HG9.out
  · obtain ⟨_, h1, h2, h3⟩ := hp.cells
    obtain ⟨m, hm⟩ : ∃ m, p.length = m := ⟨_, rfl⟩
    have HM := hide1 hm
    have H3 := hide1 h3
    have HFIN := hide1 hfin
    rw [hm] at h1 h2 hl ⊢
    have hmI : (m : Int) ≤ 4194303 := by omega
    have hcI : (m : Int) ≤ (cap : Int) := by omega
    clear hp hm h3 hfin
    go_enter Try.func46, Try.ntmps46
    rcases Nat.eq_zero_or_pos m with h0 | h0
    · subst h0
      have hp0 : p = [] := List.length_eq_zero_iff.1 HM.out
      subst hp0
      go_upto_region 3 with fail
      go_wp2_with (at_builtin; go_must (refine wpl_int rfl _ _ rfl _ w.heap.size _ [] 0 rfl (by rfl) (World.ownsRow_nil _ _ _ _) w.heap.size n (by rfl) (World.alloc_heap_new w _) (by simp) (by exact alloc_le w _) ?_; intro g9 c9 w9 ho9 hg9 hor9 hl9; have HO9 := hide1 ho9; have HG9 := hide1 hg9; clear ho9 hg9 hor9 hl9))
      go_ret
      exact HFIN.out w w9 g9 c9 0 [] none (Kept.refl w) HO9.out rfl (fun _ h => by cases h) HG9.out
    · go_upto_region 3 with (at_builtin; go_must (refine wpl_path rfl _ _ rfl _ p m HM.out (by rfl) g cap (by rfl) H3.out h0 (by omega) ?_; intro g8 c8 w8 ho8 hk8; have HO8 := hide1 ho8; have HK8 := hide1 hk8; clear ho8 hk8))
      go_wp2_with (at_builtin; go_must (refine wpl_int rfl _ _ rfl _ w.heap.size _ p m HM.out (by rfl) (owns_same (w' := w8.alloc (.cells #[.int .i64 (n : Int)] 3)) HO8.out (fun d hd => heap_alloc_old w8 _ (HO8.out.lt d hd).2)) w8.heap.size n (by rfl) (World.alloc_heap_new w8 _) (by rw [HM.out]; omega) (by exact Nat.le_trans HK8.out.size (alloc_le w8 _)) ?_; intro g9 c9 w9 ho9 hg9 hor9 hl9; have HO9 := hide1 ho9; have HG9 := hide1 hg9; clear ho9 hg9 hor9 hl9))
      go_ret
      exact HFIN.out w8 w9 g9 c9 m p _ HK8.out HO9.out rfl (fun d h => (HO8.out.lt d h).1) HG9.out

end Tr
end Ex
end Go.Proofs.Ythpampfbmpdmoaa
namespace Go.Proofs.Ythpampfbmpdmoaa
open Go.RowKit
attribute [local go_sem] Oper.semAt_some
namespace Ex
namespace Tr

/-- What walk tells. -/
def WkF (lo base : Nat) (v : Value) (L : List SpM) (ks : List (Nat × Nat × List Nat)) (w : World) (v' : Value) (w' : World) : Prop :=
  ∃ L', SpOwn w' base v' (L ++ L') ∧ L'.map keyS = ks ∧ (∀ s ∈ L', PathF lo w' s.pv s.path) ∧ GK v.ownBlock w w' ∧ OwnRel v.ownBlock w.heap.size v'
theorem WkF.slice {lo base : Nat} {v v' : Value} {L : List SpM} {ks : List (Nat × Nat × List Nat)} {w w' : World} (h : WkF lo base v L ks w v' w') : ∃ a c, v' = .slice a (L.length + ks.length) c := by
  obtain ⟨L', h1, h2, _⟩ := h
  obtain ⟨a, c, e⟩ := h1.form
  refine ⟨a, c, ?_⟩
  rw [e, ← h2, List.length_append, List.length_map]
theorem WkF.keep {lo base : Nat} {v v' : Value} {L : List SpM} {ks : List (Nat × Nat × List Nat)} {w w' w'' : World} (h : WkF lo base v L ks w v' w') (hk : Kept w' w'') : WkF lo base v L ks w v' w'' := by
  obtain ⟨L', h1, h2, h3, h4, h5⟩ := h
  exact ⟨L', owns_same h1 (fun d hd => hk.2.2.2.2 d (h1.lt d hd).2), h2, fun s hs => (h3 s hs).keep hk, h4.trans (v' := v') h5 (hk.gk _), h5⟩
/-- One call more. -/
theorem WkF.next {lo base : Nat} {v v1 v2 : Value} {L L1 : List SpM} {ks ks1 ks2 : List (Nat × Nat × List Nat)} {w w1 w2 w3 : World} (h1 : SpOwn w1 base v1 (L ++ L1)) (h2 : L1.map keyS = ks1) (h3 : ∀ s ∈ L1, PathF lo w1 s.pv s.path) (h4 : GK v.ownBlock w w1) (h5 : OwnRel v.ownBlock w.heap.size v1)
    (hk : Kept w1 w2) (h : WkF lo base v1 (L ++ L1) ks2 w2 v2 w3) (hks : ks = ks1 ++ ks2) : WkF lo base v L ks w v2 w3 := by
  obtain ⟨L2, g1, g2, g3, g4, g5⟩ := h
  have h1' : SpOwn w2 base v1 (L ++ L1) := owns_same h1 (fun d hd => hk.2.2.2.2 d (h1.lt d hd).2)
  refine ⟨L1 ++ L2, by rw [← List.append_assoc]; exact g1, by rw [List.map_append, h2, g2, hks], fun s hs => ?_, ?_, ?_⟩
  · rcases List.mem_append.1 hs with hs | hs
    · exact ((h3 s hs).keep hk).gk h1' g4
    · exact g3 s hs
  · exact h4.trans h5 (GK.trans (hk.gk v1.ownBlock) (Or.inl rfl) g4)
  · exact h5.trans (v := v1) (v' := v2) g5 (Nat.le_trans h4.2.2.2.1 hk.size)

set_option linter.unusedSimpArgs false in
set_option maxRecDepth 100000 in
set_option maxHeartbeats 4000000 in
theorem walkF_is {R : Nat → Prop} {X : Nat → Rd} {wd : Nat → Nat} {B : Nat} (lo base : Nat) (hB : B ≤ base) (hlo : lo ≤ base) : ∀ (z d pl : Nat) (p : List Nat) (pv v : Value) (L : List SpM) (w : World), RFor R X wd B w → R d → (X d).size ≤ z → SpOwn w base v L → base ≤ w.heap.size → PathF lo w pv p → p.length + (X d).size ≤ 4194304 → L.length + (X d).size ≤ 4194304 → pl + wd d ≤ 2305843009213693952 →
    Calls Try.prog 65 #[v, .pointer (some ⟨d, 0, none⟩), .int .i64 (pl : Int), pv] w fun e w' => ∃ v', e = .returned v' ∧ WkF lo base v L (wk X wd (szK X [(d, pl, p)]) [(d, pl, p)]) w v' w' := by
  intro z
  induction z with
  | zero =>
    intro d pl p pv v L w hF hd hz
    have := (hF d hd).2.2.1
    omega
  | succ z ih =>
    intro d pl p pv v L w hF hd hz hS hbw hp hpl hLl hat
    obtain ⟨hI0, hK, hsz, hLf, hN, hW, hZ⟩ := hF d hd
    have hI : RIs w d (X d) := ⟨0, B, hI0⟩
    have hd0 : d < B := hI0.2.1
    obtain ⟨_, _, _, _, _, a, cap, c8, hkl, hkc⟩ := hI.more
    have hkB : ∀ (i k : Nat), (X d).kids[i]? = some k → ∃ g, a = some ⟨g, 0, none⟩ ∧ g < B ∧ w.cell? ⟨g, i, none⟩ = some (.pointer (some ⟨k, 0, none⟩)) := by
      intro i k hi
      obtain ⟨g, e, hc⟩ := hkc i k hi
      obtain ⟨_, _, kv, h1, a', cap', h2, h3, h4⟩ := hI0
      have e8 : w.cell? ⟨d, 8, none⟩ = some kv := by simp [World.cell?, h1, cellsR]
      rw [c8] at e8
      injection e8 with e8
      rw [h2] at e8
      injection e8 with e8 _ _
      rcases h4 with h4 | ⟨g', e', _, h5, _⟩
      · rw [h4] at hi
        simp at hi
      · rw [e'] at e8
        rw [e] at e8
        injection e8 with e8
        injection e8 with e8
        subst e8
        exact ⟨g, e, h5, hc⟩
    obtain ⟨pa, pn, pc, rfl⟩ := hp.slice
    obtain ⟨va, vc, hv⟩ := hS.form
    obtain ⟨m, hm⟩ : ∃ m, L.length = m := ⟨_, rfl⟩
    rw [hm] at hv hLl
    subst hv
    have HF := hide1 hF
    have HIH := hide1 ih
    have HL0 : Hid (lo ≤ w.heap.size) := Nat.le_trans hlo hbw
    have HK := hide1 hK
    have HKC := hide1 hkB
    have HSZ := hide1 hsz
    have HS := hide1 hS
    have HP := hide1 hp
    have HM := hide1 hm
    have HD := hide1 hd
    have HZ := hide1 hz
    have HWD : Hid (sumF wd (X d).kids ≤ wd d) := by
      show _ ≤ _
      by_cases hk : (X d).kind = 1
      · rw [(hLf hk).2]
        simp [sumF]
      · rw [hN hk]
        exact Nat.le_refl _
    obtain ⟨n, hn⟩ : ∃ n, (X d).kids.length = n := ⟨_, rfl⟩
    rw [hn] at c8 hkl
    have HN := hide1 hn
    have hnI : (n : Int) ≤ 4194304 := by omega
    obtain ⟨KS, hKS⟩ : ∃ KS, kidsK wd (X d).kids 0 pl p = KS := ⟨_, rfl⟩
    have HKS := hide1 hKS
    have HKR : Hid (∀ q ∈ KS, R q.1) := by
      show ∀ q ∈ KS, R q.1
      rw [← hKS]
      exact kidsK_R (q := (d, pl, p)) hF hd
    have HKL : Hid (KS.length = n) := by
      show _ = _
      rw [← hKS, kidsK_len, hn]
    have HKZ : Hid (∀ j, szK X (KS.take j) ≤ sizeR X (X d).kids ∧ szK X (KS.take j) = sizeR X ((X d).kids.take j)) := by
      intro j
      have e : (KS.take j).map Prod.fst = (X d).kids.take j := by rw [List.map_take, ← hKS, kidsK_fst]
      have e2 : szK X (KS.take j) = sizeR X ((X d).kids.take j) := by unfold szK; rw [e]
      exact ⟨by rw [e2]; exact sizeR_part X _ j, e2⟩
    have HWK : Hid (wk X wd (szK X [(d, pl, p)]) [(d, pl, p)] = (d, pl, p) :: wk X wd (szK X KS) KS) := by
      show _ = _
      rw [wk_step hF (q := (d, pl, p)) hd, List.append_nil]
      show _ :: wk X wd (szK X (kidsK wd (X d).kids 0 pl p)) (kidsK wd (X d).kids 0 pl p) = _
      rw [hKS]
    rw [HWK.out]
    clear hF ih hK hkc hI hI0 hS hp hm hLf hN hsz hd hz hn hkB hKS
    go_enter Try.func65, Try.ntmps65
    go_wp2_with (at_builtin; go_must (refine wpl_spot rfl _ _ rfl _ base _ L m HM.out (by rfl) (owns_same (w' := w.alloc (.cells #[.pointer (some ⟨d, 0, none⟩), .int .i64 (pl : Int), .slice pa pn pc] 48)) HS.out (fun q hq => heap_alloc_old w _ (HS.out.lt q hq).2)) w.heap.size ⟨d, pl, p, .slice pa pn pc⟩ HP.out.one (by rfl) (World.alloc_heap_new w _) (by rw [HM.out]; omega) (by exact Nat.le_trans hbw (alloc_le w _)) ?_; intro g9 c9 w9 ho9 hg9 hor9 hl9; have HO9 := hide1 ho9; have HG9 := hide1 hg9; have HR9 := hide1 hor9; clear ho9 hg9 hor9 hl9))
    have HI0 : Hid (WkF lo base (.slice va m vc) L ((d, pl, p) :: wk X wd (szK X (KS.take 0)) (KS.take 0)) w (.slice (some ⟨g9, 0, none⟩) (m + 1) c9) w9) := by
      have hg := HG9.out
      have hkA : Kept w (w.alloc (.cells #[.pointer (some ⟨d, 0, none⟩), .int .i64 (pl : Int), .slice pa pn pc] 48)) := (Kept.refl w).alloc _ _
      have hgk : GK (Value.slice va m vc).ownBlock w w9 := ⟨hg.os.trans hkA.1, hg.tape.trans hkA.2.1, hg.output.trans hkA.2.2.1, Nat.le_trans hkA.size hg.size, fun k hk hne => (hg.block k (Nat.lt_of_lt_of_le hk hkA.size) (fun e => hne e.symm)).trans (hkA.2.2.2.2 k hk)⟩
      refine ⟨[⟨d, pl, p, .slice pa pn pc⟩], HO9.out, by simp [keyS, szK, sizeR, wk], fun s hs => ?_, hgk, ?_⟩
      · rw [List.mem_singleton.1 hs]
        exact HP.out.gk HS.out hgk
      · rcases HR9.out with h | h
        · exact Or.inl h.symm
        · exact Or.inr ⟨g9, rfl, by rw [h]; exact hkA.size⟩
    clear HO9 HG9 HR9
    go_loopw [0, 2, 9] (fun vl va' vi wr => ∃ j : Nat, j ≤ n ∧ vi = .int .i64 (j : Int) ∧ va' = .int .i64 ((pl + sumF wd ((X d).kids.take j) : Nat) : Int) ∧ (∃ la ln lc, vl = .slice la ln lc) ∧ Hid (WkF lo base (.slice va m vc) L ((d, pl, p) :: wk X wd (szK X (KS.take j)) (KS.take j)) w vl wr)) (fun _ _ vi _ => n - (intOf vi).toNat)
    case atStart => exact ⟨0, Nat.zero_le _, rfl, by simp [sumF], ⟨_, _, _, rfl⟩, HI0⟩
    case round =>
      obtain ⟨j, hj, rfl, rfl, ⟨la, ln, lc, rfl⟩, HI⟩ := hrel
      clear HI0
      have HKB : Hid (KB B w wr) := by
        obtain ⟨_, _, _, _, hgk, _⟩ := HI.out
        exact hgk.kb hB (Nat.le_trans hB hbw) (fun g hg => (HS.out.lt g hg).1)
      have d8 := keepsKB hd0 c8 wr HKB.out
      by_cases hlt : j < n
      · obtain ⟨k, hkj⟩ : ∃ k, (X d).kids[j]? = some k := ⟨_, List.getElem?_eq_getElem (by have := HN.out; omega)⟩
        obtain ⟨g, rfl, hgB, t0⟩ := HKC.out j k hkj
        have t1 := keepsKB hgB t0 wr HKB.out
        have HT := hide1 (sumF_take (f := wd) hkj)
        have HPT := hide1 (sumF_part wd (X d).kids (j + 1))
        have hkm := List.mem_of_getElem? hkj
        have HRk := hide1 (HK.out k hkm)
        have hszk := sizeR_mem (X := X) hkm
        have HQ : Hid (KS.take (j + 1) = KS.take j ++ [(k, pl + sumF wd ((X d).kids.take j), p ++ [j])]) := by
          show _ = _
          have h1 := kidsK_at wd (X d).kids 0 pl p j k hkj
          rw [HKS.out, Nat.zero_add] at h1
          rw [List.take_add_one, h1]
          rfl
        have HSJ : Hid (szK X (KS.take j) + (X k).size ≤ sizeR X (X d).kids) := by
          show _ ≤ _
          have h1 := (HKZ.out (j + 1)).1
          rw [HQ.out, szK_app] at h1
          have e : szK X [(k, pl + sumF wd ((X d).kids.take j), p ++ [j])] = (X k).size := by simp [szK, sizeR]
          rw [e] at h1
          exact h1
        have hsd := HSZ.out
        have hzd := HZ.out
        have hwd := HWD.out
        obtain ⟨S0, hS0⟩ : ∃ S0, sumF wd ((X d).kids.take j) = S0 := ⟨_, rfl⟩
        obtain ⟨z1, hz1⟩ : ∃ z1, wd k = z1 := ⟨_, rfl⟩
        have hpt := HPT.out
        rw [HT.out, hS0, hz1] at hpt
        rw [hS0, hz1] at HT
        rw [hS0] at HQ
        rw [hS0]
        obtain ⟨T0, hT0⟩ : ∃ T0, pl + S0 = T0 := ⟨_, rfl⟩
        rw [hT0]
        have hjI : (j : Int) < (n : Int) := by omega
        have hSI : (T0 : Int) + (z1 : Int) ≤ 2305843009213693952 := by omega
        have HWITH : Hid (∀ W, Kept wr W → Calls Try.prog 46 #[.slice pa pn pc, .int .i64 (j : Int)] W (WithF W (p ++ [j]))) := fun W hW => by
          obtain ⟨_, _, _, _, hgk, _⟩ := HI.out
          exact with_isF p _ j W ((HP.out.gk HS.out hgk).keep hW).1 (by omega)
        have HWALK : Hid (∀ W v, Kept wr W → PathF lo W v (p ++ [j]) → Calls Try.prog 65 #[.slice la ln lc, .pointer (some ⟨k, 0, none⟩), .int .i64 (T0 : Int), v] W fun e w' => ∃ v', e = .returned v' ∧ WkF lo base (.slice va m vc) L ((d, pl, p) :: wk X wd (szK X (KS.take (j + 1))) (KS.take (j + 1))) w v' w' ∧ KB B wr w') := fun W v hW hv => by
          obtain ⟨L1, g1, g2, g3, g4, g5⟩ := HI.out
          have g1' : SpOwn W base (.slice la ln lc) (L ++ L1) := owns_same g1 (fun q hq => hW.2.2.2.2 q (g1.lt q hq).2)
          have hFW : RFor R X wd B W := (HF.out.kb HKB.out).kb ⟨hW.size, fun q hq => hW.2.2.2.2 q (by have := HKB.out.1; omega)⟩
          have hl1 : L1.length = 1 + szK X (KS.take j) := by
            have h1 := congrArg List.length g2
            rw [List.length_map, List.length_cons, wk_len HF.out _ _ (fun q hq => HKR.out q (List.mem_of_mem_take hq)) rfl] at h1
            omega
          have hsj := HSJ.out
          refine (HIH.out k T0 (p ++ [j]) v (.slice la ln lc) (L ++ L1) W hFW HRk.out (by omega) g1' (by have := hW.size; have := g4.2.2.2.1; omega) hv (by rw [List.length_append, List.length_singleton]; omega) (by rw [List.length_append, hl1, HM.out]; omega) (by rw [hz1]; omega)).mono ?_
          rintro e w' ⟨v', rfl, h⟩
          have hkb : KB B wr w' := by
            obtain ⟨_, _, _, _, q4, _⟩ := h
            have q5 := q4.kb hB (by have := hW.size; have := g4.2.2.2.1; omega) (fun g hg => (g1.lt g hg).1)
            exact ⟨Nat.le_trans hW.size q5.1, fun q hq => (q5.2 q hq).trans (hW.2.2.2.2 q (by have := HKB.out.1; omega))⟩
          refine ⟨v', rfl, WkF.next g1 g2 g3 g4 g5 hW h ?_, hkb⟩
          rw [HQ.out, wk_app HF.out _ _ _ rfl (fun q hq => HKR.out q (List.mem_of_mem_take hq)), hT0]
          rfl
        have HWID : Hid (∀ W, KB B wr W → Calls Try.prog 52 #[.pointer (some ⟨k, 0, none⟩)] W fun e w' => e = .returned (.int .i64 (z1 : Int)) ∧ ∃ m, w' = W.drewN m) := fun W hW => by
          rw [← hz1]
          exact rwidth_is _ k W ((HF.out.kb HKB.out).kb hW) HRk.out (Nat.le_refl _)
        have HLO : Hid (lo ≤ wr.heap.size) := Nat.le_trans HL0.out HKB.out.1
        have q8 := keepsKB hd0 d8
        have q1 := keepsKB hgB t1
        have HT0 := hide1 hT0
        clear hkj hS0 hz1 hpt hkm hszk hsd hzd hwd t0 HI hT0
        go_upto_region 5 with fail
        go_region_held3 (fun W => KB B wr W) (first | assumption | exact KB.selfD _ _ | exact KB.self _ _ | exact KB.drewR (by assumption))
          ((first
          | (go_at_call 46; refine (HWITH.out _ (by first | exact Kept.refl _ | exact drew_kept _)).mono ?_; rintro e w10 ⟨v10, rfl, hpf10, hk10⟩; have hp10 : PathF lo w10 v10 (p ++ [j]) := hpf10.less HLO.out; obtain ⟨qa, qn, qc, rfl⟩ := hp10.slice; have kk10 : Kept wr w10 := gtrans (by first | exact Kept.refl _ | exact drew_kept _) hk10; have k10 : KB B wr w10 := ⟨kk10.size, fun q hq => kk10.2.2.2.2 q (by have := HKB.out.1; omega)⟩)
          | (go_at_call 65; refine (HWALK.out _ _ (by first | exact kk10 | exact gtrans kk10 (drew_kept _)) (by first | exact hp10 | exact hp10.keep (drew_kept _))).mono ?_; rintro e w11 ⟨v11, rfl, hw11, k11⟩; obtain ⟨xa, xc, hx11⟩ := hw11.slice; obtain ⟨xn, hxn⟩ : ∃ xn, xn = L.length + ((d, pl, p) :: wk X wd (szK X (KS.take (j + 1))) (KS.take (j + 1))).length := ⟨_, rfl⟩; rw [← hxn] at hx11; clear hxn; subst hx11)))
        have HW11 := hide1 hw11
        have HK11 := hide1 k11
        have r8 := q8 w11 k11
        have r1 := q1 w11 k11
        clear hw11 k11 k10 kk10 hp10 hk10 q8 q1 d8 t1
        go_wp2_with (go_at_call 52; refine (HWID.out _ HK11.out).mono ?_; rintro e w12 ⟨rfl, hw12⟩; have HW12 := hide1 hw12; clear hw12)
        go_roundw
        case rel =>
          refine ⟨j + 1, by omega, by go_num, ?_, ⟨_, _, _, rfl⟩, ?_⟩
          · rw [HT.out, ← Nat.add_assoc, HT0.out]
            go_num
          · obtain ⟨mm, rfl⟩ := HW12.out
            exact HW11.out.keep (drewN_kept _ _)
        case measure => simp [intOf]; omega
      · have hjj : j = n := by omega
        subst hjj
        go_wp2_with fail
        go_ret
        refine ⟨_, rfl, ?_⟩
        have h := HI.out
        have e : KS.take j = KS := List.take_of_length_le (by rw [HKL.out]; exact Nat.le_refl _)
        rw [e] at h
        exact h

theorem gk_kept {w w' : World} (h : GK none w w') : Kept w w' := ⟨h.1, h.2.1, h.2.2.1, h.2.2.2.1, fun k hk => h.2.2.2.2 k hk (by simp)⟩
section
set_option linter.unusedSimpArgs false
set_option maxRecDepth 100000
theorem walkTF_is {R : Nat → Prop} {X : Nat → Rd} {wd : Nat → Nat} {B : Nat} (d : Nat) (w : World) (hF : RFor R X wd B w) (hd : R d) (hB : B ≤ w.heap.size) (hz : (X d).size ≤ 4194304) (hw : wd d ≤ 2305843009213693952) :
    Calls Try.prog 51 #[.pointer (some ⟨d, 0, none⟩)] w fun e w' => ∃ v L, e = .returned v ∧ SpOwn w' w.heap.size v L ∧ L.map keyS = wk X wd (szK X [(d, 0, [])]) [(d, 0, [])] ∧ (∀ s ∈ L, PathF w.heap.size w' s.pv s.path) ∧ Kept w w' := by
  have HC := hide1 (walkF_is (R := R) (X := X) (wd := wd) w.heap.size w.heap.size hB (Nat.le_refl _) (X d).size d 0 [] (.slice none 0 0) (.slice none 0 0) [] w hF hd (Nat.le_refl _) (World.ownsRow_nil _ _ _ _) (Nat.le_refl _) (PathF.nil _ w) (by simpa using hz) (by simpa using hz) (by omega))
  clear hF hd hB hz hw
  go_enter Try.func51, Try.ntmps51
  go_wp2_with (go_at_call 65; refine HC.out.mono ?_; rintro e w1 ⟨v1, rfl, h1⟩; have H1 := hide1 h1; clear h1)
  go_ret
  obtain ⟨L, h1, h2, h3, h4, h5⟩ := H1.out
  exact ⟨v1, L, rfl, h1, h2, h3, gk_kept h4⟩
end

end Tr
end Ex
end Go.Proofs.Ythpampfbmpdmoaa
