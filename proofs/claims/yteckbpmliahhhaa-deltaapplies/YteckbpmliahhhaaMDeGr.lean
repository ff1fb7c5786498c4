import Derived.Test.YteckbpmliahhhaaMDeGv
namespace Go.Proofs.Yteckbpmliahhhaa
open Go.RowKit
attribute [local go_sem] Oper.semAt_some
namespace Ex
namespace Tr

set_option linter.unusedSimpArgs false in
set_option maxRecDepth 100000 in
set_option maxHeartbeats 4000000 in
theorem grove_is (v : Value) (l : List PtM) (w : World) (hv : PartsIn w v l) :
    Calls Try.prog 4 #[v] w (GroveOut w) := by
  obtain ⟨m, hm⟩ : ∃ m, l.length = m := ⟨_, rfl⟩
  obtain ⟨va, vc, rfl, hcap, hlen⟩ : ∃ a c, v = .slice a m c ∧ m ≤ c ∧ m ≤ 17592186044416 := by
    obtain ⟨a, c, h1, h2, h3, _⟩ := hv
    rw [hm] at h1 h2 h3
    exact ⟨a, c, h1, h2, h3⟩
  have HV := hide1 hv
  have HM := hide1 hm
  have hmI : (m : Int) ≤ 17592186044416 := by omega
  have hcI : (m : Int) ≤ (vc : Int) := by omega
  clear hv hm hcap hlen
  go_enter Try.func4, Try.ntmps4
  go_upto_region 2 with (go_at_call 10; refine (new_is _).mono ?_; rintro e w1 ⟨rfl, hk1, hs1⟩; have HK1 := hide1 hk1; have HS1 := hide1 hs1; clear hk1 hs1)
  obtain ⟨s, hs⟩ : ∃ s, w.heap.size = s := ⟨_, rfl⟩
  obtain ⟨gb, hgb⟩ : ∃ gb, w1.heap.size = gb := ⟨_, rfl⟩
  rw [hs] at HS1
  obtain ⟨w2, hw2⟩ : ∃ w2, w1.alloc (.cells #[.pointer (some ⟨s, 0, none⟩), .slice none 0 0, .slice none 0 0] 32) = w2 := ⟨_, rfl⟩
  have hk2 : Kept w1 w2 := by rw [← hw2]; exact (Kept.refl w1).alloc _ _
  have hb2 : w2.heap[gb]? = some (.cells #[.pointer (some ⟨s, 0, none⟩), .slice none 0 0, .slice none 0 0] 32 (0, 0)) := by rw [← hw2, ← hgb]; exact World.alloc_heap_new w1 _
  have c0 : w2.cell? ⟨gb, 0, none⟩ = some (.pointer (some ⟨s, 0, none⟩)) := by simp [World.cell?, hb2]
  rw [hs, hgb, hw2]
  have hz2 : gb + 1 = w2.heap.size := by rw [← hw2, ← hgb]; simp
  have hsl := HS1.out.lt
  have HS2 := hide1 (HS1.out.keep hk2)
  have HB2 := hide1 hb2
  have HK2 := hide1 (gtrans HK1.out hk2)
  have hsg : s < gb := by omega
  have HS := hide1 hs
  clear hw2 hgb hb2 hk2 hs hsl HS1 HK1
  go_wp2_with (go_at_call 11; refine (headD_is _).mono ?_; rintro e w3 ⟨rfl, hk3⟩; have HK3 := hide1 hk3; clear hk3)
  have HI3 : Hid (GrI (gb + 1) gb s 0 w3 ∧ Kept w w3) := ⟨gr_start HK3.out HB2.out HS2.out (by omega) (by omega) (by omega) (by rw [hz2]; exact HK3.out.size), gtrans HK2.out HK3.out⟩
  have hgw : w.heap.size ≤ gb := by have := HS.out; omega
  obtain ⟨base, hbase⟩ : ∃ base, gb + 1 = base := ⟨_, rfl⟩
  rw [hbase] at HI3
  have HBA := hide1 hbase
  clear hz2 HS2 HB2 HK2 HK3 c0 hbase
  go_loopw [5] (fun v5 wr => ∃ i : Nat, i ≤ m ∧ i ≤ 200 ∧ v5 = .int .i64 (i : Int) ∧ Hid (GrI base gb s i wr ∧ Kept w wr)) (fun v5 _ => 200 - (intOf v5).toNat)
  case atStart => exact ⟨0, Nat.zero_le _, Nat.zero_le _, rfl, HI3⟩
  case round =>
    obtain ⟨i, him, hi2, rfl, hI⟩ := hrel
    by_cases hgo : i < m ∧ i < 200
    · obtain ⟨hm1, hm2⟩ := hgo
      obtain ⟨x, hx⟩ : ∃ x, l[i]? = some x := ⟨_, List.getElem?_eq_getElem (by rw [HM.out]; exact hm1)⟩
      obtain ⟨hxs, g, o, rfl, r0, r1, r2, r3, r4, r5, r6⟩ := (HV.out.keep hI.out.2).at' hx
      obtain ⟨kd, n, l0, l1, l2, l3, kv, xs⟩ := x
      dsimp only at hxs r0 r1 r2 r3 r4 r5 r6
      obtain ⟨kn, hkn⟩ : ∃ kn, xs.length = kn := ⟨_, rfl⟩
      obtain ⟨ka, kc, rfl, hkc, hkl⟩ := hxs.form
      rw [hkn] at hkc hkl hxs r6
      have HXS := hide1 hxs
      have HKN := hide1 hkn
      have HI := hide1 hI.out
      have hm1I : (i : Int) < (m : Int) := by omega
      have hm2I : (i : Int) < 200 := by omega
      clear hI hx hxs hkn
      obtain ⟨V, P, Q, N, X, vN, vP, hMR, hTR, hPi⟩ := HI.out.1
      obtain ⟨pn, hpn⟩ : ∃ pn, P.length = pn := ⟨_, rfl⟩
      have hqn : Q.length = pn := by rw [← hTR.1]; exact hpn
      obtain ⟨aN, cN, rfl⟩ : ∃ a c, vN = .slice a pn c := by rw [← hpn]; exact hMR.nl.form
      obtain ⟨aP, cP, rfl⟩ : ∃ a c, vP = .slice a pn c := by rw [← hqn]; exact hMR.pl.form
      rw [hpn] at hMR hPi
      have HMR := hide1 hMR
      have HTR := hide1 hTR
      have HPN := hide1 hpn
      have HQN := hide1 hqn
      have hpnI : (pn : Int) ≤ 200 := by omega
      have HWW : Hid (w.heap.size ≤ gb ∧ w.heap.size ≤ base) := ⟨hgw, by have := HBA.out; omega⟩
      clear hMR hTR hpn hqn
      by_cases hkd1 : kd = 1
      · skip
        as_aux_lemma =>
          subst hkd1
          go_upto_region 9 with fail
          obtain ⟨xb, hxb⟩ : ∃ xb, wr.heap.size = xb := ⟨_, rfl⟩
          obtain ⟨wx, hwx⟩ : ∃ wx, wr.alloc (.cells #[.int .i64 1, .int .i64 n, .int .i64 l0, .int .i64 l1, .int .i64 l2, .int .i64 l3, .slice ka kn kc] 53) = wx := ⟨_, rfl⟩
          have hkX : Kept wr wx := by rw [← hwx]; exact (Kept.refl wr).alloc _ _
          have hXB : wx.heap[xb]? = some (.cells #[.int .i64 1, .int .i64 n, .int .i64 l0, .int .i64 l1, .int .i64 l2, .int .i64 l3, .slice ka kn kc] 53 (0, 0)) := by rw [← hwx, ← hxb]; exact World.alloc_heap_new wr _
          have HMX := hide1 (HMR.out.keep hkX)
          have hgX := HMX.out.box
          have hlo := HMR.out.lo
          have hxs : xb ≠ s := by omega
          have hgs : gb ≠ s := by omega
          have q0 := keepsB hgs (show wx.cell? ⟨gb, 0, none⟩ = some (.pointer (some ⟨s, 0, none⟩)) by simp [World.cell?, hgX])
          have q2 := keepsB hxs (show wx.cell? ⟨xb, 2, none⟩ = some (.int .i64 l0) by simp [World.cell?, hXB])
          have q3 := keepsB hxs (show wx.cell? ⟨xb, 3, none⟩ = some (.int .i64 l1) by simp [World.cell?, hXB])
          have q4 := keepsB hxs (show wx.cell? ⟨xb, 4, none⟩ = some (.int .i64 l2) by simp [World.cell?, hXB])
          have q5 := keepsB hxs (show wx.cell? ⟨xb, 5, none⟩ = some (.int .i64 l3) by simp [World.cell?, hXB])
          have HKX := hide1 (gtrans HI.out.2 hkX)
          obtain ⟨hw, hhw⟩ : ∃ hw, wx.heap.size = hw := ⟨_, rfl⟩
          have HU := hide1 (HMX.out.under)
          rw [hhw] at HU
          have HBW : Hid (base ≤ hw) := (by rw [← hhw]; exact HMX.out.lo.2.2.2 : base ≤ hw)
          have HHW := hide1 hhw
          have hkr : KeptBut s wx wx := (Kept.refl wx).tbut s
          rw [hwx, hxb]
          clear hwx hxb hkX hXB hgX hlo hhw hxs hgs r0 r1 r2 r3 r4 r5 r6
          go_region_held3 (fun w' => KeptBut s wx w') (first | assumption | exact (Kept.refl _).tbut _ | exact (drew_kept _).tbut _)
            ((go_at_call 12; refine (leaf_is l0 l1 l2 l3 s pn _ (HMX.out.st.keep (by first | exact drew_kept _ | exact Kept.refl _)) (by omega)).mono ?_; rintro e w2 ⟨b, rfl, hb2, hk2, hs2, hn2⟩; have k2 : KeptBut s wx w2 := KeptBut.trans (by assumption) hk2; have hb2' : wx.heap.size ≤ b := Nat.le_trans (show KeptBut s wx _ from by assumption).2.2.2.1 hb2))
          have hs0 : w.heap.size ≤ s := by have := HS.out; omega
          have x2 := q2 w2 k2
          have x3 := q3 w2 k2
          have x4 := q4 w2 k2
          have x5 := q5 w2 k2
          have HM2 := hide1 (HMX.out.but k2 hs2)
          have HN2 := hide1 hn2
          have HB2 := hide1 hb2'
          have HKW2 := hide1 (KeptBut.new HKX.out k2 hs0)
          clear q0 q2 q3 q4 q5 hb2 hk2 hs2 hn2 hb2' k2 hkr
          go_upto_region 13 with (go_at_call 13; refine (oneP_is l0 l1 l2 l3 _).mono ?_; rintro e w3 ⟨d, rfl, hd3, hp3, hk3⟩; have HD3 := hide1 hd3; have HP3 := hide1 hp3; have HK3 := hide1 hk3; clear hd3 hp3 hk3)
          have hdl : d < w3.heap.size := by obtain ⟨_, _, h9, _⟩ := HP3.out; exact (Array.getElem?_eq_some_iff.1 h9).1
          have hb22 := HB2.out
          have hd22 := HD3.out
          have hk33 := HK3.out.size
          rw [HHW.out] at hb22
          have hbl := HN2.out.lt
          obtain ⟨Vb, hVb⟩ : ∃ Vb : Nat → Prop, Vb = (fun k => hw ≤ k ∧ k < w2.heap.size) := ⟨_, rfl⟩
          obtain ⟨Vd, hVd⟩ : ∃ Vd : Nat → Prop, Vd = (fun k => w2.heap.size ≤ k ∧ k < w3.heap.size) := ⟨_, rfl⟩
          obtain ⟨Y, hY⟩ : ∃ Y, leafN s pn l0 l1 l2 l3 = Y := ⟨_, rfl⟩
          obtain ⟨Z, hZ⟩ : ∃ Z : Pn, (⟨0, 1, l0, 1, l0, l1, l2, l3, []⟩ : Pn) = Z := ⟨_, rfl⟩
          obtain ⟨id, hid⟩ : ∃ id : Int, ((pn + 1 : Nat) : Int) = id := ⟨_, rfl⟩
          have HYN : Hid ((Y.num : Int) = id) := (by rw [← hY, ← hid]; rfl : (Y.num : Int) = id)
          have HND : Hid (NdV Vb w3 b Y) := by
            rw [← hY, hVb]
            exact (ndV_of HN2.out hb22 (Or.inr rfl)).kx ⟨hk33, fun k hk => HK3.out.2.2.2.2 k hk.2⟩
          have HPD : Hid (PnV Vd w3 d Z) := by
            rw [← hZ, hVd]
            exact pnV_leaf HP3.out ⟨hd22, hdl⟩ rfl
          have HVB : Hid (∀ k, Vb k → hw ≤ k ∧ k < w3.heap.size) := by rw [hVb]; exact fun k hk => ⟨hk.1, by have := hk.2; omega⟩
          have HVD : Hid (∀ k, Vd k → hw ≤ k ∧ k < w3.heap.size) := by rw [hVd]; exact fun k hk => ⟨by have := hk.1; omega, hk.2⟩
          have HDB : Hid (¬ Vb d) := by rw [hVb]; exact fun h => by have := h.2; omega
          have HTA : Hid (b ∉ P → d ∉ Q → Tw s (P ++ [b]) (Q ++ [d]) (fun k => if k = b then Y else N k) (fun k => if k = d then withId Z id else X k)) := fun h1 h2 => by
            rw [← hY, ← hZ, ← hid]
            refine HTR.out.add h1 h2 (leafN_ok _ _ _ _ _ _) (by simp [leafN]) (by simp [withId, leafN]) (Or.inl ⟨l0, l1, l2, l3, by rw [HPN.out], by rw [HPN.out]; rfl⟩)
          have HM3 := hide1 (HM2.out.keep HK3.out)
          have HKW3 := hide1 (gtrans HKW2.out HK3.out)
          clear hVb hVd hY hZ hid hdl hb22 hd22 hk33 hbl x2 x3 x4 x5 HN2 HP3 HK3 HD3 HB2 HM2 HKW2 HMX HKX hs0

          have hb3 := HM3.out.lo.2.2.2
          have HNUM : Hid (Calls Try.prog 14 #[.pointer (some ⟨b, 0, none⟩)] w3 fun e w' => e = .returned (.int .i64 id) ∧ w' = w3) := by
            have h := number_is (HND.out.at (B := w3.heap.size) (fun k hk => (HVB.out k hk).2))
            rw [HYN.out] at h
            exact h
          obtain ⟨⟨_, qa, qc, hq1, _⟩, _⟩ : PnV Vd w3 d Z ∧ True := ⟨HPD.out, trivial⟩
          have z0 : w3.cell? ⟨d, 0, none⟩ = some (.int .i64 Z.id) := by simp [World.cell?, hq1]
          have z1 : w3.frozen? ⟨d, 0, none⟩ = false := by simp [World.frozen?, hq1]
          clear hq1
          go_upto_region 14 with (go_at_call 14; refine HNUM.out.mono ?_; rintro e w9 ⟨rfl, h9⟩; replace h9 := h9.symm; subst h9)
          obtain ⟨w4, hw4⟩ : ∃ w4, w3.setCell ⟨d, 0, none⟩ (.int .i64 id) = w4 := ⟨_, rfl⟩
          have hs4 : w3.heap.size = w4.heap.size := by rw [← hw4]; simp [World.setCell]
          have hC4 : ∀ k, k ≠ d → w4.heap[k]? = w3.heap[k]? := fun k hk => by rw [← hw4]; exact Below.heap_setCell _ _ _ _ hk
          have hdw := (HVD.out d HPD.out.1).1
          have HM4 := hide1 (HM3.out.below HU.out HBW.out (show KB hw w3 w4 from ⟨by omega, fun k hk => hC4 k (by omega)⟩))
          have HPD4 : Hid (PnV Vd w4 d (withId Z id)) := by rw [← hw4]; exact HPD.out.setId id
          have HND4 : Hid (NdV Vb w4 b Y) := HND.out.kx ⟨by omega, fun k hk => hC4 k (fun e => HDB.out (by rw [← e]; exact hk))⟩
          have HK4 : Hid (Kept w w4) := by rw [← hw4]; exact KeptBut.new HKW3.out (setCell_but _ _ _ _) (by have := HWW.out; have := HBW.out; omega)
          rw [hw4]
          have c1 : w4.cell? ⟨gb, 1, none⟩ = some (.slice aN pn cN) := by simp [World.cell?, HM4.out.box]
          have hgl4 : gb < w4.heap.size := (Array.getElem?_eq_some_iff.1 HM4.out.box).1
          have hbs4 : base ≤ w4.heap.size := HM4.out.lo.2.2.2
          have hgbb : gb < base := HM4.out.lo.1
          have HVB4 : Hid (∀ k, Vb k → hw ≤ k ∧ k < w4.heap.size) := by rw [← hs4]; exact HVB.out
          have HVD4 : Hid (∀ k, Vd k → hw ≤ k ∧ k < w4.heap.size) := by rw [← hs4]; exact HVD.out
          clear hw4 hC4 z0 z1 hs4 HM3 HND HPD HVB HVD HNUM HKW3 hb3
          go_upto_region 15 with (at_builtin; refine wpl_lo (E := ndE) rfl _ _ rfl base (.slice aN pn cN) P pn HPN.out rfl (HM4.out.nl.keep ((Kept.refl w4).alloc _ _)) w4.heap.size b rfl (World.alloc_heap_new w4 _) (by show (pn + 1) * 8 ≤ 140737488355328; omega) (by unfold maxLen; omega) (Nat.le_trans hbs4 (alloc_le w4 _)) ?_; intro g5 c5 w5 ho5 hg5 hor5 hl5; have hx5 : w5.heap[gb]? = some (.cells #[.pointer (some ⟨s, 0, none⟩), .slice aN pn cN, .slice aP pn cP] 32 (0, 0)) := ((hg5.block gb (Nat.lt_of_lt_of_le hgl4 (alloc_le w4 _)) (fun e => by have := (HM4.out.nl.lt' gb e.symm).1; omega)).trans ((heap_alloc_old w4 _ hgl4).trans HM4.out.box)); have y1 : w5.cell? ⟨gb, 1, none⟩ = some (.slice aN pn cN) := (by simp [World.cell?, hx5]); have f1 : w5.frozen? ⟨gb, 1, none⟩ = false := (by simp [World.frozen?, hx5]); have HO5 := hide1 ho5; have HG5 := hide1 hg5; have HOR5 := hide1 hor5; clear ho5 hg5 hor5 hl5 hx5)
          obtain ⟨w6, hw6⟩ : ∃ w6, w5.setCell ⟨gb, 1, none⟩ (.slice (some ⟨g5, 0, none⟩) (pn + 1) c5) = w6 := ⟨_, rfl⟩
          have hbP : b ∉ P := fun h => by have h1 := HU.out.vs b (HM4.out.nd b h).1; have h2 := (HVB4.out b HND4.out.1).1; omega
          have hdQ : d ∉ Q := fun h => by have h1 := HU.out.vs d (HM4.out.pn d h).1; have h2 := (HVD4.out d HPD4.out.1).1; omega
          have hA := gr_addN HM4.out (Vb := Vb) (fun k hk => ⟨by have := (HVB4.out k hk).1; have := HBW.out; omega, (HVB4.out k hk).2, fun e => by have h1 := HU.out.nl k e; have h2 := (HVB4.out k hk).1; omega, fun e => by have h1 := HU.out.pl k e; have h2 := (HVB4.out k hk).1; omega⟩) HND4.out hbP ((Kept.refl w4).alloc _ _) HO5.out HG5.out HOR5.out
          rw [hw6] at hA
          obtain ⟨hM6, hC6, hs6⟩ := hA
          have hz6 : w6.heap.size = w5.heap.size := by rw [← hw6]; simp [World.setCell]
          have HK6 : Hid (Kept w w6) := by rw [← hw6]; exact KeptBut.new (Kept.lob (gtrans HK4.out ((Kept.refl w4).alloc _ _)) (by have := HWW.out; omega) (HM4.out.nl.keep ((Kept.refl w4).alloc _ _)) HG5.out) (setCell_but _ _ _ _) (by have := HWW.out; omega)
          have HPD6 : Hid (PnV Vd w6 d (withId Z id)) := HPD4.out.kx ⟨by omega, fun k hk => hC6 k (HVD4.out k hk).2 (by have h1 := HU.out.gb; have h2 := (HVD4.out k hk).1; omega) (fun e => by have h1 := HU.out.nl k e; have h2 := (HVD4.out k hk).1; omega)⟩
          have hsa : (w4.alloc (.cells #[.pointer (some ⟨b, 0, none⟩)] 43)).heap.size = w4.heap.size + 1 := by simp
          have HVD6 : Hid (∀ k, Vd k → base ≤ k ∧ k < w6.heap.size ∧ (Value.slice (some ⟨g5, 0, none⟩) (pn + 1) c5).ownBlock ≠ some k ∧ (Value.slice aP pn cP).ownBlock ≠ some k) := fun k hk => by
            have h2 := HVD4.out k hk
            have h3 := HBW.out
            refine ⟨by omega, by omega, fun e => ?_, fun e => by have h1 := HU.out.pl k e; omega⟩
            simp only [Value.ownBlock, Option.some.injEq] at e
            subst e
            rcases HOR5.out with h | h
            · have h1 := HU.out.nl g5 h; omega
            · rw [hsa] at h; omega
          have HM6 := hide1 hM6
          have c2 : w6.cell? ⟨gb, 2, none⟩ = some (.slice aP pn cP) := by simp [World.cell?, hM6.box]
          have hgl6 : gb < w6.heap.size := (Array.getElem?_eq_some_iff.1 hM6.box).1
          have hbs6 : base ≤ w6.heap.size := hM6.lo.2.2.2
          rw [hw6]
          have HQ6 := hide1 hdQ
          have HP6 := hide1 hbP
          clear hw6 hM6 hC6 hs6 hz6 hbP hdQ hsa y1 f1 c1 HO5 HG5 HOR5 HM4 HND4 HPD4 HVB4 HVD4 HK4
          go_wp2_with (at_builtin; refine wpl_lo (E := pnE) rfl _ _ rfl base (.slice aP pn cP) Q pn HQN.out rfl (HM6.out.pl.keep ((Kept.refl w6).alloc _ _)) w6.heap.size d rfl (World.alloc_heap_new w6 _) (by show (pn + 1) * 8 ≤ 140737488355328; omega) (by unfold maxLen; omega) (Nat.le_trans hbs6 (alloc_le w6 _)) ?_; intro g7 c7 w7 ho7 hg7 hor7 hl7; have hx7 : w7.heap[gb]? = some (.cells #[.pointer (some ⟨s, 0, none⟩), .slice (some ⟨g5, 0, none⟩) (pn + 1) c5, .slice aP pn cP] 32 (0, 0)) := ((hg7.block gb (Nat.lt_of_lt_of_le hgl6 (alloc_le w6 _)) (fun e => by have := (HM6.out.pl.lt' gb e.symm).1; omega)).trans ((heap_alloc_old w6 _ hgl6).trans HM6.out.box)); have y2 : w7.cell? ⟨gb, 2, none⟩ = some (.slice aP pn cP) := (by simp [World.cell?, hx7]); have f2 : w7.frozen? ⟨gb, 2, none⟩ = false := (by simp [World.frozen?, hx7]); have HO7 := hide1 ho7; have HG7 := hide1 hg7; have HOR7 := hide1 hor7; clear ho7 hg7 hor7 hl7 hx7)
          obtain ⟨w8, hw8⟩ : ∃ w8, w7.setCell ⟨gb, 2, none⟩ (.slice (some ⟨g7, 0, none⟩) (pn + 1) c7) = w8 := ⟨_, rfl⟩
          have hA := gr_addP HM6.out (Vd := Vd) HVD6.out HPD6.out HQ6.out ((Kept.refl w6).alloc _ _) HO7.out HG7.out HOR7.out
          have HK8 : Hid (Kept w w8) := by rw [← hw8]; exact KeptBut.new (Kept.lob (gtrans HK6.out ((Kept.refl w6).alloc _ _)) (by have := HWW.out; omega) (HM6.out.pl.keep ((Kept.refl w6).alloc _ _)) HG7.out) (setCell_but _ _ _ _) (by have := HWW.out; omega)
          rw [hw8] at hA
          have HFIN : Hid (GrI base gb s (i + 1) w8 ∧ Kept w w8) := ⟨⟨_, _, _, _, _, _, _, by rw [List.length_append, HPN.out]; exact hA.1, HTA.out HP6.out HQ6.out, by rw [List.length_append, HPN.out, List.length_singleton]; omega⟩, HK8.out⟩
          rw [hw8]
          exact ⟨⟨i + 1, by omega, by omega, by simp, HFIN⟩, by simp [intOf] <;> omega⟩
      · skip
        as_aux_lemma =>
          have eB : (kd == (1 : Int)) = false := by simp; exact hkd1
          go_upto_region 16 with fail
          obtain ⟨xb, hxb⟩ : ∃ xb, wr.heap.size = xb := ⟨_, rfl⟩
          obtain ⟨wx, hwx⟩ : ∃ wx, wr.alloc (.cells #[.int .i64 kd, .int .i64 n, .int .i64 l0, .int .i64 l1, .int .i64 l2, .int .i64 l3, .slice ka kn kc] 53) = wx := ⟨_, rfl⟩
          have hkX : Kept wr wx := by rw [← hwx]; exact (Kept.refl wr).alloc _ _
          have hXB : wx.heap[xb]? = some (.cells #[.int .i64 kd, .int .i64 n, .int .i64 l0, .int .i64 l1, .int .i64 l2, .int .i64 l3, .slice ka kn kc] 53 (0, 0)) := by rw [← hwx, ← hxb]; exact World.alloc_heap_new wr _
          have HMX := hide1 (HMR.out.keep hkX)
          have HKRX := hide1 hkX
          have HKX := hide1 (gtrans HI.out.2 hkX)
          obtain ⟨hw, hhw⟩ : ∃ hw, wx.heap.size = hw := ⟨_, rfl⟩
          have HU := hide1 (HMX.out.under)
          rw [hhw] at HU
          have HBW : Hid (base ≤ hw) := (by rw [← hhw]; exact HMX.out.lo.2.2.2 : base ≤ hw)
          have HHW := hide1 hhw
          have HXBE : Hid (base ≤ xb ∧ s < base) := (by have := HMR.out.lo; omega : base ≤ xb ∧ s < base)
          have HBX : Hid (∀ W, Kept wx W → W.cell? ⟨xb, 0, none⟩ = some (.int .i64 kd) ∧ W.cell? ⟨xb, 1, none⟩ = some (.int .i64 n) ∧ W.cell? ⟨xb, 6, none⟩ = some (.slice ka kn kc)) := fun W hW => by
            have h9 := (hW.2.2.2.2 xb (Array.getElem?_eq_some_iff.1 hXB).1).trans hXB
            exact ⟨by simp [World.cell?, h9], by simp [World.cell?, h9], by simp [World.cell?, h9]⟩
          have HGX : Hid (∀ W, Kept wx W → W.cell? ⟨gb, 0, none⟩ = some (.pointer (some ⟨s, 0, none⟩)) ∧ W.cell? ⟨gb, 1, none⟩ = some (.slice aN pn cN) ∧ W.cell? ⟨gb, 2, none⟩ = some (.slice aP pn cP)) := fun W hW => by
            have h9 := (HMX.out.keep hW).box
            exact ⟨by simp [World.cell?, h9], by simp [World.cell?, h9], by simp [World.cell?, h9]⟩
          have HRD : Hid (∀ W, Kept wx W → ∀ r, r < pn → ∃ b d gN gP, P[r]? = some b ∧ Q[r]? = some d ∧ aN = some ⟨gN, 0, none⟩ ∧ aP = some ⟨gP, 0, none⟩ ∧ W.cell? ⟨gN, r, none⟩ = some (.pointer (some ⟨b, 0, none⟩)) ∧ W.cell? ⟨gP, r, none⟩ = some (.pointer (some ⟨d, 0, none⟩)) ∧ W.cell? ⟨d, 3, none⟩ = some (.int .i64 (X d).size)) := fun W hW r hr => by
            have hMW := HMX.out.keep hW
            obtain ⟨b, hb⟩ : ∃ b, P[r]? = some b := ⟨_, List.getElem?_eq_getElem (by rw [HPN.out]; exact hr)⟩
            obtain ⟨d, hd⟩ : ∃ d, Q[r]? = some d := ⟨_, List.getElem?_eq_getElem (by rw [HQN.out]; exact hr)⟩
            have hN9 := hMW.nl
            have hP9 := hMW.pl
            obtain ⟨gN, hgN⟩ := hN9.some (by intro e; rw [e] at hb; simp at hb)
            obtain ⟨gP, hgP⟩ := hP9.some (by intro e; rw [e] at hd; simp at hd)
            rw [hgN] at hN9
            rw [hgP] at hP9
            have h1 := hN9.cell (i := r) (j := 0) (x := b) (u := .pointer (some ⟨b, 0, none⟩)) hb rfl
            rw [show r * ndE.sz + 0 = r from by show r * 1 + 0 = r; omega] at h1
            have h2 := hP9.cell (i := r) (j := 0) (x := d) (u := .pointer (some ⟨d, 0, none⟩)) hd rfl
            rw [show r * pnE.sz + 0 = r from by show r * 1 + 0 = r; omega] at h2
            obtain ⟨_, qa, qc, h3, _⟩ := hMW.pn d (List.mem_of_getElem? hd)
            exact ⟨b, d, gN, gP, hb, hd, hgN, hgP, h1, h2, by simp [World.cell?, h3]⟩
          have HXA : Hid (∀ W, Kept wx W → IntsS W (.slice ka kn kc) xs) := fun W hW => HXS.out.keep (gtrans hkX hW)
          have hknI : (kn : Int) ≤ 17592186044416 := by omega
          have hkcI : (kn : Int) ≤ (kc : Int) := by omega
          have HWXX := hide1 (Kept.refl wx)
          rw [hwx, hxb]
          clear hwx hxb hkX hXB hhw r0 r1 r2 r3 r4 r5 r6 HXS
          go_wp2_with fail
          go_loopw [9, 10, 11, 12] (fun v9 v10 v11 v12 wr => ∃ (j : Nat) (sz : Int) (a9 a10 : Option Addr) (c9 c10 : Nat), v9 = .slice a9 j c9 ∧ v10 = .slice a10 j c10 ∧ v11 = .int .i64 sz ∧ v12 = .int .i64 (j : Int) ∧ j ≤ kn ∧ 1 ≤ sz ∧ sz ≤ 1 + 1500 * (j : Int) ∧ Hid (KdI P Q X pn wx j sz (.slice a9 j c9) (.slice a10 j c10) wr)) (fun _ _ _ v12 _ => kn - (intOf v12).toNat)
          case atStart => exact ⟨0, 1, none, none, 0, 0, rfl, rfl, rfl, rfl, Nat.zero_le _, by omega, by omega, [], rfl, (fun r hr => by cases hr), LO.nil _ _, LO.nil _ _, HWXX.out, (by simp [szP]), fun g hg => (by cases hg)⟩
          case round =>
            obtain ⟨j, sz, a9, a10, c9, c10, rfl, rfl, rfl, rfl, hj, hs0, hs1, hK⟩ := hrel
            have hs2 : sz ≤ 26388279066624001 := by omega
            by_cases hgo : j < kn ∧ 0 < pn
            · skip
              as_aux_lemma =>
                obtain ⟨hj1, hp1⟩ := hgo
                obtain ⟨js, hjs, hjr, ho9, ho10, hkq, hsz, hap⟩ := hK.out
                obtain ⟨z0, z1, z6⟩ := HBX.out wr hkq
                obtain ⟨y0, y1, y2⟩ := HGX.out wr hkq
                obtain ⟨x, hx⟩ : ∃ x, xs[j]? = some x := ⟨_, List.getElem?_eq_getElem (by rw [HKN.out]; exact hj1)⟩
                obtain ⟨kg, ko, rfl, t0⟩ := (HXA.out wr hkq).at' hx
                have HWI : Hid (∀ n, Calls Try.prog 5 #[.int .i64 x, .int .i64 (pn : Int)] (wr.drewN n) fun e w' => e = .returned (.int .i64 (wiN x pn : Int)) ∧ w' = wr.drewN n) := fun n => withinD_is x pn _ hp1 (by omega)
                have hrl := wiN_lt x hp1
                obtain ⟨r, hr⟩ : ∃ r, wiN x pn = r := ⟨_, rfl⟩
                rw [hr] at HWI hrl
                have hj1I : (j : Int) < (kn : Int) := by omega
                have hp1I : (0 : Int) < (pn : Int) := by omega
                have HJS := hide1 hjs
                have HJR := hide1 hjr
                have HO9 := hide1 ho9
                have HO10 := hide1 ho10
                have HKQ := hide1 hkq
                have HSZE := hide1 hsz
                have HAP := hide1 hap
                clear hjs hjr ho9 ho10 hkq hsz hap hx hr hK
                go_upto_region 22 with fail
                go_quiet ((go_at_call 5; exact Calls.quiet_of_same (HWI.out _)))
                obtain ⟨wz, hwz⟩ : ∃ wz, wr.drewN nq = wz := ⟨_, rfl⟩
                have hkz : Kept wr wz := by rw [← hwz]; exact drewN_kept _ _
                have hkxz := gtrans HKQ.out hkz
                rw [hwz]
                clear hwz z0 z1 z6 y0 y1 y2 t0
                obtain ⟨y0, y1, y2⟩ := HGX.out wz hkxz
                obtain ⟨b, d, gN, gP, hb, hd, rfl, rfl, u1, u2, u3⟩ := HRD.out wz hkxz r hrl
                have hdQ : d ∈ Q := List.mem_of_getElem? hd
                have hsd := gr_size HTR.out hdQ
                have HB := hide1 hb
                have HD := hide1 hd
                have HKXZ := hide1 hkxz
                have HO9z := hide1 (HO9.out.keep hkz)
                have HO10z := hide1 (HO10.out.keep hkz)
                have hrI : (r : Int) < (pn : Int) := by omega
                have HJP : Hid ((js.map (atL P)).length = j) := (by rw [List.length_map]; exact HJS.out : (js.map (atL P)).length = j)
                have HJQ : Hid ((js.map (atL Q)).length = j) := (by rw [List.length_map]; exact HJS.out : (js.map (atL Q)).length = j)
                obtain ⟨sd, hsd2⟩ : ∃ sd, (X d).size = sd := ⟨_, rfl⟩
                rw [hsd2] at hsd u3
                have HSD := hide1 hsd2
                clear hb hd hkz hkxz hdQ hsd2 HO9 HO10
                go_upto_region 24 with (at_builtin; refine wpl_lo (E := ndE) rfl _ _ rfl wx.heap.size (.slice a9 j c9) (js.map (atL P)) j HJP.out rfl (HO9z.out.keep ((Kept.refl wz).alloc _ _)) wz.heap.size b rfl (World.alloc_heap_new wz _) (by show (j + 1) * 8 ≤ 140737488355328; omega) (by unfold maxLen; omega) (Nat.le_trans HKXZ.out.size (alloc_le wz _)) ?_; intro g5 e5 w5 ho5 hg5 hor5 hl5; have HO5 := hide1 ho5; have HG5 := hide1 hg5; have HOR5 := hide1 hor5; clear ho5 hg5 hor5 hl5)
                have hsa : (wz.alloc (.cells #[.pointer (some ⟨b, 0, none⟩)] 43)).heap.size = wz.heap.size + 1 := by simp
                have hkz5 : Kept wx w5 := Kept.lo (gtrans HKXZ.out ((Kept.refl wz).alloc _ _)) (HO9z.out.keep ((Kept.refl wz).alloc _ _)) HG5.out
                have ho10 : LO pnE w5 wx.heap.size (.slice a10 j c10) (js.map (atL Q)) := HO10z.out.same (fun k hk => (HG5.out.block k (by rw [hsa]; have := (HO10z.out.lt' k hk).2; omega) (fun e => HAP.out k e.symm hk)).trans (heap_alloc_old wz _ (HO10z.out.lt' k hk).2))
                have hap5 : ∀ k, (Value.slice a10 j c10).ownBlock = some k → g5 ≠ k := fun k hk e => by
                  rcases HOR5.out with h | h
                  · exact HAP.out g5 h (by rw [e]; exact hk)
                  · have := (HO10z.out.lt' k hk).2
                    rw [hsa] at h
                    omega
                clear y0 y1 y2 u1 u2 u3
                obtain ⟨y0, y1, y2⟩ := HGX.out w5 hkz5
                obtain ⟨b', d', gN', gP', hb', hd', hgN', hgP', u1, u2, u3⟩ := HRD.out w5 hkz5 r hrl
                have e1 : d' = d := Option.some.inj (hd'.symm.trans HD.out)
                subst e1
                injection hgP' with hgP'
                injection hgP' with hgP'
                subst hgP'
                rw [HSD.out] at u3
                have HO10 := hide1 ho10
                have HK5 := hide1 hkz5
                have HAP5 := hide1 hap5
                clear hb' hd' hgN' hsa ho10 hkz5 hap5 u1 HO10z HO9z
                go_upto_region 25 with (at_builtin; refine wpl_lo (E := pnE) rfl _ _ rfl wx.heap.size (.slice a10 j c10) (js.map (atL Q)) j HJQ.out rfl (HO10.out.keep ((Kept.refl w5).alloc _ _)) w5.heap.size d' rfl (World.alloc_heap_new w5 _) (by show (j + 1) * 8 ≤ 140737488355328; omega) (by unfold maxLen; omega) (Nat.le_trans HK5.out.size (alloc_le w5 _)) ?_; intro g7 e7 w7 ho7 hg7 hor7 hl7; have HO7 := hide1 ho7; have HG7 := hide1 hg7; have HOR7 := hide1 hor7; clear ho7 hg7 hor7 hl7)
                have hsa : (w5.alloc (.cells #[.pointer (some ⟨d', 0, none⟩)] 37)).heap.size = w5.heap.size + 1 := by simp
                have hk7 : Kept wx w7 := Kept.lo (gtrans HK5.out ((Kept.refl w5).alloc _ _)) (HO10.out.keep ((Kept.refl w5).alloc _ _)) HG7.out
                have ho9 : LO ndE w7 wx.heap.size (.slice (some ⟨g5, 0, none⟩) (j + 1) e5) (js.map (atL P) ++ [b]) := HO5.out.same (fun k hk => (HG7.out.block k (by rw [hsa]; have := (HO5.out.lt' k hk).2; omega) (fun e => by simp only [Value.ownBlock, Option.some.injEq] at hk; subst hk; exact HAP5.out g5 e.symm rfl)).trans (heap_alloc_old w5 _ (HO5.out.lt' k hk).2))
                have hap7 : g5 ≠ g7 := by
                  rcases HOR7.out with h | h
                  · exact HAP5.out g7 h
                  · have := (HO5.out.lt' g5 rfl).2
                    rw [hsa] at h
                    omega
                clear y0 y1 y2 u2 u3
                obtain ⟨y0, y1, y2⟩ := HGX.out w7 hk7
                obtain ⟨b9, d9, gN9, gP9, hb9, hd9, hgN9, hgP9, u1, u2, u3⟩ := HRD.out w7 hk7 r hrl
                have e1 : d9 = d' := Option.some.inj (hd9.symm.trans HD.out)
                subst e1
                injection hgP9 with hgP9
                injection hgP9 with hgP9
                subst hgP9
                rw [HSD.out] at u3
                have HFIN : Hid (KdI P Q X pn wx (j + 1) (sz + sd) (.slice (some ⟨g5, 0, none⟩) (j + 1) e5) (.slice (some ⟨g7, 0, none⟩) (j + 1) e7) w7) := by
                  refine ⟨js ++ [r], by rw [List.length_append, HJS.out]; rfl, fun k hk => ?_, ?_, ?_, hk7, ?_, fun g hg e => ?_⟩
                  · rcases List.mem_append.1 hk with hk | hk
                    · exact HJR.out k hk
                    · rw [List.mem_singleton.1 hk]; exact hrl
                  · rw [List.map_append, List.map_singleton, atL_some HB.out]; exact ho9
                  · rw [List.map_append, List.map_singleton, atL_some HD.out]; exact HO7.out
                  · rw [List.map_append, List.map_singleton, atL_some HD.out, szP_app, HSD.out]
                    have := HSZE.out
                    omega
                  · simp only [Value.ownBlock, Option.some.injEq] at hg e
                    exact hap7 (hg.trans e.symm)
                clear hb9 hd9 hgN9 hsa ho9 hk7 hap7 u1 HO7 HG7 HOR7 HO5 HG5 HOR5
                go_wp2_with fail
                exact ⟨⟨j + 1, sz + sd, _, _, _, _, rfl, rfl, rfl, by simp, by omega, by omega, by omega, HFIN⟩, by simp [intOf] <;> omega⟩
            · by_cases hjk : j < kn
              · have hp0 : ¬ (0 : Int) < (pn : Int) := by omega
                have hjkI : (j : Int) < (kn : Int) := by omega
                as_aux_lemma =>
                  obtain ⟨js, hjs, hjr, ho9, ho10, hkq, hsz, hap⟩ := hK.out
                  have hMq := HMX.out.keep hkq
                  have hcel := HBX.out wr hkq
                  obtain ⟨z0, z1, z6⟩ := hcel
                  obtain ⟨y0, y1, y2⟩ := HGX.out wr hkq
                  have HFIN : Hid (GrI base gb s (i + 1) wr ∧ Kept w wr) := ⟨(HI.out.1.keep (gtrans HKRX.out hkq)).more (by omega), gtrans HKX.out hkq⟩
                  have hQm : ∀ k ∈ js.map (atL Q), k ∈ Q := fun k hk => by
                    obtain ⟨r, hr, rfl⟩ := List.mem_map.1 hk
                    exact atL_mem (by rw [HQN.out]; exact hjr r hr)
                  have hPm : ∀ k ∈ js.map (atL P), k ∈ P := fun k hk => by
                    obtain ⟨r, hr, rfl⟩ := List.mem_map.1 hk
                    exact atL_mem (by rw [HPN.out]; exact hjr r hr)
                  have hPA : ∀ k ∈ js.map (atL Q), PnAt wr k (X k) := fun k hk => (hMq.pn k (hQm k hk)).at
                  have hSZ : ∀ k ∈ js.map (atL Q), 0 < (X k).size ∧ (X k).size ≤ 1500 := fun k hk => by have := gr_size HTR.out (hQm k hk); omega
                  have hjl : (js.map (atL Q)).length = j := by rw [List.length_map, hjs]
                  have HJS := hide1 hjs
                  have HJR := hide1 hjr
                  have HO9 := hide1 ho9
                  have HSZE := hide1 hsz
                  have HKQ := hide1 hkq
                  have HMQ := hide1 hMq
                  have HPM := hide1 hPm
                  by_cases hgood : 2 ≤ kd ∧ kd ≤ 5 ∧ 0 ≤ n ∧ (n ≠ 0 → kd = 2)
                  · by_cases hsum : sz ≤ 4194304
                    · have hlen : (js.map (atL Q)).length ≤ 4194304 := by
                        have h1 := HTR.out.size js (fun r hr => by rw [HPN.out]; exact hjr r hr)
                        have h2 := (sums_le (N := N) (js.map (atL P)) (fun b hb => by obtain ⟨i9, _, _, h9⟩ := HTR.out.ofP (hPm b hb); exact h9.1)).1
                        rw [List.length_map] at h2 ⊢
                        omega
                      have HMD := hide1 (madeP_is X kd n (.slice a10 j c10) (js.map (atL Q)) wr wx.heap.size ho10 hlen hPA hSZ hgood (by omega))
                      have HGOOD := hide1 hgood
                      clear hjs hjr ho9 ho10 hkq hsz hap hMq hQm hPm hPA hSZ hjl hlen hgood hK
                      go_upto_region 27 with (go_at_call 15; refine HMD.out.mono ?_; rintro e wm ⟨d, rfl, hp3, hk3⟩; have HP3 := hide1 hp3; have HK3 := hide1 hk3; clear hp3 hk3)
                      by_cases h15 : sz ≤ 1500
                      · go_upto_region 28 with fail
                        have hMm := HMQ.out.keep HK3.out
                        have hkxm := gtrans HKQ.out HK3.out
                        have hlo := HMR.out.lo
                        have hxs : xb ≠ s := by have := HXBE.out; omega
                        have hgs : gb ≠ s := by omega
                        have q0 := keepsB hgs (HGX.out wm hkxm).1
                        have q1 := keepsB hxs (HBX.out wm hkxm).1
                        have q2 := keepsB hxs (HBX.out wm hkxm).2.1
                        have HMM := hide1 hMm
                        have hmayP : mayP kd n = true := kd_may HGOOD.out
                        have hsS : 1 + sizeS N (js.map (atL P)) ≤ 1500 := by
                          have h1 := HTR.out.size js (fun r hr => by rw [HPN.out]; exact HJR.out r hr)
                          have h2 := HSZE.out
                          omega
                        have HOK : Hid (∀ b ∈ js.map (atL P), NdOk (N b) ∧ (N b).st = s) := fun b hb => by
                          obtain ⟨i9, _, _, h9, _, _, h10⟩ := HTR.out.ofP (HPM.out b hb)
                          refine ⟨h9, ?_⟩
                          rcases h10 with ⟨_, _, _, _, e, _⟩ | ⟨_, _, _, _, _, e, _⟩ <;> rw [e] <;> rfl
                        have HMK : Hid (∀ W, Kept wm W → Calls Try.prog 16 #[.pointer (some ⟨s, 0, none⟩), .int .i64 kd, .int .i64 n, .slice a9 j c9] W fun e w' => ∃ b, e = .returned (.tuple #[.pointer (some ⟨b, 0, none⟩), .int .i64 0]) ∧ W.heap.size ≤ b ∧ KeptBut s W w' ∧ StoreAt w' s (pn + 1) ∧ NodeAt w'.heap.size w' b (makeN N s pn kd n (js.map (atL P))) ∧ RowLow W.heap.size w' b) := fun W hW => by
                          have hMW := HMM.out.keep hW
                          refine make_okN N W.heap.size s pn kd n (js.map (atL P)) (.slice a9 j c9) W hMW.st ?_ (fun b hb => (hMW.nd b (HPM.out b hb)).at (fun k hk => (hMW.vs k hk).2.1)) (Nat.le_refl _) (fun b hb => (HOK.out b hb).1) (by omega) hmayP (by unfold ownP; rw [List.all_eq_true]; intro b hb; simpa using (HOK.out b hb).2) (by omega)
                          have ho := HO9.out.keep (gtrans HK3.out hW)
                          have h15j := (sums_le (N := N) (js.map (atL P)) (fun b hb => (HOK.out b hb).1)).1
                          rw [List.length_map, HJS.out] at h15j
                          refine ⟨a9, c9, by rw [List.length_map, HJS.out], by rw [List.length_map, HJS.out]; omega, fun r b hb => ?_⟩
                          obtain ⟨g9, rfl⟩ := ho.some (by intro e; rw [e] at hb; simp at hb)
                          have h1 := ho.cell (i := r) (j := 0) (x := b) (u := .pointer (some ⟨b, 0, none⟩)) hb rfl
                          rw [show r * ndE.sz + 0 = 0 + r from by show r * 1 + 0 = 0 + r; omega] at h1
                          exact ⟨g9, 0, rfl, h1⟩
                        have HKM := hide1 (gtrans HKX.out hkxm)
                        have hkr : KeptBut s wm wm := (Kept.refl wm).tbut s
                        have HSS := hide1 hsS
                        have HMAY := hide1 hmayP
                        clear hMm hkxm hlo hxs hgs hsS hmayP z0 z1 z6 y0 y1 y2
                        go_region_held3 (fun w' => KeptBut s wm w') (first | assumption | exact (Kept.refl _).tbut _ | exact (drew_kept _).tbut _)
                          ((go_at_call 16; refine (HMK.out _ (by first | exact drew_kept _ | exact Kept.refl _)).mono ?_; rintro e w3 ⟨b, rfl, hb2, hk2, hs2, hn2, hr2⟩; have k2 : KeptBut s wm w3 := KeptBut.trans (by assumption) hk2; have hb2' : wm.heap.size ≤ b := hb2; have hr2' : RowLow wm.heap.size w3 b := hr2; clear hr2 hb2))
                        have hs0 : w.heap.size ≤ s := by have := HS.out; omega
                        have hxw := HKQ.out.size
                        have hqm := HK3.out.size
                        have hm3 := k2.2.2.2.1
                        have hdl := HP3.out.1
                        rw [HHW.out] at hxw
                        obtain ⟨Vb, hVb⟩ : ∃ Vb : Nat → Prop, Vb = (fun k => wm.heap.size ≤ k ∧ k < w3.heap.size) := ⟨_, rfl⟩
                        obtain ⟨Vd, hVd⟩ : ∃ Vd : Nat → Prop, Vd = (fun k => wr.heap.size ≤ k ∧ k < wm.heap.size) := ⟨_, rfl⟩
                        obtain ⟨Y, hY⟩ : ∃ Y, makeN N s pn kd n (js.map (atL P)) = Y := ⟨_, rfl⟩
                        obtain ⟨Z, hZ⟩ : ∃ Z : Pn, (⟨0, kd, n, 1 + szP X (js.map (atL Q)), 0, 0, 0, 0, js.map (atL Q)⟩ : Pn) = Z := ⟨_, rfl⟩
                        obtain ⟨id, hid⟩ : ∃ id : Int, ((pn + 1 : Nat) : Int) = id := ⟨_, rfl⟩
                        have HYN : Hid ((Y.num : Int) = id) := (by rw [← hY, ← hid]; rfl : (Y.num : Int) = id)
                        have HND : Hid (NdV Vb w3 b Y) := by
                          rw [← hY, hVb]
                          exact ndV_of hn2 hb2' (Or.inl hr2')
                        have HPD : Hid (PnV Vd w3 d Z) := by
                          rw [← hZ, hVd]
                          exact HP3.out.kx ⟨hm3, fun k hk => k2.2.2.2.2 k hk.2 (by have := HMQ.out.lo; have := HMQ.out.lo.2.2.2; have := hk.1; omega)⟩
                        have HVB : Hid (∀ k, Vb k → hw ≤ k ∧ k < w3.heap.size) := by rw [hVb]; exact fun k hk => ⟨by have := hk.1; omega, hk.2⟩
                        have HVD : Hid (∀ k, Vd k → hw ≤ k ∧ k < w3.heap.size) := by rw [hVd]; exact fun k hk => ⟨by have := hk.1; omega, by have := hk.2; omega⟩
                        have HDB : Hid (¬ Vb d) := by rw [hVb]; exact fun h => by have := h.1; have := hdl.2; omega
                        have HTA : Hid (b ∉ P → d ∉ Q → Tw s (P ++ [b]) (Q ++ [d]) (fun k => if k = b then Y else N k) (fun k => if k = d then withId Z id else X k)) := fun h1 h2 => by
                          have hsS := HSS.out
                          have hTs := HTR.out.size js (fun r hr => by rw [HPN.out]; exact HJR.out r hr)
                          rw [← hY, ← hZ, ← hid]
                          refine HTR.out.add h1 h2 (makeN_ok (fun b hb => (HOK.out b hb).1) (by omega)) hsS ?_ (Or.inr ⟨kd, n, js, HMAY.out, (fun r hr => by rw [HPN.out]; exact HJR.out r hr), by rw [HPN.out], by rw [HPN.out]; rfl⟩)
                          show 1 + szP X (js.map (atL Q)) = ((1 + sizeS N (js.map (atL P)) : Nat) : Int)
                          omega
                        have HM3 := hide1 (HMM.out.but k2 hs2)
                        have HKW3 := hide1 (KeptBut.new HKM.out k2 hs0)
                        clear hVb hVd hY hZ hid hdl hxw hqm hm3 q0 q1 q2 hk2 hs2 hn2 hr2' hb2' k2 hkr HP3 HK3 HMK HMD HMQ HMM HKM HOK HFIN hs0
                        as_aux_lemma =>
                          have hb3 := HM3.out.lo.2.2.2
                          have HNUM : Hid (Calls Try.prog 14 #[.pointer (some ⟨b, 0, none⟩)] w3 fun e w' => e = .returned (.int .i64 id) ∧ w' = w3) := by
                            have h := number_is (HND.out.at (B := w3.heap.size) (fun k hk => (HVB.out k hk).2))
                            rw [HYN.out] at h
                            exact h
                          obtain ⟨⟨_, qa, qc, hq1, _⟩, _⟩ : PnV Vd w3 d Z ∧ True := ⟨HPD.out, trivial⟩
                          have z0 : w3.cell? ⟨d, 0, none⟩ = some (.int .i64 Z.id) := by simp [World.cell?, hq1]
                          have z1 : w3.frozen? ⟨d, 0, none⟩ = false := by simp [World.frozen?, hq1]
                          clear hq1
                          go_upto_region 32 with (go_at_call 14; refine HNUM.out.mono ?_; rintro e w9 ⟨rfl, h9⟩; replace h9 := h9.symm; subst h9)
                          obtain ⟨w4, hw4⟩ : ∃ w4, w3.setCell ⟨d, 0, none⟩ (.int .i64 id) = w4 := ⟨_, rfl⟩
                          have hs4 : w3.heap.size = w4.heap.size := by rw [← hw4]; simp [World.setCell]
                          have hC4 : ∀ k, k ≠ d → w4.heap[k]? = w3.heap[k]? := fun k hk => by rw [← hw4]; exact Below.heap_setCell _ _ _ _ hk
                          have hdw := (HVD.out d HPD.out.1).1
                          have HM4 := hide1 (HM3.out.below HU.out HBW.out (show KB hw w3 w4 from ⟨by omega, fun k hk => hC4 k (by omega)⟩))
                          have HPD4 : Hid (PnV Vd w4 d (withId Z id)) := by rw [← hw4]; exact HPD.out.setId id
                          have HND4 : Hid (NdV Vb w4 b Y) := HND.out.kx ⟨by omega, fun k hk => hC4 k (fun e => HDB.out (by rw [← e]; exact hk))⟩
                          have HK4 : Hid (Kept w w4) := by rw [← hw4]; exact KeptBut.new HKW3.out (setCell_but _ _ _ _) (by have := HWW.out; have := HBW.out; omega)
                          rw [hw4]
                          have c1 : w4.cell? ⟨gb, 1, none⟩ = some (.slice aN pn cN) := by simp [World.cell?, HM4.out.box]
                          have hgl4 : gb < w4.heap.size := (Array.getElem?_eq_some_iff.1 HM4.out.box).1
                          have hbs4 : base ≤ w4.heap.size := HM4.out.lo.2.2.2
                          have hgbb : gb < base := HM4.out.lo.1
                          have HVB4 : Hid (∀ k, Vb k → hw ≤ k ∧ k < w4.heap.size) := by rw [← hs4]; exact HVB.out
                          have HVD4 : Hid (∀ k, Vd k → hw ≤ k ∧ k < w4.heap.size) := by rw [← hs4]; exact HVD.out
                          clear hw4 hC4 z0 z1 hs4 HM3 HND HPD HVB HVD HNUM HKW3 hb3
                          go_upto_region 33 with (at_builtin; refine wpl_lo (E := ndE) rfl _ _ rfl base (.slice aN pn cN) P pn HPN.out rfl (HM4.out.nl.keep ((Kept.refl w4).alloc _ _)) w4.heap.size b rfl (World.alloc_heap_new w4 _) (by show (pn + 1) * 8 ≤ 140737488355328; omega) (by unfold maxLen; omega) (Nat.le_trans hbs4 (alloc_le w4 _)) ?_; intro g5 c5 w5 ho5 hg5 hor5 hl5; have hx5 : w5.heap[gb]? = some (.cells #[.pointer (some ⟨s, 0, none⟩), .slice aN pn cN, .slice aP pn cP] 32 (0, 0)) := ((hg5.block gb (Nat.lt_of_lt_of_le hgl4 (alloc_le w4 _)) (fun e => by have := (HM4.out.nl.lt' gb e.symm).1; omega)).trans ((heap_alloc_old w4 _ hgl4).trans HM4.out.box)); have y1 : w5.cell? ⟨gb, 1, none⟩ = some (.slice aN pn cN) := (by simp [World.cell?, hx5]); have f1 : w5.frozen? ⟨gb, 1, none⟩ = false := (by simp [World.frozen?, hx5]); have HO5 := hide1 ho5; have HG5 := hide1 hg5; have HOR5 := hide1 hor5; clear ho5 hg5 hor5 hl5 hx5)
                          obtain ⟨w6, hw6⟩ : ∃ w6, w5.setCell ⟨gb, 1, none⟩ (.slice (some ⟨g5, 0, none⟩) (pn + 1) c5) = w6 := ⟨_, rfl⟩
                          have hbP : b ∉ P := fun h => by have h1 := HU.out.vs b (HM4.out.nd b h).1; have h2 := (HVB4.out b HND4.out.1).1; omega
                          have hdQ : d ∉ Q := fun h => by have h1 := HU.out.vs d (HM4.out.pn d h).1; have h2 := (HVD4.out d HPD4.out.1).1; omega
                          have hA := gr_addN HM4.out (Vb := Vb) (fun k hk => ⟨by have := (HVB4.out k hk).1; have := HBW.out; omega, (HVB4.out k hk).2, fun e => by have h1 := HU.out.nl k e; have h2 := (HVB4.out k hk).1; omega, fun e => by have h1 := HU.out.pl k e; have h2 := (HVB4.out k hk).1; omega⟩) HND4.out hbP ((Kept.refl w4).alloc _ _) HO5.out HG5.out HOR5.out
                          rw [hw6] at hA
                          obtain ⟨hM6, hC6, hs6⟩ := hA
                          have hz6 : w6.heap.size = w5.heap.size := by rw [← hw6]; simp [World.setCell]
                          have HK6 : Hid (Kept w w6) := by rw [← hw6]; exact KeptBut.new (Kept.lob (gtrans HK4.out ((Kept.refl w4).alloc _ _)) (by have := HWW.out; omega) (HM4.out.nl.keep ((Kept.refl w4).alloc _ _)) HG5.out) (setCell_but _ _ _ _) (by have := HWW.out; omega)
                          have HPD6 : Hid (PnV Vd w6 d (withId Z id)) := HPD4.out.kx ⟨by omega, fun k hk => hC6 k (HVD4.out k hk).2 (by have h1 := HU.out.gb; have h2 := (HVD4.out k hk).1; omega) (fun e => by have h1 := HU.out.nl k e; have h2 := (HVD4.out k hk).1; omega)⟩
                          have hsa : (w4.alloc (.cells #[.pointer (some ⟨b, 0, none⟩)] 43)).heap.size = w4.heap.size + 1 := by simp
                          have HVD6 : Hid (∀ k, Vd k → base ≤ k ∧ k < w6.heap.size ∧ (Value.slice (some ⟨g5, 0, none⟩) (pn + 1) c5).ownBlock ≠ some k ∧ (Value.slice aP pn cP).ownBlock ≠ some k) := fun k hk => by
                            have h2 := HVD4.out k hk
                            have h3 := HBW.out
                            refine ⟨by omega, by omega, fun e => ?_, fun e => by have h1 := HU.out.pl k e; omega⟩
                            simp only [Value.ownBlock, Option.some.injEq] at e
                            subst e
                            rcases HOR5.out with h | h
                            · have h1 := HU.out.nl g5 h; omega
                            · rw [hsa] at h; omega
                          have HM6 := hide1 hM6
                          have c2 : w6.cell? ⟨gb, 2, none⟩ = some (.slice aP pn cP) := by simp [World.cell?, hM6.box]
                          have hgl6 : gb < w6.heap.size := (Array.getElem?_eq_some_iff.1 hM6.box).1
                          have hbs6 : base ≤ w6.heap.size := hM6.lo.2.2.2
                          rw [hw6]
                          have HQ6 := hide1 hdQ
                          have HP6 := hide1 hbP
                          clear hw6 hM6 hC6 hs6 hz6 hbP hdQ hsa y1 f1 c1 HO5 HG5 HOR5 HM4 HND4 HPD4 HVB4 HVD4 HK4
                          go_wp2_with (at_builtin; refine wpl_lo (E := pnE) rfl _ _ rfl base (.slice aP pn cP) Q pn HQN.out rfl (HM6.out.pl.keep ((Kept.refl w6).alloc _ _)) w6.heap.size d rfl (World.alloc_heap_new w6 _) (by show (pn + 1) * 8 ≤ 140737488355328; omega) (by unfold maxLen; omega) (Nat.le_trans hbs6 (alloc_le w6 _)) ?_; intro g7 c7 w7 ho7 hg7 hor7 hl7; have hx7 : w7.heap[gb]? = some (.cells #[.pointer (some ⟨s, 0, none⟩), .slice (some ⟨g5, 0, none⟩) (pn + 1) c5, .slice aP pn cP] 32 (0, 0)) := ((hg7.block gb (Nat.lt_of_lt_of_le hgl6 (alloc_le w6 _)) (fun e => by have := (HM6.out.pl.lt' gb e.symm).1; omega)).trans ((heap_alloc_old w6 _ hgl6).trans HM6.out.box)); have y2 : w7.cell? ⟨gb, 2, none⟩ = some (.slice aP pn cP) := (by simp [World.cell?, hx7]); have f2 : w7.frozen? ⟨gb, 2, none⟩ = false := (by simp [World.frozen?, hx7]); have HO7 := hide1 ho7; have HG7 := hide1 hg7; have HOR7 := hide1 hor7; clear ho7 hg7 hor7 hl7 hx7)
                          obtain ⟨w8, hw8⟩ : ∃ w8, w7.setCell ⟨gb, 2, none⟩ (.slice (some ⟨g7, 0, none⟩) (pn + 1) c7) = w8 := ⟨_, rfl⟩
                          have hA := gr_addP HM6.out (Vd := Vd) HVD6.out HPD6.out HQ6.out ((Kept.refl w6).alloc _ _) HO7.out HG7.out HOR7.out
                          have HK8 : Hid (Kept w w8) := by rw [← hw8]; exact KeptBut.new (Kept.lob (gtrans HK6.out ((Kept.refl w6).alloc _ _)) (by have := HWW.out; omega) (HM6.out.pl.keep ((Kept.refl w6).alloc _ _)) HG7.out) (setCell_but _ _ _ _) (by have := HWW.out; omega)
                          rw [hw8] at hA
                          have HFIN : Hid (GrI base gb s (i + 1) w8 ∧ Kept w w8) := ⟨⟨_, _, _, _, _, _, _, by rw [List.length_append, HPN.out]; exact hA.1, HTA.out HP6.out HQ6.out, by rw [List.length_append, HPN.out, List.length_singleton]; omega⟩, HK8.out⟩
                          rw [hw8]
                          exact ⟨⟨i + 1, by omega, by omega, by simp, HFIN⟩, by simp [intOf] <;> omega⟩
                      · have HFIN2 : Hid (GrI base gb s (i + 1) wm ∧ Kept w wm) := ⟨HFIN.out.1.keep HK3.out, gtrans HFIN.out.2 HK3.out⟩
                        clear z0 z1 y0
                        go_wp2_with fail
                        exact ⟨⟨i + 1, by omega, by omega, by simp, HFIN2⟩, by simp [intOf] <;> omega⟩
                    · have HMD := hide1 (madeP_full X kd n (.slice a10 j c10) (js.map (atL Q)) wr wx.heap.size ho10 (by rw [hjl]; omega) hPA hSZ hgood (by omega))
                      clear hjs hjr ho9 ho10 hkq hsz hap hMq hQm hPm hPA hSZ hjl hgood hK
                      go_wp2_with (go_at_call 15; refine HMD.out.mono ?_; rintro e wm ⟨rfl, h9⟩; replace h9 := h9.symm; subst h9)
                      exact ⟨⟨i + 1, by omega, by omega, by simp, HFIN⟩, by simp [intOf] <;> omega⟩
                  · have HMD := hide1 (madeP_bad kd n (.slice a10 j c10) wr hgood)
                    clear hjs hjr ho9 ho10 hkq hsz hap hMq hQm hPm hPA hSZ hjl hgood hK
                    by_cases h15 : sz ≤ 1500
                    · go_wp2_with (go_at_call 15; refine HMD.out.mono ?_; rintro e wm ⟨rfl, h9⟩; replace h9 := h9.symm; subst h9)
                      exact ⟨⟨i + 1, by omega, by omega, by simp, HFIN⟩, by simp [intOf] <;> omega⟩
                    · go_wp2_with (go_at_call 15; refine HMD.out.mono ?_; rintro e wm ⟨rfl, h9⟩; replace h9 := h9.symm; subst h9)
                      exact ⟨⟨i + 1, by omega, by omega, by simp, HFIN⟩, by simp [intOf] <;> omega⟩
              · have hjkI : ¬ (j : Int) < (kn : Int) := by omega
                as_aux_lemma =>
                  obtain ⟨js, hjs, hjr, ho9, ho10, hkq, hsz, hap⟩ := hK.out
                  have hMq := HMX.out.keep hkq
                  have hcel := HBX.out wr hkq
                  obtain ⟨z0, z1, z6⟩ := hcel
                  obtain ⟨y0, y1, y2⟩ := HGX.out wr hkq
                  have HFIN : Hid (GrI base gb s (i + 1) wr ∧ Kept w wr) := ⟨(HI.out.1.keep (gtrans HKRX.out hkq)).more (by omega), gtrans HKX.out hkq⟩
                  have hQm : ∀ k ∈ js.map (atL Q), k ∈ Q := fun k hk => by
                    obtain ⟨r, hr, rfl⟩ := List.mem_map.1 hk
                    exact atL_mem (by rw [HQN.out]; exact hjr r hr)
                  have hPm : ∀ k ∈ js.map (atL P), k ∈ P := fun k hk => by
                    obtain ⟨r, hr, rfl⟩ := List.mem_map.1 hk
                    exact atL_mem (by rw [HPN.out]; exact hjr r hr)
                  have hPA : ∀ k ∈ js.map (atL Q), PnAt wr k (X k) := fun k hk => (hMq.pn k (hQm k hk)).at
                  have hSZ : ∀ k ∈ js.map (atL Q), 0 < (X k).size ∧ (X k).size ≤ 1500 := fun k hk => by have := gr_size HTR.out (hQm k hk); omega
                  have hjl : (js.map (atL Q)).length = j := by rw [List.length_map, hjs]
                  have HJS := hide1 hjs
                  have HJR := hide1 hjr
                  have HO9 := hide1 ho9
                  have HSZE := hide1 hsz
                  have HKQ := hide1 hkq
                  have HMQ := hide1 hMq
                  have HPM := hide1 hPm
                  by_cases hgood : 2 ≤ kd ∧ kd ≤ 5 ∧ 0 ≤ n ∧ (n ≠ 0 → kd = 2)
                  · by_cases hsum : sz ≤ 4194304
                    · have hlen : (js.map (atL Q)).length ≤ 4194304 := by
                        have h1 := HTR.out.size js (fun r hr => by rw [HPN.out]; exact hjr r hr)
                        have h2 := (sums_le (N := N) (js.map (atL P)) (fun b hb => by obtain ⟨i9, _, _, h9⟩ := HTR.out.ofP (hPm b hb); exact h9.1)).1
                        rw [List.length_map] at h2 ⊢
                        omega
                      have HMD := hide1 (madeP_is X kd n (.slice a10 j c10) (js.map (atL Q)) wr wx.heap.size ho10 hlen hPA hSZ hgood (by omega))
                      have HGOOD := hide1 hgood
                      clear hjs hjr ho9 ho10 hkq hsz hap hMq hQm hPm hPA hSZ hjl hlen hgood hK
                      go_upto_region 27 with (go_at_call 15; refine HMD.out.mono ?_; rintro e wm ⟨d, rfl, hp3, hk3⟩; have HP3 := hide1 hp3; have HK3 := hide1 hk3; clear hp3 hk3)
                      by_cases h15 : sz ≤ 1500
                      · go_upto_region 28 with fail
                        have hMm := HMQ.out.keep HK3.out
                        have hkxm := gtrans HKQ.out HK3.out
                        have hlo := HMR.out.lo
                        have hxs : xb ≠ s := by have := HXBE.out; omega
                        have hgs : gb ≠ s := by omega
                        have q0 := keepsB hgs (HGX.out wm hkxm).1
                        have q1 := keepsB hxs (HBX.out wm hkxm).1
                        have q2 := keepsB hxs (HBX.out wm hkxm).2.1
                        have HMM := hide1 hMm
                        have hmayP : mayP kd n = true := kd_may HGOOD.out
                        have hsS : 1 + sizeS N (js.map (atL P)) ≤ 1500 := by
                          have h1 := HTR.out.size js (fun r hr => by rw [HPN.out]; exact HJR.out r hr)
                          have h2 := HSZE.out
                          omega
                        have HOK : Hid (∀ b ∈ js.map (atL P), NdOk (N b) ∧ (N b).st = s) := fun b hb => by
                          obtain ⟨i9, _, _, h9, _, _, h10⟩ := HTR.out.ofP (HPM.out b hb)
                          refine ⟨h9, ?_⟩
                          rcases h10 with ⟨_, _, _, _, e, _⟩ | ⟨_, _, _, _, _, e, _⟩ <;> rw [e] <;> rfl
                        have HMK : Hid (∀ W, Kept wm W → Calls Try.prog 16 #[.pointer (some ⟨s, 0, none⟩), .int .i64 kd, .int .i64 n, .slice a9 j c9] W fun e w' => ∃ b, e = .returned (.tuple #[.pointer (some ⟨b, 0, none⟩), .int .i64 0]) ∧ W.heap.size ≤ b ∧ KeptBut s W w' ∧ StoreAt w' s (pn + 1) ∧ NodeAt w'.heap.size w' b (makeN N s pn kd n (js.map (atL P))) ∧ RowLow W.heap.size w' b) := fun W hW => by
                          have hMW := HMM.out.keep hW
                          refine make_okN N W.heap.size s pn kd n (js.map (atL P)) (.slice a9 j c9) W hMW.st ?_ (fun b hb => (hMW.nd b (HPM.out b hb)).at (fun k hk => (hMW.vs k hk).2.1)) (Nat.le_refl _) (fun b hb => (HOK.out b hb).1) (by omega) hmayP (by unfold ownP; rw [List.all_eq_true]; intro b hb; simpa using (HOK.out b hb).2) (by omega)
                          have ho := HO9.out.keep (gtrans HK3.out hW)
                          have h15j := (sums_le (N := N) (js.map (atL P)) (fun b hb => (HOK.out b hb).1)).1
                          rw [List.length_map, HJS.out] at h15j
                          refine ⟨a9, c9, by rw [List.length_map, HJS.out], by rw [List.length_map, HJS.out]; omega, fun r b hb => ?_⟩
                          obtain ⟨g9, rfl⟩ := ho.some (by intro e; rw [e] at hb; simp at hb)
                          have h1 := ho.cell (i := r) (j := 0) (x := b) (u := .pointer (some ⟨b, 0, none⟩)) hb rfl
                          rw [show r * ndE.sz + 0 = 0 + r from by show r * 1 + 0 = 0 + r; omega] at h1
                          exact ⟨g9, 0, rfl, h1⟩
                        have HKM := hide1 (gtrans HKX.out hkxm)
                        have hkr : KeptBut s wm wm := (Kept.refl wm).tbut s
                        have HSS := hide1 hsS
                        have HMAY := hide1 hmayP
                        clear hMm hkxm hlo hxs hgs hsS hmayP z0 z1 z6 y0 y1 y2
                        go_region_held3 (fun w' => KeptBut s wm w') (first | assumption | exact (Kept.refl _).tbut _ | exact (drew_kept _).tbut _)
                          ((go_at_call 16; refine (HMK.out _ (by first | exact drew_kept _ | exact Kept.refl _)).mono ?_; rintro e w3 ⟨b, rfl, hb2, hk2, hs2, hn2, hr2⟩; have k2 : KeptBut s wm w3 := KeptBut.trans (by assumption) hk2; have hb2' : wm.heap.size ≤ b := hb2; have hr2' : RowLow wm.heap.size w3 b := hr2; clear hr2 hb2))
                        have hs0 : w.heap.size ≤ s := by have := HS.out; omega
                        have hxw := HKQ.out.size
                        have hqm := HK3.out.size
                        have hm3 := k2.2.2.2.1
                        have hdl := HP3.out.1
                        rw [HHW.out] at hxw
                        obtain ⟨Vb, hVb⟩ : ∃ Vb : Nat → Prop, Vb = (fun k => wm.heap.size ≤ k ∧ k < w3.heap.size) := ⟨_, rfl⟩
                        obtain ⟨Vd, hVd⟩ : ∃ Vd : Nat → Prop, Vd = (fun k => wr.heap.size ≤ k ∧ k < wm.heap.size) := ⟨_, rfl⟩
                        obtain ⟨Y, hY⟩ : ∃ Y, makeN N s pn kd n (js.map (atL P)) = Y := ⟨_, rfl⟩
                        obtain ⟨Z, hZ⟩ : ∃ Z : Pn, (⟨0, kd, n, 1 + szP X (js.map (atL Q)), 0, 0, 0, 0, js.map (atL Q)⟩ : Pn) = Z := ⟨_, rfl⟩
                        obtain ⟨id, hid⟩ : ∃ id : Int, ((pn + 1 : Nat) : Int) = id := ⟨_, rfl⟩
                        have HYN : Hid ((Y.num : Int) = id) := (by rw [← hY, ← hid]; rfl : (Y.num : Int) = id)
                        have HND : Hid (NdV Vb w3 b Y) := by
                          rw [← hY, hVb]
                          exact ndV_of hn2 hb2' (Or.inl hr2')
                        have HPD : Hid (PnV Vd w3 d Z) := by
                          rw [← hZ, hVd]
                          exact HP3.out.kx ⟨hm3, fun k hk => k2.2.2.2.2 k hk.2 (by have := HMQ.out.lo; have := HMQ.out.lo.2.2.2; have := hk.1; omega)⟩
                        have HVB : Hid (∀ k, Vb k → hw ≤ k ∧ k < w3.heap.size) := by rw [hVb]; exact fun k hk => ⟨by have := hk.1; omega, hk.2⟩
                        have HVD : Hid (∀ k, Vd k → hw ≤ k ∧ k < w3.heap.size) := by rw [hVd]; exact fun k hk => ⟨by have := hk.1; omega, by have := hk.2; omega⟩
                        have HDB : Hid (¬ Vb d) := by rw [hVb]; exact fun h => by have := h.1; have := hdl.2; omega
                        have HTA : Hid (b ∉ P → d ∉ Q → Tw s (P ++ [b]) (Q ++ [d]) (fun k => if k = b then Y else N k) (fun k => if k = d then withId Z id else X k)) := fun h1 h2 => by
                          have hsS := HSS.out
                          have hTs := HTR.out.size js (fun r hr => by rw [HPN.out]; exact HJR.out r hr)
                          rw [← hY, ← hZ, ← hid]
                          refine HTR.out.add h1 h2 (makeN_ok (fun b hb => (HOK.out b hb).1) (by omega)) hsS ?_ (Or.inr ⟨kd, n, js, HMAY.out, (fun r hr => by rw [HPN.out]; exact HJR.out r hr), by rw [HPN.out], by rw [HPN.out]; rfl⟩)
                          show 1 + szP X (js.map (atL Q)) = ((1 + sizeS N (js.map (atL P)) : Nat) : Int)
                          omega
                        have HM3 := hide1 (HMM.out.but k2 hs2)
                        have HKW3 := hide1 (KeptBut.new HKM.out k2 hs0)
                        clear hVb hVd hY hZ hid hdl hxw hqm hm3 q0 q1 q2 hk2 hs2 hn2 hr2' hb2' k2 hkr HP3 HK3 HMK HMD HMQ HMM HKM HOK HFIN hs0
                        as_aux_lemma =>
                          have hb3 := HM3.out.lo.2.2.2
                          have HNUM : Hid (Calls Try.prog 14 #[.pointer (some ⟨b, 0, none⟩)] w3 fun e w' => e = .returned (.int .i64 id) ∧ w' = w3) := by
                            have h := number_is (HND.out.at (B := w3.heap.size) (fun k hk => (HVB.out k hk).2))
                            rw [HYN.out] at h
                            exact h
                          obtain ⟨⟨_, qa, qc, hq1, _⟩, _⟩ : PnV Vd w3 d Z ∧ True := ⟨HPD.out, trivial⟩
                          have z0 : w3.cell? ⟨d, 0, none⟩ = some (.int .i64 Z.id) := by simp [World.cell?, hq1]
                          have z1 : w3.frozen? ⟨d, 0, none⟩ = false := by simp [World.frozen?, hq1]
                          clear hq1
                          go_upto_region 32 with (go_at_call 14; refine HNUM.out.mono ?_; rintro e w9 ⟨rfl, h9⟩; replace h9 := h9.symm; subst h9)
                          obtain ⟨w4, hw4⟩ : ∃ w4, w3.setCell ⟨d, 0, none⟩ (.int .i64 id) = w4 := ⟨_, rfl⟩
                          have hs4 : w3.heap.size = w4.heap.size := by rw [← hw4]; simp [World.setCell]
                          have hC4 : ∀ k, k ≠ d → w4.heap[k]? = w3.heap[k]? := fun k hk => by rw [← hw4]; exact Below.heap_setCell _ _ _ _ hk
                          have hdw := (HVD.out d HPD.out.1).1
                          have HM4 := hide1 (HM3.out.below HU.out HBW.out (show KB hw w3 w4 from ⟨by omega, fun k hk => hC4 k (by omega)⟩))
                          have HPD4 : Hid (PnV Vd w4 d (withId Z id)) := by rw [← hw4]; exact HPD.out.setId id
                          have HND4 : Hid (NdV Vb w4 b Y) := HND.out.kx ⟨by omega, fun k hk => hC4 k (fun e => HDB.out (by rw [← e]; exact hk))⟩
                          have HK4 : Hid (Kept w w4) := by rw [← hw4]; exact KeptBut.new HKW3.out (setCell_but _ _ _ _) (by have := HWW.out; have := HBW.out; omega)
                          rw [hw4]
                          have c1 : w4.cell? ⟨gb, 1, none⟩ = some (.slice aN pn cN) := by simp [World.cell?, HM4.out.box]
                          have hgl4 : gb < w4.heap.size := (Array.getElem?_eq_some_iff.1 HM4.out.box).1
                          have hbs4 : base ≤ w4.heap.size := HM4.out.lo.2.2.2
                          have hgbb : gb < base := HM4.out.lo.1
                          have HVB4 : Hid (∀ k, Vb k → hw ≤ k ∧ k < w4.heap.size) := by rw [← hs4]; exact HVB.out
                          have HVD4 : Hid (∀ k, Vd k → hw ≤ k ∧ k < w4.heap.size) := by rw [← hs4]; exact HVD.out
                          clear hw4 hC4 z0 z1 hs4 HM3 HND HPD HVB HVD HNUM HKW3 hb3
                          go_upto_region 33 with (at_builtin; refine wpl_lo (E := ndE) rfl _ _ rfl base (.slice aN pn cN) P pn HPN.out rfl (HM4.out.nl.keep ((Kept.refl w4).alloc _ _)) w4.heap.size b rfl (World.alloc_heap_new w4 _) (by show (pn + 1) * 8 ≤ 140737488355328; omega) (by unfold maxLen; omega) (Nat.le_trans hbs4 (alloc_le w4 _)) ?_; intro g5 c5 w5 ho5 hg5 hor5 hl5; have hx5 : w5.heap[gb]? = some (.cells #[.pointer (some ⟨s, 0, none⟩), .slice aN pn cN, .slice aP pn cP] 32 (0, 0)) := ((hg5.block gb (Nat.lt_of_lt_of_le hgl4 (alloc_le w4 _)) (fun e => by have := (HM4.out.nl.lt' gb e.symm).1; omega)).trans ((heap_alloc_old w4 _ hgl4).trans HM4.out.box)); have y1 : w5.cell? ⟨gb, 1, none⟩ = some (.slice aN pn cN) := (by simp [World.cell?, hx5]); have f1 : w5.frozen? ⟨gb, 1, none⟩ = false := (by simp [World.frozen?, hx5]); have HO5 := hide1 ho5; have HG5 := hide1 hg5; have HOR5 := hide1 hor5; clear ho5 hg5 hor5 hl5 hx5)
                          obtain ⟨w6, hw6⟩ : ∃ w6, w5.setCell ⟨gb, 1, none⟩ (.slice (some ⟨g5, 0, none⟩) (pn + 1) c5) = w6 := ⟨_, rfl⟩
                          have hbP : b ∉ P := fun h => by have h1 := HU.out.vs b (HM4.out.nd b h).1; have h2 := (HVB4.out b HND4.out.1).1; omega
                          have hdQ : d ∉ Q := fun h => by have h1 := HU.out.vs d (HM4.out.pn d h).1; have h2 := (HVD4.out d HPD4.out.1).1; omega
                          have hA := gr_addN HM4.out (Vb := Vb) (fun k hk => ⟨by have := (HVB4.out k hk).1; have := HBW.out; omega, (HVB4.out k hk).2, fun e => by have h1 := HU.out.nl k e; have h2 := (HVB4.out k hk).1; omega, fun e => by have h1 := HU.out.pl k e; have h2 := (HVB4.out k hk).1; omega⟩) HND4.out hbP ((Kept.refl w4).alloc _ _) HO5.out HG5.out HOR5.out
                          rw [hw6] at hA
                          obtain ⟨hM6, hC6, hs6⟩ := hA
                          have hz6 : w6.heap.size = w5.heap.size := by rw [← hw6]; simp [World.setCell]
                          have HK6 : Hid (Kept w w6) := by rw [← hw6]; exact KeptBut.new (Kept.lob (gtrans HK4.out ((Kept.refl w4).alloc _ _)) (by have := HWW.out; omega) (HM4.out.nl.keep ((Kept.refl w4).alloc _ _)) HG5.out) (setCell_but _ _ _ _) (by have := HWW.out; omega)
                          have HPD6 : Hid (PnV Vd w6 d (withId Z id)) := HPD4.out.kx ⟨by omega, fun k hk => hC6 k (HVD4.out k hk).2 (by have h1 := HU.out.gb; have h2 := (HVD4.out k hk).1; omega) (fun e => by have h1 := HU.out.nl k e; have h2 := (HVD4.out k hk).1; omega)⟩
                          have hsa : (w4.alloc (.cells #[.pointer (some ⟨b, 0, none⟩)] 43)).heap.size = w4.heap.size + 1 := by simp
                          have HVD6 : Hid (∀ k, Vd k → base ≤ k ∧ k < w6.heap.size ∧ (Value.slice (some ⟨g5, 0, none⟩) (pn + 1) c5).ownBlock ≠ some k ∧ (Value.slice aP pn cP).ownBlock ≠ some k) := fun k hk => by
                            have h2 := HVD4.out k hk
                            have h3 := HBW.out
                            refine ⟨by omega, by omega, fun e => ?_, fun e => by have h1 := HU.out.pl k e; omega⟩
                            simp only [Value.ownBlock, Option.some.injEq] at e
                            subst e
                            rcases HOR5.out with h | h
                            · have h1 := HU.out.nl g5 h; omega
                            · rw [hsa] at h; omega
                          have HM6 := hide1 hM6
                          have c2 : w6.cell? ⟨gb, 2, none⟩ = some (.slice aP pn cP) := by simp [World.cell?, hM6.box]
                          have hgl6 : gb < w6.heap.size := (Array.getElem?_eq_some_iff.1 hM6.box).1
                          have hbs6 : base ≤ w6.heap.size := hM6.lo.2.2.2
                          rw [hw6]
                          have HQ6 := hide1 hdQ
                          have HP6 := hide1 hbP
                          clear hw6 hM6 hC6 hs6 hz6 hbP hdQ hsa y1 f1 c1 HO5 HG5 HOR5 HM4 HND4 HPD4 HVB4 HVD4 HK4
                          go_wp2_with (at_builtin; refine wpl_lo (E := pnE) rfl _ _ rfl base (.slice aP pn cP) Q pn HQN.out rfl (HM6.out.pl.keep ((Kept.refl w6).alloc _ _)) w6.heap.size d rfl (World.alloc_heap_new w6 _) (by show (pn + 1) * 8 ≤ 140737488355328; omega) (by unfold maxLen; omega) (Nat.le_trans hbs6 (alloc_le w6 _)) ?_; intro g7 c7 w7 ho7 hg7 hor7 hl7; have hx7 : w7.heap[gb]? = some (.cells #[.pointer (some ⟨s, 0, none⟩), .slice (some ⟨g5, 0, none⟩) (pn + 1) c5, .slice aP pn cP] 32 (0, 0)) := ((hg7.block gb (Nat.lt_of_lt_of_le hgl6 (alloc_le w6 _)) (fun e => by have := (HM6.out.pl.lt' gb e.symm).1; omega)).trans ((heap_alloc_old w6 _ hgl6).trans HM6.out.box)); have y2 : w7.cell? ⟨gb, 2, none⟩ = some (.slice aP pn cP) := (by simp [World.cell?, hx7]); have f2 : w7.frozen? ⟨gb, 2, none⟩ = false := (by simp [World.frozen?, hx7]); have HO7 := hide1 ho7; have HG7 := hide1 hg7; have HOR7 := hide1 hor7; clear ho7 hg7 hor7 hl7 hx7)
                          obtain ⟨w8, hw8⟩ : ∃ w8, w7.setCell ⟨gb, 2, none⟩ (.slice (some ⟨g7, 0, none⟩) (pn + 1) c7) = w8 := ⟨_, rfl⟩
                          have hA := gr_addP HM6.out (Vd := Vd) HVD6.out HPD6.out HQ6.out ((Kept.refl w6).alloc _ _) HO7.out HG7.out HOR7.out
                          have HK8 : Hid (Kept w w8) := by rw [← hw8]; exact KeptBut.new (Kept.lob (gtrans HK6.out ((Kept.refl w6).alloc _ _)) (by have := HWW.out; omega) (HM6.out.pl.keep ((Kept.refl w6).alloc _ _)) HG7.out) (setCell_but _ _ _ _) (by have := HWW.out; omega)
                          rw [hw8] at hA
                          have HFIN : Hid (GrI base gb s (i + 1) w8 ∧ Kept w w8) := ⟨⟨_, _, _, _, _, _, _, by rw [List.length_append, HPN.out]; exact hA.1, HTA.out HP6.out HQ6.out, by rw [List.length_append, HPN.out, List.length_singleton]; omega⟩, HK8.out⟩
                          rw [hw8]
                          exact ⟨⟨i + 1, by omega, by omega, by simp, HFIN⟩, by simp [intOf] <;> omega⟩
                      · have HFIN2 : Hid (GrI base gb s (i + 1) wm ∧ Kept w wm) := ⟨HFIN.out.1.keep HK3.out, gtrans HFIN.out.2 HK3.out⟩
                        clear z0 z1 y0
                        go_wp2_with fail
                        exact ⟨⟨i + 1, by omega, by omega, by simp, HFIN2⟩, by simp [intOf] <;> omega⟩
                    · have HMD := hide1 (madeP_full X kd n (.slice a10 j c10) (js.map (atL Q)) wr wx.heap.size ho10 (by rw [hjl]; omega) hPA hSZ hgood (by omega))
                      clear hjs hjr ho9 ho10 hkq hsz hap hMq hQm hPm hPA hSZ hjl hgood hK
                      go_wp2_with (go_at_call 15; refine HMD.out.mono ?_; rintro e wm ⟨rfl, h9⟩; replace h9 := h9.symm; subst h9)
                      exact ⟨⟨i + 1, by omega, by omega, by simp, HFIN⟩, by simp [intOf] <;> omega⟩
                  · have HMD := hide1 (madeP_bad kd n (.slice a10 j c10) wr hgood)
                    clear hjs hjr ho9 ho10 hkq hsz hap hMq hQm hPm hPA hSZ hjl hgood hK
                    by_cases h15 : sz ≤ 1500
                    · go_wp2_with (go_at_call 15; refine HMD.out.mono ?_; rintro e wm ⟨rfl, h9⟩; replace h9 := h9.symm; subst h9)
                      exact ⟨⟨i + 1, by omega, by omega, by simp, HFIN⟩, by simp [intOf] <;> omega⟩
                    · go_wp2_with (go_at_call 15; refine HMD.out.mono ?_; rintro e wm ⟨rfl, h9⟩; replace h9 := h9.symm; subst h9)
                      exact ⟨⟨i + 1, by omega, by omega, by simp, HFIN⟩, by simp [intOf] <;> omega⟩
    · have hI2 : GrI base gb s 200 wr := hI.out.1.more hi2
      have HI := hide1 hI.out
      have HI2 := hide1 hI2
      clear hI hI2
      by_cases h1 : i < m
      · have h2 : ¬ (i : Int) < 200 := by omega
        have h3 : (i : Int) < (m : Int) := by omega
        go_wp2_with fail
        go_ret2
        exact ⟨gb, base, s, rfl, HI2.out, HI.out.2, by have := HBA.out; omega, hgw, by have := HS.out; omega⟩
      · have h3 : ¬ (i : Int) < (m : Int) := by omega
        go_wp2_with fail
        go_ret2
        exact ⟨gb, base, s, rfl, HI2.out, HI.out.2, by have := HBA.out; omega, hgw, by have := HS.out; omega⟩

end Tr
end Ex
end Go.Proofs.Yteckbpmliahhhaa
