import Derived.Test.YtnjmbijebckncabMDeGm
import Derived.Test.YtnjmbijebckncabMDeSp
import Derived.Test.YtnjmbijebckncabMDeLl
import Derived.Test.YtnjmbijebckncabMDeGr
namespace Go.Proofs.Ytnjmbijebckncab
open Go.RowKit
set_option linter.unusedVariables false
namespace Ex
namespace Tr

section
variable {base gb s : Nat} {V : Nat → Prop} {P Q : List Nat} {N : Nat → Nd} {X : Nat → Pn} {m : Nat} {vN vP : Value} {w : World}
theorem gr_inj (hT : Tw s P Q N X) {c d : Nat} (hc : c ∈ P) (hd : d ∈ P) (h : (N c).num = (N d).num) : c = d := by
  obtain ⟨i, hi, e1, h1⟩ := hT.ofP hc
  obtain ⟨j, hj, e2, h2⟩ := hT.ofP hd
  have h3 := h1.num.1
  have h4 := h2.num.1
  have : i = j := by omega
  subst this
  rw [e1, e2]
theorem gr_numle (hT : Tw s P Q N X) {c : Nat} (hc : c ∈ P) : (N c).num ≤ P.length := by
  obtain ⟨i, hi, e1, h1⟩ := hT.ofP hc
  have h3 := h1.num.1
  omega
theorem gr_size' (hT : Tw s P Q N X) {c : Nat} (hc : c ∈ P) : (N c).size ≤ 1500 := by
  obtain ⟨i, hi, e1, h1⟩ := hT.ofP hc
  exact h1.2.1
theorem gr_fo (hM : GrM base gb s V P Q N X m vN vP w) (hT : Tw s P Q N X) : FoOk P N s := fun b hb => by
  obtain ⟨_, h2, h3, h4, h5⟩ := gr_forest hM hT b hb
  refine ⟨h2, h3, h4, h5, ?_⟩
  obtain ⟨i, hi, rfl, _, _, _, hh⟩ := hT.ofP hb
  rcases hh with ⟨l0, l1, l2, l3, e, _⟩ | ⟨kd, n, js, q0, qj, e, _⟩ <;> rw [e] <;> rfl
theorem gr_src (hM : GrM base gb s V P Q N X m vN vP w) (hT : Tw s P Q N X) {a : Nat} (ha : a ∈ P) : SrcOk P N (nodeF N (walkL N a)) s := by
  have hF := gr_forest hM hT
  have hone : ∀ p ∈ [a], p ∈ P := fun p hp => by rw [List.mem_singleton.1 hp]; exact ha
  refine ⟨gr_fo hM hT, fun c hc hk => ?_, fun c hc hk => ?_, fun c hc hf => ?_⟩
  · obtain ⟨i, hi, rfl, _, _, _, hh⟩ := hT.ofP hc
    rcases hh with ⟨l0, l1, l2, l3, e, _⟩ | ⟨kd, n, js, q0, qj, e, _⟩
    · rw [e]; exact ⟨rfl, rfl⟩
    · rw [e] at hk; exact absurd hk (may_kd q0).1
  · obtain ⟨i, hi, rfl, _, _, _, hh⟩ := hT.ofP hc
    rcases hh with ⟨l0, l1, l2, l3, e, _⟩ | ⟨kd, n, js, q0, qj, e, _⟩
    · rw [e] at hk; exact absurd rfl hk
    · rw [e]; exact ⟨q0, rfl, rfl⟩
  · obtain ⟨c', hc'⟩ := Option.isSome_iff_exists.1 hf
    obtain ⟨h1, q, hq, h2⟩ := nodeF_some hc'
    have hin : c' ∈ wlB N [a] := by
      rw [wlB_one, ← h2]
      exact List.mem_map_of_mem hq
    have hcP : c' ∈ P := wlB_in hF _ [a] rfl hone c' hin
    have hcc : c' = c := gr_inj hT hcP hc (by omega)
    subst hcc
    refine ⟨hc', fun x hx => ?_⟩
    have hxa : x ∈ wlB N [a] := wlB_trans hF _ [a] rfl hone c' hin x hx
    rw [nodeF_has]
    rw [wlB_one] at hxa
    obtain ⟨r, hr, he⟩ := List.mem_map.1 hxa
    exact List.mem_map.2 ⟨r, hr, by rw [he]⟩
theorem gr_self (hM : GrM base gb s V P Q N X m vN vP w) (hT : Tw s P Q N X) {b : Nat} (hb : b ∈ P) : stp N (nodeF N (walkL N b)) b = [⟨1, ((N b).num : Int), 0, 0, 0, 0, 0, 0, 0⟩] := by
  have hF := gr_forest hM hT
  rw [stp_eq hF _ hb, if_pos]
  rw [nodeF_has, ← wnB_one, wnB_node hF hb]
  exact Or.inl rfl
/-- What the rows of a tree and of its copy tell. -/
theorem cp_rows {N' : Nat → Nd} {f : Int → Option Nat} {M0 b c : Nat} (h : RelL N N' f M0 (wlB N [b]) (wlB N' [c])) : (rowsN N' c).length = (rowsN N b).length ∧ ∀ (i : Nat) (x y : Nd), (rowsN N' c)[i]? = some x → (rowsN N b)[i]? = some y → (x.kind = y.kind ∧ x.n = y.n ∧ x.l1 = y.l1 ∧ x.l2 = y.l2 ∧ x.kids.length = y.kids.length) ∧ ((f (y.num : Int)).isSome = true → x.num = y.num) ∧ (¬ (f (y.num : Int)).isSome = true → M0 < x.num) := by
  rw [rowsN_at, rowsN_at]
  refine ⟨by rw [List.length_map, List.length_map]; exact h.len, fun i x y hx hy => ?_⟩
  rw [List.getElem?_map] at hx hy
  obtain ⟨p, hp, rfl⟩ := Option.map_eq_some_iff.1 hx
  obtain ⟨q, hq, rfl⟩ := Option.map_eq_some_iff.1 hy
  obtain ⟨h1, h2, h3, h4, h5, h6, h7⟩ := h.at' i q p hq hp
  exact ⟨⟨h1, h2, h3, h4, h5⟩, h6, h7⟩
theorem rowsN_in (hM : GrM base gb s V P Q N X m vN vP w) (hT : Tw s P Q N X) {b : Nat} (hb : b ∈ P) {y : Nd} (hy : y ∈ rowsN N b) : ∃ c ∈ P, y = N c := by
  rw [rowsN_at] at hy
  obtain ⟨c, hc, rfl⟩ := List.mem_map.1 hy
  exact ⟨c, wlB_in (gr_forest hM hT) _ [b] rfl (fun p hp => by rw [List.mem_singleton.1 hp]; exact hb) c hc, rfl⟩
/-- Which numbers the older tree has. -/
theorem olds_has (N : Nat → Nd) (a : Nat) (y : Int) : decide (y ∈ (rowsN N a).map fun x => (x.num : Int)) = (nodeF N (walkL N a) y).isSome := by
  rw [Bool.eq_iff_iff, decide_eq_true_eq, nodeF_has]
  unfold rowsN
  rw [List.map_map]
  rfl
end

end Tr
end Ex
end Go.Proofs.Ytnjmbijebckncab
namespace Go.Proofs.Ytnjmbijebckncab
open Go.RowKit
attribute [local go_sem] Oper.semAt_some
namespace Ex
namespace Tr

/-- Between two pairs. -/
def MkJ (base gb s : Nat) (V : Nat → Prop) (P Q : List Nat) (N : Nat → Nd) (X : Nat → Pn) (vN vP : Value) (w : World) (i : Nat) (wr : World) : Prop := ∃ m, GrM base gb s V P Q N X m vN vP wr ∧ P.length ≤ m ∧ m ≤ P.length + 1500 * i ∧ Kept w wr
set_option linter.unusedSimpArgs false in
set_option maxRecDepth 100000 in
set_option maxHeartbeats 20000000 in
theorem lawMakes (v0 v1 : Value) (ps : List (Int × Int)) (w : World) (hGr : Calls Try.prog 7 #[v0] w (GroveOut w)) (h1 : PairsIn w v1 ps) :
    Calls Try.prog 4 #[v0, v1] w fun e w' => e = .returned (.bool true) ∧ Kept w w' := by
  obtain ⟨np, hnp⟩ : ∃ n, ps.length = n := ⟨_, rfl⟩
  obtain ⟨pa, pc, rfl, hp1, hp2⟩ : ∃ a c, v1 = .slice a np c ∧ np ≤ c ∧ np ≤ 17592186044416 := by
    obtain ⟨a, c, h2, h3, h4, _⟩ := h1
    rw [hnp] at h2 h3 h4
    exact ⟨a, c, h2, h3, h4⟩
  have HPS := hide1 h1
  have HNP := hide1 hnp
  have HGR := hide1 hGr
  have hpI : (np : Int) ≤ (pc : Int) := by omega
  have hpI2 : (np : Int) ≤ 17592186044416 := by omega
  clear h1 hnp hGr hp1 hp2
  go_enter Try.func4, Try.ntmps4
  go_wp2_with (go_at_call 7; refine HGR.out.mono ?_; rintro e w1 ⟨gb, base, s, rfl, hI, hk1, _, _, hws⟩; have HI := hide1 hI; have HK1 := hide1 hk1; have HWS := hide1 hws; clear hI hk1 hws)
  obtain ⟨V, P, Q, N, X, vN, vP, hM, hT, hPi⟩ := HI.out
  obtain ⟨pn, hpn⟩ : ∃ pn, P.length = pn := ⟨_, rfl⟩
  have hqn : Q.length = pn := by rw [← hT.1]; exact hpn
  obtain ⟨aN, cN, rfl⟩ : ∃ a c, vN = .slice a pn c := by rw [← hpn]; exact hM.nl.form
  obtain ⟨aP, cP, rfl⟩ : ∃ a c, vP = .slice a pn c := by rw [← hqn]; exact hM.pl.form
  have HT := hide1 hT
  have HPN := hide1 hpn
  have HQN := hide1 hqn
  have hpnI : (pn : Int) ≤ 200 := by omega
  have HJ0 : Hid (MkJ base gb s V P Q N X (.slice aN pn cN) (.slice aP pn cP) w 0 w1) := ⟨_, hM, Nat.le_refl _, by omega, HK1.out⟩
  clear hM hT hpn hqn HI HGR HK1
  go_loopw [7] (fun v7 wr => ∃ i : Nat, i ≤ np ∧ v7 = .int .i64 (i : Int) ∧ Hid (MkJ base gb s V P Q N X (.slice aN pn cN) (.slice aP pn cP) w i wr)) (fun v7 _ => np - (intOf v7).toNat)
  case atStart => exact ⟨0, Nat.zero_le _, rfl, HJ0⟩
  case round =>
    obtain ⟨i, hi, rfl, HJ⟩ := hrel
    obtain ⟨m, hMr, hm0, hm1, hkr⟩ := HJ.out
    have y1 : wr.cell? ⟨gb, 1, none⟩ = some (.slice aN pn cN) := by simp [World.cell?, hMr.box]
    by_cases hgo : i < np ∧ 0 < pn
    · obtain ⟨hi1, hp1⟩ := hgo
      obtain ⟨x, hx⟩ : ∃ x, ps[i]? = some x := ⟨_, List.getElem?_eq_getElem (by rw [HNP.out]; exact hi1)⟩
      obtain ⟨pg, po, rfl, t0, t1⟩ := (HPS.out.keep hkr).at' hx
      obtain ⟨x0, x1⟩ := x
      dsimp only at t0 t1
      have HW0 : Hid (∀ W, Calls Try.prog 8 #[.int .i64 x0, .int .i64 (pn : Int)] W fun e w' => e = .returned (.int .i64 (wiN x0 pn : Int)) ∧ w' = W) := fun W => withinD_is x0 pn W hp1 (by omega)
      have HW1 : Hid (∀ W, Calls Try.prog 8 #[.int .i64 x1, .int .i64 (pn : Int)] W fun e w' => e = .returned (.int .i64 (wiN x1 pn : Int)) ∧ w' = W) := fun W => withinD_is x1 pn W hp1 (by omega)
      have hra := wiN_lt x0 hp1
      have hrb := wiN_lt x1 hp1
      obtain ⟨ra, hra2⟩ : ∃ r, wiN x0 pn = r := ⟨_, rfl⟩
      obtain ⟨rb, hrb2⟩ : ∃ r, wiN x1 pn = r := ⟨_, rfl⟩
      rw [hra2] at HW0 hra
      rw [hrb2] at HW1 hrb
      have hi1I : (i : Int) < (np : Int) := by omega
      have hp1I : (0 : Int) < (pn : Int) := by omega
      have hraI : (ra : Int) < (pn : Int) := by omega
      have hrbI : (rb : Int) < (pn : Int) := by omega
      obtain ⟨a, ha⟩ : ∃ b, P[ra]? = some b := ⟨_, List.getElem?_eq_getElem (by rw [HPN.out]; exact hra)⟩
      obtain ⟨b, hb⟩ : ∃ b, P[rb]? = some b := ⟨_, List.getElem?_eq_getElem (by rw [HPN.out]; exact hrb)⟩
      obtain ⟨da, hda⟩ : ∃ b, Q[ra]? = some b := ⟨_, List.getElem?_eq_getElem (by rw [HQN.out]; exact hra)⟩
      obtain ⟨db, hdb⟩ : ∃ b, Q[rb]? = some b := ⟨_, List.getElem?_eq_getElem (by rw [HQN.out]; exact hrb)⟩
      obtain ⟨gN, gP, rfl, rfl, u1, u2⟩ := gr_read hMr ha hda
      obtain ⟨gN', gP', hgN', hgP', u3, u4⟩ := gr_read hMr hb hdb
      injection hgN' with hgN'
      injection hgN' with hgN'
      subst hgN'
      have HA : Hid (a ∈ P) := List.mem_of_getElem? ha
      have HB : Hid (b ∈ P) := List.mem_of_getElem? hb
      have HMR := hide1 hMr
      have HKR := hide1 hkr
      have HMM : Hid (pn ≤ m ∧ m ≤ pn + 1500 * i) := (by rw [HPN.out] at hm0 hm1; exact ⟨hm0, hm1⟩ : pn ≤ m ∧ m ≤ pn + 1500 * i)
      clear hx hra2 hrb2 ha hb hda hdb u2 u4 hgP' hMr hkr hm0 hm1 HJ
      go_upto_region 5 with fail
      go_quiet ((go_at_call 8; exact Calls.quiet_of_same (HW0.out _)))
      obtain ⟨wq, hwq⟩ : ∃ wq, wr.drewN nq = wq := ⟨_, rfl⟩
      have hkq : Kept wr wq := by rw [← hwq]; exact drewN_kept _ _
      rw [hwq]
      have y1' := grown_cell hkq y1
      have t1' := grown_cell hkq t1
      have u3' := grown_cell hkq u3
      have HKQ := hide1 hkq
      clear hwq y1 t0 t1 u1 u3 hkq nq
      go_upto_region 6 with fail
      go_quiet ((go_at_call 8; exact Calls.quiet_of_same (HW1.out _)))
      obtain ⟨wz, hwz⟩ : ∃ wz, wq.drewN nq = wz := ⟨_, rfl⟩
      have hkz : Kept wr wz := gtrans HKQ.out (by rw [← hwz]; exact drewN_kept _ _)
      rw [hwz]
      have hMz := HMR.out.keep hkz
      have hFz := gr_forest hMz HT.out
      obtain ⟨SS, hSS⟩ : ∃ SS, stp N (nodeF N (walkL N a)) b = SS := ⟨_, rfl⟩
      obtain ⟨L, hL⟩ : ∃ L, SS.length = L := ⟨_, rfl⟩
      have hLe : L ≤ 1500 := by
        rw [← hL, ← hSS]
        have h1 := stp_len hFz (nodeF N (walkL N a)) (N b).size b HB.out (Nat.le_refl _)
        have h2 := gr_size' HT.out HB.out
        omega
      have HSC := hide1 (script_is (fun b => b ∈ P) N wz.heap.size a b wz hFz (gr_num HT.out (by rw [HPN.out]; omega)) HA.out HB.out (Nat.le_refl _))
      rw [hSS] at HSC
      have HSS := hide1 hSS
      have HL := hide1 hL
      have HMZ := hide1 hMz
      have HKZ := hide1 (gtrans HKR.out hkz)
      clear hwz y1' t1' u3' nq hkz hMz hFz hSS hL HMR HKQ HKR
      go_upto_region 8 with (go_at_call 11; refine HSC.out.mono ?_; rintro e w3 ⟨v3, rfl, ho3, hk3⟩; obtain ⟨a3, c3, rfl⟩ := ho3.form; rw [HL.out] at ho3 ⊢; have HO3 := hide1 ho3; have HK3 := hide1 hk3; clear ho3 hk3)
      have hM3 := HMZ.out.keep HK3.out
      have y0 : w3.cell? ⟨gb, 0, none⟩ = some (.pointer (some ⟨s, 0, none⟩)) := by simp [World.cell?, hM3.box]
      have HAP : Hid (Calls Try.prog 12 #[.pointer (some ⟨s, 0, none⟩), .pointer (some ⟨a, 0, none⟩), .slice a3 L c3] w3 (ApOut P N (nodeF N (walkL N a)) m s b L w3)) := by
        have h9 := applyD_ok P N V s m a b wz.heap.size (.slice a3 L c3) w3 (fun k hk => ⟨(hM3.vs k hk).2.1, by have h1 := (hM3.vs k hk).1; have h2 := hM3.lo.2.1; omega⟩) hM3.nd hM3.st (by have := HMM.out; omega) (gr_src hM3 HT.out HA.out) (gr_num HT.out (by rw [HPN.out]; omega)) HA.out HB.out (by rw [HSS.out]; exact HO3.out) (by have h1 := HMZ.out.lo; omega)
        rw [HSS.out, HL.out] at h9
        exact h9
      have HM3 := hide1 hM3
      clear hM3
      go_upto_region 11 with (go_at_call 12; refine HAP.out.mono ?_; rintro e w4 ⟨c, V', S, N', m', rfl, hk4, hst4, hm4, hm5, hnd4, hv4, hfo4, hP4, hc4, hrl4⟩; have HK4 := hide1 hk4; have HST4 := hide1 hst4; have HM45 : Hid (m ≤ m' ∧ m' ≤ m + L) := ⟨hm4, hm5⟩; have HND4 := hide1 hnd4; have HV4 := hide1 hv4; have HFO4 := hide1 hfo4; have HC4 := hide1 hc4; have HRL4 := hide1 hrl4; clear hk4 hst4 hm4 hm5 hnd4 hv4 hfo4 hP4 hc4 hrl4)
      have hM4 := HM3.out.but HK4.out HST4.out
      have hF4 := gr_forest hM4 HT.out
      have hKW4 : Kept w w4 := KeptBut.new (gtrans HKZ.out HK3.out) HK4.out HWS.out
      have HNB := hide1 (numbersL_is (fun b => b ∈ P) N w4.heap.size a w4 hF4 HA.out (Nat.le_refl _))
      have HRC : Hid (∀ W, Kept w4 W → Calls Try.prog 14 #[.pointer (some ⟨c, 0, none⟩)] W fun e w' => (∃ v, e = .returned v ∧ LO rwE w' W.heap.size v (rowsN N' c)) ∧ Kept W w') := fun W hW => by
        have hF := HFO4.out.forest (V := V') (w := W) (fun d hd => (HND4.out d hd).kx ⟨hW.size, fun k hk => hW.2.2.2.2 k (HV4.out k hk)⟩) (B := W.heap.size) (fun k hk => Nat.lt_of_lt_of_le (HV4.out k hk) hW.size)
        refine (rowsF_is (fun d => d ∈ S) N' W.heap.size c W hF HC4.out (Nat.le_refl _)).mono ?_
        rintro e w' ⟨⟨v, h2, h3⟩, h4⟩
        exact ⟨⟨v, h2, h3.lo⟩, h4⟩
      have HRB : Hid (∀ W, Kept w4 W → Calls Try.prog 14 #[.pointer (some ⟨b, 0, none⟩)] W fun e w' => (∃ v, e = .returned v ∧ LO rwE w' W.heap.size v (rowsN N b)) ∧ Kept W w') := fun W hW => by
        refine (rowsF_is (fun d => d ∈ P) N W.heap.size b W (gr_forest (hM4.keep hW) HT.out) HB.out (Nat.le_refl _)).mono ?_
        rintro e w' ⟨⟨v, h2, h3⟩, h4⟩
        exact ⟨⟨v, h2, h3.lo⟩, h4⟩
      obtain ⟨hrl, hrr⟩ := cp_rows HRL4.out
      have hr4 : (rowsN N b).length ≤ 4194304 := by
        unfold rowsN walkL
        rw [List.length_map]
        have h2 := wl_len N (N b).size [b] 0
        have h3 := (hF4 b HB.out).2.1.2.1
        omega
      have ho4 : ((rowsN N a).map fun x => (x.num : Int)).length ≤ 4194304 := by
        unfold rowsN walkL
        rw [List.length_map, List.length_map]
        have h2 := wl_len N (N a).size [a] 0
        have h3 := (hF4 a HA.out).2.1.2.1
        omega
      obtain ⟨L2, hL2⟩ : ∃ L2, (rowsN N b).length = L2 := ⟨_, rfl⟩
      obtain ⟨L1, hL1⟩ : ∃ L1, ((rowsN N a).map fun x => (x.num : Int)).length = L1 := ⟨_, rfl⟩
      rw [hL2] at hrl hr4
      rw [hL1] at ho4
      have HL2 := hide1 hL2
      have HLC := hide1 hrl
      have HL1 := hide1 hL1
      have HRR := hide1 hrr
      have HM4 := hide1 hM4
      have HKW4 := hide1 hKW4
      have hL2I : (L2 : Int) ≤ 4194304 := by omega
      have hL1I : (L1 : Int) ≤ 4194304 := by omega
      clear hM4 hF4 hKW4 hrl hrr hL2 hL1 y0 HAP HM3 HMZ HSC HO3 HK3 HKZ HK4 HST4 HND4 HV4 HFO4 HC4 HRL4
      go_upto_region 12 with (go_at_call 13; refine HNB.out.mono ?_; rintro e w5 ⟨⟨v5, rfl, ho5⟩, hk5⟩; obtain ⟨a5, c5, rfl⟩ := ho5.form; rw [HL1.out] at ho5 ⊢; have HO5 := hide1 ho5; have HK5 := hide1 hk5; clear ho5 hk5)
      go_upto_region 13 with (go_at_call 14; refine (HRC.out w5 HK5.out).mono ?_; rintro e w6 ⟨⟨v6, rfl, ho6⟩, hk6⟩; obtain ⟨a6, c6, rfl⟩ := ho6.form; rw [HLC.out] at ho6 ⊢; have HO6 := hide1 ho6; have HK6 := hide1 hk6; clear ho6 hk6)
      go_upto_region 14 with (go_at_call 14; refine (HRB.out w6 (gtrans HK5.out HK6.out)).mono ?_; rintro e w7 ⟨⟨v7, rfl, ho7⟩, hk7⟩; obtain ⟨a7, c7, rfl⟩ := ho7.form; rw [HL2.out] at ho7 ⊢; have HO7 := hide1 ho7; have HK7 := hide1 hk7; clear ho7 hk7)
      have HRW := hide1 (rowsD_is a6 a7 c6 c7 L2 _ _ (rowsN N' c) (rowsN N b) w7 HLC.out HL2.out hr4 (HO6.out.keep HK7.out) HO7.out (fun i x y hx hy => (HRR.out i x y hx hy).1))
      go_wp2_with (go_at_call 15; refine HRW.out.mono ?_; rintro e w8 ⟨rfl, hk8⟩; have HK8 := hide1 hk8; clear hk8)
      have HK48 : Hid (Kept w4 w8) := gtrans HK5.out (gtrans HK6.out (gtrans HK7.out HK8.out))
      have HOL := hide1 (HO5.out.keep (gtrans HK6.out (gtrans HK7.out HK8.out)))
      have HOX := hide1 (HO6.out.keep (gtrans HK7.out HK8.out))
      have HOY := hide1 (HO7.out.keep HK8.out)
      have HK88 := hide1 (Kept.refl w8)
      clear HNB HRC HRB HRW HO5 HO6 HO7 HK5 HK6 HK7 HK8
      go_loopw [16] (fun v16 wr => ∃ k : Nat, k ≤ L2 ∧ v16 = .int .i64 (k : Int) ∧ Hid (Kept w8 wr)) (fun v16 _ => L2 - (intOf v16).toNat)
      case atStart => exact ⟨0, Nat.zero_le _, rfl, HK88⟩
      case round =>
        obtain ⟨k, hk, rfl, HKw⟩ := hrel
        by_cases hkL : k < L2
        · obtain ⟨x, hx⟩ : ∃ x, (rowsN N' c)[k]? = some x := ⟨_, List.getElem?_eq_getElem (by rw [HLC.out]; exact hkL)⟩
          obtain ⟨y, hy⟩ : ∃ y, (rowsN N b)[k]? = some y := ⟨_, List.getElem?_eq_getElem (by rw [HL2.out]; exact hkL)⟩
          obtain ⟨g6, rfl, _, _, _, _, _, e5⟩ := lo_row (HOX.out.keep HKw.out) hx
          obtain ⟨g7, rfl, _, _, _, _, _, d5⟩ := lo_row (HOY.out.keep HKw.out) hy
          obtain ⟨_, hyes, hno⟩ := HRR.out k x y hx hy
          obtain ⟨cy, hcy, hey⟩ := rowsN_in HM4.out HT.out HB.out (List.mem_of_getElem? hy)
          have hle := gr_numle HT.out hcy
          rw [← hey, HPN.out] at hle
          have hmm := HMM.out
          have HHS : Hid (∀ (z : Int) W, Kept w8 W → Calls Try.prog 16 #[.slice a5 L1 c5, .int .i64 z] W fun e w' => e = .returned (.bool (nodeF N (walkL N a) z).isSome) ∧ w' = W) := fun z W hW => by
            have h9 := has_is a5 c5 L1 _ _ z W HL1.out ho4 (HOL.out.keep hW)
            rw [olds_has] at h9
            exact h9
          have hkI : (k : Int) < (L2 : Int) := by omega
          by_cases hs : (nodeF N (walkL N a) (y.num : Int)).isSome = true
          · as_aux_lemma =>
              have hxy := hyes hs
              rw [hxy] at e5
              obtain ⟨ny, hny⟩ : ∃ z : Int, (y.num : Int) = z := ⟨_, rfl⟩
              rw [hny] at e5 d5 hs
              have HY : Hid (∀ W, Kept w8 W → Calls Try.prog 16 #[.slice a5 L1 c5, .int .i64 ny] W fun e w' => e = .returned (.bool true) ∧ w' = W) := fun W hW => by have h9 := HHS.out ny W hW; rw [hs] at h9; exact h9
              clear hx hy hyes hno hey hcy hle hmm hxy hny hs HHS
              go_upto_region 19 with fail
              go_quiet ((go_at_call 16; exact Calls.quiet_of_same (HY.out _ (gtrans HKw.out (drewN_kept _ _)))))
              have HFIN : Hid (Kept w8 (wr.drewN nq)) := gtrans HKw.out (drewN_kept _ _)
              clear e5 d5
              go_wp2_with fail
              exact ⟨⟨k + 1, by omega, by simp, HFIN⟩, by simp [intOf] <;> omega⟩
          · as_aux_lemma =>
              have hxm := hno hs
              have hsx : ¬ (nodeF N (walkL N a) (x.num : Int)).isSome = true := fun h => by
                rw [nodeF_has] at h
                have h9 : (x.num : Int) ∈ (rowsN N a).map fun x => (x.num : Int) := by unfold rowsN; rw [List.map_map]; exact h
                obtain ⟨z, hz, he⟩ := List.mem_map.1 h9
                obtain ⟨cz, hcz, hez⟩ := rowsN_in HM4.out HT.out HA.out hz
                have h8 := gr_numle HT.out hcz
                rw [← hez, HPN.out] at h8
                have he2 : (z.num : Int) = (x.num : Int) := he
                omega
              have hne : ¬ (x.num : Int) = (y.num : Int) := by omega
              obtain ⟨nx, hnx⟩ : ∃ z : Int, (x.num : Int) = z := ⟨_, rfl⟩
              obtain ⟨ny, hny⟩ : ∃ z : Int, (y.num : Int) = z := ⟨_, rfl⟩
              rw [hnx] at e5 hsx hne
              rw [hny] at d5 hs hne
              have eB : (nx == ny) = false := by simp; exact hne
              have HXY : Hid (∀ (z : Int) W, z = nx ∨ z = ny → Kept w8 W → Calls Try.prog 16 #[.slice a5 L1 c5, .int .i64 z] W fun e w' => e = .returned (.bool false) ∧ w' = W) := fun z W hz hW => by
                have h9 := HHS.out z W hW
                rcases hz with rfl | rfl
                · rw [Bool.eq_false_iff.2 hsx] at h9; exact h9
                · rw [Bool.eq_false_iff.2 hs] at h9; exact h9
              clear hx hy hyes hno hey hcy hle hmm hxm hsx hne hnx hny hs HHS
              go_upto_region 19 with fail
              go_quiet ((go_at_call 16; exact Calls.quiet_of_same (HXY.out _ _ (by first | exact Or.inr rfl | exact Or.inl rfl) (gtrans HKw.out (drewN_kept _ _)))))
              have HFIN : Hid (Kept w8 (wr.drewN nq)) := gtrans HKw.out (drewN_kept _ _)
              clear e5 d5
              go_wp2_with fail
              exact ⟨⟨k + 1, by omega, by simp, HFIN⟩, by simp [intOf] <;> omega⟩
        · as_aux_lemma =>
            have hkI : ¬ (k : Int) < (L2 : Int) := by omega
            have hMw := HM4.out.keep (gtrans HK48.out HKw.out)
            have hFw := gr_forest hMw HT.out
            have HSB := hide1 (script_is (fun b => b ∈ P) N wr.heap.size b b wr hFw (gr_num HT.out (by rw [HPN.out]; omega)) HB.out HB.out (Nat.le_refl _))
            rw [gr_self hMw HT.out HB.out] at HSB
            have HMW := hide1 hMw
            clear hMw hFw
            go_upto_region 22 with (go_at_call 11; refine HSB.out.mono ?_; rintro e w9 ⟨v9, rfl, ho9, hk9⟩; obtain ⟨g9, hg9⟩ := LO.some' ho9 (by simp); obtain ⟨c9, rfl⟩ := hg9; have HO9 := hide1 ho9; have HK9 := hide1 hk9; clear ho9 hk9)
            have hM9 := HMW.out.keep HK9.out
            have HNUM : Hid (∀ W, Kept w9 W → Calls Try.prog 17 #[.pointer (some ⟨b, 0, none⟩)] W fun e w' => e = .returned (.int .i64 ((N b).num : Int)) ∧ w' = W) := fun W hW => number_is (B := W.heap.size) (x := N b) ((gr_forest (hM9.keep hW) HT.out b HB.out).1)
            obtain ⟨nb, hnb⟩ : ∃ z : Int, ((N b).num : Int) = z := ⟨_, rfl⟩
            rw [hnb] at HNUM
            have ho9 := HO9.out
            rw [hnb] at ho9
            have q0 : w9.cell? ⟨g9, 0, none⟩ = some (.int .i64 1) := LO.cell ho9 (i := 0) (j := 0) rfl rfl
            have q1 : w9.cell? ⟨g9, 1, none⟩ = some (.int .i64 nb) := LO.cell ho9 (i := 0) (j := 1) rfl rfl
            have q2 : w9.cell? ⟨g9, 2, none⟩ = some (.int .i64 0) := LO.cell ho9 (i := 0) (j := 2) rfl rfl
            have q3 : w9.cell? ⟨g9, 3, none⟩ = some (.int .i64 0) := LO.cell ho9 (i := 0) (j := 3) rfl rfl
            have q4 : w9.cell? ⟨g9, 4, none⟩ = some (.int .i64 0) := LO.cell ho9 (i := 0) (j := 4) rfl rfl
            have q5 : w9.cell? ⟨g9, 5, none⟩ = some (.int .i64 0) := LO.cell ho9 (i := 0) (j := 5) rfl rfl
            have q6 : w9.cell? ⟨g9, 6, none⟩ = some (.int .i64 0) := LO.cell ho9 (i := 0) (j := 6) rfl rfl
            have q7 : w9.cell? ⟨g9, 7, none⟩ = some (.int .i64 0) := LO.cell ho9 (i := 0) (j := 7) rfl rfl
            have q8 : w9.cell? ⟨g9, 8, none⟩ = some (.int .i64 0) := LO.cell ho9 (i := 0) (j := 8) rfl rfl
            have hc9 : (1 : Int) ≤ (c9 : Int) := by have h9 := ho9.cap; simp at h9; omega
            have HM9 := hide1 hM9
            clear ho9 hM9 hnb
            go_quiet ((go_at_call 17; exact Calls.quiet_of_same (HNUM.out _ (drewN_kept _ _))))
            have HFIN : Hid (MkJ base gb s V P Q N X (.slice (some ⟨gN, 0, none⟩) pn cN) (.slice (some ⟨gP, 0, none⟩) pn cP) w (i + 1) (w9.drewN nq)) := by
              have h1 := HMM.out
              have h2 := HM45.out
              have h3 := HPN.out
              exact ⟨m', HM9.out.keep (drewN_kept _ _), by omega, by omega, gtrans HKW4.out (gtrans HK48.out (gtrans HKw.out (gtrans HK9.out (drewN_kept _ _))))⟩
            clear q0 q1 q2 q3 q4 q5 q6 q7 q8
            go_wp2_with fail
            exact ⟨⟨i + 1, by omega, by simp, HFIN⟩, by simp [intOf] <;> omega⟩
    · have HKR := hide1 hkr
      clear hMr hkr hm0 hm1 HJ
      by_cases h2 : i < np
      · have h3 : ¬ (0 : Int) < (pn : Int) := by omega
        have h4 : (i : Int) < (np : Int) := by omega
        go_wp2_with fail
        go_ret
        exact ⟨rfl, HKR.out⟩
      · have h4 : ¬ (i : Int) < (np : Int) := by omega
        go_wp2_with fail
        go_ret
        exact ⟨rfl, HKR.out⟩

end Tr
end Ex
end Go.Proofs.Ytnjmbijebckncab
namespace Go.Proofs.Ytnjmbijebckncab
open Go.ChangeShapes Go.WideShapes Go.ChangeAt Go.RowKit
set_option linter.unusedVariables false
namespace Ex
namespace Tr
namespace Fk

set_option maxRecDepth 100000 in
theorem lifted (os : Os) (started : os.Started) (H : Type) (enc : TypeId × Value → H) :
    ReturnsInHanded {} Try.checked os 4 .any (Rows.deltaMakesSpec.pre6 enc Try.prog Try.f4 Rows.deltaMakesRow.domain false) (Rows.deltaMakesSpec.post enc Try.prog Try.f4 false true false false) := by
  refine returnsInHanded_of_change_sized (C := Try.checked) ownD started (by kernel_rfl) Try.func4
    (ChangeSpec.witness6 (enc := enc) (C := Try.checked) false ⟨#[], #[.slice none 0 0, .slice none 0 0], []⟩ 8 (by kernel_rfl) (by kernel_rfl) (by kernel_rfl) (by kernel_rfl)) ?_
  intro W base args ds gs before hval0 hW hcnd hsz _
  have hval : ∀ (j : Nat) t v, Try.f4.params[j]? = some t → args[j]? = some v → Value.okWide Try.prog W .any base t v := hval0
  have hW' := hW
  obtain ⟨p, q, hA0, hV, rfl, hfz, hnd⟩ := hW
  have hA : DataW.TrodAll enc Try.prog W 0 (fun _ => true) true Try.f4.params.toList args.toList ds p := hA0
  rw [Try.params4] at hA hval
  obtain ⟨v0, vs0, d0, ds0, p0, q0, hargs, rfl, rfl, h0, r0⟩ := trodAll_cons hA
  obtain ⟨v1, vs1, d1, ds1, p1, q1, rfl, rfl, rfl, h1, r1⟩ := trodAll_cons r0
  obtain ⟨rfl, rfl, rfl⟩ := trodAll_nil r1
  obtain rfl : args = #[v0, v1] := by cases args; simp_all
  obtain ⟨rfl, rfl⟩ := trodVars_none hV
  have s0 := okWide_slice Try.underlying22 (hval 0 22 v0 rfl rfl)
  have s1 := okWide_slice Try.underlying23 (hval 1 23 v1 rfl rfl)
  have k0 := h0
  have k1 := h1
  have lt0 : ∀ x ∈ p0, x.block < W.heap.size := by obtain ⟨m, hm⟩ := k0; exact DataW.trod_lt m _ _ _ hm
  have lt1 : ∀ x ∈ p1, x.block < W.heap.size := by obtain ⟨m, hm⟩ := k1; exact DataW.trod_lt m _ _ _ hm
  have wt0 : ∀ n ∈ d0.weights Try.prog 22, n ≤ reachBytes := fun n hn => by
    have := List.all_eq_true.1 hsz n (DataW.weights_mem_each (j := 0) (by rfl) (by rfl) n hn)
    simpa using this
  have wt1 : ∀ n ∈ d1.weights Try.prog 23, n ≤ reachBytes := fun n hn => by
    have := List.all_eq_true.1 hsz n (DataW.weights_mem_each (j := 1) (by rfl) (by rfl) n hn)
    simpa using this
  obtain ⟨l0, x0⟩ := parts_arg s0 k0 wt0
  obtain ⟨ps, x1⟩ := pairs_arg s1 k1 wt1
  clear hA0 hval0
  refine Calls.mono (R := fun e w' => e = .returned (.bool true) ∧ Below W.heap.size W w') ((lawMakes v0 v1 ps W (grove_is v0 l0 W x0) x1).mono fun _ _ h => ⟨h.1, h.2.below⟩) fun e W' ⟨he, bel⟩ => ?_
  subst he
  exact ⟨_, rfl, _, _, _, [], _, [], hW', trodAll_mk1 (shut_bool Try.underlying4 _), (trodAll_cons_mk (Below.trod laidOutD (by kernel_rfl) (of_decide_eq_true (by kernel_rfl)) k0 bel lt0) (trodAll_cons_mk (Below.trod laidOutD (by kernel_rfl) (of_decide_eq_true (by kernel_rfl)) k1 bel lt1) trodAll_mk0)), rfl, bel.frame _, fun h => by cases h⟩

theorem over : Rows.deltaMakesRow.holds Try.pinned (OpenSpec.ofChange Rows.deltaMakesSpec) :=
  OpenClaim.holds_of_wide 4 Try.f4 rfl rfl rfl rfl rfl rfl rfl ⟨rfl, rfl, rfl, rfl, rfl⟩ rfl rfl rfl rfl rfl (by kernel_rfl) Try.func4 (by kernel_rfl)
    (of_decide_eq_true (by kernel_rfl)) (by unfold Func.isWrapper; first | (rw [if_pos (by decide +kernel)]; kernel_rfl) | (rw [if_neg (by decide +kernel)]; exact ⟨rfl, rfl⟩))
    (fun os started H enc _ => lifted os started H enc)

end Fk
end Tr
end Ex
theorem deltaMakes_holds : Rows.DeltaMakesSaid := Ex.Tr.Fk.over
#print axioms deltaMakes_holds
end Go.Proofs.Ytnjmbijebckncab
