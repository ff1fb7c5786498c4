import Derived.Test.YtnjmbijebckncaaMDeGv
import Derived.Test.YtnjmbijebckncaaMDeLe
import Derived.Test.YtnjmbijebckncaaMExPat
import Derived.Test.YtnjmbijebckncaaRows
import Derived.WalkKit
import Derived.ProofKit
import Derived.OpenShut
import Derived.ShutString
import Derived.ChangeOld
import Derived.Below
import Derived.SizedLaws
namespace Go.Proofs.Ytnjmbijebckncaa
open Go.RowKit
attribute [local go_sem] Oper.semAt_some
namespace Ex
namespace Tr

/-- Pairs that came in. -/
def PairsIn (w : World) (v : Value) (ps : List (Int × Int)) : Prop := SliceOf w 2 (fun cs z => cs = [.int .i64 z.1, .int .i64 z.2]) v ps
theorem PairsIn.keep {w w' : World} {v : Value} {ps : List (Int × Int)} (h : PairsIn w v ps) (hk : Kept w w') : PairsIn w' v ps := SliceOf.mono h hk (fun _ _ h => h)
theorem PairsIn.at' {w : World} {a : Option Addr} {n c : Nat} {ps : List (Int × Int)} (h : PairsIn w (.slice a n c) ps) {j : Nat} {x : Int × Int} (hj : ps[j]? = some x) : ∃ g o, a = some ⟨g, o, none⟩ ∧ w.cell? ⟨g, o + j * 2, none⟩ = some (.int .i64 x.1) ∧ w.cell? ⟨g, o + j * 2 + 1, none⟩ = some (.int .i64 x.2) := by
  obtain ⟨a', c', e, _, _, h4⟩ := h
  injection e with e1
  subst e1
  rcases h4 with rfl | ⟨g, o, h5, _, h6⟩
  · simp at hj
  · obtain ⟨cs, _, h7, h8⟩ := h6 j x hj
    subst h8
    exact ⟨g, o, h5, h7 0 _ rfl, h7 1 _ rfl⟩
/-- What a grove's lists tell. -/
theorem gr_read {base gb s : Nat} {V : Nat → Prop} {P Q : List Nat} {N : Nat → Nd} {X : Nat → Pn} {m n1 n2 c1 c2 : Nat} {aN aP : Option Addr} {w : World} (hM : GrM base gb s V P Q N X m (.slice aN n1 c1) (.slice aP n2 c2) w) {r b d : Nat} (hb : P[r]? = some b) (hd : Q[r]? = some d) : ∃ gN gP, aN = some ⟨gN, 0, none⟩ ∧ aP = some ⟨gP, 0, none⟩ ∧ w.cell? ⟨gN, r, none⟩ = some (.pointer (some ⟨b, 0, none⟩)) ∧ w.cell? ⟨gP, r, none⟩ = some (.pointer (some ⟨d, 0, none⟩)) := by
  have hN9 := hM.nl
  have hP9 := hM.pl
  obtain ⟨gN, hgN⟩ := hN9.some (by intro e; rw [e] at hb; simp at hb)
  obtain ⟨gP, hgP⟩ := hP9.some (by intro e; rw [e] at hd; simp at hd)
  rw [hgN] at hN9
  rw [hgP] at hP9
  have h1 := hN9.cell (i := r) (j := 0) (x := b) (u := .pointer (some ⟨b, 0, none⟩)) hb rfl
  rw [show r * ndE.sz + 0 = r from by show r * 1 + 0 = r; omega] at h1
  have h2 := hP9.cell (i := r) (j := 0) (x := d) (u := .pointer (some ⟨d, 0, none⟩)) hd rfl
  rw [show r * pnE.sz + 0 = r from by show r * 1 + 0 = r; omega] at h2
  exact ⟨gN, gP, hgN, hgP, h1, h2⟩
theorem kcell {w : World} {a o : Nat} {v : Value} (h : w.cell? ⟨a, o, none⟩ = some v) : ∀ W, Kept w W → W.cell? ⟨a, o, none⟩ = some v := fun _ hk => grown_cell hk h

set_option linter.unusedSimpArgs false in
set_option maxRecDepth 100000 in
set_option maxHeartbeats 4000000 in
theorem lawLeaves (v0 v1 : Value) (ps : List (Int × Int)) (w : World) (hGr : Calls Try.prog 15 #[v0] w (GroveOut w)) (h1 : PairsIn w v1 ps) :
    Calls Try.prog 7 #[v0, v1] w fun e w' => e = .returned (.bool true) ∧ Kept w w' := by
  obtain ⟨np, hnp⟩ : ∃ n, ps.length = n := ⟨_, rfl⟩
  obtain ⟨pa, pc, rfl, hp1, hp2⟩ : ∃ a c, v1 = .slice a np c ∧ np ≤ c ∧ np ≤ 17592186044416 := by
    obtain ⟨a, c, h2, h3, h4, _⟩ := h1
    rw [hnp] at h2 h3 h4
    exact ⟨a, c, h2, h3, h4⟩
  have HPS := hide1 h1
  have HNP := hide1 hnp
  have HGR := hide1 hGr
  have hpI : (np : Int) ≤ (pc : Int) := by omega
  have hpI2 : (np : Int) ≤ 17592186044416 := by omega
  clear h1 hnp hGr hp1 hp2
  go_enter Try.func7, Try.ntmps7
  go_wp2_with (go_at_call 15; refine HGR.out.mono ?_; rintro e w1 ⟨gb, base, s, rfl, hI, hk1, _, _⟩; have HI := hide1 hI; have HK1 := hide1 hk1; clear hI hk1)
  obtain ⟨V, P, Q, N, X, vN, vP, hM, hT, hPi⟩ := HI.out
  obtain ⟨pn, hpn⟩ : ∃ pn, P.length = pn := ⟨_, rfl⟩
  have hqn : Q.length = pn := by rw [← hT.1]; exact hpn
  obtain ⟨aN, cN, rfl⟩ : ∃ a c, vN = .slice a pn c := by rw [← hpn]; exact hM.nl.form
  obtain ⟨aP, cP, rfl⟩ : ∃ a c, vP = .slice a pn c := by rw [← hqn]; exact hM.pl.form
  rw [hpn] at hM hPi
  have HM := hide1 hM
  have HT := hide1 hT
  have HPN := hide1 hpn
  have HQN := hide1 hqn
  have hpnI : (pn : Int) ≤ 200 := by omega
  have HGX : Hid (∀ W, Kept w1 W → W.cell? ⟨gb, 1, none⟩ = some (.slice aN pn cN) ∧ W.cell? ⟨gb, 2, none⟩ = some (.slice aP pn cP)) := fun W hW => by
    have h9 := (HM.out.keep hW).box
    exact ⟨by simp [World.cell?, h9], by simp [World.cell?, h9]⟩
  have HPX : Hid (∀ W, Kept w1 W → PairsIn W (.slice pa np pc) ps) := fun W hW => HPS.out.keep (gtrans HK1.out hW)
  have HK0 := hide1 (Kept.refl w1)
  clear hM hT hpn hqn HI HGR
  go_loopw [7] (fun v7 wr => ∃ i : Nat, i ≤ np ∧ v7 = .int .i64 (i : Int) ∧ Hid (Kept w1 wr)) (fun v7 _ => np - (intOf v7).toNat)
  case atStart => exact ⟨0, Nat.zero_le _, rfl, HK0⟩
  case round =>
    obtain ⟨i, hi, rfl, HKR⟩ := hrel
    obtain ⟨y1, y2⟩ := HGX.out wr HKR.out
    by_cases hgo : i < np ∧ 0 < pn
    · obtain ⟨hi1, hp1⟩ := hgo
      obtain ⟨x, hx⟩ : ∃ x, ps[i]? = some x := ⟨_, List.getElem?_eq_getElem (by rw [HNP.out]; exact hi1)⟩
      obtain ⟨pg, po, rfl, t0, t1⟩ := (HPX.out wr HKR.out).at' hx
      obtain ⟨x0, x1⟩ := x
      dsimp only at t0 t1
      have HW0 : Hid (∀ W, Calls Try.prog 16 #[.int .i64 x0, .int .i64 (pn : Int)] W fun e w' => e = .returned (.int .i64 (wiN x0 pn : Int)) ∧ w' = W) := fun W => withinD_is x0 pn W hp1 (by omega)
      have HW1 : Hid (∀ W, Calls Try.prog 16 #[.int .i64 x1, .int .i64 (pn : Int)] W fun e w' => e = .returned (.int .i64 (wiN x1 pn : Int)) ∧ w' = W) := fun W => withinD_is x1 pn W hp1 (by omega)
      have hra := wiN_lt x0 hp1
      have hrb := wiN_lt x1 hp1
      obtain ⟨ra, hra2⟩ : ∃ r, wiN x0 pn = r := ⟨_, rfl⟩
      obtain ⟨rb, hrb2⟩ : ∃ r, wiN x1 pn = r := ⟨_, rfl⟩
      rw [hra2] at HW0 hra
      rw [hrb2] at HW1 hrb
      have hi1I : (i : Int) < (np : Int) := by omega
      have hp1I : (0 : Int) < (pn : Int) := by omega
      have hraI : (ra : Int) < (pn : Int) := by omega
      have hrbI : (rb : Int) < (pn : Int) := by omega
      clear hx hra2 hrb2
      go_upto_region 5 with fail
      go_quiet ((go_at_call 16; exact Calls.quiet_of_same (HW0.out _)))
      obtain ⟨wq, hwq⟩ : ∃ wq, wr.drewN nq = wq := ⟨_, rfl⟩
      have hkq : Kept wr wq := by rw [← hwq]; exact drewN_kept _ _
      rw [hwq]
      have y1' := grown_cell hkq y1
      have t1' := grown_cell hkq t1
      have HKQ := hide1 (gtrans HKR.out hkq)
      clear hwq y1 y2 t0 t1 hkq nq
      go_upto_region 6 with fail
      go_quiet ((go_at_call 16; exact Calls.quiet_of_same (HW1.out _)))
      obtain ⟨wz, hwz⟩ : ∃ wz, wq.drewN nq = wz := ⟨_, rfl⟩
      have hkz : Kept wq wz := by rw [← hwz]; exact drewN_kept _ _
      rw [hwz]
      have hk1z := gtrans HKQ.out hkz
      clear hwz y1' t1' hkz nq HKQ
      obtain ⟨y1, y2⟩ := HGX.out wz hk1z
      obtain ⟨a, ha⟩ : ∃ b, P[ra]? = some b := ⟨_, List.getElem?_eq_getElem (by rw [HPN.out]; exact hra)⟩
      obtain ⟨b, hb⟩ : ∃ b, P[rb]? = some b := ⟨_, List.getElem?_eq_getElem (by rw [HPN.out]; exact hrb)⟩
      obtain ⟨da, hda⟩ : ∃ b, Q[ra]? = some b := ⟨_, List.getElem?_eq_getElem (by rw [HQN.out]; exact hra)⟩
      obtain ⟨db, hdb⟩ : ∃ b, Q[rb]? = some b := ⟨_, List.getElem?_eq_getElem (by rw [HQN.out]; exact hrb)⟩
      have hMz := HM.out.keep hk1z
      obtain ⟨gN, gP, rfl, rfl, u1, u2⟩ := gr_read hMz ha hda
      obtain ⟨gN', gP', hgN', hgP', u3, u4⟩ := gr_read hMz hb hdb
      injection hgN' with hgN'
      injection hgN' with hgN'
      injection hgP' with hgP'
      injection hgP' with hgP'
      subst hgN' hgP'
      obtain ⟨HS, hHS⟩ : ∃ HS, hunksL N a b = HS := ⟨_, rfl⟩
      obtain ⟨L, hL⟩ : ∃ L, HS.length = L := ⟨_, rfl⟩
      have hLe : L ≤ 4194305 := by
        have h1 := hks_len (numL N (lvs N a)).length (numL N (lvs N b)).length (pairsL (numL N (lvs N a)) (numL N (lvs N b))) 0 0
        have h2 := cnt_len (numL N (lvs N a)) (numL N (lvs N b)) (numL N (lvs N a)) 0 0
        have h3 : (numL N (lvs N a)).length ≤ 4194304 := by unfold numL; rw [List.length_map]; exact lvs_len (gr_forest hMz HT.out) (List.mem_of_getElem? ha)
        rw [← hL, ← hHS]
        unfold hunksL pairsL at *
        omega
      have HLV : Hid (∀ W, Kept wz W → Calls Try.prog 18 #[.pointer (some ⟨a, 0, none⟩), .pointer (some ⟨b, 0, none⟩)] W fun e w' => ∃ v, e = .returned v ∧ LO hkE w' W.heap.size v HS ∧ Kept W w') := fun W hW => by
        rw [← hHS]
        exact leavesD_is (fun b => b ∈ P) N W.heap.size a b W (gr_forest (hMz.keep hW) HT.out) (gr_sum HT.out) (gr_num HT.out (by rw [HPN.out]; omega)) (List.mem_of_getElem? ha) (List.mem_of_getElem? hb) (Nat.le_refl _)
      have HHU : Hid (∀ W, Kept wz W → Calls Try.prog 20 #[.pointer (some ⟨da, 0, none⟩), .pointer (some ⟨db, 0, none⟩)] W fun e w' => ∃ v, e = .returned v ∧ LO hkE w' W.heap.size v HS ∧ Kept W w') := fun W hW => by
        have hMW := hMz.keep hW
        have h9 := tw_hunks hMW HT.out (i := ra) (j := rb) (by rw [HPN.out]; exact hra) (by rw [HPN.out]; exact hrb)
        rw [atL_some ha, atL_some hb, atL_some hda, atL_some hdb, hHS] at h9
        have h := hunksP_is (fun d => d ∈ Q) X (rkX X) da db W (gr_pfor hMW HT.out) (tw_lens hMW HT.out) (List.mem_of_getElem? hda) (List.mem_of_getElem? hdb)
        rw [h9] at h
        exact h
      have k1 := kcell y1
      have k2 := kcell y2
      have kA := kcell u1
      have kB := kcell u3
      have kC := kcell u2
      have kD := kcell u4
      have HKZ := hide1 hk1z
      have HL := hide1 hL
      have hLI : (L : Int) ≤ 4194305 := by omega
      have hkr : Kept wz wz := Kept.refl wz
      clear hMz ha hb hda hdb hHS hL hk1z y1 y2 u1 u2 u3 u4
      go_upto_region 7 with fail
      go_region_held3 (fun w' => Kept wz w') (first | assumption | exact Kept.refl _ | exact drew_kept _)
        ((go_at_call 18; refine (HLV.out _ (by first | exact drew_kept _ | exact Kept.refl _)).mono ?_; rintro e w5 ⟨v5, rfl, ho5, hk5⟩; obtain ⟨a5, c5, rfl⟩ := ho5.form; rw [HL.out] at ho5 ⊢; have k5 : Kept wz w5 := gtrans (by first | exact drew_kept _ | exact Kept.refl _) hk5; have HO5 := hide1 ho5; clear ho5 hk5))
      have HK5 := hide1 k5
      have q2 := kcell (k2 w5 k5)
      have qC := kcell (kC w5 k5)
      have qD := kcell (kD w5 k5)
      have hkr5 : Kept w5 w5 := Kept.refl w5
      clear k1 k2 kA kB kC kD k5 hkr HLV
      go_upto_region 8 with fail
      go_region_held3 (fun w' => Kept w5 w') (first | assumption | exact Kept.refl _ | exact drew_kept _)
        ((go_at_call 20; refine (HHU.out _ (gtrans HK5.out (by first | exact drew_kept _ | exact Kept.refl _))).mono ?_; rintro e w6 ⟨v6, rfl, ho6, hk6⟩; obtain ⟨a6, c6, rfl⟩ := ho6.form; rw [HL.out] at ho6 ⊢; have k6 : Kept w5 w6 := gtrans (by first | exact drew_kept _ | exact Kept.refl _) hk6; have HO6 := hide1 ho6; clear ho6 hk6))
      have HK6 := hide1 k6
      have HO5' := hide1 (HO5.out.keep k6)
      clear q2 qC qD k6 hkr5 HHU HO5
      have HKA : Hid (Kept w1 w6) := gtrans HKZ.out (gtrans HK5.out HK6.out)
      have HRD : Hid (∀ W, Kept w6 W → ∀ k, k < L → ∃ (g5 g6 : Nat) (f t n u : Int), a5 = some ⟨g5, 0, none⟩ ∧ a6 = some ⟨g6, 0, none⟩ ∧ (W.cell? ⟨g5, k * 4, none⟩ = some (.int .i64 f) ∧ W.cell? ⟨g5, k * 4 + 1, none⟩ = some (.int .i64 t) ∧ W.cell? ⟨g5, k * 4 + 2, none⟩ = some (.int .i64 n) ∧ W.cell? ⟨g5, k * 4 + 3, none⟩ = some (.int .i64 u)) ∧ W.cell? ⟨g6, k * 4, none⟩ = some (.int .i64 f) ∧ W.cell? ⟨g6, k * 4 + 1, none⟩ = some (.int .i64 t) ∧ W.cell? ⟨g6, k * 4 + 2, none⟩ = some (.int .i64 n) ∧ W.cell? ⟨g6, k * 4 + 3, none⟩ = some (.int .i64 u)) := fun W hW k hk => by
        obtain ⟨h, hh⟩ : ∃ h, HS[k]? = some h := ⟨_, List.getElem?_eq_getElem (by rw [HL.out]; exact hk)⟩
        have o5 := HO5'.out.keep hW
        have o6 := HO6.out.keep hW
        have hne : HS ≠ [] := by intro e; rw [e] at hh; simp at hh
        obtain ⟨g5, rfl⟩ := o5.some hne
        obtain ⟨g6, rfl⟩ := o6.some hne
        exact ⟨g5, g6, _, _, _, _, rfl, rfl, ⟨o5.cell (i := k) (j := 0) hh rfl, o5.cell (i := k) (j := 1) hh rfl, o5.cell (i := k) (j := 2) hh rfl, o5.cell (i := k) (j := 3) hh rfl⟩, o6.cell (i := k) (j := 0) hh rfl, o6.cell (i := k) (j := 1) hh rfl, o6.cell (i := k) (j := 2) hh rfl, o6.cell (i := k) (j := 3) hh rfl⟩
      have HK0' := hide1 (Kept.refl w6)
      clear HO5' HO6 HK5 HK6 HL
      go_wp2_with fail
      go_loopw [12] (fun v12 wr => ∃ k : Nat, k ≤ L ∧ v12 = .int .i64 (k : Int) ∧ Hid (Kept w6 wr)) (fun v12 _ => L - (intOf v12).toNat)
      case atStart => exact ⟨0, Nat.zero_le _, rfl, HK0'⟩
      case round =>
        obtain ⟨k, hk, rfl, HKw⟩ := hrel
        by_cases hkL : k < L
        · obtain ⟨g5, g6, f, t, n, u, rfl, rfl, ⟨e0, e1, e2, e3⟩, e4, e5, e6, e7⟩ := HRD.out wr HKw.out k hkL
          have hkI : (k : Int) < (L : Int) := by omega
          go_upto_region 14 with fail
          go_quiet (fail)
          have HFIN : Hid (Kept w6 (wr.drewN nq)) := gtrans HKw.out (drewN_kept _ _)
          clear e0 e1 e2 e3 e4 e5 e6 e7
          go_wp2_with fail
          exact ⟨⟨k + 1, by omega, by simp, HFIN⟩, by simp [intOf] <;> omega⟩
        · have hkI : ¬ (k : Int) < (L : Int) := by omega
          have HFIN : Hid (Kept w1 wr) := gtrans HKA.out HKw.out
          go_wp2_with fail
          exact ⟨⟨i + 1, by omega, by simp, HFIN⟩, by simp [intOf] <;> omega⟩
    · by_cases h2 : i < np
      · have h3 : ¬ (0 : Int) < (pn : Int) := by omega
        have h4 : (i : Int) < (np : Int) := by omega
        go_wp2_with fail
        go_ret
        exact ⟨rfl, gtrans HK1.out HKR.out⟩
      · have h4 : ¬ (i : Int) < (np : Int) := by omega
        go_wp2_with fail
        go_ret
        exact ⟨rfl, gtrans HK1.out HKR.out⟩

end Tr
end Ex
end Go.Proofs.Ytnjmbijebckncaa
namespace Go.Proofs.Ytnjmbijebckncaa
open Go.ChangeShapes Go.WideShapes Go.ChangeAt Go.RowKit
namespace Ex
namespace Tr

theorem ownD : ownKnob Try.prog.godebug = none := by kernel_rfl
theorem laidOutD : laidOutB Try.prog = true := by kernel_rfl
theorem edit_cells : Try.prog.cellsOf 24 = 3 := by kernel_rfl
theorem edit_bytes : Try.prog.bytesOf 24 = 40 := by kernel_rfl
theorem int_cellsD : Try.prog.cellsOf 3 = 1 := by kernel_rfl
theorem u8_cellsD : Try.prog.cellsOf 5 = 1 := by kernel_rfl
theorem u8_bytesD : Try.prog.bytesOf 5 = 1 := by kernel_rfl
theorem row_cellsD : Try.prog.cellsOf 22 = 1 := by kernel_rfl
theorem three {α : Type} : ∀ {l : List α}, l.length = 3 → ∃ a b c, l = [a, b, c]
  | [a, b, c], _ => ⟨a, b, c, rfl⟩
theorem flat_u8 : ∀ l : List Int, flatE u8E l = l.map (Value.int .u8)
  | [] => rfl
  | x :: l => by
    have ih := flat_u8 l
    show Value.int .u8 x :: flatE u8E l = _
    rw [ih]; rfl
section
variable {H : Type} {enc : TypeId × Value → H}
set_option maxRecDepth 100000 in
/-- A row of bytes that came in. -/
theorem bytes_src {W : World} {fuel : Nat} {v : Value} {x : DataW H × List MemPlace} (h : DataW.trod enc Try.prog W 0 (fun _ => true) true fuel 22 [v] = some x) (hz : ∀ n ∈ x.1.weights Try.prog 22, n ≤ reachBytes) :
    ∃ a len cap y, v = .slice a len cap ∧ len = y.length ∧ len ≤ cap ∧ len ≤ 140737488351232 ∧ Src u8E W a y := by
  obtain ⟨d, p⟩ := x
  rcases DataW.trod_slice Try.underlying22 h with ⟨hcs, _⟩ | ⟨a, len, cap, elems, rest, n, hn, hcs, hx, _, hl, hm, hlen, hall, _, _⟩
  · simp only [List.cons.injEq, and_true] at hcs
    subst hcs
    exact ⟨none, 0, 0, [], rfl, rfl, Nat.le_refl _, by decide, Or.inl rfl⟩
  · simp only [List.cons.injEq, and_true] at hcs
    subst hcs
    injection hx with hx1 hx2
    have hb : len ≤ 140737488351232 := by
      have := hz (_ * _) (by rw [hx1]; simp only [DataW.weights, Try.underlying22]; exact List.mem_cons_self)
      rw [u8_bytesD] at this
      simp only [List.length_map] at this
      rw [hlen] at this
      unfold reachBytes at this
      omega
    have hone : ∀ i, i < len → ∃ q : Int, W.cell? (a.add i) = some (.int .u8 q) := by
      intro i hi
      have hei := hall i hi
      obtain ⟨ei, hei2⟩ : ∃ y, elems[i]? = some y := ⟨_, List.getElem?_eq_getElem (by omega)⟩
      rw [hei2, u8_cellsD] at hei
      obtain ⟨cs', hc1, hc2⟩ := Option.bind_eq_some_iff.1 hei
      obtain ⟨_, hc3, hc4⟩ := World.cells?_some hc1
      obtain ⟨z, e1, _, _⟩ := DataW.trod_int Try.underlying5 hc2
      refine ⟨z, ?_⟩
      have h9 := hc4 0 (by omega)
      rw [e1] at h9
      rw [Nat.mul_one] at h9
      simpa [Addr.add] using h9
    by_cases h0 : len = 0
    · subst h0
      exact ⟨some a, 0, cap, [], rfl, rfl, hl, hb, Or.inl rfl⟩
    obtain ⟨Q, hQ⟩ := Go.Deep.choose_lt hone
    obtain ⟨c1, o1, t1⟩ := a
    have hspot : t1 = none := by simpa [Addr.add] using World.cell?_spot (hQ 0 (by omega))
    subst hspot
    refine ⟨some ⟨c1, o1, none⟩, len, cap, (List.range len).map Q, rfl, by simp, hl, hb, Or.inr ⟨c1, o1, rfl, fun j u hj => ?_⟩⟩
    rw [flat_u8, List.map_map, List.getElem?_map] at hj
    obtain ⟨i', hi', rfl⟩ := Option.map_eq_some_iff.1 hj
    obtain ⟨hi, he⟩ := List.getElem?_eq_some_iff.1 hi'
    rw [List.length_range] at hi
    rw [List.getElem_range] at he
    subst he
    have := hQ j hi
    rw [Addr.add_lit] at this
    exact this
/-- An edit's cells that came in. -/
def EdC (W : World) (cs : List Value) (x : EdX × List Int) : Prop := cs = [.int .i64 x.1.at_, .int .i64 x.1.del, .slice x.1.ba x.1.n x.1.bc] ∧ x.1.n = x.2.length ∧ x.1.n ≤ x.1.bc ∧ x.1.n ≤ 140737488351232 ∧ Src u8E W x.1.ba x.2
set_option maxRecDepth 100000 in
theorem edit_el {W : World} {m : Nat} {cs : List Value} {y : DataW H × List MemPlace} (hl : cs.length = 3) (h : DataW.trod enc Try.prog W 0 (fun _ => true) true m 24 cs = some y) (hz : ∀ n ∈ y.1.weights Try.prog 24, n ≤ reachBytes) : ∃ x, EdC W cs x := by
  obtain ⟨d, p⟩ := y
  obtain ⟨xs, n', hn', hx1, _, hx3, hx4⟩ := DataW.trod_struct Try.underlying24 h
  obtain ⟨v0, v1, v2, rfl⟩ := three hl
  obtain ⟨y0, y1, y2, rfl⟩ := three hx3
  have f0 : DataW.trod enc Try.prog W 0 (fun _ => true) true n' 3 [v0] = some y0 := by have := hx4 0 _ rfl; simpa [int_cellsD] using this
  have f1 : DataW.trod enc Try.prog W 0 (fun _ => true) true n' 3 [v1] = some y1 := by have := hx4 1 _ rfl; simpa [int_cellsD] using this
  have f2 : DataW.trod enc Try.prog W 0 (fun _ => true) true n' 22 [v2] = some y2 := by have := hx4 2 _ rfl; simpa [row_cellsD] using this
  obtain ⟨z0, e0, _, _⟩ := DataW.trod_int Try.underlying3 f0
  obtain ⟨z1, e1, _, _⟩ := DataW.trod_int Try.underlying3 f1
  obtain ⟨a, n, c, r, e2, h1, h2, h3, h4⟩ := bytes_src f2 (fun q hq => hz q (by
    show q ∈ d.weights Try.prog 24
    rw [(Prod.mk.inj hx1).1]
    simp only [DataW.weights, Try.underlying24]
    exact DataW.weights_mem_each (j := 2) (by rfl) (by rfl) q hq))
  simp only [List.cons.injEq, and_true] at e0 e1
  subst e0 e1 e2
  exact ⟨⟨⟨z0, z1, a, n, c⟩, r⟩, rfl, h1, h2, h3, h4⟩
set_option maxRecDepth 100000 in
/-- A list of edits that came in. -/
theorem edits_arg {W : World} {v : Value} {d : DataW H} {p : List MemPlace} (hv : ∃ a len cap, v = .slice a len cap) (h : DataW.Trod enc Try.prog W 0 (fun _ => true) true 29 v d p) (hz : ∀ n ∈ d.weights Try.prog 29, n ≤ reachBytes) : ∃ l bs, EdIn W v l bs ∧ l.length * 40 ≤ 140737488351232 := by
  obtain ⟨a0, len0, cap0, rfl⟩ := hv
  obtain ⟨fuel, hf⟩ := h
  have hf2 : DataW.trod enc Try.prog W 0 (fun _ => true) true fuel 29 [.slice a0 len0 cap0] = some (d, p) := hf
  obtain ⟨xs, hxs⟩ := slice_gen (α := EdX × List Int) ⟨⟨0, 0, none, 0, 0⟩, []⟩ Try.underlying29 3 40 edit_cells (by decide) edit_bytes (by decide) (EdC W) hf2 hz (fun m cs y _ hl hy hw => edit_el hl hy hw)
  obtain ⟨a, cap, e, h2, h3, h4⟩ := hxs
  injection e with e1 e2 e3
  subst e1 e3
  have hb : len0 * 40 ≤ 140737488351232 := by
    rcases DataW.trod_slice Try.underlying29 hf2 with ⟨hcs, _⟩ | ⟨a, len, cap, elems, rest, n, hn, hcs, hx, _, hl, hm, hlen, hall, _, _⟩
    · simp only [List.cons.injEq, and_true, Value.slice.injEq] at hcs
      omega
    · simp only [List.cons.injEq, and_true, Value.slice.injEq] at hcs
      obtain ⟨_, rfl, _⟩ := hcs
      have := hz (_ * _) (by rw [(Prod.mk.inj hx).1]; simp only [DataW.weights, Try.underlying29]; exact List.mem_cons_self)
      rw [edit_bytes] at this
      simp only [List.length_map] at this
      rw [hlen] at this
      unfold reachBytes at this
      omega
  refine ⟨xs.map (·.1), xs.map (·.2), ⟨⟨a0, cap0, ?_, ?_, fun i e he => ?_⟩, by simp, fun i e y he hy => ?_⟩, ?_⟩
  · rw [List.length_map, e2]
  · rw [List.length_map]; exact h2
  · rw [List.getElem?_map] at he
    obtain ⟨x, hx, rfl⟩ := Option.map_eq_some_iff.1 he
    rcases h4 with rfl | ⟨c, o, h5, h6, h7⟩
    · cases hx
    obtain ⟨cs, g1, g2, g3⟩ := h7 i x hx
    obtain ⟨rfl, _⟩ := g3
    exact ⟨c, o, h5, g2 0 _ rfl, g2 1 _ rfl, g2 2 _ rfl⟩
  · rw [List.getElem?_map] at he hy
    obtain ⟨x, hx, rfl⟩ := Option.map_eq_some_iff.1 he
    rw [hx] at hy
    cases hy
    rcases h4 with rfl | ⟨c, o, h5, h6, h7⟩
    · cases hx
    obtain ⟨cs, g1, g2, g3⟩ := h7 i x hx
    exact g3.2
  · rw [List.length_map, ← e2]; exact hb
end

end Tr
end Ex
end Go.Proofs.Ytnjmbijebckncaa
namespace Go.Proofs.Ytnjmbijebckncaa
open Go.ChangeShapes Go.WideShapes Go.ChangeAt Go.RowKit
namespace Ex
namespace Tr

theorem int_bytesP : Try.prog.bytesOf 3 = 8 := by kernel_rfl
theorem ints_cellsP : Try.prog.cellsOf 33 = 1 := by kernel_rfl
theorem leaf_cellsP : Try.prog.cellsOf 73 = 4 := by kernel_rfl
theorem part_cellsP : Try.prog.cellsOf 82 = 7 := by kernel_rfl
theorem part_bytesP : Try.prog.bytesOf 82 = 72 := by kernel_rfl
theorem pair_cellsP : Try.prog.cellsOf 50 = 2 := by kernel_rfl
theorem pair_bytesP : Try.prog.bytesOf 50 = 16 := by kernel_rfl
theorem one_p {α : Type} : ∀ {l : List α}, l.length = 1 → ∃ a, l = [a]
  | [a], _ => ⟨a, rfl⟩
theorem two_p {α : Type} : ∀ {l : List α}, l.length = 2 → ∃ a b, l = [a, b]
  | [a, b], _ => ⟨a, b, rfl⟩
theorem four_p {α : Type} : ∀ {l : List α}, l.length = 4 → ∃ a b c d, l = [a, b, c, d]
  | [a, b, c, d], _ => ⟨a, b, c, d, rfl⟩
theorem seven_p {α : Type} : ∀ {l : List α}, l.length = 7 → ∃ a b c d e f g, l = [a, b, c, d, e, f, g]
  | [a, b, c, d, e, f, g], _ => ⟨a, b, c, d, e, f, g, rfl⟩
section
variable {H : Type} {enc : TypeId × Value → H}
set_option maxRecDepth 100000 in
theorem ints_p {W : World} {fuel : Nat} {v : Value} {x : DataW H × List MemPlace} (h : DataW.trod enc Try.prog W 0 (fun _ => true) true fuel 33 [v] = some x) (hz : ∀ n ∈ x.1.weights Try.prog 33, n ≤ reachBytes) : ∃ xs, IntsS W v xs :=
  slice_gen (α := Int) 0 Try.underlying33 1 8 int_cellsD (by decide) int_bytesP (by decide) _ h hz (fun m cs y _ hl hy _ => by
    obtain ⟨u, rfl⟩ := one_p hl
    obtain ⟨z, e, _, _⟩ := DataW.trod_int Try.underlying3 hy
    exact ⟨z, e⟩)
set_option maxRecDepth 100000 in
theorem part_el {W : World} {m : Nat} {cs : List Value} {y : DataW H × List MemPlace} (hl : cs.length = 7) (h : DataW.trod enc Try.prog W 0 (fun _ => true) true m 82 cs = some y) (hz : ∀ n ∈ y.1.weights Try.prog 82, n ≤ reachBytes) : ∃ x, PtEl W cs x := by
  obtain ⟨d, p⟩ := y
  obtain ⟨xs, n', hn', hx1, _, hx3, hx4⟩ := DataW.trod_struct Try.underlying82 h
  obtain ⟨v0, v1, v2, v3, v4, v5, v6, rfl⟩ := seven_p hl
  obtain ⟨y0, y1, y2, y3, rfl⟩ := four_p hx3
  have f0 : DataW.trod enc Try.prog W 0 (fun _ => true) true n' 3 [v0] = some y0 := by have := hx4 0 _ rfl; simpa [int_cellsD] using this
  have f1 : DataW.trod enc Try.prog W 0 (fun _ => true) true n' 3 [v1] = some y1 := by have := hx4 1 _ rfl; simpa [int_cellsD] using this
  have f2 : DataW.trod enc Try.prog W 0 (fun _ => true) true n' 73 [v2, v3, v4, v5] = some y2 := by have := hx4 2 _ rfl; simpa [leaf_cellsP] using this
  have f3 : DataW.trod enc Try.prog W 0 (fun _ => true) true n' 33 [v6] = some y3 := by have := hx4 3 _ rfl; simpa [ints_cellsP] using this
  obtain ⟨z0, e0, _, _⟩ := DataW.trod_int Try.underlying3 f0
  obtain ⟨z1, e1, _, _⟩ := DataW.trod_int Try.underlying3 f1
  obtain ⟨xs2, n2, hn2, hx12, _, hx32, hx42⟩ := DataW.trod_struct Try.underlying73 f2
  obtain ⟨w0, w1, w2, w3, rfl⟩ := four_p hx32
  have g0 : DataW.trod enc Try.prog W 0 (fun _ => true) true n2 3 [v2] = some w0 := by have := hx42 0 _ rfl; simpa [int_cellsD] using this
  have g1 : DataW.trod enc Try.prog W 0 (fun _ => true) true n2 3 [v3] = some w1 := by have := hx42 1 _ rfl; simpa [int_cellsD] using this
  have g2 : DataW.trod enc Try.prog W 0 (fun _ => true) true n2 3 [v4] = some w2 := by have := hx42 2 _ rfl; simpa [int_cellsD] using this
  have g3 : DataW.trod enc Try.prog W 0 (fun _ => true) true n2 3 [v5] = some w3 := by have := hx42 3 _ rfl; simpa [int_cellsD] using this
  obtain ⟨q0, d0, _, _⟩ := DataW.trod_int Try.underlying3 g0
  obtain ⟨q1, d1, _, _⟩ := DataW.trod_int Try.underlying3 g1
  obtain ⟨q2, d2, _, _⟩ := DataW.trod_int Try.underlying3 g2
  obtain ⟨q3, d3, _, _⟩ := DataW.trod_int Try.underlying3 g3
  obtain ⟨ks, hks⟩ := ints_p f3 (fun q hq => hz q (by
    show q ∈ d.weights Try.prog 82
    rw [(Prod.mk.inj hx1).1]
    simp only [DataW.weights, Try.underlying82]
    exact DataW.weights_mem_each (j := 3) (by rfl) (by rfl) q hq))
  simp only [List.cons.injEq, and_true] at e0 e1 d0 d1 d2 d3
  subst e0 e1 d0 d1 d2 d3
  exact ⟨⟨z0, z1, q0, q1, q2, q3, v6, ks⟩, rfl, hks⟩
set_option maxRecDepth 100000 in
/-- A list of parts that came in. -/
theorem parts_arg {W : World} {v : Value} {d : DataW H} {p : List MemPlace} (hv : ∃ a len cap, v = .slice a len cap) (h : DataW.Trod enc Try.prog W 0 (fun _ => true) true 38 v d p) (hz : ∀ n ∈ d.weights Try.prog 38, n ≤ reachBytes) : ∃ l, PartsIn W v l := by
  obtain ⟨a0, len0, cap0, rfl⟩ := hv
  obtain ⟨fuel, hf⟩ := h
  have hf2 : DataW.trod enc Try.prog W 0 (fun _ => true) true fuel 38 [.slice a0 len0 cap0] = some (d, p) := hf
  exact slice_gen (α := PtM) ⟨0, 0, 0, 0, 0, 0, .slice none 0 0, []⟩ Try.underlying38 7 72 part_cellsP (by decide) part_bytesP (by decide) (PtEl W) hf2 hz (fun m cs y _ hl hy hw => part_el hl hy hw)
set_option maxRecDepth 100000 in
/-- A list of pairs that came in. -/
theorem pairs_arg {W : World} {v : Value} {d : DataW H} {p : List MemPlace} (hv : ∃ a len cap, v = .slice a len cap) (h : DataW.Trod enc Try.prog W 0 (fun _ => true) true 39 v d p) (hz : ∀ n ∈ d.weights Try.prog 39, n ≤ reachBytes) : ∃ ps, PairsIn W v ps := by
  obtain ⟨a0, len0, cap0, rfl⟩ := hv
  obtain ⟨fuel, hf⟩ := h
  have hf2 : DataW.trod enc Try.prog W 0 (fun _ => true) true fuel 39 [.slice a0 len0 cap0] = some (d, p) := hf
  exact slice_gen (α := Int × Int) (0, 0) Try.underlying39 2 16 pair_cellsP (by decide) pair_bytesP (by decide) _ hf2 hz (fun m cs y _ hl hy _ => by
    obtain ⟨u0, u1, rfl⟩ := two_p hl
    obtain ⟨xs, n', hn', hx1, _, hx3, hx4⟩ := DataW.trod_array Try.underlying50 hy
    obtain ⟨y0, y1, rfl⟩ := two_p hx3
    have f0 : DataW.trod enc Try.prog W 0 (fun _ => true) true n' 3 [u0] = some y0 := by have := hx4 0 (by decide); simpa [int_cellsD] using this
    have f1 : DataW.trod enc Try.prog W 0 (fun _ => true) true n' 3 [u1] = some y1 := by have := hx4 1 (by decide); simpa [int_cellsD] using this
    obtain ⟨z0, e0, _, _⟩ := DataW.trod_int Try.underlying3 f0
    obtain ⟨z1, e1, _, _⟩ := DataW.trod_int Try.underlying3 f1
    simp only [List.cons.injEq, and_true] at e0 e1
    subst e0 e1
    exact ⟨(z0, z1), rfl⟩)
end

end Tr
end Ex
end Go.Proofs.Ytnjmbijebckncaa
