import Derived.Test.YteckbpmliahhhaaMDeA7
import Derived.Test.YteckbpmliahhhaaMDeFi
import Derived.Test.YteckbpmliahhhaaMDeLl
import Derived.Test.YteckbpmliahhhaaMDeWi
import Derived.Test.YteckbpmliahhhaaMTrH1
import Derived.Test.YteckbpmliahhhaaMDeGr
namespace Go.Proofs.Yteckbpmliahhhaa
open Go.RowKit
attribute [local go_sem] Oper.semAt_some
set_option linter.unusedVariables false
namespace Ex
namespace Tr

/-- A list of steps that came in. -/
def OpsIn (w : World) (v : Value) (l : List OpM) : Prop := SliceOf w 9 (fun cs x => cs = [.int .i64 x.d0, .int .i64 x.d1, .int .i64 x.d2, .int .i64 x.d3, .int .i64 x.d4, .int .i64 x.d5, .int .i64 x.d6, .int .i64 x.d7, .int .i64 x.d8]) v l
theorem OpsIn.keep {w w' : World} {v : Value} {l : List OpM} (h : OpsIn w v l) (hk : Kept w w') : OpsIn w' v l := SliceOf.mono h hk (fun _ _ h => h)
theorem OpsIn.at' {w : World} {a : Option Addr} {n c : Nat} {l : List OpM} (h : OpsIn w (.slice a n c) l) {j : Nat} {x : OpM} (hj : l[j]? = some x) : ∃ g o, a = some ⟨g, o, none⟩ ∧ (w.cell? ⟨g, o + j * 9, none⟩ = some (.int .i64 x.d0) ∧ w.cell? ⟨g, o + j * 9 + 1, none⟩ = some (.int .i64 x.d1) ∧ w.cell? ⟨g, o + j * 9 + 2, none⟩ = some (.int .i64 x.d2) ∧ w.cell? ⟨g, o + j * 9 + 3, none⟩ = some (.int .i64 x.d3) ∧ w.cell? ⟨g, o + j * 9 + 4, none⟩ = some (.int .i64 x.d4)) ∧ w.cell? ⟨g, o + j * 9 + 5, none⟩ = some (.int .i64 x.d5) ∧ w.cell? ⟨g, o + j * 9 + 6, none⟩ = some (.int .i64 x.d6) ∧ w.cell? ⟨g, o + j * 9 + 7, none⟩ = some (.int .i64 x.d7) ∧ w.cell? ⟨g, o + j * 9 + 8, none⟩ = some (.int .i64 x.d8) := by
  obtain ⟨a', c', e, _, _, h4⟩ := h
  injection e with e1
  subst e1
  rcases h4 with rfl | ⟨g, o, h5, _, h6⟩
  · simp at hj
  · obtain ⟨cs, _, h7, h8⟩ := h6 j x hj
    subst h8
    exact ⟨g, o, h5, ⟨h7 0 _ rfl, h7 1 _ rfl, h7 2 _ rfl, h7 3 _ rfl, h7 4 _ rfl⟩, h7 5 _ rfl, h7 6 _ rfl, h7 7 _ rfl, h7 8 _ rfl⟩
/-- The grove's numbers. -/
def idL (j : Nat) : List Int := (List.range j).map (fun i : Nat => (i : Int) + 1)
theorem idL_succ (j : Nat) : idL (j + 1) = idL j ++ [(j : Int) + 1] := by unfold idL; rw [List.range_succ, List.map_append]; rfl
theorem idL_len (j : Nat) : (idL j).length = j := by simp [idL]
theorem idL_at {j i : Nat} (h : i < j) : (idL j)[i]? = some ((i : Int) + 1) := by simp [idL, h]
/-- The law's own list of steps. -/
def MnI (w2 : World) (j : Nat) (v : Value) (wr : World) : Prop := ∃ ml : List OpM, ml.length = j ∧ (∀ x ∈ ml, fits x.d1) ∧ LO opE wr w2.heap.size v ml ∧ Kept w2 wr
theorem set9at1 {w : World} {g : Nat} {y0 y1 y2 y3 y4 y5 y6 y7 y8 : Value} {t : TypeId} (h : w.heap[g]? = some (.cells #[y0, y1, y2, y3, y4, y5, y6, y7, y8] t (0, 0))) (x : Value) : (w.setCell ⟨g, 1, none⟩ x).heap[g]? = some (.cells #[y0, x, y2, y3, y4, y5, y6, y7, y8] t (0, 0)) := by
  simp [World.setCell, Array.getElem?_modify, h]
theorem lo_kb {α : Type} {E : ElK α} {w w' : World} {b s : Nat} {v : Value} {l : List α} (h : LO E w b v l) (hk : KeptBut s w w') (hs : s < b) : LO E w' b v l := h.same (fun d hd => hk.2.2.2.2 d (h.lt' d hd).2 (by have := (h.lt' d hd).1; omega))
theorem wpl_loE {α : Type} {E : ElK α} {w : World} {ops : Array Oper} {rest : List Oper} {o : Oper} {a : Act} {Q : Exit → Act → World → Prop} (hgd : o.guard = none) (s x : Operand) (ho : o.op = .call { callee := .builtin .append, args := #[s, x], argTypes := #[E.TT, E.TT] }) (base : Nat) (v : Value) (hs : a.eval s = v) (hown : LO E w base v []) (b2 : Nat) (xv : Value) (ys : List α) (n : Nat) (hn : ys.length = n) (hx : a.eval x = xv) (h2 : LO E w b2 xv ys) (hl : n * E.by_ ≤ 140737488355328) (hl2 : n ≤ maxLen) (hbase : base ≤ w.heap.size)
    (h : ∀ b' c' w', LO E w' base (.slice b' n c') ys → w.grownBy w' v.ownBlock → wpList Try.prog ops Q rest (a.put o.dst (.slice b' n c')) w') : wpList Try.prog ops Q (o :: rest) a w := by
  subst hn
  obtain ⟨b', c', w', hr, q2, q3, _⟩ := lo_runL hown h2 o.type (by simpa using hl) (by simpa using hl2) hbase
  simp only [List.length_nil, Nat.zero_add, List.nil_append] at hr q2
  refine wpList_plain hgd fun K hK => ?_
  unfold Oper.wp
  simp [execOp, ho, resolve, invoke, builtin, hs, hx, hr, Result.andThen]
  exact hK _ _ (h b' c' w' q2 q3)
/-- The law's state between its rounds. -/
def RdI (w1 : World) (s n0 : Nat) (iv : Value) (L g6 c6 t : Nat) (mv : Value) (wr : World) : Prop := ∃ (ml : List OpM) (M : Nat), ml.length = L ∧ (∀ x ∈ ml, fits x.d1) ∧ LO opE wr w1.heap.size mv ml ∧ LO opE wr w1.heap.size (.slice (some ⟨g6, 0, none⟩) (L + 1) c6) (ml ++ [⟨77, 0, 0, 0, 0, 0, 0, 0, 0⟩]) ∧ mv.ownBlock ≠ some g6 ∧ KeptBut s w1 wr ∧ StoreAt wr s M ∧ (n0 ≤ M ∧ M ≤ n0 + 300 * t) ∧ LO iE wr w1.heap.size iv (idL n0) ∧ iv.ownBlock ≠ some g6
theorem RdI.next {w1 wr w5 w6 : World} {s n0 L g6 c6 t M m : Nat} {iv mv : Value} {ml : List OpM} (hs : s < w1.heap.size) (r1 : ml.length = L) (r2 : ∀ x ∈ ml, fits x.d1) (r3 : LO opE wr w1.heap.size mv ml) (r4 : LO opE wr w1.heap.size (.slice (some ⟨g6, 0, none⟩) (L + 1) c6) (ml ++ [⟨77, 0, 0, 0, 0, 0, 0, 0, 0⟩])) (r5 : mv.ownBlock ≠ some g6) (r6 : KeptBut s w1 wr) (r8 : n0 ≤ M ∧ M ≤ n0 + 300 * t) (r10 : LO iE wr w1.heap.size iv (idL n0)) (r11 : iv.ownBlock ≠ some g6) (hk5 : KeptBut s wr w5) (hm : StoreAt w5 s m) (hm2 : M ≤ m ∧ m ≤ M + 300) (hk6 : Kept w5 w6) : RdI w1 s n0 iv L g6 c6 (t + 1) mv w6 :=
  ⟨ml, m, r1, r2, (lo_kb r3 hk5 hs).keep hk6, (lo_kb r4 hk5 hs).keep hk6, r5, KeptBut.trans r6 (KeptBut.trans hk5 (hk6.tbut s)), hm.keep hk6, by omega, (lo_kb r10 hk5 hs).keep hk6, r11⟩
theorem RdI.done {w1 w7 wr w9 : World} {s n0 L g6 c6 t : Nat} {iv mv bv : Value} {bk : List OpM} (hs : s < w1.heap.size) (h : RdI w1 s n0 iv L g6 c6 t mv w7) (hk : Kept w7 wr) (hb : bk.length = L) (hf : ∀ x ∈ bk, fits x.d1) (hl : LO opE wr w7.heap.size bv bk) (ho : LO opE w9 w1.heap.size (.slice (some ⟨g6, 0, none⟩) (L + 1) c6) (bk ++ [⟨77, 0, 0, 0, 0, 0, 0, 0, 0⟩])) (hg : wr.grownBy w9 (some g6)) : RdI w1 s n0 iv L g6 c6 t bv w9 := by
  obtain ⟨ml, M, r1, r2, r3, r4, r5, r6, r7, r8, r9, r10⟩ := h
  have hg6 := r4.lt' g6 rfl
  have hw17 : w1.heap.size ≤ w7.heap.size := r6.2.2.2.1
  have hne : ∀ d, bv.ownBlock = some d → d ≠ g6 := fun d hd e => by have h1 := (hl.lt' d hd).1; omega
  have hsz := hk.size
  have hsl := r7.lt
  have hx : ∀ k, k ≠ g6 → some k ≠ some g6 := fun k hk e => hk (Option.some.inj e)
  have hbl : ∀ k, k < wr.heap.size → k ≠ g6 → w9.heap[k]? = wr.heap[k]? := fun k h1 h2 => hg.block k h1 (fun e => h2 (by first | exact Option.some.inj e | exact (Option.some.inj e).symm))
  refine ⟨bk, M, hb, hf, (hl.low hw17).same (fun d hd => hbl d (hl.lt' d hd).2 (hne d hd)), ho, fun e => hne _ e rfl, ?_, ?_, r8, (r9.keep hk).same (fun d hd => hbl d ((r9.keep hk).lt' d hd).2 (fun e => r10 (by rw [hd, e]))), r10⟩
  · have h6 := KeptBut.trans r6 (hk.tbut s)
    refine ⟨hg.1.trans h6.1, hg.2.trans h6.2.1, hg.3.trans h6.2.2.1, Nat.le_trans h6.2.2.2.1 hg.size, fun k hk' hn => (hbl k (Nat.lt_of_lt_of_le hk' h6.2.2.2.1) ?_).trans (h6.2.2.2.2 k hk' hn)⟩
    intro e
    omega
  · refine (hbl s (by omega) ?_).trans (r7.keep hk)
    intro e
    omega
set_option linter.unusedSimpArgs false in
set_option maxRecDepth 100000 in
set_option maxHeartbeats 16000000 in
theorem lawApplies (v0 vl vr : Value) (at_ : Int) (ops : List OpM) (rs : List Int) (w : World) (hGr : Calls Try.prog 4 #[v0] w (GroveOut w)) (h1 : OpsIn w vl ops) (hfit : ∀ x ∈ ops, fits x.d1) (h2 : IntsS w vr rs) :
    Calls Try.prog 3 #[v0, .int .i64 at_, vl, vr] w fun e w' => e = .returned (.bool true) ∧ Kept w w' := by
  obtain ⟨ln, hln⟩ : ∃ n, ops.length = n := ⟨_, rfl⟩
  obtain ⟨rn, hrn⟩ : ∃ n, rs.length = n := ⟨_, rfl⟩
  obtain ⟨la, lc, rfl, hl1, hl2⟩ : ∃ a c, vl = .slice a ln c ∧ ln ≤ c ∧ ln ≤ 17592186044416 := by
    obtain ⟨a, c, h2, h3, h4, _⟩ := h1
    rw [hln] at h2 h3 h4
    exact ⟨a, c, h2, h3, h4⟩
  obtain ⟨ra, rc, rfl, hr1, hr2⟩ : ∃ a c, vr = .slice a rn c ∧ rn ≤ c ∧ rn ≤ 17592186044416 := by
    obtain ⟨a, c, h2, h3, h4, _⟩ := h2
    rw [hrn] at h2 h3 h4
    exact ⟨a, c, h2, h3, h4⟩
  have HOP := hide1 h1
  have HRS := hide1 h2
  have HLN := hide1 hln
  have HRN := hide1 hrn
  have HFT := hide1 hfit
  have HGR := hide1 hGr
  have hlI : (ln : Int) ≤ (lc : Int) := by omega
  have hlI2 : (ln : Int) ≤ 17592186044416 := by omega
  have hrI : (rn : Int) ≤ (rc : Int) := by omega
  have hrI2 : (rn : Int) ≤ 17592186044416 := by omega
  clear h1 h2 hln hrn hfit hGr hl1 hl2 hr1 hr2
  go_enter Try.func3, Try.ntmps3
  go_upto_region 2 with (go_at_call 4; refine HGR.out.mono ?_; rintro e w1 ⟨gb, base, s, rfl, hI, hk1, hb1, hb2, hb3⟩; have HI := hide1 hI; have HK1 := hide1 hk1; have HBS := hide1 (And.intro hb1 (And.intro hb2 hb3)); clear hI hk1 hb1 hb2 hb3)
  obtain ⟨V, P, Q, N, X, vN, vP, hM, hT, hPi⟩ := HI.out
  obtain ⟨pn, hpn⟩ : ∃ pn, P.length = pn := ⟨_, rfl⟩
  have hqn : Q.length = pn := by rw [← hT.1]; exact hpn
  obtain ⟨aN, cN, rfl⟩ : ∃ a c, vN = .slice a pn c := by rw [← hpn]; exact hM.nl.form
  obtain ⟨aP, cP, rfl⟩ : ∃ a c, vP = .slice a pn c := by rw [← hqn]; exact hM.pl.form
  rw [hpn] at hM hPi
  have HM := hide1 hM
  have HT := hide1 hT
  have HPN := hide1 hpn
  have HQN := hide1 hqn
  have hpnI : (pn : Int) ≤ 200 := by omega
  have hpc : (pn : Int) ≤ (cP : Int) := by have h9 := hM.pl.cap; rw [hqn] at h9; omega
  have hnc : (pn : Int) ≤ (cN : Int) := by have h9 := hM.nl.cap; rw [hpn] at h9; omega
  have hbx := hM.box
  have c0 : w1.cell? ⟨gb, 0, none⟩ = some (.pointer (some ⟨s, 0, none⟩)) := by simp [World.cell?, hbx]
  have c1 : w1.cell? ⟨gb, 1, none⟩ = some (.slice aN pn cN) := by simp [World.cell?, hbx]
  have c2 : w1.cell? ⟨gb, 2, none⟩ = some (.slice aP pn cP) := by simp [World.cell?, hbx]
  by_cases hp0 : pn = 0
  · subst hp0
    clear hM hT hpn hqn HI HGR hbx
    go_wp2_with fail
    go_ret
    exact ⟨rfl, HK1.out⟩
  have hpI : (0 : Int) < (pn : Int) := by omega
  have hpN : ¬ (pn : Int) = 0 := by omega
  have hpB : ((pn : Int) == 0) = false := by simp; omega
  have HGX : Hid (∀ W, Kept w1 W → W.cell? ⟨gb, 0, none⟩ = some (.pointer (some ⟨s, 0, none⟩)) ∧ W.cell? ⟨gb, 1, none⟩ = some (.slice aN pn cN) ∧ W.cell? ⟨gb, 2, none⟩ = some (.slice aP pn cP)) := fun W hW => ⟨grown_cell hW c0, grown_cell hW c1, grown_cell hW c2⟩
  have HID : Hid (∀ j, j < pn → ∃ gP d, aP = some ⟨gP, 0, none⟩ ∧ ∀ W, Kept w1 W → W.cell? ⟨gP, j, none⟩ = some (.pointer (some ⟨d, 0, none⟩)) ∧ W.cell? ⟨d, 0, none⟩ = some (.int .i64 ((j : Int) + 1))) := fun j hj => by
    have hb : P[j]? = some (atL P j) := by unfold atL; rw [List.getElem?_eq_getElem (by omega)]; rfl
    have hd : Q[j]? = some (atL Q j) := by unfold atL; rw [List.getElem?_eq_getElem (by omega)]; rfl
    obtain ⟨gN, gP, e1, e2, k1, k2⟩ := gr_read hM hb hd
    refine ⟨gP, atL Q j, e2, fun W hW => ⟨grown_cell hW k2, grown_cell hW ?_⟩⟩
    obtain ⟨a, c, hh, _⟩ := (hM.pn _ (List.mem_of_getElem? hd)).at
    have hid := tw_id hT (j := j) (by omega)
    simp [World.cell?, hh, hid]
  have HI0 : Hid (LO iE w1 w1.heap.size (.slice none 0 0) (idL 0) ∧ Kept w1 w1) := ⟨LO.nil _ _, Kept.refl _⟩
  clear hM hT hpn hqn HI HGR hbx
  go_wp2_with fail
  clear c0 c1 c2
  go_loopw [11, 12] (fun v11 v12 wr => ∃ (j : Nat) (ia : Option Addr) (ic : Nat), j ≤ pn ∧ v11 = .slice ia j ic ∧ v12 = .int .i64 (j : Int) ∧ Hid (LO iE wr w1.heap.size (.slice ia j ic) (idL j) ∧ Kept w1 wr)) (fun _ v12 _ => pn - (intOf v12).toNat)
  case atStart => exact ⟨0, none, 0, Nat.zero_le _, rfl, rfl, HI0⟩
  case round =>
    obtain ⟨j, ia, ic, hj, rfl, rfl, HI⟩ := hrel
    obtain ⟨c0, c1, c2⟩ := HGX.out wr HI.out.2
    clear c0 c1
    by_cases hjp : j < pn
    · obtain ⟨gP, d, rfl, hc⟩ := HID.out j hjp
      obtain ⟨r0, r1⟩ := hc wr HI.out.2
      have hjI : (j : Int) < (pn : Int) := by omega
      clear hc
      go_wp2_with (at_builtin; refine wpl_lo (E := iE) rfl _ _ rfl w1.heap.size (.slice ia j ic) (idL j) j (idL_len j) (by rfl) (HI.out.1.keep ((Kept.refl wr).alloc _ _)) wr.heap.size ((j : Int) + 1) (by rfl) (World.alloc_heap_new wr _) (by show (j + 1) * 8 ≤ 140737488355328; omega) (by unfold maxLen; omega) (Nat.le_trans HI.out.2.size (alloc_le wr _)) ?_; intro g5 c5 w5 ho5 hg5 hor5 hl5; have HG5 := hide1 (And.intro ho5 hg5); clear ho5 hg5 hor5 hl5)
      exact ⟨⟨j + 1, some ⟨g5, 0, none⟩, c5, by omega, rfl, by simp, by rw [idL_succ]; exact HG5.out.1, Kept.lo (gtrans HI.out.2 ((Kept.refl wr).alloc _ _)) (HI.out.1.keep ((Kept.refl wr).alloc _ _)) HG5.out.2⟩, by simp [intOf] <;> omega⟩
    · obtain rfl : j = pn := by omega
      have hjI : ¬ (j : Int) < (j : Int) := by omega
      obtain ⟨w2, rfl⟩ : ∃ w2, w2 = wr := ⟨wr, rfl⟩
      have HKL : Hid (Kept w1 w2) := HI.out.2
      have HM0 : Hid (MnI w2 0 (.slice none 0 0) w2) := ⟨[], rfl, fun x hx => (by cases hx), LO.nil _ _, Kept.refl _⟩
      go_wp2_with fail
      clear c2
      go_loopw [13, 14] (fun v13 v14 wr => ∃ (i : Nat) (ma : Option Addr) (mc : Nat), i ≤ ln ∧ i ≤ 300 ∧ v13 = .slice ma i mc ∧ v14 = .int .i64 (i : Int) ∧ Hid (MnI w2 i (.slice ma i mc) wr)) (fun _ v14 _ => 300 - (intOf v14).toNat)
      case atStart => exact ⟨0, none, 0, Nat.zero_le _, Nat.zero_le _, rfl, rfl, HM0⟩
      case round =>
        obtain ⟨i, ma, mc, hi1, hi2, rfl, rfl, HMI⟩ := hrel
        by_cases hgo : i < ln ∧ i < 300
        · obtain ⟨hgo1, hgo2⟩ := hgo
          have hg1I : (i : Int) < (ln : Int) := by omega
          have hg2I : (i : Int) < 300 := by omega
          obtain ⟨ml, hml⟩ := HMI.out
          have HML := hide1 hml
          obtain ⟨o, hx⟩ : ∃ x, ops[i]? = some x := ⟨_, List.getElem?_eq_getElem (by rw [HLN.out]; exact hgo1)⟩
          obtain ⟨g9, o9, rfl, ⟨e0, e1, e2, e3, e4⟩, e5, e6, e7, e8⟩ := (HOP.out.keep (gtrans HK1.out (gtrans HKL.out HML.out.2.2.2))).at' hx
          have hfq := HFT.out o (List.mem_of_getElem? hx)
          obtain ⟨d0, d1, d2, d3, d4, d5, d6, d7, d8⟩ := o
          dsimp only at e0 e1 e2 e3 e4 e5 e6 e7 e8 hfq
          have HFQ := hide1 hfq
          clear hx hml HMI hfq
          go_upto_region 14 with fail
          obtain ⟨xb, hxb⟩ : ∃ xb, wr.heap.size = xb := ⟨_, rfl⟩
          obtain ⟨wx, hwx⟩ : ∃ wx, wr.alloc (.cells #[.int .i64 d0, .int .i64 d1, .int .i64 d2, .int .i64 d3, .int .i64 d4, .int .i64 d5, .int .i64 d6, .int .i64 d7, .int .i64 d8] 39) = wx := ⟨_, rfl⟩
          have hkx : Kept wr wx := by rw [← hwx]; exact (Kept.refl wr).alloc _ _
          have hbx : wx.heap[xb]? = some (.cells #[.int .i64 d0, .int .i64 d1, .int .i64 d2, .int .i64 d3, .int .i64 d4, .int .i64 d5, .int .i64 d6, .int .i64 d7, .int .i64 d8] 39 (0, 0)) := by rw [← hwx, ← hxb]; exact World.alloc_heap_new wr _
          rw [hwx, hxb]
          have x0 : wx.cell? ⟨xb, 0, none⟩ = some (.int .i64 d0) := by simp [World.cell?, hbx]
          have x1 : wx.cell? ⟨xb, 1, none⟩ = some (.int .i64 d1) := by simp [World.cell?, hbx]
          have x2 : wx.cell? ⟨xb, 2, none⟩ = some (.int .i64 d2) := by simp [World.cell?, hbx]
          have x3 : wx.cell? ⟨xb, 3, none⟩ = some (.int .i64 d3) := by simp [World.cell?, hbx]
          have x4 : wx.cell? ⟨xb, 4, none⟩ = some (.int .i64 d4) := by simp [World.cell?, hbx]
          have x5 : wx.cell? ⟨xb, 5, none⟩ = some (.int .i64 d5) := by simp [World.cell?, hbx]
          have x6 : wx.cell? ⟨xb, 6, none⟩ = some (.int .i64 d6) := by simp [World.cell?, hbx]
          have x7 : wx.cell? ⟨xb, 7, none⟩ = some (.int .i64 d7) := by simp [World.cell?, hbx]
          have x8 : wx.cell? ⟨xb, 8, none⟩ = some (.int .i64 d8) := by simp [World.cell?, hbx]
          have HKX := hide1 hkx
          have HBX := hide1 hbx
          have HXB := hide1 hxb
          clear hwx hbx hkx hxb e0 e1 e2 e3 e4 e5 e6 e7 e8
          by_cases hr0 : rn = 0
          · subst hr0
            go_wp2_with (at_builtin; refine wpl_lo (E := opE) rfl _ _ rfl w2.heap.size (.slice ma i mc) ml i HML.out.1 (by rfl) ((HML.out.2.2.1.keep HKX.out).keep ((Kept.refl wx).alloc _ _)) wx.heap.size ⟨d0, d1, d2, d3, d4, d5, d6, d7, d8⟩ (by rfl) (World.alloc_heap_new wx _) (by show (i + 1) * 72 ≤ 140737488355328; omega) (by unfold maxLen; omega) (Nat.le_trans (gtrans HML.out.2.2.2 HKX.out).size (alloc_le wx _)) ?_; intro g5 c5 w5 ho5 hg5 hor5 hl5; have HG5 := hide1 (And.intro ho5 hg5); clear ho5 hg5 hor5 hl5)
            exact ⟨⟨i + 1, some ⟨g5, 0, none⟩, c5, by omega, by omega, rfl, by simp, ml ++ [⟨d0, d1, d2, d3, d4, d5, d6, d7, d8⟩], by rw [List.length_append, HML.out.1]; rfl, fun x hx => (List.mem_append.1 hx).elim (HML.out.2.1 x) (fun h => by rw [List.mem_singleton.1 h]; exact HFQ.out), HG5.out.1, Kept.lo (gtrans HML.out.2.2.2 (gtrans HKX.out ((Kept.refl wx).alloc _ _))) ((HML.out.2.2.1.keep HKX.out).keep ((Kept.refl wx).alloc _ _)) HG5.out.2⟩, by simp [intOf] <;> omega⟩
          · have hr0I : (0 : Int) < (rn : Int) := by omega
            obtain ⟨q, hq⟩ : ∃ q, i % rn = q := ⟨_, rfl⟩
            have hql : q < rn := by rw [← hq]; exact Nat.mod_lt _ (by omega)
            have hqI : (q : Int) < (rn : Int) := by omega
            have htm : (i : Int).tmod (rn : Int) = (q : Int) := by rw [← hq]; rfl
            have hrz : ¬ (rn : Int) = 0 := by omega
            have hrzB : ((rn : Int) == 0) = false := by simp; omega
            obtain ⟨y, hy⟩ : ∃ x, rs[q]? = some x := ⟨_, List.getElem?_eq_getElem (by rw [HRN.out]; exact hql)⟩
            obtain ⟨g7, o7, rfl, t0⟩ := (HRS.out.keep (gtrans HK1.out (gtrans HKL.out (gtrans HML.out.2.2.2 HKX.out)))).at' hy
            clear hy hq
            rcases low_bit y with hbit | hbit
            · by_cases hd1 : d1 = 0
              · subst hd1
                go_wp2_with (at_builtin; refine wpl_lo (E := opE) rfl _ _ rfl w2.heap.size (.slice ma i mc) ml i HML.out.1 (by rfl) ((HML.out.2.2.1.keep HKX.out).keep ((Kept.refl wx).alloc _ _)) wx.heap.size ⟨d0, 0, d2, d3, d4, d5, d6, d7, d8⟩ (by rfl) (World.alloc_heap_new wx _) (by show (i + 1) * 72 ≤ 140737488355328; omega) (by unfold maxLen; omega) (Nat.le_trans (gtrans HML.out.2.2.2 HKX.out).size (alloc_le wx _)) ?_; intro g5 c5 w5 ho5 hg5 hor5 hl5; have HG5 := hide1 (And.intro ho5 hg5); clear ho5 hg5 hor5 hl5)
                exact ⟨⟨i + 1, some ⟨g5, 0, none⟩, c5, by omega, by omega, rfl, by simp, ml ++ [⟨d0, 0, d2, d3, d4, d5, d6, d7, d8⟩], by rw [List.length_append, HML.out.1]; rfl, fun x hx => (List.mem_append.1 hx).elim (HML.out.2.1 x) (fun h => by rw [List.mem_singleton.1 h]; exact HFQ.out), HG5.out.1, Kept.lo (gtrans HML.out.2.2.2 (gtrans HKX.out ((Kept.refl wx).alloc _ _))) ((HML.out.2.2.1.keep HKX.out).keep ((Kept.refl wx).alloc _ _)) HG5.out.2⟩, by simp [intOf] <;> omega⟩
              · have hd1B : (d1 != 0) = true := by simp; exact hd1
                have hpp : 0 < j := by omega
                have HWI : Hid (∀ W, Calls Try.prog 5 #[.int .i64 d1, .int .i64 (j : Int)] W fun e w' => e = .returned (.int .i64 (wiN d1 j : Int)) ∧ w' = W) := fun W => withinD_is d1 j W hpp (by omega)
                have hwl := wiN_lt d1 hpp
                obtain ⟨wi, hwi⟩ : ∃ r, wiN d1 j = r := ⟨_, rfl⟩
                rw [hwi] at HWI hwl
                have hwlI : (wi : Int) < (j : Int) := by omega
                obtain ⟨gi, rfl, hic⟩ := lo_int (HI.out.1) (idL_at hwl)
                have s0 : wx.cell? ⟨gi, wi, none⟩ = some (.int .i64 ((wi : Int) + 1)) := grown_cell (gtrans HML.out.2.2.2 HKX.out) hic
                have f1 : wx.frozen? ⟨xb, 1, none⟩ = false := by simp [World.frozen?, HBX.out]
                clear hwi hic
                go_upto_region 16 with (go_at_call 5; refine (HWI.out _).mono ?_; rintro e w5 ⟨rfl, h9⟩; replace h9 := h9.symm; subst h9)
                obtain ⟨wy, hwy⟩ : ∃ wy, wx.setCell ⟨xb, 1, none⟩ (.int .i64 ((wi : Int) + 1)) = wy := ⟨_, rfl⟩
                have hby := set9at1 HBX.out (.int .i64 ((wi : Int) + 1))
                have HKY : Hid (Kept wr wy) := by rw [← hwy]; exact KeptBut.new HKX.out (setCell_but _ _ _ _) (by rw [HXB.out]; exact Nat.le_refl _)
                rw [hwy] at hby ⊢
                clear hwy HKX s0 f1 x0 x1 x2 x3 x4 x5 x6 x7 x8
                have HKX := HKY
                have x0 : wy.cell? ⟨xb, 0, none⟩ = some (.int .i64 d0) := by simp [World.cell?, hby]
                have x1 : wy.cell? ⟨xb, 1, none⟩ = some (.int .i64 ((wi : Int) + 1)) := by simp [World.cell?, hby]
                have x2 : wy.cell? ⟨xb, 2, none⟩ = some (.int .i64 d2) := by simp [World.cell?, hby]
                have x3 : wy.cell? ⟨xb, 3, none⟩ = some (.int .i64 d3) := by simp [World.cell?, hby]
                have x4 : wy.cell? ⟨xb, 4, none⟩ = some (.int .i64 d4) := by simp [World.cell?, hby]
                have x5 : wy.cell? ⟨xb, 5, none⟩ = some (.int .i64 d5) := by simp [World.cell?, hby]
                have x6 : wy.cell? ⟨xb, 6, none⟩ = some (.int .i64 d6) := by simp [World.cell?, hby]
                have x7 : wy.cell? ⟨xb, 7, none⟩ = some (.int .i64 d7) := by simp [World.cell?, hby]
                have x8 : wy.cell? ⟨xb, 8, none⟩ = some (.int .i64 d8) := by simp [World.cell?, hby]
                have hfq2 : fits ((wi : Int) + 1) := by unfold fits; omega
                have HFQ := hide1 hfq2
                clear hfq2
                clear hby
                go_wp2_with (at_builtin; refine wpl_lo (E := opE) rfl _ _ rfl w2.heap.size (.slice ma i mc) ml i HML.out.1 (by rfl) ((HML.out.2.2.1.keep HKX.out).keep ((Kept.refl wy).alloc _ _)) wy.heap.size ⟨d0, (wi : Int) + 1, d2, d3, d4, d5, d6, d7, d8⟩ (by rfl) (World.alloc_heap_new wy _) (by show (i + 1) * 72 ≤ 140737488355328; omega) (by unfold maxLen; omega) (Nat.le_trans (gtrans HML.out.2.2.2 HKX.out).size (alloc_le wy _)) ?_; intro g5 c5 w5 ho5 hg5 hor5 hl5; have HG5 := hide1 (And.intro ho5 hg5); clear ho5 hg5 hor5 hl5)
                exact ⟨⟨i + 1, some ⟨g5, 0, none⟩, c5, by omega, by omega, rfl, by simp, ml ++ [⟨d0, (wi : Int) + 1, d2, d3, d4, d5, d6, d7, d8⟩], by rw [List.length_append, HML.out.1]; rfl, fun x hx => (List.mem_append.1 hx).elim (HML.out.2.1 x) (fun h => by rw [List.mem_singleton.1 h]; exact HFQ.out), HG5.out.1, Kept.lo (gtrans HML.out.2.2.2 (gtrans HKX.out ((Kept.refl wy).alloc _ _))) ((HML.out.2.2.1.keep HKX.out).keep ((Kept.refl wy).alloc _ _)) HG5.out.2⟩, by simp [intOf] <;> omega⟩
            ·
              go_wp2_with (at_builtin; refine wpl_lo (E := opE) rfl _ _ rfl w2.heap.size (.slice ma i mc) ml i HML.out.1 (by rfl) ((HML.out.2.2.1.keep HKX.out).keep ((Kept.refl wx).alloc _ _)) wx.heap.size ⟨d0, d1, d2, d3, d4, d5, d6, d7, d8⟩ (by rfl) (World.alloc_heap_new wx _) (by show (i + 1) * 72 ≤ 140737488355328; omega) (by unfold maxLen; omega) (Nat.le_trans (gtrans HML.out.2.2.2 HKX.out).size (alloc_le wx _)) ?_; intro g5 c5 w5 ho5 hg5 hor5 hl5; have HG5 := hide1 (And.intro ho5 hg5); clear ho5 hg5 hor5 hl5)
              exact ⟨⟨i + 1, some ⟨g5, 0, none⟩, c5, by omega, by omega, rfl, by simp, ml ++ [⟨d0, d1, d2, d3, d4, d5, d6, d7, d8⟩], by rw [List.length_append, HML.out.1]; rfl, fun x hx => (List.mem_append.1 hx).elim (HML.out.2.1 x) (fun h => by rw [List.mem_singleton.1 h]; exact HFQ.out), HG5.out.1, Kept.lo (gtrans HML.out.2.2.2 (gtrans HKX.out ((Kept.refl wx).alloc _ _))) ((HML.out.2.2.1.keep HKX.out).keep ((Kept.refl wx).alloc _ _)) HG5.out.2⟩, by simp [intOf] <;> omega⟩
        ·
          by_cases hlt : i < ln
          · have hg1I : (i : Int) < (ln : Int) := by omega
            have hg2I : ¬ (i : Int) < 300 := by omega
            clear hgo hlt
            obtain ⟨ml, hml⟩ := HMI.out
            have HML := hide1 hml
            have hpp : 0 < j := by omega
            have HWA : Hid (∀ W, Calls Try.prog 5 #[.int .i64 at_, .int .i64 (j : Int)] W fun e w' => e = .returned (.int .i64 (wiN at_ j : Int)) ∧ w' = W) := fun W => withinD_is at_ j W hpp (by omega)
            have har := wiN_lt at_ hpp
            obtain ⟨ar, har2⟩ : ∃ r, wiN at_ j = r := ⟨_, rfl⟩
            rw [har2] at HWA har
            have harI : (ar : Int) < (j : Int) := by omega
            have hiI : (i : Int) ≤ 300 := by omega
            obtain ⟨c0, c1, c2⟩ := HGX.out wr (gtrans HKL.out HML.out.2.2.2)
            clear hml har2 c0 c2 HMI
            go_upto_region 18 with (go_at_call 5; refine (HWA.out _).mono ?_; rintro e w5 ⟨rfl, h9⟩; replace h9 := h9.symm; subst h9)
            clear c1
            go_upto_region 19 with (first
              | (at_builtin; refine wpl_loE (E := opE) rfl _ _ rfl wr.heap.size (.slice (some ⟨wr.heap.size, 0, none⟩) 0 0) (by rfl) (lo_emptyA wr (Nat.le_refl _)) w2.heap.size (.slice ma i mc) ml i HML.out.1 (by rfl) (HML.out.2.2.1.keep ((Kept.refl wr).alloc _ _)) (by show i * 72 ≤ 140737488355328; omega) (by unfold maxLen; omega) (alloc_le wr _) ?_; intro b5 c5 w5 ho5 hg5; have HG5 := hide1 (And.intro ho5 hg5); clear ho5 hg5)
              | (at_builtin; refine wpl_lo (E := opE) rfl _ _ rfl wr.heap.size (.slice b5 i c5) ml i HML.out.1 (by rfl) (HG5.out.1.keep ((Kept.refl w5).alloc _ _)) w5.heap.size ⟨77, 0, 0, 0, 0, 0, 0, 0, 0⟩ (by rfl) (World.alloc_heap_new w5 _) (by show (i + 1) * 72 ≤ 140737488355328; omega) (by unfold maxLen; omega) (Nat.le_trans (Nat.le_trans (alloc_le wr _) HG5.out.2.size) (alloc_le w5 _)) ?_; intro g6 c6 w6 ho6 hg6 hor6 hl6; have hc6 : (i : Int) + 1 ≤ (c6 : Int) := (by have h9 := ho6.cap; rw [List.length_append, HML.out.1, List.length_singleton] at h9; omega); have hc7 : (i : Int) ≤ (c6 : Int) := (by omega); have HG6 := hide1 (And.intro ho6 hg6); clear ho6 hg6 hor6 hl6))
            have hk5 : Kept wr w5 := Kept.lo (E := opE) ((Kept.refl wr).alloc _ _) (lo_emptyA wr (Nat.le_refl _)) HG5.out.2
            have hk6 : Kept wr w6 := Kept.lo (gtrans hk5 ((Kept.refl w5).alloc _ _)) (HG5.out.1.keep ((Kept.refl w5).alloc _ _)) HG6.out.2
            have hsb : s < w1.heap.size := by have := HM.out.lo; omega
            have hicj : j ≤ ic := by have h9 := HI.out.1.cap; rw [idL_len] at h9; exact h9
            have HSB := hide1 hsb
            have HIC := hide1 hicj
            have hw12 := HKL.out.size
            have hw2r := HML.out.2.2.2.size
            have hg6l := (HG6.out.1.lt' g6 rfl).1
            have HR0 : Hid (RdI w1 s j (.slice ia j ic) i g6 c6 0 (.slice ma i mc) w6) := ⟨ml, j, HML.out.1, HML.out.2.1, (HML.out.2.2.1.low hw12).keep hk6, HG6.out.1.low (by omega), fun e => by have h9 := (HML.out.2.2.1.lt' _ e).2; omega, (gtrans HKL.out (gtrans HML.out.2.2.2 hk6)).tbut s, HM.out.st.keep (gtrans HKL.out (gtrans HML.out.2.2.2 hk6)), ⟨Nat.le_refl _, by omega⟩, (HI.out.1.keep HML.out.2.2.2).keep hk6, fun e => by have h9 := (HI.out.1.lt' _ e).2; omega⟩
            have HRW : Hid (∀ W, KeptBut s w1 W → Kept w W) := fun W hW => KeptBut.new HK1.out hW HBS.out.2.2
            clear hk5 hk6 hw12 hw2r hg6l HG5 HG6 HML HKL hsb hicj
            go_wp2_with fail
            go_loopw [13, 18] (fun v13 v18 wr => ∃ (t : Nat) (ma : Option Addr) (mc : Nat), t ≤ 2 ∧ v13 = .slice ma i mc ∧ v18 = .int .i64 (t : Int) ∧ Hid (RdI w1 s j (.slice ia j ic) i g6 c6 t (.slice ma i mc) wr)) (fun _ v18 _ => 2 - (intOf v18).toNat)
            case atStart => exact ⟨0, ma, mc, Nat.zero_le _, rfl, rfl, HR0⟩
            case round =>
              clear HR0
              obtain ⟨t, ma, mc, ht, rfl, rfl, HR⟩ := hrel
              by_cases ht2 : t < 2
              · have htI : (t : Int) < 2 := by omega
                obtain ⟨ml, M, r1, r2, r3, r4, r5, r6, r7, r8, r9, r10⟩ := HR.out
                have hMw := HM.out.but r6 r7
                have hbx := hMw.box
                have hmI : (i : Int) ≤ (mc : Int) := by have h9 := r3.cap; rw [r1] at h9; omega
                have c0 : wr.cell? ⟨gb, 0, none⟩ = some (.pointer (some ⟨s, 0, none⟩)) := by simp [World.cell?, hbx]
                have c1 : wr.cell? ⟨gb, 1, none⟩ = some (.slice aN j cN) := by simp [World.cell?, hbx]
                have c2 : wr.cell? ⟨gb, 2, none⟩ = some (.slice aP j cP) := by simp [World.cell?, hbx]
                have hb : P[ar]? = some (atL P ar) := by unfold atL; rw [List.getElem?_eq_getElem (by rw [HPN.out]; exact har)]; rfl
                have hd : Q[ar]? = some (atL Q ar) := by unfold atL; rw [List.getElem?_eq_getElem (by rw [HQN.out]; exact har)]; rfl
                obtain ⟨gN, gP, eN, eP, k1, k2⟩ := gr_read hMw hb hd
                subst eN eP
                have hgs : gb ≠ s := by have := hMw.lo; omega
                have hns : gN ≠ s := by have h1 := (hMw.nl.lt' gN rfl).1; have h2 := hMw.lo; omega
                have HTW := hide1 (apply_two (i := ar) hMw HT.out HPN.out (by omega) (by omega) r8.1 (by omega) har r1 hi2 r2 r3 (by have h9 := r4.take (k := i) (by rw [List.length_append, r1]; omega); rw [List.take_left' r1] at h9; exact h9) HSB.out)
                obtain ⟨pb, hpb⟩ : ∃ x, atL P ar = x := ⟨_, rfl⟩
                obtain ⟨pd, hpd⟩ : ∃ x, atL Q ar = x := ⟨_, rfl⟩
                rw [hpb, hpd] at HTW
                rw [hpb] at k1
                rw [hpd] at k2
                have HS9 : Hid (∀ M', StoreAt wr s M' → M' = M) := fun M' h => by
                  have h9 := Option.some.inj (h.symm.trans r7)
                  simp at h9
                  omega
                clear hMw hbx hb hd hpb hpd r1 r2 r3 r4 r5 r6 r7 r8 r9 r10
                rcases HTW.out with ⟨f, hAP, hAD⟩ | ⟨D, B, hAP, hAD, hAL⟩
                · have HAP := hide1 hAP
                  have HAD := hide1 hAD
                  clear hAP hAD HTW
                  go_upto_region 23 with (go_at_call 6; refine HAP.out.mono ?_; rintro e w4 ⟨rfl, hk4⟩; have HK4 := hide1 hk4; clear hk4)
                  have q0 := keepsB hgs (grown_cell HK4.out c0)
                  have q1 := keepsB hgs (grown_cell HK4.out c1)
                  have q2 := keepsB hns (grown_cell HK4.out k1)
                  have hkr : KeptBut s w4 w4 := (Kept.refl w4).tbut s
                  clear c0 c1 c2 k1 k2
                  go_region_held3 (fun w' => KeptBut s w4 w') (first | assumption | exact (Kept.refl _).tbut _ | exact (drew_kept _).tbut _)
                    ((go_at_call 7; refine (HAD.out _ (gtrans HK4.out (by first | exact drew_kept _ | exact Kept.refl _))).mono ?_; rintro e w5 ⟨rfl, hk5, hs5⟩; have k5 : KeptBut s w4 w5 := KeptBut.trans (by assumption) hk5; have HS5 := hide1 hs5; clear hk5 hs5))
                  have HK5 := hide1 k5
                  have HK45 : Hid (KeptBut s wr w5) := KeptBut.trans (HK4.out.tbut s) k5
                  clear q0 q1 q2 hkr k5
                  obtain ⟨ml2, M2, r1, r2, r3, r4, r5, r6, r7, r8, r9, r10⟩ := HR.out
                  have h77 := lo_op (k := i) (x := ⟨77, 0, 0, 0, 0, 0, 0, 0, 0⟩) (lo_kb r4 HK45.out HSB.out) (by rw [List.getElem?_append_right (by omega), r1, Nat.sub_self]; rfl)
                  obtain ⟨g77, e77, ⟨z77, _⟩, _⟩ := h77
                  have hgg : g77 = g6 := by injection e77 with e; injection e with e; exact e.symm
                  subst hgg
                  have HSO : Hid (Calls Try.prog 8 #[.slice (some ⟨g77, 0, none⟩) i c6, .slice ma i mc] w5 fun e w' => e = .returned (.bool true) ∧ Kept w5 w') := sameOps_is _ _ _ _ i _ _ ml2 w5 r1 (by omega) (by have h9 := (lo_kb r4 HK45.out HSB.out).take (k := i) (by rw [List.length_append, r1]; omega); rw [List.take_left' r1] at h9; exact h9) (lo_kb r3 HK45.out HSB.out)
                  dsimp only at z77
                  clear e77 r1 r2 r3 r4 r5 r6 r7 r8 r9 r10
                  go_upto_region 28 with (go_at_call 8; refine HSO.out.mono ?_; rintro e w7 ⟨rfl, hk7⟩; have HK7 := hide1 hk7; have z77' := grown_cell hk7 z77; clear hk7)
                  have HZ : Hid (RdI w1 s j (.slice ia j ic) i g77 c6 (t + 1) (.slice ma i mc) w7) := by
                    obtain ⟨ml, M', r1, r2, r3, r4, r5, r6, r7, r8, r9, r10⟩ := HR.out
                    have eM := HS9.out M' r7
                    subst eM
                    obtain ⟨m5, hm5, hm6⟩ := HS5.out
                    exact RdI.next HSB.out r1 r2 r3 r4 r5 r6 r8 r9 r10 HK45.out hm5 hm6 HK7.out
                  clear z77'
                  have hiw : IntKind.i64.wrap ((i : Int) - 1) = (i : Int) - 1 := by rw [IntKind.wrap_i64]; omega
                  have HB0 : Hid (MnI w7 0 (.slice none 0 0) w7) := ⟨[], rfl, fun x hx => (by cases hx), LO.nil _ _, Kept.refl _⟩
                  go_wp2_with fail
                  go_loopw [23, 24] (fun v23 v24 wr => ∃ (kk : Nat) (ba : Option Addr) (bc : Nat), kk ≤ i ∧ v23 = .slice ba kk bc ∧ v24 = .int .i64 ((i : Int) - 1 - (kk : Int)) ∧ Hid (MnI w7 kk (.slice ba kk bc) wr)) (fun _ v24 _ => (intOf v24 + 1).toNat)
                  case atStart => exact ⟨0, none, 0, Nat.zero_le _, rfl, by simp, HB0⟩
                  case round =>
                    obtain ⟨kk, ba, bc, hkk, rfl, rfl, HBK⟩ := hrel
                    obtain ⟨bk, b1', b2', b3', b4'⟩ := HBK.out
                    have HBL : Hid (bk.length = kk ∧ (∀ x ∈ bk, fits x.d1) ∧ LO opE wr w7.heap.size (.slice ba kk bc) bk ∧ Kept w7 wr) := ⟨b1', b2', b3', b4'⟩
                    obtain ⟨ml, M, r1, r2, r3, r4, r5, r6, r7, r8, r9, r10⟩ := HZ.out
                    have HML : Hid (ml.length = i ∧ LO opE wr w1.heap.size (.slice (some ⟨g77, 0, none⟩) (i + 1) c6) (ml ++ [⟨77, 0, 0, 0, 0, 0, 0, 0, 0⟩])) := ⟨r1, r4.keep b4'⟩
                    by_cases hkL : kk < i
                    · obtain ⟨p, hp⟩ : ∃ p : Nat, (i : Int) - 1 - (kk : Int) = (p : Int) := ⟨i - 1 - kk, by omega⟩
                      rw [hp]
                      have hpI : (p : Int) < (i : Int) := by omega
                      have hpw : IntKind.i64.wrap ((p : Int) - 1) = (p : Int) - 1 := by rw [IntKind.wrap_i64]; omega
                      obtain ⟨o, hx⟩ : ∃ x, ml[p]? = some x := ⟨_, List.getElem?_eq_getElem (by omega)⟩
                      obtain ⟨g9, rfl, ⟨e0, e1, e2, e3, e4⟩, e5, e6, e7, e8⟩ := lo_op (r3.keep b4') hx
                      have hfq := r2 o (List.mem_of_getElem? hx)
                      obtain ⟨d0, d1, d2, d3, d4, d5, d6, d7, d8⟩ := o
                      dsimp only at e0 e1 e2 e3 e4 e5 e6 e7 e8 hfq
                      have HFQ := hide1 hfq
                      have HPP := hide1 hp
                      clear hx hfq b1' b2' b3' b4' r1 r2 r3 r4 r5 r6 r7 r8 r9 r10 hp
                      go_wp2_with (at_builtin; refine wpl_lo (E := opE) rfl _ _ rfl w7.heap.size (.slice ba kk bc) bk kk HBL.out.1 (by rfl) (HBL.out.2.2.1.keep ((Kept.refl wr).alloc _ _)) wr.heap.size ⟨d0, d1, d2, d3, d4, d5, d6, d7, d8⟩ (by rfl) (World.alloc_heap_new wr _) (by show (kk + 1) * 72 ≤ 140737488355328; omega) (by unfold maxLen; omega) (Nat.le_trans HBL.out.2.2.2.size (alloc_le wr _)) ?_; intro g5 c5 w5 ho5 hg5 hor5 hl5; have HG5 := hide1 (And.intro ho5 hg5); clear ho5 hg5 hor5 hl5)
                      have hp9 := HPP.out
                      exact ⟨⟨kk + 1, some ⟨g5, 0, none⟩, c5, by omega, rfl, by congr 1; omega, bk ++ [⟨d0, d1, d2, d3, d4, d5, d6, d7, d8⟩], by rw [List.length_append, HBL.out.1]; rfl, fun x hx => (List.mem_append.1 hx).elim (HBL.out.2.1 x) (fun h => by rw [List.mem_singleton.1 h]; exact HFQ.out), HG5.out.1, Kept.lo (gtrans HBL.out.2.2.2 ((Kept.refl wr).alloc _ _)) (HBL.out.2.2.1.keep ((Kept.refl wr).alloc _ _)) HG5.out.2⟩, by simp [intOf] <;> omega⟩
                    · obtain rfl : kk = i := by omega
                      rw [show (kk : Int) - 1 - (kk : Int) = -1 by omega]
                      clear b1' b2' b3' b4' r1 r2 r3 r4 r5 r6 r7 r8 r9 r10
                      go_wp2_with fail
                      rename_i K9 hK9
                      obtain ⟨w9, hr9, ho9, hg9⟩ := lo_copyL (E := opE) (w := wr) (base := w1.heap.size) (base4 := w7.heap.size) (g := g77) (ec := c6) (m := kk) (cs := ml) (ds := bk) (x := ⟨77, 0, 0, 0, 0, 0, 0, 0, 0⟩) (xv := .slice ba kk bc) HML.out.2 HML.out.1 HBL.out.2.2.1 HBL.out.1 3
                      have hr8 : (Builtin.copy_ #[23, 23] 3 #[.slice (some ⟨g77, 0, none⟩) kk c6, .slice ba kk bc]).run Try.prog wr = .ok (goInt kk) w9 := hr9
                      have HG9 := hide1 (And.intro ho9 hg9)
                      simp only [hr8, Result.andThen]
                      refine hK9 _ _ ?_
                      clear hr8 hr9 ho9 hg9
                      go_wp2_with fail
                      exact ⟨⟨t + 1, ba, bc, by omega, rfl, by simp, RdI.done HSB.out HZ.out HBL.out.2.2.2 HBL.out.1 HBL.out.2.1 HBL.out.2.2.1 HG9.out.1 HG9.out.2⟩, by simp [intOf] <;> omega⟩
                · have HAP := hide1 hAP
                  have HAD := hide1 hAD
                  have HAL := hide1 hAL
                  clear hAP hAD hAL HTW
                  go_upto_region 23 with (go_at_call 6; refine HAP.out.mono ?_; rintro e w4 ⟨d, rfl, hk4, hD4⟩; have HK4 := hide1 hk4; have HD4 := hide1 hD4; clear hk4 hD4)
                  have q0 := keepsB hgs (grown_cell HK4.out c0)
                  have q1 := keepsB hgs (grown_cell HK4.out c1)
                  have q2 := keepsB hns (grown_cell HK4.out k1)
                  have hkr : KeptBut s w4 w4 := (Kept.refl w4).tbut s
                  clear c0 c1 c2 k1 k2
                  go_region_held3 (fun w' => KeptBut s w4 w') (first | assumption | exact (Kept.refl _).tbut _ | exact (drew_kept _).tbut _)
                    ((go_at_call 7; refine (HAD.out _ (gtrans HK4.out (by first | exact drew_kept _ | exact Kept.refl _))).mono ?_; rintro e w5 ⟨b, rfl, hk5, hs5, hB5⟩; have k5 : KeptBut s w4 w5 := KeptBut.trans (by assumption) hk5; have HS5 := hide1 hs5; have HB5 := hide1 hB5; clear hk5 hs5 hB5))
                  have HK5 := hide1 k5
                  have HK45 : Hid (KeptBut s wr w5) := KeptBut.trans (HK4.out.tbut s) k5
                  clear q0 q1 q2 hkr k5
                  obtain ⟨ml2, M2, r1, r2, r3, r4, r5, r6, r7, r8, r9, r10⟩ := HR.out
                  have h77 := lo_op (k := i) (x := ⟨77, 0, 0, 0, 0, 0, 0, 0, 0⟩) (lo_kb r4 HK45.out HSB.out) (by rw [List.getElem?_append_right (by omega), r1, Nat.sub_self]; rfl)
                  obtain ⟨g77, e77, ⟨z77, _⟩, _⟩ := h77
                  have hgg : g77 = g6 := by injection e77 with e; injection e with e; exact e.symm
                  subst hgg
                  have HSO : Hid (Calls Try.prog 8 #[.slice (some ⟨g77, 0, none⟩) i c6, .slice ma i mc] w5 fun e w' => e = .returned (.bool true) ∧ Kept w5 w') := sameOps_is _ _ _ _ i _ _ ml2 w5 r1 (by omega) (by have h9 := (lo_kb r4 HK45.out HSB.out).take (k := i) (by rw [List.length_append, r1]; omega); rw [List.take_left' r1] at h9; exact h9) (lo_kb r3 HK45.out HSB.out)
                  dsimp only at z77
                  clear e77 r1 r2 r3 r4 r5 r6 r7 r8 r9 r10
                  obtain ⟨hsz, hal⟩ := HAL.out d b w4 w5 HK4.out HD4.out HK5.out HB5.out ia ic (fun k hk => by
                    obtain ⟨ml, M, r1, r2, r3, r4, r5, r6, r7, r8, r9, r10⟩ := HR.out
                    exact lo_int (lo_kb r9 HK45.out HSB.out) (idL_at hk)) HIC.out
                  obtain ⟨sz, z3⟩ := hsz
                  have HAK := hide1 hal
                  clear hal
                  by_cases hsz : sz ≤ 3000
                  · go_upto_region 28 with (first
                      | (go_at_call 8; refine HSO.out.mono ?_; rintro e w6 ⟨rfl, hk6⟩; have HK6 := hide1 hk6; have z77' := grown_cell hk6 z77; have z3' := grown_cell hk6 z3; clear hk6)
                      | (go_at_call 9; refine (HAK.out w6 HK6.out).mono ?_; rintro e w7 ⟨rfl, hk7⟩; have HK7 : Hid (Kept w5 w7) := gtrans HK6.out hk7; clear hk7))
                    have HZ : Hid (RdI w1 s j (.slice ia j ic) i g77 c6 (t + 1) (.slice ma i mc) w7) := by
                      obtain ⟨ml, M', r1, r2, r3, r4, r5, r6, r7, r8, r9, r10⟩ := HR.out
                      have eM := HS9.out M' r7
                      subst eM
                      obtain ⟨m5, hm5, hm6⟩ := HS5.out
                      exact RdI.next HSB.out r1 r2 r3 r4 r5 r6 r8 r9 r10 HK45.out hm5 hm6 HK7.out
                    clear z77' z3'
                    have hiw : IntKind.i64.wrap ((i : Int) - 1) = (i : Int) - 1 := by rw [IntKind.wrap_i64]; omega
                    have HB0 : Hid (MnI w7 0 (.slice none 0 0) w7) := ⟨[], rfl, fun x hx => (by cases hx), LO.nil _ _, Kept.refl _⟩
                    go_wp2_with fail
                    go_loopw [23, 24] (fun v23 v24 wr => ∃ (kk : Nat) (ba : Option Addr) (bc : Nat), kk ≤ i ∧ v23 = .slice ba kk bc ∧ v24 = .int .i64 ((i : Int) - 1 - (kk : Int)) ∧ Hid (MnI w7 kk (.slice ba kk bc) wr)) (fun _ v24 _ => (intOf v24 + 1).toNat)
                    case atStart => exact ⟨0, none, 0, Nat.zero_le _, rfl, by simp, HB0⟩
                    case round =>
                      obtain ⟨kk, ba, bc, hkk, rfl, rfl, HBK⟩ := hrel
                      obtain ⟨bk, b1', b2', b3', b4'⟩ := HBK.out
                      have HBL : Hid (bk.length = kk ∧ (∀ x ∈ bk, fits x.d1) ∧ LO opE wr w7.heap.size (.slice ba kk bc) bk ∧ Kept w7 wr) := ⟨b1', b2', b3', b4'⟩
                      obtain ⟨ml, M, r1, r2, r3, r4, r5, r6, r7, r8, r9, r10⟩ := HZ.out
                      have HML : Hid (ml.length = i ∧ LO opE wr w1.heap.size (.slice (some ⟨g77, 0, none⟩) (i + 1) c6) (ml ++ [⟨77, 0, 0, 0, 0, 0, 0, 0, 0⟩])) := ⟨r1, r4.keep b4'⟩
                      by_cases hkL : kk < i
                      · obtain ⟨p, hp⟩ : ∃ p : Nat, (i : Int) - 1 - (kk : Int) = (p : Int) := ⟨i - 1 - kk, by omega⟩
                        rw [hp]
                        have hpI : (p : Int) < (i : Int) := by omega
                        have hpw : IntKind.i64.wrap ((p : Int) - 1) = (p : Int) - 1 := by rw [IntKind.wrap_i64]; omega
                        obtain ⟨o, hx⟩ : ∃ x, ml[p]? = some x := ⟨_, List.getElem?_eq_getElem (by omega)⟩
                        obtain ⟨g9, rfl, ⟨e0, e1, e2, e3, e4⟩, e5, e6, e7, e8⟩ := lo_op (r3.keep b4') hx
                        have hfq := r2 o (List.mem_of_getElem? hx)
                        obtain ⟨d0, d1, d2, d3, d4, d5, d6, d7, d8⟩ := o
                        dsimp only at e0 e1 e2 e3 e4 e5 e6 e7 e8 hfq
                        have HFQ := hide1 hfq
                        have HPP := hide1 hp
                        clear hx hfq b1' b2' b3' b4' r1 r2 r3 r4 r5 r6 r7 r8 r9 r10 hp
                        go_wp2_with (at_builtin; refine wpl_lo (E := opE) rfl _ _ rfl w7.heap.size (.slice ba kk bc) bk kk HBL.out.1 (by rfl) (HBL.out.2.2.1.keep ((Kept.refl wr).alloc _ _)) wr.heap.size ⟨d0, d1, d2, d3, d4, d5, d6, d7, d8⟩ (by rfl) (World.alloc_heap_new wr _) (by show (kk + 1) * 72 ≤ 140737488355328; omega) (by unfold maxLen; omega) (Nat.le_trans HBL.out.2.2.2.size (alloc_le wr _)) ?_; intro g5 c5 w5 ho5 hg5 hor5 hl5; have HG5 := hide1 (And.intro ho5 hg5); clear ho5 hg5 hor5 hl5)
                        have hp9 := HPP.out
                        exact ⟨⟨kk + 1, some ⟨g5, 0, none⟩, c5, by omega, rfl, by congr 1; omega, bk ++ [⟨d0, d1, d2, d3, d4, d5, d6, d7, d8⟩], by rw [List.length_append, HBL.out.1]; rfl, fun x hx => (List.mem_append.1 hx).elim (HBL.out.2.1 x) (fun h => by rw [List.mem_singleton.1 h]; exact HFQ.out), HG5.out.1, Kept.lo (gtrans HBL.out.2.2.2 ((Kept.refl wr).alloc _ _)) (HBL.out.2.2.1.keep ((Kept.refl wr).alloc _ _)) HG5.out.2⟩, by simp [intOf] <;> omega⟩
                      · obtain rfl : kk = i := by omega
                        rw [show (kk : Int) - 1 - (kk : Int) = -1 by omega]
                        clear b1' b2' b3' b4' r1 r2 r3 r4 r5 r6 r7 r8 r9 r10
                        go_wp2_with fail
                        rename_i K9 hK9
                        obtain ⟨w9, hr9, ho9, hg9⟩ := lo_copyL (E := opE) (w := wr) (base := w1.heap.size) (base4 := w7.heap.size) (g := g77) (ec := c6) (m := kk) (cs := ml) (ds := bk) (x := ⟨77, 0, 0, 0, 0, 0, 0, 0, 0⟩) (xv := .slice ba kk bc) HML.out.2 HML.out.1 HBL.out.2.2.1 HBL.out.1 3
                        have hr8 : (Builtin.copy_ #[23, 23] 3 #[.slice (some ⟨g77, 0, none⟩) kk c6, .slice ba kk bc]).run Try.prog wr = .ok (goInt kk) w9 := hr9
                        have HG9 := hide1 (And.intro ho9 hg9)
                        simp only [hr8, Result.andThen]
                        refine hK9 _ _ ?_
                        clear hr8 hr9 ho9 hg9
                        go_wp2_with fail
                        exact ⟨⟨t + 1, ba, bc, by omega, rfl, by simp, RdI.done HSB.out HZ.out HBL.out.2.2.2 HBL.out.1 HBL.out.2.1 HBL.out.2.2.1 HG9.out.1 HG9.out.2⟩, by simp [intOf] <;> omega⟩
                  · go_upto_region 28 with (go_at_call 8; refine HSO.out.mono ?_; rintro e w7 ⟨rfl, hk7⟩; have HK7 := hide1 hk7; have z77' := grown_cell hk7 z77; have z3' := grown_cell hk7 z3; clear hk7)
                    have HZ : Hid (RdI w1 s j (.slice ia j ic) i g77 c6 (t + 1) (.slice ma i mc) w7) := by
                      obtain ⟨ml, M', r1, r2, r3, r4, r5, r6, r7, r8, r9, r10⟩ := HR.out
                      have eM := HS9.out M' r7
                      subst eM
                      obtain ⟨m5, hm5, hm6⟩ := HS5.out
                      exact RdI.next HSB.out r1 r2 r3 r4 r5 r6 r8 r9 r10 HK45.out hm5 hm6 HK7.out
                    clear z77' z3'
                    have hiw : IntKind.i64.wrap ((i : Int) - 1) = (i : Int) - 1 := by rw [IntKind.wrap_i64]; omega
                    have HB0 : Hid (MnI w7 0 (.slice none 0 0) w7) := ⟨[], rfl, fun x hx => (by cases hx), LO.nil _ _, Kept.refl _⟩
                    go_wp2_with fail
                    go_loopw [23, 24] (fun v23 v24 wr => ∃ (kk : Nat) (ba : Option Addr) (bc : Nat), kk ≤ i ∧ v23 = .slice ba kk bc ∧ v24 = .int .i64 ((i : Int) - 1 - (kk : Int)) ∧ Hid (MnI w7 kk (.slice ba kk bc) wr)) (fun _ v24 _ => (intOf v24 + 1).toNat)
                    case atStart => exact ⟨0, none, 0, Nat.zero_le _, rfl, by simp, HB0⟩
                    case round =>
                      obtain ⟨kk, ba, bc, hkk, rfl, rfl, HBK⟩ := hrel
                      obtain ⟨bk, b1', b2', b3', b4'⟩ := HBK.out
                      have HBL : Hid (bk.length = kk ∧ (∀ x ∈ bk, fits x.d1) ∧ LO opE wr w7.heap.size (.slice ba kk bc) bk ∧ Kept w7 wr) := ⟨b1', b2', b3', b4'⟩
                      obtain ⟨ml, M, r1, r2, r3, r4, r5, r6, r7, r8, r9, r10⟩ := HZ.out
                      have HML : Hid (ml.length = i ∧ LO opE wr w1.heap.size (.slice (some ⟨g77, 0, none⟩) (i + 1) c6) (ml ++ [⟨77, 0, 0, 0, 0, 0, 0, 0, 0⟩])) := ⟨r1, r4.keep b4'⟩
                      by_cases hkL : kk < i
                      · obtain ⟨p, hp⟩ : ∃ p : Nat, (i : Int) - 1 - (kk : Int) = (p : Int) := ⟨i - 1 - kk, by omega⟩
                        rw [hp]
                        have hpI : (p : Int) < (i : Int) := by omega
                        have hpw : IntKind.i64.wrap ((p : Int) - 1) = (p : Int) - 1 := by rw [IntKind.wrap_i64]; omega
                        obtain ⟨o, hx⟩ : ∃ x, ml[p]? = some x := ⟨_, List.getElem?_eq_getElem (by omega)⟩
                        obtain ⟨g9, rfl, ⟨e0, e1, e2, e3, e4⟩, e5, e6, e7, e8⟩ := lo_op (r3.keep b4') hx
                        have hfq := r2 o (List.mem_of_getElem? hx)
                        obtain ⟨d0, d1, d2, d3, d4, d5, d6, d7, d8⟩ := o
                        dsimp only at e0 e1 e2 e3 e4 e5 e6 e7 e8 hfq
                        have HFQ := hide1 hfq
                        have HPP := hide1 hp
                        clear hx hfq b1' b2' b3' b4' r1 r2 r3 r4 r5 r6 r7 r8 r9 r10 hp
                        go_wp2_with (at_builtin; refine wpl_lo (E := opE) rfl _ _ rfl w7.heap.size (.slice ba kk bc) bk kk HBL.out.1 (by rfl) (HBL.out.2.2.1.keep ((Kept.refl wr).alloc _ _)) wr.heap.size ⟨d0, d1, d2, d3, d4, d5, d6, d7, d8⟩ (by rfl) (World.alloc_heap_new wr _) (by show (kk + 1) * 72 ≤ 140737488355328; omega) (by unfold maxLen; omega) (Nat.le_trans HBL.out.2.2.2.size (alloc_le wr _)) ?_; intro g5 c5 w5 ho5 hg5 hor5 hl5; have HG5 := hide1 (And.intro ho5 hg5); clear ho5 hg5 hor5 hl5)
                        have hp9 := HPP.out
                        exact ⟨⟨kk + 1, some ⟨g5, 0, none⟩, c5, by omega, rfl, by congr 1; omega, bk ++ [⟨d0, d1, d2, d3, d4, d5, d6, d7, d8⟩], by rw [List.length_append, HBL.out.1]; rfl, fun x hx => (List.mem_append.1 hx).elim (HBL.out.2.1 x) (fun h => by rw [List.mem_singleton.1 h]; exact HFQ.out), HG5.out.1, Kept.lo (gtrans HBL.out.2.2.2 ((Kept.refl wr).alloc _ _)) (HBL.out.2.2.1.keep ((Kept.refl wr).alloc _ _)) HG5.out.2⟩, by simp [intOf] <;> omega⟩
                      · obtain rfl : kk = i := by omega
                        rw [show (kk : Int) - 1 - (kk : Int) = -1 by omega]
                        clear b1' b2' b3' b4' r1 r2 r3 r4 r5 r6 r7 r8 r9 r10
                        go_wp2_with fail
                        rename_i K9 hK9
                        obtain ⟨w9, hr9, ho9, hg9⟩ := lo_copyL (E := opE) (w := wr) (base := w1.heap.size) (base4 := w7.heap.size) (g := g77) (ec := c6) (m := kk) (cs := ml) (ds := bk) (x := ⟨77, 0, 0, 0, 0, 0, 0, 0, 0⟩) (xv := .slice ba kk bc) HML.out.2 HML.out.1 HBL.out.2.2.1 HBL.out.1 3
                        have hr8 : (Builtin.copy_ #[23, 23] 3 #[.slice (some ⟨g77, 0, none⟩) kk c6, .slice ba kk bc]).run Try.prog wr = .ok (goInt kk) w9 := hr9
                        have HG9 := hide1 (And.intro ho9 hg9)
                        simp only [hr8, Result.andThen]
                        refine hK9 _ _ ?_
                        clear hr8 hr9 ho9 hg9
                        go_wp2_with fail
                        exact ⟨⟨t + 1, ba, bc, by omega, rfl, by simp, RdI.done HSB.out HZ.out HBL.out.2.2.2 HBL.out.1 HBL.out.2.1 HBL.out.2.2.1 HG9.out.1 HG9.out.2⟩, by simp [intOf] <;> omega⟩
              · obtain rfl : t = 2 := by omega
                have hfin : Kept w wr := by
                  obtain ⟨ml, M, r1, r2, r3, r4, r5, r6, r7, r8, r9, r10⟩ := HR.out
                  exact HRW.out wr r6
                have HFIN := hide1 hfin
                clear hfin
                go_wp2_with fail
                go_ret
                exact ⟨rfl, HFIN.out⟩
          · have hg1I : ¬ (i : Int) < (ln : Int) := by omega
            clear hgo hlt
            obtain ⟨ml, hml⟩ := HMI.out
            have HML := hide1 hml
            have hpp : 0 < j := by omega
            have HWA : Hid (∀ W, Calls Try.prog 5 #[.int .i64 at_, .int .i64 (j : Int)] W fun e w' => e = .returned (.int .i64 (wiN at_ j : Int)) ∧ w' = W) := fun W => withinD_is at_ j W hpp (by omega)
            have har := wiN_lt at_ hpp
            obtain ⟨ar, har2⟩ : ∃ r, wiN at_ j = r := ⟨_, rfl⟩
            rw [har2] at HWA har
            have harI : (ar : Int) < (j : Int) := by omega
            have hiI : (i : Int) ≤ 300 := by omega
            obtain ⟨c0, c1, c2⟩ := HGX.out wr (gtrans HKL.out HML.out.2.2.2)
            clear hml har2 c0 c2 HMI
            go_upto_region 18 with (go_at_call 5; refine (HWA.out _).mono ?_; rintro e w5 ⟨rfl, h9⟩; replace h9 := h9.symm; subst h9)
            clear c1
            go_upto_region 19 with (first
              | (at_builtin; refine wpl_loE (E := opE) rfl _ _ rfl wr.heap.size (.slice (some ⟨wr.heap.size, 0, none⟩) 0 0) (by rfl) (lo_emptyA wr (Nat.le_refl _)) w2.heap.size (.slice ma i mc) ml i HML.out.1 (by rfl) (HML.out.2.2.1.keep ((Kept.refl wr).alloc _ _)) (by show i * 72 ≤ 140737488355328; omega) (by unfold maxLen; omega) (alloc_le wr _) ?_; intro b5 c5 w5 ho5 hg5; have HG5 := hide1 (And.intro ho5 hg5); clear ho5 hg5)
              | (at_builtin; refine wpl_lo (E := opE) rfl _ _ rfl wr.heap.size (.slice b5 i c5) ml i HML.out.1 (by rfl) (HG5.out.1.keep ((Kept.refl w5).alloc _ _)) w5.heap.size ⟨77, 0, 0, 0, 0, 0, 0, 0, 0⟩ (by rfl) (World.alloc_heap_new w5 _) (by show (i + 1) * 72 ≤ 140737488355328; omega) (by unfold maxLen; omega) (Nat.le_trans (Nat.le_trans (alloc_le wr _) HG5.out.2.size) (alloc_le w5 _)) ?_; intro g6 c6 w6 ho6 hg6 hor6 hl6; have hc6 : (i : Int) + 1 ≤ (c6 : Int) := (by have h9 := ho6.cap; rw [List.length_append, HML.out.1, List.length_singleton] at h9; omega); have hc7 : (i : Int) ≤ (c6 : Int) := (by omega); have HG6 := hide1 (And.intro ho6 hg6); clear ho6 hg6 hor6 hl6))
            have hk5 : Kept wr w5 := Kept.lo (E := opE) ((Kept.refl wr).alloc _ _) (lo_emptyA wr (Nat.le_refl _)) HG5.out.2
            have hk6 : Kept wr w6 := Kept.lo (gtrans hk5 ((Kept.refl w5).alloc _ _)) (HG5.out.1.keep ((Kept.refl w5).alloc _ _)) HG6.out.2
            have hsb : s < w1.heap.size := by have := HM.out.lo; omega
            have hicj : j ≤ ic := by have h9 := HI.out.1.cap; rw [idL_len] at h9; exact h9
            have HSB := hide1 hsb
            have HIC := hide1 hicj
            have hw12 := HKL.out.size
            have hw2r := HML.out.2.2.2.size
            have hg6l := (HG6.out.1.lt' g6 rfl).1
            have HR0 : Hid (RdI w1 s j (.slice ia j ic) i g6 c6 0 (.slice ma i mc) w6) := ⟨ml, j, HML.out.1, HML.out.2.1, (HML.out.2.2.1.low hw12).keep hk6, HG6.out.1.low (by omega), fun e => by have h9 := (HML.out.2.2.1.lt' _ e).2; omega, (gtrans HKL.out (gtrans HML.out.2.2.2 hk6)).tbut s, HM.out.st.keep (gtrans HKL.out (gtrans HML.out.2.2.2 hk6)), ⟨Nat.le_refl _, by omega⟩, (HI.out.1.keep HML.out.2.2.2).keep hk6, fun e => by have h9 := (HI.out.1.lt' _ e).2; omega⟩
            have HRW : Hid (∀ W, KeptBut s w1 W → Kept w W) := fun W hW => KeptBut.new HK1.out hW HBS.out.2.2
            clear hk5 hk6 hw12 hw2r hg6l HG5 HG6 HML HKL hsb hicj
            go_wp2_with fail
            go_loopw [13, 18] (fun v13 v18 wr => ∃ (t : Nat) (ma : Option Addr) (mc : Nat), t ≤ 2 ∧ v13 = .slice ma i mc ∧ v18 = .int .i64 (t : Int) ∧ Hid (RdI w1 s j (.slice ia j ic) i g6 c6 t (.slice ma i mc) wr)) (fun _ v18 _ => 2 - (intOf v18).toNat)
            case atStart => exact ⟨0, ma, mc, Nat.zero_le _, rfl, rfl, HR0⟩
            case round =>
              clear HR0
              obtain ⟨t, ma, mc, ht, rfl, rfl, HR⟩ := hrel
              by_cases ht2 : t < 2
              · have htI : (t : Int) < 2 := by omega
                obtain ⟨ml, M, r1, r2, r3, r4, r5, r6, r7, r8, r9, r10⟩ := HR.out
                have hMw := HM.out.but r6 r7
                have hbx := hMw.box
                have hmI : (i : Int) ≤ (mc : Int) := by have h9 := r3.cap; rw [r1] at h9; omega
                have c0 : wr.cell? ⟨gb, 0, none⟩ = some (.pointer (some ⟨s, 0, none⟩)) := by simp [World.cell?, hbx]
                have c1 : wr.cell? ⟨gb, 1, none⟩ = some (.slice aN j cN) := by simp [World.cell?, hbx]
                have c2 : wr.cell? ⟨gb, 2, none⟩ = some (.slice aP j cP) := by simp [World.cell?, hbx]
                have hb : P[ar]? = some (atL P ar) := by unfold atL; rw [List.getElem?_eq_getElem (by rw [HPN.out]; exact har)]; rfl
                have hd : Q[ar]? = some (atL Q ar) := by unfold atL; rw [List.getElem?_eq_getElem (by rw [HQN.out]; exact har)]; rfl
                obtain ⟨gN, gP, eN, eP, k1, k2⟩ := gr_read hMw hb hd
                subst eN eP
                have hgs : gb ≠ s := by have := hMw.lo; omega
                have hns : gN ≠ s := by have h1 := (hMw.nl.lt' gN rfl).1; have h2 := hMw.lo; omega
                have HTW := hide1 (apply_two (i := ar) hMw HT.out HPN.out (by omega) (by omega) r8.1 (by omega) har r1 hi2 r2 r3 (by have h9 := r4.take (k := i) (by rw [List.length_append, r1]; omega); rw [List.take_left' r1] at h9; exact h9) HSB.out)
                obtain ⟨pb, hpb⟩ : ∃ x, atL P ar = x := ⟨_, rfl⟩
                obtain ⟨pd, hpd⟩ : ∃ x, atL Q ar = x := ⟨_, rfl⟩
                rw [hpb, hpd] at HTW
                rw [hpb] at k1
                rw [hpd] at k2
                have HS9 : Hid (∀ M', StoreAt wr s M' → M' = M) := fun M' h => by
                  have h9 := Option.some.inj (h.symm.trans r7)
                  simp at h9
                  omega
                clear hMw hbx hb hd hpb hpd r1 r2 r3 r4 r5 r6 r7 r8 r9 r10
                rcases HTW.out with ⟨f, hAP, hAD⟩ | ⟨D, B, hAP, hAD, hAL⟩
                · have HAP := hide1 hAP
                  have HAD := hide1 hAD
                  clear hAP hAD HTW
                  go_upto_region 23 with (go_at_call 6; refine HAP.out.mono ?_; rintro e w4 ⟨rfl, hk4⟩; have HK4 := hide1 hk4; clear hk4)
                  have q0 := keepsB hgs (grown_cell HK4.out c0)
                  have q1 := keepsB hgs (grown_cell HK4.out c1)
                  have q2 := keepsB hns (grown_cell HK4.out k1)
                  have hkr : KeptBut s w4 w4 := (Kept.refl w4).tbut s
                  clear c0 c1 c2 k1 k2
                  go_region_held3 (fun w' => KeptBut s w4 w') (first | assumption | exact (Kept.refl _).tbut _ | exact (drew_kept _).tbut _)
                    ((go_at_call 7; refine (HAD.out _ (gtrans HK4.out (by first | exact drew_kept _ | exact Kept.refl _))).mono ?_; rintro e w5 ⟨rfl, hk5, hs5⟩; have k5 : KeptBut s w4 w5 := KeptBut.trans (by assumption) hk5; have HS5 := hide1 hs5; clear hk5 hs5))
                  have HK5 := hide1 k5
                  have HK45 : Hid (KeptBut s wr w5) := KeptBut.trans (HK4.out.tbut s) k5
                  clear q0 q1 q2 hkr k5
                  obtain ⟨ml2, M2, r1, r2, r3, r4, r5, r6, r7, r8, r9, r10⟩ := HR.out
                  have h77 := lo_op (k := i) (x := ⟨77, 0, 0, 0, 0, 0, 0, 0, 0⟩) (lo_kb r4 HK45.out HSB.out) (by rw [List.getElem?_append_right (by omega), r1, Nat.sub_self]; rfl)
                  obtain ⟨g77, e77, ⟨z77, _⟩, _⟩ := h77
                  have hgg : g77 = g6 := by injection e77 with e; injection e with e; exact e.symm
                  subst hgg
                  have HSO : Hid (Calls Try.prog 8 #[.slice (some ⟨g77, 0, none⟩) i c6, .slice ma i mc] w5 fun e w' => e = .returned (.bool true) ∧ Kept w5 w') := sameOps_is _ _ _ _ i _ _ ml2 w5 r1 (by omega) (by have h9 := (lo_kb r4 HK45.out HSB.out).take (k := i) (by rw [List.length_append, r1]; omega); rw [List.take_left' r1] at h9; exact h9) (lo_kb r3 HK45.out HSB.out)
                  dsimp only at z77
                  clear e77 r1 r2 r3 r4 r5 r6 r7 r8 r9 r10
                  go_upto_region 28 with (go_at_call 8; refine HSO.out.mono ?_; rintro e w7 ⟨rfl, hk7⟩; have HK7 := hide1 hk7; have z77' := grown_cell hk7 z77; clear hk7)
                  have HZ : Hid (RdI w1 s j (.slice ia j ic) i g77 c6 (t + 1) (.slice ma i mc) w7) := by
                    obtain ⟨ml, M', r1, r2, r3, r4, r5, r6, r7, r8, r9, r10⟩ := HR.out
                    have eM := HS9.out M' r7
                    subst eM
                    obtain ⟨m5, hm5, hm6⟩ := HS5.out
                    exact RdI.next HSB.out r1 r2 r3 r4 r5 r6 r8 r9 r10 HK45.out hm5 hm6 HK7.out
                  clear z77'
                  have hiw : IntKind.i64.wrap ((i : Int) - 1) = (i : Int) - 1 := by rw [IntKind.wrap_i64]; omega
                  have HB0 : Hid (MnI w7 0 (.slice none 0 0) w7) := ⟨[], rfl, fun x hx => (by cases hx), LO.nil _ _, Kept.refl _⟩
                  go_wp2_with fail
                  go_loopw [23, 24] (fun v23 v24 wr => ∃ (kk : Nat) (ba : Option Addr) (bc : Nat), kk ≤ i ∧ v23 = .slice ba kk bc ∧ v24 = .int .i64 ((i : Int) - 1 - (kk : Int)) ∧ Hid (MnI w7 kk (.slice ba kk bc) wr)) (fun _ v24 _ => (intOf v24 + 1).toNat)
                  case atStart => exact ⟨0, none, 0, Nat.zero_le _, rfl, by simp, HB0⟩
                  case round =>
                    obtain ⟨kk, ba, bc, hkk, rfl, rfl, HBK⟩ := hrel
                    obtain ⟨bk, b1', b2', b3', b4'⟩ := HBK.out
                    have HBL : Hid (bk.length = kk ∧ (∀ x ∈ bk, fits x.d1) ∧ LO opE wr w7.heap.size (.slice ba kk bc) bk ∧ Kept w7 wr) := ⟨b1', b2', b3', b4'⟩
                    obtain ⟨ml, M, r1, r2, r3, r4, r5, r6, r7, r8, r9, r10⟩ := HZ.out
                    have HML : Hid (ml.length = i ∧ LO opE wr w1.heap.size (.slice (some ⟨g77, 0, none⟩) (i + 1) c6) (ml ++ [⟨77, 0, 0, 0, 0, 0, 0, 0, 0⟩])) := ⟨r1, r4.keep b4'⟩
                    by_cases hkL : kk < i
                    · obtain ⟨p, hp⟩ : ∃ p : Nat, (i : Int) - 1 - (kk : Int) = (p : Int) := ⟨i - 1 - kk, by omega⟩
                      rw [hp]
                      have hpI : (p : Int) < (i : Int) := by omega
                      have hpw : IntKind.i64.wrap ((p : Int) - 1) = (p : Int) - 1 := by rw [IntKind.wrap_i64]; omega
                      obtain ⟨o, hx⟩ : ∃ x, ml[p]? = some x := ⟨_, List.getElem?_eq_getElem (by omega)⟩
                      obtain ⟨g9, rfl, ⟨e0, e1, e2, e3, e4⟩, e5, e6, e7, e8⟩ := lo_op (r3.keep b4') hx
                      have hfq := r2 o (List.mem_of_getElem? hx)
                      obtain ⟨d0, d1, d2, d3, d4, d5, d6, d7, d8⟩ := o
                      dsimp only at e0 e1 e2 e3 e4 e5 e6 e7 e8 hfq
                      have HFQ := hide1 hfq
                      have HPP := hide1 hp
                      clear hx hfq b1' b2' b3' b4' r1 r2 r3 r4 r5 r6 r7 r8 r9 r10 hp
                      go_wp2_with (at_builtin; refine wpl_lo (E := opE) rfl _ _ rfl w7.heap.size (.slice ba kk bc) bk kk HBL.out.1 (by rfl) (HBL.out.2.2.1.keep ((Kept.refl wr).alloc _ _)) wr.heap.size ⟨d0, d1, d2, d3, d4, d5, d6, d7, d8⟩ (by rfl) (World.alloc_heap_new wr _) (by show (kk + 1) * 72 ≤ 140737488355328; omega) (by unfold maxLen; omega) (Nat.le_trans HBL.out.2.2.2.size (alloc_le wr _)) ?_; intro g5 c5 w5 ho5 hg5 hor5 hl5; have HG5 := hide1 (And.intro ho5 hg5); clear ho5 hg5 hor5 hl5)
                      have hp9 := HPP.out
                      exact ⟨⟨kk + 1, some ⟨g5, 0, none⟩, c5, by omega, rfl, by congr 1; omega, bk ++ [⟨d0, d1, d2, d3, d4, d5, d6, d7, d8⟩], by rw [List.length_append, HBL.out.1]; rfl, fun x hx => (List.mem_append.1 hx).elim (HBL.out.2.1 x) (fun h => by rw [List.mem_singleton.1 h]; exact HFQ.out), HG5.out.1, Kept.lo (gtrans HBL.out.2.2.2 ((Kept.refl wr).alloc _ _)) (HBL.out.2.2.1.keep ((Kept.refl wr).alloc _ _)) HG5.out.2⟩, by simp [intOf] <;> omega⟩
                    · obtain rfl : kk = i := by omega
                      rw [show (kk : Int) - 1 - (kk : Int) = -1 by omega]
                      clear b1' b2' b3' b4' r1 r2 r3 r4 r5 r6 r7 r8 r9 r10
                      go_wp2_with fail
                      rename_i K9 hK9
                      obtain ⟨w9, hr9, ho9, hg9⟩ := lo_copyL (E := opE) (w := wr) (base := w1.heap.size) (base4 := w7.heap.size) (g := g77) (ec := c6) (m := kk) (cs := ml) (ds := bk) (x := ⟨77, 0, 0, 0, 0, 0, 0, 0, 0⟩) (xv := .slice ba kk bc) HML.out.2 HML.out.1 HBL.out.2.2.1 HBL.out.1 3
                      have hr8 : (Builtin.copy_ #[23, 23] 3 #[.slice (some ⟨g77, 0, none⟩) kk c6, .slice ba kk bc]).run Try.prog wr = .ok (goInt kk) w9 := hr9
                      have HG9 := hide1 (And.intro ho9 hg9)
                      simp only [hr8, Result.andThen]
                      refine hK9 _ _ ?_
                      clear hr8 hr9 ho9 hg9
                      go_wp2_with fail
                      exact ⟨⟨t + 1, ba, bc, by omega, rfl, by simp, RdI.done HSB.out HZ.out HBL.out.2.2.2 HBL.out.1 HBL.out.2.1 HBL.out.2.2.1 HG9.out.1 HG9.out.2⟩, by simp [intOf] <;> omega⟩
                · have HAP := hide1 hAP
                  have HAD := hide1 hAD
                  have HAL := hide1 hAL
                  clear hAP hAD hAL HTW
                  go_upto_region 23 with (go_at_call 6; refine HAP.out.mono ?_; rintro e w4 ⟨d, rfl, hk4, hD4⟩; have HK4 := hide1 hk4; have HD4 := hide1 hD4; clear hk4 hD4)
                  have q0 := keepsB hgs (grown_cell HK4.out c0)
                  have q1 := keepsB hgs (grown_cell HK4.out c1)
                  have q2 := keepsB hns (grown_cell HK4.out k1)
                  have hkr : KeptBut s w4 w4 := (Kept.refl w4).tbut s
                  clear c0 c1 c2 k1 k2
                  go_region_held3 (fun w' => KeptBut s w4 w') (first | assumption | exact (Kept.refl _).tbut _ | exact (drew_kept _).tbut _)
                    ((go_at_call 7; refine (HAD.out _ (gtrans HK4.out (by first | exact drew_kept _ | exact Kept.refl _))).mono ?_; rintro e w5 ⟨b, rfl, hk5, hs5, hB5⟩; have k5 : KeptBut s w4 w5 := KeptBut.trans (by assumption) hk5; have HS5 := hide1 hs5; have HB5 := hide1 hB5; clear hk5 hs5 hB5))
                  have HK5 := hide1 k5
                  have HK45 : Hid (KeptBut s wr w5) := KeptBut.trans (HK4.out.tbut s) k5
                  clear q0 q1 q2 hkr k5
                  obtain ⟨ml2, M2, r1, r2, r3, r4, r5, r6, r7, r8, r9, r10⟩ := HR.out
                  have h77 := lo_op (k := i) (x := ⟨77, 0, 0, 0, 0, 0, 0, 0, 0⟩) (lo_kb r4 HK45.out HSB.out) (by rw [List.getElem?_append_right (by omega), r1, Nat.sub_self]; rfl)
                  obtain ⟨g77, e77, ⟨z77, _⟩, _⟩ := h77
                  have hgg : g77 = g6 := by injection e77 with e; injection e with e; exact e.symm
                  subst hgg
                  have HSO : Hid (Calls Try.prog 8 #[.slice (some ⟨g77, 0, none⟩) i c6, .slice ma i mc] w5 fun e w' => e = .returned (.bool true) ∧ Kept w5 w') := sameOps_is _ _ _ _ i _ _ ml2 w5 r1 (by omega) (by have h9 := (lo_kb r4 HK45.out HSB.out).take (k := i) (by rw [List.length_append, r1]; omega); rw [List.take_left' r1] at h9; exact h9) (lo_kb r3 HK45.out HSB.out)
                  dsimp only at z77
                  clear e77 r1 r2 r3 r4 r5 r6 r7 r8 r9 r10
                  obtain ⟨hsz, hal⟩ := HAL.out d b w4 w5 HK4.out HD4.out HK5.out HB5.out ia ic (fun k hk => by
                    obtain ⟨ml, M, r1, r2, r3, r4, r5, r6, r7, r8, r9, r10⟩ := HR.out
                    exact lo_int (lo_kb r9 HK45.out HSB.out) (idL_at hk)) HIC.out
                  obtain ⟨sz, z3⟩ := hsz
                  have HAK := hide1 hal
                  clear hal
                  by_cases hsz : sz ≤ 3000
                  · go_upto_region 28 with (first
                      | (go_at_call 8; refine HSO.out.mono ?_; rintro e w6 ⟨rfl, hk6⟩; have HK6 := hide1 hk6; have z77' := grown_cell hk6 z77; have z3' := grown_cell hk6 z3; clear hk6)
                      | (go_at_call 9; refine (HAK.out w6 HK6.out).mono ?_; rintro e w7 ⟨rfl, hk7⟩; have HK7 : Hid (Kept w5 w7) := gtrans HK6.out hk7; clear hk7))
                    have HZ : Hid (RdI w1 s j (.slice ia j ic) i g77 c6 (t + 1) (.slice ma i mc) w7) := by
                      obtain ⟨ml, M', r1, r2, r3, r4, r5, r6, r7, r8, r9, r10⟩ := HR.out
                      have eM := HS9.out M' r7
                      subst eM
                      obtain ⟨m5, hm5, hm6⟩ := HS5.out
                      exact RdI.next HSB.out r1 r2 r3 r4 r5 r6 r8 r9 r10 HK45.out hm5 hm6 HK7.out
                    clear z77' z3'
                    have hiw : IntKind.i64.wrap ((i : Int) - 1) = (i : Int) - 1 := by rw [IntKind.wrap_i64]; omega
                    have HB0 : Hid (MnI w7 0 (.slice none 0 0) w7) := ⟨[], rfl, fun x hx => (by cases hx), LO.nil _ _, Kept.refl _⟩
                    go_wp2_with fail
                    go_loopw [23, 24] (fun v23 v24 wr => ∃ (kk : Nat) (ba : Option Addr) (bc : Nat), kk ≤ i ∧ v23 = .slice ba kk bc ∧ v24 = .int .i64 ((i : Int) - 1 - (kk : Int)) ∧ Hid (MnI w7 kk (.slice ba kk bc) wr)) (fun _ v24 _ => (intOf v24 + 1).toNat)
                    case atStart => exact ⟨0, none, 0, Nat.zero_le _, rfl, by simp, HB0⟩
                    case round =>
                      obtain ⟨kk, ba, bc, hkk, rfl, rfl, HBK⟩ := hrel
                      obtain ⟨bk, b1', b2', b3', b4'⟩ := HBK.out
                      have HBL : Hid (bk.length = kk ∧ (∀ x ∈ bk, fits x.d1) ∧ LO opE wr w7.heap.size (.slice ba kk bc) bk ∧ Kept w7 wr) := ⟨b1', b2', b3', b4'⟩
                      obtain ⟨ml, M, r1, r2, r3, r4, r5, r6, r7, r8, r9, r10⟩ := HZ.out
                      have HML : Hid (ml.length = i ∧ LO opE wr w1.heap.size (.slice (some ⟨g77, 0, none⟩) (i + 1) c6) (ml ++ [⟨77, 0, 0, 0, 0, 0, 0, 0, 0⟩])) := ⟨r1, r4.keep b4'⟩
                      by_cases hkL : kk < i
                      · obtain ⟨p, hp⟩ : ∃ p : Nat, (i : Int) - 1 - (kk : Int) = (p : Int) := ⟨i - 1 - kk, by omega⟩
                        rw [hp]
                        have hpI : (p : Int) < (i : Int) := by omega
                        have hpw : IntKind.i64.wrap ((p : Int) - 1) = (p : Int) - 1 := by rw [IntKind.wrap_i64]; omega
                        obtain ⟨o, hx⟩ : ∃ x, ml[p]? = some x := ⟨_, List.getElem?_eq_getElem (by omega)⟩
                        obtain ⟨g9, rfl, ⟨e0, e1, e2, e3, e4⟩, e5, e6, e7, e8⟩ := lo_op (r3.keep b4') hx
                        have hfq := r2 o (List.mem_of_getElem? hx)
                        obtain ⟨d0, d1, d2, d3, d4, d5, d6, d7, d8⟩ := o
                        dsimp only at e0 e1 e2 e3 e4 e5 e6 e7 e8 hfq
                        have HFQ := hide1 hfq
                        have HPP := hide1 hp
                        clear hx hfq b1' b2' b3' b4' r1 r2 r3 r4 r5 r6 r7 r8 r9 r10 hp
                        go_wp2_with (at_builtin; refine wpl_lo (E := opE) rfl _ _ rfl w7.heap.size (.slice ba kk bc) bk kk HBL.out.1 (by rfl) (HBL.out.2.2.1.keep ((Kept.refl wr).alloc _ _)) wr.heap.size ⟨d0, d1, d2, d3, d4, d5, d6, d7, d8⟩ (by rfl) (World.alloc_heap_new wr _) (by show (kk + 1) * 72 ≤ 140737488355328; omega) (by unfold maxLen; omega) (Nat.le_trans HBL.out.2.2.2.size (alloc_le wr _)) ?_; intro g5 c5 w5 ho5 hg5 hor5 hl5; have HG5 := hide1 (And.intro ho5 hg5); clear ho5 hg5 hor5 hl5)
                        have hp9 := HPP.out
                        exact ⟨⟨kk + 1, some ⟨g5, 0, none⟩, c5, by omega, rfl, by congr 1; omega, bk ++ [⟨d0, d1, d2, d3, d4, d5, d6, d7, d8⟩], by rw [List.length_append, HBL.out.1]; rfl, fun x hx => (List.mem_append.1 hx).elim (HBL.out.2.1 x) (fun h => by rw [List.mem_singleton.1 h]; exact HFQ.out), HG5.out.1, Kept.lo (gtrans HBL.out.2.2.2 ((Kept.refl wr).alloc _ _)) (HBL.out.2.2.1.keep ((Kept.refl wr).alloc _ _)) HG5.out.2⟩, by simp [intOf] <;> omega⟩
                      · obtain rfl : kk = i := by omega
                        rw [show (kk : Int) - 1 - (kk : Int) = -1 by omega]
                        clear b1' b2' b3' b4' r1 r2 r3 r4 r5 r6 r7 r8 r9 r10
                        go_wp2_with fail
                        rename_i K9 hK9
                        obtain ⟨w9, hr9, ho9, hg9⟩ := lo_copyL (E := opE) (w := wr) (base := w1.heap.size) (base4 := w7.heap.size) (g := g77) (ec := c6) (m := kk) (cs := ml) (ds := bk) (x := ⟨77, 0, 0, 0, 0, 0, 0, 0, 0⟩) (xv := .slice ba kk bc) HML.out.2 HML.out.1 HBL.out.2.2.1 HBL.out.1 3
                        have hr8 : (Builtin.copy_ #[23, 23] 3 #[.slice (some ⟨g77, 0, none⟩) kk c6, .slice ba kk bc]).run Try.prog wr = .ok (goInt kk) w9 := hr9
                        have HG9 := hide1 (And.intro ho9 hg9)
                        simp only [hr8, Result.andThen]
                        refine hK9 _ _ ?_
                        clear hr8 hr9 ho9 hg9
                        go_wp2_with fail
                        exact ⟨⟨t + 1, ba, bc, by omega, rfl, by simp, RdI.done HSB.out HZ.out HBL.out.2.2.2 HBL.out.1 HBL.out.2.1 HBL.out.2.2.1 HG9.out.1 HG9.out.2⟩, by simp [intOf] <;> omega⟩
                  · go_upto_region 28 with (go_at_call 8; refine HSO.out.mono ?_; rintro e w7 ⟨rfl, hk7⟩; have HK7 := hide1 hk7; have z77' := grown_cell hk7 z77; have z3' := grown_cell hk7 z3; clear hk7)
                    have HZ : Hid (RdI w1 s j (.slice ia j ic) i g77 c6 (t + 1) (.slice ma i mc) w7) := by
                      obtain ⟨ml, M', r1, r2, r3, r4, r5, r6, r7, r8, r9, r10⟩ := HR.out
                      have eM := HS9.out M' r7
                      subst eM
                      obtain ⟨m5, hm5, hm6⟩ := HS5.out
                      exact RdI.next HSB.out r1 r2 r3 r4 r5 r6 r8 r9 r10 HK45.out hm5 hm6 HK7.out
                    clear z77' z3'
                    have hiw : IntKind.i64.wrap ((i : Int) - 1) = (i : Int) - 1 := by rw [IntKind.wrap_i64]; omega
                    have HB0 : Hid (MnI w7 0 (.slice none 0 0) w7) := ⟨[], rfl, fun x hx => (by cases hx), LO.nil _ _, Kept.refl _⟩
                    go_wp2_with fail
                    go_loopw [23, 24] (fun v23 v24 wr => ∃ (kk : Nat) (ba : Option Addr) (bc : Nat), kk ≤ i ∧ v23 = .slice ba kk bc ∧ v24 = .int .i64 ((i : Int) - 1 - (kk : Int)) ∧ Hid (MnI w7 kk (.slice ba kk bc) wr)) (fun _ v24 _ => (intOf v24 + 1).toNat)
                    case atStart => exact ⟨0, none, 0, Nat.zero_le _, rfl, by simp, HB0⟩
                    case round =>
                      obtain ⟨kk, ba, bc, hkk, rfl, rfl, HBK⟩ := hrel
                      obtain ⟨bk, b1', b2', b3', b4'⟩ := HBK.out
                      have HBL : Hid (bk.length = kk ∧ (∀ x ∈ bk, fits x.d1) ∧ LO opE wr w7.heap.size (.slice ba kk bc) bk ∧ Kept w7 wr) := ⟨b1', b2', b3', b4'⟩
                      obtain ⟨ml, M, r1, r2, r3, r4, r5, r6, r7, r8, r9, r10⟩ := HZ.out
                      have HML : Hid (ml.length = i ∧ LO opE wr w1.heap.size (.slice (some ⟨g77, 0, none⟩) (i + 1) c6) (ml ++ [⟨77, 0, 0, 0, 0, 0, 0, 0, 0⟩])) := ⟨r1, r4.keep b4'⟩
                      by_cases hkL : kk < i
                      · obtain ⟨p, hp⟩ : ∃ p : Nat, (i : Int) - 1 - (kk : Int) = (p : Int) := ⟨i - 1 - kk, by omega⟩
                        rw [hp]
                        have hpI : (p : Int) < (i : Int) := by omega
                        have hpw : IntKind.i64.wrap ((p : Int) - 1) = (p : Int) - 1 := by rw [IntKind.wrap_i64]; omega
                        obtain ⟨o, hx⟩ : ∃ x, ml[p]? = some x := ⟨_, List.getElem?_eq_getElem (by omega)⟩
                        obtain ⟨g9, rfl, ⟨e0, e1, e2, e3, e4⟩, e5, e6, e7, e8⟩ := lo_op (r3.keep b4') hx
                        have hfq := r2 o (List.mem_of_getElem? hx)
                        obtain ⟨d0, d1, d2, d3, d4, d5, d6, d7, d8⟩ := o
                        dsimp only at e0 e1 e2 e3 e4 e5 e6 e7 e8 hfq
                        have HFQ := hide1 hfq
                        have HPP := hide1 hp
                        clear hx hfq b1' b2' b3' b4' r1 r2 r3 r4 r5 r6 r7 r8 r9 r10 hp
                        go_wp2_with (at_builtin; refine wpl_lo (E := opE) rfl _ _ rfl w7.heap.size (.slice ba kk bc) bk kk HBL.out.1 (by rfl) (HBL.out.2.2.1.keep ((Kept.refl wr).alloc _ _)) wr.heap.size ⟨d0, d1, d2, d3, d4, d5, d6, d7, d8⟩ (by rfl) (World.alloc_heap_new wr _) (by show (kk + 1) * 72 ≤ 140737488355328; omega) (by unfold maxLen; omega) (Nat.le_trans HBL.out.2.2.2.size (alloc_le wr _)) ?_; intro g5 c5 w5 ho5 hg5 hor5 hl5; have HG5 := hide1 (And.intro ho5 hg5); clear ho5 hg5 hor5 hl5)
                        have hp9 := HPP.out
                        exact ⟨⟨kk + 1, some ⟨g5, 0, none⟩, c5, by omega, rfl, by congr 1; omega, bk ++ [⟨d0, d1, d2, d3, d4, d5, d6, d7, d8⟩], by rw [List.length_append, HBL.out.1]; rfl, fun x hx => (List.mem_append.1 hx).elim (HBL.out.2.1 x) (fun h => by rw [List.mem_singleton.1 h]; exact HFQ.out), HG5.out.1, Kept.lo (gtrans HBL.out.2.2.2 ((Kept.refl wr).alloc _ _)) (HBL.out.2.2.1.keep ((Kept.refl wr).alloc _ _)) HG5.out.2⟩, by simp [intOf] <;> omega⟩
                      · obtain rfl : kk = i := by omega
                        rw [show (kk : Int) - 1 - (kk : Int) = -1 by omega]
                        clear b1' b2' b3' b4' r1 r2 r3 r4 r5 r6 r7 r8 r9 r10
                        go_wp2_with fail
                        rename_i K9 hK9
                        obtain ⟨w9, hr9, ho9, hg9⟩ := lo_copyL (E := opE) (w := wr) (base := w1.heap.size) (base4 := w7.heap.size) (g := g77) (ec := c6) (m := kk) (cs := ml) (ds := bk) (x := ⟨77, 0, 0, 0, 0, 0, 0, 0, 0⟩) (xv := .slice ba kk bc) HML.out.2 HML.out.1 HBL.out.2.2.1 HBL.out.1 3
                        have hr8 : (Builtin.copy_ #[23, 23] 3 #[.slice (some ⟨g77, 0, none⟩) kk c6, .slice ba kk bc]).run Try.prog wr = .ok (goInt kk) w9 := hr9
                        have HG9 := hide1 (And.intro ho9 hg9)
                        simp only [hr8, Result.andThen]
                        refine hK9 _ _ ?_
                        clear hr8 hr9 ho9 hg9
                        go_wp2_with fail
                        exact ⟨⟨t + 1, ba, bc, by omega, rfl, by simp, RdI.done HSB.out HZ.out HBL.out.2.2.2 HBL.out.1 HBL.out.2.1 HBL.out.2.2.1 HG9.out.1 HG9.out.2⟩, by simp [intOf] <;> omega⟩
              · obtain rfl : t = 2 := by omega
                have hfin : Kept w wr := by
                  obtain ⟨ml, M, r1, r2, r3, r4, r5, r6, r7, r8, r9, r10⟩ := HR.out
                  exact HRW.out wr r6
                have HFIN := hide1 hfin
                clear hfin
                go_wp2_with fail
                go_ret
                exact ⟨rfl, HFIN.out⟩
end Tr
end Ex
end Go.Proofs.Yteckbpmliahhhaa
namespace Go.Proofs.Yteckbpmliahhhaa
open Go.ChangeShapes Go.WideShapes Go.ChangeAt Go.RowKit
set_option linter.unusedVariables false
namespace Ex
namespace Tr
namespace Fa

theorem op_cellsP : Try.prog.cellsOf 39 = 9 := by kernel_rfl
theorem op_bytesP : Try.prog.bytesOf 39 = 72 := by kernel_rfl
theorem six_p {α : Type} : ∀ {l : List α}, l.length = 6 → ∃ a b c d e f, l = [a, b, c, d, e, f]
  | [a, b, c, d, e, f], _ => ⟨a, b, c, d, e, f, rfl⟩
theorem nine_p {α : Type} : ∀ {l : List α}, l.length = 9 → ∃ a b c d e f g h i, l = [a, b, c, d, e, f, g, h, i]
  | [a, b, c, d, e, f, g, h, i], _ => ⟨a, b, c, d, e, f, g, h, i, rfl⟩
/-- A step that came in. -/
def OpEl (cs : List Value) (x : OpM) : Prop := cs = [.int .i64 x.d0, .int .i64 x.d1, .int .i64 x.d2, .int .i64 x.d3, .int .i64 x.d4, .int .i64 x.d5, .int .i64 x.d6, .int .i64 x.d7, .int .i64 x.d8] ∧ fits x.d1
section
variable {H : Type} {enc : TypeId × Value → H}
set_option maxRecDepth 100000 in
theorem op_el {W : World} {m : Nat} {cs : List Value} {y : DataW H × List MemPlace} (hl : cs.length = 9) (h : DataW.trod enc Try.prog W 0 (fun _ => true) true m 39 cs = some y) : ∃ x, OpEl cs x := by
  obtain ⟨d, p⟩ := y
  obtain ⟨xs, n', hn', hx1, _, hx3, hx4⟩ := DataW.trod_struct Try.underlying39 h
  obtain ⟨v0, v1, v2, v3, v4, v5, v6, v7, v8, rfl⟩ := nine_p hl
  obtain ⟨y0, y1, y2, y3, y4, y5, rfl⟩ := six_p hx3
  have f0 : DataW.trod enc Try.prog W 0 (fun _ => true) true n' 3 [v0] = some y0 := by have := hx4 0 _ rfl; simpa [int_cellsD] using this
  have f1 : DataW.trod enc Try.prog W 0 (fun _ => true) true n' 3 [v1] = some y1 := by have := hx4 1 _ rfl; simpa [int_cellsD] using this
  have f2 : DataW.trod enc Try.prog W 0 (fun _ => true) true n' 3 [v2] = some y2 := by have := hx4 2 _ rfl; simpa [int_cellsD] using this
  have f3 : DataW.trod enc Try.prog W 0 (fun _ => true) true n' 3 [v3] = some y3 := by have := hx4 3 _ rfl; simpa [int_cellsD] using this
  have f4 : DataW.trod enc Try.prog W 0 (fun _ => true) true n' 3 [v4] = some y4 := by have := hx4 4 _ rfl; simpa [int_cellsD] using this
  have f5 : DataW.trod enc Try.prog W 0 (fun _ => true) true n' 34 [v5, v6, v7, v8] = some y5 := by have := hx4 5 _ rfl; simpa [leaf_cellsP, int_cellsD] using this
  obtain ⟨z0, e0, _, _⟩ := DataW.trod_int Try.underlying3 f0
  obtain ⟨z1, e1, _, hw1⟩ := DataW.trod_int Try.underlying3 f1
  obtain ⟨z2, e2, _, _⟩ := DataW.trod_int Try.underlying3 f2
  obtain ⟨z3, e3, _, _⟩ := DataW.trod_int Try.underlying3 f3
  obtain ⟨z4, e4, _, _⟩ := DataW.trod_int Try.underlying3 f4
  obtain ⟨xs2, n2, hn2, hx12, _, hx32, hx42⟩ := DataW.trod_struct Try.underlying34 f5
  obtain ⟨w0, w1, w2, w3, rfl⟩ := four_p hx32
  have g0 : DataW.trod enc Try.prog W 0 (fun _ => true) true n2 3 [v5] = some w0 := by have := hx42 0 _ rfl; simpa [int_cellsD] using this
  have g1 : DataW.trod enc Try.prog W 0 (fun _ => true) true n2 3 [v6] = some w1 := by have := hx42 1 _ rfl; simpa [int_cellsD] using this
  have g2 : DataW.trod enc Try.prog W 0 (fun _ => true) true n2 3 [v7] = some w2 := by have := hx42 2 _ rfl; simpa [int_cellsD] using this
  have g3 : DataW.trod enc Try.prog W 0 (fun _ => true) true n2 3 [v8] = some w3 := by have := hx42 3 _ rfl; simpa [int_cellsD] using this
  obtain ⟨q0, d0, _, _⟩ := DataW.trod_int Try.underlying3 g0
  obtain ⟨q1, d1, _, _⟩ := DataW.trod_int Try.underlying3 g1
  obtain ⟨q2, d2, _, _⟩ := DataW.trod_int Try.underlying3 g2
  obtain ⟨q3, d3, _, _⟩ := DataW.trod_int Try.underlying3 g3
  simp only [List.cons.injEq, and_true] at e0 e1 e2 e3 e4 d0 d1 d2 d3
  subst e0 e1 e2 e3 e4 d0 d1 d2 d3
  exact ⟨⟨z0, z1, z2, z3, z4, q0, q1, q2, q3⟩, rfl, wf_fits hw1⟩
set_option maxRecDepth 100000 in
/-- A list of steps that came in. -/
theorem ops_arg {W : World} {v : Value} {d : DataW H} {p : List MemPlace} (hv : ∃ a len cap, v = .slice a len cap) (h : DataW.Trod enc Try.prog W 0 (fun _ => true) true 23 v d p) (hz : ∀ n ∈ d.weights Try.prog 23, n ≤ reachBytes) : ∃ l, OpsIn W v l ∧ ∀ x ∈ l, fits x.d1 := by
  obtain ⟨a0, len0, cap0, rfl⟩ := hv
  obtain ⟨fuel, hf⟩ := h
  have hf2 : DataW.trod enc Try.prog W 0 (fun _ => true) true fuel 23 [.slice a0 len0 cap0] = some (d, p) := hf
  obtain ⟨l, hl⟩ := slice_gen (α := OpM) ⟨0, 0, 0, 0, 0, 0, 0, 0, 0⟩ Try.underlying23 9 72 op_cellsP (by decide) op_bytesP (by decide) OpEl hf2 hz (fun m cs y _ hl hy hw => op_el hl hy)
  refine ⟨l, SliceOf.mono hl (Kept.refl W) (fun _ _ h => h.1), fun x hx => ?_⟩
  obtain ⟨a', c', e, _, _, h4⟩ := hl
  rcases h4 with rfl | ⟨g, o, h5, _, h6⟩
  · cases hx
  · obtain ⟨j, hj, e2⟩ := List.mem_iff_getElem.1 hx
    obtain ⟨cs, _, h7, h8⟩ := h6 j x (by rw [List.getElem?_eq_getElem hj, e2])
    exact h8.2
set_option maxRecDepth 100000 in
theorem ints_arg {W : World} {v : Value} {d : DataW H} {p : List MemPlace} (hv : ∃ a len cap, v = .slice a len cap) (h : DataW.Trod enc Try.prog W 0 (fun _ => true) true 24 v d p) (hz : ∀ n ∈ d.weights Try.prog 24, n ≤ reachBytes) : ∃ l, IntsS W v l := by
  obtain ⟨a0, len0, cap0, rfl⟩ := hv
  obtain ⟨fuel, hf⟩ := h
  exact ints_p (x := (d, p)) hf hz
end
set_option maxRecDepth 100000 in
theorem lifted (os : Os) (started : os.Started) (H : Type) (enc : TypeId × Value → H) :
    ReturnsInHanded {} Try.checked os 3 .any (Rows.deltaAppliesSpec.pre6 enc Try.prog Try.f3 Rows.deltaAppliesRow.domain false) (Rows.deltaAppliesSpec.post enc Try.prog Try.f3 false true false false) := by
  refine returnsInHanded_of_change_sized (C := Try.checked) ownD started (by kernel_rfl) Try.func3
    (ChangeSpec.witness6 (enc := enc) (C := Try.checked) false ⟨#[], #[.slice none 0 0, .int .i64 0, .slice none 0 0, .slice none 0 0], []⟩ 8 (by kernel_rfl) (by kernel_rfl) (by kernel_rfl) (by kernel_rfl)) ?_
  intro W base args ds gs before hval0 hW hcnd hsz _
  have hval : ∀ (j : Nat) t v, Try.f3.params[j]? = some t → args[j]? = some v → Value.okWide Try.prog W .any base t v := hval0
  have hW' := hW
  obtain ⟨p, q, hA0, hV, rfl, hfz, hnd⟩ := hW
  have hA : DataW.TrodAll enc Try.prog W 0 (fun _ => true) true Try.f3.params.toList args.toList ds p := hA0
  rw [Try.params3] at hA hval
  obtain ⟨v0, vs0, d0, ds0, p0, q0, hargs, rfl, rfl, h0, r0⟩ := trodAll_cons hA
  obtain ⟨v1, vs1, d1, ds1, p1, q1, rfl, rfl, rfl, h1, r1⟩ := trodAll_cons r0
  obtain ⟨v2, vs2, d2, ds2, p2, q2, rfl, rfl, rfl, h2, r2⟩ := trodAll_cons r1
  obtain ⟨v3, vs3, d3, ds3, p3, q3, rfl, rfl, rfl, h3, r3⟩ := trodAll_cons r2
  obtain ⟨rfl, rfl, rfl⟩ := trodAll_nil r3
  obtain rfl : args = #[v0, v1, v2, v3] := by cases args; simp_all
  obtain ⟨rfl, rfl⟩ := trodVars_none hV
  have s0 := okWide_slice Try.underlying22 (hval 0 22 v0 rfl rfl)
  have s2 := okWide_slice Try.underlying23 (hval 2 23 v2 rfl rfl)
  have s3 := okWide_slice Try.underlying24 (hval 3 24 v3 rfl rfl)
  have k0 := h0
  have k2 := h2
  have k3 := h3
  have lt0 : ∀ x ∈ p0, x.block < W.heap.size := by obtain ⟨m, hm⟩ := k0; exact DataW.trod_lt m _ _ _ hm
  have lt2 : ∀ x ∈ p2, x.block < W.heap.size := by obtain ⟨m, hm⟩ := k2; exact DataW.trod_lt m _ _ _ hm
  have lt3 : ∀ x ∈ p3, x.block < W.heap.size := by obtain ⟨m, hm⟩ := k3; exact DataW.trod_lt m _ _ _ hm
  have wt0 : ∀ n ∈ d0.weights Try.prog 22, n ≤ reachBytes := fun n hn => by
    have := List.all_eq_true.1 hsz n (DataW.weights_mem_each (j := 0) (by rfl) (by rfl) n hn)
    simpa using this
  have wt2 : ∀ n ∈ d2.weights Try.prog 23, n ≤ reachBytes := fun n hn => by
    have := List.all_eq_true.1 hsz n (DataW.weights_mem_each (j := 2) (by rfl) (by rfl) n hn)
    simpa using this
  have wt3 : ∀ n ∈ d3.weights Try.prog 24, n ≤ reachBytes := fun n hn => by
    have := List.all_eq_true.1 hsz n (DataW.weights_mem_each (j := 3) (by rfl) (by rfl) n hn)
    simpa using this
  obtain ⟨l0, x0⟩ := parts_arg s0 k0 wt0
  obtain ⟨l2, x2, y2⟩ := ops_arg s2 k2 wt2
  obtain ⟨l3, x3⟩ := ints_arg s3 k3 wt3
  obtain ⟨at_, rfl, rfl, rfl, w1⟩ := open_int Try.underlying3 (hval 1 3 v1 rfl rfl) h1
  clear hA0 hval0
  refine Calls.mono (R := fun e w' => e = .returned (.bool true) ∧ Below W.heap.size W w') ((lawApplies v0 v2 v3 at_ l2 l3 W (grove_is v0 l0 W x0) x2 y2 x3).mono fun _ _ h => ⟨h.1, h.2.below⟩) fun e W' ⟨he, bel⟩ => ?_
  subst he
  exact ⟨_, rfl, _, _, _, [], _, [], hW', trodAll_mk1 (shut_bool Try.underlying4 _), (trodAll_cons_mk (Below.trod laidOutD (by kernel_rfl) (of_decide_eq_true (by kernel_rfl)) k0 bel lt0) (trodAll_cons_mk (shut_int Try.underlying3 w1) (trodAll_cons_mk (Below.trod laidOutD (by kernel_rfl) (of_decide_eq_true (by kernel_rfl)) k2 bel lt2) (trodAll_cons_mk (Below.trod laidOutD (by kernel_rfl) (of_decide_eq_true (by kernel_rfl)) k3 bel lt3) trodAll_mk0)))), rfl, bel.frame _, fun h => by cases h⟩

theorem over : Rows.deltaAppliesRow.holds Try.pinned (OpenSpec.ofChange Rows.deltaAppliesSpec) :=
  OpenClaim.holds_of_wide 3 Try.f3 rfl rfl rfl rfl rfl rfl rfl ⟨rfl, rfl, rfl, rfl, rfl⟩ rfl rfl rfl rfl rfl (by kernel_rfl) Try.func3 (by kernel_rfl)
    (of_decide_eq_true (by kernel_rfl)) (by unfold Func.isWrapper; first | (rw [if_pos (by decide +kernel)]; kernel_rfl) | (rw [if_neg (by decide +kernel)]; exact ⟨rfl, rfl⟩))
    (fun os started H enc _ => lifted os started H enc)

end Fa
end Tr
end Ex
theorem deltaApplies_holds : Rows.DeltaAppliesSaid := Ex.Tr.Fa.over
#print axioms deltaApplies_holds
end Go.Proofs.Yteckbpmliahhhaa
