import Derived.Test.YtlgojnodhbmlkaaGreatDoorMExMa8
import Derived.RegionTactic
import Derived.Lib.SliceRun
namespace Go.Proofs.YtlgojnodhbmlkaaGreatDoor
open Go.RowKit
attribute [local go_sem] Oper.semAt_some
namespace Ex

theorem ints_info : (Tryz.prog.info? 46).map (fun i => (i.zero, i.size, i.bytes)) = some (some (.slice none 0 0), 1, 24) := by kernel_rfl
theorem run_makeN (n : Nat) (hn : n ≤ 300000) (w : World) : (Instr.makeSlice 62 (.int .i64 (n : Int)) (.int .i64 (n : Int))).run Tryz.prog w = .ok (.slice (some ⟨w.heap.size, 0, none⟩) n n) (w.alloc (.cells (nilV n).toArray 46)) := by
  obtain ⟨i0, hi, hz0, hz1, hz2⟩ := info_parts ints_info
  rw [run_make (P := Tryz.prog) w 62 46 i0 _ Tryz.underlying62 hi hz0 .i64 .i64 n n (by omega) (Int.le_refl _) (by rw [hz2]; omega) (by omega)]
  rw [hz1]
  have e : madeCells (Value.slice none 0 0).cells ((n : Int).toNat * 1) = (nilV n).toArray := by
    unfold madeCells nilV
    apply Array.ext_getElem?
    intro i
    simp only [Int.toNat_natCast, Nat.mul_one, List.getElem?_toArray, List.getElem?_replicate]
    by_cases h : i < n
    · simp [h, Value.cells, Nat.mod_one]
    · simp [h]
  rw [e]
  simp
theorem kept_free {w w' : World} {b o : Nat} (h : Kept w w') (hb : b < w.heap.size) (hz : w.frozen? ⟨b, o, none⟩ = false) : w'.frozen? ⟨b, o, none⟩ = false := by
  have e := h.2.2.2.2 b hb
  simp only [World.frozen?] at hz ⊢
  rw [e]
  exact hz
/-- A block is made, a cell of an elder one is written. -/
theorem mk_step {w W : World} {cs : Array Value} {t : TypeId} {b i : Nat} {u : Value} (hb : b < w.heap.size) (hW : ((w.setCell ⟨b, i, none⟩ u).alloc (.cells cs t)).drew = W) :
    W.heap.size = w.heap.size + 1 ∧ W.heap[w.heap.size]? = some (.cells cs t (0, 0)) ∧ (∀ d, d < w.heap.size → d ≠ b → W.heap[d]? = w.heap[d]?) ∧ W.heap[b]? = (w.setCell ⟨b, i, none⟩ u).heap[b]? ∧ W.os = w.os ∧ W.tape = w.tape ∧ W.output = w.output := by
  have e : W.heap = ((w.setCell ⟨b, i, none⟩ u).alloc (.cells cs t)).heap := by rw [← hW]; rfl
  have hs : (w.setCell ⟨b, i, none⟩ u).heap.size = w.heap.size := by simp [World.setCell]
  have h0 := heap_alloc_new (w.setCell ⟨b, i, none⟩ u) (.cells cs t)
  rw [hs] at h0
  refine ⟨by rw [e]; simp [hs], by rw [e]; exact h0, fun d hd hne => ?_, ?_, by rw [← hW]; rfl, by rw [← hW]; rfl, by rw [← hW]; rfl⟩
  · have h1 : ((w.setCell ⟨b, i, none⟩ u).alloc (.cells cs t)).heap[d]? = (w.setCell ⟨b, i, none⟩ u).heap[d]? := by first | exact heap_alloc_old _ _ _ (by rw [hs]; exact hd) | exact heap_alloc_old _ _ (by rw [hs]; exact hd)
    rw [e, h1, heap_put hne]
  · have h1 : ((w.setCell ⟨b, i, none⟩ u).alloc (.cells cs t)).heap[b]? = (w.setCell ⟨b, i, none⟩ u).heap[b]? := by first | exact heap_alloc_old _ _ _ (by rw [hs]; exact hb) | exact heap_alloc_old _ _ (by rw [hs]; exact hb)
    rw [e, h1]
theorem NetQ.apart {B0 : Nat} {R : Nat → Nat} {lo : Nat → Nat → Option Int} {w : World} {nb : Nat} {bs : List Int} {ND : List NodeT} {Ls : Nat → List Int → Prop} (h : NetQ B0 R lo w nb bs ND Ls) {bw cw bn cn : Nat} (hk : KnAt w nb ND.length bw cw bn cn) : nb ≠ bw ∧ nb ≠ bn := by
  obtain ⟨a, capB, be, ce, bk, ck, bn', cn', bw', cw', bl, cl, K, _, ⟨r1, r2, r3, r4, r5, r6, r7⟩, _, p4, _⟩ := h
  obtain ⟨k1, _, k2, _⟩ := hk
  have e1 : w.cell? ⟨nb, 4, none⟩ = some (.slice (some ⟨bw', 0, none⟩) ND.length cw') := by simp [World.cell?, p4]
  have e2 : w.cell? ⟨nb, 3, none⟩ = some (.slice (some ⟨bn', 0, none⟩) ND.length cn') := by simp [World.cell?, p4]
  rw [k1] at e1
  rw [k2] at e2
  simp only [Option.some.injEq, Value.slice.injEq, Addr.mk.injEq] at e1 e2
  obtain ⟨⟨rfl, _⟩, _, rfl⟩ := e1
  obtain ⟨⟨rfl, _⟩, _, rfl⟩ := e2
  exact ⟨fun e => by rw [e] at r1; omega, fun e => by rw [e] at r1; omega⟩
/-- A list of one that was made now, and stays. -/
theorem NetQ.lit {B0 : Nat} {R : Nat → Nat} {lo : Nat → Nat → Option Int} {w : World} {nb : Nat} {bs : List Int} {ND : List NodeT} {Ls : Nat → List Int → Prop} (h : NetQ B0 R lo w nb bs ND Ls) (x : Nat) : ∃ R', NetQ B0 R' lo (w.alloc (.cells #[.int .i64 (x : Int)] 3)) nb bs ND Ls ∧ IntR (fun d => R' d = 7) (w.alloc (.cells #[.int .i64 (x : Int)] 3)) (.slice (some ⟨w.heap.size, 0, none⟩) 1 1) [x] ∧ RX R R' w ∧ Kept w (w.alloc (.cells #[.int .i64 (x : Int)] 3)) := by
  have hk : Kept w (w.alloc (.cells #[.int .i64 (x : Int)] 3)) := (Kept.refl w).alloc _ _
  have hs : (w.alloc (.cells #[.int .i64 (x : Int)] 3)).heap.size = w.heap.size + 1 := by simp
  refine ⟨fun d => if d = w.heap.size then 7 else R d, (h.kept hk).role (fun d => ?_), ⟨_, 1, rfl, Nat.le_refl _, by simp, .inr ⟨w.heap.size, 0, rfl, by omega, by simp, fun i y hy => ?_⟩⟩, fun d hd => ?_, hk⟩
  · by_cases e : d = w.heap.size
    · subst e
      exact .inr ⟨h.zero (Nat.le_refl _), by simp, h.low, by omega⟩
    · exact .inl (by simp [e])
  · match i, hy with
    | 0, hy =>
      have hy : x = y := by simpa using hy
      subst hy
      exact cell_of_row _ _ 0 _ _ _ (heap_alloc_new w _)
    | i + 1, hy => simp at hy
  · have hn : d ≠ w.heap.size := by omega
    simp [hn]
theorem range_ends {L : List Int → Prop} {bs : List Int} {a k : Nat} {fr t0 : Int} (hL : ∀ u, L u ↔ ∃ c, u = [c] ∧ fr ≤ c ∧ c ≤ t0) : EndS L bs a k ↔ k = a + 1 ∧ ∃ x, bs[a]? = some x ∧ fr ≤ x ∧ x ≤ t0 := by
  constructor
  · rintro ⟨h1, h2, h3⟩
    obtain ⟨c, h4, h5⟩ := (hL _).1 h3
    have hl := seg_len h1 h2
    rw [h4] at hl
    simp only [List.length_cons, List.length_nil] at hl
    refine ⟨by omega, c, ?_, h5⟩
    have h6 : (Seg bs a k)[0]? = some c := by rw [h4]; rfl
    unfold Seg at h6
    rw [List.getElem?_take, if_pos (by omega), List.getElem?_drop] at h6
    simpa using h6
  · rintro ⟨rfl, x, h1, h2⟩
    have hlt := (List.getElem?_eq_some_iff.1 h1).1
    refine ⟨by omega, by omega, (hL _).2 ⟨x, ?_, h2⟩⟩
    unfold Seg
    rw [show a + 1 - a = 1 by omega]
    apply List.ext_getElem?
    intro j
    rw [List.getElem?_take]
    cases j with
    | zero => simp [List.getElem?_drop, h1]
    | succ j => simp
theorem seq_snoc {bs : List Int} (L : List Int → Prop) : ∀ (ls : List (List Int → Prop)) (S : Nat → Prop) (k : Nat), SeqS bs (ls ++ [L]) S k ↔ StepS L bs (SeqS bs ls S) k
  | [], _, _ => Iff.rfl
  | M :: ls, S, k => seq_snoc L ls (StepS M bs S) k
/-- The loop over the parts of a row. -/
def SqR (B0 : Nat) (lo : Nat → Nat → Option Int) (nb : Nat) (bs : List Int) (ND : List NodeT) (Ls : Nat → List Int → Prop) (R : Nat → Nat) (w : World) (i at' : Nat) (ks : List Nat) (vo vk : Value) (wr : World) : Prop :=
  ∃ (k : Nat) (R3 : Nat → Nat) (l : List Nat), vk = .int .i64 (k : Int) ∧ k ≤ ks.length ∧ Hid (NetQ B0 R3 lo wr nb bs ND Ls) ∧ Hid (IntR (fun d => R3 d = 7) wr vo l) ∧ Hid (Pl (SeqS bs ((ks.take k).map Ls) (fun x => x = at')) l) ∧ Hid (RK R w wr) ∧ Hid (RX R R3 w) ∧ Hid (∃ d, d < wr.heap.size ∧ R3 d = 9 + 3 * i)
/-- The loop over alternatives. -/
def AlR (B0 : Nat) (lo : Nat → Nat → Option Int) (nb : Nat) (bs : List Int) (ND : List NodeT) (Ls : Nat → List Int → Prop) (R : Nat → Nat) (w : World) (i at' gm : Nat) (ks : List Nat) (vk : Value) (wr : World) : Prop :=
  ∃ (k : Nat) (R3 : Nat → Nat) (ms : List Bool), vk = .int .i64 (k : Int) ∧ k ≤ ks.length ∧ Hid (NetQ B0 R3 lo wr nb bs ND Ls) ∧ Hid (BoolsAt wr gm ms) ∧ Hid (ms.length = bs.length + 1) ∧ Hid (∀ x, ms[x]? = some true ↔ ∃ kk ∈ ks.take k, EndS (Ls kk) bs at' x) ∧ Hid (RK R w wr) ∧ Hid (RX R R3 w) ∧ Hid (R3 gm = 0) ∧ Hid (∃ d, d < wr.heap.size ∧ R3 d = 9 + 3 * i)
/-- Behind the test for rows: there are rows. -/
def RowsG (B0 : Nat) (lo : Nat → Nat → Option Int) (nb : Nat) (bs : List Int) (ND : List NodeT) (Ls : Nat → List Int → Prop) (R : Nat → Nat) (w : World) (i : Nat) (w' : World) : Prop :=
  ∃ R', Hid (NetQ B0 R' lo w' nb bs ND Ls) ∧ Hid (RX R R' w) ∧ Hid (RK R w w') ∧ Hid (∃ d, d < w'.heap.size ∧ R' d = 9 + 3 * i)
set_option linter.unusedSimpArgs false in
set_option maxRecDepth 100000 in
set_option maxHeartbeats 16000000 in
theorem endsD_is (B0 : Nat) (lo : Nat → Nat → Option Int) (nb : Nat) (bs : List Int) (ND : List NodeT) (Ls : Nat → List Int → Prop) (hsys : Sys ND Ls) (hbs : ∀ x ∈ bs, 0 ≤ x ∧ x ≤ 255) (i : Nat) (k0 fr t0 mn mx : Int) (ks : List Nat) (hi : ND[i]? = some (k0, fr, t0, mn, mx, ks)) (hE : ∀ k ∈ ks, EndsC B0 lo nb bs ND Ls k) : EndsC B0 lo nb bs ND Ls i := by
  intro R w at' hat hq
  have HE := hide1 hE
  have HBS := hide1 hbs
  have HQ := hide1 hq
  have HI := hide1 hi
  have HAT := hide1 hat
  have HOK := hide1 (hsys.2 i _ hi)
  have hin : i < ND.length := (List.getElem?_eq_some_iff.1 hi).1
  obtain ⟨a0, capB, hB, lB, lN, _⟩ := hq.bytes
  obtain ⟨bw, cw, bn, cn, vw, an, ln, pn, hkn, hwn, lbw, lbn, c1, z1, c2, z2, hvw⟩ := hq.kn0 hin
  have HKN := hide1 hkn
  have HNE : Hid (nb ≠ bw ∧ nb ≠ bn) := hq.apart hkn
  obtain ⟨k1, k2, k3, k4⟩ := hkn
  obtain ⟨n, hn⟩ : ∃ n, bs.length = n := ⟨_, rfl⟩
  obtain ⟨N, hN⟩ : ∃ N, ND.length = N := ⟨_, rfl⟩
  have HN := hide1 hn
  have HNN := hide1 hN
  have HIN := hide1 hin
  rw [hn] at hB lB lN hvw hat
  rw [hN] at k1 k2 k3 k4 hin
  have gi : (i : Int) < (N : Int) := by omega
  have ga : (at' : Int) < (n : Int) + 1 := by omega
  have hmk := run_makeB (n + 1) (by omega)
  have hmn := run_makeN (n + 1) (by omega)
  have e2 : ((n + 1 : Nat) : Int) = (n : Int) + 1 := by omega
  rw [e2] at hmk hmn
  have hnil : ∀ (w : World) (a : Option Addr) (n c : Nat), (binOp .eql 67 (.slice a n c) (.slice none 0 0)).run Tryz.prog w = .ok (.bool a.isNone) w := fun w a n c => Lib.run_eql_slice_nil w _ _ a n c 0 0 Tryz.underlying67
  clear hE hq hi hsys hn hN e2 hbs
  go_enter Tryz.func20, Tryz.ntmps20
  obtain ⟨hb, HHB⟩ : ∃ hb : Bool, Hid ((hb = true ∧ vw = .slice none 0 0) ∨ (hb = false ∧ ∃ g, vw = .slice (some ⟨g, 0, none⟩) (n + 1) (n + 1) ∧ R g = 9 + 3 * i ∧ g < w.heap.size)) := by
    rcases hvw with ⟨e, _⟩ | e
    · exact ⟨true, .inl ⟨rfl, e⟩⟩
    · exact ⟨false, .inr ⟨rfl, e⟩⟩
  clear hvw
  go_upto_region 1 with fail
  go_cut [27] from 20 to 26 (fun c wx => c = .bool hb ∧ wx = w)
  case first =>
    rcases HHB.out with ⟨rfl, rfl⟩ | ⟨rfl, g, rfl, _, _⟩
    · go_wp2_with fail
      go_meet
      exact ⟨rfl, rfl⟩
    · go_wp2_with fail
      go_meet
      exact ⟨rfl, rfl⟩
  case rest =>
   obtain ⟨rfl, hw0⟩ := hcut
   have hw0 := hw0.symm
   subst hw0
   go_upto_if 27 with fail
   go_cut [6] from 28 to 53 (fun c wx => c = .slice none 0 0 ∧ ∃ w1, w1 = wx ∧ RowsG B0 lo nb bs ND Ls R w i w1)
   case first =>
    rcases HHB.out with ⟨rfl, rfl⟩ | ⟨rfl, g, rfl, hrg, hlg⟩
    · have y1 : (w.alloc (.cells (boolV (List.replicate (n + 1) false)).toArray 4)).cell? ⟨bw, i, none⟩ = some (.slice none 0 0) := grown_cell ((Kept.refl w).alloc _ _) c1
      have y2 : (w.alloc (.cells (boolV (List.replicate (n + 1) false)).toArray 4)).cell? ⟨nb, 4, none⟩ = some (.slice (some ⟨bw, 0, none⟩) N cw) := grown_cell ((Kept.refl w).alloc _ _) k1
      have y3 : (w.alloc (.cells (boolV (List.replicate (n + 1) false)).toArray 4)).frozen? ⟨bw, i, none⟩ = false := kept_free ((Kept.refl w).alloc _ _) lbw z1
      go_upto_region 2 with fail
      go_region
      clear y1 y2 y3
      obtain ⟨W1, hW1⟩ : ∃ W1, ((w.setCell ⟨bw, i, none⟩ (.slice (some ⟨w.heap.size, 0, none⟩) (n + 1) (n + 1))).alloc (.cells (boolV (List.replicate (n + 1) false)).toArray 4)).drew = W1 := ⟨_, rfl⟩
      obtain ⟨m1, m2, m3, m4, m5, m6, m7⟩ := mk_step lbw hW1
      rw [hW1]
      have hnb : nb ≠ bw ∧ nb ≠ bn ∧ nb < w.heap.size := ⟨HNE.out.1, HNE.out.2, World.block_lt_of_cell? w _ k1⟩
      have d3 : W1.cell? ⟨nb, 3, none⟩ = some (.slice (some ⟨bn, 0, none⟩) N cn) := (World.cell?_of_block (a := ⟨nb, 3, none⟩) (m3 nb hnb.2.2 hnb.1)).trans k3
      have d0 : W1.cell? ⟨nb, 0, none⟩ = some (.slice a0 n capB) := (World.cell?_of_block (a := ⟨nb, 0, none⟩) (m3 nb hnb.2.2 hnb.1)).trans hB
      have d1 : W1.cell? ⟨bn, i, none⟩ = some (.slice an ln pn) := (World.cell?_of_block (a := ⟨bn, i, none⟩) (m3 bn lbn (Ne.symm hwn))).trans c2
      have d2 : W1.frozen? ⟨bn, i, none⟩ = false := by
        have e := m3 bn lbn (Ne.symm hwn)
        have z := z2
        simp only [World.frozen?] at z ⊢
        rw [e]
        exact z
      have lbn1 : bn < W1.heap.size := by omega
      have y1 : (W1.alloc (.cells (nilV (n + 1)).toArray 46)).cell? ⟨bn, i, none⟩ = some (.slice an ln pn) := grown_cell ((Kept.refl W1).alloc _ _) d1
      have y2 : (W1.alloc (.cells (nilV (n + 1)).toArray 46)).cell? ⟨nb, 3, none⟩ = some (.slice (some ⟨bn, 0, none⟩) N cn) := grown_cell ((Kept.refl W1).alloc _ _) d3
      have y3 : (W1.alloc (.cells (nilV (n + 1)).toArray 46)).frozen? ⟨bn, i, none⟩ = false := kept_free ((Kept.refl W1).alloc _ _) lbn1 d2
      have HM1 := hide1 m1
      have HM2 := hide1 m2
      have HM3 := hide1 m3
      have HM4 := hide1 m4
      have HM5 := hide1 (And.intro m5 (And.intro m6 m7))
      clear m1 m2 m3 m4 m5 m6 m7 hW1 hnb d2
      go_upto_region 3 with fail
      go_region
      clear y1 y2 y3
      obtain ⟨W2, hW2⟩ : ∃ W2, ((W1.setCell ⟨bn, i, none⟩ (.slice (some ⟨W1.heap.size, 0, none⟩) (n + 1) (n + 1))).alloc (.cells (nilV (n + 1)).toArray 46)).drew = W2 := ⟨_, rfl⟩
      obtain ⟨q1, q2, q3, q4, q5, q6, q7⟩ := mk_step lbn1 hW2
      rw [hW2]
      have HMK : Hid (∃ R', NetQ B0 R' lo W2 nb bs ND Ls ∧ RX R R' w ∧ RK R w W2 ∧ ∃ d, d < W2.heap.size ∧ R' d = 9 + 3 * i) := by
        have m1 := HM1.out
        have m3 := HM3.out
        rw [m1] at q1 q2 q3 q4
        refine HQ.out.make HKN.out q1 ⟨q5.trans HM5.out.1, q6.trans HM5.out.2.1, q7.trans HM5.out.2.2⟩ ?_ ?_ ?_ ?_ (fun d h1 h2 h3 => (q3 d (by omega) h3).trans (m3 d h1 h2))
        · rw [HN.out]; exact (q3 _ (by omega) (by omega)).trans HM2.out
        · rw [HN.out]; exact q2
        · rw [HN.out]; exact (q3 bw (by omega) hwn).trans HM4.out
        · rw [HN.out, q4]
          have e := m3 bn lbn (Ne.symm hwn)
          simp only [World.setCell, Array.getElem?_modify, e]
      clear q1 q2 q3 q4 q5 q6 q7 hW2 HM1 HM2 HM3 HM4 HM5
      go_wp2_with fail
      go_meet
      obtain ⟨R', x1, x2, x3, x4⟩ := HMK.out
      exact ⟨rfl, _, rfl, R', x1, x2, x3, x4⟩
    · go_wp2_with fail
      go_meet
      exact ⟨rfl, _, rfl, R, HQ, RX.refl R w, RK.of (Kept.refl w), ⟨g, hlg, hrg⟩⟩
   case rest =>
    obtain ⟨rfl, w1, hw1, R1, HQ1, HX1, HK1, HD1⟩ := hcut
    subst hw1
    clear c1 z1 c2 z2 k1 k2 k3 k4 hB lB HHB HKN HNE hwn lbw lbn hmk hmn hnil
    obtain ⟨bw, cw, bn, cn, g, gn, b, a, m, c, hkn, g1, g2, g3, g4, g5, g6, g7, v1, v2, v3, v4, hkw⟩ := HQ1.out.rows HIN.out HAT.out (by obtain ⟨d, _, hd⟩ := HD1.out; exact ⟨d, hd⟩)
    obtain ⟨k1, k2, k3, k4⟩ := hkn
    rw [HN.out] at g1 g2
    rw [HNN.out] at k1 k2 k3 k4
    have HKW := hide1 hkw
    clear hkw v2 v4 g3 g4 g5 g6 g7
    cases b
    rotate_left
    · go_wp2_with fail
      go_ret
      obtain ⟨l, h1, h2⟩ := HKW.out (by first | rfl | trivial)
      exact ⟨R1, _, l, rfl, HQ1, h1, h2, HK1, HX1⟩
    clear HKW
    obtain ⟨be, ce, bk, ck, ak, cpk, ⟨f1, f2, f3, f4⟩, ⟨e0, e1, e2, e3, e4, xa, xn, xc, e5⟩, f6, f7, f8⟩ := HQ1.out.node HI.out
    rw [HNN.out] at f1 f2 f3 f4
    have e0 : w1.cell? ⟨be, i * 6, none⟩ = some (.int .i64 k0) := e0
    have e1 : w1.cell? ⟨be, i * 6 + 1, none⟩ = some (.int .i64 fr) := e1
    have e2 : w1.cell? ⟨be, i * 6 + 2, none⟩ = some (.int .i64 t0) := e2
    have e3 : w1.cell? ⟨be, i * 6 + 3, none⟩ = some (.int .i64 mn) := e3
    have e4 : w1.cell? ⟨be, i * 6 + 4, none⟩ = some (.int .i64 mx) := e4
    clear f3 f4 f6 f7 f8
    have HBX := hide1 (BoxAt.new w1 (.int .i64 k0) (.int .i64 fr) (.int .i64 t0) (.int .i64 mn) (.int .i64 mx) (.slice xa xn xc))
    have HK2 : Hid (Kept w1 (w1.alloc (.cells #[.int .i64 k0, .int .i64 fr, .int .i64 t0, .int .i64 mn, .int .i64 mx, .slice xa xn xc] 24))) := (Kept.refl w1).alloc _ _
    go_upto_region 8 with fail
    obtain ⟨w2, hw2⟩ : ∃ w2, w1.alloc (.cells #[.int .i64 k0, .int .i64 fr, .int .i64 t0, .int .i64 mn, .int .i64 mx, .slice xa xn xc] 24) = w2 := ⟨_, rfl⟩
    rw [hw2] at HBX HK2 ⊢
    have HQ2 := hide1 (HQ1.out.kept HK2.out)
    have HGX : Hid (B0 ≤ w1.heap.size ∧ w.heap.size ≤ w1.heap.size ∧ R1 w1.heap.size = 0) := ⟨HQ1.out.low, HK1.out.size, HQ1.out.zero (Nat.le_refl _)⟩
    obtain ⟨gx, hgx⟩ : ∃ gx, w1.heap.size = gx := ⟨_, rfl⟩
    rw [hgx] at HBX HGX ⊢
    have HRK : Hid (RK R w w2) := HK1.out.trans HX1.out (RK.of HK2.out)
    have HD2 : Hid (∃ d, d < w2.heap.size ∧ R1 d = 9 + 3 * i) := by obtain ⟨d, h1, h2⟩ := HD1.out; exact ⟨d, Nat.lt_of_lt_of_le h1 HK2.out.size, h2⟩
    clear hw2 hgx HQ1 HK1 HD1 HK2 e0 e1 e2 e3 e4 e5 f1 f2 g1 g2 v1 v3 k1 k2 k3 k4
    obtain ⟨⟨x0, x1, x2, x3, x4, x5⟩, _⟩ := HBX.out.facts
    obtain ⟨hks, hkl, hsome, hkind⟩ := HOK.out
    have HKS := hide1 hks
    have HKL : Hid (ks.length ≤ 4096) := hkl
    clear hks hkl hsome
    rcases hkind with ⟨e, hf0, hf1, hL⟩ | ⟨e, hL⟩ | ⟨e, hL⟩ | ⟨e, hm0, hm1, hm2, kk, ek, hL⟩
    · subst e
      have HL := hide1 hL
      clear hL
      obtain ⟨rb, HRB⟩ : ∃ rb : Bool, Hid (rb = true ↔ ∃ x, bs[at']? = some x ∧ fr ≤ x ∧ x ≤ t0) := by
        by_cases h : ∃ x, bs[at']? = some x ∧ fr ≤ x ∧ x ≤ t0
        · exact ⟨true, ⟨fun _ => h, fun _ => rfl⟩⟩
        · exact ⟨false, ⟨fun e => absurd e (by simp), fun e => absurd e h⟩⟩
      obtain ⟨a0, capB, hB, lB, lN, hby⟩ := HQ2.out.bytes
      rw [HN.out] at hB lB lN hby
      have HBY := hide1 hby
      clear hby
      go_upto_region 28 with fail
      go_cut [200] from 168 to 199 (fun c wx => c = .bool rb ∧ ∃ w3, w3 = wx ∧ Hid (Kept w2 w3))
      case first =>
        by_cases hlt : at' < n
        · obtain ⟨x, hx⟩ : ∃ x, bs[at']? = some x := ⟨bs[at']'(by have := HN.out; omega), List.getElem?_eq_getElem _⟩
          have hx2 := HBS.out x (List.mem_of_getElem? hx)
          have HX0 := hide1 hx
          obtain ⟨cB, oB, ea, hcx⟩ : ∃ cB oB, a0 = some ⟨cB, oB, none⟩ ∧ w2.cell? ⟨cB, oB + at', none⟩ = some (.int .u8 x) := by
            obtain ⟨a', cap', e, _, _, h3⟩ := HBY.out
            simp only [Value.slice.injEq] at e
            rcases h3 with h3 | ⟨c, o, h4, _, h5⟩
            · rw [h3] at hx; simp at hx
            · exact ⟨c, o, e.1.trans h4, h5 at' x hx⟩
          subst ea
          have b1 : decide ((at' : Int) < (n : Int)) = true := by simp; omega
          have hcv : IntKind.i64.wrap x = x := by rw [IntKind.wrap_i64]; omega
          have gac : (at' : Int) < (capB : Int) := by omega
          have gan : (at' : Int) < (n : Int) := by omega
          clear hx
          by_cases h1 : fr ≤ x
          · have b2 : decide (fr ≤ x) = true := by simpa using h1
            by_cases h2 : x ≤ t0
            · have b3 : decide (x ≤ t0) = true := by simpa using h2
              have e : rb = true := HRB.out.2 ⟨x, HX0.out, h1, h2⟩
              subst e
              go_quiet (fail)
              go_wp2_with fail
              go_meet
              exact ⟨rfl, _, rfl, drewN_kept _ _⟩
            · have b3 : decide (x ≤ t0) = false := by simpa using h2
              have e : rb = false := by
                cases rb
                · rfl
                · obtain ⟨y, y1, y2, y3⟩ := HRB.out.1 rfl
                  rw [HX0.out] at y1
                  simp only [Option.some.injEq] at y1
                  omega
              subst e
              go_quiet (fail)
              go_wp2_with fail
              go_meet
              exact ⟨rfl, _, rfl, drewN_kept _ _⟩
          · have b2 : decide (fr ≤ x) = false := by simpa using h1
            have e : rb = false := by
              cases rb
              · rfl
              · obtain ⟨y, y1, y2, y3⟩ := HRB.out.1 rfl
                rw [HX0.out] at y1
                simp only [Option.some.injEq] at y1
                omega
            subst e
            go_quiet (fail)
            go_wp2_with fail
            go_meet
            exact ⟨rfl, _, rfl, drewN_kept _ _⟩
        · have b1 : decide ((at' : Int) < (n : Int)) = false := by simp; omega
          have e : rb = false := by
            cases rb
            · rfl
            · obtain ⟨y, y1, _⟩ := HRB.out.1 rfl
              have := (List.getElem?_eq_some_iff.1 y1).1
              have := HN.out
              omega
          subst e
          go_quiet (fail)
          go_wp2_with fail
          go_meet
          exact ⟨rfl, _, rfl, drewN_kept _ _⟩
      case rest =>
        obtain ⟨rfl, w3, hw3, HK3⟩ := hcut
        subst hw3
        have HQ3 := hide1 (HQ2.out.kept HK3.out)
        have HRK3 : Hid (RK R w w3) := HRK.out.trans HX1.out (RK.of HK3.out)
        have HD3 : Hid (∃ d, d < w3.heap.size ∧ R1 d = 9 + 3 * i) := by obtain ⟨d, h1, h2⟩ := HD2.out; exact ⟨d, Nat.lt_of_lt_of_le h1 HK3.out.size, h2⟩
        clear hB lB x0 x1 x2 x3 x4 x5
        cases rb
        · have HP3 : Hid (Pl (EndS (Ls i) bs at') []) := Pl.none.iff (fun k => ⟨False.elim, fun h => by have := HRB.out.2 ((range_ends HL.out).1 h).2; cases this⟩)
          have HL3 : Hid (IntR (fun d => R1 d = 7) w3 (.slice none 0 0) []) := ⟨none, 0, rfl, Nat.le_refl _, Nat.zero_le _, .inl rfl⟩
          obtain ⟨bw, cw, bn, cn, g, gn, b, a, m, c, hkn, g1, g2, g3, g4, g5, g6, g7, v1, v2, v3, v4, _⟩ := HQ3.out.rows HIN.out HAT.out (by obtain ⟨d, _, hd⟩ := HD3.out; exact ⟨d, hd⟩)
          have HNW := hide1 (HQ3.out.know HIN.out hkn g1 g2 g3 g4 HL3.out HP3.out)
          have hgg : gn ≠ g := fun e => by rw [e] at g4; omega
          obtain ⟨k1, k2, k3, k4⟩ := hkn
          rw [HN.out] at g1 g2
          rw [HNN.out] at k1 k2 k3 k4
          have y1 : (w3.setCell ⟨g, at', none⟩ (.bool true)).cell? ⟨nb, 3, none⟩ = some (.slice (some ⟨bn, 0, none⟩) N cn) := (World.cell?_of_block (a := ⟨nb, 3, none⟩) (heap_put g5)).trans k3
          have y2 : (w3.setCell ⟨g, at', none⟩ (.bool true)).cell? ⟨bn, i, none⟩ = some (.slice (some ⟨gn, 0, none⟩) (n + 1) (n + 1)) := (World.cell?_of_block (a := ⟨bn, i, none⟩) (heap_put g7)).trans g2
          have y3 : (w3.setCell ⟨g, at', none⟩ (.bool true)).cell? ⟨gn, at', none⟩ = some (.slice a m c) := (World.cell?_of_block (a := ⟨gn, at', none⟩) (heap_put hgg)).trans v3
          have y4 : (w3.setCell ⟨g, at', none⟩ (.bool true)).frozen? ⟨gn, at', none⟩ = false := by
            have e : (w3.setCell ⟨g, at', none⟩ (.bool true)).heap[gn]? = w3.heap[gn]? := heap_put hgg
            have z := v4
            simp only [World.frozen?] at z ⊢
            rw [e]
            exact z
          clear g3 g4 g5 g6 g7 hgg
          go_wp2_with fail
          go_ret
          exact ⟨R1, _, [], rfl, HNW.out.1, HL3.out.same HNW.out.2.size (fun d hd hp => ⟨HNW.out.2.same hd (.inr hp), hp⟩), HP3, HRK3.out.trans HX1.out HNW.out.2, HX1⟩
        · have HP3 : Hid (Pl (EndS (Ls i) bs at') [at' + 1]) := (Pl.one (at' + 1)).iff (fun k => ⟨fun e => (range_ends HL.out).2 ⟨e, HRB.out.1 (by first | rfl | trivial)⟩, fun h => ((range_ends HL.out).1 h).1⟩)
          have hlit := HQ3.out.lit (at' + 1)
          have e2 : ((at' + 1 : Nat) : Int) = (at' : Int) + 1 := by omega
          rw [e2] at hlit
          have HLT := hide1 hlit
          clear hlit e2
          go_upto_region 47 with fail
          obtain ⟨w4, hw4⟩ : ∃ w4, w3.alloc (.cells #[.int .i64 ((at' : Int) + 1)] 3) = w4 := ⟨_, rfl⟩
          rw [hw4] at HLT ⊢
          clear hw4
          obtain ⟨gz, hgz⟩ : ∃ gz, w3.heap.size = gz := ⟨_, rfl⟩
          rw [hgz] at HLT ⊢
          clear hgz
          obtain ⟨R4, q1, q2, q3, q4⟩ := HLT.out
          have HQ4 := hide1 q1
          have HL4 := hide1 q2
          have HX4 : Hid (RX R R4 w) := HX1.out.trans HRK3.out.size q3
          have HRK4 : Hid (RK R w w4) := HRK3.out.trans HX1.out (RK.of q4)
          have HD4 : Hid (∃ d, d < w4.heap.size ∧ R4 d = 9 + 3 * i) := by obtain ⟨d, h1, h2⟩ := HD3.out; exact ⟨d, Nat.lt_of_lt_of_le h1 q4.size, (q3 d h1).trans h2⟩
          clear q1 q2 q3 q4
          obtain ⟨bw, cw, bn, cn, g, gn, b, a, m, c, hkn, g1, g2, g3, g4, g5, g6, g7, v1, v2, v3, v4, _⟩ := HQ4.out.rows HIN.out HAT.out (by obtain ⟨d, _, hd⟩ := HD4.out; exact ⟨d, hd⟩)
          have HNW := hide1 (HQ4.out.know HIN.out hkn g1 g2 g3 g4 HL4.out HP3.out)
          have hgg : gn ≠ g := fun e => by rw [e] at g4; omega
          obtain ⟨k1, k2, k3, k4⟩ := hkn
          rw [HN.out] at g1 g2
          rw [HNN.out] at k1 k2 k3 k4
          have y1 : (w4.setCell ⟨g, at', none⟩ (.bool true)).cell? ⟨nb, 3, none⟩ = some (.slice (some ⟨bn, 0, none⟩) N cn) := (World.cell?_of_block (a := ⟨nb, 3, none⟩) (heap_put g5)).trans k3
          have y2 : (w4.setCell ⟨g, at', none⟩ (.bool true)).cell? ⟨bn, i, none⟩ = some (.slice (some ⟨gn, 0, none⟩) (n + 1) (n + 1)) := (World.cell?_of_block (a := ⟨bn, i, none⟩) (heap_put g7)).trans g2
          have y3 : (w4.setCell ⟨g, at', none⟩ (.bool true)).cell? ⟨gn, at', none⟩ = some (.slice a m c) := (World.cell?_of_block (a := ⟨gn, at', none⟩) (heap_put hgg)).trans v3
          have y4 : (w4.setCell ⟨g, at', none⟩ (.bool true)).frozen? ⟨gn, at', none⟩ = false := by
            have e : (w4.setCell ⟨g, at', none⟩ (.bool true)).heap[gn]? = w4.heap[gn]? := heap_put hgg
            have z := v4
            simp only [World.frozen?] at z ⊢
            rw [e]
            exact z
          clear g3 g4 g5 g6 g7 hgg
          go_wp2_with fail
          go_ret
          exact ⟨R4, _, [at' + 1], rfl, HNW.out.1, HL4.out.same HNW.out.2.size (fun d hd hp => ⟨HNW.out.2.same hd (.inr hp), hp⟩), HP3, HRK4.out.trans HX4.out HNW.out.2, HX4⟩
    · subst e
      have HL := hide1 hL
      clear hL
      have hlit := HQ2.out.lit at'
      have HLT := hide1 hlit
      clear hlit
      obtain ⟨nk, hnk⟩ : ∃ nk, ks.length = nk := ⟨_, rfl⟩
      have HNK := hide1 hnk
      have gnk : (nk : Int) ≤ 4096 := by have := HKL.out; omega
      clear hnk
      go_upto_region 32 with fail
      clear x0 x1 x2 x3 x4 x5
      obtain ⟨w3, hw3⟩ : ∃ w3, w2.alloc (.cells #[.int .i64 (at' : Int)] 3) = w3 := ⟨_, rfl⟩
      rw [hw3] at HLT ⊢
      clear hw3
      obtain ⟨gz, hgz⟩ : ∃ gz, w2.heap.size = gz := ⟨_, rfl⟩
      rw [hgz] at HLT ⊢
      clear hgz
      obtain ⟨R3, q1, q2, q3, q4⟩ := HLT.out
      have HQ3 := hide1 q1
      have HL3 := hide1 q2
      have HX3 : Hid (RX R R3 w) := HX1.out.trans HRK.out.size q3
      have HRK3 : Hid (RK R w w3) := HRK.out.trans HX1.out (RK.of q4)
      have HD3 : Hid (∃ d, d < w3.heap.size ∧ R3 d = 9 + 3 * i) := by obtain ⟨d, h1, h2⟩ := HD2.out; exact ⟨d, Nat.lt_of_lt_of_le h1 q4.size, (q3 d h1).trans h2⟩
      clear q1 q2 q3 q4
      go_wp2_with fail
      go_loopw [8, 9] (SqR B0 lo nb bs ND Ls R w i at' ks) (fun _ k _ => nk - (intOf k).toNat)
      case atStart => exact ⟨0, R3, [at'], rfl, Nat.zero_le _, HQ3, HL3, Pl.one at', HRK3, HX3, HD3⟩
      case round =>
        obtain ⟨k, R4, l, rfl, hk, HQ4, HL4, HP4, HRK4, HX4, HD4⟩ := hrel
        rw [HNK.out] at hk
        obtain ⟨w4, hw4⟩ : ∃ w4, w4 = wr := ⟨_, rfl⟩
        subst hw4
        obtain ⟨a4, c4, rfl, m1, m2⟩ := HL4.out.form
        obtain ⟨be, ce, bk, ck, ak, cpk, ⟨f1, f2, f3, f4⟩, _, f6, f7, f8⟩ := HQ4.out.node HI.out
        rw [HNN.out] at f1 f2 f3 f4
        replace f6 : w4.cell? ⟨bk, i, none⟩ = some (.slice ak ks.length cpk) := f6
        replace f7 : ks.length ≤ cpk := f7
        rw [HNK.out] at f6 f7
        obtain ⟨nl, hnl⟩ : ∃ nl, l.length = nl := ⟨_, rfl⟩
        have HNL := hide1 hnl
        rw [hnl] at HL4 ⊢
        clear hnl m1 m2 f1 f2
        by_cases hlt : (k : Int) < (nk : Int)
        · obtain ⟨kk, hkk⟩ : ∃ kk, ks[k]? = some kk := ⟨ks[k]'(by have := HNK.out; omega), List.getElem?_eq_getElem _⟩
          obtain ⟨cc, oo, ea, hcc⟩ := f8.cell (i := k) (x := kk) hkk
          subst ea
          have HKK := hide1 hkk
          have HEK : Hid (EndsC B0 lo nb bs ND Ls kk) := HE.out kk (List.mem_of_getElem? hkk)
          have gkc : (k : Int) < (cpk : Int) := by omega
          clear f8 hkk
          go_wp2_with (go_at_call 31; refine (stepD_is B0 lo nb bs ND Ls kk HEK.out R4 w4 HQ4.out _ l (SeqS bs ((ks.take k).map Ls) (fun x => x = at')) (HL4.out.same (Nat.le_refl _) (fun d _ hp => ⟨rfl, .inr hp⟩)) HP4.out (fun x hx => ((seq_at _ HAT.out x).1 hx).2.1)).mono ?_; rintro e w5 ⟨R5, v5, l5, rfl, HQ5, HL5, HP5, HK5, HX5⟩; obtain ⟨a5, c5, e5, _, _⟩ := HL5.out.form; subst e5; obtain ⟨n5, hn5⟩ : ∃ n5, l5.length = n5 := ⟨_, rfl⟩; have HN5 := hide1 hn5; rw [hn5] at HL5 ⊢; clear hn5)
          go_roundw
          case rel =>
            refine ⟨k + 1, R5, l5, by go_num, by rw [HNK.out]; omega, HQ5, HL5, HP5.out.iff (fun x => ?_), HRK4.out.trans HX4.out HK5.out, HX4.out.trans HRK4.out.size HX5.out, ?_⟩
            · rw [List.take_add_one, HKK.out]
              show _ ↔ SeqS bs ((ks.take k ++ [kk]).map Ls) _ x
              rw [List.map_append]
              exact (seq_snoc _ _ _ x).symm
            · obtain ⟨d, h1, h2⟩ := HD4.out
              exact ⟨d, Nat.lt_of_lt_of_le h1 HK5.out.size, (HX5.out d h1).trans h2⟩
          case measure => simp [intOf]; omega
        · have HP5 : Hid (Pl (EndS (Ls i) bs at') l) := HP4.out.iff (fun x => by
            rw [List.take_of_length_le (by have := HNK.out; omega), seq_at _ HAT.out, ends_iff HL.out])
          clear f8
          obtain ⟨bw, cw, bn, cn, g, gn, b, a, m, c, hkn, g1, g2, g3, g4, g5, g6, g7, v1, v2, v3, v4, _⟩ := HQ4.out.rows HIN.out HAT.out (by obtain ⟨d, _, hd⟩ := HD4.out; exact ⟨d, hd⟩)
          have HNW := hide1 (HQ4.out.know HIN.out hkn g1 g2 g3 g4 HL4.out HP5.out)
          have hgg : gn ≠ g := fun e => by rw [e] at g4; omega
          obtain ⟨k1, k2, k3, k4⟩ := hkn
          rw [HN.out] at g1 g2
          rw [HNN.out] at k1 k2 k3 k4
          have y1 : (w4.setCell ⟨g, at', none⟩ (.bool true)).cell? ⟨nb, 3, none⟩ = some (.slice (some ⟨bn, 0, none⟩) N cn) := (World.cell?_of_block (a := ⟨nb, 3, none⟩) (heap_put g5)).trans k3
          have y2 : (w4.setCell ⟨g, at', none⟩ (.bool true)).cell? ⟨bn, i, none⟩ = some (.slice (some ⟨gn, 0, none⟩) (n + 1) (n + 1)) := (World.cell?_of_block (a := ⟨bn, i, none⟩) (heap_put g7)).trans g2
          have y3 : (w4.setCell ⟨g, at', none⟩ (.bool true)).cell? ⟨gn, at', none⟩ = some (.slice a m c) := (World.cell?_of_block (a := ⟨gn, at', none⟩) (heap_put hgg)).trans v3
          have y4 : (w4.setCell ⟨g, at', none⟩ (.bool true)).frozen? ⟨gn, at', none⟩ = false := by
            have e : (w4.setCell ⟨g, at', none⟩ (.bool true)).heap[gn]? = w4.heap[gn]? := heap_put hgg
            have z := v4
            simp only [World.frozen?] at z ⊢
            rw [e]
            exact z
          clear g3 g4 g5 g6 g7 hgg
          go_wp2_with fail
          go_ret
          exact ⟨R4, _, l, rfl, HNW.out.1, HL4.out.same HNW.out.2.size (fun d hd hp => ⟨HNW.out.2.same hd (.inr hp), hp⟩), HP5, HRK4.out.trans HX4.out HNW.out.2, HX4⟩
    · subst e
      have HL := hide1 hL
      clear hL
      obtain ⟨a0, capB, hB, lB, lN2, hby⟩ := HQ2.out.bytes
      rw [HN.out] at hB lB
      have hmk := run_makeB (n + 1) (by omega)
      have e2 : ((n + 1 : Nat) : Int) = (n : Int) + 1 := by omega
      rw [e2] at hmk
      clear hby e2 lN2
      obtain ⟨nk, hnk⟩ : ∃ nk, ks.length = nk := ⟨_, rfl⟩
      have HNK := hide1 hnk
      have gnk : (nk : Int) ≤ 4096 := by have := HKL.out; omega
      clear hnk
      have HM0 := hide1 (bools_new w2 (List.replicate (n + 1) false))
      have HK0 : Hid (Kept w2 (w2.alloc (.cells (boolV (List.replicate (n + 1) false)).toArray 4))) := (Kept.refl w2).alloc _ _
      go_upto_region 38 with fail
      clear x0 x1 x2 x3 x4 x5 hB lB hmk
      obtain ⟨w3, hw3⟩ : ∃ w3, w2.alloc (.cells (boolV (List.replicate (n + 1) false)).toArray 4) = w3 := ⟨_, rfl⟩
      have HGM : Hid (B0 ≤ w2.heap.size ∧ w.heap.size ≤ w2.heap.size ∧ R1 w2.heap.size = 0) := ⟨HQ2.out.low, HRK.out.size, HQ2.out.zero (Nat.le_refl _)⟩
      rw [hw3] at HM0 HK0 ⊢
      obtain ⟨gm, hgm⟩ : ∃ gm, w2.heap.size = gm := ⟨_, rfl⟩
      rw [hgm] at HM0 HGM ⊢
      clear hw3 hgm
      have HQ3 := hide1 (HQ2.out.kept HK0.out)
      have HRK3 : Hid (RK R w w3) := HRK.out.trans HX1.out (RK.of HK0.out)
      have HD3 : Hid (∃ d, d < w3.heap.size ∧ R1 d = 9 + 3 * i) := by obtain ⟨d, h1, h2⟩ := HD2.out; exact ⟨d, Nat.lt_of_lt_of_le h1 HK0.out.size, h2⟩
      go_wp2_with fail
      go_loopw [11] (AlR B0 lo nb bs ND Ls R w i at' gm ks) (fun k _ => nk - (intOf k).toNat)
      case atStart =>
        refine ⟨0, R1, _, rfl, Nat.zero_le _, HQ3, HM0, (show _ = _ by rw [List.length_replicate, HN.out]), fun x => ?_, HRK3, HX1, HGM.out.2.2, HD3⟩
        rw [List.getElem?_replicate]
        constructor
        · intro h; split at h <;> simp at h
        · rintro ⟨b, hb, _⟩; simp at hb
      case round =>
        obtain ⟨k, R4, ms, rfl, hk, HQ4, HM4, HML, HMS, HRK4, HX4, HG4, HD4⟩ := hrel
        rw [HNK.out] at hk
        obtain ⟨w4, hw4⟩ : ∃ w4, w4 = wr := ⟨_, rfl⟩
        subst hw4
        obtain ⟨be, ce, bk, ck, ak, cpk, ⟨f1, f2, f3, f4⟩, _, f6, f7, f8⟩ := HQ4.out.node HI.out
        rw [HNN.out] at f1 f2 f3 f4
        replace f6 : w4.cell? ⟨bk, i, none⟩ = some (.slice ak ks.length cpk) := f6
        replace f7 : ks.length ≤ cpk := f7
        rw [HNK.out] at f6 f7
        clear f1 f2
        by_cases hlt : (k : Int) < (nk : Int)
        · obtain ⟨kk, hkk⟩ : ∃ kk, ks[k]? = some kk := ⟨ks[k]'(by have := HNK.out; omega), List.getElem?_eq_getElem _⟩
          obtain ⟨cc, oo, ea, hcc⟩ := f8.cell (i := k) (x := kk) hkk
          subst ea
          have HKK := hide1 hkk
          have HEK : Hid (EndsC B0 lo nb bs ND Ls kk) := HE.out kk (List.mem_of_getElem? hkk)
          have gkc : (k : Int) < (cpk : Int) := by omega
          clear f8 hkk
          go_wp2_with (go_at_call 20; refine (HEK.out R4 w4 at' HAT.out HQ4.out).mono ?_; rintro e w5 ⟨R5, v5, l5, rfl, HQ5, HL5, HP5, HK5, HX5⟩; obtain ⟨a5, c5, e5, m1, m2⟩ := HL5.out.form; subst e5; obtain ⟨n5, hn5⟩ : ∃ n5, l5.length = n5 := ⟨_, rfl⟩; have HN5 := hide1 hn5; rw [hn5] at m1 m2 HL5 ⊢; clear hn5)
          have hgw : gm < w4.heap.size := HM4.out.lt
          have HG5 : Hid (R5 gm = 0) := (HX5.out _ hgw).trans HG4.out
          have HM5 : Hid (BoolsAt w5 gm ms) := (HK5.out.same hgw (.inl HG4.out)).trans HM4.out
          clear hcc f3 f4 f6 f7 gkc
          go_loopw [13] (InR gm ms l5 w5) (fun j _ => n5 - (intOf j).toNat)
          case atStart => exact ⟨0, rfl, Nat.zero_le _, HM5, ButB.refl _ _⟩
          case round =>
            obtain ⟨j, rfl, hj, HM6, HB6⟩ := hrel
            rw [HN5.out] at hj
            by_cases hlt2 : (j : Int) < (n5 : Int)
            · obtain ⟨y, hy⟩ : ∃ y, l5[j]? = some y := ⟨l5[j]'(by have := HN5.out; omega), List.getElem?_eq_getElem _⟩
              have hv2 := HB6.out.ints HL5.out (show ¬ R5 gm = 7 by rw [HG5.out]; omega)
              obtain ⟨c3, o3, e3, hc3⟩ := hv2.cell hy
              subst e3
              have HY : Hid (y ≤ n) := by rw [← HN.out]; exact ((HP5.out.2 y).1 (List.mem_of_getElem? hy)).2.1
              have hyn := HY.out
              have gy : (y : Int) < (n : Int) + 1 := by omega
              have HT : Hid (l5.take (j + 1) = l5.take j ++ [y]) := by show _ = _; rw [List.take_add_one, hy]; rfl
              obtain ⟨z, hz⟩ : ∃ z, (markL2 ms (l5.take j))[y]? = some z := ⟨_, List.getElem?_eq_getElem (by rw [markL2_len, HML.out, HN.out]; omega)⟩
              have hold := HM6.out.cell hz
              have hfz := HM6.out.free y
              have gj : (j : Int) < (c5 : Int) := by omega
              clear hy hz hv2 hyn
              go_wp2_with fail
              go_roundw
              case rel => exact ⟨j + 1, by go_num, by rw [HN5.out]; omega, by rw [HT.out, markL2_snoc]; exact HM6.out.put, HB6.out.set⟩
              case measure => simp [intOf]; omega
            · have HE2 : Hid (l5.take j = l5) := List.take_of_length_le (by have := HN5.out; omega)
              go_wp2_with fail
              go_roundw
              case rel =>
                have hm := HM6.out
                rw [HE2.out] at hm
                have hrk := HB6.out.rk (HRK4.out.trans HX4.out HK5.out) HGM.out.2.1
                refine ⟨k + 1, R5, markL2 ms l5, by go_num, by rw [HNK.out]; omega, HB6.out.net HQ5.out HGM.out.1 HG5.out, hm, (show _ = _ by rw [markL2_len]; exact HML.out), fun x => ?_, hrk, HX4.out.trans HRK4.out.size HX5.out, HG5.out, ?_⟩
                · rw [markL2_get _ _ (fun y hy => by have := ((HP5.out.2 y).1 hy).2.1; rw [HML.out]; omega), HMS.out, HP5.out.2, List.take_add_one, HKK.out]
                  show _ ↔ ∃ kk' ∈ ks.take k ++ [kk], EndS (Ls kk') bs at' x
                  constructor
                  · rintro (⟨b, hb, h⟩ | h)
                    · exact ⟨b, List.mem_append_left _ hb, h⟩
                    · exact ⟨kk, by simp, h⟩
                  · rintro ⟨b, hb, h⟩
                    rcases List.mem_append.1 hb with hb | hb
                    · exact .inl ⟨b, hb, h⟩
                    · simp only [List.mem_cons, List.not_mem_nil, or_false] at hb
                      subst hb
                      exact .inr h
                · obtain ⟨d, h1, h2⟩ := HD4.out
                  have h3 := HB6.out.2.2.2.1
                  have h4 := HK5.out.size
                  exact ⟨d, by omega, (HX5.out d h1).trans h2⟩
              case measure => simp [intOf]; omega
        · have HTK : Hid (ks.take k = ks) := List.take_of_length_le (by have := HNK.out; omega)
          clear f8
          go_upto_region 47 with (go_at_call 32; refine (marked_is gm (n + 1) ms w4 HM4.out (by rw [HML.out, HN.out]) (by omega)).mono ?_; rintro e w5 ⟨⟨v5, rfl, ho5⟩, hk5⟩; have HO5 := hide1 ho5; have HK5 := hide1 hk5; obtain ⟨a5, c5, e5⟩ := ho5.form; subst e5; clear ho5 hk5)
          obtain ⟨R5, v6, l5, e6, HQ5, HL5, HP5, HKQ, HX5⟩ := EG.made (S := EndS (Ls i) bs at') HQ4.out HK5.out (RK.of (Kept.refl w4)) (RX.refl R4 w4) HO5.out ((markF_pl ms).iff (fun x => by
            rw [HMS.out, HTK.out]
            constructor
            · rintro ⟨b, hb, h1, h2, h3⟩; exact ⟨h1, h2, (HL.out _).2 ⟨b, hb, h3⟩⟩
            · rintro ⟨h1, h2, h3⟩
              obtain ⟨b, hb, h4⟩ := (HL.out _).1 h3
              exact ⟨b, hb, h1, h2, h4⟩)) (fun x hx => hx.2.1)
          simp only [Ending.returned.injEq] at e6
          subst e6
          have HX6 : Hid (RX R R5 w) := HX4.out.trans HRK4.out.size HX5.out
          have HRK6 : Hid (RK R w w5) := HRK4.out.trans HX4.out HKQ.out
          have HD6 : Hid (∃ d, d < w5.heap.size ∧ R5 d = 9 + 3 * i) := by obtain ⟨d, h1, h2⟩ := HD4.out; exact ⟨d, Nat.lt_of_lt_of_le h1 HK5.out.size, (HX5.out d h1).trans h2⟩
          clear f3 f4 f6 f7
          obtain ⟨bw, cw, bn, cn, g, gn, b, a, m, c, hkn, g1, g2, g3, g4, g5, g6, g7, v1, v2, v3, v4, _⟩ := HQ5.out.rows HIN.out HAT.out (by obtain ⟨d, _, hd⟩ := HD6.out; exact ⟨d, hd⟩)
          have HNW := hide1 (HQ5.out.know HIN.out hkn g1 g2 g3 g4 HL5.out HP5.out)
          have hgg : gn ≠ g := fun e => by rw [e] at g4; omega
          obtain ⟨k1, k2, k3, k4⟩ := hkn
          rw [HN.out] at g1 g2
          rw [HNN.out] at k1 k2 k3 k4
          have y1 : (w5.setCell ⟨g, at', none⟩ (.bool true)).cell? ⟨nb, 3, none⟩ = some (.slice (some ⟨bn, 0, none⟩) N cn) := (World.cell?_of_block (a := ⟨nb, 3, none⟩) (heap_put g5)).trans k3
          have y2 : (w5.setCell ⟨g, at', none⟩ (.bool true)).cell? ⟨bn, i, none⟩ = some (.slice (some ⟨gn, 0, none⟩) (n + 1) (n + 1)) := (World.cell?_of_block (a := ⟨bn, i, none⟩) (heap_put g7)).trans g2
          have y3 : (w5.setCell ⟨g, at', none⟩ (.bool true)).cell? ⟨gn, at', none⟩ = some (.slice a m c) := (World.cell?_of_block (a := ⟨gn, at', none⟩) (heap_put hgg)).trans v3
          have y4 : (w5.setCell ⟨g, at', none⟩ (.bool true)).frozen? ⟨gn, at', none⟩ = false := by
            have e : (w5.setCell ⟨g, at', none⟩ (.bool true)).heap[gn]? = w5.heap[gn]? := heap_put hgg
            have z := v4
            simp only [World.frozen?] at z ⊢
            rw [e]
            exact z
          clear g3 g4 g5 g6 g7 hgg
          go_wp2_with fail
          go_ret
          exact ⟨R5, _, l5, rfl, HNW.out.1, HL5.out.same HNW.out.2.size (fun d hd hp => ⟨HNW.out.2.same hd (.inr hp), hp⟩), HP5, HRK6.out.trans HX6.out HNW.out.2, HX6⟩
    · subst e
      have HL := hide1 hL
      clear hL
      subst ek
      obtain ⟨mn', hmn'⟩ : ∃ mn' : Nat, mn = (mn' : Int) := ⟨mn.toNat, by omega⟩
      subst hmn'
      have HEK : Hid (EndsC B0 lo nb bs ND Ls kk) := HE.out kk (List.mem_cons_self ..)
      have hlit := HQ2.out.lit at'
      have hka : Kept w2 (w2.alloc (.cells #[.int .i64 (at' : Int)] 3)) := (Kept.refl w2).alloc _ _
      have HKA := hide1 hka
      have HVA : Hid (IntR (fun d => R1 d = 0 ∨ R1 d = 7) (w2.alloc (.cells #[.int .i64 (at' : Int)] 3)) (.slice (some ⟨w2.heap.size, 0, none⟩) 1 1) [at']) := by
        obtain ⟨R', _, h2, _, _⟩ := hlit
        obtain ⟨a, cap, e, m1, m2, h3⟩ := h2
        refine ⟨a, cap, e, m1, m2, ?_⟩
        rcases h3 with h3 | ⟨c, o, h4, h5, _, h6⟩
        · exact .inl h3
        · refine .inr ⟨c, o, h4, h5, .inl ?_, h6⟩
          simp only [Value.slice.injEq] at e
          have e1 := e.1
          rw [h4] at e1
          simp only [Option.some.injEq, Addr.mk.injEq] at e1
          rw [← e1.1]
          exact HQ2.out.zero (Nat.le_refl _)
      clear hlit hka
      have HQA := hide1 (HQ2.out.kept HKA.out)
      have HMI := hide1 (show mn' ≤ 1000 by omega)
      go_upto_region 10 with (go_at_call 33; refine (must_is B0 lo nb bs ND Ls i kk 4 fr t0 _ mx mn' HI.out rfl HMI.out HEK.out R1 _ HQA.out _ [at'] (fun x => x = at') HVA.out (Pl.one at') (fun x hx => by have hx : x = at' := hx; rw [hx]; exact HAT.out)).mono ?_; rintro e w3 ⟨R3, v3, l3, rfl, HQ3, HV3, HP3, HK3, HX3⟩; obtain ⟨a3, c3, e3, p1, p2⟩ := HV3.out.form; subst e3; obtain ⟨n3, hn3⟩ : ∃ n3, l3.length = n3 := ⟨_, rfl⟩; have HN3 := hide1 hn3; rw [hn3] at p1 p2 HV3 ⊢; clear hn3)
      clear x0 x1 x2 x3 x4 x5
      have hgx : gx < w2.heap.size := HBX.out.lt
      have HX4 : Hid (RX R R3 w) := HX1.out.trans HRK.out.size (fun d hd => HX3.out d (Nat.lt_of_lt_of_le hd HKA.out.size))
      have HRK4 : Hid (RK R w w3) := (HRK.out.trans HX1.out (RK.of HKA.out)).trans HX1.out HK3.out
      have HBX3 : Hid (BoxAt w3 gx (.int .i64 4) (.int .i64 fr) (.int .i64 t0) (.int .i64 (mn' : Int)) (.int .i64 mx) (.slice xa xn xc)) := (HK3.out.same (Nat.lt_of_lt_of_le hgx HKA.out.size) (.inl HGX.out.2.2)).trans (HBX.out.keep HKA.out)
      have HGX3 : Hid (R3 gx = 0) := (HX3.out gx (Nat.lt_of_lt_of_le hgx HKA.out.size)).trans HGX.out.2.2
      have HD3 : Hid (∃ d, d < w3.heap.size ∧ R3 d = 9 + 3 * i) := by
        obtain ⟨d, h1, h2⟩ := HD2.out
        have h3 := Nat.lt_of_lt_of_le h1 HKA.out.size
        exact ⟨d, Nat.lt_of_lt_of_le h3 HK3.out.size, (HX3.out d h3).trans h2⟩
      have HVT : Hid (IntR (fun d => d < w3.heap.size ∧ (R3 d = 0 ∨ R3 d = 7)) w3 (.slice a3 n3 c3) l3) := HV3.out.same (Nat.le_refl _) (fun d hd hp => ⟨rfl, hd, hp⟩)
      obtain ⟨⟨x0, x1, x2, x3, x4, x5⟩, _⟩ := HBX3.out.facts
      obtain ⟨a0, capB, hB, lB, lN2, hby⟩ := HQ3.out.bytes
      rw [HN.out] at hB lB
      have hmk := run_makeB (n + 1) (by omega)
      have e2 : ((n + 1 : Nat) : Int) = (n : Int) + 1 := by omega
      rw [e2] at hmk
      clear hby e2 lN2 hgx x0 x1 x2 x3 x4 x5
      have HM0 := hide1 (bools_new w3 (List.replicate (n + 1) false))
      have HK0 : Hid (Kept w3 (w3.alloc (.cells (boolV (List.replicate (n + 1) false)).toArray 4))) := (Kept.refl w3).alloc _ _
      go_upto_region 11 with fail
      clear hB lB hmk
      obtain ⟨w4, hw4⟩ : ∃ w4, w3.alloc (.cells (boolV (List.replicate (n + 1) false)).toArray 4) = w4 := ⟨_, rfl⟩
      have HGM : Hid (B0 ≤ w3.heap.size ∧ w.heap.size ≤ w3.heap.size ∧ R3 w3.heap.size = 0) := ⟨HQ3.out.low, HRK4.out.size, HQ3.out.zero (Nat.le_refl _)⟩
      have HGL : Hid (gx < w3.heap.size) := HBX3.out.lt
      rw [hw4] at HM0 HK0 ⊢
      obtain ⟨gm, hgm⟩ : ∃ gm, w3.heap.size = gm := ⟨_, rfl⟩
      rw [hgm] at HM0 HGM HVT HGL ⊢
      clear hw4
      have HVG := hide1 (HVT.out.same HK0.out.size (fun d hd hp => ⟨HK0.out.2.2.2.2 d hd, hp⟩))
      go_wp2_with fail
      go_loopw [16] (InR gm (List.replicate (n + 1) false) l3 w4) (fun j _ => n3 - (intOf j).toNat)
      case atStart => exact ⟨0, rfl, Nat.zero_le _, HM0, ButB.refl _ _⟩
      case round =>
        obtain ⟨w5, hw5⟩ : ∃ w5, w5 = wr := ⟨_, rfl⟩
        subst hw5
        obtain ⟨j, rfl, hj, HM6, HB6⟩ := hrel
        rw [HN3.out] at hj
        by_cases hlt2 : (j : Int) < (n3 : Int)
        · obtain ⟨y, hy⟩ : ∃ y, l3[j]? = some y := ⟨l3[j]'(by have := HN3.out; omega), List.getElem?_eq_getElem _⟩
          have hv2 := HB6.out.ints HVG.out (fun h => Nat.lt_irrefl _ h.1)
          obtain ⟨c4, o4, e4, hc4⟩ := hv2.cell hy
          subst e4
          have HY : Hid (y ≤ n) := by rw [← HN.out]; exact (pow_in HAT.out ((HP3.out.2 y).1 (List.mem_of_getElem? hy))).2
          have hyn := HY.out
          have gy : (y : Int) < (n : Int) + 1 := by omega
          have HT : Hid (l3.take (j + 1) = l3.take j ++ [y]) := by show _ = _; rw [List.take_add_one, hy]; rfl
          obtain ⟨z, hz⟩ : ∃ z, (markL2 (List.replicate (n + 1) false) (l3.take j))[y]? = some z := ⟨_, List.getElem?_eq_getElem (by rw [markL2_len, List.length_replicate]; omega)⟩
          have hold := HM6.out.cell hz
          have hfz := HM6.out.free y
          have gj : (j : Int) < (c3 : Int) := by omega
          clear hy hz hv2 hyn
          go_wp2_with fail
          go_roundw
          case rel => exact ⟨j + 1, by go_num, by rw [HN3.out]; omega, by rw [HT.out, markL2_snoc]; exact HM6.out.put, HB6.out.set⟩
          case measure => simp [intOf]; omega
        · have HE2 : Hid (l3.take j = l3) := List.take_of_length_le (by have := HN3.out; omega)
          obtain ⟨ms0, hms0⟩ : ∃ ms0, markL2 (List.replicate (n + 1) false) l3 = ms0 := ⟨_, rfl⟩
          have HM5 : Hid (BoolsAt w5 gm ms0) := by have h := HM6.out; rw [HE2.out, hms0] at h; exact h
          have HML0 : Hid (ms0.length = bs.length + 1) := by show _ = _; rw [← hms0, markL2_len, List.length_replicate, HN.out]
          have HMS0 : Hid (∀ k, ms0[k]? = some true ↔ PowS (Ls kk) bs mn' (fun x => x = at') k) := fun k => by
            rw [← hms0, markL2_get _ _ (fun y hy => by have := (pow_in HAT.out ((HP3.out.2 y).1 hy)).2; rw [List.length_replicate, ← HN.out]; omega), HP3.out.2]
            constructor
            · rintro (h | h)
              · rw [List.getElem?_replicate] at h; split at h <;> simp at h
              · exact h
            · exact .inr
          have HQ5 := hide1 (HB6.out.net (HQ3.out.kept HK0.out) HGM.out.1 HGM.out.2.2)
          have HRK5 := hide1 (HB6.out.rk (HRK4.out.trans HX4.out (RK.of HK0.out)) HGM.out.2.1)
          have HBX5 : Hid (BoxAt w5 gx (.int .i64 4) (.int .i64 fr) (.int .i64 t0) (.int .i64 (mn' : Int)) (.int .i64 mx) (.slice xa xn xc)) := (HB6.out.2.2.2.2 gx (by have := HGL.out; omega)).trans (HBX3.out.keep HK0.out)
          have hs5 : w3.heap.size ≤ w5.heap.size := by have h1 := HB6.out.2.2.2.1; have h2 := HK0.out.size; omega
          have HGX5 : Hid (R3 gx = 0 ∧ gx < w5.heap.size) := ⟨HGX3.out, HBX5.out.lt⟩
          have HD5 : Hid (∃ d, d < w5.heap.size ∧ R3 d = 9 + 3 * i) := by obtain ⟨d, h1, h2⟩ := HD3.out; exact ⟨d, by omega, h2⟩
          have HV5 : Hid (IntR (fun d => d ≠ gm ∧ (R3 d = 0 ∨ R3 d = 7)) w5 (.slice a3 n3 c3) l3) := (HB6.out.ints HVG.out (fun h => Nat.lt_irrefl _ h.1)).same (Nat.le_refl _) (fun d _ hp => ⟨rfl, by have := hp.1; omega, hp.2⟩)
          obtain ⟨⟨x0, x1, x2, x3, x4, x5⟩, _⟩ := HBX5.out.facts
          clear hms0 hs5
          go_wp2_with fail
          clear x0 x1 x2 x3 x4 x5
          go_loopw [14, 17] (RpQ B0 lo nb bs ND Ls R w i at' gm gx kk mn' mx (fun wr => BoxAt wr gx (.int .i64 4) (.int .i64 fr) (.int .i64 t0) (.int .i64 (mn' : Int)) (.int .i64 mx) (.slice xa xn xc))) (fun vf _ wr => 2 * fals wr gm + min 1 (lenV vf))
          case atStart =>
            refine ⟨mn', R3, ms0, fun k => ms0[k]? = some true, l3, rfl, ?_, ?_, HQ5, HM5, HML0, wave_begin HMS0.out, HV5, HP3.out.iff (fun k => (HMS0.out k).symm), HRK5, HX4, HGM.out.2.2, HBX5, HGX5, HD5⟩
            · rcases hm2 with h | h
              · exact .inl h
              · exact .inr h.1
            · have h1 := cntF_le ms0
              rw [HML0.out] at h1
              show mn' + cntF ms0 ≤ _
              omega
          case round =>
            obtain ⟨w6, hw6⟩ : ∃ w6, w6 = wr := ⟨_, rfl⟩
            subst hw6
            obtain ⟨j, R5, ms, F, l, rfl, HJM, HJC, HQ6, HM6, HML, HWV, HV6, HPF, HRK6, HX6, HG6, HBX6, HGX6, HD6⟩ := hrel
            obtain ⟨a6, c6, rfl, p3, p4⟩ := HV6.out.form
            obtain ⟨nl, hnl⟩ : ∃ nl, l.length = nl := ⟨_, rfl⟩
            have HNL := hide1 hnl
            rw [hnl] at p3 p4 HV6 ⊢
            have gj : (j : Int) ≤ 300000 := by
              have h1 := HJC.out
              have h2 := HN.out
              split at h1 <;> omega
            obtain ⟨gb, HGB⟩ : ∃ gb : Bool, Hid (gb = true ↔ (((j : Int) < mx ∨ mx < 0) ∧ (0 : Int) < (nl : Int))) := by
              by_cases h : ((j : Int) < mx ∨ mx < 0) ∧ (0 : Int) < (nl : Int)
              · exact ⟨true, ⟨fun _ => h, fun _ => rfl⟩⟩
              · exact ⟨false, ⟨fun e => absurd e (by simp), fun e => absurd e h⟩⟩
            obtain ⟨⟨x0, x1, x2, x3, x4, x5⟩, _⟩ := HBX6.out.facts
            clear hnl
            go_upto_region 16 with fail
            go_cut [122] from 109 to 121 (fun c wx => c = .bool gb ∧ wx = w6)
            case first =>
              by_cases h1 : (j : Int) < mx
              · by_cases h2 : (0 : Int) < (nl : Int)
                · have e : gb = true := HGB.out.2 ⟨.inl h1, h2⟩
                  subst e
                  go_wp2_with fail
                  go_meet
                  exact ⟨by first | rfl | (congr 1; simp; omega), rfl⟩
                · have e : gb = false := by
                    cases gb
                    · rfl
                    · exact absurd (HGB.out.1 rfl).2 h2
                  subst e
                  go_wp2_with fail
                  go_meet
                  exact ⟨by first | rfl | (congr 1; simp; omega), rfl⟩
              · by_cases h3 : mx < 0
                · by_cases h2 : (0 : Int) < (nl : Int)
                  · have e : gb = true := HGB.out.2 ⟨.inr h3, h2⟩
                    subst e
                    go_wp2_with fail
                    go_meet
                    exact ⟨by first | rfl | (congr 1; simp; omega), rfl⟩
                  · have e : gb = false := by
                      cases gb
                      · rfl
                      · exact absurd (HGB.out.1 rfl).2 h2
                    subst e
                    go_wp2_with fail
                    go_meet
                    exact ⟨by first | rfl | (congr 1; simp; omega), rfl⟩
                · have e : gb = false := by
                    cases gb
                    · rfl
                    · rcases (HGB.out.1 rfl).1 with h | h
                      · exact absurd h h1
                      · exact absurd h h3
                  subst e
                  go_wp2_with fail
                  go_meet
                  exact ⟨by first | rfl | (congr 1; simp; omega), rfl⟩
            case rest =>
              obtain ⟨rfl, hw0⟩ := hcut
              have hw0 := hw0.symm
              subst hw0
              clear x0 x1 x2 x3 x4 x5
              cases gb
              · have HEX : Hid ((∀ k, ¬ F k) ∨ (j : Int) = mx) := by
                  by_cases h2 : (0 : Int) < (nl : Int)
                  · right
                    have h3 : ¬ ((j : Int) < mx ∨ mx < 0) := fun h => absurd (HGB.out.2 ⟨h, h2⟩) (by simp)
                    have h4 := HJM.out
                    omega
                  · left
                    intro k hk
                    have h5 := (HPF.out.2 k).2 hk
                    have h6 : l = [] := List.length_eq_zero_iff.1 (by have := HNL.out; omega)
                    rw [h6] at h5
                    simp at h5
                go_upto_region 47 with (go_at_call 32; refine (marked_is gm (n + 1) ms w6 HM6.out (by rw [HML.out, HN.out]) (by omega)).mono ?_; rintro e w7 ⟨⟨v7, rfl, ho7⟩, hk7⟩; have HO7 := hide1 ho7; have HK7 := hide1 hk7; obtain ⟨a7, c7, e7⟩ := ho7.form; subst e7; clear ho7 hk7)
                obtain ⟨R7, v8, l7, e8, HQ7, HL7, HP7, HKQ, HX7⟩ := EG.made (S := EndS (Ls i) bs at') HQ6.out HK7.out (RK.of (Kept.refl w6)) (RX.refl R5 w6) HO7.out ((markF_pl ms).iff (fun x => (wave_end HAT.out HWV.out HJM.out HEX.out x).trans (ends_iff (fun u => (HL.out u).symm)))) (fun x hx => hx.2.1)
                simp only [Ending.returned.injEq] at e8
                subst e8
                have HX8 : Hid (RX R R7 w) := HX6.out.trans HRK6.out.size HX7.out
                have HRK8 : Hid (RK R w w7) := HRK6.out.trans HX6.out HKQ.out
                have HD8 : Hid (∃ d, d < w7.heap.size ∧ R7 d = 9 + 3 * i) := by obtain ⟨d, h1, h2⟩ := HD6.out; exact ⟨d, Nat.lt_of_lt_of_le h1 HK7.out.size, (HX7.out d h1).trans h2⟩
                obtain ⟨bw, cw, bn, cn, g, gn, b, a, m, c, hkn, g1, g2, g3, g4, g5, g6, g7, v1, v2, v3, v4, _⟩ := HQ7.out.rows HIN.out HAT.out (by obtain ⟨d, _, hd⟩ := HD8.out; exact ⟨d, hd⟩)
                have HNW := hide1 (HQ7.out.know HIN.out hkn g1 g2 g3 g4 HL7.out HP7.out)
                have hgg : gn ≠ g := fun e => by rw [e] at g4; omega
                obtain ⟨k1, k2, k3, k4⟩ := hkn
                rw [HN.out] at g1 g2
                rw [HNN.out] at k1 k2 k3 k4
                have y1 : (w7.setCell ⟨g, at', none⟩ (.bool true)).cell? ⟨nb, 3, none⟩ = some (.slice (some ⟨bn, 0, none⟩) N cn) := (World.cell?_of_block (a := ⟨nb, 3, none⟩) (heap_put g5)).trans k3
                have y2 : (w7.setCell ⟨g, at', none⟩ (.bool true)).cell? ⟨bn, i, none⟩ = some (.slice (some ⟨gn, 0, none⟩) (n + 1) (n + 1)) := (World.cell?_of_block (a := ⟨bn, i, none⟩) (heap_put g7)).trans g2
                have y3 : (w7.setCell ⟨g, at', none⟩ (.bool true)).cell? ⟨gn, at', none⟩ = some (.slice a m c) := (World.cell?_of_block (a := ⟨gn, at', none⟩) (heap_put hgg)).trans v3
                have y4 : (w7.setCell ⟨g, at', none⟩ (.bool true)).frozen? ⟨gn, at', none⟩ = false := by
                  have e : (w7.setCell ⟨g, at', none⟩ (.bool true)).heap[gn]? = w7.heap[gn]? := heap_put hgg
                  have z := v4
                  simp only [World.frozen?] at z ⊢
                  rw [e]
                  exact z
                clear g3 g4 g5 g6 g7 hgg
                go_wp2_with fail
                go_ret
                exact ⟨R7, _, l7, rfl, HNW.out.1, HL7.out.same HNW.out.2.size (fun d hd hp => ⟨HNW.out.2.same hd (.inr hp), hp⟩), HP7, HRK8.out.trans HX8.out HNW.out.2, HX8⟩
              · have HGT := hide1 (HGB.out.1 (by first | rfl | trivial))
                obtain ⟨be, ce, bk, ck, ak, cpk, ⟨f1, f2, f3, f4⟩, _, f6, f7, f8⟩ := HQ6.out.node HI.out
                rw [HNN.out] at f1 f2 f3 f4
                obtain ⟨cc, oo, e1, f9⟩ := f8.cell (i := 0) (x := kk) rfl
                subst e1
                have f9 : w6.cell? ⟨cc, oo, none⟩ = some (.int .i64 (kk : Int)) := by simpa using f9
                replace f6 : w6.cell? ⟨bk, i, none⟩ = some (.slice (some ⟨cc, oo, none⟩) 1 cpk) := f6
                have b0 : (0 : Int) < 1 := by omega
                clear f8 f7 f1 f2
                go_wp2_with (go_at_call 31; refine (stepD_is B0 lo nb bs ND Ls kk HEK.out R5 w6 HQ6.out _ l F (HV6.out.same (Nat.le_refl _) (fun d _ hp => ⟨rfl, hp.2⟩)) HPF.out (fun x hx => (pow_in HAT.out (HWV.out.2.2.1 x hx)).2)).mono ?_; rintro e w7 ⟨R7, v7, l7, rfl, HQ7, HL7, HP7, HK7, HX7⟩; obtain ⟨a7, c7, e7, m1, m2⟩ := HL7.out.form; subst e7; obtain ⟨n7, hn7⟩ : ∃ n7, l7.length = n7 := ⟨_, rfl⟩; have HN7 := hide1 hn7; rw [hn7] at m1 m2 HL7 ⊢; clear hn7)
                have hgw : gm < w6.heap.size := HM6.out.lt
                have HGW : Hid (gm < w7.heap.size) := Nat.lt_of_lt_of_le hgw HK7.out.size
                have HG7 : Hid (R7 gm = 0) := (HX7.out _ hgw).trans HG6.out
                have HM7 : Hid (BoolsAt w7 gm ms) := (HK7.out.same hgw (.inl HG6.out)).trans HM6.out
                have HB7 : Hid (∀ x ∈ l7, x < ms.length) := fun x hx => by
                  obtain ⟨_, _, h⟩ := (HP7.out.2 x).1 hx
                  have := h.2.1
                  rw [HML.out]
                  omega
                clear f3 f4 f6 f9 hgw
                go_loopw [14, 19] (FrR gm ms l7 w7) (fun _ j _ => n7 - (intOf j).toNat)
                case atStart => exact ⟨0, rfl, Nat.zero_le _, HM7, PlO.nil _ _, but_refl gm w7⟩
                case round =>
                  obtain ⟨j2, rfl, hj2, HM8, HO8, HB8⟩ := hrel
                  rw [HN7.out] at hj2
                  obtain ⟨f, hf⟩ : ∃ f, frF ms (l7.take j2) = f := ⟨_, rfl⟩
                  have HF := hide1 hf
                  rw [hf] at HO8
                  obtain ⟨a8, c8, rfl⟩ := HO8.out.form
                  obtain ⟨n8, hn8⟩ : ∃ n8, f.length = n8 := ⟨_, rfl⟩
                  have HN8 := hide1 hn8
                  have g8 : n8 ≤ 300000 := by
                    have h1 := frF_len ms (l7.take j2)
                    have h2 := HP7.out.len (n := n) (fun k ⟨_, _, h⟩ => by have := h.2.1; have := HN.out; omega)
                    rw [hf, hn8, List.length_take] at h1
                    omega
                  rw [hn8] at HO8 ⊢
                  clear hf hn8
                  by_cases hlt2 : (j2 : Int) < (n7 : Int)
                  · obtain ⟨y, hy⟩ : ∃ y, l7[j2]? = some y := ⟨l7[j2]'(by have := HN7.out; omega), List.getElem?_eq_getElem _⟩
                    have hne : ∀ d, R7 d = 7 → d ≠ gm := fun d hd e => by rw [e, HG7.out] at hd; omega
                    have hv2 : IntR (fun d => R7 d = 7) wr (.slice a7 n7 c7) l7 := HL7.out.same HB8.out.2.2.2.1 (fun d hd hp => ⟨HB8.out.2.2.2.2 d hd (hne d hp), hp⟩)
                    have hy7 : l7[j2]? = some y := hy
                    obtain ⟨a7', cap7', e7', _, _, h7'⟩ := hv2
                    simp only [Value.slice.injEq] at e7'
                    obtain ⟨rfl, e7n, rfl⟩ := e7'
                    clear e7n
                    obtain ⟨cd, od, ed, hcd1, hcd2, hcd3⟩ := h7'.resolve_left (fun e => by rw [e] at hy7; simp at hy7)
                    subst ed
                    have hc3 := hcd3 j2 y hy
                    have hcg : cd ≠ gm := hne cd hcd2
                    have hc4 : (wr.setCell ⟨gm, y, none⟩ (.bool true)).cell? ⟨cd, od + j2, none⟩ = some (.int .i64 (y : Int)) := (World.cell?_of_block (a := ⟨cd, od + j2, none⟩) (heap_put hcg)).trans hc3
                    have HY : Hid (y ≤ n) := by
                      obtain ⟨_, _, h⟩ := (HP7.out.2 y).1 (List.mem_of_getElem? hy)
                      rw [← HN.out]
                      exact h.2.1
                    have hyn := HY.out
                    have gy : (y : Int) < (n : Int) + 1 := by omega
                    have HT : Hid (l7.take (j2 + 1) = l7.take j2 ++ [y]) := by show _ = _; rw [List.take_add_one, hy]; rfl
                    have HNW := hide1 (mark_new HP7.out.1 HB7.out hy)
                    obtain ⟨z, hz⟩ : ∃ z, (markL2 ms (l7.take j2))[y]? = some z := ⟨_, List.getElem?_eq_getElem (by rw [markL2_len, HML.out, HN.out]; omega)⟩
                    have HZ := hide1 hz
                    have hold := HM8.out.cell hz
                    have hfz := HM8.out.free y
                    have gj2 : (j2 : Int) < (c7 : Int) := by omega
                    clear hy hy7 hz hyn hcd1 hcd2 hcd3 hcg h7' hne
                    cases z
                    · have HNM : Hid (¬ ms[y]? = some true) := fun h => by have := HNW.out.2 h; rw [HZ.out] at this; simp at this
                      have HO8b : Hid (PlO (wr.setCell ⟨gm, y, none⟩ (.bool true)) w7.heap.size (.slice a8 n8 c8) f) := HO8.out.same (fun g hg => heap_put (fun e => by have h1 := (HO8.out.lt g hg).1; have h2 := HGW.out; omega))
                      have HSZ : Hid ((wr.setCell ⟨gm, y, none⟩ (.bool true)).heap.size = wr.heap.size) := by show _ = _; simp [World.setCell]
                      have HB8b : Hid (KeptBut gm w7 (wr.setCell ⟨gm, y, none⟩ (.bool true))) := but_set HB8.out y _
                      have HM8b : Hid (BoolsAt (wr.setCell ⟨gm, y, none⟩ (.bool true)) gm ((markL2 ms (l7.take j2)).set y true)) := HM8.out.put
                      go_wp2_with (at_builtin; refine wpl_place rfl _ _ rfl (wr.setCell ⟨gm, y, none⟩ (.bool true)) w7.heap.size _ f n8 HN8.out y _ (by rfl) HO8b.out (by rw [HSZ.out]; rfl) (by omega) HB8b.out.2.2.2.1 ?_; intro g9 c9 w9 h1 h2 h3; have HO9 := hide1 h1; have HK9 := hide1 (HB8b.out.place HO8b.out h2); have HM9 : Hid (BoolsAt w9 gm ((markL2 ms (l7.take j2)).set y true)) := (h2.block gm (Nat.lt_of_lt_of_le HM8b.out.lt ((Kept.refl _).alloc _ _).size) (fun e => by have h4 := (HO8b.out.lt gm e.symm).1; have h5 := HGW.out; omega)).trans (HM8b.out.keep ((Kept.refl _).alloc _ _)); clear h1 h2 h3)
                      go_roundw
                      case rel => exact ⟨j2 + 1, by go_num, by rw [HN7.out]; omega, by rw [HT.out, markL2_snoc]; exact HM9.out, by rw [HT.out, frF_snoc, if_neg HNM.out, HF.out]; exact HO9.out, HK9.out⟩
                      case measure => simp [intOf]; omega
                    · have HMT : Hid (ms[y]? = some true) := HNW.out.1 HZ.out
                      go_wp2_with fail
                      go_roundw
                      case rel => exact ⟨j2 + 1, by go_num, by rw [HN7.out]; omega, by rw [HT.out, markL2_snoc, set_true HZ.out]; exact HM8.out, by rw [HT.out, frF_snoc, if_pos HMT.out, List.append_nil, HF.out]; exact HO8.out, HB8.out⟩
                      case measure => simp [intOf]; omega
                  · have HE2 : Hid (l7.take j2 = l7) := List.take_of_length_le (by have := HN7.out; omega)
                    have HCN : Hid (cntF (markL2 ms l7) + f.length = cntF ms) := by
                      have h1 := cnt_fresh HP7.out.1 HB7.out l7.length (Nat.le_refl _)
                      rw [List.take_length] at h1
                      have h2 := HF.out
                      rw [HE2.out] at h2
                      rw [h2] at h1
                      exact h1
                    have HM9 : Hid (BoolsAt wr gm (markL2 ms l7)) := by have h := HM8.out; rw [HE2.out] at h; exact h
                    have HF9 : Hid (frF ms l7 = f) := by have h := HF.out; rw [HE2.out] at h; exact h
                    go_wp2_with fail
                    go_roundw
                    case rel =>
                      have hs := HB8.out.2.2.2.1
                      have hgw := HGW.out
                      have hxs := (HX7.out gx HGX6.out.2).trans HGX6.out.1
                      have hgx7 : gx < w7.heap.size := Nat.lt_of_lt_of_le HGX6.out.2 HK7.out.size
                      have hgne : gx ≠ gm := by have := HGL.out; omega
                      refine ⟨j + 1, R7, markL2 ms l7, fun k => StepS (Ls kk) bs F k ∧ ¬ ms[k]? = some true, f, by go_num, ?_, ?_, ?_, HM9, (show _ = _ by rw [markL2_len]; exact HML.out), wave_next HWV.out (fun k => by rw [markL2_get _ _ HB7.out, HP7.out.2]) (fun k => Iff.rfl), ?_, ?_, ?_, HX6.out.trans HRK6.out.size HX7.out, HG7, ?_, ⟨hxs, by omega⟩, ?_⟩
                      · have h1 := HGT.out.1
                        rcases hm2 with h | h
                        · exact .inl h
                        · exact .inr (by omega)
                      · have h1 := HJC.out
                        have h2 := HCN.out
                        have h3 : ¬ l = [] := fun e => by have h4 := HNL.out; rw [e] at h4; have h5 := HGT.out.2; simp at h4; omega
                        rw [if_neg h3] at h1
                        show j + 1 + cntF (markL2 ms l7) ≤ _
                        split
                        · omega
                        · rename_i h4
                          have := List.length_pos_iff.2 h4
                          omega
                      · exact HQ7.out.same hs (fun d hd hd2 => HB8.out.2.2.2.2 d hd (fun e => by subst e; rcases hd2 with h | h; exact h HG7.out; have := HGM.out.1; omega))
                      · refine (HO8.out.ints (by have := HN8.out; omega)).same (Nat.le_refl _) (fun d _ hp => ⟨rfl, ?_⟩)
                        have h1 := (HO8.out.lt d hp).1
                        exact ⟨by omega, .inl (HQ7.out.zero h1)⟩
                      · rw [← HF9.out]
                        exact ⟨frF_rise HP7.out.1, fun k => by rw [frF_mem, HP7.out.2]⟩
                      · refine ⟨HB8.out.1.trans (HK7.out.1.trans HRK6.out.1), HB8.out.2.1.trans (HK7.out.2.1.trans HRK6.out.2.1), HB8.out.2.2.1.trans (HK7.out.2.2.1.trans HRK6.out.2.2.1), Nat.le_trans HRK6.out.size (Nat.le_trans HK7.out.size hs), fun d hd => ?_⟩
                        have h1 := Nat.lt_of_lt_of_le hd.1 HRK6.out.size
                        have h2 := HGM.out.2.1
                        have h3 : d ≠ gm := by have := hd.1; omega
                        refine (HB8.out.2.2.2.2 d (Nat.lt_of_lt_of_le h1 HK7.out.size) h3).trans ((HK7.out.same h1 ?_).trans (HRK6.out.same hd.1 hd.2))
                        rw [HX6.out d hd.1]
                        exact hd.2
                      · exact (HB8.out.2.2.2.2 gx hgx7 hgne).trans ((HK7.out.same HGX6.out.2 (.inl HGX6.out.1)).trans HBX6.out)
                      · obtain ⟨d, h1, h2⟩ := HD6.out
                        have h3 := HK7.out.size
                        exact ⟨d, by omega, (HX7.out d h1).trans h2⟩
                    case measure =>
                      have h1 := HCN.out
                      have h2 := HN8.out
                      have h3 := HGT.out.2
                      rw [HM6.out.fals, HM9.out.fals]
                      simp only [lenV]
                      omega

end Ex
end Go.Proofs.YtlgojnodhbmlkaaGreatDoor
