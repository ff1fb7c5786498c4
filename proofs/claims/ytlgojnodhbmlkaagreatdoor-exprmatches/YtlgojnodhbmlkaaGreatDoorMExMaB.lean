import Derived.Test.YtlgojnodhbmlkaaGreatDoorMExMa9
import Derived.Test.YtlgojnodhbmlkaaGreatDoorMExMa8
namespace Go.Proofs.YtlgojnodhbmlkaaGreatDoor
open Go.RowKit
namespace Ex

/-- ends of every value of the net. -/
theorem ends_all (B0 : Nat) (lo : Nat → Nat → Option Int) (nb : Nat) (bs : List Int) (ND : List NodeT) (Ls : Nat → List Int → Prop) (hsys : Sys ND Ls) (hbs : ∀ x ∈ bs, 0 ≤ x ∧ x ≤ 255) : ∀ (d i : Nat), ND.length - i ≤ d → i < ND.length → EndsC B0 lo nb bs ND Ls i
  | 0, i, h1, h2 => absurd h2 (by omega)
  | d + 1, i, h1, h2 => by
    obtain ⟨nd, hi⟩ : ∃ nd, ND[i]? = some nd := ⟨_, List.getElem?_eq_getElem h2⟩
    obtain ⟨k0, fr, t0, mn, mx, ks⟩ := nd
    refine endsD_is B0 lo nb bs ND Ls hsys hbs i k0 fr t0 mn mx ks hi (fun k hk => ?_)
    have h3 := (hsys.2 i _ hi).1 k hk
    exact ends_all B0 lo nb bs ND Ls hsys hbs d k (by omega) h3.2

end Ex
end Go.Proofs.YtlgojnodhbmlkaaGreatDoor
namespace Go.Proofs.YtlgojnodhbmlkaaGreatDoor
open Go.RowKit
attribute [local go_sem] Oper.semAt_some
namespace Ex

theorem run_makeZ (n : Nat) (hn : n ≤ 300000) (w : World) : (Instr.makeSlice 46 (.int .i64 (n : Int)) (.int .i64 (n : Int))).run Tryz.prog w = .ok (.slice (some ⟨w.heap.size, 0, none⟩) n n) (w.alloc (.cells (zerV n).toArray 3)) := by
  obtain ⟨i0, hi, hz0, hz1, hz2⟩ := info_parts int_info
  rw [run_make (P := Tryz.prog) w 46 3 i0 _ Tryz.underlying46 hi hz0 .i64 .i64 n n (by omega) (Int.le_refl _) (by rw [hz2]; omega) (by omega)]
  rw [hz1]
  have e : madeCells (Value.int .i64 0).cells ((n : Int).toNat * 1) = (zerV n).toArray := by
    unfold madeCells zerV
    apply Array.ext_getElem?
    intro i
    simp only [Int.toNat_natCast, Nat.mul_one, List.getElem?_toArray, List.getElem?_replicate]
    by_cases h : i < n
    · simp [h, Value.cells, Nat.mod_one]
    · simp [h]
  rw [e]
  simp
/-- An open life that is right is shut. -/
theorem NetQ.lvshut {B0 : Nat} {R : Nat → Nat} {lo lo' : Nat → Nat → Option Int} {w : World} {nb : Nat} {bs : List Int} {ND : List NodeT} {Ls : Nat → List Int → Prop} (h : NetQ B0 R lo w nb bs ND Ls) (hlo : ∀ j y x, LvOk (lo j y) (LiveS (Ls j) bs y) x → LvOk (lo' j y) (LiveS (Ls j) bs y) x) : NetQ B0 R lo' w nb bs ND Ls := by
  obtain ⟨a, capB, be, ce, bk, ck, bn, cn, bw, cw, bl, cl, K, q1, q2, p3, p4, p5, p6, p7, p8, p9, p10⟩ := h
  refine ⟨a, capB, be, ce, bk, ck, bn, cn, bw, cw, bl, cl, K, q1, q2, p3, p4, p5, p6, p7, p8, p9, p10.same rfl (fun j v _ hv => ?_)⟩
  rcases hv with hv | ⟨g, g1, g2, g3⟩
  · exact .inl hv
  · refine .inr ⟨g, g1, g2, g3.same rfl (fun y u _ hu => ?_)⟩
    obtain ⟨x, h1, h2⟩ := hu
    exact ⟨x, h1, hlo j y x h2⟩
/-- One life more is open. -/
def openL (lo : Nat → Nat → Option Int) (i at' : Nat) : Nat → Nat → Option Int := fun j y => if j = i ∧ y = at' then some 1 else lo j y
def WithinC (B0 : Nat) (lo : Nat → Nat → Option Int) (nb : Nat) (bs : List Int) (ND : List NodeT) (Ls : Nat → List Int → Prop) (i : Nat) (at' : Nat) : Prop :=
  ∀ (R : Nat → Nat) (w : World), NetQ B0 R lo w nb bs ND Ls → Calls Tryz.prog 34 #[.pointer (some ⟨nb, 0, none⟩), .int .i64 (i : Int), .int .i64 (at' : Int)] w fun e w' => LG B0 lo nb bs ND Ls R w (LiveS (Ls i) bs at') e w'
def LvG (B0 : Nat) (lo : Nat → Nat → Option Int) (nb : Nat) (bs : List Int) (ND : List NodeT) (Ls : Nat → List Int → Prop) (R : Nat → Nat) (w : World) (i : Nat) (w' : World) : Prop :=
  ∃ R', Hid (NetQ B0 R' lo w' nb bs ND Ls) ∧ Hid (RX R R' w) ∧ Hid (RK R w w') ∧ Hid (∃ d, d < w'.heap.size ∧ R' d = 11 + 3 * i)
set_option linter.unusedSimpArgs false in
set_option maxRecDepth 100000 in
set_option maxHeartbeats 4000000 in
theorem liveD_is (B0 : Nat) (lo : Nat → Nat → Option Int) (nb : Nat) (bs : List Int) (ND : List NodeT) (Ls : Nat → List Int → Prop) (i : Nat) (hin : i < ND.length) (hsome : ∃ u, Ls i u) (hlo : ∀ y, lo i y = none) (hW : ∀ at', at' < bs.length → WithinC B0 (openL lo i at') nb bs ND Ls i at') : LiveC B0 lo nb bs ND Ls i := by
  intro R w at' hat hq
  have HW := hide1 hW
  have HQ := hide1 hq
  have HLO := hide1 hlo
  have HIN := hide1 hin
  have HSO := hide1 hsome
  obtain ⟨a0, capB, hB, lB, lN, _⟩ := hq.bytes
  obtain ⟨bl, cl, vl, k1, k2, k3, k4, c1, z1, hvl⟩ := hq.lv0 hin
  have HKL := hide1 k1
  obtain ⟨n, hn⟩ : ∃ n, bs.length = n := ⟨_, rfl⟩
  obtain ⟨N, hN⟩ : ∃ N, ND.length = N := ⟨_, rfl⟩
  have HN := hide1 hn
  have HNN := hide1 hN
  rw [hn] at hB lB lN hat
  rw [hN] at k1 k2 hin
  have gi : (i : Int) < (N : Int) := by omega
  have ga : (at' : Int) < (n : Int) + 1 := by omega
  have hmk := run_makeZ (n + 1) (by omega)
  have e2 : ((n + 1 : Nat) : Int) = (n : Int) + 1 := by omega
  rw [e2] at hmk
  have hnil : ∀ (w : World) (a : Option Addr) (n c : Nat), (binOp .eql 46 (.slice a n c) (.slice none 0 0)).run Tryz.prog w = .ok (.bool a.isNone) w := fun w a n c => Lib.run_eql_slice_nil w _ _ a n c 0 0 Tryz.underlying46
  obtain ⟨hb, HHB⟩ : ∃ hb : Bool, Hid ((hb = true ∧ vl = .slice none 0 0) ∨ (hb = false ∧ ∃ g, vl = .slice (some ⟨g, 0, none⟩) (n + 1) (n + 1) ∧ R g = 11 + 3 * i ∧ g < w.heap.size)) := by
    rcases hvl with ⟨e, _⟩ | ⟨g, e, h1, h2, _⟩
    · exact ⟨true, .inl ⟨rfl, e⟩⟩
    · exact ⟨false, .inr ⟨rfl, g, by rw [← hn]; exact e, h1, h2⟩⟩
  clear hW hq hlo hsome hn hN e2 hvl
  go_enter Tryz.func21, Tryz.ntmps21
  by_cases han : at' = n
  · have b1 : ((at' : Int) == (n : Int)) = true := by simp [han]
    have HAN : Hid (at' = bs.length) := han.trans HN.out.symm
    clear han
    go_wp2_with fail
    go_ret
    exact ⟨R, true, rfl, ⟨fun _ => live_end HSO.out HAN.out, fun _ => rfl⟩, HQ, RK.of (Kept.refl w), RX.refl R w⟩
  have b1 : ((at' : Int) == (n : Int)) = false := by simp; omega
  have HAL : Hid (at' < bs.length) := by rw [HN.out]; show _ < _; omega
  clear han
  go_upto_region 3 with fail
  go_cut [21] from 14 to 20 (fun c wx => c = .bool hb ∧ wx = w)
  case first =>
    rcases HHB.out with ⟨rfl, rfl⟩ | ⟨rfl, g, rfl, _, _⟩
    · go_wp2_with fail
      go_meet
      exact ⟨rfl, rfl⟩
    · go_wp2_with fail
      go_meet
      exact ⟨rfl, rfl⟩
  case rest =>
   obtain ⟨rfl, hw0⟩ := hcut
   have hw0 := hw0.symm
   subst hw0
   go_upto_if 21 with fail
   go_cut [6] from 22 to 34 (fun c wx => c = .bool false ∧ ∃ w1, w1 = wx ∧ LvG B0 lo nb bs ND Ls R w i w1)
   case first =>
    rcases HHB.out with ⟨rfl, rfl⟩ | ⟨rfl, g, rfl, hrg, hlg⟩
    · have y1 : (w.alloc (.cells (zerV (n + 1)).toArray 3)).cell? ⟨bl, i, none⟩ = some (.slice none 0 0) := grown_cell ((Kept.refl w).alloc _ _) c1
      have y2 : (w.alloc (.cells (zerV (n + 1)).toArray 3)).cell? ⟨nb, 5, none⟩ = some (.slice (some ⟨bl, 0, none⟩) N cl) := grown_cell ((Kept.refl w).alloc _ _) k1
      have y3 : (w.alloc (.cells (zerV (n + 1)).toArray 3)).frozen? ⟨bl, i, none⟩ = false := kept_free ((Kept.refl w).alloc _ _) k4 z1
      go_upto_region 4 with fail
      go_region
      clear y1 y2 y3
      obtain ⟨W1, hW1⟩ : ∃ W1, ((w.setCell ⟨bl, i, none⟩ (.slice (some ⟨w.heap.size, 0, none⟩) (n + 1) (n + 1))).alloc (.cells (zerV (n + 1)).toArray 3)).drew = W1 := ⟨_, rfl⟩
      obtain ⟨m1, m2, m3, m4, m5, m6, m7⟩ := mk_step k4 hW1
      rw [hW1]
      have HMK : Hid (∃ R', NetQ B0 R' lo W1 nb bs ND Ls ∧ RX R R' w ∧ RK R w W1 ∧ ∃ d, d < W1.heap.size ∧ R' d = 11 + 3 * i) := HQ.out.lvmake HKL.out HLO.out m1 ⟨m5, m6, m7⟩ (by rw [HN.out]; exact m2) (by rw [HN.out]; exact m4) m3
      clear m1 m2 m3 m4 m5 m6 m7 hW1
      go_wp2_with fail
      go_meet
      obtain ⟨R', x1, x2, x3, x4⟩ := HMK.out
      exact ⟨rfl, _, rfl, R', x1, x2, x3, x4⟩
    · go_wp2_with fail
      go_meet
      exact ⟨rfl, _, rfl, R, HQ, RX.refl R w, RK.of (Kept.refl w), ⟨g, hlg, hrg⟩⟩
   case rest =>
    obtain ⟨rfl, w1, hw1, R1, HQ1, HX1, HK1, HD1⟩ := hcut
    subst hw1
    clear c1 z1 k1 k2 k3 k4 hB lB HHB HKL hmk hnil
    obtain ⟨bl, cl, vl, k1, k2, k3, k4, c1, z1, hvl⟩ := HQ1.out.lv0 HIN.out
    have HKL := hide1 k1
    obtain ⟨g, e, hrg, hlg, hng, hbg, hcell⟩ := hvl.resolve_left (fun h => by obtain ⟨d, _, hd⟩ := HD1.out; exact h.2 d hd)
    subst e
    obtain ⟨x, v1, v2, hx⟩ := hcell at' (Nat.le_of_lt HAL.out)
    have HC1 := hide1 c1
    have HRG := hide1 hrg
    rw [HN.out] at c1
    rw [HNN.out] at k1 k2
    rw [HLO.out] at hx
    have hx : x = 0 ∨ (x = 1 ∧ ¬ LiveS (Ls i) bs at') ∨ (x = 2 ∧ LiveS (Ls i) bs at') := hx
    clear hcell hvl z1 hlg hrg
    rcases hx with e | ⟨e, hP⟩ | ⟨e, hP⟩
    · subst e
      have HS1 := hide1 (HQ1.out.lvset (lo' := openL lo i at') (at' := at') (x := 1) HIN.out HKL.out HC1.out HRG.out (fun j y h => if_neg h) (by show LvOk (openL lo i at' i at') _ _; unfold openL; rw [if_pos ⟨rfl, rfl⟩]; rfl))
      go_upto_region 7 with fail
      obtain ⟨w2, hw2⟩ : ∃ w2, w1.setCell ⟨g, at', none⟩ (.int .i64 1) = w2 := ⟨_, rfl⟩
      rw [hw2] at HS1 ⊢
      have HS2 : Hid (w2.heap.size = w1.heap.size) := by rw [← hw2]; show _ = _; simp [World.setCell]
      clear hw2 v1 v2 c1 k1 k2 k3 k4 hng hbg HC1 HKL
      go_upto_if 58 with (go_at_call 34; refine ((HW.out at' HAL.out) R1 w2 HS1.out.1).mono ?_; rintro e w3 ⟨R3, b3, rfl, HB3, HQ3, HK3, HX3⟩)
      obtain ⟨bl, cl, vl, k1, k2, k3, k4, c1, z1, hvl⟩ := HQ3.out.lv0 HIN.out
      have HKL := hide1 k1
      obtain ⟨g, e, hrg, hlg, hng, hbg, hcell⟩ := hvl.resolve_left (fun h => by
        obtain ⟨d, hd1, hd⟩ := HD1.out
        exact h.2 d ((HX3.out d (by rw [HS2.out]; exact hd1)).trans hd))
      subst e
      obtain ⟨x, v1, v2, hx⟩ := hcell at' (Nat.le_of_lt HAL.out)
      have e1 : x = 1 := by
        have h : LvOk (openL lo i at' i at') (LiveS (Ls i) bs at') x := hx
        unfold openL at h
        rw [if_pos ⟨rfl, rfl⟩] at h
        exact h
      subst e1
      have HC1 := hide1 c1
      have HRG := hide1 hrg
      rw [HN.out] at c1
      rw [HNN.out] at k1 k2
      have HK4 : Hid (RK R w w3) := (HK1.out.trans HX1.out HS1.out.2).trans HX1.out HK3.out
      have HX4 : Hid (RX R R3 w) := HX1.out.trans HK1.out.size (fun d hd => HX3.out d (by rw [HS2.out]; exact hd))
      clear hcell hvl z1 hlg hrg hx
      cases b3
      · have HP : Hid (¬ LiveS (Ls i) bs at') := fun h => by have := HB3.out.2 h; simp at this
        have HQ4 : Hid (NetQ B0 R3 lo w3 nb bs ND Ls) := HQ3.out.lvshut (fun j y x h => by
          by_cases e : j = i ∧ y = at'
          · unfold openL at h
            rw [if_pos e] at h
            have h : x = 1 := h
            obtain ⟨rfl, rfl⟩ := e
            rw [HLO.out]
            exact .inr (.inl ⟨h, HP.out⟩)
          · unfold openL at h
            rw [if_neg e] at h
            exact h)
        go_wp2_with fail
        go_ret
        exact ⟨R3, false, rfl, ⟨fun e => absurd e (by simp), fun h => absurd h HP.out⟩, HQ4, HK4, HX4⟩
      · have HP : Hid (LiveS (Ls i) bs at') := HB3.out.1 (by first | rfl | trivial)
        have HS4 := hide1 (HQ3.out.lvset (lo' := lo) (at' := at') (x := 2) HIN.out HKL.out HC1.out HRG.out (fun j y h => (if_neg h).symm) (by rw [HLO.out]; exact .inr (.inr ⟨rfl, HP.out⟩)))
        have y1 : (w3.setCell ⟨g, at', none⟩ (.int .i64 2)).cell? ⟨nb, 5, none⟩ = some (.slice (some ⟨bl, 0, none⟩) N cl) := (World.cell?_of_block (a := ⟨nb, 5, none⟩) (heap_put hng)).trans k1
        have y2 : (w3.setCell ⟨g, at', none⟩ (.int .i64 2)).cell? ⟨bl, i, none⟩ = some (.slice (some ⟨g, 0, none⟩) (n + 1) (n + 1)) := (World.cell?_of_block (a := ⟨bl, i, none⟩) (heap_put hbg)).trans c1
        go_wp2_with fail
        go_ret
        exact ⟨R3, true, rfl, ⟨fun _ => HP.out, fun _ => rfl⟩, HS4.out.1, HK4.out.trans HX4.out HS4.out.2, HX4⟩
    · subst e
      have HP := hide1 hP
      clear hP
      go_wp2_with fail
      go_ret
      exact ⟨R1, false, rfl, ⟨fun e => absurd e (by simp), fun h => absurd h HP.out⟩, HQ1, HK1, HX1⟩
    · subst e
      have HP := hide1 hP
      clear hP
      go_wp2_with fail
      go_ret
      exact ⟨R1, true, rfl, ⟨fun _ => HP.out, fun _ => rfl⟩, HQ1, HK1, HX1⟩

end Ex
end Go.Proofs.YtlgojnodhbmlkaaGreatDoor
