import Derived.Test.YtfajoknacfjedaaGreatDoorMExO9
import Derived.Deep.DeepMust
import Derived.Deep.Cut
import Derived.BigQuiet
import Derived.OwnWalk
import Derived.Test.YtfajoknacfjedaaGreatDoorMExOa
import Derived.Deep.MidRow
import Derived.Deep.RegionHeld3
namespace Go.Proofs.YtfajoknacfjedaaGreatDoor
open Go.RowKit
attribute [local go_sem] Oper.semAt_some
namespace Ex
open Sh

/-- A list of patterns that fills a row of its own, in S. -/
def RowX (S : Nat → Prop) (w : World) (x : SlV) : Prop := ∃ (g : Nat) (ys : List ExM), x.1 = some ⟨g, 0, none⟩ ∧ S g ∧ (0 < x.2.1 ∧ x.2.1 ≤ 4096) ∧ LO exE w 0 (val x) ys
/-- Such lists, each apart. -/
def LstX (S : Nat → Prop) (w : World) (L : List SlV) : Prop := (∀ x ∈ L, RowX S w x) ∧ L.Pairwise (fun x y => x.1 ≠ y.1)
theorem RowX.kept {S S' : Nat → Prop} {w w' : World} {x : SlV} (h : RowX S w x) (hk : Kept w w') (hS : ∀ d, S d → S' d) : RowX S' w' x := by
  obtain ⟨g, ys, h1, h2, h3, h4⟩ := h
  exact ⟨g, ys, h1, hS g h2, h3, h4.keep hk⟩
theorem LstX.kept {S S' : Nat → Prop} {w w' : World} {L : List SlV} (h : LstX S w L) (hk : Kept w w') (hS : ∀ d, S d → S' d) : LstX S' w' L := ⟨fun x hx => (h.1 x hx).kept hk hS, h.2⟩
theorem LstX.nil (S : Nat → Prop) (w : World) : LstX S w [] := ⟨fun _ h => by simp at h, List.Pairwise.nil⟩
theorem LstX.append {S S1 S2 : Nat → Prop} {w : World} {L1 L2 : List SlV} (h1 : LstX S1 w L1) (h2 : LstX S2 w L2) (hd : ∀ d, S1 d → ¬ S2 d) (hS1 : ∀ d, S1 d → S d) (hS2 : ∀ d, S2 d → S d) : LstX S w (L1 ++ L2) := by
  refine ⟨fun x hx => ?_, List.pairwise_append.2 ⟨h1.2, h2.2, fun x hx y hy e => ?_⟩⟩
  · rcases List.mem_append.1 hx with h | h
    · exact (h1.1 x h).kept (Kept.refl w) hS1
    · exact (h2.1 x h).kept (Kept.refl w) hS2
  · obtain ⟨g, _, e1, s1, _⟩ := h1.1 x hx
    obtain ⟨g', _, e2, s2, _⟩ := h2.1 y hy
    rw [e1, e2] at e
    injection e with e
    injection e with e
    subst e
    exact hd _ s1 s2
/-- How many lists there are. -/
def cntL : (n : Nat) → List (PatN n) → Nat
  | 0, _ => 0
  | n + 1, l => if l = [] then 0 else 1 + (l.map fun q => cntL n (kids q)).sum
theorem cnt_sizes : ∀ (n : Nat) (l : List (PatN n)), (cntL n l : Int) ≤ sizesP n l
  | 0, l => by rw [none_of l]; exact Int.le_refl 0
  | n + 1, l => by
    by_cases hl : l = []
    · subst hl; exact Int.le_refl 0
    · have h1 : ∀ l : List (PatN (n + 1)), (((l.map fun q => cntL n (kids q)).sum : Nat) : Int) + l.length ≤ sizesP (n + 1) l := by
        intro l
        induction l with
        | nil => exact Int.le_refl 0
        | cons q l ih =>
          have h2 := cnt_sizes n (kids q)
          have h3 := size_succ q
          show _ ≤ sizeP (n + 1) q + sizesP (n + 1) l
          simp only [List.map_cons, List.sum_cons, List.length_cons]
          omega
      have h2 := h1 l
      have h3 := List.length_pos_iff.2 hl
      have h4 : cntL (n + 1) l = 1 + (l.map fun q => cntL n (kids q)).sum := by rw [cntL, if_neg hl]
      omega
theorem sum_take_le {α : Type} (f : α → Nat) : ∀ (l : List α) (j : Nat), ((l.take j).map f).sum ≤ (l.map f).sum
  | [], j => by simp
  | x :: l, 0 => by simp
  | x :: l, j + 1 => by
    have := sum_take_le f l j
    simp only [List.take_succ_cons, List.map_cons, List.sum_cons]
    omega
theorem sum_take_step {α : Type} (f : α → Nat) {l : List α} {j : Nat} {q : α} (h : l[j]? = some q) : ((l.take (j + 1)).map f).sum = ((l.take j).map f).sum + f q := by
  rw [List.take_add_one, h]
  simp
/-- What lists answers: so many lists, each in a row of its own. -/
def ListsR (w : World) (S : Nat → Prop) (k : Nat) (e : Ending) (w' : World) : Prop := ∃ (a : Option Addr) (m c : Nat) (L : List SlV), e = .returned (.slice a m c) ∧ L.length = m ∧ LO xlE w' w.heap.size (.slice a m c) L ∧ LstX S w' L ∧ m = k ∧ Kept w w'
theorem kept_none {w w' : World} (h : w.grownBy w' none) : Kept w w' := ⟨h.os, h.tape, h.output, h.size, fun k hk => h.block k hk (by simp)⟩
theorem LstX.grown {S : Nat → Prop} {w w' : World} {L l : List SlV} {base : Nat} {v : Value} (h : LstX S w L) (hS : ∀ d, S d → d < base) (ho : LO xlE w base v l) (hg : w.grownBy w' v.ownBlock) : LstX S w' L := by
  refine ⟨fun x hx => ?_, h.2⟩
  obtain ⟨g, ys, h1, h2, h3, h4⟩ := h.1 x hx
  refine ⟨g, ys, h1, h2, h3, h4.same (fun d hd => hg.block d (h4.lt' d hd).2 (fun e => ?_))⟩
  have h7 := (ho.lt' d e.symm).1
  have h8 : d = g := by unfold val at hd; rw [h1] at hd; simp only [Value.ownBlock, Option.some.injEq] at hd; exact hd.symm
  have h9 := hS g h2
  omega
theorem kept_grownX {w0 w w' : World} {l : List SlV} {base : Nat} {v : Value} (h : Kept w0 w) (ho : LO xlE w base v l) (hb : w0.heap.size ≤ base) (hg : w.grownBy w' v.ownBlock) : Kept w0 w' :=
  ⟨hg.os.trans h.1, hg.tape.trans h.2.1, hg.output.trans h.2.2.1, Nat.le_trans h.2.2.2.1 hg.size, fun k hk => (hg.block k (Nat.lt_of_lt_of_le hk h.2.2.2.1) (fun e => by have := (ho.lt' k e.symm).1; omega)).trans (h.2.2.2.2 k hk)⟩
theorem lo_lowX {w : World} {base base' : Nat} {v : Value} {l : List SlV} (h : LO xlE w base v l) (hb : base' ≤ base) : LO xlE w base' v l := by
  refine ⟨h.1, ?_⟩
  rcases h.2 with h0 | ⟨g, cap, cur, e, hg, rest⟩
  · exact .inl h0
  · exact .inr ⟨g, cap, cur, e, Nat.le_trans hb hg, rest⟩
set_option linter.unusedSimpArgs false in
set_option maxRecDepth 100000 in
set_option maxHeartbeats 4000000 in
theorem lists_nil {n : Nat} (p : PatN (n + 1)) (a : Option Addr) (cap : Nat) (w : World) : Calls Tryz.prog 18 #[valOf p (.slice a 0 cap)] w fun e w' => e = .returned (.slice none 0 0) ∧ Kept w w' := by
  rw [valOf_eq]
  go_enter Tryz.func18, Tryz.ntmps18
  have HB0 := hide1 (BoxAt.new w (.int .i64 (kind p)) (.int .i64 (from_ p)) (.int .i64 (to_ p)) (.int .i64 (min_ p)) (.int .i64 (max_ p)) (.slice a 0 cap))
  go_wp2_with fail
  go_loopw [3, 4] (fun v i wr => v = .slice none 0 0 ∧ i = .int .i64 0 ∧ Hid (Kept (w.alloc (.cells #[.int .i64 (kind p), .int .i64 (from_ p), .int .i64 (to_ p), .int .i64 (min_ p), .int .i64 (max_ p), .slice a 0 cap] 24)) wr)) (fun _ i _ => 0)
  case atStart => exact ⟨rfl, rfl, Kept.refl _⟩
  case round =>
    obtain ⟨rfl, rfl, hk⟩ := hrel
    obtain ⟨⟨p0, p1, p2, p3, p4, p5⟩, _⟩ := (HB0.out.keep hk.out).facts
    go_wp2_with fail
    go_ret
    exact ⟨rfl, gtrans ((Kept.refl w).alloc _ _) hk.out⟩
set_option linter.unusedSimpArgs false in
set_option maxRecDepth 100000 in
set_option maxHeartbeats 8000000 in

theorem lists_is : ∀ (n : Nat) (S : Nat → Prop) (p : PatN (n + 1)) (v' : Value) (w : World), KidsO S w n (kids p) v' → sizesP n (kids p) ≤ 4096 →
    Calls Tryz.prog 18 #[valOf p v'] w fun e w' => ListsR w S (cntL n (kids p)) e w'
  | 0, S, p, v', w, ⟨a, cap, hv⟩, hc => by
    subst hv
    refine (lists_nil p a cap w).mono ?_
    rintro e w' ⟨rfl, hk⟩
    exact ⟨none, 0, 0, [], rfl, rfl, LO.nil _ _, LstX.nil _ _, rfl, hk⟩
  | n + 1, S, p, v', w, hK, hc => by
    by_cases hl : kids p = []
    · obtain ⟨a, cap, hv, _⟩ := hK
      rw [hl] at hv
      subst hv
      refine (lists_nil p a cap w).mono ?_
      rintro e w' ⟨rfl, hk⟩
      exact ⟨none, 0, 0, [], rfl, rfl, LO.nil _ _, LstX.nil _ _, by rw [hl]; rfl, hk⟩
    · obtain ⟨c2, N2, cap2, ys, hv2, -, hN2, hlo⟩ := KidsO.lo hK hl
      clear hv2 hN2 c2 N2 cap2
      obtain ⟨a, cap, hv, hlc, hl44, hor⟩ := KidsO.tight _ _ _ hK
      obtain ⟨c, cur, F, rfl, hSc, hg, hcm, hcs, f1, f2, hq⟩ := hor.resolve_left hl
      have HQ := hide1 hq
      have HF1 := hide1 f1
      have HF2 := hide1 f2
      have HSZ := hide1 hc
      have hc : cntL (n + 1) (kids p) ≤ 1000000 := by have := cnt_sizes (n + 1) (kids p); have := HSZ.out; omega
      have hN40 : (kids p).length ≤ 4096 := by have := sizes_len (kids p); have := HSZ.out; omega
      have HCN : Hid (cntL (n + 1) (kids p) = 1 + ((kids p).map fun q => cntL n (kids q)).sum) := by show cntL (n + 1) (kids p) = _; rw [cntL, if_neg hl]
      have HREC := hide1 (fun S' => lists_is n S')
      obtain ⟨l, hll⟩ : ∃ l, kids p = l := ⟨_, rfl⟩
      rw [hll] at hv hlc hl44 HQ HCN hc hl HSZ hN40
      rw [hll]
      obtain ⟨N, hN⟩ : ∃ N, l.length = N := ⟨_, rfl⟩
      rw [hN] at hv hlc hl44 hN40
      have HN := hide1 hN
      have hN0 : 0 < N := by have := List.length_pos_iff.2 hl; omega
      have HCC : Hid (cntL (n + 1) l ≤ 1000000) := hc
      have HROW : Hid (RowX (fun d => d = c) w (some ⟨c, 0, none⟩, N, cap)) := ⟨c, ys, rfl, rfl, ⟨hN0, hN40⟩, by rw [hv] at hlo; exact hlo⟩
      have HSC := hide1 hSc
      have gN : (N : Int) ≤ (cap : Int) := by omega
      have hNI : (0 : Int) < (N : Int) := by omega
      subst hv
      clear hK hq f1 f2 hg hcm hcs hc hl hN hor hSc hlo hN40
      rw [valOf_eq]
      go_enter Tryz.func18, Tryz.ntmps18
      obtain ⟨W0, hW0⟩ : ∃ W0, w.alloc (.cells #[.int .i64 (kind p), .int .i64 (from_ p), .int .i64 (to_ p), .int .i64 (min_ p), .int .i64 (max_ p), .slice (some ⟨c, 0, none⟩) N cap] 24) = W0 := ⟨_, rfl⟩
      have HB0 := hide1 (BoxAt.new w (.int .i64 (kind p)) (.int .i64 (from_ p)) (.int .i64 (to_ p)) (.int .i64 (min_ p)) (.int .i64 (max_ p)) (.slice (some ⟨c, 0, none⟩) N cap))
      have HK0 : Hid (Kept w W0) := by rw [← hW0]; exact (Kept.refl w).alloc _ _
      have hs0 : W0.heap.size = w.heap.size + 1 := by rw [← hW0]; simp
      have HS0 := hide1 hs0
      rw [hW0] at HB0
      clear hs0
      go_upto_region 2 with fail
      try rw [hW0]
      clear hW0
      obtain ⟨⟨p0, p1, p2, p3, p4, p5⟩, -⟩ := HB0.out.facts
      go_upto_region 4 with (at_builtin; go_must (refine wpl_lo (E := xlE) rfl _ _ rfl W0.heap.size (.slice none 0 0) [] 0 rfl (by rfl) (LO.nil _ _) W0.heap.size (some ⟨c, 0, none⟩, N, cap) (by rfl) (heap_alloc_new W0 _) (by show (0 + 1) * 24 ≤ 140737488355328; omega) (by unfold maxLen; omega) (((Kept.refl W0).alloc #[.slice (some ⟨c, 0, none⟩) N cap] 22).size) ?_; intro g1 c1 w1 ho1 hg1 hor1 hlt1; have HO1 := hide1 ho1; have HK1 : Hid (Kept W0 w1) := gtrans ((Kept.refl W0).alloc _ _) (kept_none hg1); clear ho1 hg1 hor1 hlt1))
      have HX1 : Hid (LstX (fun d => d = c ∨ ∃ i, i < 0 ∧ F i d) w1 [(some ⟨c, 0, none⟩, N, cap)]) := ⟨fun x hx => by rw [List.mem_singleton.1 hx]; exact HROW.out.kept (gtrans HK0.out HK1.out) (fun d h => Or.inl h), List.pairwise_singleton _ _⟩
      clear p0 p1 p2 p3 p4 p5
      go_wp2_with fail
      go_loopw [3, 4] (fun v i wr => ∃ (j m : Nat) (L : List SlV) (aO : Option Addr) (cO : Nat), v = .slice aO m cO ∧ i = .int .i64 (j : Int) ∧ j ≤ N ∧ Hid (L.length = m) ∧ Hid (LO xlE wr W0.heap.size (.slice aO m cO) L) ∧ Hid (LstX (fun d => d = c ∨ ∃ i, i < j ∧ F i d) wr L) ∧ Hid (m = 1 + ((l.take j).map (fun q => cntL n (kids q))).sum) ∧ Hid (Kept W0 wr)) (fun _ i _ => N - (intOf i).toNat)
      case atStart => exact ⟨0, 1, [(some ⟨c, 0, none⟩, N, cap)], _, _, rfl, rfl, by omega, by show _ = _; rfl, HO1, HX1, by show 1 = _; simp, HK1⟩
      case round =>
        clear HX1 HO1
        obtain ⟨j, m, L, aO, cO, rfl, rfl, hj, hL, hO, hX, hm, hK⟩ := hrel
        obtain ⟨⟨p0, p1, p2, p3, p4, p5⟩, -⟩ := (HB0.out.keep hK.out).facts
        by_cases hlt : (j : Int) < (N : Int)
        · obtain ⟨q, hqj⟩ : ∃ q, l[j]? = some q := ⟨_, List.getElem?_eq_getElem (by have := HN.out; omega)⟩
          obtain ⟨u, g0, g1, g2, g3, g4, g5, g6⟩ := HQ.out j q hqj
          have hkw := gtrans HK0.out hK.out
          obtain ⟨au, cu, rfl⟩ := g6.form
          have r0 := grown_cell hkw g0
          have r1 := grown_cell hkw g1
          have r2 := grown_cell hkw g2
          have r3 := grown_cell hkw g3
          have r4 := grown_cell hkw g4
          have r5 := grown_cell hkw g5
          have HQJ := hide1 (g6.kept hkw)
          have hjc : (j : Int) < (cap : Int) := by omega
          have HSTEP := hide1 (sum_take_step (fun q => cntL n (kids q)) hqj)
          have HCJ : Hid (sizesP n (kids q) ≤ 4096 ∧ m + cntL n (kids q) ≤ 1000000) := by
            have h1 := HSTEP.out
            have h2 := sum_take_le (fun q => cntL n (kids q)) l (j + 1)
            have h3 := HCN.out
            have h4 := HCC.out
            have h5 := hm.out
            have h6 := sizes_mem (List.mem_of_getElem? hqj)
            have h7 := size_succ q
            have h8 := HSZ.out
            exact ⟨by omega, by omega⟩
          clear g0 g1 g2 g3 g4 g5 g6 hkw hqj
          go_wp2_with (first
            | (go_at_call 18; go_must (have hrec := HREC.out (F j) q (.slice au (kids q).length cu) wr HQJ.out HCJ.out.1; rw [valOf_eq] at hrec; refine hrec.mono ?_; rintro e w7 ⟨a7, m7, c7, L7, rfl, hl7, ho7, hx7, hm7, hk7⟩; clear hrec; have HL7 := hide1 hl7; have HO7 := hide1 ho7; have HX7 := hide1 hx7; have HM7 := hide1 hm7; have HK7 := hide1 hk7; have hb7 : m + m7 ≤ 1000000 := (by have := HCJ.out.2; omega); clear hl7 ho7 hx7 hm7 hk7))
            | (at_builtin; go_must (refine wpl_many (E := xlE) rfl _ _ rfl W0.heap.size (.slice aO m cO) L L7 m m7 (m + m7) hL.out HL7.out rfl (by rfl) (hO.out.keep HK7.out) a7 c7 (by rfl) HO7.out.src (by show (m + m7) * 24 ≤ 140737488355328; omega) (by unfold maxLen; omega) (gtrans hK.out HK7.out).size ?_; intro a8 c8 w8 ho8 hg8 hor8; have HO8 := hide1 ho8; have HK8 : Hid (Kept W0 w8) := kept_grownX (gtrans hK.out HK7.out) (hO.out.keep HK7.out) (Nat.le_refl _) hg8; have HX8 : Hid (LstX (fun d => d = c ∨ ∃ i, i < j + 1 ∧ F i d) w8 (L ++ L7)) := LstX.grown (LstX.append (hX.out.kept HK7.out (fun _ h => h)) HX7.out (fun d h1 h2 => by rcases h1 with h1 | ⟨i, hi, h1⟩; exact (HF1.out j d h2).2 h1; exact absurd (HF2.out i j d h1 h2) (by omega)) (fun d h => by rcases h with h | ⟨i, hi, h⟩; exact Or.inl h; exact Or.inr ⟨i, by omega, h⟩) (fun d h => Or.inr ⟨j, by omega, h⟩)) (base := W0.heap.size) (fun d h => by have h9 := HS0.out; rcases h with h | ⟨i, hi, h⟩; subst h; have := HSC.out.2; omega; have := (HF1.out i d h).1.2; omega) (hO.out.keep HK7.out) hg8; clear ho8 hg8 hor8)))
          go_roundw
          case rel => exact ⟨j + 1, m + m7, L ++ L7, a8, c8, by go_num, by go_num, by omega, by show _ = _; rw [List.length_append, hL.out, HL7.out], HO8, HX8, by show _ = _; rw [HSTEP.out, HM7.out]; have := hm.out; omega, HK8⟩
          case measure => simp [intOf]; omega
        · obtain rfl : j = N := by omega
          go_wp2_with fail
          go_ret
          exact ⟨aO, m, cO, L, rfl, hL.out, lo_lowX hO.out (HK0.out.size), hX.out.kept (Kept.refl _) (fun d h => by rcases h with h | ⟨i, _, h⟩; subst h; exact HSC.out.1; exact (HF1.out i d h).1.1), by rw [HCN.out, hm.out, ← HN.out, List.take_length], gtrans HK0.out hK.out⟩

end Ex
end Go.Proofs.YtfajoknacfjedaaGreatDoor
namespace Go.Proofs.YtfajoknacfjedaaGreatDoor
open Go.RowKit
attribute [local go_sem] Oper.semAt_some
namespace Ex
open Sh

theorem set_self {w : World} {g o : Nat} {v : Value} (h : w.cell? ⟨g, o, none⟩ = some v) : w.setCell ⟨g, o, none⟩ v = w := by
  unfold World.cell? at h
  split at h
  · rename_i c t fr hg
    simp only [Option.isSome_none, Bool.false_eq_true, if_false] at h
    have hl : g < w.heap.size := (Array.getElem?_eq_some_iff.1 hg).1
    have hc : c.setIfInBounds o v = c := by
      apply Array.ext_getElem?
      intro i
      rw [Array.getElem?_setIfInBounds]
      by_cases hi : o = i
      · subst hi
        have hs := (Array.getElem?_eq_some_iff.1 h).1
        rw [if_pos rfl, if_pos hs, h]
      · rw [if_neg hi]
    have hh : (w.setCell ⟨g, o, none⟩ v).heap = w.heap := by
      apply Array.ext_getElem?
      intro i
      by_cases hi : i = g
      · subst hi
        rw [hg]
        have he : w.heap[i] = Obj.cells c t fr := by rw [Array.getElem?_eq_getElem hl] at hg; exact Option.some.inj hg
        simp [World.setCell, Array.getElem_modify, hl, he, hc]
      · exact Below.heap_setCell _ _ _ _ hi
    show { w with heap := (w.setCell ⟨g, o, none⟩ v).heap } = w
    rw [hh]
  · cases h
theorem tu_apart {mrk ap : Nat → Nat → ExM} {vs xs : List SlV} {w0 w w' : World} {nM cM gM : Nat} {cnt : Nat → Nat} {C D : Nat → List ExM} {b g n c : Nat} {l : List ExM} (hT : exE.T ≠ xlE.T) (h : Tu exE xlE mrk ap vs w0 w (.slice (some ⟨gM, 0, none⟩) nM cM) xs cnt C D) (hs : w'.heap[gM]? = w.heap[gM]?) (ho : LO exE w' b (.slice (some ⟨g, 0, none⟩) n c) l) : g ≠ gM := fun e => by
  obtain ⟨ys, h1, _⟩ := h.gl
  subst e
  exact lo_ne ho (h1.same (w' := w') (fun d hd => by simp only [Value.ownBlock, Option.some.injEq] at hd; subst hd; exact hs)) hT rfl rfl
def zeroX : ExM := (0, 0, 0, 0, 0, (none, 0, 0))
/-- The element that is written over list u at s. -/
def mrX (C0 : Nat → List ExM) (u s : Nat) : ExM := (((C0 u)[s]?.getD zeroX).1, ((C0 u)[s]?.getD zeroX).2.1, ((C0 u)[s]?.getD zeroX).2.2.1, 5000 + (u : Int), (s : Int), ((C0 u)[s]?.getD zeroX).2.2.2.2.2)
def apX (u k : Nat) : ExM := (0, 0, 0, -1 - (u : Int), (k : Int), (none, 0, 0))
/-- What is not written over yet. -/
def RestX (C0 C : Nat → List ExM) (vs : List SlV) (i k : Nat) : Prop := ∀ (u : Nat) (x : SlV) (s : Nat), vs[u]? = some x → s < x.2.1 → ¬ (u < i ∨ u = i ∧ s < k) → (C u)[s]? = (C0 u)[s]?
theorem RestX.next {C0 C : Nat → List ExM} {vs : List SlV} {i n : Nat} (h : RestX C0 C vs i n) : RestX C0 C vs (i + 1) 0 := fun u x s hx hs hn => h u x s hx hs (by omega)
theorem fill34 {C0 C : Nat → List ExM} {vs : List SlV} {w : World} {i k g n c : Nat} (h : BagL exE w vs C) (hl : LoneS vs) (hi : vs[i]? = some (some ⟨g, 0, none⟩, n, c)) (hk : k < n) (hr : RestX C0 C vs i k) :
    BagL exE ((w.setCell ⟨g, k * 6 + 3, none⟩ (.int .i64 (5000 + (i : Int)))).setCell ⟨g, k * 6 + 4, none⟩ (.int .i64 (k : Int))) vs (updF C i ((C i).set k (mrX C0 i k))) ∧ RestX C0 (updF C i ((C i).set k (mrX C0 i k))) vs i (k + 1) := by
  have hlo : LO exE w 0 (.slice (some ⟨g, 0, none⟩) n c) (C i) := h i _ hi
  have hlen := lo_lens hlo
  obtain ⟨x, hx⟩ : ∃ x, (C i)[k]? = some x := ⟨_, List.getElem?_eq_getElem (by omega)⟩
  have hx0 : (C0 i)[k]? = some x := by rw [← hr i _ k hi hk (by omega)]; exact hx
  have hm : mrX C0 i k = (x.1, x.2.1, x.2.2.1, 5000 + (i : Int), (k : Int), x.2.2.2.2.2) := by unfold mrX; rw [hx0]; rfl
  refine ⟨?_, fun u y s hy hs hn => ?_⟩
  · have hp := h.put hl hi hk (mrX C0 i k)
    have e : putL w g (k * exE.sz) (exE.enc (mrX C0 i k)) = (w.setCell ⟨g, k * 6 + 3, none⟩ (.int .i64 (5000 + (i : Int)))).setCell ⟨g, k * 6 + 4, none⟩ (.int .i64 (k : Int)) := by
      rw [hm]
      have c0 := hlo.cell (i := k) (j := 0) hx (u := .int .i64 x.1) rfl
      have c1 := hlo.cell (i := k) (j := 1) hx (u := .int .i64 x.2.1) rfl
      have c2 := hlo.cell (i := k) (j := 2) hx (u := .int .i64 x.2.2.1) rfl
      have c5 := hlo.cell (i := k) (j := 5) hx (u := val x.2.2.2.2.2) rfl
      show ((((((w.setCell ⟨g, k * 6 + 0, none⟩ (.int .i64 x.1)).setCell ⟨g, k * 6 + 1, none⟩ (.int .i64 x.2.1)).setCell ⟨g, k * 6 + 2, none⟩ (.int .i64 x.2.2.1)).setCell ⟨g, k * 6 + 3, none⟩ (.int .i64 (5000 + (i : Int)))).setCell ⟨g, k * 6 + 4, none⟩ (.int .i64 (k : Int))).setCell ⟨g, k * 6 + 5, none⟩ (val x.2.2.2.2.2)) = _
      have c0' : w.cell? ⟨g, k * 6 + 0, none⟩ = some (.int .i64 x.1) := c0
      have c1' : w.cell? ⟨g, k * 6 + 1, none⟩ = some (.int .i64 x.2.1) := c1
      have c2' : w.cell? ⟨g, k * 6 + 2, none⟩ = some (.int .i64 x.2.2.1) := c2
      have c5' : w.cell? ⟨g, k * 6 + 5, none⟩ = some (val x.2.2.2.2.2) := c5
      rw [set_self c0', set_self c1', set_self c2']
      exact set_self ((set_other (.inr (by omega))).trans ((set_other (.inr (by omega))).trans c5'))
    rw [e] at hp
    exact hp
  · by_cases hu : u = i
    · subst hu
      rw [updF_same, List.getElem?_set_ne (by omega)]
      exact hr u y s hy hs (by omega)
    · rw [updF_other hu]
      exact hr u y s hy hs (by omega)
theorem app2_put {w w' : World} {v : Value} {m g cap o : Nat} {us : List Value} (h : App2 w w' v m g cap) : App2 w (putL w' g o us) v m g cap := by
  have hp := putL_kt g us w' o
  rcases h with ⟨e1, e2⟩ | ⟨e1, e2⟩
  · exact Or.inl ⟨e1, ⟨hp.1.trans e2.os, hp.2.1.trans e2.tape, hp.2.2.1.trans e2.output, Nat.le_trans e2.size hp.2.2.2.1, fun k hk hn => (hp.2.2.2.2 k (Nat.lt_of_lt_of_le hk e2.size) (fun e => hn (by rw [e]))).trans (e2.block k hk hn)⟩⟩
  · exact Or.inr ⟨e1, ⟨hp.1.trans e2.1, hp.2.1.trans e2.2.1, hp.2.2.1.trans e2.2.2.1, Nat.le_trans e2.2.2.2.1 hp.2.2.2.1, fun k hk => (hp.2.2.2.2 k (Nat.lt_of_lt_of_le hk e2.2.2.2.1) (by omega)).trans (e2.2.2.2.2 k hk)⟩⟩
theorem lst_bag {S : Nat → Prop} {w : World} {L : List SlV} (h : LstX S w L) : ∃ C0 : Nat → List ExM, BagL exE w L C0 ∧ LoneS L ∧ Near L L ∧ (∀ (u : Nat) (x : SlV), L[u]? = some x → x.2.1 ≤ 4096) ∧ ∀ d, InB L d → S d := by
  have h1 : ∀ u : Nat, ∃ ys : List ExM, ∀ x : SlV, L[u]? = some x → LO exE w 0 (val x) ys := fun u => by
    by_cases hu : u < L.length
    · obtain ⟨x, hx⟩ : ∃ x, L[u]? = some x := ⟨_, List.getElem?_eq_getElem hu⟩
      obtain ⟨g, ys, _, _, _, h4⟩ := h.1 x (List.mem_of_getElem? hx)
      exact ⟨ys, fun y hy => by rw [hx] at hy; injection hy with hy; subst hy; exact h4⟩
    · exact ⟨[], fun y hy => absurd (List.getElem?_eq_some_iff.1 hy).1 hu⟩
  refine ⟨fun u => (h1 u).choose, fun u x hx => (h1 u).choose_spec x hx, fun u u' x x' d hx hx' hd hd' => ?_, Near.self _ (fun x hx => ?_), fun u x hx => ?_, fun d hd => ?_⟩
  · obtain ⟨g, ys, e1, _, _, q1⟩ := h.1 x (List.mem_of_getElem? hx)
    obtain ⟨g', ys', e2, _, _, q2⟩ := h.1 x' (List.mem_of_getElem? hx')
    have f1 := val_some q1 hd
    have f2 := val_some q2 hd'
    have hp := List.pairwise_iff_getElem.1 h.2
    obtain ⟨l1, l2⟩ := List.getElem?_eq_some_iff.1 hx
    obtain ⟨l3, l4⟩ := List.getElem?_eq_some_iff.1 hx'
    rcases Nat.lt_trichotomy u u' with h5 | h5 | h5
    · have := hp u u' l1 l3 h5
      rw [l2, l4, f1, f2] at this
      exact absurd rfl this
    · exact h5
    · have := hp u' u l3 l1 h5
      rw [l2, l4, f1, f2] at this
      exact absurd rfl this
  · obtain ⟨g, ys, e1, _, _, q1⟩ := h.1 x hx
    have q1' : LO exE w 0 (.slice x.1 x.2.1 x.2.2) ys := q1
    have := q1'.cap
    rw [lo_lens q1'] at this
    exact this
  · obtain ⟨g, ys, e1, _, h3, q1⟩ := h.1 x (List.mem_of_getElem? hx)
    exact h3.2
  · obtain ⟨u, x, hx, hd⟩ := hd
    obtain ⟨g, ys, e1, h2, _, q1⟩ := h.1 x (List.mem_of_getElem? hx)
    have f1 := val_some q1 hd
    rw [e1] at f1
    injection f1 with f1
    injection f1 with f1
    subst f1
    exact h2
theorem sum_cnt (n : Nat) : ∀ l : List (PatN (n + 1)), (((l.map fun q => cntL n (kids q)).sum : Nat) : Int) ≤ sizesP (n + 1) l
  | [] => Int.le_refl 0
  | q :: l => by
    have h1 := sum_cnt n l
    have h2 := cnt_sizes n (kids q)
    have h3 := size_succ q
    show _ ≤ sizeP (n + 1) q + sizesP (n + 1) l
    simp only [List.map_cons, List.sum_cons]
    omega
theorem lo_rowAt {w : World} {base g n c : Nat} {l : List ExM} (h : LO exE w base (.slice (some ⟨g, 0, none⟩) n c) l) : RowAt w g c ∧ n ≤ c := by
  have hc := h.cap
  rw [lo_lens h] at hc
  rcases h.2 with ⟨e, _⟩ | ⟨g', c', cur, e, _, h3, _, _, h6, _⟩
  · cases e
  · simp only [Value.slice.injEq, Option.some.injEq, Addr.mk.injEq] at e
    obtain ⟨⟨rfl, _⟩, _, rfl⟩ := e
    exact ⟨⟨cur, h3, h6⟩, hc⟩
theorem step_putX {ops : Array Oper} {o : Oper} {a : Act} {K : Act → World → Prop} {Q : Exit → Act → World → Prop} {E : Prop} (hgd : o.guard = none) (x y : Operand) (ho : o.op = .store 24 x y) (W : World) (g N c : Nat) (x0 x1 x2 x3 x4 x5 : Value) (hx : a.eval x = .pointer (some ⟨g, N * 6, none⟩)) (hy : a.eval y = .agg #[x0, x1, x2, x3, x4, x5])
    (hr : RowAt W g c) (hN : N + 1 ≤ c) (h1 : #[x0, x1, x2, x3, x4, x5].all (·.oneCell') = true)
    (h : K (a.put o.dst undef) ((((((W.setCell ⟨g, N * 6, none⟩ x0).setCell ⟨g, N * 6 + 1, none⟩ x1).setCell ⟨g, N * 6 + 2, none⟩ x2).setCell ⟨g, N * 6 + 3, none⟩ x3).setCell ⟨g, N * 6 + 4, none⟩ x4).setCell ⟨g, N * 6 + 5, none⟩ x5)) :
    if Region.wanted o (yielded ops a.tmps) = true then Oper.wp Tryz.prog o a W K Q else E := by
  have hw : Region.wanted o (yielded ops a.tmps) = true := by simp [Region.wanted, hgd]
  rw [if_pos hw]
  obtain ⟨i0, hi, hz0, hz1, hz2⟩ := info_parts expr_info
  refine wp_store_mid 24 x y ho g (N * 6) #[x0, x1, x2, x3, x4, x5] hx hy (fun j hj => ?_) (by rw [hi, Option.map_some, hz1]; rfl) h1 h
  have hj : j < 6 := hj
  have h2 := hr.cell (k := N * 6 + j) (by omega)
  obtain ⟨⟨u, h3⟩, h4⟩ := h2
  exact ⟨by rw [h3]; rfl, h4⟩
theorem step_setX {ops : Array Oper} {o : Oper} {a : Act} {K : Act → World → Prop} {Q : Exit → Act → World → Prop} {E : Prop} (hgd : o.guard = none) (x y : Operand) (ho : o.op = .store 22 x y) (W : World) (b j : Nat) (s : Option Addr) (n c : Nat) (u : Value) (hx : a.eval x = .pointer (some ⟨b, j, none⟩)) (hy : a.eval y = .slice s n c)
    (hc : W.cell? ⟨b, j, none⟩ = some u) (hf : W.frozen? ⟨b, j, none⟩ = false)
    (h : K (a.put o.dst undef) (W.setCell ⟨b, j, none⟩ (.slice s n c))) :
    if Region.wanted o (yielded ops a.tmps) = true then Oper.wp Tryz.prog o a W K Q else E := by
  have hw : Region.wanted o (yielded ops a.tmps) = true := by simp [Region.wanted, hgd]
  rw [if_pos hw]
  unfold Oper.wp execOp
  simp only [ho, hx, hy]
  go_simp
  exact h
theorem oneX (a b c d e : Int) (x : Option Addr) (y z : Nat) : #[Value.int .i64 a, .int .i64 b, .int .i64 c, .int .i64 d, .int .i64 e, .slice x y z].all (·.oneCell') = true :=
  all_oneCell_toArray (cs := [Value.int .i64 a, .int .i64 b, .int .i64 c, .int .i64 d, .int .i64 e, .slice x y z]) (fun v hv => by
    simp only [List.mem_cons, List.not_mem_nil, or_false] at hv
    rcases hv with rfl | rfl | rfl | rfl | rfl | rfl <;> rfl)
theorem put_noneX (a : Act) (v : Value) : a.put none v = a := rfl
theorem heap_putX {w : World} {b k d : Nat} {u : Value} (hd : d ≠ b) : (w.setCell ⟨b, k, none⟩ u).heap[d]? = w.heap[d]? := Below.heap_setCell _ _ _ _ hd
theorem set_swapX (w : World) {g nb o j : Nat} (x v : Value) (h : g ≠ nb) : (w.setCell ⟨nb, j, none⟩ v).setCell ⟨g, o, none⟩ x = (w.setCell ⟨g, o, none⟩ x).setCell ⟨nb, j, none⟩ v := by
  unfold World.setCell
  simp only
  congr 1
  apply Array.ext_getElem?
  intro k
  simp only [Array.getElem?_modify]
  by_cases e1 : g = k
  · subst e1
    have e2 : nb ≠ g := Ne.symm h
    simp [e2]
  · by_cases e2 : nb = k
    · subst e2; simp [e1]
    · simp [e1, e2]
theorem put6_swapX (w : World) {g nb o j : Nat} (x0 x1 x2 x3 x4 x5 v : Value) (h : g ≠ nb) : ((((((w.setCell ⟨nb, j, none⟩ v).setCell ⟨g, o, none⟩ x0).setCell ⟨g, o + 1, none⟩ x1).setCell ⟨g, o + 2, none⟩ x2).setCell ⟨g, o + 3, none⟩ x3).setCell ⟨g, o + 4, none⟩ x4).setCell ⟨g, o + 5, none⟩ x5 = ((((((w.setCell ⟨g, o, none⟩ x0).setCell ⟨g, o + 1, none⟩ x1).setCell ⟨g, o + 2, none⟩ x2).setCell ⟨g, o + 3, none⟩ x3).setCell ⟨g, o + 4, none⟩ x4).setCell ⟨g, o + 5, none⟩ x5).setCell ⟨nb, j, none⟩ v := by
  rw [set_swapX _ _ _ h, set_swapX _ _ _ h, set_swapX _ _ _ h, set_swapX _ _ _ h, set_swapX _ _ _ h, set_swapX _ _ _ h]
/-- The last two of a region that draws its order: a value goes into a row, and the row's slice into a cell. -/
theorem two_storesX {ops : Array Oper} {listed : Array Bool} {a : Act} {Q : Exit → Act → World → Prop} {S : World → Prop} {fuel : Nat} (w9 : World) (i j : Nat) {oi oj : Oper} (hi : ops[i]? = some oi) (hj : ops[j]? = some oj) (r0 : Region.ready .any ops listed = [i, j]) (r1 : Region.ready .any ops (listed.setIfInBounds i true) = [j]) (r2 : Region.ready .any ops (listed.setIfInBounds j true) = [i]) (r3 : Region.ready .any ops ((listed.setIfInBounds i true).setIfInBounds j true) = []) (r4 : Region.ready .any ops ((listed.setIfInBounds j true).setIfInBounds i true) = [])
    (gi : oi.guard = none) (gj : oj.guard = none) (di : oi.dst = none) (dj : oj.dst = none) (x y u v : Operand) (pi : oi.op = .store 24 x y) (pj : oj.op = .store 22 u v)
    (g N c : Nat) (x0 x1 x2 x3 x4 x5 : Value) (nb jb : Nat) (s : Option Addr) (n' c' : Nat) (z : Value) (hx : a.eval x = .pointer (some ⟨g, N * 6, none⟩)) (hy : a.eval y = .agg #[x0, x1, x2, x3, x4, x5]) (hu : a.eval u = .pointer (some ⟨nb, jb, none⟩)) (hv : a.eval v = .slice s n' c')
    (hr : RowAt w9 g c) (hN : N + 1 ≤ c) (h1 : #[x0, x1, x2, x3, x4, x5].all (·.oneCell') = true) (hc : w9.cell? ⟨nb, jb, none⟩ = some z) (hf : w9.frozen? ⟨nb, jb, none⟩ = false) (hne : g ≠ nb)
    (hS1 : S ((((((w9.setCell ⟨g, N * 6, none⟩ x0).setCell ⟨g, N * 6 + 1, none⟩ x1).setCell ⟨g, N * 6 + 2, none⟩ x2).setCell ⟨g, N * 6 + 3, none⟩ x3).setCell ⟨g, N * 6 + 4, none⟩ x4).setCell ⟨g, N * 6 + 5, none⟩ x5)) (hS2 : S (w9.setCell ⟨nb, jb, none⟩ (.slice s n' c'))) (hS3 : S (((((((w9.setCell ⟨g, N * 6, none⟩ x0).setCell ⟨g, N * 6 + 1, none⟩ x1).setCell ⟨g, N * 6 + 2, none⟩ x2).setCell ⟨g, N * 6 + 3, none⟩ x3).setCell ⟨g, N * 6 + 4, none⟩ x4).setCell ⟨g, N * 6 + 5, none⟩ x5).setCell ⟨nb, jb, none⟩ (.slice s n' c')))
    (hfin : Q .normal a (((((((w9.setCell ⟨g, N * 6, none⟩ x0).setCell ⟨g, N * 6 + 1, none⟩ x1).setCell ⟨g, N * 6 + 2, none⟩ x2).setCell ⟨g, N * 6 + 3, none⟩ x3).setCell ⟨g, N * 6 + 4, none⟩ x4).setCell ⟨g, N * 6 + 5, none⟩ x5).setCell ⟨nb, jb, none⟩ (.slice s n' c'))) : wpAnyH Tryz.prog .any ops Q S (fuel + 2) listed a w9 := by
  refine wpAnyH_ready r0 (by simp) ?_
  refine AllReadyH.cons hi ?_ (AllReadyH.cons hj ?_ AllReadyH.nil)
  · intro K hK
    refine step_putX gi x y pi w9 g N c x0 x1 x2 x3 x4 x5 hx hy hr hN h1 ?_
    rw [di, put_noneX]
    refine hK.out _ _ hS1 (fun _ => ?_)
    refine wpAnyH_ready r1 (by simp) ?_
    refine AllReadyH.cons hj ?_ AllReadyH.nil
    intro K2 hK2
    have hb : ((((((w9.setCell ⟨g, N * 6, none⟩ x0).setCell ⟨g, N * 6 + 1, none⟩ x1).setCell ⟨g, N * 6 + 2, none⟩ x2).setCell ⟨g, N * 6 + 3, none⟩ x3).setCell ⟨g, N * 6 + 4, none⟩ x4).setCell ⟨g, N * 6 + 5, none⟩ x5).heap[nb]? = w9.heap[nb]? := (heap_putX (Ne.symm hne)).trans ((heap_putX (Ne.symm hne)).trans ((heap_putX (Ne.symm hne)).trans ((heap_putX (Ne.symm hne)).trans ((heap_putX (Ne.symm hne)).trans (heap_putX (Ne.symm hne))))))
    refine step_setX gj u v pj _ nb jb s n' c' z hu hv ((World.cell?_of_block (a := ⟨nb, jb, none⟩) hb).trans hc) ((World.frozen?_of_block (a := ⟨nb, jb, none⟩) hb).trans hf) ?_
    rw [dj, put_noneX]
    exact hK2.out _ _ hS3 (fun _ => wpAnyH_done r3 hfin _)
  · intro K hK
    refine step_setX gj u v pj w9 nb jb s n' c' z hu hv hc hf ?_
    rw [dj, put_noneX]
    refine hK.out _ _ hS2 (fun _ => ?_)
    refine wpAnyH_ready r2 (by simp) ?_
    refine AllReadyH.cons hi ?_ AllReadyH.nil
    intro K2 hK2
    have hr2 : RowAt (w9.setCell ⟨nb, jb, none⟩ (.slice s n' c')) g c := by
      obtain ⟨cur, h1, h2⟩ := hr
      exact ⟨cur, (heap_putX hne).trans h1, h2⟩
    refine step_putX gi x y pi _ g N c x0 x1 x2 x3 x4 x5 hx hy hr2 hN h1 ?_
    rw [di, put_noneX, put6_swapX _ _ _ _ _ _ _ _ hne]
    exact hK2.out _ _ hS3 (fun _ => wpAnyH_done r4 hfin _)


end Ex
end Go.Proofs.YtfajoknacfjedaaGreatDoor
namespace Go.Proofs.YtfajoknacfjedaaGreatDoor
open Go.RowKit
attribute [local go_sem] Oper.semAt_some
namespace Ex
open Sh

set_option linter.unusedSimpArgs false in
set_option maxRecDepth 100000 in
set_option maxHeartbeats 8000000 in
theorem grX_is (n : Nat) (S : Nat → Prop) (P : List (PatN (n + 1))) (v : Value) (w : World) (h : KidsO S w (n + 1) P v) (hP : P ≠ []) (hsz : sizesP (n + 1) P ≤ 8192) (hq8 : ∀ q ∈ P, sizesP n (kids q) ≤ 4096) :
    Calls Tryz.prog 8 #[v] w fun e w' => e = .returned (.bool true) ∧ KT S w w' := by
  obtain ⟨a, cap, hv, hlc, hl44, hor⟩ := KidsO.tight _ _ _ h
  obtain ⟨c, cur, F, rfl, hSc, hg, hcm, hcs, f1, f2, hq⟩ := hor.resolve_left hP
  have HQ := hide1 hq
  have HQ8 := hide1 hq8
  have HF1 := hide1 f1
  have HF2 := hide1 f2
  have HSUM := hide1 (sum_cnt n P)
  have HSZ := hide1 hsz
  obtain ⟨N, hN⟩ : ∃ N, P.length = N := ⟨_, rfl⟩
  have HN := hide1 hN
  rw [hN] at hv hlc hl44
  have gN : (N : Int) ≤ (cap : Int) := by omega
  subst hv
  have hT : exE.T ≠ xlE.T := by decide
  clear h hq hq8 f1 f2 hg hcm hcs hP hN hor hSc hsz
  go_enter Tryz.func8, Tryz.ntmps8
  go_wp2_with fail
  have HO0 : Hid (LO xlE w w.heap.size (.slice none 0 0) []) := LO.nil _ _
  go_loopw [3, 4] (fun v i wr => ∃ (j m : Nat) (L : List SlV) (aO : Option Addr) (cO : Nat), v = .slice aO m cO ∧ i = .int .i64 (j : Int) ∧ j ≤ N ∧ Hid (L.length = m) ∧ Hid (LO xlE wr w.heap.size (.slice aO m cO) L) ∧ Hid (LstX (fun d => ∃ i, i < j ∧ F i d) wr L) ∧ Hid (m = ((P.take j).map (fun q => cntL n (kids q))).sum) ∧ Hid (Kept w wr)) (fun _ i _ => N - (intOf i).toNat)
  case atStart => exact ⟨0, 0, [], _, _, rfl, rfl, by omega, rfl, HO0, LstX.nil _ _, rfl, Kept.refl _⟩
  case round =>
    clear HO0
    obtain ⟨j, m, L, aO, cO, rfl, rfl, hj, hL, hO, hX, hm, hK⟩ := hrel
    by_cases hlt : (j : Int) < (N : Int)
    · obtain ⟨q, hqj⟩ : ∃ q, P[j]? = some q := ⟨_, List.getElem?_eq_getElem (by have := HN.out; omega)⟩
      obtain ⟨u, g0, g1, g2, g3, g4, g5, g6⟩ := HQ.out j q hqj
      have hkw := hK.out
      obtain ⟨au, cu, rfl⟩ := g6.form
      have r0 := grown_cell hkw g0
      have r1 := grown_cell hkw g1
      have r2 := grown_cell hkw g2
      have r3 := grown_cell hkw g3
      have r4 := grown_cell hkw g4
      have r5 := grown_cell hkw g5
      have HQJ := hide1 (g6.kept hkw)
      have hjc : (j : Int) < (cap : Int) := by omega
      have HSTEP := hide1 (sum_take_step (fun q => cntL n (kids q)) hqj)
      have HCJ : Hid (sizesP n (kids q) ≤ 4096 ∧ m + cntL n (kids q) ≤ 8192) := by
        have h1 := HSTEP.out
        have h2 := sum_take_le (fun q => cntL n (kids q)) P (j + 1)
        have h3 := HSUM.out
        have h4 := HSZ.out
        have h5 := hm.out
        exact ⟨HQ8.out q (List.mem_of_getElem? hqj), by omega⟩
      clear g0 g1 g2 g3 g4 g5 g6 hkw hqj
      go_wp2_with (first
        | (go_at_call 18; go_must (have hrec := lists_is n (F j) q (.slice au (kids q).length cu) wr HQJ.out HCJ.out.1; rw [valOf_eq] at hrec; refine hrec.mono ?_; rintro e w7 ⟨a7, m7, c7, L7, rfl, hl7, ho7, hx7, hm7, hk7⟩; clear hrec; have HL7 := hide1 hl7; have HO7 := hide1 ho7; have HX7 := hide1 hx7; have HM7 := hide1 hm7; have HK7 := hide1 hk7; have hb7 : m + m7 ≤ 8192 := (by have := HCJ.out.2; omega); clear hl7 ho7 hx7 hm7 hk7))
        | (at_builtin; go_must (refine wpl_many (E := xlE) rfl _ _ rfl w.heap.size (.slice aO m cO) L L7 m m7 (m + m7) hL.out HL7.out rfl (by rfl) (hO.out.keep HK7.out) a7 c7 (by rfl) HO7.out.src (by show (m + m7) * 24 ≤ 140737488355328; omega) (by unfold maxLen; omega) (gtrans hK.out HK7.out).size ?_; intro a8 c8 w8 ho8 hg8 hor8; have HO8 := hide1 ho8; have HK8 : Hid (Kept w w8) := kept_grownX (gtrans hK.out HK7.out) (hO.out.keep HK7.out) (Nat.le_refl _) hg8; have HX8 : Hid (LstX (fun d => ∃ i, i < j + 1 ∧ F i d) w8 (L ++ L7)) := LstX.grown (LstX.append (hX.out.kept HK7.out (fun _ h => h)) HX7.out (fun d h1 h2 => by obtain ⟨i, hi, h1⟩ := h1; exact absurd (HF2.out i j d h1 h2) (by omega)) (fun d h => by obtain ⟨i, hi, h⟩ := h; exact ⟨i, by omega, h⟩) (fun d h => ⟨j, by omega, h⟩)) (base := w.heap.size) (fun d h => by obtain ⟨i, hi, h⟩ := h; exact (HF1.out i d h).1.2) (hO.out.keep HK7.out) hg8; clear ho8 hg8 hor8)))
      go_roundw
      case rel => exact ⟨j + 1, m + m7, L ++ L7, a8, c8, by go_num, by go_num, by omega, by show _ = _; rw [List.length_append, hL.out, HL7.out], HO8, HX8, by show _ = _; rw [HSTEP.out, HM7.out]; have := hm.out; omega, HK8⟩
      case measure => simp [intOf]; omega
    · obtain rfl : j = N := by omega
      have hmb : m ≤ 8192 := by
        have h1 := sum_take_le (fun q => cntL n (kids q)) P j
        have h3 := HSUM.out
        have h4 := HSZ.out
        have h5 := hm.out
        omega
      have HX9 : Hid (LstX S wr L) := hX.out.kept (Kept.refl _) (fun d h => by obtain ⟨i, _, h⟩ := h; exact (HF1.out i d h).1.1)
      obtain ⟨C0, hb0, hl0, hn0, hlen0, hin0⟩ := lst_bag HX9.out
      have HL := hide1 hl0
      have HB := hide1 hb0
      have HNR := hide1 hn0
      have HLEN := hide1 hlen0
      have HIN := hide1 hin0
      have HK0 := hide1 hK.out
      have HYN := hide1 hL.out
      have HALL := hide1 hO.out
      have hmI : (m : Int) ≤ 8192 := by omega
      have HCAP : Hid (m ≤ cO) := (by have h1 := hO.out.cap; rw [hL.out] at h1; exact h1 : m ≤ cO)
      have gC : (m : Int) ≤ (cO : Int) := by have := HCAP.out; omega
      have HC : Hid (∀ w', KT (InB L) wr w' → ∀ (u : Nat) (x : SlV), L[u]? = some x → ∃ g0, aO = some ⟨g0, 0, none⟩ ∧ w'.cell? ⟨g0, u, none⟩ = some (.slice x.1 x.2.1 x.2.2)) := fun w' hk u x hx => by
        have h1 : LO xlE w' w.heap.size (.slice aO m cO) L := HALL.out.same (fun d hd => hk.2.2.2.2 d (HALL.out.lt' d hd).2 (fun e => by
          obtain ⟨v, z, hz, hzd⟩ := e
          exact lo_ne (HB.out v z hz) HALL.out hT hzd hd))
        exact lo_sl h1 rfl rfl hx
      have HOLD : Hid (∀ (v : Nat) (z : SlV) (d : Nat), L[v]? = some z → (val z).ownBlock = some d → d < wr.heap.size) := fun v z d hz hd => ((HB.out v z hz).lt' d hd).2
      clear hb0 hl0 hn0 hlen0 hin0 hK hL hO hX hm hmb HX9 HQ HQ8 HF1 HF2 HSUM HSZ hlt hj
      obtain ⟨wA, hwA⟩ : ∃ x, x = wr := ⟨_, rfl⟩
      rw [← hwA] at HB HK0 HALL HC HOLD ⊢
      clear hwA wr
      go_wp2_with fail
      go_loopw [5] (fun i wr => ∃ (t : Nat) (C : Nat → List ExM), i = .int .i64 (t : Int) ∧ t ≤ m ∧ Hid (BagL exE wr L C) ∧ Hid (Mrk (mrX C0) L C t 0) ∧ Hid (RestX C0 C L t 0) ∧ Hid (KT (InB L) wA wr)) (fun i _ => m - (intOf i).toNat)
      case atStart => exact ⟨0, C0, rfl, by omega, HB, fun t b n ht hs h => by omega, fun _ _ _ _ _ _ => rfl, (Kept.refl wA).kt _⟩
      case round =>
        clear HB
        obtain ⟨t, C, rfl, ht, hB, hF, hR, hK⟩ := hrel
        by_cases hlt : (t : Int) < (m : Int)
        · obtain ⟨⟨xa, nn, cc⟩, hit⟩ : ∃ it, L[t]? = some it := ⟨_, List.getElem?_eq_getElem (by have := HYN.out; omega)⟩
          have HIT := hide1 hit
          have hn4 : nn ≤ 4096 := HLEN.out t _ hit
          have gn : (nn : Int) ≤ 4096 := by omega
          have gt : (t : Int) ≤ 8192 := by omega
          obtain ⟨g0, rfl, -⟩ := HC.out wr hK.out t _ hit
          have HC2 : Hid (∀ w', KT (InB L) wA w' → w'.cell? ⟨g0, t, none⟩ = some (.slice xa nn cc)) := fun w' hk => by
            obtain ⟨g1, e, h1⟩ := HC.out w' hk t _ HIT.out
            injection e with e
            injection e with e
            rw [e]
            exact h1
          clear hit
          have hcell0 := HC2.out wr hK.out
          go_wp2_with fail
          clear hcell0
          go_loopw [6] (fun i wr => ∃ (j : Nat) (C : Nat → List ExM), i = .int .i64 (j : Int) ∧ j ≤ nn ∧ Hid (BagL exE wr L C) ∧ Hid (Mrk (mrX C0) L C t j) ∧ Hid (RestX C0 C L t j) ∧ Hid (KT (InB L) wA wr)) (fun i _ => nn - (intOf i).toNat)
          case atStart => exact ⟨0, C, rfl, by omega, hB, hF, hR, hK⟩
          case round =>
            clear hB hF hK hR
            obtain ⟨j, C, rfl, hj, hB, hF, hR, hK⟩ := hrel
            have hcell := HC2.out wr hK.out
            by_cases hlt2 : (j : Int) < (nn : Int)
            · have hjn : j < nn := by omega
              have hlo : LO exE wr 0 (.slice xa nn cc) (C t) := hB.out t _ HIT.out
              have hll := lo_lens hlo
              obtain ⟨g, hxa⟩ := hlo.some (by intro e; rw [e] at hll; simp at hll; omega)
              subst hxa
              have hcp := hlo.cap
              rw [hll] at hcp
              have gcp : (nn : Int) ≤ (cc : Int) := by omega
              have hlo3 := lo_set0 hlo hjn 3 (by decide)
              have hlo4 := lo_set0 hlo hjn 4 (by decide)
              have e6 : exE.sz = 6 := rfl
              rw [e6] at hlo3 hlo4
              obtain ⟨⟨u3, c3⟩, f3⟩ := hlo3
              obtain ⟨⟨u4, c4⟩, f4⟩ := hlo4
              clear e6
              obtain ⟨hb5, hr5⟩ := fill34 (C0 := C0) hB.out HL.out HIT.out hjn hR.out
              have HF5 : Hid (Mrk (mrX C0) L (updF C t ((C t).set j (mrX C0 t j))) t (j + 1)) := hF.out.put HIT.out (show j < (C t).length by omega)
              have HKA : Hid (KT (InB L) wA (wr.setCell ⟨g, j * 6 + 3, none⟩ (.int .i64 (5000 + (t : Int))))) := hK.out.trans ((set_kt wr g _ _).mono (fun k e => by rw [e]; exact ⟨t, _, HIT.out, rfl⟩))
              have HK5 : Hid (KT (InB L) wA ((wr.setCell ⟨g, j * 6 + 3, none⟩ (.int .i64 (5000 + (t : Int)))).setCell ⟨g, j * 6 + 4, none⟩ (.int .i64 (j : Int)))) := HKA.out.trans ((set_kt _ g _ _).mono (fun k e => by rw [e]; exact ⟨t, _, HIT.out, rfl⟩))
              have HB5 := hide1 hb5
              have HR5 := hide1 hr5
              have hcell2 := HC2.out _ HKA.out
              have c4' : (wr.setCell ⟨g, j * 6 + 3, none⟩ (.int .i64 (5000 + (t : Int)))).cell? ⟨g, j * 6 + 4, none⟩ = some u4 := (set_other (.inr (by omega))).trans c4
              have f4' : (wr.setCell ⟨g, j * 6 + 3, none⟩ (.int .i64 (5000 + (t : Int)))).frozen? ⟨g, j * 6 + 4, none⟩ = false := by rw [World.frozen?_setCell]; exact f4
              clear hlo hll hB hF hK hR hjn hb5 hr5 hcp c4 f4 HKA
              have hw5 : IntKind.i64.wrap (5000 + (t : Int)) = 5000 + (t : Int) := by rw [IntKind.wrap_i64]; omega
              go_upto_region 13 with fail
              obtain ⟨W1, hW1⟩ : ∃ W1, wr.setCell ⟨g, j * 6 + 3, none⟩ (.int .i64 (5000 + (t : Int))) = W1 := ⟨_, rfl⟩
              rw [hW1] at HB5 HK5 hcell2 c4' f4' ⊢
              clear hW1 hcell c3 f3 hw5
              go_wp2_with fail
              go_roundw
              case rel => exact ⟨j + 1, _, by go_num, by omega, HB5, HF5, HR5, HK5⟩
              case measure => simp [intOf]; omega
            · go_wp2_with fail
              go_roundw
              case rel => exact ⟨t + 1, C, by go_num, by omega, hB, (hF.out.next (fun x h' => by have h9 := HIT.out; rw [h'] at h9; have h8 := Option.some.inj h9; subst h8; show nn = j; omega)), (by obtain rfl : j = nn := (by omega); exact hR.out.next), hK⟩
              case measure => simp [intOf]; omega
        · obtain rfl : t = m := by omega
          clear hlt ht hR
          go_wp2_with fail
          have HM0 : Hid (LO xlE wr wr.heap.size (.slice none 0 0) (L.take 0)) := by rw [List.take_zero]; exact LO.nil _ _
          obtain ⟨wF, hwF⟩ : ∃ x, x = wr := ⟨_, rfl⟩
          rw [← hwF] at hB hK HM0 ⊢
          clear hwF wr
          go_loopw [7, 8] (fun m i wr => ∃ (u : Nat) (aM : Option Addr) (cM : Nat), m = .slice aM u cM ∧ i = .int .i64 (u : Int) ∧ u ≤ t ∧ Hid (LO xlE wr wF.heap.size (.slice aM u cM) (L.take u)) ∧ Hid (Kept wF wr)) (fun _ i _ => t - (intOf i).toNat)
          case atStart => exact ⟨0, none, 0, rfl, rfl, by omega, HM0, Kept.refl _⟩
          case round =>
            clear HM0
            obtain ⟨u, aM, cM, rfl, rfl, hu, hM, hk⟩ := hrel
            by_cases hlt : (u : Int) < (t : Int)
            · obtain ⟨⟨ya, nn, cc⟩, hit⟩ : ∃ it, L[u]? = some it := ⟨_, List.getElem?_eq_getElem (by have := HYN.out; omega)⟩
              obtain ⟨g0, rfl, hcell⟩ := HC.out wr (hK.out.trans (hk.out.kt _)) u _ hit
              dsimp only at hcell
              have HM7 : Hid (L.take (u + 1) = L.take u ++ [(ya, nn, cc)]) := by show _ = _; rw [List.take_add_one, hit]; rfl
              have HML : Hid ((L.take u).length = u) := by show _ = _; rw [List.length_take, HYN.out]; omega
              clear hit
              go_wp2_with (at_builtin; go_must (refine wpl_lo (E := xlE) rfl _ _ rfl wF.heap.size (.slice aM u cM) (L.take u) u HML.out (by rfl) (LO.keep hM.out ((Kept.refl wr).alloc _ _)) wr.heap.size (ya, nn, cc) (by rfl) (heap_alloc_new wr _) (by show (u + 1) * 24 ≤ 140737488355328; omega) (by unfold maxLen; omega) (hk.out.alloc _ _).size ?_; intro g7 c8 w7 ho7 hg7 hor7 hlt7; have HO7 : Hid (LO xlE w7 wF.heap.size (.slice (some ⟨g7, 0, none⟩) (u + 1) c8) (L.take (u + 1))) := (by rw [HM7.out]; exact ho7); have HK7 : Hid (Kept wF w7) := kept_grownL (hk.out.alloc _ _) (LO.keep hM.out ((Kept.refl wr).alloc _ _)) (Nat.le_refl _) hg7; clear ho7 hg7 hor7 hlt7))
              go_roundw
              case rel => exact ⟨u + 1, some ⟨g7, 0, none⟩, c8, by go_num, by go_num, by omega, HO7, HK7⟩
              case measure => simp [intOf]; omega
            · obtain rfl : u = t := by omega
              clear hlt hu
              have HS : Hid (Tu exE xlE (mrX C0) apX L wA wr (.slice aM u cM) L (fun _ => 0) C C) := Tu.start (BagL.kept hB.out hk.out) (by rw [HYN.out]; exact hF.out) (hK.out.trans (hk.out.kt _)) (lo_lowL (by have h := hM.out; rw [List.take_of_length_le (by rw [HYN.out]; exact Nat.le_refl _)] at h; exact h) hK.out.2.2.2.1) HNR.out HL.out
              clear hB hF hK hM hk
              go_wp2_with fail
              go_loopw [9] (fun i wr => ∃ (k : Nat) (xs : List SlV) (C D : Nat → List ExM), i = .int .i64 (k : Int) ∧ k ≤ 64 ∧ Hid (Tu exE xlE (mrX C0) apX L wA wr (.slice aM u cM) xs (fun _ => k) C D)) (fun i _ => 64 - (intOf i).toNat)
              case atStart => exact ⟨0, L, C, C, rfl, by omega, HS⟩
              case round =>
                clear HS
                obtain ⟨k, xs, C, D, rfl, hk6, hS⟩ := hrel
                by_cases hlt : (k : Int) < 64
                · have HS0 : Hid (Tu exE xlE (mrX C0) apX L wA wr (.slice aM u cM) xs (cntT 0 k) C D) := hS.out.first
                  clear hS
                  go_wp2_with fail
                  go_loopw [10] (fun i wr => ∃ (v : Nat) (xs : List SlV) (C D : Nat → List ExM), i = .int .i64 (v : Int) ∧ v ≤ u ∧ Hid (Tu exE xlE (mrX C0) apX L wA wr (.slice aM u cM) xs (cntT v k) C D)) (fun i _ => u - (intOf i).toNat)
                  case atStart => exact ⟨0, xs, C, D, rfl, by omega, HS0⟩
                  case round =>
                    clear HS0
                    obtain ⟨v, xs, C, D, rfl, hv, hS⟩ := hrel
                    by_cases hlt2 : (v : Int) < (u : Int)
                    · obtain ⟨⟨ya, nn, cc⟩, hit⟩ : ∃ it, L[v]? = some it := ⟨_, List.getElem?_eq_getElem (by have := HYN.out; omega)⟩
                      have HIT := hide1 hit
                      have hn4 : nn ≤ 4096 := HLEN.out v _ hit
                      obtain ⟨xa, xc, gM, c6, rfl, hx, hcell, hle6, hor6, hlo, hlen6, z6, hvu⟩ := tu_at hS.out rfl rfl hit
                      dsimp only at hx hcell hle6 hor6 hlo hlen6
                      obtain ⟨nk, hnk⟩ : ∃ nk, nn + k = nk := ⟨_, rfl⟩
                      rw [hnk] at hx hcell hle6 hor6 hlo hlen6
                      have HX := hide1 hx
                      have HNK := hide1 hnk
                      have HOR := hide1 hor6
                      have HLE := hide1 hle6
                      have HLO := hide1 hlo
                      have HLN := hide1 hlen6
                      have hnkb : nk ≤ 4160 := by omega
                      have hvI : (v : Int) < (u : Int) := hlt2
                      clear hit hx hnk hor6 hle6 hlo hlen6
                      go_upto_region 25 with fail
                      refine wp_region_held_drew (S := fun _ => True) (by kernel_rfl) trivial (fun hHeld => ?_)
                      refine wpAnyH_take (i := 0) (v := .slice (some ⟨gM, 0, none⟩) u cM) rfl (by kernel_rfl) (by kernel_rfl) (by kernel_rfl) (fun _ _ _ h => h) (Or.inl ⟨by rfl, fun w' hSw => ?_⟩) trivial ?_
                      · clear hSw
                        go_simp
                      try simp only [Act.put, List.getElem_toArray, List.getElem_cons_succ, List.getElem_cons_zero, List.setIfInBounds_toArray, List.set_cons_zero, List.set_cons_succ]
                      refine wpAnyH_take (i := 1) (v := .int .i64 (v : Int)) rfl (by kernel_rfl) (by kernel_rfl) (by kernel_rfl) (fun _ _ _ h => h) (Or.inl ⟨by rfl, fun w' hSw => ?_⟩) trivial ?_
                      · clear hSw
                        go_simp
                      try simp only [Act.put, List.getElem_toArray, List.getElem_cons_succ, List.getElem_cons_zero, List.setIfInBounds_toArray, List.set_cons_zero, List.set_cons_succ]
                      refine wpAnyH_take (i := 2) (v := .pointer (some ⟨gM, v, none⟩)) rfl (by kernel_rfl) (by kernel_rfl) (by kernel_rfl) (fun _ _ _ h => h) (Or.inl ⟨by rfl, fun w' hSw => ?_⟩) trivial ?_
                      · clear hSw
                        go_simp
                      try simp only [Act.put, List.getElem_toArray, List.getElem_cons_succ, List.getElem_cons_zero, List.setIfInBounds_toArray, List.set_cons_zero, List.set_cons_succ]
                      refine wpAnyH_take (i := 4) (v := .int .i64 (v : Int)) rfl (by kernel_rfl) (by kernel_rfl) (by kernel_rfl) (fun _ _ _ h => h) (Or.inl ⟨by rfl, fun w' hSw => ?_⟩) trivial ?_
                      · clear hSw
                        go_simp
                      try simp only [Act.put, List.getElem_toArray, List.getElem_cons_succ, List.getElem_cons_zero, List.setIfInBounds_toArray, List.set_cons_zero, List.set_cons_succ]
                      refine wpAnyH_take (i := 5) (v := .int .i64 (-1 - (v : Int))) rfl (by kernel_rfl) (by kernel_rfl) (by kernel_rfl) (fun _ _ _ h => h) (Or.inl ⟨by rfl, fun w' hSw => ?_⟩) trivial ?_
                      · clear hSw
                        go_simp
                        rw [IntKind.wrap_i64]; omega
                      try simp only [Act.put, List.getElem_toArray, List.getElem_cons_succ, List.getElem_cons_zero, List.setIfInBounds_toArray, List.set_cons_zero, List.set_cons_succ]
                      refine wpAnyH_take (i := 6) (v := .int .i64 (k : Int)) rfl (by kernel_rfl) (by kernel_rfl) (by kernel_rfl) (fun _ _ _ h => h) (Or.inl ⟨by rfl, fun w' hSw => ?_⟩) trivial ?_
                      · clear hSw
                        go_simp
                      try simp only [Act.put, List.getElem_toArray, List.getElem_cons_succ, List.getElem_cons_zero, List.setIfInBounds_toArray, List.set_cons_zero, List.set_cons_succ]
                      refine wpAnyH_take (i := 7) (v := .agg #[.int .i64 0, .int .i64 0, .int .i64 0, .int .i64 (-1 - (v : Int)), .int .i64 (k : Int), .slice none 0 0]) rfl (by kernel_rfl) (by kernel_rfl) (by kernel_rfl) (fun _ _ _ h => h) (Or.inl ⟨by rfl, fun w' hSw => ?_⟩) trivial ?_
                      · clear hSw
                        go_simp
                      try simp only [Act.put, List.getElem_toArray, List.getElem_cons_succ, List.getElem_cons_zero, List.setIfInBounds_toArray, List.set_cons_zero, List.set_cons_succ]
                      refine wpAnyH_ready (rs := [3, 9]) (by kernel_rfl) (by simp) ?_
                      refine AllReadyH.cons (i := 3) rfl (fun K hK => ?_) (AllReadyH.cons (i := 9) rfl (fun K hK => ?_) AllReadyH.nil)
                      · have t5 := grown_cell (drew_kept wr) hcell
                        go_simp
                        refine hK.out _ _ trivial (fun _ => ?_)
                        clear t5
                        clear hK K
                        try simp only [Act.put, List.getElem_toArray, List.getElem_cons_succ, List.getElem_cons_zero, List.setIfInBounds_toArray, List.set_cons_zero, List.set_cons_succ]
                        refine wpAnyH_take (i := 8) (v := .int .i64 (nk : Int)) rfl (by kernel_rfl) (by kernel_rfl) (by kernel_rfl) (fun _ _ _ h => h) (Or.inl ⟨by rfl, fun w' hSw => ?_⟩) trivial ?_
                        · clear hSw
                          go_simp
                        try simp only [Act.put, List.getElem_toArray, List.getElem_cons_succ, List.getElem_cons_zero, List.setIfInBounds_toArray, List.set_cons_zero, List.set_cons_succ]
                        refine wpAnyH_ready (rs := [9]) (by kernel_rfl) (by simp) ?_
                        refine AllReadyH.cons (i := 9) rfl (fun K hK => ?_) AllReadyH.nil
                        go_simp
                        refine hK.out _ _ trivial (fun _ => ?_)
                        clear hK K
                        try simp only [Act.put, List.getElem_toArray, List.getElem_cons_succ, List.getElem_cons_zero, List.setIfInBounds_toArray, List.set_cons_zero, List.set_cons_succ]
                        refine wpAnyH_ready (rs := [10]) (by kernel_rfl) (by simp) ?_
                        refine AllReadyH.cons (i := 10) rfl (fun K hK => ?_) AllReadyH.nil
                        refine step_lo3 (E := exE) (by decide) rfl _ _ rfl 0 xa nk c6 xc (D v) HLN.out (by rfl) (HLO.out.keep (gtrans ((Kept.refl wr).alloc #[.int .i64 0, .int .i64 0, .int .i64 0, .int .i64 0, .int .i64 0, .slice none 0 0] 24) (drew_kept _))) HOR.out HLE.out wr.heap.size zeroX (by rfl) (heap_alloc_new wr _) (by omega) (Nat.zero_le _) ?_
                        intro g6 c8 w6 ho6 ha6 hg6
                        have hst := tu_still hT hS.out HX.out (gtrans ((Kept.refl wr).alloc #[.int .i64 0, .int .i64 0, .int .i64 0, .int .i64 0, .int .i64 0, .slice none 0 0] 24) (drew_kept _)) ha6
                        have hnl : (D v ++ [zeroX]).set nk (apX v k) = D v ++ [apX v k] := by rw [List.set_append_right _ _ (by rw [HLN.out]; exact Nat.le_refl _), HLN.out, Nat.sub_self]; rfl
                        have hlp := lo_put ho6 (k := nk) (Nat.lt_succ_self nk) (apX v k)
                        rw [hnl] at hlp
                        obtain ⟨hrw, hnc⟩ := lo_rowAt ho6
                        obtain ⟨C2, hs2⟩ := tu_turn (g := g6) (cap := c8) hT rfl rfl hS.out HIT.out HX.out HL.out HOLD.out (gtrans ((Kept.refl wr).alloc #[.int .i64 0, .int .i64 0, .int .i64 0, .int .i64 0, .int .i64 0, .slice none 0 0] 24) (drew_kept _)) (by show LO exE _ 0 (.slice (some ⟨g6, 0, none⟩) (nn + k + 1) c8) _; rw [HNK.out]; exact hlp) (by show App2 _ _ _ (nn + k) g6 c8; rw [HNK.out]; exact app2_put ha6) (by have h9 := (putL_kt g6 (exE.enc (apX v k)) w6 (nk * exE.sz)).2.2.2.1; exact Nat.lt_of_lt_of_le hg6 h9)
                        dsimp only at hs2
                        rw [HNK.out] at hs2
                        have hs3 : Tu exE xlE (mrX C0) apX L wA (((((((w6.setCell ⟨g6, nk * 6, none⟩ (.int .i64 0)).setCell ⟨g6, nk * 6 + 1, none⟩ (.int .i64 0)).setCell ⟨g6, nk * 6 + 2, none⟩ (.int .i64 0)).setCell ⟨g6, nk * 6 + 3, none⟩ (.int .i64 (-1 - (v : Int)))).setCell ⟨g6, nk * 6 + 4, none⟩ (.int .i64 (k : Int))).setCell ⟨g6, nk * 6 + 5, none⟩ (.slice none 0 0)).setCell ⟨gM, v, none⟩ (.slice (some ⟨g6, 0, none⟩) (nk + 1) c8)) (.slice (some ⟨gM, 0, none⟩) u cM) (xs.set v (some ⟨g6, 0, none⟩, nk + 1, c8)) (cntT (v + 1) k) C2 (updF D v (D v ++ [apX v k])) := hs2
                        have HS2 := hide1 hs3
                        have HRW := hide1 hrw
                        have HNC := hide1 hnc
                        have HNE : Hid (g6 ≠ gM) := tu_apart hT hS.out hst ho6
                        have cM6 := cell_of hst hcell
                        have fM6 := frozen_of hst z6
                        have gnk : (nk : Int) < (nk : Int) + 1 := by omega
                        have gnc : (nk : Int) + 1 ≤ (c8 : Int) := by have := HNC.out; omega
                        clear hst hs2 hs3 ho6 ha6 hg6 hlp hrw hnc hnl
                        refine hK.out _ _ trivial (fun _ => ?_)
                        clear hK K
                        try simp only [Act.put, List.getElem_toArray, List.getElem_cons_succ, List.getElem_cons_zero, List.setIfInBounds_toArray, List.set_cons_zero, List.set_cons_succ]
                        refine wpAnyH_take (i := 11) (v := .pointer (some ⟨g6, nk * 6, none⟩)) rfl (by kernel_rfl) (by kernel_rfl) (by kernel_rfl) (fun _ _ _ h => h) (Or.inl ⟨by rfl, fun w' hSw => ?_⟩) trivial ?_
                        · clear hSw
                          go_simp
                        try simp only [Act.put, List.getElem_toArray, List.getElem_cons_succ, List.getElem_cons_zero, List.setIfInBounds_toArray, List.set_cons_zero, List.set_cons_succ]
                        refine wpAnyH_take (i := 13) (v := .pointer (some ⟨gM, v, none⟩)) rfl (by kernel_rfl) (by kernel_rfl) (by kernel_rfl) (fun _ _ _ h => h) (Or.inl ⟨by rfl, fun w' hSw => ?_⟩) trivial ?_
                        · clear hSw
                          go_simp
                        try simp only [Act.put, List.getElem_toArray, List.getElem_cons_succ, List.getElem_cons_zero, List.setIfInBounds_toArray, List.set_cons_zero, List.set_cons_succ]
                        refine two_storesX w6 12 14 rfl rfl (by kernel_rfl) (by kernel_rfl) (by kernel_rfl) (by kernel_rfl) (by kernel_rfl) rfl rfl rfl rfl (.tmp 94) (.tmp 90) (.tmp 95) (.tmp 93) rfl rfl g6 nk c8 _ _ _ _ _ _ gM v _ _ _ _ (by rfl) (by rfl) (by rfl) (by rfl) HRW.out HNC.out (oneX _ _ _ _ _ _ _ _) cM6 fM6 HNE.out trivial trivial trivial ?_
                        clear hcell cM6 fM6 z6 HRW HNC
                        generalize (((((((w6.setCell ⟨g6, nk * 6, none⟩ (.int .i64 0)).setCell ⟨g6, nk * 6 + 1, none⟩ (.int .i64 0)).setCell ⟨g6, nk * 6 + 2, none⟩ (.int .i64 0)).setCell ⟨g6, nk * 6 + 3, none⟩ (.int .i64 (-1 - (v : Int)))).setCell ⟨g6, nk * 6 + 4, none⟩ (.int .i64 (k : Int))).setCell ⟨g6, nk * 6 + 5, none⟩ (.slice none 0 0)).setCell ⟨gM, v, none⟩ (.slice (some ⟨g6, 0, none⟩) (nk + 1) c8)) = W9 at HS2 ⊢
                        go_wp2_with fail
                        go_roundw
                        case rel => exact ⟨v + 1, _, C2, _, by go_num, by omega, HS2⟩
                        case measure => simp [intOf]; omega
                      · go_simp
                        refine hK.out _ _ trivial (fun _ => ?_)
                        clear hK K
                        try simp only [Act.put, List.getElem_toArray, List.getElem_cons_succ, List.getElem_cons_zero, List.setIfInBounds_toArray, List.set_cons_zero, List.set_cons_succ]
                        have t6 := grown_cell (gtrans ((Kept.refl wr).alloc #[.int .i64 0, .int .i64 0, .int .i64 0, .int .i64 0, .int .i64 0, .slice none 0 0] 24) (drew_kept _)) hcell
                        refine wpAnyH_ready (rs := [3]) (by kernel_rfl) (by simp) ?_
                        refine AllReadyH.cons (i := 3) rfl (fun K hK => ?_) AllReadyH.nil
                        go_simp
                        refine hK.out _ _ trivial (fun _ => ?_)
                        clear t6
                        clear hK K
                        try simp only [Act.put, List.getElem_toArray, List.getElem_cons_succ, List.getElem_cons_zero, List.setIfInBounds_toArray, List.set_cons_zero, List.set_cons_succ]
                        refine wpAnyH_take (i := 8) (v := .int .i64 (nk : Int)) rfl (by kernel_rfl) (by kernel_rfl) (by kernel_rfl) (fun _ _ _ h => h) (Or.inl ⟨by rfl, fun w' hSw => ?_⟩) trivial ?_
                        · clear hSw
                          go_simp
                        try simp only [Act.put, List.getElem_toArray, List.getElem_cons_succ, List.getElem_cons_zero, List.setIfInBounds_toArray, List.set_cons_zero, List.set_cons_succ]
                        refine wpAnyH_ready (rs := [10]) (by kernel_rfl) (by simp) ?_
                        refine AllReadyH.cons (i := 10) rfl (fun K hK => ?_) AllReadyH.nil
                        refine step_lo3 (E := exE) (by decide) rfl _ _ rfl 0 xa nk c6 xc (D v) HLN.out (by rfl) (HLO.out.keep (gtrans ((Kept.refl wr).alloc #[.int .i64 0, .int .i64 0, .int .i64 0, .int .i64 0, .int .i64 0, .slice none 0 0] 24) (drew_kept _))) HOR.out HLE.out wr.heap.size zeroX (by rfl) (heap_alloc_new wr _) (by omega) (Nat.zero_le _) ?_
                        intro g6 c8 w6 ho6 ha6 hg6
                        have hst := tu_still hT hS.out HX.out (gtrans ((Kept.refl wr).alloc #[.int .i64 0, .int .i64 0, .int .i64 0, .int .i64 0, .int .i64 0, .slice none 0 0] 24) (drew_kept _)) ha6
                        have hnl : (D v ++ [zeroX]).set nk (apX v k) = D v ++ [apX v k] := by rw [List.set_append_right _ _ (by rw [HLN.out]; exact Nat.le_refl _), HLN.out, Nat.sub_self]; rfl
                        have hlp := lo_put ho6 (k := nk) (Nat.lt_succ_self nk) (apX v k)
                        rw [hnl] at hlp
                        obtain ⟨hrw, hnc⟩ := lo_rowAt ho6
                        obtain ⟨C2, hs2⟩ := tu_turn (g := g6) (cap := c8) hT rfl rfl hS.out HIT.out HX.out HL.out HOLD.out (gtrans ((Kept.refl wr).alloc #[.int .i64 0, .int .i64 0, .int .i64 0, .int .i64 0, .int .i64 0, .slice none 0 0] 24) (drew_kept _)) (by show LO exE _ 0 (.slice (some ⟨g6, 0, none⟩) (nn + k + 1) c8) _; rw [HNK.out]; exact hlp) (by show App2 _ _ _ (nn + k) g6 c8; rw [HNK.out]; exact app2_put ha6) (by have h9 := (putL_kt g6 (exE.enc (apX v k)) w6 (nk * exE.sz)).2.2.2.1; exact Nat.lt_of_lt_of_le hg6 h9)
                        dsimp only at hs2
                        rw [HNK.out] at hs2
                        have hs3 : Tu exE xlE (mrX C0) apX L wA (((((((w6.setCell ⟨g6, nk * 6, none⟩ (.int .i64 0)).setCell ⟨g6, nk * 6 + 1, none⟩ (.int .i64 0)).setCell ⟨g6, nk * 6 + 2, none⟩ (.int .i64 0)).setCell ⟨g6, nk * 6 + 3, none⟩ (.int .i64 (-1 - (v : Int)))).setCell ⟨g6, nk * 6 + 4, none⟩ (.int .i64 (k : Int))).setCell ⟨g6, nk * 6 + 5, none⟩ (.slice none 0 0)).setCell ⟨gM, v, none⟩ (.slice (some ⟨g6, 0, none⟩) (nk + 1) c8)) (.slice (some ⟨gM, 0, none⟩) u cM) (xs.set v (some ⟨g6, 0, none⟩, nk + 1, c8)) (cntT (v + 1) k) C2 (updF D v (D v ++ [apX v k])) := hs2
                        have HS2 := hide1 hs3
                        have HRW := hide1 hrw
                        have HNC := hide1 hnc
                        have HNE : Hid (g6 ≠ gM) := tu_apart hT hS.out hst ho6
                        have cM6 := cell_of hst hcell
                        have fM6 := frozen_of hst z6
                        have gnk : (nk : Int) < (nk : Int) + 1 := by omega
                        have gnc : (nk : Int) + 1 ≤ (c8 : Int) := by have := HNC.out; omega
                        clear hst hs2 hs3 ho6 ha6 hg6 hlp hrw hnc hnl
                        refine hK.out _ _ trivial (fun _ => ?_)
                        clear hK K
                        try simp only [Act.put, List.getElem_toArray, List.getElem_cons_succ, List.getElem_cons_zero, List.setIfInBounds_toArray, List.set_cons_zero, List.set_cons_succ]
                        refine wpAnyH_take (i := 11) (v := .pointer (some ⟨g6, nk * 6, none⟩)) rfl (by kernel_rfl) (by kernel_rfl) (by kernel_rfl) (fun _ _ _ h => h) (Or.inl ⟨by rfl, fun w' hSw => ?_⟩) trivial ?_
                        · clear hSw
                          go_simp
                        try simp only [Act.put, List.getElem_toArray, List.getElem_cons_succ, List.getElem_cons_zero, List.setIfInBounds_toArray, List.set_cons_zero, List.set_cons_succ]
                        refine wpAnyH_take (i := 13) (v := .pointer (some ⟨gM, v, none⟩)) rfl (by kernel_rfl) (by kernel_rfl) (by kernel_rfl) (fun _ _ _ h => h) (Or.inl ⟨by rfl, fun w' hSw => ?_⟩) trivial ?_
                        · clear hSw
                          go_simp
                        try simp only [Act.put, List.getElem_toArray, List.getElem_cons_succ, List.getElem_cons_zero, List.setIfInBounds_toArray, List.set_cons_zero, List.set_cons_succ]
                        refine two_storesX w6 12 14 rfl rfl (by kernel_rfl) (by kernel_rfl) (by kernel_rfl) (by kernel_rfl) (by kernel_rfl) rfl rfl rfl rfl (.tmp 94) (.tmp 90) (.tmp 95) (.tmp 93) rfl rfl g6 nk c8 _ _ _ _ _ _ gM v _ _ _ _ (by rfl) (by rfl) (by rfl) (by rfl) HRW.out HNC.out (oneX _ _ _ _ _ _ _ _) cM6 fM6 HNE.out trivial trivial trivial ?_
                        clear hcell cM6 fM6 z6 HRW HNC
                        generalize (((((((w6.setCell ⟨g6, nk * 6, none⟩ (.int .i64 0)).setCell ⟨g6, nk * 6 + 1, none⟩ (.int .i64 0)).setCell ⟨g6, nk * 6 + 2, none⟩ (.int .i64 0)).setCell ⟨g6, nk * 6 + 3, none⟩ (.int .i64 (-1 - (v : Int)))).setCell ⟨g6, nk * 6 + 4, none⟩ (.int .i64 (k : Int))).setCell ⟨g6, nk * 6 + 5, none⟩ (.slice none 0 0)).setCell ⟨gM, v, none⟩ (.slice (some ⟨g6, 0, none⟩) (nk + 1) c8)) = W9 at HS2 ⊢
                        go_wp2_with fail
                        go_roundw
                        case rel => exact ⟨v + 1, _, C2, _, by go_num, by omega, HS2⟩
                        case measure => simp [intOf]; omega
                    · obtain rfl : v = u := by omega
                      have HS9 := hide1 (hS.out.last HYN.out)
                      clear hS
                      go_wp2_with fail
                      go_roundw
                      case rel => exact ⟨k + 1, xs, C, D, by go_num, by omega, HS9⟩
                      case measure => simp [intOf]; omega
                · have hk64 : k = 64 := by omega
                  have hS64 : Hid (Tu exE xlE (mrX C0) apX L wA wr (.slice aM u cM) xs (fun _ => 64) C D) := by have h := hS.out; rw [hk64] at h; exact h
                  have HP := hide1 (fun (v : Nat) (hv : v < u) => tu_rows hS64.out HYN.out rfl rfl v hv)
                  have HK := hide1 hS64.out.kb
                  clear hS hS64 hk64 hk6
                  obtain ⟨wb, rfl⟩ : ∃ x, x = wr := ⟨_, rfl⟩
                  go_wp2_with fail
                  clear hlt
                  go_loopw [11] (fun i wx => ∃ v : Nat, i = .int .i64 (v : Int) ∧ v ≤ u ∧ Hid (Kept wb wx)) (fun i _ => u - (intOf i).toNat)
                  case atStart => exact ⟨0, rfl, by omega, Kept.refl _⟩
                  case round =>
                    obtain ⟨v, rfl, hv, hk⟩ := hrel
                    by_cases hlt : (v : Int) < (u : Int)
                    · obtain ⟨⟨ya, nn, cc⟩, ⟨xa, n7, xc⟩, gM, cx, hy, h71, hcx, rfl, hcM, hr1, hr2⟩ := HP.out v (by omega)
                      dsimp only at h71 hcx hcM hr1 hr2
                      subst h71
                      obtain ⟨g0, rfl, q1'⟩ := HC.out _ HK.out v _ hy
                      have q1 := kcell q1'
                      dsimp only at q1
                      have q2 := kcell hcM
                      have hn4 : nn ≤ 4096 := HLEN.out v _ hy
                      have gn : (nn : Int) ≤ 4096 := by omega
                      have gv8 : (v : Int) ≤ 8192 := by omega
                      have HR1 := hide1 hr1
                      have HR2 := hide1 hr2
                      clear hy hcM hr1 hr2 q1'
                      have d1 := q1 _ hk.out
                      go_wp2_with fail
                      clear d1
                      go_loopw [13] (fun i wx => ∃ s : Nat, i = .int .i64 (s : Int) ∧ s ≤ nn ∧ Hid (Kept wb wx)) (fun i _ => nn - (intOf i).toNat)
                      case atStart => exact ⟨0, rfl, by omega, hk⟩
                      case round =>
                        clear hk
                        obtain ⟨s, rfl, hs, hk⟩ := hrel
                        by_cases hlt2 : (s : Int) < (nn : Int)
                        · have d1 := q1 _ hk.out
                          have d2 := q2 _ hk.out
                          have hs7 : (s : Int) < (nn : Int) + 64 := by omega
                          obtain ⟨gy, gx, rfl, rfl, r3⟩ := HR1.out s (by omega)
                          have a3 : wr.cell? ⟨gy, s * 6 + 3, none⟩ = some (.int .i64 (5000 + (v : Int))) := grown_cell hk.out (r3 3 _ rfl).1
                          have a4 : wr.cell? ⟨gy, s * 6 + 4, none⟩ = some (.int .i64 (s : Int)) := grown_cell hk.out (r3 4 _ rfl).1
                          have b3 : wr.cell? ⟨gx, s * 6 + 3, none⟩ = some (.int .i64 (5000 + (v : Int))) := grown_cell hk.out (r3 3 _ rfl).2
                          have hw5 : IntKind.i64.wrap (5000 + (v : Int)) = 5000 + (v : Int) := by rw [IntKind.wrap_i64]; omega
                          clear r3
                          go_wp2_with fail
                          have HKQ := hk
                          go_roundw
                          case rel => exact ⟨s + 1, by go_num, by omega, HKQ⟩
                          case measure => simp [intOf]; omega
                        · clear hs
                          go_wp2_with fail
                          go_loopw [14] (fun i wx => ∃ s : Nat, i = .int .i64 (s : Int) ∧ s ≤ 64 ∧ Hid (Kept wb wx)) (fun i _ => 64 - (intOf i).toNat)
                          case atStart => exact ⟨0, rfl, by omega, hk⟩
                          case round =>
                            clear hk
                            obtain ⟨s, rfl, hs, hk⟩ := hrel
                            by_cases hlt3 : (s : Int) < 64
                            · have d2 := q2 _ hk.out
                              obtain ⟨ns, hns2⟩ : ∃ ns, nn + s = ns := ⟨_, rfl⟩
                              have hnsI : (nn : Int) + (s : Int) = (ns : Int) := by omega
                              have hns : (ns : Int) < (nn : Int) + 64 := by omega
                              obtain ⟨gx, rfl, r4⟩ := HR2.out s (by omega)
                              rw [hns2] at r4
                              have b3 : wr.cell? ⟨gx, ns * 6 + 3, none⟩ = some (.int .i64 (-1 - (v : Int))) := grown_cell hk.out (r4 3 _ rfl)
                              have b4 : wr.cell? ⟨gx, ns * 6 + 4, none⟩ = some (.int .i64 (s : Int)) := grown_cell hk.out (r4 4 _ rfl)
                              have hw5 : IntKind.i64.wrap (-1 - (v : Int)) = -1 - (v : Int) := by rw [IntKind.wrap_i64]; omega
                              clear r4 hns2
                              go_wp2_with fail
                              have HKQ := hk
                              go_roundw
                              case rel => exact ⟨s + 1, by go_num, by omega, HKQ⟩
                              case measure => simp [intOf]; omega
                            · go_wp2_with fail
                              go_roundw
                              case rel => exact ⟨v + 1, by go_num, by omega, hk⟩
                              case measure => simp [intOf]; omega
                    · go_wp2_with fail
                      go_ret
                      exact ⟨rfl, KT.wide (HK0.out.kt S) (HK.out.trans (hk.out.kt _)) (fun d _ hd => HIN.out d hd)⟩

end Ex
end Go.Proofs.YtfajoknacfjedaaGreatDoor
