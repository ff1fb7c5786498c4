import Derived.Test.YtajmbplipjeojaaDoorShU3
import Derived.Test.YtajmbplipjeojaaDoorShV
import Derived.Laws.CopyRow
import Derived.Laws.IdiomCopy
namespace Go.Proofs.YtajmbplipjeojaaDoor
open Go.RowKit
attribute [local go_sem] Oper.semAt_some
namespace Ex
namespace Sh

theorem src_take {w : World} {a : Option Addr} {l : List Int} {k : Nat} (h : Src u8E w a l) : Src u8E w a (l.take k) := by
  rcases h with rfl | ⟨g, o, h1, h2⟩
  · exact .inl (by simp)
  · refine .inr ⟨g, o, h1, fun j u hj => h2 j u ?_⟩
    rw [flat_u8b, List.getElem?_map] at hj ⊢
    rw [List.getElem?_take] at hj
    split at hj
    · exact hj
    · cases hj
/-- A row of bytes that is filled by index. -/
def FillAt (w : World) (g : Nat) (cs : List Int) : Prop := w.heap[g]? = some (.cells (cs.map (Value.int .u8)).toArray 5 (0, 0))
theorem FillAt.cell {w : World} {g i : Nat} {x : Int} {cs : List Int} (h : FillAt w g cs) (hi : cs[i]? = some x) : w.cell? ⟨g, i, none⟩ = some (.int .u8 x) := by
  unfold FillAt at h
  simp [World.cell?, h, hi]
theorem FillAt.free {w : World} {g : Nat} {cs : List Int} (i : Nat) (h : FillAt w g cs) : w.frozen? ⟨g, i, none⟩ = false := by
  unfold FillAt at h
  simp [World.frozen?, h]
theorem FillAt.lt {w : World} {g : Nat} {cs : List Int} (h : FillAt w g cs) : g < w.heap.size := (Array.getElem?_eq_some_iff.1 h).1
theorem FillAt.put {w : World} {g k : Nat} {x : Int} {cs : List Int} (h : FillAt w g cs) : FillAt (w.setCell ⟨g, k, none⟩ (.int .u8 x)) g (cs.set k x) := by
  unfold FillAt at h ⊢
  have hl : g < w.heap.size := (Array.getElem?_eq_some_iff.1 h).1
  have he : w.heap[g] = Obj.cells (cs.map (Value.int .u8)).toArray 5 (0, 0) := by rw [Array.getElem?_eq_getElem hl] at h; exact Option.some.inj h
  have e : ((cs.set k x).map (Value.int .u8)).toArray = (cs.map (Value.int .u8)).toArray.setIfInBounds k (.int .u8 x) := by
    rw [List.map_set]
    simp
  rw [e]
  simp [World.setCell, Array.getElem_modify, hl, he]
theorem FillAt.keep {w w' : World} {g : Nat} {cs : List Int} (h : FillAt w g cs) (hk : Kept w w') : FillAt w' g cs := (hk.2.2.2.2 g h.lt).trans h
theorem FillAt.src {w : World} {g : Nat} {cs L : List Int} (h : FillAt w g cs) (he : ∀ k, k < L.length → cs[k]? = L[k]?) : Src u8E w (some ⟨g, 0, none⟩) L := by
  refine .inr ⟨g, 0, rfl, fun j u hj => ?_⟩
  rw [flat_u8b, List.getElem?_map] at hj
  obtain ⟨x, hx, rfl⟩ := Option.map_eq_some_iff.1 hj
  rw [Nat.zero_add]
  exact h.cell (by rw [he j (List.getElem?_eq_some_iff.1 hx).1]; exact hx)
theorem kept_set {w W : World} {g o : Nat} {v : Value} (h : Kept w W) (hg : w.heap.size ≤ g) : Kept w (W.setCell ⟨g, o, none⟩ v) := Kept.of (set_below h.below hg)
theorem make_full (n N : Nat) (hN : N = n + 70) (hn : n ≤ 1000000) : ∀ W : World, (Instr.makeSlice 23 (.int .i64 ((n : Int) + 70)) (.int .i64 ((n : Int) + 70))).run Tryd.prog W = .ok (.slice (some ⟨W.heap.size, 0, none⟩) N N) (W.alloc (.cells (Array.replicate N (.int .u8 0)) 5)) := fun W => by
  obtain ⟨i0, hi, hz0, hz1, hz2⟩ := info_parts u8_info0
  have h := run_make (P := Tryd.prog) W 23 5 i0 (.int .u8 0) Tryd.underlying23 hi hz0 .i64 .i64 ((n : Int) + 70) ((n : Int) + 70) (by omega) (by omega) (by rw [hz2]; omega) (by omega)
  rw [h, show ((n : Int) + 70).toNat = N by omega, hz1]
  have e : madeCells (Value.int .u8 0).cells (N * 1) = Array.replicate N (.int .u8 0) := by
    unfold madeCells
    apply Array.ext_getElem?
    intro i
    by_cases h : i < N
    · simp [h, Value.cells, Nat.mod_one]
    · simp [h]
  rw [e]
theorem copy_fill {w : World} {g N n c : Nat} {a : Option Addr} {cs L : List Int} (h : FillAt w g cs) (hcs : cs.length = N) (hn : L.length = n) (hnN : n ≤ N) (hS : Src u8E w a L) :
    ∃ w2, (∀ ty, (Builtin.copy_ #[23, 23] ty #[.slice (some ⟨g, 0, none⟩) N N, .slice a n c]).run Tryd.prog w = .ok (goInt n) w2) ∧ FillAt w2 g (L ++ cs.drop n) ∧ w2.os = w.os ∧ w2.tape = w.tape ∧ w2.output = w.output ∧ w2.heap.size = w.heap.size ∧ ∀ k, k ≠ g → w2.heap[k]? = w.heap[k]? := by
  obtain ⟨i0, hi, hz0, hz1, hz2⟩ := info_parts u8_info0
  have hsz : (Tryd.prog.info? 5).map (·.size) = some 1 := by rw [hi]; simp [hz1]
  rcases hS with rfl | ⟨g2, o2, rfl, hc⟩
  · have h0 : n = 0 := by simpa using hn.symm
    subst h0
    refine ⟨w, fun ty => ?_, by simpa using h, rfl, rfl, rfl, rfl, fun _ _ => rfl⟩
    have := run_copy_none (P := Tryd.prog) w 23 23 ty 5 (some ⟨g, 0, none⟩) a N N 0 c Tryd.underlying23 hsz (by simp)
    exact this
  · have hlen : (L.map (Value.int .u8)).length = n := by rw [List.length_map, hn]
    refine ⟨w.setRow g ((cs.map (Value.int .u8)).toArray.toList.take 0 ++ L.map (Value.int .u8) ++ (cs.map (Value.int .u8)).toArray.toList.drop (0 + (L.map (Value.int .u8)).length)).toArray, fun ty => ?_, ?_, rfl, rfl, rfl, by simp, fun k hk => setRow_other _ _ _ _ hk⟩
    · have := run_copy_row (P := Tryd.prog) w 23 23 ty 5 g 0 N N ⟨g2, o2, none⟩ n c (cs.map (Value.int .u8)).toArray 5 (L.map (Value.int .u8)) Tryd.underlying23 hsz h (by rw [hlen]; exact (Nat.min_eq_left hnN).symm) (fun j v hj => by rw [Addr.add_lit]; exact hc j v (by rw [flat_u8b]; exact hj)) (by simp; omega) (fun v hv => by
        simp only [List.mem_map] at hv
        obtain ⟨x, _, rfl⟩ := hv
        rfl)
      rw [this, hlen]
    · unfold FillAt
      rw [setRow_heap w g _ _ 5 (0, 0) h]
      rw [hlen]
      simp
theorem ans_quo {L : List Int} {n : Nat} (hl : L.length = n) (hn : n ≤ 16000) (hb : ∀ x ∈ L, 0 ≤ x ∧ x < 256) : ansL (bs (quoL L)) = [bs L] ∧ ansE (bs (quoL L)) = 0 ∧ (bs (quoL L)).size ≤ 281474976710656 := by
  have hs : (bs (quoL L)).size ≤ 65536 := by
    rw [bs_len]
    have := quoL_len L
    omega
  have hw : wordsO (strN (bs (quoL L))) = some [bs L] := by rw [strN_bs _ (quoL_byte hb)]; exact quoL_one L hb
  refine ⟨?_, ?_, by omega⟩
  · unfold ansL; rw [if_neg (by omega), hw]; rfl
  · unfold ansE; rw [if_neg (by omega), hw]; rfl
set_option linter.unusedSimpArgs false in
set_option maxRecDepth 100000 in
set_option maxHeartbeats 4000000 in
theorem lawQuotes (a : Option Addr) (n0 c : Nat) (l : List Int) (w : World) (hE : EsAt w) (hl : l.length = n0) (hc : n0 ≤ c) (hS : Src u8E w a l) (hb : ∀ x ∈ l, 0 ≤ x ∧ x < 256) (hn0 : n0 ≤ 281474976710656) :
    Calls Tryd.prog 4 #[.slice a n0 c] w fun e w' => e = .returned (.bool true) ∧ Kept w w' := by
  have HE := hide1 hE
  by_cases hbig : 16000 < n0
  · obtain ⟨L, hL⟩ : ∃ L, l.take 16000 = L := ⟨_, rfl⟩
    have HS : Hid (Src u8E w a L) := by rw [← hL]; exact src_take hS
    have HL : Hid (L.length = 16000) := by show _ = _; rw [← hL, List.length_take, hl]; omega
    have HB : Hid (∀ x ∈ L, 0 ≤ x ∧ x < 256) := fun x hx => hb x (List.mem_of_mem_take (by rw [hL]; exact hx))
    have hbI : (16000 : Int) < (n0 : Int) := by omega
    have hcI : (n0 : Int) ≤ (c : Int) := by omega
    have hn0I : (n0 : Int) ≤ 281474976710656 := by omega
    clear hE hS hb hl hL
    go_enter Tryd.func4, Tryd.ntmps4
    go_upto_region 3 with fail
    obtain ⟨n, hnn⟩ : ∃ n : Nat, 16000 = n := ⟨_, rfl⟩
    rw [hnn] at HL ⊢
    have hn : n ≤ 16000 := by omega
    have hcn : n ≤ c := by omega
    clear hnn hbig hbI hc hcI hn0 hn0I
    obtain ⟨N, hN⟩ : ∃ N : Nat, N = n + 70 := ⟨_, rfl⟩
    have hnI : (n : Int) ≤ 16000 := by omega
    have hNI : (N : Int) = (n : Int) + 70 := by omega
    have hmk := make_full n N hN (by omega)
    have HN0 := hide1 hN
    clear hN
    have HAQ := hide1 (ans_quo HL.out hn HB.out)
    obtain ⟨S, hSS⟩ : ∃ S, bs (quoL L) = S := ⟨_, rfl⟩
    rw [hSS] at HAQ
    have HSS := hide1 hSS
    clear hSS
    go_upto_region 4 with fail
    obtain ⟨g, hg0⟩ : ∃ g, w.heap.size = g := ⟨_, rfl⟩
    obtain ⟨wA, hwA⟩ : ∃ wA, w.alloc (.cells (Array.replicate N (.int .u8 0)) 5) = wA := ⟨_, rfl⟩
    have HKA : Hid (Kept w wA) := by rw [← hwA]; exact (Kept.refl w).alloc _ _
    have HFA : Hid (FillAt wA g (List.replicate N 0)) := by rw [← hwA, ← hg0]; show FillAt _ _ _; unfold FillAt; rw [heap_alloc_new w _]; simp
    rw [hwA]
    try rw [hg0]
    have HG0 := hide1 hg0
    obtain ⟨w2, hcp0, hF2, o1, o2, o3, o4, o5⟩ := copy_fill (c := c) (N := N) HFA.out (by simp) HL.out (by omega) (HS.out.keep HKA.out)
    have hcp := hcp0 3
    have HK2 : Hid (Kept w w2) := ⟨o1.trans HKA.out.1, o2.trans HKA.out.2.1, o3.trans HKA.out.2.2.1, by rw [o4]; exact HKA.out.size, fun k hk => (o5 k (by have := HG0.out; omega)).trans (HKA.out.2.2.2.2 k hk)⟩
    have HF2 : Hid (FillAt w2 g (L ++ (List.replicate N (0 : Int)).drop n)) := hF2
    clear hwA hg0 hmk hcp0 hF2 o1 o2 o3 o4 o5
    go_wp2_with fail
    clear hcp
    go_loopw [4] (fun i wr => ∃ (j : Nat) (cs : List Int), i = .int .i64 (j : Int) ∧ n ≤ j ∧ j ≤ N ∧ Hid (FillAt wr g cs) ∧ Hid (cs.length = N) ∧ Hid (∀ k, k < n → cs[k]? = L[k]?) ∧ Hid (∀ k, n ≤ k → k < j → cs[k]? = some 7) ∧ Hid (Kept w wr)) (fun i _ => N - (intOf i).toNat)
    case atStart => exact ⟨n, _, rfl, Nat.le_refl _, by omega, HF2.out, by show _ = _; rw [List.length_append, HL.out, List.length_drop, List.length_replicate]; omega, fun k hk => by rw [List.getElem?_append_left (by rw [HL.out]; exact hk)], fun k h1 h2 => by omega, HK2.out⟩
    case round =>
      obtain ⟨j, cs, rfl, hj1, hj2, HF, HCL, HEQ, H7, HKr⟩ := hrel
      by_cases hlt : (j : Int) < (N : Int)
      · obtain ⟨y, hy⟩ : ∃ y, cs[j]? = some y := ⟨_, List.getElem?_eq_getElem (by have := HCL.out; omega)⟩
        have hold := HF.out.cell hy
        have hfz := HF.out.free j
        clear hy
        go_wp2_with fail
        go_roundw
        case rel =>
          refine ⟨j + 1, cs.set j 7, by go_num, by omega, by omega, HF.out.put, (show _ = _ by rw [List.length_set]; exact HCL.out), fun k hk => ?_, fun k h1 h2 => ?_, kept_set HKr.out (by have := HG0.out; omega)⟩
          · rw [List.getElem?_set_ne (by omega)]
            exact HEQ.out k hk
          · by_cases e : j = k
            · subst e
              rw [List.getElem?_set_self (by have := HCL.out; omega)]
            · rw [List.getElem?_set_ne e]
              exact H7.out k h1 (by omega)
        case measure => simp [intOf]; omega
      · have hjN : j = N := by omega
        have HSG := hide1 (HF.out.src (L := L) (fun k hk => HEQ.out k (by rw [HL.out] at hk; exact hk)))
        have HQ := hide1 (quote_is (some ⟨g, 0, none⟩) n N L wr HL.out (by omega) HSG.out HB.out (by omega))
        have HD : Hid (∀ w5, Kept wr w5 → Calls Tryd.prog 9 #[.slice a n c] w5 fun e w' => e = .returned (.string (bs (quoL L))) ∧ Kept w5 w') := fun w5 hk => dQuote_is a n c L w5 HL.out hcn (HS.out.keep (gtrans HKr.out hk)) HB.out (by omega)
        rw [HSS.out] at HQ HD
        have hnN : (n : Int) ≤ (N : Int) := by omega
        go_wp2_with (first
          | (go_at_call 7; refine (HQ.out).mono ?_; rintro e w5 ⟨rfl, hk5⟩; have HK5 := hide1 hk5; clear hk5)
          | (go_at_call 9; refine (HD.out w5 HK5.out).mono ?_; rintro e w6 ⟨rfl, hk6⟩; have HK6 := hide1 hk6; clear hk6; have hcv1 : (convert 23 9 (.slice (some ⟨g, 0, none⟩) n N)).run Tryd.prog w6 = .ok (.string (bs L)) w6 := (by rw [← strD_bs]; exact src_conv (HSG.out.keep (gtrans HK5.out HK6.out)) HL.out); have hcv2 : (convert 23 9 (.slice a n c)).run Tryd.prog w6 = .ok (.string (bs L)) w6 := (by rw [← strD_bs]; exact src_conv (HS.out.keep (gtrans HKr.out (gtrans HK5.out HK6.out))) HL.out)))
        clear hcv1 hcv2
        have HKW := hide1 (gtrans HKr.out (gtrans HK5.out HK6.out))
        have HFW := hide1 (HF.out.keep (gtrans HK5.out HK6.out))
        go_loopw [7] (fun i wr => ∃ (k : Nat), i = .int .i64 (k : Int) ∧ n ≤ k ∧ k ≤ N ∧ Hid (Kept w6 wr)) (fun i _ => N - (intOf i).toNat)
        case atStart => exact ⟨n, rfl, Nat.le_refl _, by omega, Kept.refl _⟩
        case round =>
          obtain ⟨k, rfl, hk1, hk2, HK7⟩ := hrel
          by_cases hlt2 : (k : Int) < (N : Int)
          · have hold := (HFW.out.keep HK7.out).cell (H7.out k hk1 (by omega))
            go_wp2_with fail
            go_roundw
            case rel => exact ⟨k + 1, by go_num, by omega, by omega, HK7.out⟩
            case measure => simp [intOf]; omega
          · have HKX := hide1 (gtrans HKW.out HK7.out)
            have HW := hide1 ((words_is S wr (HE.out.keep HKX.out) HAQ.out.2.2).mono fun e w' h => wordsQ_of h)
            go_upto_region 19 with (go_at_call 8; refine (HW.out).mono ?_; rintro e w8 ⟨v8, rfl, hs8, _, hk8⟩; have HK8 := hide1 hk8; have HS8 := hide1 hs8; clear hk8 hs8)
            have e8 := HAQ.out.2.1
            rw [e8]
            obtain ⟨a8, c8, rfl, _, hc8, hsr8⟩ := (show StrR w8 v8 1 [bs L] by have := HS8.out; rw [HAQ.out.1] at this; exact this)
            obtain ⟨g8, o8, rfl, k8⟩ := src_at hsr8 (j := 0) rfl
            have HKZ := hide1 (gtrans HKX.out HK8.out)
            have hcv3 : ∀ m, (convert 23 9 (.slice a n c)).run Tryd.prog (w8.drewN m) = .ok (.string (bs L)) (w8.drewN m) := fun m => by rw [← strD_bs]; exact src_conv (HS.out.keep (gtrans HKZ.out (drewN_kept _ _))) HL.out
            have hcv4 : (convert 23 9 (.slice a n c)).run Tryd.prog w8 = .ok (.string (bs L)) w8 := by rw [← strD_bs]; exact src_conv (HS.out.keep HKZ.out) HL.out
            have hc8I : (1 : Int) ≤ (c8 : Int) := by omega
            obtain ⟨bL, hbL⟩ : ∃ bL, bs L = bL := ⟨_, rfl⟩
            rw [hbL] at hcv3 hcv4 k8
            rw [Nat.add_zero] at k8
            clear e8 hsr8 hc8 hbL
            go_quiet (fail)
            go_wp2_with fail
            go_ret
            exact ⟨rfl, gtrans HKZ.out (drewN_kept _ _)⟩
  · have HS := hide1 hS
    have HL := hide1 hl
    have HB := hide1 hb
    have hbI : ¬ (16000 : Int) < (n0 : Int) := by omega
    have hn : n0 ≤ 16000 := by omega
    have hcn : n0 ≤ c := hc
    obtain ⟨n, hnn⟩ : ∃ n : Nat, n0 = n := ⟨_, rfl⟩
    obtain ⟨L, hLL⟩ : ∃ L, l = L := ⟨_, rfl⟩
    rw [hnn] at HL hn hcn ⊢
    rw [hLL] at HL HS HB
    rw [hnn] at hbI
    clear hLL
    clear hE hS hb hl hc hn0 hbig hnn
    go_enter Tryd.func4, Tryd.ntmps4
    go_upto_region 3 with fail
    clear hbI
    obtain ⟨N, hN⟩ : ∃ N : Nat, N = n + 70 := ⟨_, rfl⟩
    have hnI : (n : Int) ≤ 16000 := by omega
    have hNI : (N : Int) = (n : Int) + 70 := by omega
    have hmk := make_full n N hN (by omega)
    have HN0 := hide1 hN
    clear hN
    have HAQ := hide1 (ans_quo HL.out hn HB.out)
    obtain ⟨S, hSS⟩ : ∃ S, bs (quoL L) = S := ⟨_, rfl⟩
    rw [hSS] at HAQ
    have HSS := hide1 hSS
    clear hSS
    go_upto_region 4 with fail
    obtain ⟨g, hg0⟩ : ∃ g, w.heap.size = g := ⟨_, rfl⟩
    obtain ⟨wA, hwA⟩ : ∃ wA, w.alloc (.cells (Array.replicate N (.int .u8 0)) 5) = wA := ⟨_, rfl⟩
    have HKA : Hid (Kept w wA) := by rw [← hwA]; exact (Kept.refl w).alloc _ _
    have HFA : Hid (FillAt wA g (List.replicate N 0)) := by rw [← hwA, ← hg0]; show FillAt _ _ _; unfold FillAt; rw [heap_alloc_new w _]; simp
    rw [hwA]
    try rw [hg0]
    have HG0 := hide1 hg0
    obtain ⟨w2, hcp0, hF2, o1, o2, o3, o4, o5⟩ := copy_fill (c := c) (N := N) HFA.out (by simp) HL.out (by omega) (HS.out.keep HKA.out)
    have hcp := hcp0 3
    have HK2 : Hid (Kept w w2) := ⟨o1.trans HKA.out.1, o2.trans HKA.out.2.1, o3.trans HKA.out.2.2.1, by rw [o4]; exact HKA.out.size, fun k hk => (o5 k (by have := HG0.out; omega)).trans (HKA.out.2.2.2.2 k hk)⟩
    have HF2 : Hid (FillAt w2 g (L ++ (List.replicate N (0 : Int)).drop n)) := hF2
    clear hwA hg0 hmk hcp0 hF2 o1 o2 o3 o4 o5
    go_wp2_with fail
    clear hcp
    go_loopw [4] (fun i wr => ∃ (j : Nat) (cs : List Int), i = .int .i64 (j : Int) ∧ n ≤ j ∧ j ≤ N ∧ Hid (FillAt wr g cs) ∧ Hid (cs.length = N) ∧ Hid (∀ k, k < n → cs[k]? = L[k]?) ∧ Hid (∀ k, n ≤ k → k < j → cs[k]? = some 7) ∧ Hid (Kept w wr)) (fun i _ => N - (intOf i).toNat)
    case atStart => exact ⟨n, _, rfl, Nat.le_refl _, by omega, HF2.out, by show _ = _; rw [List.length_append, HL.out, List.length_drop, List.length_replicate]; omega, fun k hk => by rw [List.getElem?_append_left (by rw [HL.out]; exact hk)], fun k h1 h2 => by omega, HK2.out⟩
    case round =>
      obtain ⟨j, cs, rfl, hj1, hj2, HF, HCL, HEQ, H7, HKr⟩ := hrel
      by_cases hlt : (j : Int) < (N : Int)
      · obtain ⟨y, hy⟩ : ∃ y, cs[j]? = some y := ⟨_, List.getElem?_eq_getElem (by have := HCL.out; omega)⟩
        have hold := HF.out.cell hy
        have hfz := HF.out.free j
        clear hy
        go_wp2_with fail
        go_roundw
        case rel =>
          refine ⟨j + 1, cs.set j 7, by go_num, by omega, by omega, HF.out.put, (show _ = _ by rw [List.length_set]; exact HCL.out), fun k hk => ?_, fun k h1 h2 => ?_, kept_set HKr.out (by have := HG0.out; omega)⟩
          · rw [List.getElem?_set_ne (by omega)]
            exact HEQ.out k hk
          · by_cases e : j = k
            · subst e
              rw [List.getElem?_set_self (by have := HCL.out; omega)]
            · rw [List.getElem?_set_ne e]
              exact H7.out k h1 (by omega)
        case measure => simp [intOf]; omega
      · have hjN : j = N := by omega
        have HSG := hide1 (HF.out.src (L := L) (fun k hk => HEQ.out k (by rw [HL.out] at hk; exact hk)))
        have HQ := hide1 (quote_is (some ⟨g, 0, none⟩) n N L wr HL.out (by omega) HSG.out HB.out (by omega))
        have HD : Hid (∀ w5, Kept wr w5 → Calls Tryd.prog 9 #[.slice a n c] w5 fun e w' => e = .returned (.string (bs (quoL L))) ∧ Kept w5 w') := fun w5 hk => dQuote_is a n c L w5 HL.out hcn (HS.out.keep (gtrans HKr.out hk)) HB.out (by omega)
        rw [HSS.out] at HQ HD
        have hnN : (n : Int) ≤ (N : Int) := by omega
        go_wp2_with (first
          | (go_at_call 7; refine (HQ.out).mono ?_; rintro e w5 ⟨rfl, hk5⟩; have HK5 := hide1 hk5; clear hk5)
          | (go_at_call 9; refine (HD.out w5 HK5.out).mono ?_; rintro e w6 ⟨rfl, hk6⟩; have HK6 := hide1 hk6; clear hk6; have hcv1 : (convert 23 9 (.slice (some ⟨g, 0, none⟩) n N)).run Tryd.prog w6 = .ok (.string (bs L)) w6 := (by rw [← strD_bs]; exact src_conv (HSG.out.keep (gtrans HK5.out HK6.out)) HL.out); have hcv2 : (convert 23 9 (.slice a n c)).run Tryd.prog w6 = .ok (.string (bs L)) w6 := (by rw [← strD_bs]; exact src_conv (HS.out.keep (gtrans HKr.out (gtrans HK5.out HK6.out))) HL.out)))
        clear hcv1 hcv2
        have HKW := hide1 (gtrans HKr.out (gtrans HK5.out HK6.out))
        have HFW := hide1 (HF.out.keep (gtrans HK5.out HK6.out))
        go_loopw [7] (fun i wr => ∃ (k : Nat), i = .int .i64 (k : Int) ∧ n ≤ k ∧ k ≤ N ∧ Hid (Kept w6 wr)) (fun i _ => N - (intOf i).toNat)
        case atStart => exact ⟨n, rfl, Nat.le_refl _, by omega, Kept.refl _⟩
        case round =>
          obtain ⟨k, rfl, hk1, hk2, HK7⟩ := hrel
          by_cases hlt2 : (k : Int) < (N : Int)
          · have hold := (HFW.out.keep HK7.out).cell (H7.out k hk1 (by omega))
            go_wp2_with fail
            go_roundw
            case rel => exact ⟨k + 1, by go_num, by omega, by omega, HK7.out⟩
            case measure => simp [intOf]; omega
          · have HKX := hide1 (gtrans HKW.out HK7.out)
            have HW := hide1 ((words_is S wr (HE.out.keep HKX.out) HAQ.out.2.2).mono fun e w' h => wordsQ_of h)
            go_upto_region 19 with (go_at_call 8; refine (HW.out).mono ?_; rintro e w8 ⟨v8, rfl, hs8, _, hk8⟩; have HK8 := hide1 hk8; have HS8 := hide1 hs8; clear hk8 hs8)
            have e8 := HAQ.out.2.1
            rw [e8]
            obtain ⟨a8, c8, rfl, _, hc8, hsr8⟩ := (show StrR w8 v8 1 [bs L] by have := HS8.out; rw [HAQ.out.1] at this; exact this)
            obtain ⟨g8, o8, rfl, k8⟩ := src_at hsr8 (j := 0) rfl
            have HKZ := hide1 (gtrans HKX.out HK8.out)
            have hcv3 : ∀ m, (convert 23 9 (.slice a n c)).run Tryd.prog (w8.drewN m) = .ok (.string (bs L)) (w8.drewN m) := fun m => by rw [← strD_bs]; exact src_conv (HS.out.keep (gtrans HKZ.out (drewN_kept _ _))) HL.out
            have hcv4 : (convert 23 9 (.slice a n c)).run Tryd.prog w8 = .ok (.string (bs L)) w8 := by rw [← strD_bs]; exact src_conv (HS.out.keep HKZ.out) HL.out
            have hc8I : (1 : Int) ≤ (c8 : Int) := by omega
            obtain ⟨bL, hbL⟩ : ∃ bL, bs L = bL := ⟨_, rfl⟩
            rw [hbL] at hcv3 hcv4 k8
            rw [Nat.add_zero] at k8
            clear e8 hsr8 hc8 hbL
            go_quiet (fail)
            go_wp2_with fail
            go_ret
            exact ⟨rfl, gtrans HKZ.out (drewN_kept _ _)⟩
end Sh
end Ex
end Go.Proofs.YtajmbplipjeojaaDoor
