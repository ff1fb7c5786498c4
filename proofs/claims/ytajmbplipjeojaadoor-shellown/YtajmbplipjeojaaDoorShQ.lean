import Derived.Test.YtajmbplipjeojaaDoorShQ0
import Derived.Test.YtajmbplipjeojaaDoorShE
namespace Go.Proofs.YtajmbplipjeojaaDoor
open Go.RowKit
attribute [local go_sem] Oper.semAt_some
namespace Ex
namespace Sh

theorem quo_cases {c : Int} (h : quoB c = false) : c < 32 ∨ c = 127 ∨ c = 34 ∨ c = 92 := by
  simp only [quoB, Bool.not_eq_false', Bool.or_eq_true, decide_eq_true_eq, beq_iff_eq] at h
  omega
theorem quo_not {c : Int} (h : quoB c = true) : ¬ c < 32 ∧ c ≠ 127 ∧ c ≠ 34 ∧ c ≠ 92 := by
  simp only [quoB, Bool.not_eq_true', Bool.or_eq_false_iff, decide_eq_false_iff_not, beq_eq_false_iff_ne] at h
  omega
theorem iter_lo {w : World} {b pos : Nat} {s : ByteArray} {v : Value} {l : List Int} (h : LO u8E w (b + 1) v l) : LO u8E (w.iterAt b s pos) (b + 1) v l :=
  h.same fun d hd => Lib.iterAt_other w b d s pos (by have := (h.lt' d hd).1; omega)
theorem grown_below0 {w0 w w' : World} {base : Nat} {row : Option Nat} (h : Below base w0 w) (hg : w.grownBy w' row) (hr : ∀ g, row = some g → base ≤ g) (hb : base ≤ w.heap.size) : Below base w0 w' :=
  h.trans ⟨hg.os, hg.tape, hg.output, hg.size, fun k hk => hg.block k (by omega) (fun e => by have := hr k e.symm; omega)⟩
set_option linter.unusedSimpArgs false in
set_option maxRecDepth 100000 in
set_option maxHeartbeats 4000000 in
theorem quoted_is (s : ByteArray) (w : World) (hE : EsAt w) (hs : s.size ≤ 65536) (h34 : (strN s)[0]? = some 34) :
    Calls Tryd.prog 22 #[.string s] w fun e w' => WordA s e ∧ Kept w w' := by
  have hpos : 0 < s.size := by rw [← strN_len]; exact (List.getElem?_eq_some_iff.1 h34).1
  have H34 := hide1 h34
  have HE := hide1 hE
  clear h34 hE
  go_enter Tryd.func22, Tryd.ntmps22
  go_wp2
  refine wp_scope_straight ?_
  go_wp2
  refine wp_label ?_
  go_wp2
  go_loopw [5, 6, 7] (fun o f e wr => ∃ (pos fr n oc : Nat) (oa : Option Addr) (out : List Int), e = .int .i64 (-1) ∧ f = .int .i64 (fr : Int) ∧ o = .slice oa n oc ∧ pos ≤ s.size ∧ 1 ≤ fr ∧ fr ≤ s.size ∧ wr.heap[w.heap.size]? = some (.stringIter s pos) ∧ n ≤ fr ∧
      Hid (Below w.heap.size w wr) ∧ Hid (out.length = n) ∧ Hid (LO u8E wr (w.heap.size + 1) (.slice oa n oc) out) ∧ Hid (QInv (strN s) fr out) ∧ Hid (∀ (i : Nat) (c : Int), fr ≤ i → i < pos → (strN s)[i]? = some c → quoB c = true) ∧ Hid (∀ (i : Nat) (c : Int), pos ≤ i → i < fr → (strN s)[i]? = some c → c < 128)) (fun _ _ _ wr => s.size - wr.iterPos w.heap.size)
  case atStart => exact ⟨0, 1, 0, 0, none, [], rfl, rfl, rfl, by omega, by omega, by omega, World.iter_heap w s 0, by omega, (Below.refl _ w).alloc (Nat.le_refl _) _, rfl, LO.nil _ _, qinv_start H34.out, fun i c h1 h2 => by omega, fun i c h1 h2 h3 => by
    obtain rfl : i = 0 := by omega
    rw [H34.out] at h3
    obtain rfl := Option.some.inj h3
    decide⟩
  case round =>
    obtain ⟨pos, fr, n, oc, oa, out, rfl, rfl, rfl, hp, hf1, hf2, hit, hnf, HBW, HN, HO, HQ, HQB, HLO⟩ := hrel
    by_cases hlt : pos < s.size
    · have hnx : ∀ ty, (Instr.next (.pointer (some ⟨w.heap.size, 0, none⟩)) true ty).run Tryd.prog wr = _ := fun ty => Lib.run_next_any_at wr w.heap.size s pos ty hit hlt
      have hat := strN_at s pos hlt
      have hit2 := Lib.iterAt_heap wr w.heap.size s pos (pos + (Utf8.decode s pos).2) hit
      have hbw2 := Lib.below_iterAt HBW.out (k := w.heap.size) (by omega) s (pos + (Utf8.decode s pos).2)
      have HO2 : Hid (LO u8E (wr.iterAt w.heap.size s (pos + (Utf8.decode s pos).2)) (w.heap.size + 1) (.slice oa n oc) out) := iter_lo HO.out
      generalize hW2 : wr.iterAt w.heap.size s (pos + (Utf8.decode s pos).2) = w2 at *
      by_cases ha : (s[pos]'hlt).toNat < 128
      · rw [decode_ascii s pos hlt ha] at hnx hit2
        clear hW2
        generalize hx : ((s[pos]'hlt).toNat : Int) = x at *
        have hx0 : 0 ≤ x := by omega
        have hx1 : x < 128 := by omega
        clear hx ha
        have HAT := hide1 hat
        have HBW2 := hide1 hbw2
        clear hat hbw2
        by_cases hpf : pos < fr
        · have hpfI : (pos : Int) < (fr : Int) := by omega
          go_wp2
          go_roundw
          case rel =>
            exact ⟨pos + 1, fr, n, oc, oa, out, by first | rfl | trivial, by first | rfl | trivial, by first | rfl | trivial, by omega, by omega, by omega, hit2, by omega, HBW2.out, HN.out, HO2.out, HQ.out, fun i c h1 h2 => by omega, fun i c h1 h2 h3 => HLO.out i c (by omega) h2 h3⟩
          case measure =>
            simp only [World.iterPos, hit2, hit]
            omega
        · have hpfI : ¬ (pos : Int) < (fr : Int) := by omega
          have HQM := hide1 (qinv_move HQ.out (show fr ≤ pos by omega) HQB.out)
          by_cases hqb : quoB x = true
          · obtain ⟨o1, o2, o3, o4⟩ := quo_not hqb
            have q2 : (x == 127) = false := beq_eq_false_iff_ne.2 o2
            have q3 : (x == 34) = false := beq_eq_false_iff_ne.2 o3
            have q4 : (x == 92) = false := beq_eq_false_iff_ne.2 o4
            have HX := hide1 hqb
            clear hqb
            go_wp2
            go_roundw
            case rel =>
              refine ⟨pos + 1, fr, n, oc, oa, out, by first | rfl | trivial, by first | rfl | trivial, by first | rfl | trivial, by omega, by omega, by omega, hit2, by omega, HBW2.out, HN.out, HO2.out, HQ.out, fun i c h1 h2 h3 => ?_, fun i c h1 h2 => by omega⟩
              by_cases hip : i = pos
              · subst hip
                rw [HAT.out] at h3
                obtain rfl := Option.some.inj h3
                exact HX.out
              · exact HQB.out i c h1 (by omega) h3
            case measure =>
              simp only [World.iterPos, hit2, hit]
              omega
          · have hqc := quo_cases (by simpa using hqb)
            clear hqb
            by_cases h34x : x = 34
            · subst h34x
              clear hqc
              have hps : (pos : Int) < (s.size : Int) := by omega
              have hfrI : (fr : Int) ≤ (pos : Int) := by omega
              have hsI : (s.size : Int) ≤ 65536 := by omega
              have hwl : w.heap.size < w2.heap.size := (Array.getElem?_eq_some_iff.1 hit2).1
              have HEX : Hid (strN (s.extract fr pos) = ((strN s).drop fr).take (pos - fr)) := strN_extract s fr pos
              have HXS : Hid ((s.extract fr pos).size = pos - fr) := by show _ = _; simp; omega
              have hsl2 : ∀ W, (Instr.slice 9 (.string s) (some (.int .i64 ((pos : Int) + 1))) none none).run Tryd.prog W = .ok (.string (s.extract (pos + 1) s.size)) W := fun W => by
                rw [run_slice_string_from_if W 9 s .i64 _ Tryd.underlying9, if_pos (by omega), show ((pos : Int) + 1).toNat = pos + 1 by omega]
              by_cases hend : pos + 1 < s.size
              · have hendI : (pos : Int) + 1 < (s.size : Int) := by omega
                have hendJ : (pos : Int) + 2 ≤ (s.size : Int) := by omega
                have H1 : Hid ((s.extract (pos + 1) (pos + 2)).size = 1) := by show _ = _; simp; omega
                obtain ⟨y, hy⟩ : ∃ y : Int, ((s[pos + 1]'hend).toNat : Int) = y := ⟨_, rfl⟩
                have hat1 := strN_at s (pos + 1) hend
                rw [hy] at hat1
                have HY : Hid (∀ h, (((s.extract (pos + 1) (pos + 2))[0]'h).toNat : Int) = y) := fun h => by rw [← hy, ByteArray.getElem_extract]
                have HAT1 := hide1 hat1
                have hsl1 : ∀ W, (Instr.slice 9 (.string s) (some (.int .i64 ((pos : Int) + 1))) (some (.int .i64 ((pos : Int) + 2))) none).run Tryd.prog W = .ok (.string (s.extract (pos + 1) (pos + 2))) W := fun W => by
                  rw [run_slice_string W 9 s .i64 .i64 _ _ Tryd.underlying9 (by omega) (by omega) (by omega), show ((pos : Int) + 1).toNat = pos + 1 by omega, show ((pos : Int) + 2).toNat = pos + 2 by omega]
                clear hat1 hy
                by_cases hbl : blank y = true
                · have HBL : Hid (∀ c, (strN s)[pos + 1]? = some c → blank c = true) := fun c hc => by rw [HAT1.out] at hc; obtain rfl := Option.some.inj hc; exact hbl
                  go_upto_region 17 with (go_at_call 33; refine (contains_is _ _ H1.out).mono ?_; rintro e w6 ⟨rfl, hw6⟩; have hw7 := hw6.symm; subst hw7; rw [HY.out])
                  have HWA : Hid (WordA s (.returned (.tuple #[.string (bs (out ++ strN (s.extract fr pos))), .string (s.extract (pos + 1) s.size), .bool true]))) := by
                    rw [HEX.out]
                    exact qinv_end HQM.out HAT.out HBL.out (by rw [List.length_append, List.length_take, HN.out]; omega)
                  refine wp_region_held_drew (S := fun _ => True) (by kernel_rfl) trivial (fun hHeld => ?_)
                  refine wpAnyH_take (i := 0) (v := .slice oa n oc) rfl (by kernel_rfl) (by kernel_rfl) (by kernel_rfl) (fun _ _ _ h => h) (Or.inl ⟨by rfl, fun w' hSw => ?_⟩) (by with_reducible assumption) ?_
                  · clear hSw
                    go_simp
                  try simp only [Act.put, List.getElem_toArray, List.getElem_cons_succ, List.getElem_cons_zero, List.setIfInBounds_toArray, List.set_cons_zero, List.set_cons_succ]
                  refine wpAnyH_take (i := 1) (v := .string s) rfl (by kernel_rfl) (by kernel_rfl) (by kernel_rfl) (fun _ _ _ h => h) (Or.inl ⟨by rfl, fun w' hSw => ?_⟩) (by with_reducible assumption) ?_
                  · clear hSw
                    go_simp
                  try simp only [Act.put, List.getElem_toArray, List.getElem_cons_succ, List.getElem_cons_zero, List.setIfInBounds_toArray, List.set_cons_zero, List.set_cons_succ]
                  refine wpAnyH_take (i := 2) (v := .int .i64 (fr : Int)) rfl (by kernel_rfl) (by kernel_rfl) (by kernel_rfl) (fun _ _ _ h => h) (Or.inl ⟨by rfl, fun w' hSw => ?_⟩) (by with_reducible assumption) ?_
                  · clear hSw
                    go_simp
                  try simp only [Act.put, List.getElem_toArray, List.getElem_cons_succ, List.getElem_cons_zero, List.setIfInBounds_toArray, List.set_cons_zero, List.set_cons_succ]
                  refine wpAnyH_take (i := 3) (v := .int .i64 (pos : Int)) rfl (by kernel_rfl) (by kernel_rfl) (by kernel_rfl) (fun _ _ _ h => h) (Or.inl ⟨by rfl, fun w' hSw => ?_⟩) (by with_reducible assumption) ?_
                  · clear hSw
                    go_simp
                  try simp only [Act.put, List.getElem_toArray, List.getElem_cons_succ, List.getElem_cons_zero, List.setIfInBounds_toArray, List.set_cons_zero, List.set_cons_succ]
                  refine wpAnyH_take (i := 4) (v := .string (s.extract fr pos)) rfl (by kernel_rfl) (by kernel_rfl) (by kernel_rfl) (fun _ _ _ h => h) (Or.inl ⟨by rfl, fun w' hSw => ?_⟩) (by with_reducible assumption) ?_
                  · clear hSw
                    go_simp
                  try simp only [Act.put, List.getElem_toArray, List.getElem_cons_succ, List.getElem_cons_zero, List.setIfInBounds_toArray, List.set_cons_zero, List.set_cons_succ]
                  refine wpAnyH_take (i := 7) (v := .string s) rfl (by kernel_rfl) (by kernel_rfl) (by kernel_rfl) (fun _ _ _ h => h) (Or.inl ⟨by rfl, fun w' hSw => ?_⟩) (by with_reducible assumption) ?_
                  · clear hSw
                    go_simp
                  try simp only [Act.put, List.getElem_toArray, List.getElem_cons_succ, List.getElem_cons_zero, List.setIfInBounds_toArray, List.set_cons_zero, List.set_cons_succ]
                  refine wpAnyH_take (i := 8) (v := .int .i64 (pos : Int)) rfl (by kernel_rfl) (by kernel_rfl) (by kernel_rfl) (fun _ _ _ h => h) (Or.inl ⟨by rfl, fun w' hSw => ?_⟩) (by with_reducible assumption) ?_
                  · clear hSw
                    go_simp
                  try simp only [Act.put, List.getElem_toArray, List.getElem_cons_succ, List.getElem_cons_zero, List.setIfInBounds_toArray, List.set_cons_zero, List.set_cons_succ]
                  refine wpAnyH_take (i := 9) (v := .int .i64 ((pos : Int) + 1)) rfl (by kernel_rfl) (by kernel_rfl) (by kernel_rfl) (fun _ _ _ h => h) (Or.inl ⟨by rfl, fun w' hSw => ?_⟩) (by with_reducible assumption) ?_
                  · clear hSw
                    go_simp
                    all_goals (rw [IntKind.wrap_i64]; omega)
                  try simp only [Act.put, List.getElem_toArray, List.getElem_cons_succ, List.getElem_cons_zero, List.setIfInBounds_toArray, List.set_cons_zero, List.set_cons_succ]
                  refine wpAnyH_take (i := 10) (v := .string (s.extract (pos + 1) s.size)) rfl (by kernel_rfl) (by kernel_rfl) (by kernel_rfl) (fun _ _ _ h => h) (Or.inl ⟨by rfl, fun w' hSw => ?_⟩) (by with_reducible assumption) ?_
                  · clear hSw
                    have h10 := hsl2 w'
                    go_simp
                  try simp only [Act.put, List.getElem_toArray, List.getElem_cons_succ, List.getElem_cons_zero, List.setIfInBounds_toArray, List.set_cons_zero, List.set_cons_succ]
                  refine wpAnyH_ready (rs := [5]) (by kernel_rfl) (by simp) ?_
                  refine AllReadyH.cons (i := 5) rfl (fun K hK => ?_) AllReadyH.nil
                  refine step_str rfl _ _ rfl (w.heap.size + 1) (.slice oa n oc) out (by rfl) (HO2.out.keep (drew_kept _)) (s.extract fr pos) (by rfl) (by rw [HN.out, HXS.out]; omega) (Nat.le_trans hwl (drew_kept _).size) ?_
                  intro v8 w8 ho8 hg8
                  obtain ⟨va, vc, hv8⟩ := ho8.form
                  rw [List.length_append, strN_len, HN.out, HXS.out] at hv8
                  subst hv8
                  have hcv : (convert 23 9 (.slice va (n + (pos - fr)) vc)).run Tryd.prog w8 = .ok (.string (bs (out ++ strN (s.extract fr pos)))) w8 := by
                    rw [← strD_bs]
                    exact src_conv ho8.src (by rw [List.length_append, strN_len, HN.out, HXS.out])
                  have HK8 : Hid (Kept w w8) := Kept.of (grown_below0 (HBW2.out.trans ((drew_kept w2).below.mono (Nat.le_of_lt hwl))) hg8 (fun g hg => by have := (HO2.out.lt' g hg).1; omega) (Nat.le_of_lt hwl))
                  refine hK.out _ _ trivial (fun hHeld9 => ?_)
                  clear hK K ho8 hg8
                  try simp only [Act.put, List.getElem_toArray, List.getElem_cons_succ, List.getElem_cons_zero, List.setIfInBounds_toArray, List.set_cons_zero, List.set_cons_succ]
                  refine wpAnyH_ready (rs := [6]) (by kernel_rfl) (by simp) ?_
                  refine AllReadyH.cons (i := 6) rfl (fun K hK => ?_) AllReadyH.nil
                  go_simp
                  refine hK.out _ _ trivial (fun hHeld10 => ?_)
                  clear hK K
                  try simp only [Act.put, List.getElem_toArray, List.getElem_cons_succ, List.getElem_cons_zero, List.setIfInBounds_toArray, List.set_cons_zero, List.set_cons_succ]
                  refine wpAnyH_take (i := 11) (v := .string (bs (out ++ strN (s.extract fr pos)))) rfl (by kernel_rfl) (by kernel_rfl) (by kernel_rfl) (fun _ _ _ h => h) (Or.inl ⟨by rfl, fun w' hSw => ?_⟩) (by with_reducible assumption) ?_
                  · clear hSw
                    go_simp
                  try simp only [Act.put, List.getElem_toArray, List.getElem_cons_succ, List.getElem_cons_zero, List.setIfInBounds_toArray, List.set_cons_zero, List.set_cons_succ]
                  refine wpAnyH_take (i := 12) (v := .string (s.extract (pos + 1) s.size)) rfl (by kernel_rfl) (by kernel_rfl) (by kernel_rfl) (fun _ _ _ h => h) (Or.inl ⟨by rfl, fun w' hSw => ?_⟩) (by with_reducible assumption) ?_
                  · clear hSw
                    go_simp
                  try simp only [Act.put, List.getElem_toArray, List.getElem_cons_succ, List.getElem_cons_zero, List.setIfInBounds_toArray, List.set_cons_zero, List.set_cons_succ]
                  refine wpAnyH_take (i := 13) (v := .bool true) rfl (by kernel_rfl) (by kernel_rfl) (by kernel_rfl) (fun _ _ _ h => h) (Or.inl ⟨by rfl, fun w' hSw => ?_⟩) (by with_reducible assumption) ?_
                  · clear hSw
                    go_simp
                  try simp only [Act.put, List.getElem_toArray, List.getElem_cons_succ, List.getElem_cons_zero, List.setIfInBounds_toArray, List.set_cons_zero, List.set_cons_succ]
                  refine wpAnyH_done (by kernel_rfl) ?_ _
                  go_wp2
                  show bodyPost Tryd.prog Tryd.f22 (fun e w' => WordA s e ∧ Kept w w') Exit.ret _ _
                  go_ret3
                  exact ⟨HWA.out, HK8.out⟩
                · have hbl2 : blank y = false := by simpa using hbl
                  have HZ := hide1 (qinv_wrong HQM.out HAT.out HAT1.out hbl2)
                  clear hbl
                  go_wp2_with (go_at_call 33; refine (contains_is _ _ H1.out).mono ?_; rintro e w6 ⟨rfl, hw6⟩; have hw7 := hw6.symm; subst hw7; rw [HY.out])
                  show bodyPost Tryd.prog Tryd.f22 (fun e w' => WordA s e ∧ Kept w w') Exit.ret _ _
                  exact bodyPost_ret (v := .tuple #[.string ⟨#[]⟩, .string ⟨#[]⟩, .bool false]) (by simp [results, Tryd.results22, go_sem]) rfl ⟨wordA_no (HZ.out), Kept.of HBW2.out⟩
              · have hendI : ¬ (pos : Int) + 1 < (s.size : Int) := by omega
                have HBL : Hid (∀ c, (strN s)[pos + 1]? = some c → blank c = true) := fun c hc => by
                  have := (List.getElem?_eq_some_iff.1 hc).1
                  rw [strN_len] at this
                  omega
                go_upto_region 17 with fail
                have HWA : Hid (WordA s (.returned (.tuple #[.string (bs (out ++ strN (s.extract fr pos))), .string (s.extract (pos + 1) s.size), .bool true]))) := by
                  rw [HEX.out]
                  exact qinv_end HQM.out HAT.out HBL.out (by rw [List.length_append, List.length_take, HN.out]; omega)
                refine wp_region_held_drew (S := fun _ => True) (by kernel_rfl) trivial (fun hHeld => ?_)
                refine wpAnyH_take (i := 0) (v := .slice oa n oc) rfl (by kernel_rfl) (by kernel_rfl) (by kernel_rfl) (fun _ _ _ h => h) (Or.inl ⟨by rfl, fun w' hSw => ?_⟩) (by with_reducible assumption) ?_
                · clear hSw
                  go_simp
                try simp only [Act.put, List.getElem_toArray, List.getElem_cons_succ, List.getElem_cons_zero, List.setIfInBounds_toArray, List.set_cons_zero, List.set_cons_succ]
                refine wpAnyH_take (i := 1) (v := .string s) rfl (by kernel_rfl) (by kernel_rfl) (by kernel_rfl) (fun _ _ _ h => h) (Or.inl ⟨by rfl, fun w' hSw => ?_⟩) (by with_reducible assumption) ?_
                · clear hSw
                  go_simp
                try simp only [Act.put, List.getElem_toArray, List.getElem_cons_succ, List.getElem_cons_zero, List.setIfInBounds_toArray, List.set_cons_zero, List.set_cons_succ]
                refine wpAnyH_take (i := 2) (v := .int .i64 (fr : Int)) rfl (by kernel_rfl) (by kernel_rfl) (by kernel_rfl) (fun _ _ _ h => h) (Or.inl ⟨by rfl, fun w' hSw => ?_⟩) (by with_reducible assumption) ?_
                · clear hSw
                  go_simp
                try simp only [Act.put, List.getElem_toArray, List.getElem_cons_succ, List.getElem_cons_zero, List.setIfInBounds_toArray, List.set_cons_zero, List.set_cons_succ]
                refine wpAnyH_take (i := 3) (v := .int .i64 (pos : Int)) rfl (by kernel_rfl) (by kernel_rfl) (by kernel_rfl) (fun _ _ _ h => h) (Or.inl ⟨by rfl, fun w' hSw => ?_⟩) (by with_reducible assumption) ?_
                · clear hSw
                  go_simp
                try simp only [Act.put, List.getElem_toArray, List.getElem_cons_succ, List.getElem_cons_zero, List.setIfInBounds_toArray, List.set_cons_zero, List.set_cons_succ]
                refine wpAnyH_take (i := 4) (v := .string (s.extract fr pos)) rfl (by kernel_rfl) (by kernel_rfl) (by kernel_rfl) (fun _ _ _ h => h) (Or.inl ⟨by rfl, fun w' hSw => ?_⟩) (by with_reducible assumption) ?_
                · clear hSw
                  go_simp
                try simp only [Act.put, List.getElem_toArray, List.getElem_cons_succ, List.getElem_cons_zero, List.setIfInBounds_toArray, List.set_cons_zero, List.set_cons_succ]
                refine wpAnyH_take (i := 7) (v := .string s) rfl (by kernel_rfl) (by kernel_rfl) (by kernel_rfl) (fun _ _ _ h => h) (Or.inl ⟨by rfl, fun w' hSw => ?_⟩) (by with_reducible assumption) ?_
                · clear hSw
                  go_simp
                try simp only [Act.put, List.getElem_toArray, List.getElem_cons_succ, List.getElem_cons_zero, List.setIfInBounds_toArray, List.set_cons_zero, List.set_cons_succ]
                refine wpAnyH_take (i := 8) (v := .int .i64 (pos : Int)) rfl (by kernel_rfl) (by kernel_rfl) (by kernel_rfl) (fun _ _ _ h => h) (Or.inl ⟨by rfl, fun w' hSw => ?_⟩) (by with_reducible assumption) ?_
                · clear hSw
                  go_simp
                try simp only [Act.put, List.getElem_toArray, List.getElem_cons_succ, List.getElem_cons_zero, List.setIfInBounds_toArray, List.set_cons_zero, List.set_cons_succ]
                refine wpAnyH_take (i := 9) (v := .int .i64 ((pos : Int) + 1)) rfl (by kernel_rfl) (by kernel_rfl) (by kernel_rfl) (fun _ _ _ h => h) (Or.inl ⟨by rfl, fun w' hSw => ?_⟩) (by with_reducible assumption) ?_
                · clear hSw
                  go_simp
                  all_goals (rw [IntKind.wrap_i64]; omega)
                try simp only [Act.put, List.getElem_toArray, List.getElem_cons_succ, List.getElem_cons_zero, List.setIfInBounds_toArray, List.set_cons_zero, List.set_cons_succ]
                refine wpAnyH_take (i := 10) (v := .string (s.extract (pos + 1) s.size)) rfl (by kernel_rfl) (by kernel_rfl) (by kernel_rfl) (fun _ _ _ h => h) (Or.inl ⟨by rfl, fun w' hSw => ?_⟩) (by with_reducible assumption) ?_
                · clear hSw
                  have h10 := hsl2 w'
                  go_simp
                try simp only [Act.put, List.getElem_toArray, List.getElem_cons_succ, List.getElem_cons_zero, List.setIfInBounds_toArray, List.set_cons_zero, List.set_cons_succ]
                refine wpAnyH_ready (rs := [5]) (by kernel_rfl) (by simp) ?_
                refine AllReadyH.cons (i := 5) rfl (fun K hK => ?_) AllReadyH.nil
                refine step_str rfl _ _ rfl (w.heap.size + 1) (.slice oa n oc) out (by rfl) (HO2.out.keep (drew_kept _)) (s.extract fr pos) (by rfl) (by rw [HN.out, HXS.out]; omega) (Nat.le_trans hwl (drew_kept _).size) ?_
                intro v8 w8 ho8 hg8
                obtain ⟨va, vc, hv8⟩ := ho8.form
                rw [List.length_append, strN_len, HN.out, HXS.out] at hv8
                subst hv8
                have hcv : (convert 23 9 (.slice va (n + (pos - fr)) vc)).run Tryd.prog w8 = .ok (.string (bs (out ++ strN (s.extract fr pos)))) w8 := by
                  rw [← strD_bs]
                  exact src_conv ho8.src (by rw [List.length_append, strN_len, HN.out, HXS.out])
                have HK8 : Hid (Kept w w8) := Kept.of (grown_below0 (HBW2.out.trans ((drew_kept w2).below.mono (Nat.le_of_lt hwl))) hg8 (fun g hg => by have := (HO2.out.lt' g hg).1; omega) (Nat.le_of_lt hwl))
                refine hK.out _ _ trivial (fun hHeld9 => ?_)
                clear hK K ho8 hg8
                try simp only [Act.put, List.getElem_toArray, List.getElem_cons_succ, List.getElem_cons_zero, List.setIfInBounds_toArray, List.set_cons_zero, List.set_cons_succ]
                refine wpAnyH_ready (rs := [6]) (by kernel_rfl) (by simp) ?_
                refine AllReadyH.cons (i := 6) rfl (fun K hK => ?_) AllReadyH.nil
                go_simp
                refine hK.out _ _ trivial (fun hHeld10 => ?_)
                clear hK K
                try simp only [Act.put, List.getElem_toArray, List.getElem_cons_succ, List.getElem_cons_zero, List.setIfInBounds_toArray, List.set_cons_zero, List.set_cons_succ]
                refine wpAnyH_take (i := 11) (v := .string (bs (out ++ strN (s.extract fr pos)))) rfl (by kernel_rfl) (by kernel_rfl) (by kernel_rfl) (fun _ _ _ h => h) (Or.inl ⟨by rfl, fun w' hSw => ?_⟩) (by with_reducible assumption) ?_
                · clear hSw
                  go_simp
                try simp only [Act.put, List.getElem_toArray, List.getElem_cons_succ, List.getElem_cons_zero, List.setIfInBounds_toArray, List.set_cons_zero, List.set_cons_succ]
                refine wpAnyH_take (i := 12) (v := .string (s.extract (pos + 1) s.size)) rfl (by kernel_rfl) (by kernel_rfl) (by kernel_rfl) (fun _ _ _ h => h) (Or.inl ⟨by rfl, fun w' hSw => ?_⟩) (by with_reducible assumption) ?_
                · clear hSw
                  go_simp
                try simp only [Act.put, List.getElem_toArray, List.getElem_cons_succ, List.getElem_cons_zero, List.setIfInBounds_toArray, List.set_cons_zero, List.set_cons_succ]
                refine wpAnyH_take (i := 13) (v := .bool true) rfl (by kernel_rfl) (by kernel_rfl) (by kernel_rfl) (fun _ _ _ h => h) (Or.inl ⟨by rfl, fun w' hSw => ?_⟩) (by with_reducible assumption) ?_
                · clear hSw
                  go_simp
                try simp only [Act.put, List.getElem_toArray, List.getElem_cons_succ, List.getElem_cons_zero, List.setIfInBounds_toArray, List.set_cons_zero, List.set_cons_succ]
                refine wpAnyH_done (by kernel_rfl) ?_ _
                go_wp2
                show bodyPost Tryd.prog Tryd.f22 (fun e w' => WordA s e ∧ Kept w w') Exit.ret _ _
                go_ret3
                exact ⟨HWA.out, HK8.out⟩
            · have q3 : (x == 34) = false := beq_eq_false_iff_ne.2 h34x
              by_cases h92 : x = 92
              · subst h92
                clear hqc
                have HEA := hide1 (HE.out.keep (Kept.of HBW2.out))
                have HESC := hide1 (escape_is (s.extract pos s.size) w2 HEA.out (by simp; omega) (by simp; omega))
                rw [show (strN (s.extract pos s.size)).drop 1 = (strN s).drop (pos + 1) by rw [drop_str, List.drop_drop]] at HESC
                have hps : (pos : Int) ≤ (s.size : Int) := by omega
                by_cases hz : (escM ((strN s).drop (pos + 1))).2 = 0
                · have HZ := hide1 (qinv_zero HQM.out HAT.out hz)
                  obtain ⟨p, hp2⟩ : ∃ p, escM ((strN s).drop (pos + 1)) = p := ⟨_, rfl⟩
                  rw [hp2] at HESC hz
                  obtain ⟨p1, p2⟩ := p
                  simp only at hz
                  subst hz
                  clear hp2
                  go_wp2_with (go_at_call 32; refine (HESC.out).mono ?_; rintro e w6 ⟨hk6, rfl⟩; have HK6 := hide1 hk6; clear hk6)
                  show bodyPost Tryd.prog Tryd.f22 (fun e w' => WordA s e ∧ Kept w w') Exit.ret _ _
                  exact bodyPost_ret (v := .tuple #[.string ⟨#[]⟩, .string ⟨#[]⟩, .bool false]) (by simp [results, Tryd.results22, go_sem]) rfl ⟨wordA_no (HZ.out), gtrans (Kept.of HBW2.out) HK6.out⟩
                · obtain ⟨m, hm1, hm2, hm3, hm4, hm5, hm6, hm7⟩ := qinv_esc HQM.out HAT.out hz
                  obtain ⟨p, hp2⟩ : ∃ p, escM ((strN s).drop (pos + 1)) = p := ⟨_, rfl⟩
                  rw [hp2] at HESC hm1 hm5 hm6 hm7
                  obtain ⟨p1, p2⟩ := p
                  simp only at hm1 hm5 hm6 hm7
                  subst hm1
                  rw [strN_len] at hm3
                  have HM4 := hide1 hm4
                  have HM7 := hide1 hm7
                  have hmz : ((m : Int) == 0) = false := beq_eq_false_iff_ne.2 (by omega)
                  have hfrI : (fr : Int) ≤ (pos : Int) := by omega
                  have hm3I : (pos : Int) + (m : Int) ≤ (s.size : Int) := by omega
                  have hsI : (s.size : Int) ≤ 65536 := by omega
                  clear hp2 hz hm4 hm7
                  have hwl : w.heap.size < w2.heap.size := (Array.getElem?_eq_some_iff.1 hit2).1
                  have HEX : Hid (strN (s.extract fr pos) = ((strN s).drop fr).take (pos - fr)) := strN_extract s fr pos
                  have HXS : Hid ((s.extract fr pos).size = pos - fr) := by show _ = _; simp; omega
                  go_wp2_with (first
                    | (go_at_call 32; refine (HESC.out).mono ?_; rintro e w6 ⟨hk6, rfl⟩; have HK6 := hide1 hk6; clear hk6)
                    | (at_builtin; have _g := HW8; clear _g; go_must (refine wpl_lo (E := u8E) rfl _ _ rfl (w.heap.size + 1) (.slice va (n + (pos - fr)) vc) (out ++ strN (s.extract fr pos)) (n + (pos - fr)) HVL.out (by rfl) (HW8.out.keep ((Kept.refl w8).alloc _ _)) w8.heap.size p1 (by rfl) (heap_alloc_new w8 _) (by show (n + (pos - fr) + 1) * 1 ≤ 140737488355328; omega) (by unfold maxLen; omega) (Nat.le_trans hb8 ((Kept.refl w8).alloc _ _).size) ?_); intro g9 c9 w9 ho9 hg9 hor9 hlt9; have HO9 := hide1 ho9; have HG9 := hide1 hg9; clear ho9 hg9 hor9 hlt9)
                    | (at_builtin; go_must (refine wpl_str rfl _ _ rfl (w.heap.size + 1) (.slice oa n oc) out (by rfl) (HO2.out.keep HK6.out) (s.extract fr pos) (by rfl) (by rw [HN.out, HXS.out]; omega) (Nat.le_trans hwl HK6.out.size) ?_); intro v8 w8 ho8 hg8; obtain ⟨va, vc, hv8⟩ := ho8.form; rw [List.length_append, strN_len, HN.out, HXS.out] at hv8; subst hv8; have HVL : Hid ((out ++ strN (s.extract fr pos)).length = n + (pos - fr)) := (by show (out ++ strN (s.extract fr pos)).length = n + (pos - fr); rw [List.length_append, strN_len, HN.out, HXS.out]); have hb8 : w.heap.size + 1 ≤ w8.heap.size := Nat.le_trans (Nat.le_trans hwl HK6.out.size) hg8.size; have HG8 := hide1 hg8; have HW8 := hide1 ho8; clear ho8 hg8))
                  have hit6 : w6.heap[w.heap.size]? = some (.stringIter s (pos + 1)) := (HK6.out.2.2.2.2 _ hwl).trans hit2
                  have hit8 : w8.heap[w.heap.size]? = some (.stringIter s (pos + 1)) := (HG8.out.block _ (Nat.lt_of_lt_of_le hwl HK6.out.size) (fun e => by have := ((HO2.out.keep HK6.out).lt' _ e.symm).1; omega)).trans hit6
                  have hit9 : w9.heap[w.heap.size]? = some (.stringIter s (pos + 1)) := (HG9.out.block _ (by simp; omega) (fun e => by have := (HW8.out.lt' _ e.symm).1; omega)).trans ((heap_alloc_old w8 _ (by omega)).trans hit8)
                  have HB6 : Hid (Below w.heap.size w w6) := HBW2.out.trans (HK6.out.below.mono (by omega))
                  have HB8 : Hid (Below w.heap.size w w8) := grown_below0 HB6.out HG8.out (fun g hg => by have := ((HO2.out.keep HK6.out).lt' g hg).1; omega) (by have := HK6.out.size; omega)
                  have HB9 : Hid (Below w.heap.size w w9) := grown_below0 (HB8.out.trans (((Kept.refl w8).alloc _ _).below.mono (by omega))) HG9.out (fun g hg => by have := (HW8.out.lt' g hg).1; omega) (by simp; omega)
                  go_roundw
                  case rel =>
                    refine ⟨pos + 1, pos + m, n + (pos - fr) + 1, c9, some ⟨g9, 0, none⟩, out ++ strN (s.extract fr pos) ++ [p1], by first | rfl | trivial, by first | rfl | go_num, by first | rfl | trivial, by omega, by omega, by omega, hit9, by omega, HB9.out, ?_, HO9.out, ?_, fun i c h1 h2 => by omega, fun i c h1 h2 h3 => HM4.out i c (by omega) h2 h3⟩
                    · show _ = _
                      rw [List.length_append, HVL.out, List.length_singleton]
                    · rw [HEX.out]
                      exact HM7.out
                  case measure =>
                    simp only [World.iterPos, hit9, hit]
                    omega
              · have q4 : (x == 92) = false := beq_eq_false_iff_ne.2 h92
                have hodd : x < 32 ∨ x = 127 := by omega
                have HZ := hide1 (qinv_odd HQM.out HAT.out hodd)
                rcases hodd with o1 | rfl
                all_goals
                  go_wp2
                  show bodyPost Tryd.prog Tryd.f22 (fun e w' => WordA s e ∧ Kept w w') Exit.ret _ _
                  exact bodyPost_ret (v := .tuple #[.string ⟨#[]⟩, .string ⟨#[]⟩, .bool false]) (by simp [results, Tryd.results22, go_sem]) rfl ⟨wordA_no (HZ.out), Kept.of HBW2.out⟩
      · have hhi := decode_high s pos hlt (by omega)
        have hrb := rune_bytes s pos hlt (by omega)
        have hwd := hhi.2
        have hdl := decode_le s pos
        have hr0' : 128 ≤ ((Utf8.decode s pos).1 : Int) := by omega
        have hpf : ¬ pos < fr := fun h => by
          have h1 := HLO.out pos _ (Nat.le_refl _) h (strN_at s pos hlt)
          omega
        have hpfI : ¬ (pos : Int) < (fr : Int) := by omega
        generalize hD : ((Utf8.decode s pos).1 : Int) = r at *
        generalize hK : (Utf8.decode s pos).2 = k at *
        have hr0 : 128 ≤ r := hr0'
        have HRB := hide1 hrb
        have q1 : ¬ r < 32 := by omega
        have q2 : (r == 127) = false := beq_eq_false_iff_ne.2 (by omega)
        have q3 : (r == 34) = false := beq_eq_false_iff_ne.2 (by omega)
        have q4 : (r == 92) = false := beq_eq_false_iff_ne.2 (by omega)
        clear hat hrb hhi hW2 hD hK hdl ha hr0'
        have HBW2 := hide1 hbw2
        clear hbw2
        go_wp2
        go_roundw
        case rel =>
          refine ⟨pos + k, fr, n, oc, oa, out, by first | rfl | trivial, by first | rfl | trivial, by first | rfl | trivial, HRB.out.1, by omega, by omega, hit2, by omega, HBW2.out, HN.out, HO2.out, HQ.out, fun i c h1 h2 h3 => ?_, fun i c h1 h2 => by omega⟩
          by_cases hip : i < pos
          · exact HQB.out i c h1 hip h3
          · have hl : i < s.size := by have := HRB.out.1; omega
            have h128 := HRB.out.2 i hl (by omega) h2
            rw [strN_at s i hl] at h3
            obtain rfl := Option.some.inj h3
            simp [quoB]
            omega
        case measure =>
          simp only [World.iterPos, hit2, hit]
          omega
    · have hnx : ∀ ty, (Instr.next (.pointer (some ⟨w.heap.size, 0, none⟩)) true ty).run Tryd.prog wr = _ := fun ty => Lib.run_next_end_at wr w.heap.size s pos ty hit hlt
      have HZ : Hid (∀ ws dg, fin (runS (start ws dg) (strN s)) = none) := by
        have hle : fr ≤ pos := by omega
        have hps : pos = s.size := by omega
        have h1 := qinv_move HQ.out hle HQB.out
        rw [hps, ← strN_len] at h1
        exact qinv_open h1
      go_wp2
      show bodyPost Tryd.prog Tryd.f22 (fun e w' => WordA s e ∧ Kept w w') Exit.ret _ _
      exact bodyPost_ret (v := .tuple #[.string ⟨#[]⟩, .string ⟨#[]⟩, .bool false]) (by simp [results, Tryd.results22, go_sem]) rfl ⟨wordA_no (HZ.out), Kept.of HBW.out⟩

end Sh
end Ex
end Go.Proofs.YtajmbplipjeojaaDoor
