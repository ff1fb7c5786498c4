import Derived.Test.YtbnchnlogikecaaGreatDoorPExO6
import Derived.Test.YtbnchnlogikecaaGreatDoorPGs5
import Derived.Deep.DeepMust
import Derived.Deep.Cut
import Derived.BigQuiet
import Derived.Deep.RegionHeld3
namespace Go.Proofs.YtbnchnlogikecaaGreatDoor
open Go.RowKit
attribute [local go_sem] Oper.semAt_some
set_option linter.unusedSimpArgs false
set_option maxRecDepth 100000
set_option maxHeartbeats 4000000
namespace Ex
theorem ParseU_good (T : ByteArray) (p : Pat) (k f : Int) (w : World) (hT : T.size ≤ 4096) (hW : wholeA T (0, 0, 0) = (p, k, 0, f)) (hC : checkP p.2 = 0) :
    Calls Tryz.prog 121 #[.string T] w fun r w' => Hid (∃ v, r = .returned (.tuple #[v, .agg #[.int .i64 0, .int .i64 0, .string ⟨#[]⟩]]) ∧ PatU (fun d => w.heap.size ≤ d) w' p v) ∧ Kept w w' := by
  have HW0 := hide1 hW
  have HC := hide1 hC
  have gT : (T.size : Int) ≤ 4096 := by omega
  clear hW hC
  go_enter Tryz.func121, Tryz.ntmps121
  go_wp2_with (first
    | (go_at_call 127; refine (wholeU_is T 0 0 0 (w.heap.size + 1 + 1) _ (reader_new _ _ (by simp)) (by omega) (by omega) hT).mono ?_; rintro r w7 ⟨⟨v7, rfl, u7, rfl, hkk⟩, hg⟩; rw [HW0.out] at hg hkk ⊢; rw [valOf_eq]; obtain ⟨a7, c7, e7⟩ := hkk.form; subst e7; obtain ⟨hok7, hk7, hw7⟩ := hg; have HK := hide1 hk7; have HW := hide1 hw7; have HKI := hide1 (KidsO.mono (S' := fun d => w.heap.size + 1 + 1 < d) (fun _ _ _ => rfl) (fun d h => by have h2 := h; simp at h2; omega) _ _ _ hkk); obtain ⟨c0, c1, c2, c3, c4⟩ := HW.out.cells; obtain ⟨z0, z1, z2, z3, z4⟩ := HW.out.free; have hb7 := HW.out.lt; clear hkk hk7 hw7 hok7)
    | (go_at_call 45; refine (Check_is (fun d => w.heap.size + 1 + 1 < d ∧ d < w7.heap.size) p.1 p.2 _ _ ((KidsO.at_ _ (fun _ h => h) _ _ HKI.out.tight).kept ((Kept.refl _).alloc _ _)) (fun d hd => by simp; omega)).mono ?_; rintro r w8 ⟨rfl, hk8⟩; rw [HC.out]; have HK8 := hide1 hk8; have HW := hide1 ((HW.out.keep ((Kept.refl _).alloc _ _)).keep hk8); have HBE := hide1 ((BoxAt.new w7 _ _ _ _ _ _).keep hk8); have HG0 := hide1 (show BoxAt w8 w.heap.size (.int .i64 0) (.int .i64 0) (.int .i64 0) (.int .i64 0) (.int .i64 0) (.slice none 0 0) from parse_box0 HK.out hk8); have HG1 := hide1 (parse_box1 HK.out hk8); obtain ⟨c0, c1, c2, c3, c4⟩ := HW.out.cells; obtain ⟨z0, z1, z2, z3, z4⟩ := HW.out.free; obtain ⟨⟨q0, q1, q2, q3, q4, q5⟩, _⟩ := HBE.out.facts; obtain ⟨⟨p0, p1, p2, p3, p4, p5⟩, x0, x1, x2, x3, x4, x5⟩ := HG0.out.facts; obtain ⟨⟨r0, r1, r2⟩, s0, s1, s2⟩ := fault_facts HG1.out; have hsz := hk8.size; clear hk8))
  (try simp only [Exit.inBlock, Exit.then])
  refine bodyPost_ret (parse_results rfl _ _ w.heap.size (w.heap.size + 1) _ _ _ _ _ _ _ _ _ rfl (heap_set (heap_set (heap_set (BoxAt.set (y0 := .int .i64 0) (y1 := .int .i64 0) (y2 := .int .i64 0) (y3 := .int .i64 0) (y4 := .int .i64 0) (y5 := .slice none 0 0) (heap_set HG0.out (by omega))) (by omega)) (by omega)) (by omega)) rfl (FaultAt.set (y0 := .int .i64 0) (y1 := .int .i64 0) (y2 := .string ⟨#[]⟩) (heap_set (heap_set (heap_set (heap_set (heap_set (heap_set (heap_set HG1.out (by omega)) (by omega)) (by omega)) (by omega)) (by omega)) (by omega)) (by omega)))) rfl ?_
  have hkw : Kept w w8 := parse_kept HK.out HK8.out
  refine ⟨⟨_, rfl, _, rfl, ?_⟩, ?_⟩
  · refine KidsO.mono (S := fun d => w.heap.size + 1 + 1 < d) ?_ (fun d h => by omega) _ _ _ ((HKI.out.kept ((Kept.refl _).alloc _ _)).kept HK8.out)
    exact ((((((((((HoldsU.set (fun _ _ _ => rfl) (by omega)).set (by omega)).set (by omega)).set (by omega)).set (by omega)).set (by omega)).set (by omega)).set (by omega)).set (by omega)).set (by omega))
  · exact (((((((((hkw.set (by omega)).set (by omega)).set (by omega)).set (by omega)).set (by omega)).set (by omega)).set (by omega)).set (by omega)).set (by omega)).set (by omega)
theorem ParseU_fault (T : ByteArray) (p : Pat) (k e f : Int) (w : World) (hT : T.size ≤ 4096) (hW : wholeA T (0, 0, 0) = (p, k, e, f)) (he : e ≠ 0) :
    Calls Tryz.prog 121 #[.string T] w fun r w' => r = .returned (.tuple #[zeroV, .agg #[.int .i64 e, .int .i64 f, .string ByteArray.empty]]) ∧ Kept w w' := by
  have HW0 := hide1 hW
  have gT : (T.size : Int) ≤ 4096 := by omega
  unfold zeroV
  clear hW
  go_enter Tryz.func121, Tryz.ntmps121
  go_wp2_with (first
    | (go_at_call 127; refine (wholeU_is T 0 0 0 (w.heap.size + 1 + 1) _ (reader_new _ _ (by simp)) (by omega) (by omega) hT).mono ?_; rintro r w7 ⟨⟨v7, rfl, u7, rfl, hkk0⟩, hg⟩; have hkk := KidsO.at_ _ (fun _ h => h) _ _ hkk0; clear hkk0; rw [HW0.out] at hg hkk ⊢; rw [valOf_eq]; obtain ⟨a7, c7, e7⟩ := hkk.form; subst e7; obtain ⟨hok7, hk7, hw7⟩ := hg; have HK := hide1 hk7; have HW := hide1 hw7; have HKI := hide1 (KidsAt.mono (S' := fun d => w.heap.size + 1 + 1 < d) (fun _ _ _ _ h => h) (fun d h => by have h2 := h; simp at h2; omega) _ _ _ hkk); obtain ⟨c0, c1, c2, c3, c4⟩ := HW.out.cells; obtain ⟨z0, z1, z2, z3, z4⟩ := HW.out.free; have hb7 := HW.out.lt; have HG0 := hide1 (show BoxAt _ w.heap.size (.int .i64 0) (.int .i64 0) (.int .i64 0) (.int .i64 0) (.int .i64 0) (.slice none 0 0) from parse_box0 (c := #[.int .i64 (kind p.2), .int .i64 (from_ p.2), .int .i64 (to_ p.2), .int .i64 (min_ p.2), .int .i64 (max_ p.2), .slice a7 (kids p.2).length c7]) (t := 70) hk7 (Kept.refl _)); have HG1 := hide1 (parse_box1 (c := #[.int .i64 (kind p.2), .int .i64 (from_ p.2), .int .i64 (to_ p.2), .int .i64 (min_ p.2), .int .i64 (max_ p.2), .slice a7 (kids p.2).length c7]) (t := 70) hk7 (Kept.refl _)); obtain ⟨⟨p0, p1, p2, p3, p4, p5⟩, x0, x1, x2, x3, x4, x5⟩ := HG0.out.facts; obtain ⟨⟨r0, r1, r2⟩, s0, s1, s2⟩ := fault_facts HG1.out; clear hkk hk7 hw7 hok7)
    | go_region)
  (try simp only [Exit.inBlock, Exit.then])
  refine bodyPost_ret (parse_results rfl _ _ w.heap.size (w.heap.size + 1) _ _ _ _ _ _ _ _ _ rfl (heap_drew (heap_set (heap_set (heap_set (BoxAt.set (y0 := .int .i64 0) (y1 := .int .i64 0) (y2 := .int .i64 0) (y3 := .int .i64 0) (y4 := .int .i64 0) (y5 := .slice none 0 0) HG0.out) (by omega)) (by omega)) (by omega))) rfl (heap_drew (FaultAt.set (y0 := .int .i64 0) (y1 := .int .i64 0) (y2 := .string ⟨#[]⟩) (heap_set (heap_set (heap_set (heap_set (heap_set (heap_set HG1.out (by omega)) (by omega)) (by omega)) (by omega)) (by omega)) (by omega))))) rfl ?_
  have hkw := parse_kept (c := #[.int .i64 (kind p.2), .int .i64 (from_ p.2), .int .i64 (to_ p.2), .int .i64 (min_ p.2), .int .i64 (max_ p.2), .slice a7 (kids p.2).length c7]) (t := 70) HK.out (Kept.refl _)
  exact ⟨rfl, gtrans (((((((((hkw.set (by omega)).set (by omega)).set (by omega)).set (by omega)).set (by omega)).set (by omega)).set (by omega)).set (by omega)).set (by omega)) (drew_kept _)⟩
theorem ParseU_check (T : ByteArray) (p : Pat) (k f c : Int) (w : World) (hT : T.size ≤ 4096) (hW : wholeA T (0, 0, 0) = (p, k, 0, f)) (hC : checkP p.2 = c) (hc : c ≠ 0) :
    Calls Tryz.prog 121 #[.string T] w fun r w' => r = .returned (.tuple #[zeroV, .agg #[.int .i64 c, .int .i64 f, .string ByteArray.empty]]) ∧ Kept w w' := by
  have HW0 := hide1 hW
  have HC := hide1 hC
  have gT : (T.size : Int) ≤ 4096 := by omega
  unfold zeroV
  clear hW hC
  go_enter Tryz.func121, Tryz.ntmps121
  go_wp2_with (first
    | (go_at_call 127; refine (wholeU_is T 0 0 0 (w.heap.size + 1 + 1) _ (reader_new _ _ (by simp)) (by omega) (by omega) hT).mono ?_; rintro r w7 ⟨⟨v7, rfl, u7, rfl, hkk0⟩, hg⟩; have hkk := KidsO.at_ _ (fun _ h => h) _ _ hkk0; clear hkk0; rw [HW0.out] at hg hkk ⊢; rw [valOf_eq]; obtain ⟨a7, c7, e7⟩ := hkk.form; subst e7; obtain ⟨hok7, hk7, hw7⟩ := hg; have HK := hide1 hk7; have HW := hide1 hw7; have HKI := hide1 (KidsAt.mono (S' := fun d => w.heap.size + 1 + 1 < d) (fun _ _ _ _ h => h) (fun d h => by have h2 := h; simp at h2; omega) _ _ _ hkk); obtain ⟨c0, c1, c2, c3, c4⟩ := HW.out.cells; obtain ⟨z0, z1, z2, z3, z4⟩ := HW.out.free; have hb7 := HW.out.lt; clear hkk hk7 hw7 hok7)
    | (go_at_call 45; refine (Check_is (fun d => w.heap.size + 1 + 1 < d ∧ d < w7.heap.size) p.1 p.2 _ _ (HKI.out.tight.kept ((Kept.refl _).alloc _ _)) (fun d hd => by simp; omega)).mono ?_; rintro r w8 ⟨rfl, hk8⟩; rw [HC.out]; have HK8 := hide1 hk8; have HW := hide1 ((HW.out.keep ((Kept.refl _).alloc _ _)).keep hk8); have HBE := hide1 ((BoxAt.new w7 _ _ _ _ _ _).keep hk8); have HG0 := hide1 (show BoxAt w8 w.heap.size (.int .i64 0) (.int .i64 0) (.int .i64 0) (.int .i64 0) (.int .i64 0) (.slice none 0 0) from parse_box0 HK.out hk8); have HG1 := hide1 (parse_box1 HK.out hk8); obtain ⟨c0, c1, c2, c3, c4⟩ := HW.out.cells; obtain ⟨z0, z1, z2, z3, z4⟩ := HW.out.free; obtain ⟨⟨q0, q1, q2, q3, q4, q5⟩, _⟩ := HBE.out.facts; obtain ⟨⟨p0, p1, p2, p3, p4, p5⟩, x0, x1, x2, x3, x4, x5⟩ := HG0.out.facts; obtain ⟨⟨r0, r1, r2⟩, s0, s1, s2⟩ := fault_facts HG1.out; have hsz := hk8.size; clear hk8)
    | go_region)
  (try simp only [Exit.inBlock, Exit.then])
  refine bodyPost_ret (parse_results rfl _ _ w.heap.size (w.heap.size + 1) _ _ _ _ _ _ _ _ _ rfl (heap_drew (heap_set (heap_set (heap_set (BoxAt.set (y0 := .int .i64 0) (y1 := .int .i64 0) (y2 := .int .i64 0) (y3 := .int .i64 0) (y4 := .int .i64 0) (y5 := .slice none 0 0) (heap_set HG0.out (by omega))) (by omega)) (by omega)) (by omega))) rfl (heap_drew (FaultAt.set (y0 := .int .i64 0) (y1 := .int .i64 0) (y2 := .string ⟨#[]⟩) (heap_set (heap_set (heap_set (heap_set (heap_set (heap_set (heap_set HG1.out (by omega)) (by omega)) (by omega)) (by omega)) (by omega)) (by omega)) (by omega))))) rfl ?_
  have hkw := parse_kept HK.out HK8.out
  exact ⟨rfl, gtrans ((((((((((hkw.set (by omega)).set (by omega)).set (by omega)).set (by omega)).set (by omega)).set (by omega)).set (by omega)).set (by omega)).set (by omega)).set (by omega)) (drew_kept _)⟩
theorem zeroU_pat (S : Nat → Prop) (w : World) : PatU S w zeroP zeroV := ⟨.slice none 0 0, rfl, kidsO_nil _ _ _ _ _ _ rfl⟩
theorem ParseU_is (T : ByteArray) (w : World) (hT : T.size ≤ 200000000000000) :
    Calls Tryz.prog 121 #[.string T] w fun r w' => Hid (∃ v, r = .returned (.tuple #[v, .agg #[.int .i64 (parseM T).2.1, .int .i64 (parseM T).2.2, .string ByteArray.empty]]) ∧ PatU (fun d => w.heap.size ≤ d) w' (parseM T).1 v) ∧ Kept w w' := by
  unfold parseM
  by_cases hl : 4096 < T.size
  · rw [if_pos hl]
    refine (ParseA_long T w hl hT).mono ?_
    rintro r w' ⟨rfl, hk⟩
    exact ⟨⟨zeroV, rfl, zeroU_pat _ _⟩, hk⟩
  · rw [if_neg hl]
    obtain ⟨⟨p, k, e, f⟩, hW⟩ : ∃ x, wholeA T (0, 0, 0) = x := ⟨_, rfl⟩
    rw [hW]
    dsimp only
    by_cases he : e = 0
    · subst he
      rw [if_neg (by simp)]
      by_cases hc : checkP p.2 = 0
      · rw [if_neg (by simpa using hc)]
        refine (ParseU_good T p k f w (by omega) hW hc).mono ?_
        rintro r w' ⟨h, hk⟩
        obtain ⟨v, rfl, hv⟩ := h.out
        exact ⟨⟨v, rfl, hv⟩, hk⟩
      · rw [if_pos hc]
        refine (ParseU_check T p k f _ w (by omega) hW rfl hc).mono ?_
        rintro r w' ⟨rfl, hk⟩
        exact ⟨⟨zeroV, rfl, zeroU_pat _ _⟩, hk⟩
    · rw [if_pos he]
      refine (ParseU_fault T p k e f w (by omega) hW he).mono ?_
      rintro r w' ⟨rfl, hk⟩
      exact ⟨⟨zeroV, rfl, zeroU_pat _ _⟩, hk⟩
end Ex
end Go.Proofs.YtbnchnlogikecaaGreatDoor
namespace Go.Proofs.YtbnchnlogikecaaGreatDoor
open Go.RowKit
attribute [local go_sem] Oper.semAt_some
set_option linter.unusedVariables false
set_option linter.unusedSimpArgs false
set_option maxRecDepth 100000
set_option maxHeartbeats 4000000
namespace Ex
namespace Gs
def opens (T : ByteArray) (k : Nat) : Prop := skipB T k < T.size ∧ peekP T ((skipB T k : Nat) : Int) = 47
theorem pattern_shut (T : ByteArray) (hT : T.size ≤ 100000) (b k : Nat) (w : World) (hs : ScAt w b T k) (hk : k ≤ T.size) (hp : ¬ opens T k) :
    Calls Tryz.prog 114 #[.pointer (some ⟨b, 0, none⟩)] w fun e w' => e = thrown 60 ((skipB T k : Nat) : Int) ⟨#[]⟩ ∧ KeptBut b w w' := by
  have HB := hide1 (blanks_is T hT b k)
  have HO := ((skipF_le T (T.size - k) k).2 hk)
  obtain ⟨o, ho⟩ : ∃ o, skipB T k = o := ⟨_, rfl⟩
  have HO : Hid (o ≤ T.size) := by rw [← ho]; exact HO
  unfold opens at hp
  rw [ho] at hp HB ⊢
  have HS := hide1 hs
  have HK := hide1 hk
  have gT : (T.size : Int) ≤ 100000 := by omega
  have gO : (o : Int) ≤ (T.size : Int) := by have := HO.out; omega
  have hbw := (Array.getElem?_eq_some_iff.1 hs.choose_spec.choose_spec.1).1
  clear hs hT hk ho
  have HM0 : Hid (Mv b k w (w.alloc (.cells #[.int .i64 0, .int .i64 0, .int .i64 0, .int .i64 0, .int .i64 0, .slice none 0 0] 70))) := (Mv.refl HS.out).kept HS.out ((Kept.refl w).alloc _ _)
  by_cases h1 : (o : Int) = (T.size : Int)
  · clear hp
    obtain rfl : o = T.size := by omega
    clear h1
    have e1 : ((T.size : Int) == (T.size : Int)) = true := by simp
    go_enter Tryz.func114, Tryz.ntmps114
    go_wp2_with (first
      | (go_at_call 84; go_must (refine (HB.out _ (HM0.out.at_ HS.out) HK.out).mono ?_; rintro e w6 ⟨rfl, hm6⟩; have HM6 := hide1 (HM0.out.trans hm6); obtain ⟨c0, c1, z1⟩ := (HM6.out.at_ HS.out).cells; clear hm6))
      | (go_at_call 51; go_must (refine (fail_is _ _ _ _).mono ?_; rintro e w7 ⟨rfl, hk7⟩; unfold thrown)))
    exact ⟨rfl, rfl, (HM6.out.kept HS.out hk7).1⟩
  · have e1 : ((o : Int) == (T.size : Int)) = false := by simpa using h1
    have gL : (o : Int) < (T.size : Int) := by omega
    have hil : o < T.size := by omega
    have hpk : peekP T (o : Int) = ((T[o]'hil).toNat : Int) := by unfold peekP; rw [dif_pos (by omega)]; rfl
    obtain ⟨ch, hch⟩ : ∃ c, ((T[o]'hil).toNat : Int) = c := ⟨_, rfl⟩
    have h2 : ch ≠ 47 := by
      intro h
      exact hp ⟨hil, by rw [hpk, hch, h]⟩
    have e2 : (ch == 47) = false := by simpa using h2
    have e3 : (ch != 47) = true := by simpa using h2
    clear hp hpk h2
    go_enter Tryz.func114, Tryz.ntmps114
    go_wp2_with (first
      | (go_at_call 84; go_must (refine (HB.out _ (HM0.out.at_ HS.out) HK.out).mono ?_; rintro e w6 ⟨rfl, hm6⟩; have HM6 := hide1 (HM0.out.trans hm6); obtain ⟨c0, c1, z1⟩ := (HM6.out.at_ HS.out).cells; clear hm6))
      | (go_at_call 51; go_must (refine (fail_is _ _ _ _).mono ?_; rintro e w7 ⟨rfl, hk7⟩; unfold thrown)))
    exact ⟨rfl, rfl, (HM6.out.kept HS.out hk7).1⟩
def clE (T : ByteArray) (o : Nat) : Option Nat :=
  match closU T o with
  | some i => if firstIdx (T.extract o i) 10 < 0 then some i else none
  | none => none
theorem closing_no (T : ByteArray) (hT : T.size ≤ 100000) (b k o : Nat) (w : World) (hs : ScAt w b T k) (ho : o < T.size) (hc : clE T o = none) :
    Calls Tryz.prog 120 #[.pointer (some ⟨b, 0, none⟩), .int .i64 (o : Int)] w fun e w' => (∃ x : Nat, e = .returned (.tuple #[.int .i64 (x : Int), .bool false])) ∧ Kept w w' := by
  refine (closing_is T hT b k o w hs ho).mono ?_
  intro e w' h
  unfold clE at hc
  cases hcu : closU T o with
  | none => rw [hcu] at h; exact ⟨⟨0, h.1⟩, h.2⟩
  | some i =>
    rw [hcu] at h hc
    dsimp only at hc h
    by_cases hf : firstIdx (T.extract o i) 10 < 0
    · rw [if_pos hf] at hc; cases hc
    · exact ⟨⟨i, by rw [h.1.2.2, decide_eq_false hf]⟩, h.2⟩
theorem closing_yes (T : ByteArray) (hT : T.size ≤ 100000) (b k o i : Nat) (w : World) (hs : ScAt w b T k) (ho : o < T.size) (hc : clE T o = some i) :
    Calls Tryz.prog 120 #[.pointer (some ⟨b, 0, none⟩), .int .i64 (o : Int)] w fun e w' => e = .returned (.tuple #[.int .i64 (i : Int), .bool true]) ∧ Hid (i < T.size ∧ o < i) ∧ Kept w w' := by
  refine (closing_is T hT b k o w hs ho).mono ?_
  intro e w' h
  unfold clE at hc
  cases hcu : closU T o with
  | none => rw [hcu] at hc; cases hc
  | some j =>
    rw [hcu] at h hc
    dsimp only at hc h
    by_cases hf : firstIdx (T.extract o j) 10 < 0
    · rw [if_pos hf] at hc
      injection hc with hc
      subst hc
      exact ⟨by rw [h.1.2.2, decide_eq_true hf], ⟨h.1.1, h.1.2.1⟩, h.2⟩
    · rw [if_neg hf] at hc; cases hc
theorem pattern_wide (T : ByteArray) (hT : T.size ≤ 100000) (b k : Nat) (w : World) (hs : ScAt w b T k) (hk : k ≤ T.size) (hp : opens T k) (hcl : clE T (skipB T k) = none) :
    Calls Tryz.prog 114 #[.pointer (some ⟨b, 0, none⟩)] w fun e w' => e = thrown 64 ((skipB T k : Nat) : Int) ⟨#[]⟩ ∧ KeptBut b w w' := by
  have HB := hide1 (blanks_is T hT b k)
  obtain ⟨o, ho⟩ : ∃ o, skipB T k = o := ⟨_, rfl⟩
  unfold opens at hp
  rw [ho] at hp HB hcl ⊢
  obtain ⟨hil, h47⟩ := hp
  have HS := hide1 hs
  have HK := hide1 hk
  have gT : (T.size : Int) ≤ 100000 := by omega
  have gL : (o : Int) < (T.size : Int) := by omega
  have HC : Hid (∀ w, ScAt w b T o → Calls Tryz.prog 120 #[.pointer (some ⟨b, 0, none⟩), .int .i64 (o : Int)] w fun e w' => (∃ x : Nat, e = .returned (.tuple #[.int .i64 (x : Int), .bool false])) ∧ Kept w w') := fun w h => closing_no T hT b o o w h hil hcl
  have hbw := (Array.getElem?_eq_some_iff.1 hs.choose_spec.choose_spec.1).1
  clear hs hT hk ho hcl
  have HM0 : Hid (Mv b k w (w.alloc (.cells #[.int .i64 0, .int .i64 0, .int .i64 0, .int .i64 0, .int .i64 0, .slice none 0 0] 70))) := (Mv.refl HS.out).kept HS.out ((Kept.refl w).alloc _ _)
  have e1 : ((o : Int) == (T.size : Int)) = false := by simp; omega
  have hpk : peekP T (o : Int) = ((T[o]'hil).toNat : Int) := by unfold peekP; rw [dif_pos (by omega)]; rfl
  obtain ⟨ch, hch⟩ : ∃ c, ((T[o]'hil).toNat : Int) = c := ⟨_, rfl⟩
  obtain rfl : ch = 47 := by rw [← hch, ← hpk]; exact h47
  clear hpk h47
  go_enter Tryz.func114, Tryz.ntmps114
  go_wp2_with (first
    | (go_at_call 84; go_must (refine (HB.out _ (HM0.out.at_ HS.out) HK.out).mono ?_; rintro e w6 ⟨rfl, hm6⟩; have HM6 := hide1 (HM0.out.trans hm6); obtain ⟨c0, c1, z1⟩ := (HM6.out.at_ HS.out).cells; clear hm6))
    | (go_at_call 120; go_must (refine (HC.out _ (HM6.out.at_ HS.out)).mono ?_; rintro e w8 ⟨⟨x8, rfl⟩, hk8⟩; have HM8 := hide1 (HM6.out.kept HS.out hk8); clear hk8))
    | (go_at_call 51; go_must (refine (fail_is _ _ _ _).mono ?_; rintro e w7 ⟨rfl, hk7⟩; unfold thrown)))
  exact ⟨rfl, rfl, (HM8.out.kept HS.out hk7).1⟩
end Gs
end Ex
end Go.Proofs.YtbnchnlogikecaaGreatDoor
