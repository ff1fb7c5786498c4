import Derived.Test.YtfajoknacfjedaaGreatDoorMExCl6
import Derived.Test.YtfajoknacfjedaaGreatDoorMExCl7
import Derived.Test.YtfajoknacfjedaaGreatDoorMExSe8
import Derived.Test.YtfajoknacfjedaaGreatDoorMExPw7
import Derived.Test.YtfajoknacfjedaaGreatDoorMExKn4
import Derived.Test.YtfajoknacfjedaaGreatDoorMExOa
import Derived.Test.YtfajoknacfjedaaGreatDoorMExO8
import Derived.Test.YtfajoknacfjedaaGreatDoorMExOd
namespace Go.Proofs.YtfajoknacfjedaaGreatDoor
open Go.RowKit
attribute [local go_sem] Oper.semAt_some
namespace Ex

set_option linter.unusedSimpArgs false in
set_option maxRecDepth 100000 in
set_option maxHeartbeats 4000000 in
theorem ParseU_good (T : ByteArray) (p : Pat) (k f : Int) (w : World) (hT : T.size ≤ 4096) (hW : wholeA T (0, 0, 0) = (p, k, 0, f)) (hC : checkP p.2 = 0) :
    Calls Tryz.prog 4 #[.string T] w fun r w' => Hid (∃ v, r = .returned (.tuple #[v, .agg #[.int .i64 0, .int .i64 0, .string ⟨#[]⟩]]) ∧ PatU (fun d => w.heap.size ≤ d) w' p v) ∧ Kept w w' := by
  have HW0 := hide1 hW
  have HC := hide1 hC
  have gT : (T.size : Int) ≤ 4096 := by omega
  clear hW hC
  go_enter Tryz.func4, Tryz.ntmps4
  go_wp2_with (first
    | (go_at_call 13; refine (wholeU_is T 0 0 0 (w.heap.size + 1 + 1) _ (reader_new _ _ (by simp)) (by omega) (by omega) hT).mono ?_; rintro r w7 ⟨⟨v7, rfl, u7, rfl, hkk⟩, hg⟩; rw [HW0.out] at hg hkk ⊢; rw [valOf_eq]; obtain ⟨a7, c7, e7⟩ := hkk.form; subst e7; obtain ⟨hok7, hk7, hw7⟩ := hg; have HK := hide1 hk7; have HW := hide1 hw7; have HKI := hide1 (KidsO.mono (S' := fun d => w.heap.size + 1 + 1 < d) (fun _ _ _ => rfl) (fun d h => by have h2 := h; simp at h2; omega) _ _ _ hkk); obtain ⟨c0, c1, c2, c3, c4⟩ := HW.out.cells; obtain ⟨z0, z1, z2, z3, z4⟩ := HW.out.free; have hb7 := HW.out.lt; clear hkk hk7 hw7 hok7)
    | (go_at_call 14; refine (Check_is (fun d => w.heap.size + 1 + 1 < d ∧ d < w7.heap.size) p.1 p.2 _ _ ((KidsO.at_ _ (fun _ h => h) _ _ HKI.out.tight).kept ((Kept.refl _).alloc _ _)) (fun d hd => by simp; omega)).mono ?_; rintro r w8 ⟨rfl, hk8⟩; rw [HC.out]; have HK8 := hide1 hk8; have HW := hide1 ((HW.out.keep ((Kept.refl _).alloc _ _)).keep hk8); have HBE := hide1 ((BoxAt.new w7 _ _ _ _ _ _).keep hk8); have HG0 := hide1 (show BoxAt w8 w.heap.size (.int .i64 0) (.int .i64 0) (.int .i64 0) (.int .i64 0) (.int .i64 0) (.slice none 0 0) from parse_box0 HK.out hk8); have HG1 := hide1 (parse_box1 HK.out hk8); obtain ⟨c0, c1, c2, c3, c4⟩ := HW.out.cells; obtain ⟨z0, z1, z2, z3, z4⟩ := HW.out.free; obtain ⟨⟨q0, q1, q2, q3, q4, q5⟩, _⟩ := HBE.out.facts; obtain ⟨⟨p0, p1, p2, p3, p4, p5⟩, x0, x1, x2, x3, x4, x5⟩ := HG0.out.facts; obtain ⟨⟨r0, r1, r2⟩, s0, s1, s2⟩ := fault_facts HG1.out; have hsz := hk8.size; clear hk8))
  (try simp only [Exit.inBlock, Exit.then])
  refine bodyPost_ret (parse_results rfl _ _ w.heap.size (w.heap.size + 1) _ _ _ _ _ _ _ _ _ rfl (heap_set (heap_set (heap_set (BoxAt.set (y0 := .int .i64 0) (y1 := .int .i64 0) (y2 := .int .i64 0) (y3 := .int .i64 0) (y4 := .int .i64 0) (y5 := .slice none 0 0) (heap_set HG0.out (by omega))) (by omega)) (by omega)) (by omega)) rfl (FaultAt.set (y0 := .int .i64 0) (y1 := .int .i64 0) (y2 := .string ⟨#[]⟩) (heap_set (heap_set (heap_set (heap_set (heap_set (heap_set (heap_set HG1.out (by omega)) (by omega)) (by omega)) (by omega)) (by omega)) (by omega)) (by omega)))) rfl ?_
  have hkw : Kept w w8 := parse_kept HK.out HK8.out
  refine ⟨⟨_, rfl, _, rfl, ?_⟩, ?_⟩
  · refine KidsO.mono (S := fun d => w.heap.size + 1 + 1 < d) ?_ (fun d h => by omega) _ _ _ ((HKI.out.kept ((Kept.refl _).alloc _ _)).kept HK8.out)
    exact ((((((((((HoldsU.set (fun _ _ _ => rfl) (by omega)).set (by omega)).set (by omega)).set (by omega)).set (by omega)).set (by omega)).set (by omega)).set (by omega)).set (by omega)).set (by omega))
  · exact (((((((((hkw.set (by omega)).set (by omega)).set (by omega)).set (by omega)).set (by omega)).set (by omega)).set (by omega)).set (by omega)).set (by omega)).set (by omega)


set_option linter.unusedSimpArgs false in
set_option maxRecDepth 100000 in
set_option maxHeartbeats 4000000 in
theorem ParseU_fault (T : ByteArray) (p : Pat) (k e f : Int) (w : World) (hT : T.size ≤ 4096) (hW : wholeA T (0, 0, 0) = (p, k, e, f)) (he : e ≠ 0) :
    Calls Tryz.prog 4 #[.string T] w fun r w' => r = .returned (.tuple #[zeroV, .agg #[.int .i64 e, .int .i64 f, .string ByteArray.empty]]) ∧ Kept w w' := by
  have HW0 := hide1 hW
  have gT : (T.size : Int) ≤ 4096 := by omega
  unfold zeroV
  clear hW
  go_enter Tryz.func4, Tryz.ntmps4
  go_wp2_with (first
    | (go_at_call 13; refine (wholeU_is T 0 0 0 (w.heap.size + 1 + 1) _ (reader_new _ _ (by simp)) (by omega) (by omega) hT).mono ?_; rintro r w7 ⟨⟨v7, rfl, u7, rfl, hkk0⟩, hg⟩; have hkk := KidsO.at_ _ (fun _ h => h) _ _ hkk0; clear hkk0; rw [HW0.out] at hg hkk ⊢; rw [valOf_eq]; obtain ⟨a7, c7, e7⟩ := hkk.form; subst e7; obtain ⟨hok7, hk7, hw7⟩ := hg; have HK := hide1 hk7; have HW := hide1 hw7; have HKI := hide1 (KidsAt.mono (S' := fun d => w.heap.size + 1 + 1 < d) (fun _ _ _ _ h => h) (fun d h => by have h2 := h; simp at h2; omega) _ _ _ hkk); obtain ⟨c0, c1, c2, c3, c4⟩ := HW.out.cells; obtain ⟨z0, z1, z2, z3, z4⟩ := HW.out.free; have hb7 := HW.out.lt; have HG0 := hide1 (show BoxAt _ w.heap.size (.int .i64 0) (.int .i64 0) (.int .i64 0) (.int .i64 0) (.int .i64 0) (.slice none 0 0) from parse_box0 (c := #[.int .i64 (kind p.2), .int .i64 (from_ p.2), .int .i64 (to_ p.2), .int .i64 (min_ p.2), .int .i64 (max_ p.2), .slice a7 (kids p.2).length c7]) (t := 24) hk7 (Kept.refl _)); have HG1 := hide1 (parse_box1 (c := #[.int .i64 (kind p.2), .int .i64 (from_ p.2), .int .i64 (to_ p.2), .int .i64 (min_ p.2), .int .i64 (max_ p.2), .slice a7 (kids p.2).length c7]) (t := 24) hk7 (Kept.refl _)); obtain ⟨⟨p0, p1, p2, p3, p4, p5⟩, x0, x1, x2, x3, x4, x5⟩ := HG0.out.facts; obtain ⟨⟨r0, r1, r2⟩, s0, s1, s2⟩ := fault_facts HG1.out; clear hkk hk7 hw7 hok7)
    | go_region)
  (try simp only [Exit.inBlock, Exit.then])
  refine bodyPost_ret (parse_results rfl _ _ w.heap.size (w.heap.size + 1) _ _ _ _ _ _ _ _ _ rfl (heap_drew (heap_set (heap_set (heap_set (BoxAt.set (y0 := .int .i64 0) (y1 := .int .i64 0) (y2 := .int .i64 0) (y3 := .int .i64 0) (y4 := .int .i64 0) (y5 := .slice none 0 0) HG0.out) (by omega)) (by omega)) (by omega))) rfl (heap_drew (FaultAt.set (y0 := .int .i64 0) (y1 := .int .i64 0) (y2 := .string ⟨#[]⟩) (heap_set (heap_set (heap_set (heap_set (heap_set (heap_set HG1.out (by omega)) (by omega)) (by omega)) (by omega)) (by omega)) (by omega))))) rfl ?_
  have hkw := parse_kept (c := #[.int .i64 (kind p.2), .int .i64 (from_ p.2), .int .i64 (to_ p.2), .int .i64 (min_ p.2), .int .i64 (max_ p.2), .slice a7 (kids p.2).length c7]) (t := 24) HK.out (Kept.refl _)
  exact ⟨rfl, gtrans (((((((((hkw.set (by omega)).set (by omega)).set (by omega)).set (by omega)).set (by omega)).set (by omega)).set (by omega)).set (by omega)).set (by omega)) (drew_kept _)⟩

set_option linter.unusedSimpArgs false in
set_option maxRecDepth 100000 in
set_option maxHeartbeats 4000000 in
theorem ParseU_check (T : ByteArray) (p : Pat) (k f c : Int) (w : World) (hT : T.size ≤ 4096) (hW : wholeA T (0, 0, 0) = (p, k, 0, f)) (hC : checkP p.2 = c) (hc : c ≠ 0) :
    Calls Tryz.prog 4 #[.string T] w fun r w' => r = .returned (.tuple #[zeroV, .agg #[.int .i64 c, .int .i64 f, .string ByteArray.empty]]) ∧ Kept w w' := by
  have HW0 := hide1 hW
  have HC := hide1 hC
  have gT : (T.size : Int) ≤ 4096 := by omega
  unfold zeroV
  clear hW hC
  go_enter Tryz.func4, Tryz.ntmps4
  go_wp2_with (first
    | (go_at_call 13; refine (wholeU_is T 0 0 0 (w.heap.size + 1 + 1) _ (reader_new _ _ (by simp)) (by omega) (by omega) hT).mono ?_; rintro r w7 ⟨⟨v7, rfl, u7, rfl, hkk0⟩, hg⟩; have hkk := KidsO.at_ _ (fun _ h => h) _ _ hkk0; clear hkk0; rw [HW0.out] at hg hkk ⊢; rw [valOf_eq]; obtain ⟨a7, c7, e7⟩ := hkk.form; subst e7; obtain ⟨hok7, hk7, hw7⟩ := hg; have HK := hide1 hk7; have HW := hide1 hw7; have HKI := hide1 (KidsAt.mono (S' := fun d => w.heap.size + 1 + 1 < d) (fun _ _ _ _ h => h) (fun d h => by have h2 := h; simp at h2; omega) _ _ _ hkk); obtain ⟨c0, c1, c2, c3, c4⟩ := HW.out.cells; obtain ⟨z0, z1, z2, z3, z4⟩ := HW.out.free; have hb7 := HW.out.lt; clear hkk hk7 hw7 hok7)
    | (go_at_call 14; refine (Check_is (fun d => w.heap.size + 1 + 1 < d ∧ d < w7.heap.size) p.1 p.2 _ _ (HKI.out.tight.kept ((Kept.refl _).alloc _ _)) (fun d hd => by simp; omega)).mono ?_; rintro r w8 ⟨rfl, hk8⟩; rw [HC.out]; have HK8 := hide1 hk8; have HW := hide1 ((HW.out.keep ((Kept.refl _).alloc _ _)).keep hk8); have HBE := hide1 ((BoxAt.new w7 _ _ _ _ _ _).keep hk8); have HG0 := hide1 (show BoxAt w8 w.heap.size (.int .i64 0) (.int .i64 0) (.int .i64 0) (.int .i64 0) (.int .i64 0) (.slice none 0 0) from parse_box0 HK.out hk8); have HG1 := hide1 (parse_box1 HK.out hk8); obtain ⟨c0, c1, c2, c3, c4⟩ := HW.out.cells; obtain ⟨z0, z1, z2, z3, z4⟩ := HW.out.free; obtain ⟨⟨q0, q1, q2, q3, q4, q5⟩, _⟩ := HBE.out.facts; obtain ⟨⟨p0, p1, p2, p3, p4, p5⟩, x0, x1, x2, x3, x4, x5⟩ := HG0.out.facts; obtain ⟨⟨r0, r1, r2⟩, s0, s1, s2⟩ := fault_facts HG1.out; have hsz := hk8.size; clear hk8)
    | go_region)
  (try simp only [Exit.inBlock, Exit.then])
  refine bodyPost_ret (parse_results rfl _ _ w.heap.size (w.heap.size + 1) _ _ _ _ _ _ _ _ _ rfl (heap_drew (heap_set (heap_set (heap_set (BoxAt.set (y0 := .int .i64 0) (y1 := .int .i64 0) (y2 := .int .i64 0) (y3 := .int .i64 0) (y4 := .int .i64 0) (y5 := .slice none 0 0) (heap_set HG0.out (by omega))) (by omega)) (by omega)) (by omega))) rfl (heap_drew (FaultAt.set (y0 := .int .i64 0) (y1 := .int .i64 0) (y2 := .string ⟨#[]⟩) (heap_set (heap_set (heap_set (heap_set (heap_set (heap_set (heap_set HG1.out (by omega)) (by omega)) (by omega)) (by omega)) (by omega)) (by omega)) (by omega))))) rfl ?_
  have hkw := parse_kept HK.out HK8.out
  exact ⟨rfl, gtrans ((((((((((hkw.set (by omega)).set (by omega)).set (by omega)).set (by omega)).set (by omega)).set (by omega)).set (by omega)).set (by omega)).set (by omega)).set (by omega)) (drew_kept _)⟩

theorem zeroU_pat (S : Nat → Prop) (w : World) : PatU S w zeroP zeroV := ⟨.slice none 0 0, rfl, kidsO_nil _ _ _ _ _ _ rfl⟩
theorem ParseU_is (T : ByteArray) (w : World) (hT : T.size ≤ 200000000000000) :
    Calls Tryz.prog 4 #[.string T] w fun r w' => Hid (∃ v, r = .returned (.tuple #[v, .agg #[.int .i64 (parseM T).2.1, .int .i64 (parseM T).2.2, .string ByteArray.empty]]) ∧ PatU (fun d => w.heap.size ≤ d) w' (parseM T).1 v) ∧ Kept w w' := by
  unfold parseM
  by_cases hl : 4096 < T.size
  · rw [if_pos hl]
    refine (ParseA_long T w hl hT).mono ?_
    rintro r w' ⟨rfl, hk⟩
    exact ⟨⟨zeroV, rfl, zeroU_pat _ _⟩, hk⟩
  · rw [if_neg hl]
    obtain ⟨⟨p, k, e, f⟩, hW⟩ : ∃ x, wholeA T (0, 0, 0) = x := ⟨_, rfl⟩
    rw [hW]
    dsimp only
    by_cases he : e = 0
    · subst he
      rw [if_neg (by simp)]
      by_cases hc : checkP p.2 = 0
      · rw [if_neg (by simpa using hc)]
        refine (ParseU_good T p k f w (by omega) hW hc).mono ?_
        rintro r w' ⟨h, hk⟩
        obtain ⟨v, rfl, hv⟩ := h.out
        exact ⟨⟨v, rfl, hv⟩, hk⟩
      · rw [if_pos hc]
        refine (ParseU_check T p k f _ w (by omega) hW rfl hc).mono ?_
        rintro r w' ⟨rfl, hk⟩
        exact ⟨⟨zeroV, rfl, zeroU_pat _ _⟩, hk⟩
    · rw [if_pos he]
      refine (ParseU_fault T p k e f w (by omega) hW he).mono ?_
      rintro r w' ⟨rfl, hk⟩
      exact ⟨⟨zeroV, rfl, zeroU_pat _ _⟩, hk⟩

end Ex
end Go.Proofs.YtfajoknacfjedaaGreatDoor
namespace Go.Proofs.YtfajoknacfjedaaGreatDoor
open Go.RowKit
attribute [local go_sem] Oper.semAt_some
namespace Ex

/-- The text that known reads, and its pattern. -/
def T1 : ByteArray := ⟨#[40, 97, 98, 41, 42, 124, 91, 99, 45, 101, 93, 123, 50, 44, 125]⟩
def P1 : Pat := mkP 3 0 0 0 0 [mkP 4 0 0 0 (-1) [mkP 2 0 0 0 0 [rangeP 97 97, rangeP 98 98]], mkP 4 0 0 2 (-1) [rangeP 99 101]]
set_option maxRecDepth 100000 in
theorem parse1 : parseM T1 = (P1, 0, 0) := by kernel_rfl
set_option maxRecDepth 100000 in
theorem check1 : checkP P1.2 = 0 := by kernel_rfl
set_option maxRecDepth 100000 in
theorem print1 : printS P1.2 = T1 := by kernel_rfl
set_option maxRecDepth 100000 in
theorem printe1 : printE P1.2 = 0 := by kernel_rfl
set_option maxRecDepth 100000 in
theorem match1 : matchP P1.2 [97, 98, 97, 98] = true := by kernel_rfl
set_option maxRecDepth 100000 in
theorem long1 : runL P1.2 [99, 100, 101, 120] = 3 := by kernel_rfl
theorem ParseK (w : World) : Calls Tryz.prog 4 #[.string T1] w fun r w' => Hid (∃ v, r = .returned (.tuple #[v, .agg #[.int .i64 0, .int .i64 0, .string ⟨#[]⟩]]) ∧ PatV (fun d => w.heap.size ≤ d) w' P1 v) ∧ Kept w w' := by
  have h := ParseU_is T1 w (by decide)
  rw [parse1] at h
  refine h.mono ?_
  rintro r w' ⟨h1, h2⟩
  obtain ⟨v, rfl, h3⟩ := h1.out
  exact ⟨⟨v, rfl, h3.at_⟩, h2⟩
theorem PrintK_at (P : PatN (P1.1 + 1)) (hP : P1.2 = P) (S : Nat → Prop) (ak : Option Addr) (ck : Nat) (w : World) (hk : KidsAt S w P1.1 (kids P) (.slice ak (kids P).length ck)) (hS : ∀ d, S d → d < w.heap.size) (hW : PowAt w) :
    Calls Tryz.prog 20 #[.agg #[.int .i64 (kind P), .int .i64 (from_ P), .int .i64 (to_ P), .int .i64 (min_ P), .int .i64 (max_ P), .slice ak (kids P).length ck]] w fun e w' => e = .returned (.tuple #[.string ⟨#[40, 97, 98, 41, 42, 124, 91, 99, 45, 101, 93, 123, 50, 44, 125]⟩, .int .i64 0]) ∧ Kept w w' := by
  subst hP
  have h := Print_is S P1.1 P1.2 _ w hk hS hW
  rw [print1, printe1] at h
  exact h
theorem MatchK_at (P : PatN (P1.1 + 1)) (hP : P1.2 = P) (S : Nat → Prop) (ak : Option Addr) (ck : Nat) (w : World) (hk : KidsAt S w P1.1 (kids P) (.slice ak (kids P).length ck)) (hS : ∀ d, S d → d < w.heap.size) (hT : TabAt w) (b : Option Addr) (cap : Nat) (hb : BytesIn (fun c => c < w.heap.size) w (.slice b 4 cap) [97, 98, 97, 98]) :
    Calls Tryz.prog 22 #[.agg #[.int .i64 (kind P), .int .i64 (from_ P), .int .i64 (to_ P), .int .i64 (min_ P), .int .i64 (max_ P), .slice ak (kids P).length ck], .slice b 4 cap] w fun e w' => e = .returned (.tuple #[.bool true, .int .i64 0]) ∧ Kept w w' := by
  subst hP
  have h := Match_is P1.1 P1.2 S _ w hk hS hT b cap 4 [97, 98, 97, 98] rfl hb (by decide)
  rw [match1, check1] at h
  exact h
theorem LongestK_at (P : PatN (P1.1 + 1)) (hP : P1.2 = P) (S : Nat → Prop) (ak : Option Addr) (ck : Nat) (w : World) (hk : KidsAt S w P1.1 (kids P) (.slice ak (kids P).length ck)) (hS : ∀ d, S d → d < w.heap.size) (hT : TabAt w) (b : Option Addr) (cap : Nat) (hb : BytesIn (fun c => c < w.heap.size) w (.slice b 4 cap) [99, 100, 101, 120]) :
    Calls Tryz.prog 21 #[.agg #[.int .i64 (kind P), .int .i64 (from_ P), .int .i64 (to_ P), .int .i64 (min_ P), .int .i64 (max_ P), .slice ak (kids P).length ck], .slice b 4 cap] w fun e w' => e = .returned (.tuple #[.int .i64 3, .int .i64 0]) ∧ Kept w w' := by
  subst hP
  have h := Longest_is P1.1 P1.2 S _ w hk hS hT b cap 4 [99, 100, 101, 120] rfl hb (by decide)
  rw [long1, check1] at h
  exact h

set_option linter.unusedSimpArgs false in
set_option maxRecDepth 100000 in
set_option maxHeartbeats 4000000 in
theorem knownO_is (w : World) (hT : TabAt w) (hPW : PowAt w) : Calls Tryz.prog 12 #[] w fun e w' => e = .returned (.bool true) ∧ Kept w w' := by
  have HT := hide1 hT
  have HPW := hide1 hPW
  clear hT hPW
  have kc := fun (w : World) (C : Array Value) (n c : Nat) => Lib.run_convert_bytes_const (P := Tryz.prog) w 31 5 C n c Tryz.underlying31 Tryz.underlying5
  go_enter Tryz.func12, Tryz.ntmps12
  go_wp2_with fail
  refine (ParseK w).mono ?_
  rintro e w1 ⟨h1, hk1⟩
  obtain ⟨v, rfl, vk, rfl, hkv⟩ := h1.out
  clear h1
  obtain ⟨P, hP⟩ : ∃ P, P1.2 = P := ⟨_, rfl⟩
  rw [hP] at hkv ⊢
  have hkt := hkv.tight
  obtain ⟨ak, ck, rfl⟩ := hkv.form
  rw [valOf_eq]
  have HP := hide1 hP
  have HKT := hide1 hkt
  have HK1 := hide1 hk1
  clear hP hkt hkv hk1
  go_wp2_with fail
  obtain ⟨W3, hW3⟩ : ∃ W3, (w1.alloc (Obj.cells #[Value.int IntKind.i64 (kind P), Value.int IntKind.i64 (from_ P), Value.int IntKind.i64 (to_ P), Value.int IntKind.i64 (min_ P), Value.int IntKind.i64 (max_ P), Value.slice ak (kids P).length ck] 24)).alloc (Obj.cells #[Value.int IntKind.i64 0, Value.int IntKind.i64 0, Value.string ⟨#[]⟩] 27) = W3 := ⟨_, rfl⟩
  have HKA : Hid (Kept (w1.alloc (Obj.cells #[Value.int IntKind.i64 (kind P), Value.int IntKind.i64 (from_ P), Value.int IntKind.i64 (to_ P), Value.int IntKind.i64 (min_ P), Value.int IntKind.i64 (max_ P), Value.slice ak (kids P).length ck] 24)) W3) := by rw [← hW3]; exact (Kept.refl _).alloc _ _
  have HK3 : Hid (Kept w1 W3) := by rw [← hW3]; exact ((Kept.refl w1).alloc _ _).alloc _ _
  have HBX : Hid (BoxAt W3 w1.heap.size (.int .i64 (kind P)) (.int .i64 (from_ P)) (.int .i64 (to_ P)) (.int .i64 (min_ P)) (.int .i64 (max_ P)) (.slice ak (kids P).length ck)) := (BoxAt.new w1 _ _ _ _ _ _).keep HKA.out
  rw [hW3]
  clear hW3 HKA
  refine (PrintK_at P HP.out _ ak ck W3 (HKT.out.kept HK3.out) (fun d hd => Nat.lt_of_lt_of_le hd.2 HK3.out.2.2.2.1) (HPW.out.keep (Kept.tr HK1.out HK3.out))).mono ?_
  rintro e w2 ⟨rfl, hk2⟩
  have HK2 := hide1 hk2
  have HBY := hide1 (HBX.out.keep hk2)
  obtain ⟨⟨q0, q1, q2, q3, q4, q5⟩, zz⟩ := HBY.out.facts
  clear hk2 zz
  go_wp2_with fail
  have HKM : Hid (Kept w1 w2) := Kept.tr HK3.out HK2.out
  have HBM := hide1 (bytes4 w2 97 98 97 98)
  have HKN := hide1 (kept_any w2 (.cells #[.int .u8 97, .int .u8 98, .int .u8 97, .int .u8 98] 5 (4, 5)))
  generalize w2.alloc (.cells #[.int .u8 97, .int .u8 98, .int .u8 97, .int .u8 98] 5 (4, 5)) = W4 at HBM HKN ⊢
  have HK4 : Hid (Kept w1 W4) := Kept.tr HKM.out HKN.out
  refine (MatchK_at P HP.out _ ak ck W4 (HKT.out.kept HK4.out) (fun d hd => Nat.lt_of_lt_of_le hd.2 HK4.out.2.2.2.1) (HT.out.keep (Kept.tr HK1.out HK4.out)) _ _ HBM.out).mono ?_
  rintro e w5 ⟨rfl, hk5⟩
  have HK5 : Hid (Kept w1 w5) := Kept.tr HK4.out hk5
  have HBZ := hide1 (HBY.out.keep (Kept.tr HKN.out hk5))
  obtain ⟨⟨s0, s1, s2, s3, s4, s5⟩, zz⟩ := HBZ.out.facts
  clear hk5 zz
  go_wp2_with fail
  have HBL := hide1 (bytes4 w5 99 100 101 120)
  have HKL := hide1 (kept_any w5 (.cells #[.int .u8 99, .int .u8 100, .int .u8 101, .int .u8 120] 5 (4, 5)))
  generalize w5.alloc (.cells #[.int .u8 99, .int .u8 100, .int .u8 101, .int .u8 120] 5 (4, 5)) = W6 at HBL HKL ⊢
  have HK6 : Hid (Kept w1 W6) := Kept.tr HK5.out HKL.out
  refine (LongestK_at P HP.out _ ak ck W6 (HKT.out.kept HK6.out) (fun d hd => Nat.lt_of_lt_of_le hd.2 HK6.out.2.2.2.1) (HT.out.keep (Kept.tr HK1.out HK6.out)) _ _ HBL.out).mono ?_
  rintro e w7 ⟨rfl, hk7⟩
  have HK7 : Hid (Kept w w7) := Kept.tr HK1.out (Kept.tr HK6.out hk7)
  clear hk7
  go_wp2_with fail
  go_ret
  exact ⟨rfl, HK7.out⟩


end Ex
end Go.Proofs.YtfajoknacfjedaaGreatDoor
namespace Go.Proofs.YtfajoknacfjedaaGreatDoor
open Go.RowKit
set_option linter.unusedVariables false
namespace Ex
open Sh

theorem turned_is (n : Nat) (p : PatN (n + 1)) (v : Value) (w : World) (h : KidsAt (fun d => d < w.heap.size) w n (kids p) v) (hT : TabAt w) (hP : PowAt w) :
    Calls Tryz.prog 11 #[valOf p v] w fun e w' => e = .returned (.bool true) ∧ Kept w w' := by
  by_cases hb : boundsP p = 0
  · by_cases hl : (kids p).length = 0
    · exact turned_none n p v w h (.inr hl)
    · match n, p, h, hb, hl with
      | 0, p, h, hb, hl => exact absurd (by rw [none_of (kids p)]; rfl) hl
      | m + 1, p, h, hb, hl => exact turned_more m p v w h hT hP hb hl
  · exact turned_none n p v w h (.inl hb)
theorem check_bnd0 {n : Nat} {p : PatN (n + 1)} (h : checkP p = 0) : boundsP p = 0 := by
  unfold checkP at h
  split at h
  · assumption
  · exact absurd h (by assumption)
theorem parse_bounds (T : ByteArray) : boundsP (parseM T).1.2 = 0 := by
  have hz : boundsP zeroP.2 = 0 := by decide
  obtain ⟨⟨q, e, f⟩, h⟩ : ∃ x, parseM T = x := ⟨_, rfl⟩
  rw [h]
  show boundsP q.2 = 0
  unfold parseM at h
  split at h
  · have h1 : zeroP = q := congrArg Prod.fst h
    rw [← h1]; exact hz
  split at h
  · have h1 : zeroP = q := congrArg Prod.fst h
    rw [← h1]; exact hz
  split at h
  · have h1 : zeroP = q := congrArg Prod.fst h
    rw [← h1]; exact hz
  · rename_i h2
    have h1 := congrArg Prod.fst h
    dsimp only at h1
    rw [← h1]
    exact check_bnd0 (by simpa using h2)
theorem shortTop_len {n : Nat} (p : PatN (n + 1)) : (shortTop p).length ≤ 4096 := by
  unfold shortTop
  split
  · rename_i h
    have h1 := short_len (n + 1) p (check_right h) (check_pos h)
    have h2 := check_pos h
    omega
  · exact Nat.zero_le _
theorem MarkAt.tight {S : Nat → Prop} {w : World} : ∀ (n : Nat) (l : List (PatN n)) (v : Value), MarkAt S w n l v → MarkAt (fun d => S d ∧ d < w.heap.size) w n l v
  | 0, _, _, h => h
  | n + 1, l, v, h => by
    rcases h with h | ⟨h0, c, h1, h2, h3, h4, h5⟩
    · exact Or.inl h
    · refine Or.inr ⟨h0, c, h1, h2, ⟨h3, World.block_lt_of_cell? w _ h4⟩, h4, fun i q hq => ?_⟩
      obtain ⟨v', g0, g1, g2, g3, g4, g5, g6⟩ := h5 i q hq
      exact ⟨v', g0, g1, g2, g3, g4, g5, MarkAt.tight n (Ex.kids q) v' g6⟩
/-- Two patterns of the same kind side by side, each with lists of its own. -/
theorem two_own {w : World} {m : Nat} {Q : PatN (m + 1)} {Sa Sb : Nat → Prop} {va vb : Value} (ha : KidsO Sa w m (kids Q) va) (hb : KidsO Sb w m (kids Q) vb) (hd : ∀ d, Sa d → ¬ Sb d) (hla : ∀ d, Sa d → d < w.heap.size) (hlb : ∀ d, Sb d → d < w.heap.size) :
    KidsO (fun d => d = w.heap.size ∨ Sa d ∨ Sb d) (w.alloc (.cells #[.int .i64 (kind Q), .int .i64 (from_ Q), .int .i64 (to_ Q), .int .i64 (min_ Q), .int .i64 (max_ Q), va, .int .i64 (kind Q), .int .i64 (from_ Q), .int .i64 (to_ Q), .int .i64 (min_ Q), .int .i64 (max_ Q), vb] 24)) (m + 1) [Q, Q] (.slice (some ⟨w.heap.size, 0, none⟩) 2 2) := by
  have hk := (Kept.refl w).alloc #[.int .i64 (kind Q), .int .i64 (from_ Q), .int .i64 (to_ Q), .int .i64 (min_ Q), .int .i64 (max_ Q), va, .int .i64 (kind Q), .int .i64 (from_ Q), .int .i64 (to_ Q), .int .i64 (min_ Q), .int .i64 (max_ Q), vb] 24
  have hg := heap_alloc_new w (.cells #[.int .i64 (kind Q), .int .i64 (from_ Q), .int .i64 (to_ Q), .int .i64 (min_ Q), .int .i64 (max_ Q), va, .int .i64 (kind Q), .int .i64 (from_ Q), .int .i64 (to_ Q), .int .i64 (min_ Q), .int .i64 (max_ Q), vb] 24)
  refine ⟨_, 2, rfl, by simp, by simp, Or.inr ⟨w.heap.size, _, fun i d => (i = 0 ∧ Sa d) ∨ (i = 1 ∧ Sb d), rfl, .inl rfl, hg, by unfold maxLen; omega, rfl, fun i d h => ?_, fun i j d h1 h2 => ?_, fun i q hq => ?_⟩⟩
  · rcases h with ⟨_, h⟩ | ⟨_, h⟩
    · exact ⟨.inr (.inl h), by have := hla d h; omega⟩
    · exact ⟨.inr (.inr h), by have := hlb d h; omega⟩
  · rcases h1 with ⟨e1, h1⟩ | ⟨e1, h1⟩ <;> rcases h2 with ⟨e2, h2⟩ | ⟨e2, h2⟩
    · omega
    · exact absurd h2 (hd d h1)
    · exact absurd h1 (hd d h2)
    · omega
  · have hc : ∀ o u, (#[Value.int .i64 (kind Q), .int .i64 (from_ Q), .int .i64 (to_ Q), .int .i64 (min_ Q), .int .i64 (max_ Q), va, .int .i64 (kind Q), .int .i64 (from_ Q), .int .i64 (to_ Q), .int .i64 (min_ Q), .int .i64 (max_ Q), vb])[o]? = some u → (w.alloc (.cells #[.int .i64 (kind Q), .int .i64 (from_ Q), .int .i64 (to_ Q), .int .i64 (min_ Q), .int .i64 (max_ Q), va, .int .i64 (kind Q), .int .i64 (from_ Q), .int .i64 (to_ Q), .int .i64 (min_ Q), .int .i64 (max_ Q), vb] 24)).cell? ⟨w.heap.size, o, none⟩ = some u := fun o u h => by
      unfold World.cell?
      simp only [hg]
      exact h
    match i, hq with
    | 0, hq =>
      obtain rfl : Q = q := by simpa using hq
      exact ⟨va, hc 0 _ rfl, hc 1 _ rfl, hc 2 _ rfl, hc 3 _ rfl, hc 4 _ rfl, hc 5 _ rfl, (ha.kept hk).wide (fun d h => .inl ⟨rfl, h⟩)⟩
    | 1, hq =>
      obtain rfl : Q = q := by simpa using hq
      exact ⟨vb, hc 6 _ rfl, hc 7 _ rfl, hc 8 _ rfl, hc 9 _ rfl, hc 10 _ rfl, hc 11 _ rfl, (hb.kept hk).wide (fun d h => .inr ⟨rfl, h⟩)⟩
    | i + 2, hq => simp at hq
theorem out_lo {w : World} {base : Nat} {v : Value} {xs : List Int} (h : OutAt w base v xs) : LO u8E w base v xs := by
  unfold LO
  rw [flat_u8b]
  exact h
/-- Two rows of bytes side by side, as GrownBytes wants them. -/
theorem two_rows {W : World} {b1 b2 : Nat} {v1 v2 : Value} {xs : List Int} (h1 : RowO W b1 v1 xs) (hlt : ∀ d, v1.ownBlock = some d → d < b2) (h2 : RowO W b2 v2 xs) (h12 : b1 ≤ b2) (hx : xs.length ≤ 4096) :
    ∃ vs ys : List SlV, vs.length = 2 ∧ ys.length = 2 ∧ LO bbE (W.alloc (.cells #[v1, v2] 31)) 0 (.slice (some ⟨W.heap.size, 0, none⟩) 2 2) ys ∧ Near vs ys ∧ BagL u8E (W.alloc (.cells #[v1, v2] 31)) vs (fun _ => xs) ∧ LoneS vs ∧ (∀ (u : Nat) (x : SlV), vs[u]? = some x → x.2.1 ≤ 1000000) ∧ ∀ d, InB vs d → b1 ≤ d ∧ d < W.heap.size := by
  obtain ⟨a1, c1, d1, e1, p1, q1, r1, o1⟩ := h1
  obtain ⟨a2, c2, d2, e2, p2, q2, r2, o2⟩ := h2
  subst e1 e2
  have hg := heap_alloc_new W (.cells #[.slice a1 xs.length c1, .slice a2 xs.length c2] 31)
  have hkw := (Kept.refl W).alloc #[.slice a1 xs.length c1, .slice a2 xs.length c2] 31
  have l1 := out_lo o1
  have l2 := out_lo o2
  have t1 : ∀ d, (Value.slice a1 xs.length d1).ownBlock = some d → (b1 ≤ d ∧ d < W.heap.size) ∧ d < b2 := fun d hd => ⟨l1.lt' d hd, hlt d (by rw [own_eq a1 _ _ xs.length d1]; exact hd)⟩
  have t2 : ∀ d, (Value.slice a2 xs.length d2).ownBlock = some d → b2 ≤ d ∧ d < W.heap.size := l2.lt'
  refine ⟨[(a1, xs.length, d1), (a2, xs.length, d2)], [(a1, xs.length, c1), (a2, xs.length, c2)], rfl, rfl, ⟨rfl, .inr ⟨W.heap.size, 2, _, rfl, Nat.zero_le _, hg, Nat.le_refl _, by unfold maxLen; omega, rfl, rfl⟩⟩, ⟨rfl, fun v x y hx' hy => ?_⟩, fun u x hx' => ?_, fun u u' x x' d hx1 hx2 hd1 hd2 => ?_, fun u x hx' => ?_, fun d hd => ?_⟩
  · match v, hx', hy with
    | 0, hx', hy =>
      simp at hx' hy
      subst hx' hy
      exact ⟨rfl, rfl, p1, by rcases r1 with r | r; exact .inl r; exact .inr r.symm⟩
    | 1, hx', hy =>
      simp at hx' hy
      subst hx' hy
      exact ⟨rfl, rfl, p2, by rcases r2 with r | r; exact .inl r; exact .inr r.symm⟩
    | v + 2, hx', _ => simp at hx'
  · match u, hx' with
    | 0, hx' =>
      simp at hx'
      subst hx'
      exact lo_lowL (l1.keep hkw) (Nat.zero_le _)
    | 1, hx' =>
      simp at hx'
      subst hx'
      exact lo_lowL (l2.keep hkw) (Nat.zero_le _)
    | u + 2, hx' => simp at hx'
  · match u, u', hx1, hx2 with
    | 0, 0, _, _ => rfl
    | 1, 1, _, _ => rfl
    | 0, 1, hx1, hx2 =>
      simp at hx1 hx2
      subst hx1 hx2
      have := t1 d hd1
      have := t2 d hd2
      omega
    | 1, 0, hx1, hx2 =>
      simp at hx1 hx2
      subst hx1 hx2
      have := t1 d hd2
      have := t2 d hd1
      omega
    | u + 2, _, hx1, _ => simp at hx1
    | 0, u' + 2, _, hx2 => simp at hx2
    | 1, u' + 2, _, hx2 => simp at hx2
  · match u, hx' with
    | 0, hx' => simp at hx'; subst hx'; show xs.length ≤ _; omega
    | 1, hx' => simp at hx'; subst hx'; show xs.length ≤ _; omega
    | u + 2, hx' => simp at hx'
  · obtain ⟨u, x, hx', hd⟩ := hd
    match u, hx' with
    | 0, hx' =>
      simp at hx'
      subst hx'
      have := t1 d hd
      omega
    | 1, hx' =>
      simp at hx'
      subst hx'
      have := t2 d hd
      omega
    | u + 2, hx' => simp at hx'
theorem RowO.kt {Z : Nat → Prop} {u v : World} {base : Nat} {x : Value} {xs : List Int} (h : RowO u base x xs) (hk : KT Z u v) (hz : ∀ d, base ≤ d → ¬ Z d) : RowO v base x xs := by
  obtain ⟨a, c, c', e, h1, h2, h3, h4⟩ := h
  exact ⟨a, c, c', e, h1, h2, h3, owns_same h4 (fun d hd => hk.2.2.2.2 d (h4.lt d hd).2 (hz d (h4.lt d hd).1))⟩
theorem RowO.lt {w : World} {base : Nat} {x : Value} {xs : List Int} (h : RowO w base x xs) : ∀ d, x.ownBlock = some d → base ≤ d ∧ d < w.heap.size := fun d hd => by
  obtain ⟨a, c, c', e, h1, h2, h3, h4⟩ := h
  subst e
  exact h4.lt d (by rw [own_eq a _ _ xs.length c]; exact hd)

end Ex
end Go.Proofs.YtfajoknacfjedaaGreatDoor
