import Derived.Test.YtbnchnlogikecaaGreatDoorPExWr7
import Derived.Test.YtbnchnlogikecaaGreatDoorPExRdC
import Derived.Laws.BytesString
import Derived.Test.YtbnchnlogikecaaGreatDoorPExPw6
import Derived.Test.YtbnchnlogikecaaGreatDoorPExGd0
import Derived.Test.YtbnchnlogikecaaGreatDoorPGtI
import Derived.Test.YtbnchnlogikecaaGreatDoorPExFr0
import Derived.Deep.DeepMust
import Derived.Deep.Cut
import Derived.BigQuiet
namespace Go.Proofs.YtbnchnlogikecaaGreatDoor
open Go.RowKit
attribute [local go_sem] Oper.semAt_some
namespace Ex
theorem kept_grown {w w' : World} (h : w.grownBy w' none) : Kept w w' := ⟨h.os, h.tape, h.output, h.size, fun k hk => h.block k hk (by simp)⟩
def strOf (zs : List Int) : ByteArray := zs.foldl (fun r n => r.push (UInt8.ofNat n.toNat)) ByteArray.empty
theorem conv_out {w : World} {base c : Nat} {a : Option Addr} {zs : List Int} (h : OutAt w base (.slice a zs.length c) zs) (hne : zs ≠ []) : (convert 100 9 (.slice a zs.length c)).run Tryz.prog w = .ok (.string (strOf zs)) w := by
  rw [run_convert_bytes_string w 100 9 5 a zs.length c Tryz.underlying100 Tryz.underlying5 Tryz.underlying9]
  rcases h.2 with ⟨_, h0⟩ | ⟨g, cap, cur, e, _, _⟩
  · exact absurd (List.length_eq_zero_iff.1 h0) hne
  · simp only [Value.slice.injEq] at e
    obtain ⟨rfl, _, rfl⟩ := e
    refine run_bytesToString w ⟨g, 0, none⟩ zs.length c zs ?_
    have hc := h.cells (g := g) rfl
    have := run_loadCells_list (P := Tryz.prog) w ⟨g, 0, none⟩ (byteV zs) hc
    rw [byteV_len] at this
    exact this
end Ex
end Go.Proofs.YtbnchnlogikecaaGreatDoor
namespace Go.Proofs.YtbnchnlogikecaaGreatDoor
open Go.RowKit
attribute [local go_sem] Oper.semAt_some
set_option linter.unusedSimpArgs false
set_option maxRecDepth 100000
set_option maxHeartbeats 4000000
namespace Ex
theorem write_isA : ∀ (n : Nat) (p : PatN (n + 1)), NiceA (n + 1) p → WriteCA n p (writeA (n + 1) p)
  | 0, p, h => write_stepA 0 p h (fun _ _ => trivial)
  | n + 1, p, h => write_stepA (n + 1) p h (fun q hq => write_isA n q (h.2.2.2.2 q hq))
theorem nice_ofA : ∀ (n : Nat) (p : PatN n), rightP n p = true → sizeP n p ≤ 4096 → NiceA n p
  | 0, _, _, _ => trivial
  | n + 1, p, hr, hs => by
    have hr' : (topOf p && (kids p).all (rightP n)) = true := hr
    rw [Bool.and_eq_true] at hr'
    obtain ⟨ht, ha⟩ := hr'
    rw [size_succ] at hs
    have hl := sizes_len (kids p)
    unfold topOf topP at ht
    refine ⟨fun e => ?_, fun e => ?_, fun e => ?_, by omega, fun q hq => nice_ofA n q (List.all_eq_true.1 ha q hq) (by have := sizes_mem hq; omega)⟩
    · rw [if_pos e] at ht
      simp at ht
      omega
    · rw [if_neg (by omega), if_neg (by omega), if_neg (by omega), if_pos e] at ht
      unfold timesP at ht
      simp at ht
      omega
    · rw [if_neg (by omega), if_neg (by omega), if_pos e] at ht
      simp at ht
      intro h0
      rw [h0] at ht
      simp at ht
theorem partN_len (n : Nat) (q : PatN n) (k : Int) (ys : List Int) : (partN n q k ys).length ≤ ys.length + 2 := by
  cases n with
  | zero => exact Nat.zero_le _
  | succ n =>
    show (partW q k ys).length ≤ _
    unfold partW
    split <;> simp
theorem size_pos1 (n : Nat) (p : PatN (n + 1)) : 1 ≤ sizeP (n + 1) p := by rw [size_succ]; have := sizes_pos n (kids p); omega
theorem sum_len {n : Nat} (f : PatN n × Nat → List Int) (hf : ∀ x, ((f x).length : Int) ≤ 20 * sizeP n x.1) : ∀ (L : List (PatN n)) (k : Nat), (((L.zipIdx k).flatMap f).length : Int) ≤ 20 * sizesP n L
  | [], _ => by simp; exact Int.le_refl 0
  | q :: L, k => by
    have h1 := sum_len f hf L (k + 1)
    have h2 := hf (q, k)
    rw [List.zipIdx_cons, List.flatMap_cons, List.length_append]
    show _ ≤ 20 * (sizeP n q + sizesP n L)
    simp only [] at h2
    omega
theorem rangeW_len {n : Nat} (p : PatN (n + 1)) : (rangeW p).length ≤ 11 := by
  unfold rangeW
  have h1 := byteW_len signsS (from_ p)
  have h2 := memW_len p
  split
  · omega
  · split
    · simp
    · unfold classW
      simp
      omega
theorem writeA_len : ∀ (n : Nat) (p : PatN (n + 1)), ((writeA (n + 1) p).length : Int) + 3 ≤ 20 * sizeP (n + 1) p := by
  intro n
  induction n with
  | zero =>
    intro p
    have hs := size_pos1 0 p
    have hs1 : 1 ≤ sizeP 1 p := hs
    have h0 : kids p = [] := none_of _
    unfold writeA
    split
    · have := rangeW_len p; omega
    · split
      · rw [h0]
        have := timesA_len (min_ p) (max_ p)
        simp
        omega
      · split
        · show (([91, 93] : List Int).length : Int) + 3 ≤ _
          simp
          omega
        · rw [h0]
          simp
          omega
  | succ n ih =>
    intro p
    have hs := size_succ p
    have hp := sizes_pos (n + 1) (kids p)
    have hln := sizes_len (kids p)
    have hpart : ∀ (q : PatN (n + 1)) (k : Int), ((partN (n + 1) q k (writeA (n + 1) q)).length : Int) + 1 ≤ 20 * sizeP (n + 1) q := fun q k => by
      have h1 := ih q
      have h2 := partN_len (n + 1) q k (writeA (n + 1) q)
      omega
    unfold writeA
    split
    · have := rangeW_len p; omega
    · split
      · have ht := timesA_len (min_ p) (max_ p)
        rw [List.length_append]
        have hk : ((((kids p).take 1).flatMap (fun q => partN (n + 1) q 4 (writeA (n + 1) q))).length : Int) ≤ 20 * sizesP (n + 1) (kids p) := by
          cases hkk : kids p with
          | nil => simp; exact Int.le_refl 0
          | cons q l =>
            have h1 := hpart q 4
            have h2 := sizes_pos (n + 1) l
            show _ ≤ 20 * (sizeP (n + 1) q + sizesP (n + 1) l)
            simp
            omega
        omega
      · split
        · have hf := flat_len (memW (n := n)) 9 memW_len (kids p)
          show ((classW (kids p)).length : Int) + 3 ≤ _
          unfold classW
          simp only [List.length_cons, List.length_append, List.length_nil]
          omega
        · have h1 := sum_len (n := n + 1) (fun x => (if 0 < x.2 ∧ kind p = 3 then [124] else []) ++ partN (n + 1) x.1 (kind p) (writeA (n + 1) x.1)) (fun x => by
            have h2 := hpart x.1 (kind p)
            simp only [List.length_append]
            split <;> simp <;> omega) (kids p) 0
          omega
theorem conv_nil (w : World) (a : Option Addr) (c : Nat) : (convert 100 9 (.slice a 0 c)).run Tryz.prog w = .ok (.string (strOf [])) w := by
  rw [run_convert_bytes_string w 100 9 5 a 0 c Tryz.underlying100 Tryz.underlying5 Tryz.underlying9]
  cases a with
  | none => rfl
  | some g => exact run_bytesToString w g 0 c [] rfl
theorem conv_all {w : World} {base c : Nat} {a : Option Addr} {zs : List Int} (h : OutAt w base (.slice a zs.length c) zs) : (convert 100 9 (.slice a zs.length c)).run Tryz.prog w = .ok (.string (strOf zs)) w := by
  by_cases hz : zs = []
  · subst hz
    exact conv_nil w a c
  · exact conv_out h hz
def printS {n : Nat} (p : PatN (n + 1)) : ByteArray := if checkP p = 0 then if 4096 < (writeA (n + 1) p).length then strOf [] else strOf (writeA (n + 1) p) else strOf []
def printE {n : Nat} (p : PatN (n + 1)) : Int := if checkP p = 0 then if 4096 < (writeA (n + 1) p).length then 2 else 0 else checkP p
theorem check_size {n : Nat} {p : PatN (n + 1)} (h : checkP p = 0) : sizeP (n + 1) p ≤ 4096 := by
  have hb : boundsP p = 0 := by
    unfold checkP at h
    split at h
    · assumption
    · exact h
  rw [bounds_eq] at hb
  split at hb <;> omega
theorem PowAt.lt {w : World} (h : PowAt w) : 1 < w.heap.size := World.block_lt_of_cell? w _ h.1
theorem Print_is (S : Nat → Prop) (n : Nat) (p : PatN (n + 1)) (v : Value) (w : World) (h : KidsAt S w n (kids p) v) (hS : ∀ d, S d → d < w.heap.size) (hP : PowAt w) :
    Calls Tryz.prog 34 #[valOf p v] w fun r w' => r = .returned (.tuple #[.string (printS p), .int .i64 (printE p)]) ∧ Kept w w' := by
  have HK := hide1 h
  have HS := hide1 hS
  have HPW := hide1 hP
  obtain ⟨a, cap, rfl⟩ := h.form
  rw [valOf_eq]
  have HPS : Hid (printS p = if checkP p = 0 then if 4096 < (writeA (n + 1) p).length then strOf [] else strOf (writeA (n + 1) p) else strOf []) := rfl
  have HPE : Hid (printE p = if checkP p = 0 then if 4096 < (writeA (n + 1) p).length then 2 else 0 else checkP p) := rfl
  clear h hS hP
  obtain ⟨ck, hck⟩ : ∃ x, checkP p = x := ⟨_, rfl⟩
  have HC := hide1 hck
  rw [hck] at HPS HPE
  go_enter Tryz.func34, Tryz.ntmps34
  by_cases hc : ck = 0
  · rw [if_pos hc] at HPS HPE
    have hn := nice_ofA (n + 1) p (check_right (hck.trans hc)) (check_size (hck.trans hc))
    have HW := hide1 (write_isA n p hn)
    have hwl := writeA_len n p
    have hsz := check_size (hck.trans hc)
    obtain ⟨zs, hzs⟩ : ∃ zs, writeA (n + 1) p = zs := ⟨_, rfl⟩
    rw [hzs] at HW hwl HPS HPE
    have hzl : zs.length ≤ 100000 := by omega
    have ec : (ck != 0) = false := by simpa using hc
    have HZ := hide1 hc
    clear hn hwl hsz hzs hck hc
    have hcv : ∀ (w7 : World) (base : Nat) (a7 : Option Addr) (c7 : Nat), OutAt w7 base (.slice a7 zs.length c7) zs → (convert 100 9 (.slice a7 zs.length c7)).run Tryz.prog w7 = .ok (.string (strOf zs)) w7 := fun _ _ _ _ h => conv_all h
    have HCV := hide1 hcv
    clear hcv
    by_cases hlong : (4096 : Int) < (zs.length : Int)
    · rw [if_pos (by omega)] at HPS HPE
      go_wp2_with (first
        | (go_at_call 45; refine (Check_is S n p _ _ (HK.out.kept ((Kept.refl _).alloc _ _)) (fun d hd => by have := HS.out d hd; simp; omega)).mono ?_; rintro r w6 ⟨rfl, hk6⟩; rw [HC.out]; have HK6 := hide1 (gtrans ((Kept.refl w).alloc _ _) hk6); obtain ⟨⟨q0, q1, q2, q3, q4, q5⟩, _⟩ := ((BoxAt.new w _ _ _ _ _ _).keep hk6).facts; clear hk6)
        | (go_at_call 46; refine (HW.out S _ w6.heap.size _ _ [] (OutAt.nil _ _) (Nat.le_refl _) (by simp; omega) (HK.out.kept HK6.out) (fun d hd e => by cases e) (HPW.out.keep HK6.out) (HPW.out.keep HK6.out).lt).mono ?_; rintro r w7 ⟨v7, rfl, ho7, hg7, hw7⟩; rw [List.nil_append] at ho7; obtain ⟨a7, c7, e7⟩ := ho7.form; subst e7; have HO7 := hide1 ho7; have HG7 := hide1 hg7; clear ho7 hg7 hw7))
      go_ret2
      exact ⟨by rw [HPS.out, HPE.out]; rfl, gtrans HK6.out (kept_grown HG7.out)⟩
    · rw [if_neg (by omega)] at HPS HPE
      go_wp2_with (first
        | (go_at_call 45; refine (Check_is S n p _ _ (HK.out.kept ((Kept.refl _).alloc _ _)) (fun d hd => by have := HS.out d hd; simp; omega)).mono ?_; rintro r w6 ⟨rfl, hk6⟩; rw [HC.out]; have HK6 := hide1 (gtrans ((Kept.refl w).alloc _ _) hk6); obtain ⟨⟨q0, q1, q2, q3, q4, q5⟩, _⟩ := ((BoxAt.new w _ _ _ _ _ _).keep hk6).facts; clear hk6)
        | (go_at_call 46; refine (HW.out S _ w6.heap.size _ _ [] (OutAt.nil _ _) (Nat.le_refl _) (by simp; omega) (HK.out.kept HK6.out) (fun d hd e => by cases e) (HPW.out.keep HK6.out) (HPW.out.keep HK6.out).lt).mono ?_; rintro r w7 ⟨v7, rfl, ho7, hg7, hw7⟩; rw [List.nil_append] at ho7; obtain ⟨a7, c7, e7⟩ := ho7.form; subst e7; have HO7 := hide1 ho7; have HG7 := hide1 hg7; have hcv7 := HCV.out _ _ _ _ ho7; clear ho7 hg7 hw7))
      go_ret2
      exact ⟨by rw [HPS.out, HPE.out]; rfl, gtrans HK6.out (kept_grown HG7.out)⟩
  · rw [if_neg hc] at HPS HPE
    have ec : (ck != 0) = true := by simpa using hc
    clear hck hc
    go_wp2_with (go_at_call 45; refine (Check_is S n p _ _ (HK.out.kept ((Kept.refl _).alloc _ _)) (fun d hd => by have := HS.out d hd; simp; omega)).mono ?_; rintro r w6 ⟨rfl, hk6⟩; rw [HC.out]; have HK6 := hide1 (gtrans ((Kept.refl w).alloc _ _) hk6); clear hk6)
    go_ret2
    exact ⟨by rw [HPS.out, HPE.out]; rfl, HK6.out⟩
end Ex
end Go.Proofs.YtbnchnlogikecaaGreatDoor
namespace Go.Proofs.YtbnchnlogikecaaGreatDoor
open Go.RowKit
attribute [local go_sem] Oper.semAt_some
set_option linter.unusedVariables false
set_option linter.unusedSimpArgs false
set_option maxRecDepth 100000
set_option maxHeartbeats 2000000
namespace Ex
theorem SliceOf.len0 {α : Type} {w : World} {sz : Nat} {El : List Value → α → Prop} {v : Value} {xs : List α} (h : SliceOf w sz El v xs) : ∃ a cap, v = .slice a xs.length cap ∧ xs.length ≤ cap ∧ xs.length ≤ 17592186044416 := by
  obtain ⟨a, cap, h1, h2, h3, _⟩ := h
  exact ⟨a, cap, h1, h2, h3⟩
theorem SliceOf.el0 {α : Type} {w : World} {sz : Nat} {El : List Value → α → Prop} {a : Option Addr} {n cap : Nat} {xs : List α} (h : SliceOf w sz El (.slice a n cap) xs) {i : Nat} {x : α} (hi : xs[i]? = some x) : ∃ c o cs, a = some ⟨c, o, none⟩ ∧ c < w.heap.size ∧ cs.length = sz ∧ (∀ (j : Nat) (u : Value), cs[j]? = some u → w.cell? ⟨c, o + i * sz + j, none⟩ = some u) ∧ El cs x := by
  obtain ⟨a', cap', h1, _, _, h4⟩ := h
  simp only [Value.slice.injEq] at h1
  obtain ⟨rfl, _, _⟩ := h1
  rcases h4 with h4 | ⟨c, o, h5, h6, h7⟩
  · rw [h4] at hi; simp at hi
  · obtain ⟨cs, g1, g2, g3⟩ := h7 i x hi
    exact ⟨c, o, cs, h5, h6, g1, g2, g3⟩
namespace Gu
open Sh Gs
abbrev LxM : Type := ByteArray × Bool × Pat
def LexE (w : World) (cs : List Value) (x : LxM) : Prop := ∃ v', cs = [.string x.1, .bool x.2.1, .int .i64 (kind x.2.2.2), .int .i64 (from_ x.2.2.2), .int .i64 (to_ x.2.2.2), .int .i64 (min_ x.2.2.2), .int .i64 (max_ x.2.2.2), v'] ∧ x.1.size ≤ 200000000000000 ∧ KidsAt (fun d => d < w.heap.size) w x.2.2.1 (kids x.2.2.2) v'
def SpR (w : World) (vl vn vp : Value) (sp : SpV) : Prop := SliceOf w 8 (LexE w) vl sp.lex ∧ NamesAt w vn sp.nam ∧ ProdsAt w vp sp.prd
theorem SpR.keep {w w' : World} {vl vn vp : Value} {sp : SpV} (h : SpR w vl vn vp sp) (hk : Kept w w') : SpR w' vl vn vp sp :=
  ⟨SliceOf.mono h.1 hk (fun _ _ ⟨v', h1, h2, h3⟩ => ⟨v', h1, h2, KidsAt.mono (hk.holds _) (fun _ hd => Nat.lt_of_lt_of_le hd hk.size) _ _ _ h3⟩), h.2.1.keep hk, h.2.2.keep hk⟩
def lexW : ByteArray := ⟨#[108, 101, 120]⟩
def namesW : ByteArray := ⟨#[110, 97, 109, 101, 115]⟩
def startW : ByteArray := ⟨#[115, 116, 97, 114, 116]⟩
def prodsW : ByteArray := ⟨#[112, 114, 111, 100, 117, 99, 116, 105, 111, 110, 115]⟩
def rightW : ByteArray := ⟨#[114, 105, 103, 104, 116]⟩
def textW : ByteArray := ⟨#[116, 101, 120, 116]⟩
def nameB (nm : ByteArray) : Bool := decide (0 < nm.size) && decide (nm.size ≤ 64) && decide (wordN nm = nm.size) && !resU nm
theorem size_ok (n m at_ : Int) (ls : ByteArray) (w : World) (h : n ≤ m) :
    Calls Tryz.prog 73 #[.int .i64 n, .int .i64 m, .int .i64 at_, .string ls] w fun e w' => e = .returned (.tuple #[]) ∧ Kept w w' := by
  have h1 : ¬ (m < n) := by omega
  go_enter Tryz.func73, Tryz.ntmps73
  go_wp2_with fail
  go_end0
  exact ⟨rfl, Kept.refl _⟩
theorem size_bad (n m at_ : Int) (ls : ByteArray) (w : World) (h : m < n) :
    Calls Tryz.prog 73 #[.int .i64 n, .int .i64 m, .int .i64 at_, .string ls] w fun e w' => e = thrown 2 at_ ls ∧ Kept w w' := by
  go_enter Tryz.func73, Tryz.ntmps73
  go_wp2_with (go_at_call 51; go_must (refine (Gs.fail_is _ _ _ _).mono ?_; rintro e w6 ⟨rfl, hk6⟩; unfold thrown))
  exact ⟨rfl, rfl, hk6⟩
theorem within_is (x n : Int) (w : World) :
    Calls Tryz.prog 56 #[.int .i64 x, .int .i64 n] w fun e w' => e = .returned (.bool (decide (0 ≤ x) && decide (x < n))) ∧ w' = w := by
  by_cases h0 : 0 ≤ x
  · go_enter Tryz.func56, Tryz.ntmps56
    go_wp2_with fail
    go_ret
    exact ⟨by rw [decide_eq_true (show 0 ≤ x by omega)]; rfl, rfl⟩
  · go_enter Tryz.func56, Tryz.ntmps56
    go_wp2_with fail
    go_ret
    exact ⟨by rw [decide_eq_false (show ¬ 0 ≤ x by omega)]; rfl, rfl⟩
theorem isName_is (nm : ByteArray) (w : World) :
    Calls Tryz.prog 74 #[.string nm] w fun e w' => e = .returned (.bool (nameB nm)) ∧ Kept w w' := by
  obtain ⟨R, hR⟩ : ∃ R, nameB nm = R := ⟨_, rfl⟩
  rw [hR]
  unfold nameB at hR
  by_cases h0 : nm.size = 0
  · have e0 : nm = ⟨#[]⟩ := by
      cases nm with
      | mk d => 
        have : d.size = 0 := h0
        rw [Array.size_eq_zero_iff] at this
        rw [this]
    subst e0
    have hR2 : false = R := hR
    subst hR2
    clear h0 hR
    go_enter Tryz.func74, Tryz.ntmps74
    go_wp2_with fail
    go_ret
    exact ⟨rfl, Kept.refl _⟩
  have hne : (nm.toList == []) = false := by
    have : nm.toList ≠ [] := fun e => h0 (by
      have h := congrArg List.length e
      rw [ByteArray.toList_eq] at h
      simpa using h)
    simpa using this
  rw [show decide (0 < nm.size) = true by simp; omega, Bool.true_and] at hR
  by_cases h64 : nm.size ≤ 64
  case neg =>
    rw [show decide (nm.size ≤ 64) = false by simpa using h64] at hR
    have hR2 : false = R := hR
    subst hR2
    have e64 : ¬ ((nm.size : Int) ≤ 64) := by omega
    clear h0 h64 hR
    go_enter Tryz.func74, Tryz.ntmps74
    go_wp2_with fail
    go_ret
    exact ⟨rfl, Kept.refl _⟩
  rw [show decide (nm.size ≤ 64) = true by simpa using h64, Bool.true_and] at hR
  have e64 : ((nm.size : Int) ≤ 64) := by omega
  have HWI := hide1 (word_is nm (by omega))
  obtain ⟨wn, hwn⟩ : ∃ x, wordN nm = x := ⟨_, rfl⟩
  rw [hwn] at hR HWI
  have HRE := hide1 (reserved_is nm)
  obtain ⟨rb, hrb⟩ : ∃ x, resU nm = x := ⟨_, rfl⟩
  rw [hrb] at hR HRE
  clear hwn hrb h0 h64
  by_cases hw : wn = nm.size
  · have eW : ((wn : Int) == (nm.size : Int)) = true := by rw [hw]; simp
    rw [show decide (wn = nm.size) = true by simpa using hw, Bool.true_and] at hR
    have HR := hide1 hR
    clear hw hR
    go_enter Tryz.func74, Tryz.ntmps74
    go_wp2_with (first | (go_at_call 70; go_must (refine (HWI.out _).mono ?_; rintro e w1 ⟨rfl, m1, hm1⟩; subst hm1)) | (go_at_call 92; go_must (refine (HRE.out _).mono ?_; rintro e w2 ⟨rfl, hk2⟩)))
    go_ret
    exact ⟨by rw [← HR.out]; simp, gtrans (drewN_kept _ _) hk2⟩
  · have eW : ((wn : Int) == (nm.size : Int)) = false := by simp; omega
    rw [show decide (wn = nm.size) = false by simpa using hw] at hR
    have hR2 : false = R := hR
    subst hR2
    clear hw hR
    go_enter Tryz.func74, Tryz.ntmps74
    go_wp2_with (go_at_call 70; go_must (refine (HWI.out _).mono ?_; rintro e w1 ⟨rfl, m1, hm1⟩; subst hm1))
    go_ret
    exact ⟨rfl, drewN_kept _ _⟩
end Gu
end Ex
end Go.Proofs.YtbnchnlogikecaaGreatDoor
namespace Go.Proofs.YtbnchnlogikecaaGreatDoor
open Go.RowKit
attribute [local go_sem] Oper.semAt_some
set_option linter.unusedSimpArgs false
set_option maxRecDepth 100000
set_option maxHeartbeats 4000000
namespace Ex
namespace Gu
open Sh Gs
set_option linter.unusedVariables false
def IxIs {α : Type} (P : α → Bool) (row : List α) (r : Int) : Prop := (r = -1 ∧ row.any P = false) ∨ (0 ≤ r ∧ r < 17592186044416 ∧ row.any P = true)
def IxR {α : Type} (P : α → Bool) (row : List α) (w : World) (vi : Value) (wr : World) : Prop := ∃ j : Nat, vi = .int .i64 (j : Int) ∧ j ≤ row.length ∧ Hid ((row.take j).any P = false) ∧ Hid (Kept w wr)
theorem indexSym_is (f : Nat) (bs : Array Value) (P : SymM → Bool) (ar : Option Addr) (nr cr : Nat) (row : List SymM) (hrow : row.length = nr) (w : World) (hr : RightAt w (.slice ar nr cr) row)
    (hf : ∀ x ∈ row, ∀ wr, Kept w wr → Calls Tryz.prog f (bs ++ #[.agg #[.int .i64 x.1, .int .i64 x.2]]) wr fun e w' => e = .returned (.bool (P x)) ∧ Kept wr w')
    (ef : ∀ args w, (callFunc f args).run Tryz.prog w = .ok (.enter f args) w) :
    Calls Tryz.prog 93 #[.slice ar nr cr, .func (.func f) bs #[]] w fun e w' => ∃ r : Int, e = .returned (.int .i64 r) ∧ IxIs P row r ∧ Kept w w' := by
  have HR := hide1 hr
  have HROW := hide1 hrow
  have HF := hide1 hf
  obtain ⟨_, _, e1, hc, hn⟩ := SliceOf.len0 hr
  simp only [Value.slice.injEq] at e1
  obtain ⟨rfl, en, rfl⟩ := e1
  clear en
  rw [hrow] at hc hn
  have gn : (nr : Int) ≤ 17592186044416 := by omega
  clear hr hrow hf
  go_enter Tryz.func93, Tryz.ntmps93
  go_wp2_with fail
  go_loopw [8] (IxR P row w) (fun i _ => nr - (intOf i).toNat)
  case atStart => exact ⟨0, rfl, Nat.zero_le _, rfl, Kept.refl w⟩
  case round =>
    obtain ⟨j, rfl, hj, HA, HKr⟩ := hrel
    rw [HROW.out] at hj
    by_cases hlt : (j : Int) < (nr : Int)
    · obtain ⟨x, hx⟩ : ∃ x, row[j]? = some x := ⟨_, List.getElem?_eq_getElem (by have := HROW.out; omega)⟩
      obtain ⟨cb, ob, cs, ea, hcb, hlen, hcell, hcs⟩ := SliceOf.el0 (RightAt.keep HR.out HKr.out) hx
      have hcs : cs = [.int .i64 x.1, .int .i64 x.2] := hcs
      subst ea hcs
      have k0 := hcell 0 _ rfl
      have k1 := hcell 1 _ rfl
      have k0 : wr.cell? ⟨cb, ob + j * 2, none⟩ = some (.int .i64 x.1) := k0
      have HX := hide1 hx
      have HC := hide1 (HF.out x (List.mem_of_getElem? hx) wr HKr.out)
      have gjc : (j : Int) < (cr : Int) := by omega
      obtain ⟨kd, nn⟩ := x
      have hef := ef
      clear hx hcell
      have HA2 : Hid (∀ b, P (kd, nn) = b → (row.take (j + 1)).any P = b) := by
        intro b hb
        rw [List.take_add_one, HX.out, List.any_append, HA.out]
        simpa using hb
      cases hp : P (kd, nn) with
      | true =>
        rw [hp] at HC
        have HB := hide1 (HA2.out true hp)
        clear hp HA2
        go_wp2_with fail
        refine HC.out.mono ?_
        rintro e w6 ⟨rfl, hk6⟩
        have HK6 := hide1 (gtrans HKr.out hk6)
        clear hk6
        go_wp2_with fail
        go_ret
        refine ⟨(j : Int), rfl, .inr ⟨by omega, by omega, ?_⟩, HK6.out⟩
        rw [← List.take_append_drop (j + 1) row, List.any_append, HB.out]
        rfl
      | false =>
        rw [hp] at HC
        have HB := hide1 (HA2.out false hp)
        clear hp HA2
        go_wp2_with fail
        refine HC.out.mono ?_
        rintro e w6 ⟨rfl, hk6⟩
        have HK6 := hide1 (gtrans HKr.out hk6)
        clear hk6
        go_wp2_with fail
        go_roundw
        case rel => exact ⟨j + 1, by go_num, by rw [HROW.out]; omega, HB, HK6⟩
        case measure => simp [intOf]; omega
    · go_wp2_with fail
      go_ret
      refine ⟨-1, rfl, .inl ⟨rfl, ?_⟩, HKr.out⟩
      rw [← HA.out, List.take_of_length_le (by have := HROW.out; omega)]
theorem containsSym_is (f : Nat) (bs : Array Value) (P : SymM → Bool) (ar : Option Addr) (nr cr : Nat) (row : List SymM) (hrow : row.length = nr) (b : Bool) (hb : row.any P = b) (w : World) (hr : RightAt w (.slice ar nr cr) row)
    (hf : ∀ x ∈ row, ∀ wr, Kept w wr → Calls Tryz.prog f (bs ++ #[.agg #[.int .i64 x.1, .int .i64 x.2]]) wr fun e w' => e = .returned (.bool (P x)) ∧ Kept wr w')
    (ef : ∀ args w, (callFunc f args).run Tryz.prog w = .ok (.enter f args) w) :
    Calls Tryz.prog 75 #[.slice ar nr cr, .func (.func f) bs #[]] w fun e w' => e = .returned (.bool b) ∧ Kept w w' := by
  have HI := hide1 (indexSym_is f bs P ar nr cr row hrow w hr hf ef)
  have HB := hide1 hb
  clear hr hf hrow hb
  go_enter Tryz.func75, Tryz.ntmps75
  go_wp2_with (go_at_call 93; refine HI.out.mono ?_; rintro e w6 ⟨r, rfl, hr6, hk6⟩; have HR6 := hide1 hr6; have HK6 := hide1 hk6; clear hr6 hk6)
  go_ret
  refine ⟨?_, HK6.out⟩
  have e : decide (0 ≤ r) = b := by
    rcases HR6.out with ⟨h1, h2⟩ | ⟨h1, _, h2⟩
    · rw [← HB.out, h2, h1]; rfl
    · rw [← HB.out, h2]; simpa using h1
  rw [← e]
  rfl
end Gu
end Ex
end Go.Proofs.YtbnchnlogikecaaGreatDoor
