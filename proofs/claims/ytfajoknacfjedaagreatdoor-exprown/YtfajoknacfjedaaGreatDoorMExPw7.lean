import Derived.Test.YtfajoknacfjedaaGreatDoorMExPw5
import Derived.Test.YtfajoknacfjedaaGreatDoorMExRdC
import Derived.Test.YtfajoknacfjedaaGreatDoorMExO9
import Derived.Deep.RegionHeld3
namespace Go.Proofs.YtfajoknacfjedaaGreatDoor
open Go.RowKit
attribute [local go_sem] Oper.semAt_some
namespace Ex

theorem write_isA : ∀ (n : Nat) (p : PatN (n + 1)), NiceA (n + 1) p → WriteCA n p (writeA (n + 1) p)
  | 0, p, h => write_stepA 0 p h (fun _ _ => trivial)
  | n + 1, p, h => write_stepA (n + 1) p h (fun q hq => write_isA n q (h.2.2.2.2 q hq))
theorem nice_ofA : ∀ (n : Nat) (p : PatN n), rightP n p = true → sizeP n p ≤ 4096 → NiceA n p
  | 0, _, _, _ => trivial
  | n + 1, p, hr, hs => by
    have hr' : (topOf p && (kids p).all (rightP n)) = true := hr
    rw [Bool.and_eq_true] at hr'
    obtain ⟨ht, ha⟩ := hr'
    rw [size_succ] at hs
    have hl := sizes_len (kids p)
    unfold topOf topP at ht
    refine ⟨fun e => ?_, fun e => ?_, fun e => ?_, by omega, fun q hq => nice_ofA n q (List.all_eq_true.1 ha q hq) (by have := sizes_mem hq; omega)⟩
    · rw [if_pos e] at ht
      simp at ht
      omega
    · rw [if_neg (by omega), if_neg (by omega), if_neg (by omega), if_pos e] at ht
      unfold timesP at ht
      simp at ht
      omega
    · rw [if_neg (by omega), if_neg (by omega), if_pos e] at ht
      simp at ht
      intro h0
      rw [h0] at ht
      simp at ht
theorem partN_len (n : Nat) (q : PatN n) (k : Int) (ys : List Int) : (partN n q k ys).length ≤ ys.length + 2 := by
  cases n with
  | zero => exact Nat.zero_le _
  | succ n =>
    show (partW q k ys).length ≤ _
    unfold partW
    split <;> simp
theorem size_pos1 (n : Nat) (p : PatN (n + 1)) : 1 ≤ sizeP (n + 1) p := by rw [size_succ]; have := sizes_pos n (kids p); omega
theorem sum_len {n : Nat} (f : PatN n × Nat → List Int) (hf : ∀ x, ((f x).length : Int) ≤ 20 * sizeP n x.1) : ∀ (L : List (PatN n)) (k : Nat), (((L.zipIdx k).flatMap f).length : Int) ≤ 20 * sizesP n L
  | [], _ => by simp; exact Int.le_refl 0
  | q :: L, k => by
    have h1 := sum_len f hf L (k + 1)
    have h2 := hf (q, k)
    rw [List.zipIdx_cons, List.flatMap_cons, List.length_append]
    show _ ≤ 20 * (sizeP n q + sizesP n L)
    simp only [] at h2
    omega
theorem rangeW_len {n : Nat} (p : PatN (n + 1)) : (rangeW p).length ≤ 11 := by
  unfold rangeW
  have h1 := byteW_len signsS (from_ p)
  have h2 := memW_len p
  split
  · omega
  · split
    · simp
    · unfold classW
      simp
      omega
theorem writeA_len : ∀ (n : Nat) (p : PatN (n + 1)), ((writeA (n + 1) p).length : Int) + 3 ≤ 20 * sizeP (n + 1) p := by
  intro n
  induction n with
  | zero =>
    intro p
    have hs := size_pos1 0 p
    have hs1 : 1 ≤ sizeP 1 p := hs
    have h0 : kids p = [] := none_of _
    unfold writeA
    split
    · have := rangeW_len p; omega
    · split
      · rw [h0]
        have := timesA_len (min_ p) (max_ p)
        simp
        omega
      · split
        · show (([91, 93] : List Int).length : Int) + 3 ≤ _
          simp
          omega
        · rw [h0]
          simp
          omega
  | succ n ih =>
    intro p
    have hs := size_succ p
    have hp := sizes_pos (n + 1) (kids p)
    have hln := sizes_len (kids p)
    have hpart : ∀ (q : PatN (n + 1)) (k : Int), ((partN (n + 1) q k (writeA (n + 1) q)).length : Int) + 1 ≤ 20 * sizeP (n + 1) q := fun q k => by
      have h1 := ih q
      have h2 := partN_len (n + 1) q k (writeA (n + 1) q)
      omega
    unfold writeA
    split
    · have := rangeW_len p; omega
    · split
      · have ht := timesA_len (min_ p) (max_ p)
        rw [List.length_append]
        have hk : ((((kids p).take 1).flatMap (fun q => partN (n + 1) q 4 (writeA (n + 1) q))).length : Int) ≤ 20 * sizesP (n + 1) (kids p) := by
          cases hkk : kids p with
          | nil => simp; exact Int.le_refl 0
          | cons q l =>
            have h1 := hpart q 4
            have h2 := sizes_pos (n + 1) l
            show _ ≤ 20 * (sizeP (n + 1) q + sizesP (n + 1) l)
            simp
            omega
        omega
      · split
        · have hf := flat_len (memW (n := n)) 9 memW_len (kids p)
          show ((classW (kids p)).length : Int) + 3 ≤ _
          unfold classW
          simp only [List.length_cons, List.length_append, List.length_nil]
          omega
        · have h1 := sum_len (n := n + 1) (fun x => (if 0 < x.2 ∧ kind p = 3 then [124] else []) ++ partN (n + 1) x.1 (kind p) (writeA (n + 1) x.1)) (fun x => by
            have h2 := hpart x.1 (kind p)
            simp only [List.length_append]
            split <;> simp <;> omega) (kids p) 0
          omega

theorem conv_nil (w : World) (a : Option Addr) (c : Nat) : (convert 31 9 (.slice a 0 c)).run Tryz.prog w = .ok (.string (strOf [])) w := by
  rw [run_convert_bytes_string w 31 9 5 a 0 c Tryz.underlying31 Tryz.underlying5 Tryz.underlying9]
  cases a with
  | none => rfl
  | some g => exact run_bytesToString w g 0 c [] rfl
theorem conv_all {w : World} {base c : Nat} {a : Option Addr} {zs : List Int} (h : OutAt w base (.slice a zs.length c) zs) : (convert 31 9 (.slice a zs.length c)).run Tryz.prog w = .ok (.string (strOf zs)) w := by
  by_cases hz : zs = []
  · subst hz
    exact conv_nil w a c
  · exact conv_out h hz
/-- What Print answers. -/
def printS {n : Nat} (p : PatN (n + 1)) : ByteArray := if checkP p = 0 then if 4096 < (writeA (n + 1) p).length then strOf [] else strOf (writeA (n + 1) p) else strOf []
def printE {n : Nat} (p : PatN (n + 1)) : Int := if checkP p = 0 then if 4096 < (writeA (n + 1) p).length then 2 else 0 else checkP p
theorem check_size {n : Nat} {p : PatN (n + 1)} (h : checkP p = 0) : sizeP (n + 1) p ≤ 4096 := by
  have hb : boundsP p = 0 := by
    unfold checkP at h
    split at h
    · assumption
    · exact h
  rw [bounds_eq] at hb
  split at hb <;> omega
theorem PowAt.lt {w : World} (h : PowAt w) : 2 < w.heap.size := World.block_lt_of_cell? w _ h.1

set_option linter.unusedSimpArgs false in
set_option maxRecDepth 100000 in
set_option maxHeartbeats 4000000 in
theorem Print_is (S : Nat → Prop) (n : Nat) (p : PatN (n + 1)) (v : Value) (w : World) (h : KidsAt S w n (kids p) v) (hS : ∀ d, S d → d < w.heap.size) (hP : PowAt w) :
    Calls Tryz.prog 20 #[valOf p v] w fun r w' => r = .returned (.tuple #[.string (printS p), .int .i64 (printE p)]) ∧ Kept w w' := by
  have HK := hide1 h
  have HS := hide1 hS
  have HPW := hide1 hP
  obtain ⟨a, cap, rfl⟩ := h.form
  rw [valOf_eq]
  have HPS : Hid (printS p = if checkP p = 0 then if 4096 < (writeA (n + 1) p).length then strOf [] else strOf (writeA (n + 1) p) else strOf []) := rfl
  have HPE : Hid (printE p = if checkP p = 0 then if 4096 < (writeA (n + 1) p).length then 2 else 0 else checkP p) := rfl
  clear h hS hP
  obtain ⟨ck, hck⟩ : ∃ x, checkP p = x := ⟨_, rfl⟩
  have HC := hide1 hck
  rw [hck] at HPS HPE
  go_enter Tryz.func20, Tryz.ntmps20
  by_cases hc : ck = 0
  · rw [if_pos hc] at HPS HPE
    have hn := nice_ofA (n + 1) p (check_right (hck.trans hc)) (check_size (hck.trans hc))
    have HW := hide1 (write_isA n p hn)
    have hwl := writeA_len n p
    have hsz := check_size (hck.trans hc)
    obtain ⟨zs, hzs⟩ : ∃ zs, writeA (n + 1) p = zs := ⟨_, rfl⟩
    rw [hzs] at HW hwl HPS HPE
    have hzl : zs.length ≤ 100000 := by omega
    have ec : (ck != 0) = false := by simpa using hc
    have HZ := hide1 hc
    clear hn hwl hsz hzs hck hc
    have hcv : ∀ (w7 : World) (base : Nat) (a7 : Option Addr) (c7 : Nat), OutAt w7 base (.slice a7 zs.length c7) zs → (convert 31 9 (.slice a7 zs.length c7)).run Tryz.prog w7 = .ok (.string (strOf zs)) w7 := fun _ _ _ _ h => conv_all h
    have HCV := hide1 hcv
    clear hcv
    by_cases hlong : (4096 : Int) < (zs.length : Int)
    · rw [if_pos (by omega)] at HPS HPE
      go_wp2_with (first
        | (go_at_call 14; refine (Check_is S n p _ _ (HK.out.kept ((Kept.refl _).alloc _ _)) (fun d hd => by have := HS.out d hd; simp; omega)).mono ?_; rintro r w6 ⟨rfl, hk6⟩; rw [HC.out]; have HK6 := hide1 (gtrans ((Kept.refl w).alloc _ _) hk6); obtain ⟨⟨q0, q1, q2, q3, q4, q5⟩, _⟩ := ((BoxAt.new w _ _ _ _ _ _).keep hk6).facts; clear hk6)
        | (go_at_call 31; refine (HW.out S _ w6.heap.size _ _ [] (OutAt.nil _ _) (Nat.le_refl _) (by simp; omega) (HK.out.kept HK6.out) (fun d hd e => by cases e) (HPW.out.keep HK6.out) (HPW.out.keep HK6.out).lt).mono ?_; rintro r w7 ⟨v7, rfl, ho7, hg7, hw7⟩; rw [List.nil_append] at ho7; obtain ⟨a7, c7, e7⟩ := ho7.form; subst e7; have HO7 := hide1 ho7; have HG7 := hide1 hg7; clear ho7 hg7 hw7))
      go_ret2
      exact ⟨by rw [HPS.out, HPE.out]; rfl, gtrans HK6.out (kept_grown HG7.out)⟩
    · rw [if_neg (by omega)] at HPS HPE
      go_wp2_with (first
        | (go_at_call 14; refine (Check_is S n p _ _ (HK.out.kept ((Kept.refl _).alloc _ _)) (fun d hd => by have := HS.out d hd; simp; omega)).mono ?_; rintro r w6 ⟨rfl, hk6⟩; rw [HC.out]; have HK6 := hide1 (gtrans ((Kept.refl w).alloc _ _) hk6); obtain ⟨⟨q0, q1, q2, q3, q4, q5⟩, _⟩ := ((BoxAt.new w _ _ _ _ _ _).keep hk6).facts; clear hk6)
        | (go_at_call 31; refine (HW.out S _ w6.heap.size _ _ [] (OutAt.nil _ _) (Nat.le_refl _) (by simp; omega) (HK.out.kept HK6.out) (fun d hd e => by cases e) (HPW.out.keep HK6.out) (HPW.out.keep HK6.out).lt).mono ?_; rintro r w7 ⟨v7, rfl, ho7, hg7, hw7⟩; rw [List.nil_append] at ho7; obtain ⟨a7, c7, e7⟩ := ho7.form; subst e7; have HO7 := hide1 ho7; have HG7 := hide1 hg7; have hcv7 := HCV.out _ _ _ _ ho7; clear ho7 hg7 hw7))
      go_ret2
      exact ⟨by rw [HPS.out, HPE.out]; rfl, gtrans HK6.out (kept_grown HG7.out)⟩
  · rw [if_neg hc] at HPS HPE
    have ec : (ck != 0) = true := by simpa using hc
    clear hck hc
    go_wp2_with (go_at_call 14; refine (Check_is S n p _ _ (HK.out.kept ((Kept.refl _).alloc _ _)) (fun d hd => by have := HS.out d hd; simp; omega)).mono ?_; rintro r w6 ⟨rfl, hk6⟩; rw [HC.out]; have HK6 := hide1 (gtrans ((Kept.refl w).alloc _ _) hk6); clear hk6)
    go_ret2
    exact ⟨by rw [HPS.out, HPE.out]; rfl, HK6.out⟩

end Ex
end Go.Proofs.YtfajoknacfjedaaGreatDoor
namespace Go.Proofs.YtfajoknacfjedaaGreatDoor
open Go.RowKit
attribute [local go_sem] Oper.semAt_some
namespace Ex

/-- Two lists, place by place. -/
def eqL {α : Type} (f : α → α → Bool) : List α → List α → Bool
  | [], [] => true
  | a :: L, b :: M => f a b && eqL f L M
  | _, _ => false
/-- Are two patterns of so many levels the same? -/
def eqB : (n : Nat) → PatN n → PatN n → Bool
  | 0, _, _ => true
  | n + 1, p, q => decide (kind p = kind q) && decide (from_ p = from_ q) && decide (to_ p = to_ q) && decide (min_ p = min_ q) && decide (max_ p = max_ q) && decide ((kids p).length = (kids q).length) && eqL (eqB n) (kids p) (kids q)
theorem eqL_at {α : Type} {f : α → α → Bool} : ∀ {L M : List α}, L.length = M.length → (eqL f L M = true ↔ ∀ (i : Nat) (a b : α), L[i]? = some a → M[i]? = some b → f a b = true)
  | [], [], _ => by simp [eqL]
  | a :: L, b :: M, h => by
    have ih := eqL_at (f := f) (L := L) (M := M) (by simpa using h)
    rw [eqL, Bool.and_eq_true, ih]
    constructor
    · rintro ⟨h1, h2⟩ i x y hx hy
      cases i with
      | zero => simp at hx hy; subst hx; subst hy; exact h1
      | succ i => exact h2 i x y (by simpa using hx) (by simpa using hy)
    · intro h1
      exact ⟨h1 0 a b rfl rfl, fun i x y hx hy => h1 (i + 1) x y (by simpa using hx) (by simpa using hy)⟩
  | [], _ :: _, h => by simp at h
  | _ :: _, [], h => by simp at h
theorem eqB_iff : ∀ (n : Nat) (p q : PatN n), eqB n p q = true ↔ p = q
  | 0, p, _ => absurd (none_of [p]) (by simp)
  | n + 1, p, q => by
    rw [eqB]
    simp only [Bool.and_eq_true, decide_eq_true_eq]
    constructor
    · rintro ⟨⟨⟨⟨⟨⟨h1, h2⟩, h3⟩, h4⟩, h5⟩, h6⟩, h7⟩
      rw [eqL_at h6] at h7
      have hk : kids p = kids q := by
        apply List.ext_getElem? 
        intro i
        by_cases hi : i < (kids p).length
        · have e1 := List.getElem?_eq_getElem hi
          have e2 := List.getElem?_eq_getElem (l := kids q) (show i < (kids q).length by omega)
          rw [e1, e2, (eqB_iff n _ _).1 (h7 i _ _ e1 e2)]
        · rw [List.getElem?_eq_none (by omega), List.getElem?_eq_none (by omega)]
      exact Prod.ext h1 (Prod.ext h2 (Prod.ext h3 (Prod.ext h4 (Prod.ext h5 hk))))
    · rintro rfl
      refine ⟨⟨⟨⟨⟨⟨rfl, rfl⟩, rfl⟩, rfl⟩, rfl⟩, rfl⟩, ?_⟩
      rw [eqL_at rfl]
      intro i a b ha hb
      rw [ha] at hb
      rw [← Option.some.inj hb]
      exact (eqB_iff n a a).2 rfl

end Ex
end Go.Proofs.YtfajoknacfjedaaGreatDoor
