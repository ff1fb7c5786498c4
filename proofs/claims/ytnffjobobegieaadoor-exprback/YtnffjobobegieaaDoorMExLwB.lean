import Derived.Test.YtnffjobobegieaaDoorMExRn1
import Derived.Test.YtnffjobobegieaaDoorMExTw0
import Derived.Test.YtnffjobobegieaaDoorMExPb3
import Derived.Test.YtnffjobobegieaaDoorMExSm2
import Derived.Deep.Cut
namespace Go.Proofs.YtnffjobobegieaaDoor
open Go.RowKit
attribute [local go_sem] Oper.semAt_some
namespace Ex

theorem KidsAt.all {S : Nat → Prop} {w : World} {n : Nat} {l : List (PatN n)} {v : Value} (h : KidsAt S w n l v) : KidsAt (fun d => d < w.heap.size) w n l v :=
  KidsAt.mono (fun _ _ _ _ h => h) (fun _ h => h.2) _ _ _ (KidsAt.tight _ _ _ h)
theorem same_fitted (M : Nat) {n m : Nat} (S S2 : Nat → Prop) (p : PatN (n + 1)) (q : PatN (m + 1)) (v vm : Value) (w : World) (h1 : n ≤ M) (h2 : m ≤ M) (h : KidsAt S w m (kids q) v) (hm : KidsAt S2 w n (kids p) vm) :
    Calls Tryd.prog 7 #[valOf p vm, valOf q v] w fun e w' => e = .returned (.bool (eqB (M + 1) (fitp M p) (fitp M q))) ∧ Kept w w' :=
  same_gen S S2 M (fitp M p) (fitp M q) v vm w (KidsAt.fit m M h2 _ _ h) (KidsAt.fit n M h1 _ _ hm)
theorem list_ne {s t : ByteArray} (h : ¬ s = t) : (s.toList == t.toList) = false := by
  rw [beq_eq_false_iff_ne]
  intro e
  rw [ByteArray.toList_eq, ByteArray.toList_eq] at e
  exact h (ByteArray.ext (Array.toList_inj.1 e))
theorem size3 (w : World) (a b c : Addr) (x y z : Value) : (((w.setCell a x).setCell b y).setCell c z).heap.size = w.heap.size := by simp [World.setCell]
theorem parse_good {T : ByteArray} {p : Pat} {f : Int} (h : parseM T = (p, 0, f)) : f = 0 ∧ checkP p.2 = 0 := by
  unfold parseM at h
  split at h
  · simp at h
  split at h
  · rename_i h1
    simp only [Prod.mk.injEq] at h
    exact absurd h.2.1 h1
  split at h
  · rename_i h1
    simp only [Prod.mk.injEq] at h
    exact absurd h.2.1 h1
  · rename_i h1
    simp only [Prod.mk.injEq] at h
    obtain ⟨rfl, _, rfl⟩ := h
    exact ⟨rfl, by simpa using h1⟩
theorem parse_bad {T : ByteArray} {p : Pat} {e f : Int} (h : parseM T = (p, e, f)) (he : e ≠ 0) : p = zeroP := by
  unfold parseM at h
  split at h
  · exact (congrArg Prod.fst h).symm
  split at h
  · exact (congrArg Prod.fst h).symm
  split at h
  · exact (congrArg Prod.fst h).symm
  · exact absurd (congrArg (fun x => x.2.1) h).symm he
theorem printE_two {n : Nat} {p : PatN (n + 1)} (hc : checkP p = 0) (h : printE p ≠ 0) : printE p = 2 := by
  unfold printE at h ⊢
  rw [if_pos hc] at h ⊢
  split
  · rfl
  · rename_i h1
    rw [if_neg h1] at h
    exact absurd rfl h
theorem fault_new (w : World) (o : Obj) (y0 y1 y2 : Value) : FaultAt ((w.alloc o).alloc (.cells #[y0, y1, y2] 30)) (w.heap.size + 1) y0 y1 y2 := by
  have h := heap_alloc_new (w.alloc o) (.cells #[y0, y1, y2] 30)
  simpa [FaultAt] using h
theorem FaultAt.keep {g : Nat} {w w' : World} {y0 y1 y2 : Value} (h : FaultAt w g y0 y1 y2) (hk : Kept w w') : FaultAt w' g y0 y1 y2 := (hk.2.2.2.2 g (Array.getElem?_eq_some_iff.1 h).1).trans h
theorem FaultAt.lt {g : Nat} {w : World} {y0 y1 y2 : Value} (h : FaultAt w g y0 y1 y2) : g < w.heap.size := (Array.getElem?_eq_some_iff.1 h).1

set_option linter.unusedSimpArgs false in
set_option maxRecDepth 100000 in
set_option maxHeartbeats 4000000 in
theorem lawB_is (ka kb : Nat) (pa : PatN (ka + 1)) (pb : PatN (kb + 1)) (va vb : Value) (T : ByteArray) (w : World) (ha : KidsAt (fun b => b < w.heap.size) w ka (kids pa) va) (hb : KidsAt (fun b => b < w.heap.size) w kb (kids pb) vb) (hTs : T.size ≤ 200000000000000) (hT : TabAt w) (hP : PowAt w) :
    Calls Tryd.prog 3 #[valOf pa va, valOf pb vb, .string T] w fun e w' => e = .returned (.bool true) ∧ Kept w w' := by
  have HT := hide1 hT
  have HPW := hide1 hP
  have HA := hide1 ha
  have HB := hide1 hb
  obtain ⟨aa, ca, rfl⟩ := ha.form
  obtain ⟨ab, cb, rfl⟩ := hb.form
  rw [valOf_eq, valOf_eq]
  obtain ⟨s, hs⟩ : ∃ x, printS pa = x := ⟨_, rfl⟩
  obtain ⟨ea, hea⟩ : ∃ x, printE pa = x := ⟨_, rfl⟩
  obtain ⟨t, ht⟩ : ∃ x, printS pb = x := ⟨_, rfl⟩
  obtain ⟨eb, heb⟩ : ∃ x, printE pb = x := ⟨_, rfl⟩
  have HS := hide1 hs
  have HEA := hide1 hea
  have HTT := hide1 ht
  have HEB := hide1 heb
  clear ha hb hT hP hs hea ht heb
  go_enter Tryd.func3, Tryd.ntmps3
  go_upto_region 1 with fail
  generalize hW1 : World.alloc _ _ = W1
  have HK1 : Hid (Kept w W1) := by rw [← hW1]; exact ((Kept.refl w).alloc _ _).alloc _ _
  have HBA : Hid (BoxAt W1 w.heap.size (.int .i64 (kind pa)) (.int .i64 (from_ pa)) (.int .i64 (to_ pa)) (.int .i64 (min_ pa)) (.int .i64 (max_ pa)) (.slice aa (kids pa).length ca)) := by rw [← hW1]; exact (BoxAt.new w _ _ _ _ _ _).keep ((Kept.refl _).alloc _ _)
  have HBB : Hid (BoxAt W1 (w.heap.size + 1) (.int .i64 (kind pb)) (.int .i64 (from_ pb)) (.int .i64 (to_ pb)) (.int .i64 (min_ pb)) (.int .i64 (max_ pb)) (.slice ab (kids pb).length cb)) := by rw [← hW1]; exact two_new w _ _ _ _ _ _ _
  clear hW1
  obtain ⟨⟨m0, m1, m2, m3, m4, m5⟩, _⟩ := HBA.out.facts
  go_upto_region 2 with (first
    | (go_at_call 5; refine (TwinExpr_is _ ka pa _ _ (HA.out.kept HK1.out)).mono ?_; rintro e w2 ⟨h6, hk6⟩; obtain ⟨v6, rfl, hk2, _⟩ := h6.out; rw [valOf_eq]; obtain ⟨aT, cT, e6⟩ := hk2.form; subst e6; have HKT := hide1 hk6; have HQT := hide1 hk2; clear h6 hk6 hk2)
    | (go_at_call 4; refine (Print_is _ ka pa _ _ (KidsAt.all HQT.out) (fun _ h => h) (HPW.out.keep (gtrans HK1.out HKT.out))).mono ?_; rintro e w3 ⟨rfl, hk7⟩; rw [HS.out, HEA.out]; have HKP := hide1 hk7; clear hk7))
  have HK3 := hide1 (gtrans HK1.out (gtrans HKT.out HKP.out))
  have HBA3 := hide1 (HBA.out.keep (gtrans HKT.out HKP.out))
  have HBB3 := hide1 (HBB.out.keep (gtrans HKT.out HKP.out))
  clear m0 m1 m2 m3 m4 m5 HKT HKP HQT HBA HBB HK1
  obtain ⟨⟨m0, m1, m2, m3, m4, m5⟩, _⟩ := HBB3.out.facts
  go_upto_region 3 with (first
    | (go_at_call 5; refine (TwinExpr_is _ kb pb _ _ (HB.out.kept HK3.out)).mono ?_; rintro e w4 ⟨h6, hk6⟩; obtain ⟨v6, rfl, hk2, _⟩ := h6.out; rw [valOf_eq]; obtain ⟨aT, cT, e6⟩ := hk2.form; subst e6; have HKT := hide1 hk6; have HQT := hide1 hk2; clear h6 hk6 hk2)
    | (go_at_call 4; refine (Print_is _ kb pb _ _ (KidsAt.all HQT.out) (fun _ h => h) (HPW.out.keep (gtrans HK3.out HKT.out))).mono ?_; rintro e w5 ⟨rfl, hk7⟩; rw [HTT.out, HEB.out]; have HKP := hide1 hk7; clear hk7))
  have HK5 := hide1 (gtrans HK3.out (gtrans HKT.out HKP.out))
  have HBA := hide1 (HBA3.out.keep (gtrans HKT.out HKP.out))
  have HBB := hide1 (HBB3.out.keep (gtrans HKT.out HKP.out))
  clear m0 m1 m2 m3 m4 m5 HKT HKP HQT HBA3 HBB3 HK3
  go_upto_if 33 with fail
  go_cut [] from 20 (fun wx => Kept w5 wx)
  case first =>
    by_cases he : ea = 0
    · subst he
      obtain ⟨q, hq, hpm⟩ := parse_print (printE_zero HEA.out).1 (printE_zero HEA.out).2
      rw [HS.out] at hpm
      have HPM := hide1 hpm
      have hsl : s.size ≤ 200000000000000 := by
        have h1 := (printE_zero HEA.out)
        have h2 := (has_str (write_bytes _ pa (check_right h1.1))).2
        have h3 : s = strOf (writeA (ka + 1) pa) := by rw [← HS.out]; unfold printS; rw [if_pos h1.1, if_neg (by omega)]
        rw [h3]
        omega
      have HSQ : Hid (eqB (ka + q.1 + 1) (fitp (ka + q.1) q.2) (fitp (ka + q.1) pa) = true) := (eqB_iff _ _ _).2 (same_fit ka pa q hq _ (by omega) (by omega)).symm
      clear hq hpm
      go_upto_region 5 with (first
        | (go_at_call 6; refine (ParseA_is s _ hsl).mono ?_; rintro r w6 ⟨h6, hk6⟩; obtain ⟨v6, rfl, u6, rfl, hkk⟩ := h6.out; rw [HPM.out] at hkk ⊢; dsimp only at hkk ⊢; rw [valOf_eq]; obtain ⟨a6, c6, e6⟩ := hkk.form; subst e6; have HK6 := hide1 hk6; have HKI := hide1 hkk; clear h6 hk6 hkk))
      generalize hW6 : World.alloc _ _ = W6
      have HBX : Hid (BoxAt W6 w6.heap.size (.int .i64 (kind q.2)) (.int .i64 (from_ q.2)) (.int .i64 (to_ q.2)) (.int .i64 (min_ q.2)) (.int .i64 (max_ q.2)) (.slice a6 (kids q.2).length c6)) := by rw [← hW6]; exact (BoxAt.new w6 _ _ _ _ _ _).keep ((Kept.refl _).alloc _ _)
      have HFX : Hid (FaultAt W6 (w6.heap.size + 1) (.int .i64 0) (.int .i64 0) (.string ByteArray.empty)) := by rw [← hW6]; exact fault_new w6 _ _ _ _
      have HKW6 : Hid (Kept w5 W6) := by rw [← hW6]; exact (HK6.out.alloc _ _).alloc _ _
      have HQ6 : Hid (KidsAt (fun d => w5.heap.size ≤ d) W6 q.1 (kids q.2) (.slice a6 (kids q.2).length c6)) := by rw [← hW6]; exact KidsAt.kept HKI.out (((Kept.refl _).alloc _ _).alloc _ _)
      clear hW6 HKI
      obtain ⟨⟨m0, m1, m2, m3, m4, m5⟩, _⟩ := (HBA.out.keep HKW6.out).facts
      obtain ⟨⟨n0, n1, n2, n3, n4, n5⟩, _⟩ := HBX.out.facts
      obtain ⟨⟨r0, r1, r2⟩, _⟩ := fault_facts HFX.out
      go_wp2_with (first
        | (go_at_call 7; refine (same_fitted (ka + q.1) _ _ q.2 pa _ _ _ (by omega) (by omega) (HA.out.kept (gtrans HK5.out HKW6.out)) HQ6.out).mono ?_; rintro e w9 ⟨rfl, hk9⟩; rw [HSQ.out]; have HK9 := hide1 (gtrans HKW6.out hk9); clear hk9))
      go_meet
      exact HK9.out
    · have hne : (ea == 0) = false := by simpa using he
      go_wp2_with fail
      go_meet
      exact Kept.refl _
  case rest =>
    have HC5 := hide1 hcut
    have HKC := hide1 (gtrans HK5.out hcut)
    have HBA := hide1 (HBA.out.keep hcut)
    have HBB := hide1 (HBB.out.keep hcut)
    clear hcut
    rename World => W7
    go_upto_region 7 with fail
    go_cut [62] from 20 (fun cc wx => cc = .bool false ∧ Kept W7 wx)
    case first =>
      by_cases he : ea = 0
      · subst he
        by_cases hf : eb = 0
        · subst hf
          obtain ⟨M, hM1, hM2, hiff⟩ := print_inj HEA.out HEB.out
          rw [HS.out, HTT.out] at hiff
          have HEQ : Hid (eqB (M + 1) (fitp M pa) (fitp M pb) = decide (s = t)) := by
            show _ = _
            rw [Bool.eq_iff_iff, eqB_iff, decide_eq_true_eq]
            exact hiff.symm
          clear hiff
          obtain ⟨⟨m0, m1, m2, m3, m4, m5⟩, _⟩ := HBA.out.facts
          obtain ⟨⟨n0, n1, n2, n3, n4, n5⟩, _⟩ := HBB.out.facts
          by_cases hst : s = t
          · have HD : Hid (eqB (M + 1) (fitp M pa) (fitp M pb) = true) := HEQ.out.trans (by simp [hst])
            subst hst
            go_wp2_with (first
              | (go_at_call 7; refine (same_fitted M _ _ pa pb _ _ _ hM1 hM2 (HB.out.kept HKC.out) (HA.out.kept HKC.out)).mono ?_; rintro e w9 ⟨rfl, hk9⟩; rw [HD.out]; have HK9 := hide1 hk9; clear hk9))
            go_meet
            exact ⟨rfl, HK9.out⟩
          · have HD : Hid (eqB (M + 1) (fitp M pa) (fitp M pb) = false) := HEQ.out.trans (by simp [hst])
            have hsb := list_ne hst
            go_wp2_with (first
              | (go_at_call 7; refine (same_fitted M _ _ pa pb _ _ _ hM1 hM2 (HB.out.kept HKC.out) (HA.out.kept HKC.out)).mono ?_; rintro e w9 ⟨rfl, hk9⟩; rw [HD.out]; have HK9 := hide1 hk9; clear hk9))
            go_meet
            exact ⟨rfl, HK9.out⟩
        · have hfb : (eb == 0) = false := by simpa using hf
          go_wp2_with fail
          go_meet
          exact ⟨rfl, Kept.refl _⟩
      · have hne : (ea == 0) = false := by simpa using he
        go_wp2_with fail
        go_meet
        exact ⟨rfl, Kept.refl _⟩
    case rest =>
      obtain ⟨rfl, hcut⟩ := hcut
      have HKC := hide1 (gtrans HKC.out hcut)
      clear hcut HC5 HBA HBB
      rename World => W9
      obtain ⟨⟨p, pe, pf⟩, hpm⟩ : ∃ x, parseM T = x := ⟨_, rfl⟩
      have HPM := hide1 hpm
      have hpl := parse_place T
      rw [hpm] at hpl
      dsimp only at hpl
      obtain ⟨hpl0, hpl1⟩ := hpl
      go_upto_region 10 with (first
        | (go_at_call 6; refine (ParseA_is T _ hTs).mono ?_; rintro r w6 ⟨h6, hk6⟩; obtain ⟨v6, rfl, u6, rfl, hkk⟩ := h6.out; rw [HPM.out] at hkk ⊢; dsimp only at hkk ⊢; rw [valOf_eq]; obtain ⟨a6, c6, e6⟩ := hkk.form; subst e6; have HK6 := hide1 hk6; have HKI := hide1 hkk; clear h6 hk6 hkk))
      generalize hW6 : World.alloc _ _ = W6
      have HBX : Hid (BoxAt W6 w6.heap.size (.int .i64 (kind p.2)) (.int .i64 (from_ p.2)) (.int .i64 (to_ p.2)) (.int .i64 (min_ p.2)) (.int .i64 (max_ p.2)) (.slice a6 (kids p.2).length c6)) := by rw [← hW6]; exact (BoxAt.new w6 _ _ _ _ _ _).keep ((Kept.refl _).alloc _ _)
      have HFX : Hid (FaultAt W6 (w6.heap.size + 1) (.int .i64 pe) (.int .i64 pf) (.string ByteArray.empty)) := by rw [← hW6]; exact fault_new w6 _ _ _ _
      have HKW6 : Hid (Kept w W6) := by rw [← hW6]; exact gtrans HKC.out ((HK6.out.alloc _ _).alloc _ _)
      have HQ6 : Hid (KidsAt (fun d => W9.heap.size ≤ d ∧ d < w6.heap.size) W6 p.1 (kids p.2) (.slice a6 (kids p.2).length c6)) := by rw [← hW6]; exact KidsAt.kept (KidsAt.tight _ _ _ HKI.out) (((Kept.refl _).alloc _ _).alloc _ _)
      clear hW6 HKI
      obtain ⟨⟨n0, n1, n2, n3, n4, n5⟩, _⟩ := HBX.out.facts
      obtain ⟨⟨r0, r1, r2⟩, _⟩ := fault_facts HFX.out
      by_cases hpe : pe = 0
      · subst hpe
        obtain ⟨rfl, hck⟩ := parse_good hpm
        obtain ⟨u, hu⟩ : ∃ x, printS p.2 = x := ⟨_, rfl⟩
        obtain ⟨g, hg⟩ : ∃ x, printE p.2 = x := ⟨_, rfl⟩
        have HU := hide1 hu
        have HG := hide1 hg
        clear hpm hu hg
        go_upto_region 13 with (first
          | (go_at_call 5; refine (TwinExpr_is _ p.1 p.2 _ _ HQ6.out).mono ?_; rintro e w7 ⟨h6, hk6⟩; obtain ⟨v6, rfl, hk2, _⟩ := h6.out; rw [valOf_eq]; obtain ⟨aT, cT, e6⟩ := hk2.form; subst e6; have HKT := hide1 hk6; have HQT := hide1 hk2; clear h6 hk6 hk2)
          | (go_at_call 4; refine (Print_is _ p.1 p.2 _ _ (KidsAt.all HQT.out) (fun _ h => h) (HPW.out.keep (gtrans HKW6.out HKT.out))).mono ?_; rintro e w8 ⟨rfl, hk7⟩; rw [HU.out, HG.out]; have HKP := hide1 hk7; clear hk7))
        have HK68 := hide1 (gtrans HKT.out HKP.out)
        have HK8 := hide1 (gtrans HKW6.out HK68.out)
        have HBX8 := hide1 (HBX.out.keep HK68.out)
        have HFX8 := hide1 (HFX.out.keep HK68.out)
        have HQ8 := hide1 (KidsAt.kept HQ6.out HK68.out)
        clear n0 n1 n2 n3 n4 n5 r0 r1 r2 HKT HKP HQT HBX HFX HQ6
        by_cases hg0 : g = 0
        · subst hg0
          obtain ⟨q2, hq2, hpm2⟩ := parse_print hck (printE_zero HG.out).2
          rw [HU.out] at hpm2
          have HPM2 := hide1 hpm2
          have hul : u.size ≤ 200000000000000 := by
            have h1 := (printE_zero HG.out)
            have h2 := (has_str (write_bytes _ p.2 (check_right h1.1))).2
            have h3 : u = strOf (writeA (p.1 + 1) p.2) := by rw [← HU.out]; unfold printS; rw [if_pos h1.1, if_neg (by omega)]
            rw [h3]
            omega
          have HS2 : Hid (printS q2.2 = u) := (same_print hq2).1.trans HU.out
          have HE2 : Hid (printE q2.2 = 0) := (same_print hq2).2.trans HG.out
          have HSQ : Hid (eqB (p.1 + q2.1 + 1) (fitp (p.1 + q2.1) p.2) (fitp (p.1 + q2.1) q2.2) = true) := (eqB_iff _ _ _).2 (same_fit p.1 p.2 q2 hq2 _ (by omega) (by omega))
          have hf8 := HFX8.out.lt
          clear hq2 hpm2 hck
          go_upto_region 16 with (first
            | (go_at_call 6; refine (ParseA_is u _ hul).mono ?_; rintro r w9 ⟨h6, hk9⟩; obtain ⟨v6, rfl, u6, rfl, hkk⟩ := h6.out; rw [HPM2.out] at hkk ⊢; dsimp only at hkk ⊢; rw [valOf_eq]; obtain ⟨a9, c9, e9⟩ := hkk.form; subst e9; have HK9 := hide1 hk9; have HKI := hide1 hkk; have HFX9 := hide1 (HFX8.out.keep hk9); have HBX9 := hide1 (HBX8.out.keep hk9); obtain ⟨⟨r0, r1, r2⟩, s0, s1, s2⟩ := fault_facts HFX9.out; have hf9 := HFX9.out.lt; clear h6 hk9 hkk))
          have hz6 := HK6.out.size
          have hzC := HKC.out.size
          generalize hWA : World.alloc _ _ = WA
          have HKWA : Hid (Kept w WA) := by rw [← hWA]; exact ((((gtrans HK8.out HK9.out).set (by omega)).set (by omega)).set (by omega)).alloc _ _
          have HBXA : Hid (BoxAt WA w6.heap.size (.int .i64 (kind p.2)) (.int .i64 (from_ p.2)) (.int .i64 (to_ p.2)) (.int .i64 (min_ p.2)) (.int .i64 (max_ p.2)) (.slice a6 (kids p.2).length c6)) := by rw [← hWA]; exact BoxAt.keep (heap_set (heap_set (heap_set HBX9.out (by omega)) (by omega)) (by omega)) ((Kept.refl _).alloc _ _)
          have HFXA : Hid (FaultAt WA (w6.heap.size + 1) (.int .i64 0) (.int .i64 0) (.string ByteArray.empty)) := by rw [← hWA]; exact (FaultAt.set HFX9.out).keep ((Kept.refl _).alloc _ _)
          have HBYA : Hid (BoxAt WA w9.heap.size (.int .i64 (kind q2.2)) (.int .i64 (from_ q2.2)) (.int .i64 (to_ q2.2)) (.int .i64 (min_ q2.2)) (.int .i64 (max_ q2.2)) (.slice a9 (kids q2.2).length c9)) := by rw [← hWA]; have h := BoxAt.new (((w9.setCell ⟨w6.heap.size + 1, 0, none⟩ (.int .i64 0)).setCell ⟨w6.heap.size + 1, 1, none⟩ (.int .i64 0)).setCell ⟨w6.heap.size + 1, 2, none⟩ (.string ByteArray.empty)) (.int .i64 (kind q2.2)) (.int .i64 (from_ q2.2)) (.int .i64 (to_ q2.2)) (.int .i64 (min_ q2.2)) (.int .i64 (max_ q2.2)) (.slice a9 (kids q2.2).length c9); rw [size3] at h; exact h
          have HQXA : Hid (KidsAt (fun d => W9.heap.size ≤ d ∧ d < w6.heap.size) WA p.1 (kids p.2) (.slice a6 (kids p.2).length c6)) := by rw [← hWA]; exact KidsAt.kept (KidsAt.mono (S := fun d => W9.heap.size ≤ d ∧ d < w6.heap.size) (((Holds.set (fun _ _ _ _ h => h) (by omega)).set (by omega)).set (by omega)) (fun d h => h) _ _ _ (KidsAt.kept HQ8.out HK9.out)) ((Kept.refl _).alloc _ _)
          have HQYA : Hid (KidsAt (fun d => w8.heap.size ≤ d) WA q2.1 (kids q2.2) (.slice a9 (kids q2.2).length c9)) := by rw [← hWA]; exact KidsAt.kept (KidsAt.mono (S := fun d => w8.heap.size ≤ d) (((Holds.set (fun _ _ _ _ h => h) (by omega)).set (by omega)).set (by omega)) (fun d h => h) _ _ _ HKI.out) ((Kept.refl _).alloc _ _)
          clear hWA HKI HFX8 HBX8 HQ8 HFX9 HBX9 HK9 r0 r1 r2 s0 s1 s2
          obtain ⟨⟨n0, n1, n2, n3, n4, n5⟩, _⟩ := HBYA.out.facts
          go_upto_region 17 with (first
            | (go_at_call 4; refine (Print_is _ q2.1 q2.2 _ _ (KidsAt.all HQYA.out) (fun _ h => h) (HPW.out.keep HKWA.out)).mono ?_; rintro e wB ⟨rfl, hk7⟩; rw [HS2.out, HE2.out]; have HKP := hide1 hk7; clear hk7))
          have HKB := hide1 (gtrans HKWA.out HKP.out)
          clear n0 n1 n2 n3 n4 n5
          obtain ⟨⟨n0, n1, n2, n3, n4, n5⟩, _⟩ := (HBXA.out.keep HKP.out).facts
          obtain ⟨⟨m0, m1, m2, m3, m4, m5⟩, _⟩ := (HBYA.out.keep HKP.out).facts
          obtain ⟨⟨r0, r1, r2⟩, _⟩ := fault_facts (HFXA.out.keep HKP.out)
          go_wp2_with (first
            | (go_at_call 7; refine (same_fitted (p.1 + q2.1) _ _ p.2 q2.2 _ _ _ (by omega) (by omega) (KidsAt.kept HQYA.out HKP.out) (KidsAt.kept HQXA.out HKP.out)).mono ?_; rintro e wC ⟨rfl, hk9⟩; rw [HSQ.out]; have HKCC := hide1 (gtrans HKB.out hk9); have r0 := grown_cell hk9 r0; have r1 := grown_cell hk9 r1; have r2 := grown_cell hk9 r2; clear hk9)
            | (go_at_call 8; refine (known_is _ (HT.out.keep HKCC.out)).mono ?_; rintro e w10 ⟨rfl, hk10⟩; have HK10 := hide1 (gtrans HKCC.out hk10); clear hk10))
          go_ret
          exact ⟨rfl, HK10.out⟩
        · have hg2 := printE_two hck (by rw [HG.out]; exact hg0)
          rw [HG.out] at hg2
          subst hg2
          go_wp2_with (first
            | (go_at_call 8; refine (known_is _ (HT.out.keep HK8.out)).mono ?_; rintro e w10 ⟨rfl, hk10⟩; have HK10 := hide1 (gtrans HK8.out hk10); clear hk10))
          go_ret
          exact ⟨rfl, HK10.out⟩
      · have hpz := parse_bad hpm hpe
        subst hpz
        have hpb : (pe != 0) = true := by simpa using hpe
        have gT : (T.size : Int) ≤ 200000000000000 := by omega
        have HZ : Hid (eqB (0 + 1) (fitp 0 zeroP.2) (fitp 0 zeroP.2) = true) := (eqB_iff _ _ _).2 rfl
        clear hpm
        go_wp2_with (first
          | (go_at_call 7; refine (same_fitted 0 (fun _ => True) _ zeroP.2 zeroP.2 (.slice none 0 0) _ _ (by decide) (by decide) (kids_nil _ _ _ _ _ _ rfl) HQ6.out).mono ?_; rintro e w9 ⟨rfl, hk9⟩; rw [HZ.out]; have HK9 := hide1 (gtrans HKW6.out hk9); have r0 := grown_cell hk9 r0; have r1 := grown_cell hk9 r1; have r2 := grown_cell hk9 r2; clear hk9)
          | (go_at_call 8; refine (known_is _ (HT.out.keep HK9.out)).mono ?_; rintro e w10 ⟨rfl, hk10⟩; have HK10 := hide1 (gtrans HK9.out hk10); clear hk10))
        go_ret
        exact ⟨rfl, HK10.out⟩

end Ex
end Go.Proofs.YtnffjobobegieaaDoor
