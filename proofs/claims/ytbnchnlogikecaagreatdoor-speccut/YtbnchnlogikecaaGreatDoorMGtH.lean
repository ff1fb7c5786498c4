import Derived.Test.YtbnchnlogikecaaGreatDoorMGtE
import Derived.Deep.DeepMust
import Derived.BigQuiet
namespace Go.Proofs.YtbnchnlogikecaaGreatDoor
open Go.RowKit Go.Maps
attribute [local go_sem] Oper.semAt_some
set_option linter.unusedVariables false
namespace Ex
namespace Gs
open Sh

theorem ResB.drew {w : World} {g g' : Nat} {x0 x1 x2 x3 y0 y1 y2 : Value} (h : ResB w g g' x0 x1 x2 x3 y0 y1 y2) : ResB w.drew g g' x0 x1 x2 x3 y0 y1 y2 := h
set_option linter.unusedSimpArgs false in
set_option maxRecDepth 100000 in
set_option maxHeartbeats 1000000 in
theorem read_is (T : ByteArray) (hT : T.size ≤ 100000) (w : World) :
    Calls Tryz.prog 29 #[.string T] w (OutQ w (wholeM T)) := by
  obtain ⟨X, hX⟩ : ∃ X, wholeM T = X := ⟨_, rfl⟩
  rw [hX]
  have HCW : Hid (∀ b w ρ, RdA ρ w b T st0 → Calls Tryz.prog 39 #[.func (.func 40) #[.pointer (some ⟨b, 0, none⟩)] #[]] w (OutC ρ b T w X)) := fun b w ρ h => by
    rw [← hX]
    exact caughtR_is T hT b w ρ st0 h (st0_wf T) (fun ys h => by cases h) ⟨Nat.zero_le _, fun u h => by cases h⟩
  have HXB : Hid (∀ f, X = .error f → f.1 ≠ 0) := fun f h => whole_bad (T := T) (s := st0) f (hX.trans h)
  clear hX hT
  have hmm := @run_makeMap Tryz.prog
  have hmf : ∀ (fn : Fn) (first cap : Array Value) (w : World), (Instr.makeFunc fn first cap).run Tryz.prog w = .ok (.func fn first cap) w := fun _ _ _ _ => rfl
  go_enter Tryz.func29, Tryz.ntmps29
  go_upto_region 1 with fail
  have HK1 := hide1 ((((Kept.refl w).alloc #[.slice none 0 0, .slice none 0 0, .int .i64 0, .slice none 0 0] 27)).alloc #[.int .i64 0, .int .i64 0, .string ⟨#[]⟩] 30)
  have HR1 : Hid (ResB ((w.alloc (.cells #[.slice none 0 0, .slice none 0 0, .int .i64 0, .slice none 0 0] 27)).alloc (.cells #[.int .i64 0, .int .i64 0, .string ⟨#[]⟩] 30)) w.heap.size (w.heap.size + 1) (.slice none 0 0) (.slice none 0 0) (.int .i64 0) (.slice none 0 0) (.int .i64 0) (.int .i64 0) (.string ⟨#[]⟩)) := by
    refine ⟨by omega, (heap_alloc_old _ _ (by simp)).trans (heap_alloc_new w _), ?_⟩
    have h := heap_alloc_new (w.alloc (.cells #[.slice none 0 0, .slice none 0 0, .int .i64 0, .slice none 0 0] 27)) (.cells #[.int .i64 0, .int .i64 0, .string ⟨#[]⟩] 30)
    rw [World.size_alloc] at h
    exact h
  have HS1 : Hid (((w.alloc (.cells #[.slice none 0 0, .slice none 0 0, .int .i64 0, .slice none 0 0] 27)).alloc (.cells #[.int .i64 0, .int .i64 0, .string ⟨#[]⟩] 30)).heap.size = w.heap.size + 2) := by
    show ((w.alloc _).alloc _).heap.size = w.heap.size + 2
    rw [World.size_alloc, World.size_alloc]
  obtain ⟨g3, hg3⟩ : ∃ g, w.heap.size + 1 = g := ⟨_, rfl⟩
  rw [hg3] at HR1 ⊢
  have HG3 := hide1 hg3
  obtain ⟨g2, hg2⟩ : ∃ g, w.heap.size = g := ⟨_, rfl⟩
  generalize (w.alloc (.cells #[.slice none 0 0, .slice none 0 0, .int .i64 0, .slice none 0 0] 27)).alloc (.cells #[.int .i64 0, .int .i64 0, .string ⟨#[]⟩] 30) = W1 at HK1 HR1 HS1 ⊢
  rw [hg2] at HR1 HS1 HG3 ⊢
  have HG2 := hide1 hg2
  clear hg2 hg3
  have HM1 : GMap (W1.alloc (.map #[] 0)) W1.heap.size 0 (fun _ => none) := MapS.made (World.ownsMap_made W1 Tryz.prog 9 symR)
  obtain ⟨W2, hins0, hgm, hkb, hsz⟩ := HM1.store (by omega) (x := errW) (by decide) (2, 0)
  have hins : (Instr.mapUpdate 86 (.map (some W1.heap.size)) (.string ⟨#[101, 114, 114, 111, 114]⟩) (.agg #[.int .i64 2, .int .i64 0])).run Tryz.prog (W1.alloc (.map #[] 0)) = .ok () W2 := hins0
  clear hins0 HM1
  go_upto_region 2 with fail
  obtain ⟨m, hm⟩ : ∃ m, W1.heap.size = m := ⟨_, rfl⟩
  have hb2 : W2.heap.size = m + 1 := by rw [hsz, World.size_alloc, hm]
  obtain ⟨b, hb⟩ : ∃ b, m + 1 = b := ⟨_, rfl⟩
  have HA3 : Hid (RdA (fun d => if d = m then 6 else 0) (W2.alloc (.cells #[.string T, .int .i64 0, .slice none 0 0, .slice none 0 0, .int .i64 0, .slice none 0 0, .map (some m), .slice none 0 0, .bool false] 89)) b T st0) := by
    have h1 := heap_alloc_new W2 (.cells #[.string T, .int .i64 0, .slice none 0 0, .slice none 0 0, .int .i64 0, .slice none 0 0, .map (some m), .slice none 0 0, .bool false] 89)
    rw [hb2, hb] at h1
    rw [hm] at hgm
    exact reader_new h1 (hgm.same (heap_alloc_old _ _ (by rw [hb2]; omega))) (by omega)
  have HK3 : Hid (Kept w (W2.alloc (.cells #[.string T, .int .i64 0, .slice none 0 0, .slice none 0 0, .int .i64 0, .slice none 0 0, .map (some m), .slice none 0 0, .bool false] 89))) := by
    rw [hm] at hkb
    refine Kept.alloc ?_ _ _
    have h1 : Kept w (W1.alloc (.map #[] 0)) := Kept.of (HK1.out.below.alloc HK1.out.size _)
    refine KeptBut.up h1 ?_ hkb
    have := HS1.out; have := HG2.out
    omega
  have HR3 : Hid (ResB (W2.alloc (.cells #[.string T, .int .i64 0, .slice none 0 0, .slice none 0 0, .int .i64 0, .slice none 0 0, .map (some m), .slice none 0 0, .bool false] 89)) g2 g3 (.slice none 0 0) (.slice none 0 0) (.int .i64 0) (.slice none 0 0) (.int .i64 0) (.int .i64 0) (.string ⟨#[]⟩)) := by
    have h1 := HS1.out
    have h3 := HG3.out
    rw [hm] at hkb h1
    refine HR1.out.keep ?_ ?_
    · refine (heap_alloc_old _ _ (by rw [hb2]; omega)).trans ((hkb.2.2.2.2 g2 (by rw [World.size_alloc, hm]; omega) (by omega)).trans (heap_alloc_old _ _ (by rw [hm]; omega)))
    · refine (heap_alloc_old _ _ (by rw [hb2]; omega)).trans ((hkb.2.2.2.2 g3 (by rw [World.size_alloc, hm]; omega) (by omega)).trans (heap_alloc_old _ _ (by rw [hm]; omega)))
  have HNE := hide1 (show g2 ≠ b ∧ g3 ≠ b ∧ g2 ≠ m ∧ g3 ≠ m ∧ w.heap.size ≤ b ∧ w.heap.size ≤ m by have h1 := HS1.out; have h3 := HG3.out; have h2 := HG2.out; omega)
  rw [hm, hb]
  generalize W2.alloc (.cells #[.string T, .int .i64 0, .slice none 0 0, .slice none 0 0, .int .i64 0, .slice none 0 0, .map (some m), .slice none 0 0, .bool false] 89) = W3 at HA3 HK3 HR3 ⊢
  clear hins hgm hkb hsz hm hb2 hb HK1 HR1 HS1 hmm
  go_wp2_with fail
  go_at_call 39
  refine (HCW.out _ _ _ HA3.out).mono ?_
  intro e w4 h4
  obtain ⟨ρ, hρ⟩ : ∃ ρ : Nat → Nat, (fun d => if d = m then 6 else 0) = ρ := ⟨_, rfl⟩
  rw [hρ] at h4
  have HRO := hide1 (show ∀ d, ρ d ≠ 0 → w.heap.size ≤ d from fun d hd => by
    rw [← hρ] at hd
    by_cases e : d = m
    · rw [e]; exact HNE.out.2.2.2.2.2
    · simp only [e, if_false] at hd; exact absurd rfl hd)
  have HR20 := hide1 (show ρ g2 = 0 ∧ ρ g3 = 0 by rw [← hρ]; exact ⟨if_neg HNE.out.2.2.1, if_neg HNE.out.2.2.2.1⟩)
  clear hρ HCW
  rcases X with f | s
  · obtain ⟨rfl, hf4⟩ := h4
    obtain ⟨f0, f1, f2⟩ := f
    have HR4 : Hid (ResB w4 g2 g3 (.slice none 0 0) (.slice none 0 0) (.int .i64 0) (.slice none 0 0) (.int .i64 0) (.int .i64 0) (.string ⟨#[]⟩)) := HR3.out.keep (hf4.2.2.2.2 g2 HR3.out.facts.2.2.2.2.1 (fun e => by rcases e with e | e; exact HNE.out.1 e; exact e HR20.out.1)) (hf4.2.2.2.2 g3 HR3.out.facts.2.2.2.2.2 (fun e => by rcases e with e | e; exact HNE.out.2.1 e; exact e HR20.out.2))
    have HK4 : Hid (Kept w w4) := kept_of_kt (S := fun d => w.heap.size ≤ d) (KT.wide (HK3.out.kt _) hf4 (fun d hd e => by rcases e with e | e; rw [e]; exact HNE.out.2.2.2.2.1; exact HRO.out d e)) (fun d h => h)
    have hf0 : f0 ≠ 0 := HXB.out _ rfl
    have e0 : (f0 != 0) = true := by simpa using hf0
    have HK5 := hide1 (HK4.out.alloc #[.int .i64 f0, .int .i64 f1, .string f2] 30)
    have HB5 : Hid (FbB (w4.alloc (.cells #[.int .i64 f0, .int .i64 f1, .string f2] 30)) w4.heap.size f0 f1 f2) := heap_alloc_new w4 _
    have HR5 : Hid (ResB (w4.alloc (.cells #[.int .i64 f0, .int .i64 f1, .string f2] 30)) g2 g3 (.slice none 0 0) (.slice none 0 0) (.int .i64 0) (.slice none 0 0) (.int .i64 0) (.int .i64 0) (.string ⟨#[]⟩)) := HR4.out.keep (heap_alloc_old _ _ HR4.out.facts.2.2.2.2.1) (heap_alloc_old _ _ HR4.out.facts.2.2.2.2.2)
    have HL4 := hide1 (And.intro HR4.out.facts.2.2.2.2.1 HR4.out.facts.2.2.2.2.2)
    have HKS := hide1 HK4.out.size
    clear hf4 hf0 HR4 HK4
    go_upto_region 3 with fail
    obtain ⟨g5, hg5⟩ : ∃ g, w4.heap.size = g := ⟨_, rfl⟩
    generalize w4.alloc (.cells #[.int .i64 f0, .int .i64 f1, .string f2] 30) = W5 at HK5 HB5 HR5 ⊢
    have hn2 : g2 ≠ g5 := fun e => by have := HL4.out.1; omega
    have hn3 : g3 ≠ g5 := fun e => by have := HL4.out.2; omega
    have hn2' : g5 ≠ g2 := fun e => hn2 e.symm
    have hn3' : g5 ≠ g3 := fun e => hn3 e.symm
    rw [hg5] at HB5 ⊢
    have HGW5 := hide1 (show w.heap.size ≤ g5 from by rw [← hg5]; exact HKS.out)
    clear hg5
    obtain ⟨⟨c0, c1, c2⟩, -⟩ := HB5.out.facts
    go_upto_region 4 with fail
    obtain ⟨⟨a0, a1, a2, a3⟩, ⟨b0, b1, b2⟩, za, zb, la, lb⟩ := HR5.out.facts
    have za0 := za 0
    have za1 := za 1
    have za2 := za 2
    have za3 := za 3
    have zb0 := zb 0
    have zb1 := zb 1
    have zb2 := zb 2
    have hne := HR5.out.1
    have hne' : g3 ≠ g2 := fun e => hne e.symm
    clear za zb
    go_region
    have hr6 := HR5.out.set (.slice none 0 0) (.slice none 0 0) (.int .i64 0) (.slice none 0 0) (.int .i64 f0) (.int .i64 f1) (.string f2)
    unfold Gs.set3 Gs.set4 at hr6
    have HR6 := hide1 hr6.drew
    clear hr6
    have hk6 : Kept w (Gs.set3 (Gs.set4 W5 g2 (.slice none 0 0) (.slice none 0 0) (.int .i64 0) (.slice none 0 0)) g3 (.int .i64 f0) (.int .i64 f1) (.string f2)) := kept_of_kt (S := fun _ => False) (KT.set3 (KT.set4 (HK5.out.kt _) (Nat.le_of_eq HG2.out) (.slice none 0 0) (.slice none 0 0) (.int .i64 0) (.slice none 0 0)) (by have h1 := HG3.out; have h2 := HG2.out; omega) (.int .i64 f0) (.int .i64 f1) (.string f2)) (fun d h => h.elim)
    have hk7 := gtrans hk6 (drew_kept _)
    unfold Gs.set3 Gs.set4 at hk7
    have HK6 := hide1 hk7
    clear hk6 hk7
    generalize (((((((W5.setCell ⟨g2, 0, none⟩ (.slice none 0 0)).setCell ⟨g2, 1, none⟩ (.slice none 0 0)).setCell ⟨g2, 2, none⟩ (.int .i64 0)).setCell ⟨g2, 3, none⟩ (.slice none 0 0)).setCell ⟨g3, 0, none⟩ (.int .i64 f0)).setCell ⟨g3, 1, none⟩ (.int .i64 f1)).setCell ⟨g3, 2, none⟩ (.string f2)).drew = W6 at HR6 HK6 ⊢
    go_wp2_with fail
    (try simp only [Exit.inBlock, Exit.then])
    refine bodyPost_ret (spec_results rfl _ _ g2 g3 _ _ _ _ _ _ _ rfl HR6.out.2.1 rfl HR6.out.2.2) rfl ?_
    exact ⟨HK6.out, rfl⟩
  · skip
    obtain ⟨rfl, ρ4, ha4, hw4⟩ := h4
    have HR4 : Hid (ResB w4 g2 g3 (.slice none 0 0) (.slice none 0 0) (.int .i64 0) (.slice none 0 0) (.int .i64 0) (.int .i64 0) (.string ⟨#[]⟩)) := HR3.out.keep (hw4.block HR3.out.facts.2.2.2.2.1 HNE.out.1 HR20.out.1) (hw4.block HR3.out.facts.2.2.2.2.2 HNE.out.2.1 HR20.out.2)
    have HK4 : Hid (Kept w w4) := kept_of_kt (S := fun d => w.heap.size ≤ d) (KT.wide (HK3.out.kt _) hw4.1 (fun d hd e => by rcases e with e | e; rw [e]; exact HNE.out.2.2.2.2.1; exact HRO.out d e)) (fun d h => h)
    have HX4 : Hid (∀ d, ρ4 d ≠ 0 → w.heap.size ≤ d) := fun d hd => by
      by_cases e : w.heap.size ≤ d
      · exact e
      · have h1 := hw4.2 d (by have := HK3.out.size; omega)
        rw [h1] at hd
        exact HRO.out d hd
    have HX20 : Hid (ρ4 g2 = 0 ∧ ρ4 g3 = 0) := ⟨(hw4.2 g2 HR3.out.facts.2.2.2.2.1).trans HR20.out.1, (hw4.2 g3 HR3.out.facts.2.2.2.2.2).trans HR20.out.2⟩
    obtain ⟨⟨la, ln, lc⟩, ⟨na, nn, nc⟩, ⟨pa, pn, pc⟩, xU, m4, its, ps, hb4⟩ := ha4
    have e0 : ((0 : Int) != 0) = false := rfl
    have HK5 := hide1 (HK4.out.alloc #[.int .i64 0, .int .i64 0, .string ⟨#[]⟩] 30)
    have HB5 : Hid (FbB (w4.alloc (.cells #[.int .i64 0, .int .i64 0, .string ⟨#[]⟩] 30)) w4.heap.size 0 0 ⟨#[]⟩) := heap_alloc_new w4 _
    have HR5 : Hid (ResB (w4.alloc (.cells #[.int .i64 0, .int .i64 0, .string ⟨#[]⟩] 30)) g2 g3 (.slice none 0 0) (.slice none 0 0) (.int .i64 0) (.slice none 0 0) (.int .i64 0) (.int .i64 0) (.string ⟨#[]⟩)) := HR4.out.keep (heap_alloc_old _ _ HR4.out.facts.2.2.2.2.1) (heap_alloc_old _ _ HR4.out.facts.2.2.2.2.2)
    obtain ⟨ρ5, hρ5⟩ : ∃ r, ρ4 = r := ⟨_, rfl⟩
    rw [hρ5] at hb4 HX4 HX20
    have HX5 := hide1 (And.intro (hb4.kept ((Kept.refl w4).alloc #[.int .i64 0, .int .i64 0, .string ⟨#[]⟩] 30)) HX4.out)
    clear hw4 HR4 HK4 hb4 hρ5 HX4
    go_upto_region 3 with fail
    obtain ⟨g5, hg5⟩ : ∃ g, w4.heap.size = g := ⟨_, rfl⟩
    generalize w4.alloc (.cells #[.int .i64 0, .int .i64 0, .string ⟨#[]⟩] 30) = W5 at HK5 HB5 HR5 HX5 ⊢
    rw [hg5] at HB5 ⊢
    clear hg5
    obtain ⟨⟨c0, c1, c2⟩, -⟩ := HB5.out.facts
    obtain ⟨⟨a0, a1, a2, a3⟩, ⟨b0, b1, b2⟩, za, zb, la', lb'⟩ := HR5.out.facts
    have za0 := za 0
    have za1 := za 1
    have za2 := za 2
    have za3 := za 3
    have zb0 := zb 0
    have zb1 := zb 1
    have zb2 := zb 2
    have hne := HR5.out.1
    have hne' : g3 ≠ g2 := fun e => hne e.symm
    obtain ⟨⟨-, -, q2, q3, q4, q5, -⟩, -⟩ := HX5.out.1.cells
    dsimp only at q2 q3 q5
    clear za zb
    go_wp2_with fail
    have HH6 : Hid (∀ d, ρ5 d ≠ 0 → ((((((((W5.setCell ⟨g2, 0, none⟩ (.slice la ln lc)).setCell ⟨g2, 1, none⟩ (.slice na nn nc)).setCell ⟨g2, 2, none⟩ (.int .i64 s.st)).setCell ⟨g2, 3, none⟩ (.slice pa pn pc)).setCell ⟨g3, 0, none⟩ (.int .i64 0)).setCell ⟨g3, 1, none⟩ (.int .i64 0)).setCell ⟨g3, 2, none⟩ (.string ⟨#[]⟩))).heap[d]? = W5.heap[d]?) := fun d hd => by
      have h2 : d ≠ g2 := fun e => hd (by rw [e]; exact HX20.out.1)
      have h3 : d ≠ g3 := fun e => hd (by rw [e]; exact HX20.out.2)
      rw [set_heap_ne h3, set_heap_ne h3, set_heap_ne h3, set_heap_ne h2, set_heap_ne h2, set_heap_ne h2, set_heap_ne h2]
    have hr6 := HR5.out.set (.slice la ln lc) (.slice na nn nc) (.int .i64 s.st) (.slice pa pn pc) (.int .i64 0) (.int .i64 0) (.string ⟨#[]⟩)
    unfold Gs.set3 Gs.set4 at hr6
    have HR6 := hide1 hr6
    clear hr6
    have hk6 : Kept w (Gs.set3 (Gs.set4 W5 g2 (.slice la ln lc) (.slice na nn nc) (.int .i64 s.st) (.slice pa pn pc)) g3 (.int .i64 0) (.int .i64 0) (.string ⟨#[]⟩)) := kept_of_kt (S := fun _ => False) (KT.set3 (KT.set4 (HK5.out.kt _) (Nat.le_of_eq HG2.out) (.slice la ln lc) (.slice na nn nc) (.int .i64 s.st) (.slice pa pn pc)) (by have h1 := HG3.out; have h2 := HG2.out; omega) (.int .i64 0) (.int .i64 0) (.string ⟨#[]⟩)) (fun d h => h.elim)
    have hk7 := hk6
    unfold Gs.set3 Gs.set4 at hk7
    have HK6 := hide1 hk7
    clear hk6 hk7
    have HS6 : Hid (SpO w.heap.size ((((((((W5.setCell ⟨g2, 0, none⟩ (.slice la ln lc)).setCell ⟨g2, 1, none⟩ (.slice na nn nc)).setCell ⟨g2, 2, none⟩ (.int .i64 s.st)).setCell ⟨g2, 3, none⟩ (.slice pa pn pc)).setCell ⟨g3, 0, none⟩ (.int .i64 0)).setCell ⟨g3, 1, none⟩ (.int .i64 0)).setCell ⟨g3, 2, none⟩ (.string ⟨#[]⟩))) (.agg #[.slice la ln lc, .slice na nn nc, .int .i64 s.st, .slice pa pn pc]) s) := ⟨(la, ln, lc), (na, nn, nc), (pa, pn, pc), its, ps, ρ5, rfl, HX5.out.1.lex.same (fun d hd => HH6.out d (by rw [HX5.out.1.o1 d hd]; decide)), HX5.out.1.lexR.mono (fun d _ hr => HH6.out d (by rw [hr]; decide)) (fun _ _ h => h) (by simp [World.setCell]), HX5.out.1.nam.same (fun d hd => HH6.out d (by rw [HX5.out.1.o3 d hd]; decide)), HX5.out.1.prd.same (fun d hd => HH6.out d (by rw [HX5.out.1.o4 d hd]; decide)), HX5.out.1.prdR.mono (fun d _ hr => HH6.out d (by rw [hr]; decide)) (fun _ _ h => h), HX5.out.1.o1, HX5.out.1.o3, HX5.out.1.o4, fun d hd => ⟨HX5.out.2 d hd, by have := HX5.out.1.lo d hd; simp [World.setCell]; exact this⟩⟩
    generalize (((((((W5.setCell ⟨g2, 0, none⟩ (.slice la ln lc)).setCell ⟨g2, 1, none⟩ (.slice na nn nc)).setCell ⟨g2, 2, none⟩ (.int .i64 s.st)).setCell ⟨g2, 3, none⟩ (.slice pa pn pc)).setCell ⟨g3, 0, none⟩ (.int .i64 0)).setCell ⟨g3, 1, none⟩ (.int .i64 0)).setCell ⟨g3, 2, none⟩ (.string ⟨#[]⟩)) = W6 at HR6 HK6 HS6 HH6 ⊢
    (try simp only [Exit.inBlock, Exit.then])
    refine bodyPost_ret (spec_results rfl _ _ g2 g3 _ _ _ _ _ _ _ rfl HR6.out.2.1 rfl HR6.out.2.2) rfl ?_
    exact ⟨HK6.out, _, rfl, HS6.out⟩

end Gs
end Ex
end Go.Proofs.YtbnchnlogikecaaGreatDoor
