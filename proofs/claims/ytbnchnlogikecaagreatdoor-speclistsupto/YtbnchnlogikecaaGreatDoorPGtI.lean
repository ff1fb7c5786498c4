import Derived.Test.YtbnchnlogikecaaGreatDoorPGtF
import Derived.Deep.DeepMust
import Derived.BigQuiet
import Derived.Test.YtbnchnlogikecaaGreatDoorPExRd5
import Derived.OwnWalk
import Derived.Lib.AppendStr
import Derived.Lib.AppendZeros
import Derived.Deep.RegionHeld3
namespace Go.Proofs.YtbnchnlogikecaaGreatDoor
open Go.RowKit
attribute [local go_sem] Oper.semAt_some
set_option linter.unusedVariables false
set_option linter.unusedSimpArgs false
set_option maxRecDepth 100000
set_option maxHeartbeats 1000000
namespace Ex
namespace Gs
open Sh
def parseG (T : ByteArray) : Except Flt RSt := if 65536 < T.size then .error (2, 0, ⟨#[]⟩) else wholeM T
theorem Parse_isG (T : ByteArray) (w : World) :
    Calls Tryz.prog 10 #[.string T] w (OutQ w (parseG T)) := by
  have HK1 := hide1 ((((Kept.refl w).alloc #[.slice none 0 0, .slice none 0 0, .int .i64 0, .slice none 0 0] 27)).alloc #[.int .i64 0, .int .i64 0, .string ⟨#[]⟩] 30)
  have HR1 : Hid (ResB ((w.alloc (.cells #[.slice none 0 0, .slice none 0 0, .int .i64 0, .slice none 0 0] 27)).alloc (.cells #[.int .i64 0, .int .i64 0, .string ⟨#[]⟩] 30)) w.heap.size (w.heap.size + 1) (.slice none 0 0) (.slice none 0 0) (.int .i64 0) (.slice none 0 0) (.int .i64 0) (.int .i64 0) (.string ⟨#[]⟩)) := by
    refine ⟨by omega, (heap_alloc_old _ _ (by simp)).trans (heap_alloc_new w _), ?_⟩
    have h := heap_alloc_new (w.alloc (.cells #[.slice none 0 0, .slice none 0 0, .int .i64 0, .slice none 0 0] 27)) (.cells #[.int .i64 0, .int .i64 0, .string ⟨#[]⟩] 30)
    rw [World.size_alloc] at h
    exact h
  obtain ⟨X, hX⟩ : ∃ X, parseG T = X := ⟨_, rfl⟩
  rw [hX]
  unfold parseG at hX
  by_cases hT : 65536 < T.size
  · rw [if_pos hT] at hX
    subst hX
    have gT : (65536 : Int) < (T.size : Int) := by omega
    clear hT
    go_enter Tryz.func10, Tryz.ntmps10
    go_upto_region 1 with fail
    obtain ⟨g3, hg3⟩ : ∃ g, w.heap.size + 1 = g := ⟨_, rfl⟩
    rw [hg3] at HR1 ⊢
    have HG3 := hide1 hg3
    obtain ⟨g2, hg2⟩ : ∃ g, w.heap.size = g := ⟨_, rfl⟩
    generalize (w.alloc (.cells #[.slice none 0 0, .slice none 0 0, .int .i64 0, .slice none 0 0] 27)).alloc (.cells #[.int .i64 0, .int .i64 0, .string ⟨#[]⟩] 30) = W1 at HK1 HR1 ⊢
    rw [hg2] at HR1 HG3 ⊢
    have HG2 := hide1 hg2
    clear hg2 hg3
    go_upto_region 2 with fail
    obtain ⟨⟨a0, a1, a2, a3⟩, ⟨b0, b1, b2⟩, za, zb, la', lb'⟩ := HR1.out.facts
    have za0 := za 0
    have za1 := za 1
    have za2 := za 2
    have za3 := za 3
    have zb0 := zb 0
    have zb1 := zb 1
    have zb2 := zb 2
    have hne := HR1.out.1
    have hne' : g3 ≠ g2 := fun e => hne e.symm
    clear za zb
    go_wp2_with fail
    have hr6 := HR1.out.set (.slice none 0 0) (.slice none 0 0) (.int .i64 0) (.slice none 0 0) (.int .i64 2) (.int .i64 0) (.string ⟨#[]⟩)
    unfold Gs.set3 Gs.set4 at hr6
    have HR6 := hide1 hr6
    clear hr6
    have hk6 : Kept w (Gs.set3 (Gs.set4 W1 g2 (.slice none 0 0) (.slice none 0 0) (.int .i64 0) (.slice none 0 0)) g3 (.int .i64 2) (.int .i64 0) (.string ⟨#[]⟩)) := kept_of_kt (S := fun _ => False) (KT.set3 (KT.set4 (HK1.out.kt _) (Nat.le_of_eq HG2.out) (.slice none 0 0) (.slice none 0 0) (.int .i64 0) (.slice none 0 0)) (by have h1 := HG3.out; have h2 := HG2.out; omega) (.int .i64 2) (.int .i64 0) (.string ⟨#[]⟩)) (fun d h => h.elim)
    unfold Gs.set3 Gs.set4 at hk6
    have HK6 := hide1 hk6
    clear hk6
    generalize (((((((W1.setCell ⟨g2, 0, none⟩ (.slice none 0 0)).setCell ⟨g2, 1, none⟩ (.slice none 0 0)).setCell ⟨g2, 2, none⟩ (.int .i64 0)).setCell ⟨g2, 3, none⟩ (.slice none 0 0)).setCell ⟨g3, 0, none⟩ (.int .i64 2)).setCell ⟨g3, 1, none⟩ (.int .i64 0)).setCell ⟨g3, 2, none⟩ (.string ⟨#[]⟩)) = W6 at HR6 HK6 ⊢
    (try simp only [Exit.inBlock, Exit.then])
    refine bodyPost_ret (spec_results rfl _ _ g2 g3 _ _ _ _ _ _ _ rfl HR6.out.2.1 rfl HR6.out.2.2) rfl ?_
    exact ⟨HK6.out, rfl⟩
  · rw [if_neg hT] at hX
    have HRD : Hid (∀ w, Calls Tryz.prog 29 #[.string T] w (OutQ w X)) := fun w => by
      rw [← hX]
      exact read_is T (by omega) w
    have gT : ¬ ((65536 : Int) < (T.size : Int)) := by omega
    clear hT hX
    go_enter Tryz.func10, Tryz.ntmps10
    go_upto_region 1 with fail
    obtain ⟨g3, hg3⟩ : ∃ g, w.heap.size + 1 = g := ⟨_, rfl⟩
    rw [hg3] at HR1 ⊢
    have HG3 := hide1 hg3
    obtain ⟨g2, hg2⟩ : ∃ g, w.heap.size = g := ⟨_, rfl⟩
    generalize (w.alloc (.cells #[.slice none 0 0, .slice none 0 0, .int .i64 0, .slice none 0 0] 27)).alloc (.cells #[.int .i64 0, .int .i64 0, .string ⟨#[]⟩] 30) = W1 at HK1 HR1 ⊢
    rw [hg2] at HR1 HG3 ⊢
    have HG2 := hide1 hg2
    clear hg2 hg3
    go_upto_region 3 with fail
    go_wp2_with fail
    go_at_call 29
    refine (HRD.out _).mono ?_
    intro e w4 h4
    have HK4 := hide1 (gtrans HK1.out h4.1)
    have HR4 : Hid (ResB w4 g2 g3 (.slice none 0 0) (.slice none 0 0) (.int .i64 0) (.slice none 0 0) (.int .i64 0) (.int .i64 0) (.string ⟨#[]⟩)) := HR1.out.keep (h4.1.2.2.2.2 g2 HR1.out.facts.2.2.2.2.1) (h4.1.2.2.2.2 g3 HR1.out.facts.2.2.2.2.2)
    have HL1 := hide1 (And.intro HR1.out.facts.2.2.2.2.1 HR1.out.facts.2.2.2.2.2)
    rcases X with f | s
    · obtain ⟨-, rfl⟩ := h4
      obtain ⟨f0, f1, f2⟩ := f
      unfold noV fltV
      dsimp only
      obtain ⟨⟨a0, a1, a2, a3⟩, ⟨b0, b1, b2⟩, za, zb, la', lb'⟩ := HR4.out.facts
      have za0 := za 0
      have za1 := za 1
      have za2 := za 2
      have za3 := za 3
      have zb0 := zb 0
      have zb1 := zb 1
      have zb2 := zb 2
      have hne := HR4.out.1
      have hne' : g3 ≠ g2 := fun e => hne e.symm
      clear za zb
      go_wp2_with fail
      have hr6 := HR4.out.set (.slice none 0 0) (.slice none 0 0) (.int .i64 0) (.slice none 0 0) (.int .i64 f0) (.int .i64 f1) (.string f2)
      unfold Gs.set3 Gs.set4 at hr6
      have HR6 := hide1 hr6
      clear hr6
      have hk6 : Kept w (Gs.set3 (Gs.set4 w4 g2 (.slice none 0 0) (.slice none 0 0) (.int .i64 0) (.slice none 0 0)) g3 (.int .i64 f0) (.int .i64 f1) (.string f2)) := kept_of_kt (S := fun _ => False) (KT.set3 (KT.set4 (HK4.out.kt _) (Nat.le_of_eq HG2.out) (.slice none 0 0) (.slice none 0 0) (.int .i64 0) (.slice none 0 0)) (by have h1 := HG3.out; have h2 := HG2.out; omega) (.int .i64 f0) (.int .i64 f1) (.string f2)) (fun d h => h.elim)
      unfold Gs.set3 Gs.set4 at hk6
      have HK6 := hide1 hk6
      clear hk6
      generalize (((((((w4.setCell ⟨g2, 0, none⟩ (.slice none 0 0)).setCell ⟨g2, 1, none⟩ (.slice none 0 0)).setCell ⟨g2, 2, none⟩ (.int .i64 0)).setCell ⟨g2, 3, none⟩ (.slice none 0 0)).setCell ⟨g3, 0, none⟩ (.int .i64 f0)).setCell ⟨g3, 1, none⟩ (.int .i64 f1)).setCell ⟨g3, 2, none⟩ (.string f2)) = W6 at HR6 HK6 ⊢
      (try simp only [Exit.inBlock, Exit.then])
      refine bodyPost_ret (spec_results rfl _ _ g2 g3 _ _ _ _ _ _ _ rfl HR6.out.2.1 rfl HR6.out.2.2) rfl ?_
      exact ⟨HK6.out, rfl⟩
    · obtain ⟨-, v, rfl, hs⟩ := h4
      unfold okV
      obtain ⟨⟨la, ln, lc⟩, ⟨na, nn, nc⟩, ⟨pa, pn, pc⟩, its, ps, ρ, rfl, hx⟩ := hs
      have HX4 := hide1 (And.intro True.intro hx)
      clear hx
      dsimp only [val]
      obtain ⟨⟨a0, a1, a2, a3⟩, ⟨b0, b1, b2⟩, za, zb, la', lb'⟩ := HR4.out.facts
      have za0 := za 0
      have za1 := za 1
      have za2 := za 2
      have za3 := za 3
      have zb0 := zb 0
      have zb1 := zb 1
      have zb2 := zb 2
      have hne := HR4.out.1
      have hne' : g3 ≠ g2 := fun e => hne e.symm
      clear za zb
      go_wp2_with fail
      have hr6 := HR4.out.set (.slice la ln lc) (.slice na nn nc) (.int .i64 s.st) (.slice pa pn pc) (.int .i64 0) (.int .i64 0) (.string ⟨#[]⟩)
      unfold Gs.set3 Gs.set4 at hr6
      have HR6 := hide1 hr6
      clear hr6
      have hk6 : Kept w (Gs.set3 (Gs.set4 w4 g2 (.slice la ln lc) (.slice na nn nc) (.int .i64 s.st) (.slice pa pn pc)) g3 (.int .i64 0) (.int .i64 0) (.string ⟨#[]⟩)) := kept_of_kt (S := fun _ => False) (KT.set3 (KT.set4 (HK4.out.kt _) (Nat.le_of_eq HG2.out) (.slice la ln lc) (.slice na nn nc) (.int .i64 s.st) (.slice pa pn pc)) (by have h1 := HG3.out; have h2 := HG2.out; omega) (.int .i64 0) (.int .i64 0) (.string ⟨#[]⟩)) (fun d h => h.elim)
      unfold Gs.set3 Gs.set4 at hk6
      have HK6 := hide1 hk6
      clear hk6
      have HH6 : Hid (∀ d, ρ d ≠ 0 → ((((((((w4.setCell ⟨g2, 0, none⟩ (.slice la ln lc)).setCell ⟨g2, 1, none⟩ (.slice na nn nc)).setCell ⟨g2, 2, none⟩ (.int .i64 s.st)).setCell ⟨g2, 3, none⟩ (.slice pa pn pc)).setCell ⟨g3, 0, none⟩ (.int .i64 0)).setCell ⟨g3, 1, none⟩ (.int .i64 0)).setCell ⟨g3, 2, none⟩ (.string ⟨#[]⟩))).heap[d]? = w4.heap[d]?) := fun d hd => by
        have h2 : d ≠ g2 := fun e => by have := HX4.out.2.2.2.2.2.2.2.2.2 d hd; have := HL1.out.1; omega
        have h3 : d ≠ g3 := fun e => by have := HX4.out.2.2.2.2.2.2.2.2.2 d hd; have := HL1.out.2; omega
        rw [set_heap_ne h3, set_heap_ne h3, set_heap_ne h3, set_heap_ne h2, set_heap_ne h2, set_heap_ne h2, set_heap_ne h2]
      have HS6 : Hid (SpO w.heap.size (((((((w4.setCell ⟨g2, 0, none⟩ (.slice la ln lc)).setCell ⟨g2, 1, none⟩ (.slice na nn nc)).setCell ⟨g2, 2, none⟩ (.int .i64 s.st)).setCell ⟨g2, 3, none⟩ (.slice pa pn pc)).setCell ⟨g3, 0, none⟩ (.int .i64 0)).setCell ⟨g3, 1, none⟩ (.int .i64 0)).setCell ⟨g3, 2, none⟩ (.string ⟨#[]⟩)) (.agg #[.slice la ln lc, .slice na nn nc, .int .i64 s.st, .slice pa pn pc]) s) := by
        obtain ⟨h1, h2, h3, h4, h5, h6, h7, h8, h9⟩ := HX4.out.2
        exact ⟨(la, ln, lc), (na, nn, nc), (pa, pn, pc), its, ps, ρ, rfl, h1.same (fun d hd => HH6.out d (by rw [h6 d hd]; decide)), h2.mono (fun d _ hr => HH6.out d (by rw [hr]; decide)) (fun _ _ h => h) (by simp [World.setCell]), h3.same (fun d hd => HH6.out d (by rw [h7 d hd]; decide)), h4.same (fun d hd => HH6.out d (by rw [h8 d hd]; decide)), h5.mono (fun d _ hr => HH6.out d (by rw [hr]; decide)) (fun _ _ h => h), h6, h7, h8, fun d hd => ⟨Nat.le_trans HK1.out.size (h9 d hd).1, by have := (h9 d hd).2; simp [World.setCell]; exact this⟩⟩
      generalize (((((((w4.setCell ⟨g2, 0, none⟩ (.slice la ln lc)).setCell ⟨g2, 1, none⟩ (.slice na nn nc)).setCell ⟨g2, 2, none⟩ (.int .i64 s.st)).setCell ⟨g2, 3, none⟩ (.slice pa pn pc)).setCell ⟨g3, 0, none⟩ (.int .i64 0)).setCell ⟨g3, 1, none⟩ (.int .i64 0)).setCell ⟨g3, 2, none⟩ (.string ⟨#[]⟩)) = W6 at HR6 HK6 HS6 HH6 ⊢
      (try simp only [Exit.inBlock, Exit.then])
      refine bodyPost_ret (spec_results rfl _ _ g2 g3 _ _ _ _ _ _ _ rfl HR6.out.2.1 rfl HR6.out.2.2) rfl ?_
      exact ⟨HK6.out, _, rfl, HS6.out⟩
end Gs
end Ex
end Go.Proofs.YtbnchnlogikecaaGreatDoor
namespace Go.Proofs.YtbnchnlogikecaaGreatDoor
open Go.RowKit
attribute [local go_sem] Oper.semAt_some
namespace Ex
def byteV (xs : List Int) : List Value := xs.map (Value.int .u8)
theorem byteV_len (xs : List Int) : (byteV xs).length = xs.length := List.length_map ..
theorem byteV_app (xs ys : List Int) : byteV (xs ++ ys) = byteV xs ++ byteV ys := List.map_append
theorem byteV_one (xs : List Int) : ∀ u ∈ byteV xs, u.oneCell' = true := by
  intro u hu
  simp only [byteV, List.mem_map] at hu
  obtain ⟨x, _, rfl⟩ := hu
  rfl
def OutAt (w : World) (base : Nat) (v : Value) (xs : List Int) : Prop := w.ownsRow base 5 1 v xs.length (byteV xs)
def Own1 (w : World) (v v' : Value) : Prop := v'.ownBlock = v.ownBlock ∨ ∃ g, v'.ownBlock = some g ∧ w.heap.size ≤ g
def WGives (base : Nat) (w : World) (v : Value) (ys : List Int) (r : Ending) (w' : World) : Prop := ∃ v', r = .returned v' ∧ OutAt w' base v' ys ∧ w.grownBy w' v.ownBlock ∧ Own1 w v v'
theorem grown_trans {w w1 w2 : World} {v v1 : Value} (h1 : w.grownBy w1 v.ownBlock) (ho : Own1 w v v1) (h2 : w1.grownBy w2 v1.ownBlock) : w.grownBy w2 v.ownBlock :=
  ⟨h2.os.trans h1.os, h2.tape.trans h1.tape, h2.output.trans h1.output, Nat.le_trans h1.size h2.size, fun k hk hn => (h2.block k (Nat.lt_of_lt_of_le hk h1.size) (fun e => by
    rcases ho with ho | ⟨g, hg, hl⟩
    · exact hn (e.trans ho)
    · rw [hg, Option.some.injEq] at e; omega)).trans (h1.block k hk hn)⟩
theorem grown_kept {w w1 : World} (h : Kept w w1) (row : Option Nat) : w.grownBy w1 row := ⟨h.1, h.2.1, h.2.2.1, h.2.2.2.1, fun k hk _ => h.2.2.2.2 k hk⟩
theorem grown_pre {w w1 w2 : World} {row : Option Nat} (h1 : Kept w w1) (h2 : w1.grownBy w2 row) : w.grownBy w2 row :=
  ⟨h2.os.trans h1.1, h2.tape.trans h1.2.1, h2.output.trans h1.2.2.1, Nat.le_trans h1.size h2.size, fun k hk hn => (h2.block k (Nat.lt_of_lt_of_le hk h1.size) hn).trans (h1.2.2.2.2 k hk)⟩
theorem Own1.refl (w : World) (v : Value) : Own1 w v v := .inl rfl
theorem Own1.trans {w w1 : World} {v v1 v2 : Value} (h1 : Own1 w v v1) (h2 : Own1 w1 v1 v2) (hs : w.heap.size ≤ w1.heap.size) : Own1 w v v2 := by
  rcases h2 with h2 | ⟨g, hg, hl⟩
  · rcases h1 with h1 | ⟨g, hg, hl⟩
    · exact .inl (h2.trans h1)
    · exact .inr ⟨g, h2.trans hg, hl⟩
  · exact .inr ⟨g, hg, by omega⟩
theorem Own1.pre {w w1 : World} {v v1 : Value} (h : Own1 w1 v v1) (hs : w.heap.size ≤ w1.heap.size) : Own1 w v v1 := (Own1.refl w v).trans h hs
theorem OutAt.keep {w w' : World} {base : Nat} {v : Value} {xs : List Int} (h : OutAt w base v xs) (hk : Kept w w') : OutAt w' base v xs := owns_same h (fun g hg => hk.2.2.2.2 g (h.lt g hg).2)
theorem OutAt.form {w : World} {base : Nat} {v : Value} {xs : List Int} (h : OutAt w base v xs) : ∃ a c, v = .slice a xs.length c := by
  rcases h.2 with ⟨rfl, h0⟩ | ⟨g, cap, cur, rfl, _⟩
  · exact ⟨none, 0, by rw [h0]⟩
  · exact ⟨_, _, rfl⟩
theorem OutAt.nil (w : World) (base : Nat) : OutAt w base (.slice none 0 0) [] := World.ownsRow_nil _ _ _ _
theorem u8_info : (Tryz.prog.info? 5).map (fun i => (i.zero, i.size, i.bytes)) = some (some (.int .u8 0), 1, 1) := by kernel_rfl
theorem wpl_out_bytes {ops : Array Oper} {rest : List Oper} {o : Oper} {a : Act} {Q : Exit → Act → World → Prop} (hgd : o.guard = none) (s x : Operand)
    (ho : o.op = .call { callee := .builtin .append, args := #[s, x], argTypes := #[100, 100] }) (W : World) (base : Nat) (v : Value) (xs : List Int) (n : Nat) (hn : xs.length = n) (hs : a.eval s = v) (hown : OutAt W base v xs)
    (lb : Nat) (ys : List Int) (m : Nat) (hm : ys.length = m) (hx : a.eval x = .slice (some ⟨lb, 0, none⟩) m m) (hc : ∀ (j : Nat) (y : Int), ys[j]? = some y → W.cell? ⟨lb, j, none⟩ = some (.int .u8 y)) (hpos : 0 < m) (hl : n + m ≤ 1000000000) (hbase : base ≤ W.heap.size)
    (h : ∀ g cap w', OutAt w' base (.slice (some ⟨g, 0, none⟩) (n + m) cap) (xs ++ ys) → W.grownBy w' v.ownBlock → Own1 W v (.slice (some ⟨g, 0, none⟩) (n + m) cap) → wpList Tryz.prog ops Q rest (a.put o.dst (.slice (some ⟨g, 0, none⟩) (n + m) cap)) w') : wpList Tryz.prog ops Q (o :: rest) a W := by
  obtain ⟨i0, hi, hz0, hz1, hz2⟩ := info_parts u8_info
  subst hn hm
  refine wpList_append_lies W hgd s x 100 ho base 5 i0 _ 1 1 Tryz.underlying100 hi hz0 hz1 hz2 rfl (by decide) v xs.length (byteV xs) hs hown ⟨lb, 0, none⟩ ys.length ys.length (byteV ys) hx (by rw [byteV_len]; omega) ?_ (byteV_one ys) hpos (by unfold maxLen; omega) (by omega) hbase W.heap.size rfl ?_
  · intro j u hj
    simp only [byteV, List.getElem?_map] at hj
    obtain ⟨y, hy, rfl⟩ := Option.map_eq_some_iff.1 hj
    rw [Addr.add_lit, Nat.zero_add]
    exact hc j y hy
  · intro g cap w' h3 h4 h5 _
    refine h g cap w' ?_ h4 ?_
    · show w'.ownsRow base 5 1 _ (xs ++ ys).length (byteV (xs ++ ys))
      rw [List.length_append, byteV_app]
      exact h3
    · rcases h5 with h5 | h5
      · exact .inl h5.symm
      · exact .inr ⟨g, rfl, by omega⟩
def strI (s : ByteArray) : List Int := s.data.toList.map fun b => (b.toNat : Int)
theorem strI_cells (s : ByteArray) : Lib.strCells s = byteV (strI s) := by simp [Lib.strCells, byteV, strI]
theorem strI_len (s : ByteArray) : (strI s).length = s.size := by rw [strI, List.length_map, Array.length_toList]; rfl
theorem wpl_out_str {ops : Array Oper} {rest : List Oper} {o : Oper} {a : Act} {Q : Exit → Act → World → Prop} (hgd : o.guard = none) (sl x : Operand)
    (ho : o.op = .call { callee := .builtin .append, args := #[sl, x], argTypes := #[100, 9] }) (W : World) (base : Nat) (v : Value) (xs : List Int) (n : Nat) (hn : xs.length = n) (hs : a.eval sl = v) (hown : OutAt W base v xs)
    (s : ByteArray) (hx : a.eval x = .string s) (hpos : 0 < s.size) (hl : n + s.size ≤ 1000000000) (hbase : base ≤ W.heap.size)
    (h : ∀ v' w', OutAt w' base v' (xs ++ strI s) → W.grownBy w' v.ownBlock → Own1 W v v' → wpList Tryz.prog ops Q rest (a.put o.dst v') w') : wpList Tryz.prog ops Q (o :: rest) a W := by
  obtain ⟨i0, hi, hz0, hz1, hz2⟩ := info_parts u8_info
  subst hn
  have ht : Tryz.prog.underlying 100 = some (.slice 5) := Tryz.underlying100
  have hu : Tryz.prog.underlying 9 = some .string := Tryz.underlying9
  obtain ⟨v', w', hr, h2, h3, _⟩ := Lib.run_append_own_string (P := Tryz.prog) W base 100 9 o.type 5 i0 ht hu hi hz0 hz1 hz2 v xs.length (byteV xs) hown s (by unfold maxLen; omega) (by omega) hbase
  have ho1 : Own1 W v v' := by
    rcases hown.2 with ⟨rfl, h0⟩ | ⟨g, cap, cur, rfl, _, hg, hnc, hcm, hcs, htk⟩
    · have hr2 := run_append_nil_string (P := Tryz.prog) W 100 9 o.type 5 i0 (.int .u8 0) ht hu hi hz0 s hpos (by omega) (by rw [hz2]; omega)
      rw [hr2] at hr
      simp only [Result.ok.injEq] at hr
      rw [← hr.1]
      exact .inr ⟨_, rfl, Nat.le_refl _⟩
    · by_cases hroom : xs.length + s.size ≤ cap
      · have hr2 := Lib.run_append_room_string (P := Tryz.prog) W 100 9 o.type 5 i0 ht hu hi hz1 g xs.length cap cur hg s hroom (by omega)
        rw [hr2] at hr
        simp only [Result.ok.injEq] at hr
        rw [← hr.1]
        exact .inl rfl
      · have holds := hown.cells (g := g) rfl
        have hr2 := Lib.run_append_grow_string (P := Tryz.prog) W 100 9 o.type 5 i0 (.int .u8 0) ht hu hi hz0 ⟨g, 0, none⟩ xs.length cap (byteV xs) (by rw [hz1, byteV_len]; omega) holds s (by omega) (by omega) (by rw [hz2]; exact growslice_fits (by omega) (by omega))
        rw [hr2] at hr
        simp only [Result.ok.injEq] at hr
        rw [← hr.1]
        exact .inr ⟨_, rfl, Nat.le_refl _⟩
  refine Lib.wpList_append_run W hgd sl x _ _ ho _ _ hs hx _ w' hr (h v' w' ?_ h3 ho1)
  show w'.ownsRow base 5 1 v' (xs ++ strI s).length (byteV (xs ++ strI s))
  rw [List.length_append, strI_len, byteV_app, ← strI_cells]
  exact h2
end Ex
end Go.Proofs.YtbnchnlogikecaaGreatDoor
namespace Go.Proofs.YtbnchnlogikecaaGreatDoor
open Go.RowKit
attribute [local go_sem] Oper.semAt_some
set_option linter.unusedSimpArgs false
set_option maxRecDepth 100000
set_option maxHeartbeats 4000000
namespace Ex
def hexd (d : Int) : Int := if d < 10 then 48 + d else 87 + d
def byteW (s : ByteArray) (c : Int) : List Int :=
  if c = 10 then [92, 110] else if c = 13 then [92, 114] else if c = 9 then [92, 116]
  else if printedP c = false then [92, 120, hexd (c / 16), hexd (c % 16)] else if inS s c then [92, c] else [c]
theorem one_lit (w : World) (x : Int) (t : TypeId) : ∀ (j : Nat) (y : Int), [x][j]? = some y → (w.alloc (.cells #[.int .u8 x] t)).cell? ⟨w.heap.size, j, none⟩ = some (.int .u8 y) := by
  intro j y h
  match j with
  | 0 => simp at h; subst h; simp
  | j + 1 => simp at h
theorem two_lit (w : World) (x z : Int) (t : TypeId) : ∀ (j : Nat) (y : Int), [x, z][j]? = some y → (w.alloc (.cells #[.int .u8 x, .int .u8 z] t)).cell? ⟨w.heap.size, j, none⟩ = some (.int .u8 y) := by
  intro j y h
  match j with
  | 0 => simp at h; subst h; simp
  | 1 => simp at h; subst h; simp
  | j + 2 => simp at h
theorem writeByte_is (base : Nat) (w : World) (v : Value) (xs : List Int) (c : Int) (s : ByteArray) (ho : OutAt w base v xs) (hb : base ≤ w.heap.size) (hl : xs.length ≤ 900000000) (hp : printedP c = true) :
    Calls Tryz.prog 81 #[v, .int .u8 c, .string s] w fun r w' => WGives base w v (xs ++ byteW s c) r w' := by
  obtain ⟨a, cap, rfl⟩ := ho.form
  have HO := hide1 ho
  have hc : 32 ≤ c ∧ c ≤ 126 := by unfold printedP at hp; simpa using hp
  have HP := hide1 hp
  clear ho hp
  go_enter Tryz.func81, Tryz.ntmps81
  obtain ⟨x, hx⟩ : ∃ x, firstIdx s c.toNat.toUInt8 = x := ⟨_, rfl⟩
  have HX := hide1 hx
  by_cases hin : x < 0
  · have HE : Hid (byteW s c = [c]) := by
      show _ = _
      unfold byteW inS
      rw [if_neg (by omega), if_neg (by omega), if_neg (by omega), HP.out, hx]
      simp [hin]
    clear hx
    go_wp2_with (first
      | (go_at_call 98; refine (printed_is _ _).mono ?_; rintro e w6 ⟨rfl, rfl⟩; rw [HP.out])
      | (go_at_call 99; refine (index_is _ _ _).mono ?_; rintro e w6 ⟨rfl, rfl⟩; rw [HX.out])
      | (at_builtin; go_must (refine wpl_out_bytes rfl _ _ rfl _ base _ xs xs.length rfl (by rfl) (HO.out.keep ((Kept.refl _).alloc _ _)) _ [c] 1 rfl (by rfl) (one_lit _ _ _) (by omega) (by omega) (by simp; omega) ?_; intro g9 c9 w9 ho9 hg9 hw9; have HO9 := hide1 ho9; have HG9 := hide1 (grown_pre ((Kept.refl _).alloc _ _) hg9); have HW9 := hide1 (hw9.pre ((Kept.refl _).alloc _ _).size); clear ho9 hg9 hw9)))
    go_ret
    rw [HE.out]
    exact ⟨_, rfl, HO9.out, HG9.out, HW9.out⟩
  · have HE : Hid (byteW s c = [92, c]) := by
      show _ = _
      unfold byteW inS
      rw [if_neg (by omega), if_neg (by omega), if_neg (by omega), HP.out, hx]
      simp [hin]
    clear hx
    go_wp2_with (first
      | (go_at_call 98; refine (printed_is _ _).mono ?_; rintro e w6 ⟨rfl, rfl⟩; rw [HP.out])
      | (go_at_call 99; refine (index_is _ _ _).mono ?_; rintro e w6 ⟨rfl, rfl⟩; rw [HX.out])
      | (at_builtin; go_must (refine wpl_out_bytes rfl _ _ rfl _ base _ xs xs.length rfl (by rfl) (HO.out.keep ((Kept.refl _).alloc _ _)) _ [92, c] 2 rfl (by rfl) (two_lit _ _ _ _) (by omega) (by omega) (by simp; omega) ?_; intro g9 c9 w9 ho9 hg9 hw9; have HO9 := hide1 ho9; have HG9 := hide1 (grown_pre ((Kept.refl _).alloc _ _) hg9); have HW9 := hide1 (hw9.pre ((Kept.refl _).alloc _ _).size); clear ho9 hg9 hw9)))
    go_ret
    rw [HE.out]
    exact ⟨_, rfl, HO9.out, HG9.out, HW9.out⟩
end Ex
end Go.Proofs.YtbnchnlogikecaaGreatDoor
namespace Go.Proofs.YtbnchnlogikecaaGreatDoor
open Go.RowKit
attribute [local go_sem] Oper.semAt_some
namespace Ex
def escS : ByteArray := ⟨#[93, 92, 45, 47, 94]⟩
def memW {n : Nat} (q : PatN (n + 1)) : List Int := byteW escS (from_ q) ++ if from_ q < to_ q then 45 :: byteW escS (to_ q) else []
def classW {n : Nat} (L : List (PatN (n + 1))) : List Int := 91 :: (L.flatMap memW ++ [93])
theorem byteW_len (s : ByteArray) (c : Int) : (byteW s c).length ≤ 4 := by unfold byteW; (repeat' split) <;> simp
theorem memW_len {n : Nat} (q : PatN (n + 1)) : (memW q).length ≤ 9 := by
  unfold memW
  have h1 := byteW_len escS (from_ q)
  have h2 := byteW_len escS (to_ q)
  rw [List.length_append]
  split <;> simp <;> omega
theorem flat_len {α : Type} (f : α → List Int) (k : Nat) (hf : ∀ x, (f x).length ≤ k) : ∀ L : List α, (L.flatMap f).length ≤ k * L.length
  | [] => by simp
  | x :: L => by rw [List.flatMap_cons, List.length_append, List.length_cons, Nat.mul_succ]; have := flat_len f k hf L; have := hf x; omega
theorem flat_snoc {α : Type} {f : α → List Int} {L : List α} {j : Nat} {q : α} (hq : L[j]? = some q) : (L.take (j + 1)).flatMap f = (L.take j).flatMap f ++ f q := by
  obtain ⟨hj, rfl⟩ := List.getElem?_eq_some_iff.1 hq
  rw [List.take_succ_eq_append_getElem hj, List.flatMap_append]
  simp
theorem grown_holds {S : Nat → Prop} {w w' : World} {v : Value} (hg : w.grownBy w' v.ownBlock) (hS : ∀ d, S d → v.ownBlock ≠ some d) : Holds S w w' := fun d _ _ hd hc => hg.cell hc (fun e => hS d hd e.symm)
theorem step_out_bytes {ops : Array Oper} {o : Oper} {a : Act} {K : Act → World → Prop} {Q : Exit → Act → World → Prop} {E : Prop} (hgd : o.guard = none) (s x : Operand)
    (ho : o.op = .call { callee := .builtin .append, args := #[s, x], argTypes := #[100, 100] }) (W : World) (base : Nat) (v : Value) (xs : List Int) (n : Nat) (hn : xs.length = n) (hs : a.eval s = v) (hown : OutAt W base v xs)
    (lb : Nat) (ys : List Int) (m : Nat) (hm : ys.length = m) (hx : a.eval x = .slice (some ⟨lb, 0, none⟩) m m) (hc : ∀ (j : Nat) (y : Int), ys[j]? = some y → W.cell? ⟨lb, j, none⟩ = some (.int .u8 y)) (hpos : 0 < m) (hl : n + m ≤ 1000000000) (hbase : base ≤ W.heap.size)
    (h : ∀ g cap w', OutAt w' base (.slice (some ⟨g, 0, none⟩) (n + m) cap) (xs ++ ys) → W.grownBy w' v.ownBlock → Own1 W v (.slice (some ⟨g, 0, none⟩) (n + m) cap) → K (a.put o.dst (.slice (some ⟨g, 0, none⟩) (n + m) cap)) w') :
    if Region.wanted o (yielded ops a.tmps) = true then Oper.wp Tryz.prog o a W K Q else E := by
  obtain ⟨i0, hi, hz0, hz1, hz2⟩ := info_parts u8_info
  subst hn hm
  refine step_append_lies W hgd s x 100 ho base 5 i0 _ 1 1 Tryz.underlying100 hi hz0 hz1 hz2 rfl (by decide) v xs.length (byteV xs) hs hown ⟨lb, 0, none⟩ ys.length ys.length (byteV ys) hx (by rw [byteV_len]; omega) ?_ (byteV_one ys) hpos (by unfold maxLen; omega) (by omega) hbase W.heap.size rfl ?_
  · intro j u hj
    simp only [byteV, List.getElem?_map] at hj
    obtain ⟨y, hy, rfl⟩ := Option.map_eq_some_iff.1 hj
    rw [Addr.add_lit, Nat.zero_add]
    exact hc j y hy
  · intro g cap w' h3 h4 h5 _
    refine h g cap w' ?_ h4 ?_
    · show w'.ownsRow base 5 1 _ (xs ++ ys).length (byteV (xs ++ ys))
      rw [List.length_append, byteV_app]
      exact h3
    · rcases h5 with h5 | h5
      · exact .inl h5.symm
      · exact .inr ⟨g, rfl, by omega⟩
theorem own_far {w : World} {o : Obj} {v v' : Value} (h : Own1 (w.alloc o) v v') (hv : ∀ d, v.ownBlock = some d → d < w.heap.size) : some w.heap.size ≠ v'.ownBlock := by
  intro e
  rcases h with h | ⟨g, hg, hl⟩
  · have := hv _ (h.symm.trans e.symm); omega
  · rw [hg, Option.some.injEq] at e; simp at hl; omega
theorem own_far2 {W : World} {v v' : Value} {x : Nat} (h : Own1 W v v') (hx : x < W.heap.size) (hv : some x ≠ v.ownBlock) : some x ≠ v'.ownBlock := by
  intro e
  rcases h with h | ⟨g, hg, hl⟩
  · exact hv (e.trans h)
  · rw [hg, Option.some.injEq] at e; omega
def ClassWR {n : Nat} (_S : Nat → Prop) (L : List (PatN (n + 1))) (base : Nat) (w : World) (v : Value) (xs : List Int) (vo i : Value) (wr : World) : Prop :=
  ∃ j : Nat, i = .int .i64 (j : Int) ∧ j ≤ L.length ∧ OutAt wr base vo (xs ++ 91 :: (L.take j).flatMap memW) ∧ w.grownBy wr v.ownBlock ∧ Own1 w v vo
end Ex
end Go.Proofs.YtbnchnlogikecaaGreatDoor
