import Derived.Test.YthpampfbmpdmoaaTrG1
import Derived.Test.YthpampfbmpdmoaaTrHead
import Derived.Deep.DeepMust
namespace Go.Proofs.Ythpampfbmpdmoaa
open Go.RowKit
attribute [local go_sem] Oper.semAt_some
namespace Ex
namespace Tr

def makeR (X : Nat → Rd) (st kd n : Int) (ks : List Nat) : Rd := ⟨st, 0, kd, n, 0, 0, 0, 0, ks, 1 + sizeR X ks⟩

theorem ref_info : (Try.prog.info? 39).map (fun i => (i.zero, i.size, i.bytes)) = some (some (.pointer none), 1, 8) := by kernel_rfl
def flatPt (l : List Nat) : List Value := l.map fun (b : Nat) => .pointer (some ⟨b, 0, none⟩)
theorem flatPt_at {l : List Nat} {i b : Nat} (h : l[i]? = some b) : (flatPt l)[i]? = some (.pointer (some ⟨b, 0, none⟩)) := by simp [flatPt, h]
/-- A whole list of pointers behind an empty one. -/
theorem wpl_refs {ops : Array Oper} {rest : List Oper} {o : Oper} {a : Act} {Q : Exit → Act → World → Prop} (hgd : o.guard = none) (s x : Operand) (ho : o.op = .call { callee := .builtin .append, args := #[s, x], argTypes := #[33, 33] }) (w : World) (ks : List Nat) (m : Nat) (hm : ks.length = m) (hs : a.eval s = .slice none 0 0) (c0 cap0 : Nat) (hx : a.eval x = .slice (some ⟨c0, 0, none⟩) m cap0)
    (hc : ∀ (i b : Nat), ks[i]? = some b → w.cell? ⟨c0, i, none⟩ = some (.pointer (some ⟨b, 0, none⟩))) (h0 : 0 < ks.length) (hl : ks.length ≤ 4194304)
    (h : ∀ g cap w', Kept w w' → w.heap.size ≤ g → g < w'.heap.size → (∀ (i b : Nat), ks[i]? = some b → w'.cell? ⟨g, i, none⟩ = some (.pointer (some ⟨b, 0, none⟩))) → wpList Try.prog ops Q rest (a.put o.dst (.slice (some ⟨g, 0, none⟩) m cap)) w') :
    wpList Try.prog ops Q (o :: rest) a w := by
  obtain ⟨i0, hi, hz0, hz1, hz2⟩ := info_parts ref_info
  subst hm
  refine wpList_append_lies w hgd s x 33 ho w.heap.size 39 i0 _ 1 8 Try.underlying33 hi hz0 hz1 hz2 rfl (by decide) (.slice none 0 0) 0 [] hs ⟨rfl, Or.inl ⟨rfl, rfl⟩⟩ ⟨c0, 0, none⟩ ks.length cap0 (flatPt ks) hx (by simp [flatPt]) ?_ ?_ h0 (by unfold maxLen; omega) (by omega) (Nat.le_refl _) w.heap.size rfl ?_
  · intro j y hj
    obtain ⟨b, hb, rfl⟩ : ∃ b, ks[j]? = some b ∧ y = .pointer (some ⟨b, 0, none⟩) := by
      unfold flatPt at hj
      rw [List.getElem?_map] at hj
      obtain ⟨b, hb, e⟩ := Option.map_eq_some_iff.1 hj
      exact ⟨b, hb, e.symm⟩
    have h9 := hc j b hb
    simp only [Addr.add_lit, Nat.zero_add]
    exact h9
  · intro u hu
    obtain ⟨b, _, rfl⟩ := List.mem_map.1 hu
    rfl
  · intro g cap w' h1 h2 h3 h4
    rw [Nat.zero_add] at h1 ⊢
    have hk : Kept w w' := ⟨h2.os, h2.tape, h2.output, h2.size, fun k hk => h2.block k hk (by show ¬ some k = none; simp)⟩
    rcases h1.2 with ⟨e0, _⟩ | ⟨g', cap', cur, he, hb, hg, hcc, _, _, hx2⟩
    · cases e0
    · injection he with e1 e2 e3
      injection e1 with e1
      injection e1 with e1
      subst e1
      refine h g cap w' hk hb h4 (fun i b hib => ?_)
      have h5 := flatPt_at hib
      exact row_cells hg hx2 _ _ h5

theorem rmade {X : Nat → Rd} {st kd n : Int} {ks : List Nat} {w w2 : World} {xb g m cap : Nat} (hk : Kept w w2) (hx : w.heap.size ≤ xb) (hb : w2.heap[xb]? = some (.cells #[.int .i64 st, .int .i64 0, .int .i64 kd, .int .i64 n, .int .i64 0, .int .i64 0, .int .i64 0, .int .i64 0, .slice none 0 0, .int .i64 (1 + (sizeR X ks : Int))] 59 (0, 0))) (hm : ks.length = m) (hml : m ≤ 4194304) (hg : g < w2.heap.size) (hgl : w.heap.size ≤ g) (hne : g ≠ xb) (hc : ∀ (i b : Nat), ks[i]? = some b → w2.cell? ⟨g, i, none⟩ = some (.pointer (some ⟨b, 0, none⟩))) :
    Kept w (w2.setCell ⟨xb, 8, none⟩ (.slice (some ⟨g, 0, none⟩) m cap)) ∧ RAt w.heap.size (w2.setCell ⟨xb, 8, none⟩ (.slice (some ⟨g, 0, none⟩) m cap)).heap.size (w2.setCell ⟨xb, 8, none⟩ (.slice (some ⟨g, 0, none⟩) m cap)) xb (makeR X st kd n ks) := by
  have hsb := setCell_but w2 xb 8 (.slice (some ⟨g, 0, none⟩) m cap)
  have hl := (Array.getElem?_eq_some_iff.1 hb).1
  have he := Option.some.inj ((Array.getElem?_eq_getElem hl).symm.trans hb)
  subst hm
  refine ⟨KeptBut.new hk hsb hx, hx, Nat.lt_of_lt_of_le hl hsb.2.2.2.1, .slice (some ⟨g, 0, none⟩) ks.length cap, ?_, _, _, rfl, hml, Or.inr ⟨g, rfl, hgl, Nat.lt_of_lt_of_le hg hsb.2.2.2.1, Nat.lt_of_lt_of_le hg hsb.2.2.2.1, fun i b hib => hsb.cell hne (hc i b hib)⟩⟩
  simp [World.setCell, Array.getElem_modify, hl, he, cellsR, makeR]

set_option linter.unusedSimpArgs false in
set_option maxRecDepth 100000 in
set_option maxHeartbeats 4000000 in
theorem rmake_ok (X : Nat → Rd) (A B : Nat) (st kd n : Int) (ks : List Nat) (v : Value) (w : World) (hv : RKids A B w v ks) (hX : ∀ b ∈ ks, RIs w b (X b)) (hz : ∀ b ∈ ks, (X b).size ≤ 4194304) (hm : mayP kd n = true) (h1 : ∀ b ∈ ks, (X b).st = st) (h2 : 1 + sizeR X ks ≤ 4194304) (h0 : 0 < ks.length) :
    Calls Try.prog 40 #[.int .i64 st, .int .i64 kd, .int .i64 n, v] w fun e w' => ∃ b, e = .returned (.tuple #[.pointer (some ⟨b, 0, none⟩), .int .i64 0]) ∧ w.heap.size ≤ b ∧ Kept w w' ∧ RAt w.heap.size w'.heap.size w' b (makeR X st kd n ks) := by
  have HM := hide1 (may_cases hm)
  obtain ⟨a, cap, rfl, hl, hc⟩ := hv
  obtain ⟨g0, rfl, _, _, hg0, hcc⟩ : ∃ g, a = some ⟨g, 0, none⟩ ∧ A ≤ g ∧ g < B ∧ g < w.heap.size ∧ ∀ (i b : Nat), ks[i]? = some b → w.cell? ⟨g, i, none⟩ = some (.pointer (some ⟨b, 0, none⟩)) := by
    rcases hc with h | h
    · rw [h] at h0
      simp at h0
    · exact h
  have HCC := hide1 hcc
  have H0 := hide1 h0
  have HX := hide1 hX
  have HZ := hide1 hz
  have H1 := hide1 h1
  have H2 := hide1 h2
  have hlI : (ks.length : Int) ≤ 4194304 := by omega
  clear hm hc hcc hX hz h1 h2 h0
  go_enter Try.func40, Try.ntmps40
  have HN : Hid (kd = 2 ∧ 0 < n ∨ (kd = 2 ∨ kd = 3 ∨ kd = 4 ∨ kd = 5) ∧ n = 0) := by
    show _ ∨ _
    have := HM.out
    omega
  rcases HN.out with ⟨rfl, hn⟩ | ⟨rfl | rfl | rfl | rfl, rfl⟩
  all_goals clear HN HM
  · have hn1 : ¬ n < 0 := by omega
    have hn2 : ¬ n = 0 := by omega
    go_wp2_with fail
    go_loopw [11] (fun v11 wr => ∃ j : Nat, j ≤ ks.length ∧ v11 = .int .i64 (j : Int) ∧ wr = w) (fun v11 _ => ks.length - (intOf v11).toNat)
    case atStart => exact ⟨0, Nat.zero_le _, rfl, rfl⟩
    case round =>
      obtain ⟨j, hj, rfl, rfl⟩ := hrel
      by_cases hlt : j < ks.length
      · obtain ⟨b, hb⟩ : ∃ b, ks[j]? = some b := ⟨_, List.getElem?_eq_getElem hlt⟩
        have t0 := HCC.out j b hb
        obtain ⟨c0, _⟩ := (HX.out b (List.mem_of_getElem? hb)).cells
        have hjI : (j : Int) < (ks.length : Int) := by omega
        rw [H1.out b (List.mem_of_getElem? hb)] at c0
        clear hb
        go_wp2_with fail
        go_roundw
        case rel => exact ⟨j + 1, by omega, by go_num, by first | rfl | trivial⟩
        case measure => simp [intOf]; omega
      · have hjj : j = ks.length := by omega
        subst hjj
        clear hlt hj
        go_wp2_with fail
        go_loopw [10, 12] (fun vs vi wq => ∃ j : Nat, j ≤ ks.length ∧ vi = .int .i64 (j : Int) ∧ vs = .int .i64 ((1 + sizeR X (ks.take j) : Nat) : Int) ∧ wq = wr) (fun _ vi _ => ks.length - (intOf vi).toNat)
        case atStart => exact ⟨0, Nat.zero_le _, rfl, by simp [sizeR], rfl⟩
        case round =>
          obtain ⟨j, hj, rfl, rfl, rfl⟩ := hrel
          by_cases hlt : j < ks.length
          · obtain ⟨b, hb⟩ : ∃ b, ks[j]? = some b := ⟨_, List.getElem?_eq_getElem hlt⟩
            have t0 := HCC.out j b hb
            obtain ⟨_, _, _, c9⟩ := (HX.out b (List.mem_of_getElem? hb)).cells
            have HT := hide1 (sizeR_take (X := X) hb)
            have hP := sizeR_part X ks (j + 1)
            rw [HT.out] at hP
            have h2 := H2.out
            obtain ⟨S0, hS0⟩ : ∃ S0, sizeR X (ks.take j) = S0 := ⟨_, rfl⟩
            obtain ⟨z, hzz⟩ : ∃ z, (X b).size = z := ⟨_, rfl⟩
            rw [hS0, hzz] at HT hP
            rw [hzz] at c9
            rw [hS0]
            have hjI : (j : Int) < (ks.length : Int) := by omega
            have hzI : (z : Int) ≤ 4194304 := by omega
            have hSI : (S0 : Int) ≤ 4194304 := by omega
            have hfI : ¬ 4194304 < 1 + (S0 : Int) + (z : Int) := by omega
            clear hb hS0 hzz hP h2
            go_wp2_with fail
            go_roundw
            case rel => exact ⟨j + 1, by omega, by go_num, by rw [HT.out]; go_num, by first | rfl | trivial⟩
            case measure => simp [intOf]; omega
          · have hjj : j = ks.length := by omega
            subst hjj
            rw [List.take_length]
            clear hlt hj
            obtain ⟨sz, hsz⟩ : ∃ sz, sizeR X ks = sz := ⟨_, rfl⟩
            rw [hsz]
            obtain ⟨m, hm⟩ : ∃ m, ks.length = m := ⟨_, rfl⟩
            rw [hm] at hlI hl ⊢
            have HMM := hide1 hm
            have HSZ := hide1 hsz
            clear hm hsz
            go_wp2_with (at_builtin; go_must (refine wpl_refs rfl _ _ rfl _ ks m HMM.out (by rfl) g0 cap (by rfl) (fun i b hb => (cell_alloc_old _ _ hg0).trans (HCC.out i b hb)) H0.out (by rw [HMM.out]; exact hl) ?_; intro g cap2 w2 hk2 hg2 hl2 hc2; have HK2 := hide1 hk2; have HC2 := hide1 hc2; have HB2 := hide1 ((hk2.2.2.2.2 wr.heap.size (by simp)).trans (World.alloc_heap_new wr _)); have e8 : w2.cell? ⟨wr.heap.size, 8, none⟩ = some (.slice none 0 0) := (by simp [World.cell?, HB2.out]); have f8 : w2.frozen? ⟨wr.heap.size, 8, none⟩ = false := (by simp [World.frozen?, HB2.out]); clear hk2 hc2))
            go_ret2
            have hle : (wr.alloc _).heap.size ≤ g := hg2
            have hne : g ≠ wr.heap.size := by simp at hle; omega
            have hb3 := HB2.out
            rw [← HSZ.out] at hb3
            obtain ⟨r1, r2⟩ := rmade (X := X) (ks := ks) (cap := cap2) (gtrans ((Kept.refl wr).alloc _ _) HK2.out) (Nat.le_refl _) hb3 HMM.out hl hl2 (by simp at hle; omega) hne HC2.out
            exact ⟨_, rfl, Nat.le_refl _, r1, r2⟩
  all_goals
    go_wp2_with fail
    go_loopw [11] (fun v11 wr => ∃ j : Nat, j ≤ ks.length ∧ v11 = .int .i64 (j : Int) ∧ wr = w) (fun v11 _ => ks.length - (intOf v11).toNat)
    case atStart => exact ⟨0, Nat.zero_le _, rfl, rfl⟩
    case round =>
      obtain ⟨j, hj, rfl, rfl⟩ := hrel
      by_cases hlt : j < ks.length
      · obtain ⟨b, hb⟩ : ∃ b, ks[j]? = some b := ⟨_, List.getElem?_eq_getElem hlt⟩
        have t0 := HCC.out j b hb
        obtain ⟨c0, _⟩ := (HX.out b (List.mem_of_getElem? hb)).cells
        have hjI : (j : Int) < (ks.length : Int) := by omega
        rw [H1.out b (List.mem_of_getElem? hb)] at c0
        clear hb
        go_wp2_with fail
        go_roundw
        case rel => exact ⟨j + 1, by omega, by go_num, by first | rfl | trivial⟩
        case measure => simp [intOf]; omega
      · have hjj : j = ks.length := by omega
        subst hjj
        clear hlt hj
        go_wp2_with fail
        go_loopw [10, 12] (fun vs vi wq => ∃ j : Nat, j ≤ ks.length ∧ vi = .int .i64 (j : Int) ∧ vs = .int .i64 ((1 + sizeR X (ks.take j) : Nat) : Int) ∧ wq = wr) (fun _ vi _ => ks.length - (intOf vi).toNat)
        case atStart => exact ⟨0, Nat.zero_le _, rfl, by simp [sizeR], rfl⟩
        case round =>
          obtain ⟨j, hj, rfl, rfl, rfl⟩ := hrel
          by_cases hlt : j < ks.length
          · obtain ⟨b, hb⟩ : ∃ b, ks[j]? = some b := ⟨_, List.getElem?_eq_getElem hlt⟩
            have t0 := HCC.out j b hb
            obtain ⟨_, _, _, c9⟩ := (HX.out b (List.mem_of_getElem? hb)).cells
            have HT := hide1 (sizeR_take (X := X) hb)
            have hP := sizeR_part X ks (j + 1)
            rw [HT.out] at hP
            have h2 := H2.out
            obtain ⟨S0, hS0⟩ : ∃ S0, sizeR X (ks.take j) = S0 := ⟨_, rfl⟩
            obtain ⟨z, hzz⟩ : ∃ z, (X b).size = z := ⟨_, rfl⟩
            rw [hS0, hzz] at HT hP
            rw [hzz] at c9
            rw [hS0]
            have hjI : (j : Int) < (ks.length : Int) := by omega
            have hzI : (z : Int) ≤ 4194304 := by omega
            have hSI : (S0 : Int) ≤ 4194304 := by omega
            have hfI : ¬ 4194304 < 1 + (S0 : Int) + (z : Int) := by omega
            clear hb hS0 hzz hP h2
            go_wp2_with fail
            go_roundw
            case rel => exact ⟨j + 1, by omega, by go_num, by rw [HT.out]; go_num, by first | rfl | trivial⟩
            case measure => simp [intOf]; omega
          · have hjj : j = ks.length := by omega
            subst hjj
            rw [List.take_length]
            clear hlt hj
            obtain ⟨sz, hsz⟩ : ∃ sz, sizeR X ks = sz := ⟨_, rfl⟩
            rw [hsz]
            obtain ⟨m, hm⟩ : ∃ m, ks.length = m := ⟨_, rfl⟩
            rw [hm] at hlI hl ⊢
            have HMM := hide1 hm
            have HSZ := hide1 hsz
            clear hm hsz
            go_wp2_with (at_builtin; go_must (refine wpl_refs rfl _ _ rfl _ ks m HMM.out (by rfl) g0 cap (by rfl) (fun i b hb => (cell_alloc_old _ _ hg0).trans (HCC.out i b hb)) H0.out (by rw [HMM.out]; exact hl) ?_; intro g cap2 w2 hk2 hg2 hl2 hc2; have HK2 := hide1 hk2; have HC2 := hide1 hc2; have HB2 := hide1 ((hk2.2.2.2.2 wr.heap.size (by simp)).trans (World.alloc_heap_new wr _)); have e8 : w2.cell? ⟨wr.heap.size, 8, none⟩ = some (.slice none 0 0) := (by simp [World.cell?, HB2.out]); have f8 : w2.frozen? ⟨wr.heap.size, 8, none⟩ = false := (by simp [World.frozen?, HB2.out]); clear hk2 hc2))
            go_ret2
            have hle : (wr.alloc _).heap.size ≤ g := hg2
            have hne : g ≠ wr.heap.size := by simp at hle; omega
            have hb3 := HB2.out
            rw [← HSZ.out] at hb3
            obtain ⟨r1, r2⟩ := rmade (X := X) (ks := ks) (cap := cap2) (gtrans ((Kept.refl wr).alloc _ _) HK2.out) (Nat.le_refl _) hb3 HMM.out hl hl2 (by simp at hle; omega) hne HC2.out
            exact ⟨_, rfl, Nat.le_refl _, r1, r2⟩

set_option linter.unusedSimpArgs false in
set_option maxRecDepth 100000 in
set_option maxHeartbeats 4000000 in
/-- The document's Make of no child. -/
theorem rmake_nil (X : Nat → Rd) (st kd n : Int) (w : World) (hm : mayP kd n = true) :
    Calls Try.prog 40 #[.int .i64 st, .int .i64 kd, .int .i64 n, .slice none 0 0] w fun e w' => ∃ b, e = .returned (.tuple #[.pointer (some ⟨b, 0, none⟩), .int .i64 0]) ∧ w.heap.size ≤ b ∧ Kept w w' ∧ RAt w.heap.size w'.heap.size w' b (makeR X st kd n []) := by
  have HM := hide1 (may_cases hm)
  clear hm
  go_enter Try.func40, Try.ntmps40
  have HN : Hid (kd = 2 ∧ 0 < n ∨ (kd = 2 ∨ kd = 3 ∨ kd = 4 ∨ kd = 5) ∧ n = 0) := by
    show _ ∨ _
    have := HM.out
    omega
  rcases HN.out with ⟨rfl, hn⟩ | ⟨rfl | rfl | rfl | rfl, rfl⟩
  all_goals clear HN HM
  · have hn1 : ¬ n < 0 := by omega
    have hn2 : ¬ n = 0 := by omega
    go_wp2_with fail
    go_loopw [11] (fun v11 wr => v11 = .int .i64 0 ∧ wr = w) (fun _ _ => 0)
    case atStart => exact ⟨rfl, rfl⟩
    case round =>
      obtain ⟨rfl, rfl⟩ := hrel
      go_wp2_with fail
      go_loopw [10, 12] (fun vs vi wq => vi = .int .i64 0 ∧ vs = .int .i64 1 ∧ wq = wr) (fun _ vi _ => 0)
      case atStart => exact ⟨rfl, rfl, rfl⟩
      case round =>
        obtain ⟨rfl, rfl, rfl⟩ := hrel
        go_wp2_with fail
        go_ret2
        exact ⟨_, rfl, Nat.le_refl _, (Kept.refl wr).alloc _ _, Nat.le_refl _, by simp, _, World.alloc_heap_new wr _, none, 0, rfl, by simp [makeR], Or.inl rfl⟩
  all_goals
    go_wp2_with fail
    go_loopw [11] (fun v11 wr => v11 = .int .i64 0 ∧ wr = w) (fun _ _ => 0)
    case atStart => exact ⟨rfl, rfl⟩
    case round =>
      obtain ⟨rfl, rfl⟩ := hrel
      go_wp2_with fail
      go_loopw [10, 12] (fun vs vi wq => vi = .int .i64 0 ∧ vs = .int .i64 1 ∧ wq = wr) (fun _ vi _ => 0)
      case atStart => exact ⟨rfl, rfl, rfl⟩
      case round =>
        obtain ⟨rfl, rfl, rfl⟩ := hrel
        go_wp2_with fail
        go_ret2
        exact ⟨_, rfl, Nat.le_refl _, (Kept.refl wr).alloc _ _, Nat.le_refl _, by simp, _, World.alloc_heap_new wr _, none, 0, rfl, by simp [makeR], Or.inl rfl⟩

end Tr
end Ex
end Go.Proofs.Ythpampfbmpdmoaa
