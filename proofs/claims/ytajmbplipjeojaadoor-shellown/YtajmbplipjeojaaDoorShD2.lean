import Derived.Test.YtajmbplipjeojaaDoorShD1
import Derived.Deep.RegionHeld3
import Derived.Deep.Cut
namespace Go.Proofs.YtajmbplipjeojaaDoor
open Go.RowKit
attribute [local go_sem] Oper.semAt_some
namespace Ex
namespace Sh

theorem src_set {w : World} {b o : Nat} {x : Value} {wa : Option Addr} {word : List Int} (h : Src u8E w wa word) (hne : ∀ g o, wa = some ⟨g, o, none⟩ → g ≠ b) : Src u8E (w.setCell ⟨b, o, none⟩ x) wa word := by
  rcases h with h | ⟨g, o', h1, h2⟩
  · exact .inl h
  · refine .inr ⟨g, o', h1, fun j u hj => ?_⟩
    rw [← h2 j u hj]
    exact World.cell?_of_block (a := ⟨g, o' + j, none⟩) (Below.heap_setCell _ _ _ _ (hne _ _ h1))
def StpR (base b : Nat) (w : World) (st : St) (e : Ending) (w' : World) : Prop := e = .returned (.tuple #[]) ∧ RdAt w' base b st ∧ Below base w w'
set_option linter.unusedSimpArgs false in
set_option maxRecDepth 100000 in
set_option maxHeartbeats 4000000 in
theorem ends_is (base b : Nat) (md dg : Int) (word : List Int) (words : List ByteArray) (bad : Bool) (w : World) (h : RdAt w base b ⟨md, word, words, dg, bad⟩) (hb : base ≤ b) (hl : words.length ≤ 100000) :
    Calls Tryd.prog 17 #[.pointer (some ⟨b, 0, none⟩)] w (StpR base b w ⟨md, [], words ++ [bs word], dg, bad⟩) := by
  obtain ⟨wa, wc, sa, sc, h1, h2, h3⟩ := h.open_
  simp only at h1 h2 h3
  generalize hn : word.length = n at *
  generalize hm : words.length = m at *
  have hbl := h1.lt
  have hbase : base ≤ w.heap.size := by omega
  obtain ⟨c0, c1, c2, c3, c4⟩ := h1.cells
  have HR := hide1 h1
  have HL := hide1 h2
  have HS := hide1 h3
  have HN := hide1 hn
  have HM := hide1 hm
  have HNEW : Hid ((w.alloc (.cells #[.string (bs word)] 9)).cell? ⟨b, 1, none⟩ = some (.slice wa n wc) ∧ Src u8E (w.alloc (.cells #[.string (bs word)] 9)) wa word) := ⟨grown_cell ((Kept.refl w).alloc _ _) c1, h2.src.keep ((Kept.refl w).alloc _ _)⟩
  have HNC : Hid ((w.alloc (.cells #[.string (bs word)] 9)).cell? ⟨b, 2, none⟩ = some (.slice sa m sc)) := grown_cell ((Kept.refl w).alloc _ _) c2
  have HSRC : Hid (∀ (w9 : World) (x : Value), Src u8E w9 wa word → Src u8E (w9.setCell ⟨b, 2, none⟩ x) wa word) := fun w9 x h => src_set h (fun g o ha e => by
    subst ha
    exact lo_off HL.out HR.out u8_ne_rd (by show some g = some b; rw [e]))
  clear h h1 h2 h3 hn hm
  go_enter Tryd.func17, Tryd.ntmps17
  go_upto_region 0 with fail
  refine wp_region_held_drew (S := fun w' => w'.cell? ⟨b, 1, none⟩ = some (.slice wa n wc) ∧ Src u8E w' wa word) (by kernel_rfl) ⟨c1, HL.out.src⟩ (fun hHeld => ?_)
  refine wpAnyH_take (i := 0) (v := .pointer (some ⟨b, 0, none⟩)) rfl (by kernel_rfl) (by kernel_rfl) (by kernel_rfl) (fun _ _ _ h => h) (Or.inl ⟨by rfl, fun w' hSw => ?_⟩) (by with_reducible assumption) ?_
  · clear hSw
    go_simp
  try simp only [Act.put, List.setIfInBounds_toArray, List.set_cons_zero, List.set_cons_succ]
  refine wpAnyH_take (i := 1) (v := .pointer (some ⟨b, 0, none⟩)) rfl (by kernel_rfl) (by kernel_rfl) (by kernel_rfl) (fun _ _ _ h => h) (Or.inl ⟨by rfl, fun w' hSw => ?_⟩) (by with_reducible assumption) ?_
  · clear hSw
    go_simp
  try simp only [Act.put, List.setIfInBounds_toArray, List.set_cons_zero, List.set_cons_succ]
  refine wpAnyH_take (i := 2) (v := .pointer (some ⟨b, 0, none⟩)) rfl (by kernel_rfl) (by kernel_rfl) (by kernel_rfl) (fun _ _ _ h => h) (Or.inl ⟨by rfl, fun w' hSw => ?_⟩) (by with_reducible assumption) ?_
  · clear hSw
    go_simp
  try simp only [Act.put, List.setIfInBounds_toArray, List.set_cons_zero, List.set_cons_succ]
  refine wpAnyH_take (i := 3) (v := .pointer (some ⟨b, 2, none⟩)) rfl (by kernel_rfl) (by kernel_rfl) (by kernel_rfl) (fun _ _ _ h => h) (Or.inl ⟨by rfl, fun w' hSw => ?_⟩) (by with_reducible assumption) ?_
  · clear hSw
    go_simp
  try simp only [Act.put, List.setIfInBounds_toArray, List.set_cons_zero, List.set_cons_succ]
  refine wpAnyH_take (i := 5) (v := .pointer (some ⟨b, 0, none⟩)) rfl (by kernel_rfl) (by kernel_rfl) (by kernel_rfl) (fun _ _ _ h => h) (Or.inl ⟨by rfl, fun w' hSw => ?_⟩) (by with_reducible assumption) ?_
  · clear hSw
    go_simp
  try simp only [Act.put, List.setIfInBounds_toArray, List.set_cons_zero, List.set_cons_succ]
  refine wpAnyH_take (i := 6) (v := .pointer (some ⟨b, 0, none⟩)) rfl (by kernel_rfl) (by kernel_rfl) (by kernel_rfl) (fun _ _ _ h => h) (Or.inl ⟨by rfl, fun w' hSw => ?_⟩) (by with_reducible assumption) ?_
  · clear hSw
    go_simp
  try simp only [Act.put, List.setIfInBounds_toArray, List.set_cons_zero, List.set_cons_succ]
  refine wpAnyH_take (i := 7) (v := .pointer (some ⟨b, 1, none⟩)) rfl (by kernel_rfl) (by kernel_rfl) (by kernel_rfl) (fun _ _ _ h => h) (Or.inl ⟨by rfl, fun w' hSw => ?_⟩) (by with_reducible assumption) ?_
  · clear hSw
    go_simp
  try simp only [Act.put, List.setIfInBounds_toArray, List.set_cons_zero, List.set_cons_succ]
  refine wpAnyH_take (i := 8) (v := .slice wa n wc) rfl (by kernel_rfl) (by kernel_rfl) (by kernel_rfl) (fun _ _ _ h => h) (Or.inl ⟨by rfl, fun w' hSw => ?_⟩) (by with_reducible assumption) ?_
  · have t1 := hSw.1
    go_simp
  try simp only [Act.put, List.setIfInBounds_toArray, List.set_cons_zero, List.set_cons_succ]
  refine wpAnyH_take (i := 9) (v := .string (bs word)) rfl (by kernel_rfl) (by kernel_rfl) (by kernel_rfl) (fun _ _ _ h => h) (Or.inl ⟨by rfl, fun w' hSw => ?_⟩) (by with_reducible assumption) ?_
  · have t1 := src_conv (cap := wc) hSw.2 HN.out
    rw [strD_bs] at t1
    go_simp
  try simp only [Act.put, List.setIfInBounds_toArray, List.set_cons_zero, List.set_cons_succ]
  refine wpAnyH_ready (rs := [4, 10]) (by kernel_rfl) (by simp) ?_
  refine AllReadyH.cons (i := 4) rfl (fun K hK => ?_) (AllReadyH.cons (i := 10) rfl (fun K hK => ?_) AllReadyH.nil)
  · go_simp
    refine hK.out _ _ ⟨c1, HL.out.src⟩ (fun hHeld2 => ?_)
    clear hK K
    try simp only [Act.put, List.setIfInBounds_toArray, List.set_cons_zero, List.set_cons_succ]
    refine wpAnyH_ready (rs := [10]) (by kernel_rfl) (by simp) ?_
    refine AllReadyH.cons (i := 10) rfl (fun K hK => ?_) AllReadyH.nil
    go_simp
    refine hK.out _ _ HNEW.out (fun hHeld3 => ?_)
    clear hK K
    try simp only [Act.put, List.setIfInBounds_toArray, List.set_cons_zero, List.set_cons_succ]
    refine wpAnyH_ready (rs := [11]) (by kernel_rfl) (by simp) ?_
    refine AllReadyH.cons (i := 11) rfl (fun K hK => ?_) AllReadyH.nil
    refine step_lo (E := strE) rfl _ _ rfl base (.slice sa m sc) words m HM.out (by rfl) (HS.out.keep ((Kept.refl w).alloc _ _)) w.heap.size (bs word) (by rfl) (heap_alloc_new w _) (by show (m + 1) * 16 ≤ _; omega) (by unfold maxLen; omega) (Nat.le_trans hbase ((gtrans ((Kept.refl w).alloc _ _) (drew_kept _)).size)) ?_
    intro g9 c9 w9 ho9 hg9 hor9 hlt9
    obtain ⟨hC9, hL9, hR9, hB9⟩ := rd_ends (gtrans ((Kept.refl w).alloc _ _) (drew_kept _)) HR.out HL.out HS.out ho9 hg9 hb hbase
    obtain ⟨y0, y1, y2, y3, y4⟩ := hC9.cells
    obtain ⟨z0, z1, z2, z3, z4⟩ := hC9.free
    have hCl9 : b < w9.heap.size := hC9.lt
    have HFIN := hide1 (And.intro hR9 hB9)
    have HC2 := hide1 (hC9.set_sv (.slice (some ⟨g9, 0, none⟩) (m + 1) c9))
    have HS9 := hide1 (And.intro y1 hL9.src)
    refine hK.out _ _ HS9.out (fun hHeld9 => ?_)
    clear hK K ho9 hg9 hor9 hR9 hB9 hL9 hC9
    try simp only [Act.put, List.setIfInBounds_toArray, List.set_cons_zero, List.set_cons_succ]
    refine wpAnyH_take (i := 12) (v := .pointer (some ⟨b, 0, none⟩)) rfl (by kernel_rfl) (by kernel_rfl) (by kernel_rfl) (fun _ _ _ h => h) (Or.inl ⟨by rfl, fun w' hSw => ?_⟩) (by with_reducible assumption) ?_
    · clear hSw
      go_simp
    try simp only [Act.put, List.setIfInBounds_toArray, List.set_cons_zero, List.set_cons_succ]
    refine wpAnyH_take (i := 13) (v := .pointer (some ⟨b, 2, none⟩)) rfl (by kernel_rfl) (by kernel_rfl) (by kernel_rfl) (fun _ _ _ h => h) (Or.inl ⟨by rfl, fun w' hSw => ?_⟩) (by with_reducible assumption) ?_
    · clear hSw
      go_simp
    try simp only [Act.put, List.setIfInBounds_toArray, List.set_cons_zero, List.set_cons_succ]
    refine wpAnyH_ready (rs := [14]) (by kernel_rfl) (by simp) ?_
    refine AllReadyH.cons (i := 14) rfl (fun K hK => ?_) AllReadyH.nil
    have HSX := hide1 (show (w9.setCell ⟨b, 2, none⟩ (.slice (some ⟨g9, 0, none⟩) (m + 1) c9)).cell? ⟨b, 1, none⟩ = some (.slice wa n wc) ∧ Src u8E (w9.setCell ⟨b, 2, none⟩ (.slice (some ⟨g9, 0, none⟩) (m + 1) c9)) wa word from ⟨HC2.out.cells.2.1, HSRC.out w9 _ HS9.out.2⟩)
    go_simp
    refine hK.out _ _ HSX.out (fun hHeld10 => ?_)
    clear hK K
    try simp only [Act.put, List.setIfInBounds_toArray, List.set_cons_zero, List.set_cons_succ]
    refine wpAnyH_done (by kernel_rfl) ?_ _
    obtain ⟨W9, hW9⟩ : ∃ W9, w9.setCell ⟨b, 2, none⟩ (.slice (some ⟨g9, 0, none⟩) (m + 1) c9) = W9 := ⟨_, rfl⟩
    rw [hW9] at HC2 HFIN ⊢
    clear hHeld hHeld2 hHeld3 hHeld9 hHeld10 y0 y1 y2 y3 y4 z0 z1 z2 z3 z4 HSX hCl9 hlt9 c0 c1 c2 c3 c4 HS9 hW9
    obtain ⟨y0, y1, y2, y3, y4⟩ := HC2.out.cells
    obtain ⟨z0, z1, z2, z3, z4⟩ := HC2.out.free
    have hbl9 := HC2.out.lt
    have HFIN2 := hide1 HFIN.out
    go_wp2
    go_end0
    exact ⟨rfl, HFIN2.out⟩
  · go_simp
    refine hK.out _ _ HNEW.out (fun hHeld2 => ?_)
    clear hK K
    try simp only [Act.put, List.setIfInBounds_toArray, List.set_cons_zero, List.set_cons_succ]
    refine wpAnyH_ready (rs := [4]) (by kernel_rfl) (by simp) ?_
    refine AllReadyH.cons (i := 4) rfl (fun K hK => ?_) AllReadyH.nil
    have c8' : (w.alloc (.cells #[.string (bs word)] 9)).cell? ⟨b, 2, none⟩ = some (.slice sa m sc) := HNC.out
    go_simp
    refine hK.out _ _ HNEW.out (fun hHeld3 => ?_)
    clear hK K c8'
    try simp only [Act.put, List.setIfInBounds_toArray, List.set_cons_zero, List.set_cons_succ]
    refine wpAnyH_ready (rs := [11]) (by kernel_rfl) (by simp) ?_
    refine AllReadyH.cons (i := 11) rfl (fun K hK => ?_) AllReadyH.nil
    refine step_lo (E := strE) rfl _ _ rfl base (.slice sa m sc) words m HM.out (by rfl) (HS.out.keep ((Kept.refl w).alloc _ _)) w.heap.size (bs word) (by rfl) (heap_alloc_new w _) (by show (m + 1) * 16 ≤ _; omega) (by unfold maxLen; omega) (Nat.le_trans hbase ((gtrans ((Kept.refl w).alloc _ _) (drew_kept _)).size)) ?_
    intro g9 c9 w9 ho9 hg9 hor9 hlt9
    obtain ⟨hC9, hL9, hR9, hB9⟩ := rd_ends (gtrans ((Kept.refl w).alloc _ _) (drew_kept _)) HR.out HL.out HS.out ho9 hg9 hb hbase
    obtain ⟨y0, y1, y2, y3, y4⟩ := hC9.cells
    obtain ⟨z0, z1, z2, z3, z4⟩ := hC9.free
    have hCl9 : b < w9.heap.size := hC9.lt
    have HFIN := hide1 (And.intro hR9 hB9)
    have HC2 := hide1 (hC9.set_sv (.slice (some ⟨g9, 0, none⟩) (m + 1) c9))
    have HS9 := hide1 (And.intro y1 hL9.src)
    refine hK.out _ _ HS9.out (fun hHeld9 => ?_)
    clear hK K ho9 hg9 hor9 hR9 hB9 hL9 hC9
    try simp only [Act.put, List.setIfInBounds_toArray, List.set_cons_zero, List.set_cons_succ]
    refine wpAnyH_take (i := 12) (v := .pointer (some ⟨b, 0, none⟩)) rfl (by kernel_rfl) (by kernel_rfl) (by kernel_rfl) (fun _ _ _ h => h) (Or.inl ⟨by rfl, fun w' hSw => ?_⟩) (by with_reducible assumption) ?_
    · clear hSw
      go_simp
    try simp only [Act.put, List.setIfInBounds_toArray, List.set_cons_zero, List.set_cons_succ]
    refine wpAnyH_take (i := 13) (v := .pointer (some ⟨b, 2, none⟩)) rfl (by kernel_rfl) (by kernel_rfl) (by kernel_rfl) (fun _ _ _ h => h) (Or.inl ⟨by rfl, fun w' hSw => ?_⟩) (by with_reducible assumption) ?_
    · clear hSw
      go_simp
    try simp only [Act.put, List.setIfInBounds_toArray, List.set_cons_zero, List.set_cons_succ]
    refine wpAnyH_ready (rs := [14]) (by kernel_rfl) (by simp) ?_
    refine AllReadyH.cons (i := 14) rfl (fun K hK => ?_) AllReadyH.nil
    have HSX := hide1 (show (w9.setCell ⟨b, 2, none⟩ (.slice (some ⟨g9, 0, none⟩) (m + 1) c9)).cell? ⟨b, 1, none⟩ = some (.slice wa n wc) ∧ Src u8E (w9.setCell ⟨b, 2, none⟩ (.slice (some ⟨g9, 0, none⟩) (m + 1) c9)) wa word from ⟨HC2.out.cells.2.1, HSRC.out w9 _ HS9.out.2⟩)
    go_simp
    refine hK.out _ _ HSX.out (fun hHeld10 => ?_)
    clear hK K
    try simp only [Act.put, List.setIfInBounds_toArray, List.set_cons_zero, List.set_cons_succ]
    refine wpAnyH_done (by kernel_rfl) ?_ _
    obtain ⟨W9, hW9⟩ : ∃ W9, w9.setCell ⟨b, 2, none⟩ (.slice (some ⟨g9, 0, none⟩) (m + 1) c9) = W9 := ⟨_, rfl⟩
    rw [hW9] at HC2 HFIN ⊢
    clear hHeld hHeld2 hHeld3 hHeld9 hHeld10 y0 y1 y2 y3 y4 z0 z1 z2 z3 z4 HSX hCl9 hlt9 c0 c1 c2 c3 c4 HS9 hW9
    obtain ⟨y0, y1, y2, y3, y4⟩ := HC2.out.cells
    obtain ⟨z0, z1, z2, z3, z4⟩ := HC2.out.free
    have hbl9 := HC2.out.lt
    have HFIN2 := hide1 HFIN.out
    go_wp2
    go_end0
    exact ⟨rfl, HFIN2.out⟩
end Sh
end Ex
end Go.Proofs.YtajmbplipjeojaaDoor
