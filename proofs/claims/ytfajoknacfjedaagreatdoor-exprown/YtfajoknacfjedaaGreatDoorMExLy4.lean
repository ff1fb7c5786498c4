import Derived.Test.YtfajoknacfjedaaGreatDoorMExNt3
namespace Go.Proofs.YtfajoknacfjedaaGreatDoor
open Go.RowKit
attribute [local go_sem] Oper.semAt_some
namespace Ex

theorem forkC_set : ∀ (fs : List (Nat × Nat)) (i x : Nat), i < fs.length → (forkC fs).set (i * 2) (.int .i64 (x : Int)) = forkC (fs.set i (x, (fs.getD i (0, 0)).2))
  | [], i, x, h => by simp at h
  | f :: fs, 0, x, _ => rfl
  | f :: fs, i + 1, x, h => by
    have ih := forkC_set fs i x (by simpa using h)
    have e : ∀ (g : Nat × Nat) (l : List (Nat × Nat)), forkC (g :: l) = .int .i64 (g.1 : Int) :: .int .i64 (g.2 : Int) :: forkC l := fun _ _ => rfl
    rw [List.set_cons_succ, e, e, show (i + 1) * 2 = i * 2 + 1 + 1 by omega, List.set_cons_succ, List.set_cons_succ, ih]
    rfl
theorem forkC_at : ∀ (fs : List (Nat × Nat)) (i : Nat) (f : Nat × Nat), fs[i]? = some f → (forkC fs)[i * 2]? = some (.int .i64 (f.1 : Int)) ∧ (forkC fs)[i * 2 + 1]? = some (.int .i64 (f.2 : Int))
  | [], i, c, h => by simp at h
  | d :: l, 0, c, h => by
    simp only [List.getElem?_cons_zero, Option.some.injEq] at h
    subst h
    exact ⟨rfl, rfl⟩
  | d :: l, i + 1, c, h => by
    rw [List.getElem?_cons_succ] at h
    have := forkC_at l i c h
    have e : forkC (d :: l) = .int .i64 (d.1 : Int) :: .int .i64 (d.2 : Int) :: forkC l := rfl
    rw [e, show (i + 1) * 2 = i * 2 + 2 by omega, show i * 2 + 2 + 1 = i * 2 + 1 + 2 by omega]
    simp only [List.getElem?_cons_succ]
    exact this
/-- The first place of fork i is written. -/
theorem NetL.setFork {X : Nat → Prop} {w : World} {nb i : Nat} {ts : List (Int × Int × Nat)} {fs : List (Nat × Nat)} (h : NetL X w nb ts fs) (hi : i < fs.length) (x : Nat) :
    ∃ g cap, w.cell? ⟨nb, 2, none⟩ = some (.slice (some ⟨g, 0, none⟩) fs.length cap) ∧ fs.length ≤ cap ∧ (∃ u, w.cell? ⟨g, i * 2, none⟩ = some (.int .i64 u)) ∧ w.frozen? ⟨g, i * 2, none⟩ = false ∧ g < w.heap.size ∧ NetL X (w.setCell ⟨g, i * 2, none⟩ (.int .i64 (x : Int))) nb ts (fs.set i (x, (fs.getD i (0, 0)).2)) ∧ XKept X w (w.setCell ⟨g, i * 2, none⟩ (.int .i64 (x : Int))) := by
  obtain ⟨f0, vt, vf, h1, h2, h3, h4, h5⟩ := h
  have h3' := h3
  rcases h3.2 with ⟨_, h0⟩ | ⟨g, cap, cur, rfl, _, hg, hc, hm, hcs, hx⟩
  · omega
  · have hgl : g < w.heap.size := (Array.getElem?_eq_some_iff.1 hg).1
    have hg5 := h5 g rfl
    obtain ⟨f, hf⟩ : ∃ f, fs[i]? = some f := ⟨_, List.getElem?_eq_getElem hi⟩
    have hset : ∀ k v, k ≠ g → (w.setCell ⟨g, i * 2, none⟩ v).heap[k]? = w.heap[k]? := fun k v hk => Below.heap_setCell _ _ _ _ hk
    have he : w.heap[g] = Obj.cells cur 126 (0, 0) := by rw [Array.getElem?_eq_getElem hgl] at hg; exact Option.some.inj hg
    have hg' : (w.setCell ⟨g, i * 2, none⟩ (.int .i64 (x : Int))).heap[g]? = some (.cells (cur.setIfInBounds (i * 2) (.int .i64 (x : Int))) 126 (0, 0)) := by simp [World.setCell, Array.getElem_modify, hgl, he]
    refine ⟨g, cap, (net_cells h1).1.2.2, hc, ⟨_, cells_row hg hx (forkC_at fs i f hf).1⟩, by simp [World.frozen?, hg], hgl, ⟨f0, vt, _, (hset nb _ (Ne.symm hg5.2.1)).trans h1, owns_kept h2 (fun d hd => hset d _ (fun e => hg5.2.2 (by rw [← e]; exact hd))), ?_, h4, fun d hd => h5 d hd⟩, ⟨rfl, rfl, rfl, by simp [World.setCell], fun k hk => hset k _ (fun e => hg5.1 (e ▸ hk))⟩⟩
    rw [List.length_set]
    refine ⟨?_, .inr ⟨g, cap, _, rfl, Nat.zero_le _, hg', hc, hm, by rw [Array.size_setIfInBounds]; exact hcs, ?_⟩⟩
    · rw [← forkC_set fs i x hi, List.length_set]; exact h3'.1
    · rw [Array.toList_setIfInBounds, List.take_set, hx, forkC_set fs i x hi]
theorem LayC.at {n : Nat} {q : PatN (n + 1)} {L : Nat → St → Nat × St} (h : LayC n q L) (X : Nat → Prop) (nb next : Nat) (z : Int) (st : St) (vk : Value) (w : World) (hz : z = (next : Int)) (h1 : NetL X w nb st.1 st.2) (h2 : KidsAt X w n (kids q) vk) (h3 : ∀ d, X d → d < w.heap.size ∧ d ≠ nb) (h4 : (L next st).2.1.length ≤ 300000) (h5 : (L next st).2.2.length ≤ 300000) :
    Calls Tryz.prog 62 #[.pointer (some ⟨nb, 0, none⟩), valOf q vk, .int .i64 z] w fun e w' => e = .returned (.int .i64 ((L next st).1 : Int)) ∧ NetL X w' nb (L next st).2.1 (L next st).2.2 ∧ XKept X w w' := by
  subst hz
  exact h X nb next st vk w h1 h2 h3 h4 h5
/-- The last copy of a repetition without end. -/
def loopL (L : Nat → St → Nat × St) (mn : Int) (next : Nat) (st : St) : Nat × St :=
  (if mn = 0 then 4097 + st.2.length else (L (4097 + st.2.length) (st.1, st.2 ++ [(next, next)])).1,
   (L (4097 + st.2.length) (st.1, st.2 ++ [(next, next)])).2.1,
   (L (4097 + st.2.length) (st.1, st.2 ++ [(next, next)])).2.2.set st.2.length ((L (4097 + st.2.length) (st.1, st.2 ++ [(next, next)])).1, ((L (4097 + st.2.length) (st.1, st.2 ++ [(next, next)])).2.2.getD st.2.length (0, 0)).2))
theorem loop_grows {L : Nat → St → Nat × St} (hG : GrowsL L) (mn : Int) : GrowsL (loopL L mn) := fun next st => by
  have h := hG (4097 + st.2.length) (st.1, st.2 ++ [(next, next)])
  unfold loopL
  simp only [List.length_set]
  simp only [List.length_append, List.length_singleton] at h
  omega

set_option linter.unusedSimpArgs false in
set_option maxRecDepth 100000 in
set_option maxHeartbeats 4000000 in
theorem layLoop_is (n : Nat) (p : PatN (n + 1 + 1)) (q : PatN (n + 1)) (hq : kids p = [q]) (L : Nat → St → Nat × St) (hL : LayC n q L) (hG : GrowsL L) (X : Nat → Prop) (nb next : Nat) (st : St) (vk : Value) (w : World) (h : NetL X w nb st.1 st.2) (hk : KidsAt X w (n + 1) (kids p) vk) (hX : ∀ d, X d → d < w.heap.size ∧ d ≠ nb)
    (h1 : (loopL L (min_ p) next st).2.1.length ≤ 300000) (h2 : (loopL L (min_ p) next st).2.2.length ≤ 300000) :
    Calls Tryz.prog 97 #[.pointer (some ⟨nb, 0, none⟩), valOf p vk, .int .i64 (next : Int)] w fun e w' => e = .returned (.int .i64 ((loopL L (min_ p) next st).1 : Int)) ∧ NetL X w' nb (loopL L (min_ p) next st).2.1 (loopL L (min_ p) next st).2.2 ∧ XKept X w w' := by
  have HL := hide1 hL
  have hg := hG (4097 + st.2.length) (st.1, st.2 ++ [(next, next)])
  have HN := hide1 h
  have HX := hide1 hX
  have hnb := h.lt
  rw [hq] at hk
  obtain ⟨a2, cap2, e2, hc2, _, h7⟩ := hk
  subst e2
  rw [valOf_eq]
  unfold loopL at h1 h2 ⊢
  obtain ⟨⟨fst, ts2, fs2⟩, hr⟩ : ∃ r, L (4097 + st.2.length) (st.1, st.2 ++ [(next, next)]) = r := ⟨_, rfl⟩
  rw [hr] at h1 h2 hg ⊢
  have HR := hide1 hr
  dsimp only at h1 h2 hg ⊢
  rw [List.length_set] at h2
  simp only [List.length_append, List.length_singleton] at hg
  obtain ⟨mn, hmn⟩ : ∃ x, min_ p = x := ⟨_, rfl⟩
  rw [hmn]
  rcases h7 with h7 | ⟨c, o, rfl, hXc, h7⟩
  · simp at h7
  · obtain ⟨u, g0, g1, g2, g3, g4, g5, g6⟩ := h7 0 q rfl
    obtain ⟨a3, cap3, rfl⟩ := g6.form
    have HG6 := hide1 g6
    simp only [Nat.zero_mul, Nat.add_zero] at g0 g1 g2 g3 g4 g5
    have gc : (1 : Int) ≤ (cap2 : Int) := by have := hc2; simp at this; omega
    have HXC := hide1 hXc
    have HGC := hide1 (And.intro g0 (And.intro g1 (And.intro g2 (And.intro g3 (And.intro g4 g5)))))
    have hfl : (st.2.length : Int) ≤ 300000 := by omega
    have hi2 : (st.2.length : Int) < (fs2.length : Int) := by omega
    clear h7 g6 hX hL hc2 hmn h hr hXc g0 g1 g2 g3 g4 g5 hq
    go_enter Tryz.func97, Tryz.ntmps97
    by_cases h0 : mn = 0
    · subst h0
      go_wp2_with (first
        | (go_at_call 79; refine (fork_is (fun d => X d ∨ d = w.heap.size) nb st.1 st.2 next next _ (HN.out.box _ _) (fun d hd => by rcases hd with hd | hd; (have := HX.out d hd; exact ⟨by simp; omega, this.2⟩); exact ⟨by simp; omega, by omega⟩) (by omega)).mono ?_; rintro e w7 ⟨rfl, hn7, hk7⟩; have HN7 := hide1 hn7; have HK7 := hide1 hk7; have hbx := (BoxAt.new w _ _ _ _ _ _).x hk7 (.inr rfl); have HBX := hide1 hbx; obtain ⟨⟨q0, q1, q2, q3, q4, q5⟩, zz⟩ := hbx.facts; clear zz; have hlw := hbx.lt; have i0 := hk7.cell (.inl HXC.out) (grown_cell ((Kept.refl w).alloc _ _) HGC.out.1); have i1 := hk7.cell (.inl HXC.out) (grown_cell ((Kept.refl w).alloc _ _) HGC.out.2.1); have i2 := hk7.cell (.inl HXC.out) (grown_cell ((Kept.refl w).alloc _ _) HGC.out.2.2.1); have i3 := hk7.cell (.inl HXC.out) (grown_cell ((Kept.refl w).alloc _ _) HGC.out.2.2.2.1); have i4 := hk7.cell (.inl HXC.out) (grown_cell ((Kept.refl w).alloc _ _) HGC.out.2.2.2.2.1); have i5 := hk7.cell (.inl HXC.out) (grown_cell ((Kept.refl w).alloc _ _) HGC.out.2.2.2.2.2); clear hn7 hk7 hbx)
        | (go_at_call 62; (refine (HL.out.at (fun d => X d ∨ d = w.heap.size) nb (4097 + st.2.length) _ (st.1, st.2 ++ [(next, next)]) _ _ (by simp) HN7.out (KidsAt.mono (w := w) (S := X) (fun d o v hd hcc => HK7.out.cell (.inl hd) (grown_cell ((Kept.refl w).alloc _ _) hcc)) (fun d hd => .inl hd) _ _ _ HG6.out) (fun d hd => by rcases hd with hd | hd; (have := HX.out d hd; exact ⟨by omega, this.2⟩); exact ⟨by omega, by omega⟩) (by rw [HR.out]; exact h1) (by rw [HR.out]; exact h2)).mono ?_; rintro e w8 ⟨rfl, hn8, hk8⟩; rw [HR.out] at hn8 ⊢; dsimp only at hn8; have HK8 := hide1 (HK7.out.trans hk8); have hbx := HBX.out.x hk8 (.inr rfl); obtain ⟨⟨q0, q1, q2, q3, q4, q5⟩, zz⟩ := hbx.facts; clear zz; have hlw8 := hbx.lt; obtain ⟨gf, capf, r2, hcf, ⟨uf, rf⟩, zf, hgl, hN9, hK9⟩ := hn8.setFork (i := st.2.length) (by show st.2.length < fs2.length; omega) fst; have HN9 := hide1 hN9; have HK9 := hide1 hK9; have gcf : (fs2.length : Int) ≤ (capf : Int) := (by have := hcf; omega); have r3 := hK9.cell (.inr rfl) q3; clear hn8 hk8 hbx hN9 hK9)))
      go_ret
      refine ⟨rfl, HN9.out.sub (fun d hd => .inl hd), ?_⟩
      exact (((Kept.refl w).alloc _ _).x (fun d hd => (HX.out d hd).1)).trans ((HK8.out.trans HK9.out).sub (fun d hd => .inl hd))
    · rw [if_neg h0]
      go_wp2_with (first
        | (go_at_call 79; refine (fork_is (fun d => X d ∨ d = w.heap.size) nb st.1 st.2 next next _ (HN.out.box _ _) (fun d hd => by rcases hd with hd | hd; (have := HX.out d hd; exact ⟨by simp; omega, this.2⟩); exact ⟨by simp; omega, by omega⟩) (by omega)).mono ?_; rintro e w7 ⟨rfl, hn7, hk7⟩; have HN7 := hide1 hn7; have HK7 := hide1 hk7; have hbx := (BoxAt.new w _ _ _ _ _ _).x hk7 (.inr rfl); have HBX := hide1 hbx; obtain ⟨⟨q0, q1, q2, q3, q4, q5⟩, zz⟩ := hbx.facts; clear zz; have hlw := hbx.lt; have i0 := hk7.cell (.inl HXC.out) (grown_cell ((Kept.refl w).alloc _ _) HGC.out.1); have i1 := hk7.cell (.inl HXC.out) (grown_cell ((Kept.refl w).alloc _ _) HGC.out.2.1); have i2 := hk7.cell (.inl HXC.out) (grown_cell ((Kept.refl w).alloc _ _) HGC.out.2.2.1); have i3 := hk7.cell (.inl HXC.out) (grown_cell ((Kept.refl w).alloc _ _) HGC.out.2.2.2.1); have i4 := hk7.cell (.inl HXC.out) (grown_cell ((Kept.refl w).alloc _ _) HGC.out.2.2.2.2.1); have i5 := hk7.cell (.inl HXC.out) (grown_cell ((Kept.refl w).alloc _ _) HGC.out.2.2.2.2.2); clear hn7 hk7 hbx)
        | (go_at_call 62; (refine (HL.out.at (fun d => X d ∨ d = w.heap.size) nb (4097 + st.2.length) _ (st.1, st.2 ++ [(next, next)]) _ _ (by simp) HN7.out (KidsAt.mono (w := w) (S := X) (fun d o v hd hcc => HK7.out.cell (.inl hd) (grown_cell ((Kept.refl w).alloc _ _) hcc)) (fun d hd => .inl hd) _ _ _ HG6.out) (fun d hd => by rcases hd with hd | hd; (have := HX.out d hd; exact ⟨by omega, this.2⟩); exact ⟨by omega, by omega⟩) (by rw [HR.out]; exact h1) (by rw [HR.out]; exact h2)).mono ?_; rintro e w8 ⟨rfl, hn8, hk8⟩; rw [HR.out] at hn8 ⊢; dsimp only at hn8; have HK8 := hide1 (HK7.out.trans hk8); have hbx := HBX.out.x hk8 (.inr rfl); obtain ⟨⟨q0, q1, q2, q3, q4, q5⟩, zz⟩ := hbx.facts; clear zz; have hlw8 := hbx.lt; obtain ⟨gf, capf, r2, hcf, ⟨uf, rf⟩, zf, hgl, hN9, hK9⟩ := hn8.setFork (i := st.2.length) (by show st.2.length < fs2.length; omega) fst; have HN9 := hide1 hN9; have HK9 := hide1 hK9; have gcf : (fs2.length : Int) ≤ (capf : Int) := (by have := hcf; omega); have r3 := hK9.cell (.inr rfl) q3; clear hn8 hk8 hbx hN9 hK9)))
      go_ret
      refine ⟨rfl, HN9.out.sub (fun d hd => .inl hd), ?_⟩
      exact (((Kept.refl w).alloc _ _).x (fun d hd => (HX.out d hd).1)).trans ((HK8.out.trans HK9.out).sub (fun d hd => .inl hd))

end Ex
end Go.Proofs.YtfajoknacfjedaaGreatDoor
namespace Go.Proofs.YtfajoknacfjedaaGreatDoor
open Go.RowKit
attribute [local go_sem] Oper.semAt_some
namespace Ex

theorem layCopies_at (n : Nat) (q : PatN (n + 1)) (L : Nat → St → Nat × St) (hL : LayC n q L) (hG : GrowsL L) (X : Nat → Prop) (nb count next : Nat) (zc zn : Int) (st : St) (vk : Value) (w : World) (hzc : zc = (count : Int)) (hzn : zn = (next : Int)) (h : NetL X w nb st.1 st.2) (hk : KidsAt X w n (kids q) vk) (hX : ∀ d, X d → d < w.heap.size ∧ d ≠ nb)
    (h1 : (copiesL L count next st).2.1.length ≤ 300000) (h2 : (copiesL L count next st).2.2.length ≤ 300000) (hc : count ≤ 100000) :
    Calls Tryz.prog 98 #[.pointer (some ⟨nb, 0, none⟩), valOf q vk, .int .i64 zc, .int .i64 zn] w fun e w' => e = .returned (.int .i64 ((copiesL L count next st).1 : Int)) ∧ NetL X w' nb (copiesL L count next st).2.1 (copiesL L count next st).2.2 ∧ XKept X w w' := by
  subst hzc hzn
  exact layCopies_is n q L hL hG X nb count next st vk w h hk hX h1 h2 hc
theorem layLoop_mx (n : Nat) (p : PatN (n + 1 + 1)) (q : PatN (n + 1)) (hq : kids p = [q]) (mn mx : Int) (hmn : min_ p = mn) (hmx : max_ p = mx) (L : Nat → St → Nat × St) (hL : LayC n q L) (hG : GrowsL L) (X : Nat → Prop) (nb next : Nat) (st : St) (nx : Nat) (s : St) (hr : loopL L mn next st = (nx, s)) (vk : Value) (w : World) (h : NetL X w nb st.1 st.2) (hk : KidsAt X w (n + 1) (kids p) vk) (hX : ∀ d, X d → d < w.heap.size ∧ d ≠ nb)
    (h1 : s.1.length ≤ 300000) (h2 : s.2.length ≤ 300000) :
    Calls Tryz.prog 97 #[.pointer (some ⟨nb, 0, none⟩), .agg #[.int .i64 (kind p), .int .i64 (from_ p), .int .i64 (to_ p), .int .i64 mn, .int .i64 mx, vk], .int .i64 (next : Int)] w fun e w' => e = .returned (.int .i64 (nx : Int)) ∧ NetL X w' nb s.1 s.2 ∧ XKept X w w' := by
  subst hmx hmn
  have := layLoop_is n p q hq L hL hG X nb next st vk w h hk hX (by rw [hr]; exact h1) (by rw [hr]; exact h2)
  rw [valOf_eq, hr] at this
  exact this
/-- A repetition without end. -/
def endlessL (L : Nat → St → Nat × St) (mn : Int) (next : Nat) (st : St) : Nat × St := copiesL L (max mn 1 - 1).toNat (loopL L mn next st).1 (loopL L mn next st).2
theorem endless_grows {L : Nat → St → Nat × St} (hG : GrowsL L) (mn : Int) : GrowsL (endlessL L mn) := fun next st => by
  have h1 := loop_grows hG mn next st
  have h2 := copies_grows hG (max mn 1 - 1).toNat (loopL L mn next st).1 (loopL L mn next st).2
  exact ⟨Nat.le_trans h1.1 h2.1, Nat.le_trans h1.2 h2.2⟩

set_option linter.unusedSimpArgs false in
set_option maxRecDepth 100000 in
set_option maxHeartbeats 4000000 in
theorem layEndless_is (n : Nat) (p : PatN (n + 1 + 1)) (q : PatN (n + 1)) (hq : kids p = [q]) (hmx : max_ p = -1) (hm0 : 0 ≤ min_ p) (hm1 : min_ p ≤ 1000) (L : Nat → St → Nat × St) (hL : LayC n q L) (hG : GrowsL L) (X : Nat → Prop) (nb next : Nat) (st : St) (vk : Value) (w : World) (h : NetL X w nb st.1 st.2) (hk : KidsAt X w (n + 1) (kids p) vk) (hX : ∀ d, X d → d < w.heap.size ∧ d ≠ nb)
    (h1 : (endlessL L (min_ p) next st).2.1.length ≤ 300000) (h2 : (endlessL L (min_ p) next st).2.2.length ≤ 300000) :
    Calls Tryz.prog 80 #[.pointer (some ⟨nb, 0, none⟩), valOf p vk, .int .i64 (next : Int)] w fun e w' => e = .returned (.int .i64 ((endlessL L (min_ p) next st).1 : Int)) ∧ NetL X w' nb (endlessL L (min_ p) next st).2.1 (endlessL L (min_ p) next st).2.2 ∧ XKept X w w' := by
  obtain ⟨mn, hmn⟩ : ∃ x, min_ p = x := ⟨_, rfl⟩
  rw [hmn] at hm0 hm1 h1 h2 ⊢
  obtain ⟨⟨nx, s⟩, hr⟩ : ∃ r, loopL L mn next st = r := ⟨_, rfl⟩
  have hE : endlessL L mn next st = copiesL L (max mn 1 - 1).toNat nx s := by unfold endlessL; rw [hr]
  obtain ⟨cnt, hcnt⟩ : ∃ x, (max mn 1 - 1).toNat = x := ⟨_, rfl⟩
  rw [hE, hcnt] at h1 h2 ⊢
  have hlg := copies_grows hG cnt nx s
  have HL := hide1 hL
  have HGR := hide1 hG
  have HN := hide1 h
  have HX := hide1 hX
  have HKP := hide1 hk
  have HQ := hide1 hq
  have HMX := hide1 hmx
  have HMN := hide1 hmn
  have HR := hide1 hr
  have hnb := h.lt
  have HLG := hide1 hlg
  have H1 := hide1 h1
  have H2 := hide1 h2
  have HCNT : Hid ((cnt : Int) = max mn 1 - 1 ∧ cnt ≤ 1000) := ⟨by omega, by omega⟩
  rw [hq] at hk
  obtain ⟨a2, cap2, e2', hc2, _, h7⟩ := hk
  subst e2'
  rw [valOf_eq, hmx, hmn]
  rcases h7 with h7 | ⟨c, o, rfl, hXc, h7⟩
  · simp at h7
  · obtain ⟨u, g0, g1, g2, g3, g4, g5, g6⟩ := h7 0 q rfl
    obtain ⟨a3, cap3, rfl⟩ := g6.form
    have HG6 := hide1 g6
    simp only [Nat.zero_mul, Nat.add_zero] at g0 g1 g2 g3 g4 g5
    have gc : (1 : Int) ≤ (cap2 : Int) := by have := hc2; simp at this; omega
    have HXC := hide1 hXc
    have HGC := hide1 (And.intro g0 (And.intro g1 (And.intro g2 (And.intro g3 (And.intro g4 g5)))))
    clear h7 g6 hX hL hc2 h hXc g0 g1 g2 g3 g4 g5 hG hlg h1 h2 hmx hq hmn hr hE hcnt
    go_enter Tryz.func80, Tryz.ntmps80
    go_wp2_with (go_at_call 97; refine (layLoop_mx n p q HQ.out mn (-1) HMN.out HMX.out L HL.out HGR.out (fun d => X d ∨ d = w.heap.size) nb next st nx s HR.out (.slice (some ⟨c, o, none⟩) 1 cap2) _ (HN.out.box _ _) (KidsAt.mono (w := w) (S := X) (fun d o v hd hcc => grown_cell ((Kept.refl w).alloc _ _) hcc) (fun d hd => .inl hd) _ _ _ HKP.out) (fun d hd => by rcases hd with hd | hd; (have := HX.out d hd; exact ⟨by simp; omega, this.2⟩); exact ⟨by simp; omega, by omega⟩) (Nat.le_trans HLG.out.1 H1.out) (Nat.le_trans HLG.out.2 H2.out)).mono ?_; rintro e w7 ⟨rfl, hn7, hk7⟩; have HN7 := hide1 hn7; have HK7 := hide1 hk7; have hbx := (BoxAt.new w _ _ _ _ _ _).x hk7 (.inr rfl); have HBX := hide1 hbx; obtain ⟨⟨q0, q1, q2, q3, q4, q5⟩, zz⟩ := hbx.facts; clear zz; have hlw := hbx.lt; have i0 := hk7.cell (.inl HXC.out) (grown_cell ((Kept.refl w).alloc _ _) HGC.out.1); have i1 := hk7.cell (.inl HXC.out) (grown_cell ((Kept.refl w).alloc _ _) HGC.out.2.1); have i2 := hk7.cell (.inl HXC.out) (grown_cell ((Kept.refl w).alloc _ _) HGC.out.2.2.1); have i3 := hk7.cell (.inl HXC.out) (grown_cell ((Kept.refl w).alloc _ _) HGC.out.2.2.2.1); have i4 := hk7.cell (.inl HXC.out) (grown_cell ((Kept.refl w).alloc _ _) HGC.out.2.2.2.2.1); have i5 := hk7.cell (.inl HXC.out) (grown_cell ((Kept.refl w).alloc _ _) HGC.out.2.2.2.2.2); clear hn7 hk7 hbx)
    have HKI7 : Hid (KidsAt (fun d => X d ∨ d = w.heap.size) w7 n (kids q) (.slice a3 (kids q).length cap3)) := KidsAt.mono (w := w) (w' := w7) (S := X) (fun d o v hd hcc => HK7.out.cell (Or.inl hd) (grown_cell ((Kept.refl w).alloc _ _) hcc)) (fun d hd => Or.inl hd) _ _ _ HG6.out
    by_cases hlt1 : mn < 1
    · have hmz : mn = 0 := by omega
      clear hlt1
      subst hmz
      go_region_held3 (fun w' => w'.cell? ⟨w.heap.size, 3, none⟩ = some (.int .i64 0) ∧ w'.cell? ⟨w.heap.size, 5, none⟩ = some (.slice (some ⟨c, o, none⟩) 1 cap2) ∧ w'.cell? ⟨c, o, none⟩ = some (.int .i64 (kind q)) ∧ w'.cell? ⟨c, o + 1, none⟩ = some (.int .i64 (from_ q)) ∧ w'.cell? ⟨c, o + 2, none⟩ = some (.int .i64 (to_ q)) ∧ w'.cell? ⟨c, o + 3, none⟩ = some (.int .i64 (min_ q)) ∧ w'.cell? ⟨c, o + 4, none⟩ = some (.int .i64 (max_ q)) ∧ w'.cell? ⟨c, o + 5, none⟩ = some (.slice a3 (kids q).length cap3)) (first | exact ⟨by with_reducible assumption, by with_reducible assumption, by with_reducible assumption, by with_reducible assumption, by with_reducible assumption, by with_reducible assumption, by with_reducible assumption, by with_reducible assumption⟩ | go_keep)
        ((go_at_call 98; refine (layCopies_at n q L HL.out HGR.out (fun d => X d ∨ d = w.heap.size) nb cnt nx _ _ s _ _ (by have := HCNT.out.1; first | omega | (rw [IntKind.wrap_i64]; omega) | (simp; omega)) rfl (by exact HN7.out) (HKI7.out.kept (drew_kept _)) (fun d hd => by show d < w7.heap.size ∧ d ≠ nb; rcases hd with hd | hd; (have := HX.out d hd; exact ⟨by omega, this.2⟩); exact ⟨by omega, by omega⟩) H1.out H2.out (Nat.le_trans HCNT.out.2 (by omega))).mono ?_; rintro e w9 ⟨rfl, hn9, hk9⟩; have HN9 := hide1 hn9; have HK9 := hide1 hk9; have j3 := hk9.cell (.inr rfl) q3; have j5 := hk9.cell (.inr rfl) q5; have l0 := hk9.cell (.inl HXC.out) i0; have l1 := hk9.cell (.inl HXC.out) i1; have l2 := hk9.cell (.inl HXC.out) i2; have l3 := hk9.cell (.inl HXC.out) i3; have l4 := hk9.cell (.inl HXC.out) i4; have l5 := hk9.cell (.inl HXC.out) i5; clear hn9 hk9))
      go_wp2_with fail
      go_ret
      refine ⟨rfl, HN9.out.sub (fun d hd => .inl hd), ?_⟩
      exact (((Kept.refl w).alloc _ _).x (fun d hd => (HX.out d hd).1)).trans ((HK7.out.trans HK9.out).sub (fun d hd => .inl hd))
    · have hlt2 : 1 ≤ mn := by omega
      go_region_held3 (fun w' => w'.cell? ⟨w.heap.size, 3, none⟩ = some (.int .i64 mn) ∧ w'.cell? ⟨w.heap.size, 5, none⟩ = some (.slice (some ⟨c, o, none⟩) 1 cap2) ∧ w'.cell? ⟨c, o, none⟩ = some (.int .i64 (kind q)) ∧ w'.cell? ⟨c, o + 1, none⟩ = some (.int .i64 (from_ q)) ∧ w'.cell? ⟨c, o + 2, none⟩ = some (.int .i64 (to_ q)) ∧ w'.cell? ⟨c, o + 3, none⟩ = some (.int .i64 (min_ q)) ∧ w'.cell? ⟨c, o + 4, none⟩ = some (.int .i64 (max_ q)) ∧ w'.cell? ⟨c, o + 5, none⟩ = some (.slice a3 (kids q).length cap3)) (first | exact ⟨by with_reducible assumption, by with_reducible assumption, by with_reducible assumption, by with_reducible assumption, by with_reducible assumption, by with_reducible assumption, by with_reducible assumption, by with_reducible assumption⟩ | go_keep)
        ((go_at_call 98; refine (layCopies_at n q L HL.out HGR.out (fun d => X d ∨ d = w.heap.size) nb cnt nx _ _ s _ _ (by have := HCNT.out.1; first | omega | (rw [IntKind.wrap_i64]; omega) | (simp; omega)) rfl (by exact HN7.out) (HKI7.out.kept (drew_kept _)) (fun d hd => by show d < w7.heap.size ∧ d ≠ nb; rcases hd with hd | hd; (have := HX.out d hd; exact ⟨by omega, this.2⟩); exact ⟨by omega, by omega⟩) H1.out H2.out (Nat.le_trans HCNT.out.2 (by omega))).mono ?_; rintro e w9 ⟨rfl, hn9, hk9⟩; have HN9 := hide1 hn9; have HK9 := hide1 hk9; have j3 := hk9.cell (.inr rfl) q3; have j5 := hk9.cell (.inr rfl) q5; have l0 := hk9.cell (.inl HXC.out) i0; have l1 := hk9.cell (.inl HXC.out) i1; have l2 := hk9.cell (.inl HXC.out) i2; have l3 := hk9.cell (.inl HXC.out) i3; have l4 := hk9.cell (.inl HXC.out) i4; have l5 := hk9.cell (.inl HXC.out) i5; clear hn9 hk9))
      go_wp2_with fail
      go_ret
      refine ⟨rfl, HN9.out.sub (fun d hd => .inl hd), ?_⟩
      exact (((Kept.refl w).alloc _ _).x (fun d hd => (HX.out d hd).1)).trans ((HK7.out.trans HK9.out).sub (fun d hd => .inl hd))

end Ex
end Go.Proofs.YtfajoknacfjedaaGreatDoor
namespace Go.Proofs.YtfajoknacfjedaaGreatDoor
open Go.RowKit
attribute [local go_sem] Oper.semAt_some
namespace Ex

theorem layEndless_mx (n : Nat) (p : PatN (n + 1 + 1)) (q : PatN (n + 1)) (hq : kids p = [q]) (kd mn : Int) (hkd : kind p = kd) (hmn : min_ p = mn) (hmx : max_ p = -1) (hm0 : 0 ≤ mn) (hm1 : mn ≤ 1000) (L : Nat → St → Nat × St) (hL : LayC n q L) (hG : GrowsL L) (X : Nat → Prop) (nb next : Nat) (st : St) (nx : Nat) (s : St) (hr : endlessL L mn next st = (nx, s)) (vk : Value) (w : World) (h : NetL X w nb st.1 st.2) (hk : KidsAt X w (n + 1) (kids p) vk) (hX : ∀ d, X d → d < w.heap.size ∧ d ≠ nb)
    (h1 : s.1.length ≤ 300000) (h2 : s.2.length ≤ 300000) :
    Calls Tryz.prog 80 #[.pointer (some ⟨nb, 0, none⟩), .agg #[.int .i64 kd, .int .i64 (from_ p), .int .i64 (to_ p), .int .i64 mn, .int .i64 (-1), vk], .int .i64 (next : Int)] w fun e w' => e = .returned (.int .i64 (nx : Int)) ∧ NetL X w' nb s.1 s.2 ∧ XKept X w w' := by
  subst hkd hmn
  have := layEndless_is n p q hq hmx hm0 hm1 L hL hG X nb next st vk w h hk hX (by rw [hr]; exact h1) (by rw [hr]; exact h2)
  rw [valOf_eq, hr, hmx] at this
  exact this

set_option linter.unusedSimpArgs false in
set_option maxRecDepth 100000 in
set_option maxHeartbeats 4000000 in
theorem lay_times (n : Nat) (p : PatN (n + 1 + 1)) (q : PatN (n + 1)) (hq : kids p = [q]) (hkd : kind p = 4) (hmx : max_ p = -1) (hm0 : 0 ≤ min_ p) (hm1 : min_ p ≤ 1000) (L : Nat → St → Nat × St) (hL : LayC n q L) (hG : GrowsL L) : LayC (n + 1) p (endlessL L (min_ p)) := by
  intro X nb next st vk w h hk hX h1 h2
  obtain ⟨mn, hmn⟩ : ∃ x, min_ p = x := ⟨_, rfl⟩
  rw [hmn] at hm0 hm1 h1 h2 ⊢
  obtain ⟨⟨nx, s⟩, hr⟩ : ∃ r, endlessL L mn next st = r := ⟨_, rfl⟩
  rw [hr] at h1 h2 ⊢
  have HL := hide1 hL
  have HGR := hide1 hG
  have HN := hide1 h
  have HX := hide1 hX
  have HKP := hide1 hk
  have HQ := hide1 hq
  have HMX := hide1 hmx
  have HMN := hide1 hmn
  have HKD := hide1 hkd
  have HR := hide1 hr
  have hnb := h.lt
  have H1 := hide1 h1
  have H2 := hide1 h2
  have HM := hide1 (And.intro hm0 hm1)
  obtain ⟨ak, ck, rfl⟩ := hk.form
  rw [valOf_eq, hmx, hmn, hkd]
  clear hX hL h hG h1 h2 hmx hq hmn hr hkd hk hm0 hm1
  go_enter Tryz.func62, Tryz.ntmps62
  go_wp2_with (go_at_call 80; refine (layEndless_mx n p q HQ.out 4 mn HKD.out HMN.out HMX.out HM.out.1 HM.out.2 L HL.out HGR.out X nb next st nx s HR.out (.slice ak (kids p).length ck) _ ((HN.out.keep ((((Kept.refl w).alloc _ _).alloc _ _).alloc _ _)).sub (fun d hd => Or.inl hd)) (HKP.out.kept ((((Kept.refl w).alloc _ _).alloc _ _).alloc _ _)) (fun d hd => by have := HX.out d hd; exact ⟨by simp; omega, this.2⟩) H1.out H2.out).mono ?_; rintro e w7 ⟨rfl, hn7, hk7⟩; have HN7 := hide1 hn7; have HK7 := hide1 hk7; clear hn7 hk7)
  go_ret
  exact ⟨rfl, HN7.out, (((((Kept.refl w).alloc _ _).alloc _ _).alloc _ _).x (fun d hd => (HX.out d hd).1)).trans HK7.out⟩

end Ex
end Go.Proofs.YtfajoknacfjedaaGreatDoor
