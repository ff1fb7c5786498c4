import Derived.Test.YtkkilkojmdeopaaMDeLe
namespace Go.Proofs.Ytkkilkojmdeopaa
open Go.RowKit Go.Maps
attribute [local go_sem] Oper.semAt_some
namespace Ex
namespace Tr
attribute [local simp] wide_fn wide_depth

/-- The spans that are told. -/
def spF (l : List (Hk × (Nat × Nat))) : List (Nat × Nat) := (l.map Prod.snd).filter fun s => decide (s.1 < s.2)
theorem spF_snoc (l : List (Hk × (Nat × Nat))) (x : Hk × (Nat × Nat)) : spF (l ++ [x]) = spF l ++ (if x.2.1 < x.2.2 then [x.2] else []) := by
  unfold spF
  rw [List.map_append, List.filter_append]
  congr 1
  by_cases h : x.2.1 < x.2.2 <;> simp [h]
theorem spF_pre {p l : List (Hk × (Nat × Nat))} (h : p <+: l) : spF p <+: spF l := by
  obtain ⟨t, rfl⟩ := h
  unfold spF
  rw [List.map_append, List.filter_append]
  exact ⟨_, rfl⟩
def spansL (N : Nat → Nd) (a b : Nat) : List (Nat × Nat) := spF ((hunksL N a b).map (withS N b))
def encS (s : Nat × Nat) : Array Value := #[.agg #[.int .i64 (s.1 : Int), .int .i64 (s.2 : Int)]]
/-- The box that holds partings' iterator. -/
def RBox (w : World) (rb ab bb pb : Nat) : Prop := w.heap[rb]? = some (.cells #[.func (.func 60) #[] #[.pointer (some ⟨bb, 0, none⟩), .pointer (some ⟨pb, 0, none⟩), .pointer (some ⟨ab, 0, none⟩)]] 92 (0, 0))
def rX (B ab bb pb mb rb k : Nat) : Prop := pX B ab bb pb mb k ∨ k = rb
/-- While the hunks are gone through. -/
def RgI (X : Nat → Prop) (l : Nat) (J : (Nat → Prop) → List (Nat × Nat) → World → Prop) (W0 : World) (yb H : Nat) (T : Nat → Prop) (pre : List (Hk × (Nat × Nat))) (W : World) : Prop :=
  (∀ k, T k → H ≤ k) ∧ H ≤ W.heap.size ∧ KX X W0 W ∧ W.heap[yb]? = some (.cells #[.func (.yield l) #[] #[]] 94 (0, 0)) ∧ J (fun k => T k ∨ k = yb) (spF pre) W
theorem RgI.stable {X : Nat → Prop} {l : Nat} {J : (Nat → Prop) → List (Nat × Nat) → World → Prop} {W0 : World} {yb H : Nat} (hJ : StableW J) (h1 : yb < H) (hX : ∀ k, X k → k < H) : StableW (RgI X l J W0 yb H) := by
  rintro T T' s A A' ⟨g1, g2, g3, g4, g9⟩ hs
  have hn : ∀ k, k < H → ¬ T k := fun k hk h => by have := g1 k h; omega
  have hst : ∀ k, k < H → A'.heap[k]? = A.heap[k]? := fun k hk => hs.2.2.2.2.1 k (by omega) (hn k hk)
  refine ⟨fun k hk => ?_, Nat.le_trans g2 hs.2.2.2.1, ⟨Nat.le_trans g3.1 hs.2.2.2.1, fun k hk => (hst k (hX k hk)).trans (g3.2 k hk)⟩, (hst yb h1).trans g4, hJ _ _ _ _ _ g9 ⟨hs.1, hs.2.1, hs.2.2.1, hs.2.2.2.1, fun k hk hr => hs.2.2.2.2.1 k hk (fun e => hr (Or.inl e)), fun d hd => ?_⟩⟩
  · rcases hs.2.2.2.2.2 k hk with h | h
    · exact g1 k h
    · omega
  · rcases hd with hd | hd
    · rcases hs.2.2.2.2.2 d hd with h | h
      · exact Or.inl (Or.inl h)
      · exact Or.inr h
    · exact Or.inl (Or.inr hd)
def RgX (Jx : (Nat → Prop) → List (Nat × Nat) → World → Prop) (xs : List (Nat × Nat)) (yb H : Nat) (c : Code) (T : Nat → Prop) (_ : List (Hk × (Nat × Nat))) (W : World) : Prop :=
  c = .ret ∧ (∀ k, T k → H ≤ k) ∧ H ≤ W.heap.size ∧ ∃ p, p <+: xs ∧ Jx (fun k => T k ∨ k = yb) p W
theorem RgX.stable {Jx : (Nat → Prop) → List (Nat × Nat) → World → Prop} {xs : List (Nat × Nat)} {yb H : Nat} (hJ : StableW Jx) (c : Code) : StableW (RgX Jx xs yb H c) := by
  rintro T T' s A A' ⟨g0, g1, g2, p, hp, g3⟩ hs
  refine ⟨g0, fun k hk => ?_, Nat.le_trans g2 hs.2.2.2.1, p, hp, hJ _ _ _ _ _ g3 ⟨hs.1, hs.2.1, hs.2.2.1, hs.2.2.2.1, fun k hk hr => hs.2.2.2.2.1 k hk (fun e => hr (Or.inl e)), fun d hd => ?_⟩⟩
  · rcases hs.2.2.2.2.2 k hk with h | h
    · exact g1 k h
    · omega
  · rcases hd with hd | hd
    · rcases hs.2.2.2.2.2 d hd with h | h
      · exact Or.inl (Or.inl h)
      · exact Or.inr h
    · exact Or.inl (Or.inr hd)
set_option linter.unusedSimpArgs false in
set_option maxRecDepth 100000 in
set_option maxHeartbeats 8000000 in
theorem ranges_seq (n : Nat) (hn : 4 ≤ n) (R : Nat → Prop) (N : Nat → Nd) (B a b ab bb pb mb no rb : Nat) (w : World) (hF : Forest R N B w) (hL : LeafSum N R) (hN : NumOk R N) (ha : R a) (hb : R b) (hB : B ≤ w.heap.size) (hP : PBox w a b ab bb pb mb no (pairF (numL N (lvs N a)) (numL N (lvs N b)))) (hR : RBox w rb ab bb pb) :
    SeqX Fence.wide n Try.prog 34 #[.pointer (some ⟨rb, 0, none⟩)] encS (KX (rX B ab bb pb mb rb)) (spansL N a b) w := by
  intro l J Jx W hK hsz hJ hJx hY h0
  have hPW := hP.kx (hK.less (fun k hk => Or.inl hk))
  have hRW : RBox W rb ab bb pb := (hK.2 rb (Or.inr rfl)).trans hR
  have hFW : Forest R N B W := hF.kb ⟨hsz, fun k hk => hK.2 k (Or.inl (Or.inl hk))⟩
  have HF := hide1 hFW
  have HPW := hide1 hPW
  have HJ := hide1 hJ
  have HJX := hide1 hJx
  have HY := hide1 hY
  have H0 := hide1 h0
  have HA := hide1 ha
  have HB := hide1 hb
  have HN := hide1 hN
  have HL := hide1 hL
  have hBW : B ≤ W.heap.size := Nat.le_trans hB hsz
  have hlt := hPW.lt
  have hrl := (Array.getElem?_eq_some_iff.1 hRW).1
  obtain ⟨cb, _⟩ := one_cell hRW
  clear hF hP hK hsz hJ hJx hY h0 hPW hFW ha hb hN hL hB hR
  refine callsIn_of_wp_marks Try.func34 rfl trivial ?_ rfl
  simp only [Try.ntmps34, List.size_toArray, List.length_cons, List.length_nil, Nat.reduceAdd, Nat.reduceSub, Array.replicate_succ, Array.replicate_zero, List.push_toArray, List.append_toArray, List.nil_append, List.cons_append]
  refine (wpIn_wide (n := n)).2 ?_
  have cb2 : (W.alloc (.cells #[.func (.yield l) #[] #[]] 94)).cell? ⟨rb, 0, none⟩ = some (.func (.func 60) #[] #[.pointer (some ⟨bb, 0, none⟩), .pointer (some ⟨pb, 0, none⟩), .pointer (some ⟨ab, 0, none⟩)]) := (cell_alloc_old W _ hrl).trans cb
  go_wp2_with fail
  obtain ⟨yb, hyb⟩ : ∃ yb, W.heap.size = yb := ⟨_, rfl⟩
  obtain ⟨w4, hw4⟩ : ∃ w4, W.alloc (.cells #[.func (.yield l) #[] #[]] 94) = w4 := ⟨_, rfl⟩
  have hkW : Kept W w4 := by rw [← hw4]; exact (Kept.refl W).alloc _ _
  have hs4 : w4.heap.size = yb + 1 := by rw [← hw4, World.size_alloc, hyb]
  have hy4 : w4.heap[yb]? = some (.cells #[.func (.yield l) #[] #[]] 94 (0, 0)) := by rw [← hw4, ← hyb]; exact World.alloc_heap_new W _
  rw [hyb, hw4]
  have hXlt : ∀ k, rX B ab bb pb mb rb k → k < W.heap.size := fun k hk => by rcases hk with (h | rfl | rfl | rfl | rfl) | rfl <;> omega
  have hF4 : Forest R N B w4 := HF.out.kb (hkW.kb hBW)
  have hP4 := HPW.out.kx (w' := w4) ⟨hkW.size, fun k hk => hkW.2.2.2.2 k (hXlt k (Or.inl hk))⟩
  have hseq := parts_seq (n - 1) (by omega) R N B a b ab bb pb mb no w4 hF4 HL.out HN.out HA.out HB.out (Nat.le_trans hBW hkW.size) hP4
  have hI0 : RgI (rX B ab bb pb mb rb) l J W yb (yb + 1) (fun _ => False) [] w4 := by
    refine ⟨fun _ h => h.elim, by omega, ⟨hkW.size, fun k hk => hkW.2.2.2.2 k (hXlt k hk)⟩, hy4, ?_⟩
    refine HJ.out _ _ _ _ _ H0.out ⟨hkW.1, hkW.2.1, hkW.2.2.1, hkW.size, fun k hk _ => hkW.2.2.2.2 k hk, fun d hd => Or.inr ?_⟩
    rcases hd with hd | hd
    · exact hd.elim
    · omega
  have HI0 := hide1 hI0
  have HSEQ := hide1 hseq
  have HE : Hid (W.heap.size = yb ∧ w4.heap.size = yb + 1 ∧ B ≤ yb ∧ ab < yb ∧ bb < yb ∧ pb < yb ∧ mb < yb ∧ rb < yb) := ⟨hyb, hs4, by omega, by omega, by omega, by omega, by omega, by omega⟩
  clear hF4 hP4 hI0 hseq hy4 hkW hs4 hw4 hyb cb cb2 hlt hBW hXlt hrl hRW
  refine (wpIn_wide (n := n)).1 ?_
  refine range_A rfl (by omega) (gf := 60) (lb := #[.pointer (some ⟨bb, 0, none⟩), .pointer (some ⟨pb, 0, none⟩), .pointer (some ⟨ab, 0, none⟩)]) rfl trivial (enters_of Try.func60 (by kernel_rfl) rfl) HSEQ.out ?kp KX.trans (fun _ => rfl)
    (RgI (rX B ab bb pb mb rb) l J W yb (yb + 1)) (RgX Jx (spansL N a b) yb (yb + 1)) (RgI.stable HJ.out (by omega) (fun k hk => by have := HE.out; rcases hk with (h | rfl | rfl | rfl | rfl) | rfl <;> omega)) (RgX.stable HJX.out) HI0.out
    (fun x W => W.alloc (.cells #[.int .i64 (x.2.1 : Int), .int .i64 (x.2.2 : Int)] 45)) (fun x W => (Kept.refl W).alloc _ _)
    (fun x W9 => { tmps := #[.func (.yield l) #[] #[], .pointer (some ⟨rb, 0, none⟩), .pointer (some ⟨yb, 0, none⟩), undef, .pointer (some ⟨W9.heap.size, 0, none⟩), .func (.func 60) #[] #[.pointer (some ⟨bb, 0, none⟩), .pointer (some ⟨pb, 0, none⟩), .pointer (some ⟨ab, 0, none⟩)], .agg #[.int .i64 (x.1.fr : Int), .int .i64 (x.1.to_ : Int), .int .i64 (x.1.into : Int), .int .i64 (x.1.upto : Int)], .agg #[.int .i64 (x.2.1 : Int), .int .i64 (x.2.2 : Int)], undef, undef, undef, undef, undef, undef, undef, undef, undef, undef, undef], defers := [] })
    ?assign ?body ?done ?stop
  case kp => exact fun A A' h1 h2 h3 => ⟨h2, fun k hk => h3 k (by have := HE.out; rcases hk with h | rfl | rfl | rfl | rfl <;> omega)⟩
  case assign =>
    intro l x W K hK
    have HK := hide1 hK
    clear hK
    dsimp only [encH]
    gi_wp2
    exact HK.out
  case body =>
    rintro T pre x W0 V hw0 hTl hbx hVs ⟨g1, g2, g3, g4, g9⟩ hpre hTb hT0 hT1 hsz hloop
    have hE := HE.out
    have hpre' : (pre ++ [x]) <+: (hunksL N a b).map (withS N b) := hpre
    obtain ⟨sf, hsf⟩ : ∃ z : Nat, x.2.1 = z := ⟨_, rfl⟩
    obtain ⟨st, hst⟩ : ∃ z : Nat, x.2.2 = z := ⟨_, rfl⟩
    rw [hsf, hst] at hbx hVs ⊢
    have hb0 : V.heap[W0.heap.size]? = some (.cells #[.int .i64 (sf : Int), .int .i64 (st : Int)] 45 (0, 0)) := (hbx _ (Nat.le_refl _)).trans (World.alloc_heap_new W0 _)
    obtain ⟨sb, hsb⟩ : ∃ sb, W0.heap.size = sb := ⟨_, rfl⟩
    rw [hsb] at hb0 ⊢
    have c0 : V.cell? ⟨sb, 0, none⟩ = some (.int .i64 (sf : Int)) := by simp [World.cell?, hb0]
    have c1 : V.cell? ⟨sb, 1, none⟩ = some (.int .i64 (st : Int)) := by simp [World.cell?, hb0]
    obtain ⟨y0, _⟩ := one_cell g4
    have hsn := spF_snoc pre x
    rw [hsf, hst] at hsn
    have HG1 := hide1 g1
    have HG2 := hide1 g2
    have HG3 := hide1 g3
    have HG4 := hide1 g4
    have HG9 := hide1 g9
    have HT : Hid (∀ k, T k → k < V.heap.size) := fun k hk => (hTb k hk).2
    have HPRE := hide1 hpre'
    have HX2 : Hid (x.2 = (sf, st)) := (by rw [← hsf, ← hst] : x.2 = (sf, st))
    clear g1 g2 g3 g4 g9 hpre hTb hT0 hT1 hsz hloop hE hbx hVs hw0 hTl hb0 hpre' hsf hst hsb
    by_cases hlt : sf < st
    · rw [if_pos hlt] at hsn
      have HSN := hide1 hsn
      have hltI : (sf : Int) < (st : Int) := by omega
      clear hsn
      obtain ⟨fn, tm, asg, bod, hy, hR⟩ := HY.out (fun k => T k ∨ k = yb) (spF pre) x.2 V HG9.out (by rw [← HSN.out]; exact spF_pre HPRE.out)
        (fun k hk => by have hE := HE.out; have h2 := HG2.out; rcases hk with hk | hk
                        · have := HG1.out k hk; have := HT.out k hk; omega
                        · omega)
      have HR := hide1 hR
      rw [HX2.out] at hy
      dsimp only [encS] at hy
      clear hR
      gi_wp2_with fail
      refine (roundX HR.out).mono ?_
      rintro e W3 (⟨rfl, hJ3, hK3, hs3, hT3⟩ | ⟨rfl, hx3, hs3, hT3⟩)
      · have HT3 := hide1 hT3
        have HJ3 := hide1 hJ3
        have HK3 := hide1 hK3
        have HS3 := hide1 hs3
        clear hy hT3 hJ3 hK3 hs3 c0 c1 y0
        gi_wp2_with fail
        have hs3 := HS3.out
        refine ⟨hs3, fun k hk => HT3.out k (Or.inl hk), ⟨hs3, fun k hk => HK3.out.2 k (Or.inl hk)⟩, HG1.out, Nat.le_trans HG2.out hs3, HG3.out.trans HK3.out, (HT3.out yb (Or.inr rfl)).trans HG4.out, ?_⟩
        rw [HSN.out]
        exact HJ3.out
      · have HT3 := hide1 hT3
        have HX3 := hide1 hx3
        have HS3 := hide1 hs3
        clear hy hT3 hx3 hs3 c0 c1 y0
        gi_wp2_with fail
        have hs3 := HS3.out
        refine ⟨hs3, fun k hk => HT3.out k (Or.inl hk), rfl, HG1.out, Nat.le_trans HG2.out hs3, _, ?_, HX3.out⟩
        rw [← HSN.out]
        exact spF_pre HPRE.out
    · rw [if_neg hlt, List.append_nil] at hsn
      have HSN := hide1 hsn
      have hltI : ¬ (sf : Int) < (st : Int) := by omega
      clear hsn
      gi_wp2_with fail
      refine ⟨Nat.le_refl _, fun k hk => rfl, ⟨Nat.le_refl _, fun k hk => rfl⟩, HG1.out, HG2.out, HG3.out, HG4.out, ?_⟩
      rw [HSN.out]
      exact HG9.out
  case done =>
    rintro T V ⟨g1, g2, g3, g4, g9⟩ hdef hTb hT0 hT1
    have HG9 := hide1 g9
    have HDEF := hide1 hdef
    have HTB := hide1 hTb
    have HT0 := hide1 hT0
    have HG2 := hide1 g2
    clear g1 g2 g3 g4 g9 hdef hTb hT0 hT1
    go_wp2_with fail
    refine ⟨by simp, .inl ⟨_, _, rfl, run_takeDeferred HDEF.out, ?_⟩⟩
    refine ⟨_, results_none rfl _ _ _, ⟨_, rfl⟩, Or.inl ⟨fun k => T k ∨ k = yb, HJ.out _ _ _ _ _ HG9.out (StepW.put _ (Or.inl HT0.out)), fun k hk => ?_⟩⟩
    have hE := HE.out
    have h2 := HG2.out
    rcases hk with hk | hk
    · have := HTB.out k hk
      simp
      omega
    · simp
      omega
  case stop =>
    rintro T c pre V hpre ⟨rfl, g1, g2, p, hp, hx⟩ hdef hTb hT0 hT1
    have HX := hide1 hx
    have HDEF := hide1 hdef
    gi_wp2_with fail
    refine ⟨by simp, .inl ⟨_, _, rfl, run_takeDeferred HDEF.out, ?_⟩⟩
    refine ⟨_, results_none rfl _ _ _, ⟨_, rfl⟩, Or.inr ⟨fun k => T k ∨ k = yb, p, hp, HJX.out _ _ _ _ _ HX.out (StepW.put _ (Or.inl hT0)), fun k hk => ?_⟩⟩
    have hE := HE.out
    rcases hk with hk | hk
    · have := hTb k hk
      simp
      omega
    · simp
      omega

end Tr
end Ex
end Go.Proofs.Ytkkilkojmdeopaa
namespace Go.Proofs.Ytkkilkojmdeopaa
open Go.RowKit Go.Maps
attribute [local go_sem] Oper.semAt_some
namespace Ex
namespace Tr

theorem run_store_fnR {P : Program} {w : World} {a : Addr} {m : Mode} (f : Fn) (xs ys : Array Value) : (store a (.func f xs ys) m).run P w = stored P w a (.func f xs ys) m := run_store P w a _ m rfl
attribute [local go_sem] run_store_fnR
/-- What Ranges answers. -/
def RgOut (N : Nat → Nd) (a b : Nat) (w : World) (e : Ending) (w' : World) : Prop := ∃ ab bb pb mb n rb, e = .returned (.func (.func 34) #[] #[.pointer (some ⟨rb, 0, none⟩)]) ∧ PBox w' a b ab bb pb mb n (pairF (numL N (lvs N a)) (numL N (lvs N b))) ∧ RBox w' rb ab bb pb ∧ Kept w w' ∧ (w.heap.size ≤ ab ∧ w.heap.size ≤ bb ∧ w.heap.size ≤ pb ∧ w.heap.size ≤ mb ∧ w.heap.size ≤ rb)
set_option linter.unusedSimpArgs false in
set_option maxRecDepth 100000 in
set_option maxHeartbeats 4000000 in
theorem rangesD_is (R : Nat → Prop) (N : Nat → Nd) (B a b : Nat) (w : World) (hF : Forest R N B w) (hN : NumOk R N) (ha : R a) (hb : R b) (hB : B ≤ w.heap.size) :
    Calls Try.prog 10 #[.pointer (some ⟨a, 0, none⟩), .pointer (some ⟨b, 0, none⟩)] w (RgOut N a b w) := by
  have HPT := hide1 (partings_is R N B a b w hF hN ha hb hB)
  clear hF hN ha hb
  go_enter Try.func10, Try.ntmps10
  go_wp2_with (go_at_call 33; refine HPT.out.mono ?_; rintro e w5 ⟨ab, bb, pb, mb, n, rfl, h1, h2, h3, h4, hp5, hk5⟩; have HP5 := hide1 hp5; have HK5 := hide1 hk5; have HLE : Hid (w.heap.size ≤ ab ∧ w.heap.size ≤ bb ∧ w.heap.size ≤ pb ∧ w.heap.size ≤ mb) := ⟨h1, h2, h3, h4⟩; clear h1 h2 h3 h4 hp5 hk5)
  trace_state
  go_ret
  obtain ⟨w6, hw6⟩ : ∃ w6, w5.alloc (.cells #[.func (.func 60) #[] #[.pointer (some ⟨bb, 0, none⟩), .pointer (some ⟨pb, 0, none⟩), .pointer (some ⟨ab, 0, none⟩)]] 92) = w6 := ⟨_, rfl⟩
  have hkA : Kept w5 w6 := by rw [← hw6]; exact (Kept.refl w5).alloc _ _
  have hbx : RBox w6 w5.heap.size ab bb pb := by rw [← hw6]; exact World.alloc_heap_new w5 _
  have hlt := HP5.out.lt
  obtain ⟨q1, q2, q3, q4⟩ := HLE.out
  rw [hw6]
  exact ⟨ab, bb, pb, mb, n, w5.heap.size, rfl, HP5.out.kx (B := 0) ⟨hkA.size, fun k hk => hkA.2.2.2.2 k (by rcases hk with h | rfl | rfl | rfl | rfl <;> omega)⟩, hbx, gtrans HK5.out hkA, q1, q2, q3, q4, HK5.out.size⟩

end Tr
end Ex
end Go.Proofs.Ytkkilkojmdeopaa
