import Derived.Test.YtkkilkojmdeopaaMDeLe
import Derived.Test.YtkkilkojmdeopaaMTrR9
import Derived.Test.YtkkilkojmdeopaaMDeGq
namespace Go.Proofs.Ytkkilkojmdeopaa
open Go.RowKit Go.Maps
attribute [local go_sem] Oper.semAt_some
namespace Ex
namespace Tr
attribute [local simp] wide_fn wide_depth

/-- The spans that are told. -/
def spF (l : List (Hk × (Nat × Nat))) : List (Nat × Nat) := (l.map Prod.snd).filter fun s => decide (s.1 < s.2)
theorem spF_snoc (l : List (Hk × (Nat × Nat))) (x : Hk × (Nat × Nat)) : spF (l ++ [x]) = spF l ++ (if x.2.1 < x.2.2 then [x.2] else []) := by
  unfold spF
  rw [List.map_append, List.filter_append]
  congr 1
  by_cases h : x.2.1 < x.2.2 <;> simp [h]
theorem spF_pre {p l : List (Hk × (Nat × Nat))} (h : p <+: l) : spF p <+: spF l := by
  obtain ⟨t, rfl⟩ := h
  unfold spF
  rw [List.map_append, List.filter_append]
  exact ⟨_, rfl⟩
def spansL (N : Nat → Nd) (a b : Nat) : List (Nat × Nat) := spF ((hunksL N a b).map (withS N b))
def encS (s : Nat × Nat) : Array Value := #[.agg #[.int .i64 (s.1 : Int), .int .i64 (s.2 : Int)]]
/-- The box that holds partings' iterator. -/
def RBox (w : World) (rb ab bb pb : Nat) : Prop := w.heap[rb]? = some (.cells #[.func (.func 60) #[] #[.pointer (some ⟨bb, 0, none⟩), .pointer (some ⟨pb, 0, none⟩), .pointer (some ⟨ab, 0, none⟩)]] 92 (0, 0))
def rX (B ab bb pb mb rb k : Nat) : Prop := pX B ab bb pb mb k ∨ k = rb
/-- While the hunks are gone through. -/
def RgI (X : Nat → Prop) (l : Nat) (J : (Nat → Prop) → List (Nat × Nat) → World → Prop) (W0 : World) (yb H : Nat) (T : Nat → Prop) (pre : List (Hk × (Nat × Nat))) (W : World) : Prop :=
  (∀ k, T k → H ≤ k) ∧ H ≤ W.heap.size ∧ KX X W0 W ∧ W.heap[yb]? = some (.cells #[.func (.yield l) #[] #[]] 94 (0, 0)) ∧ J (fun k => T k ∨ k = yb) (spF pre) W
theorem RgI.stable {X : Nat → Prop} {l : Nat} {J : (Nat → Prop) → List (Nat × Nat) → World → Prop} {W0 : World} {yb H : Nat} (hJ : StableW J) (h1 : yb < H) (hX : ∀ k, X k → k < H) : StableW (RgI X l J W0 yb H) := by
  rintro T T' s A A' ⟨g1, g2, g3, g4, g9⟩ hs
  have hn : ∀ k, k < H → ¬ T k := fun k hk h => by have := g1 k h; omega
  have hst : ∀ k, k < H → A'.heap[k]? = A.heap[k]? := fun k hk => hs.2.2.2.2.1 k (by omega) (hn k hk)
  refine ⟨fun k hk => ?_, Nat.le_trans g2 hs.2.2.2.1, ⟨Nat.le_trans g3.1 hs.2.2.2.1, fun k hk => (hst k (hX k hk)).trans (g3.2 k hk)⟩, (hst yb h1).trans g4, hJ _ _ _ _ _ g9 ⟨hs.1, hs.2.1, hs.2.2.1, hs.2.2.2.1, fun k hk hr => hs.2.2.2.2.1 k hk (fun e => hr (Or.inl e)), fun d hd => ?_⟩⟩
  · rcases hs.2.2.2.2.2 k hk with h | h
    · exact g1 k h
    · omega
  · rcases hd with hd | hd
    · rcases hs.2.2.2.2.2 d hd with h | h
      · exact Or.inl (Or.inl h)
      · exact Or.inr h
    · exact Or.inl (Or.inr hd)
def RgX (Jx : (Nat → Prop) → List (Nat × Nat) → World → Prop) (xs : List (Nat × Nat)) (yb H : Nat) (c : Code) (T : Nat → Prop) (_ : List (Hk × (Nat × Nat))) (W : World) : Prop :=
  c = .ret ∧ (∀ k, T k → H ≤ k) ∧ H ≤ W.heap.size ∧ ∃ p, p <+: xs ∧ Jx (fun k => T k ∨ k = yb) p W
theorem RgX.stable {Jx : (Nat → Prop) → List (Nat × Nat) → World → Prop} {xs : List (Nat × Nat)} {yb H : Nat} (hJ : StableW Jx) (c : Code) : StableW (RgX Jx xs yb H c) := by
  rintro T T' s A A' ⟨g0, g1, g2, p, hp, g3⟩ hs
  refine ⟨g0, fun k hk => ?_, Nat.le_trans g2 hs.2.2.2.1, p, hp, hJ _ _ _ _ _ g3 ⟨hs.1, hs.2.1, hs.2.2.1, hs.2.2.2.1, fun k hk hr => hs.2.2.2.2.1 k hk (fun e => hr (Or.inl e)), fun d hd => ?_⟩⟩
  · rcases hs.2.2.2.2.2 k hk with h | h
    · exact g1 k h
    · omega
  · rcases hd with hd | hd
    · rcases hs.2.2.2.2.2 d hd with h | h
      · exact Or.inl (Or.inl h)
      · exact Or.inr h
    · exact Or.inl (Or.inr hd)
set_option linter.unusedSimpArgs false in
set_option maxRecDepth 100000 in
set_option maxHeartbeats 8000000 in
theorem ranges_seq (n : Nat) (hn : 4 ≤ n) (R : Nat → Prop) (N : Nat → Nd) (B a b ab bb pb mb no rb : Nat) (w : World) (hF : Forest R N B w) (hL : LeafSum N R) (hN : NumOk R N) (ha : R a) (hb : R b) (hB : B ≤ w.heap.size) (hP : PBox w a b ab bb pb mb no (pairF (numL N (lvs N a)) (numL N (lvs N b)))) (hR : RBox w rb ab bb pb) :
    SeqX Fence.wide n Try.prog 34 #[.pointer (some ⟨rb, 0, none⟩)] encS (KX (rX B ab bb pb mb rb)) (spansL N a b) w := by
  intro l J Jx W hK hsz hJ hJx hY h0
  have hPW := hP.kx (hK.less (fun k hk => Or.inl hk))
  have hRW : RBox W rb ab bb pb := (hK.2 rb (Or.inr rfl)).trans hR
  have hFW : Forest R N B W := hF.kb ⟨hsz, fun k hk => hK.2 k (Or.inl (Or.inl hk))⟩
  have HF := hide1 hFW
  have HPW := hide1 hPW
  have HJ := hide1 hJ
  have HJX := hide1 hJx
  have HY := hide1 hY
  have H0 := hide1 h0
  have HA := hide1 ha
  have HB := hide1 hb
  have HN := hide1 hN
  have HL := hide1 hL
  have hBW : B ≤ W.heap.size := Nat.le_trans hB hsz
  have hlt := hPW.lt
  have hrl := (Array.getElem?_eq_some_iff.1 hRW).1
  obtain ⟨cb, _⟩ := one_cell hRW
  clear hF hP hK hsz hJ hJx hY h0 hPW hFW ha hb hN hL hB hR
  refine callsIn_of_wp_marks Try.func34 rfl trivial ?_ rfl
  simp only [Try.ntmps34, List.size_toArray, List.length_cons, List.length_nil, Nat.reduceAdd, Nat.reduceSub, Array.replicate_succ, Array.replicate_zero, List.push_toArray, List.append_toArray, List.nil_append, List.cons_append]
  refine (wpIn_wide (n := n)).2 ?_
  have cb2 : (W.alloc (.cells #[.func (.yield l) #[] #[]] 94)).cell? ⟨rb, 0, none⟩ = some (.func (.func 60) #[] #[.pointer (some ⟨bb, 0, none⟩), .pointer (some ⟨pb, 0, none⟩), .pointer (some ⟨ab, 0, none⟩)]) := (cell_alloc_old W _ hrl).trans cb
  go_wp2_with fail
  obtain ⟨yb, hyb⟩ : ∃ yb, W.heap.size = yb := ⟨_, rfl⟩
  obtain ⟨w4, hw4⟩ : ∃ w4, W.alloc (.cells #[.func (.yield l) #[] #[]] 94) = w4 := ⟨_, rfl⟩
  have hkW : Kept W w4 := by rw [← hw4]; exact (Kept.refl W).alloc _ _
  have hs4 : w4.heap.size = yb + 1 := by rw [← hw4, World.size_alloc, hyb]
  have hy4 : w4.heap[yb]? = some (.cells #[.func (.yield l) #[] #[]] 94 (0, 0)) := by rw [← hw4, ← hyb]; exact World.alloc_heap_new W _
  rw [hyb, hw4]
  have hXlt : ∀ k, rX B ab bb pb mb rb k → k < W.heap.size := fun k hk => by rcases hk with (h | rfl | rfl | rfl | rfl) | rfl <;> omega
  have hF4 : Forest R N B w4 := HF.out.kb (hkW.kb hBW)
  have hP4 := HPW.out.kx (w' := w4) ⟨hkW.size, fun k hk => hkW.2.2.2.2 k (hXlt k (Or.inl hk))⟩
  have hseq := parts_seq (n - 1) (by omega) R N B a b ab bb pb mb no w4 hF4 HL.out HN.out HA.out HB.out (Nat.le_trans hBW hkW.size) hP4
  have hI0 : RgI (rX B ab bb pb mb rb) l J W yb (yb + 1) (fun _ => False) [] w4 := by
    refine ⟨fun _ h => h.elim, by omega, ⟨hkW.size, fun k hk => hkW.2.2.2.2 k (hXlt k hk)⟩, hy4, ?_⟩
    refine HJ.out _ _ _ _ _ H0.out ⟨hkW.1, hkW.2.1, hkW.2.2.1, hkW.size, fun k hk _ => hkW.2.2.2.2 k hk, fun d hd => Or.inr ?_⟩
    rcases hd with hd | hd
    · exact hd.elim
    · omega
  have HI0 := hide1 hI0
  have HSEQ := hide1 hseq
  have HE : Hid (W.heap.size = yb ∧ w4.heap.size = yb + 1 ∧ B ≤ yb ∧ ab < yb ∧ bb < yb ∧ pb < yb ∧ mb < yb ∧ rb < yb) := ⟨hyb, hs4, by omega, by omega, by omega, by omega, by omega, by omega⟩
  clear hF4 hP4 hI0 hseq hy4 hkW hs4 hw4 hyb cb cb2 hlt hBW hXlt hrl hRW
  refine (wpIn_wide (n := n)).1 ?_
  refine range_A rfl (by omega) (gf := 60) (lb := #[.pointer (some ⟨bb, 0, none⟩), .pointer (some ⟨pb, 0, none⟩), .pointer (some ⟨ab, 0, none⟩)]) rfl trivial (enters_of Try.func60 (by kernel_rfl) rfl) HSEQ.out ?kp KX.trans (fun _ => rfl)
    (RgI (rX B ab bb pb mb rb) l J W yb (yb + 1)) (RgX Jx (spansL N a b) yb (yb + 1)) (RgI.stable HJ.out (by omega) (fun k hk => by have := HE.out; rcases hk with (h | rfl | rfl | rfl | rfl) | rfl <;> omega)) (RgX.stable HJX.out) HI0.out
    (fun x W => W.alloc (.cells #[.int .i64 (x.2.1 : Int), .int .i64 (x.2.2 : Int)] 45)) (fun x W => (Kept.refl W).alloc _ _)
    (fun x W9 => { tmps := #[.func (.yield l) #[] #[], .pointer (some ⟨rb, 0, none⟩), .pointer (some ⟨yb, 0, none⟩), undef, .pointer (some ⟨W9.heap.size, 0, none⟩), .func (.func 60) #[] #[.pointer (some ⟨bb, 0, none⟩), .pointer (some ⟨pb, 0, none⟩), .pointer (some ⟨ab, 0, none⟩)], .agg #[.int .i64 (x.1.fr : Int), .int .i64 (x.1.to_ : Int), .int .i64 (x.1.into : Int), .int .i64 (x.1.upto : Int)], .agg #[.int .i64 (x.2.1 : Int), .int .i64 (x.2.2 : Int)], undef, undef, undef, undef, undef, undef, undef, undef, undef, undef, undef], defers := [] })
    ?assign ?body ?done ?stop
  case kp => exact fun A A' h1 h2 h3 => ⟨h2, fun k hk => h3 k (by have := HE.out; rcases hk with h | rfl | rfl | rfl | rfl <;> omega)⟩
  case assign =>
    intro l x W K hK
    have HK := hide1 hK
    clear hK
    dsimp only [encH]
    gi_wp2
    exact HK.out
  case body =>
    rintro T pre x W0 V hw0 hTl hbx hVs ⟨g1, g2, g3, g4, g9⟩ hpre hTb hT0 hT1 hsz hloop
    have hE := HE.out
    have hpre' : (pre ++ [x]) <+: (hunksL N a b).map (withS N b) := hpre
    obtain ⟨sf, hsf⟩ : ∃ z : Nat, x.2.1 = z := ⟨_, rfl⟩
    obtain ⟨st, hst⟩ : ∃ z : Nat, x.2.2 = z := ⟨_, rfl⟩
    rw [hsf, hst] at hbx hVs ⊢
    have hb0 : V.heap[W0.heap.size]? = some (.cells #[.int .i64 (sf : Int), .int .i64 (st : Int)] 45 (0, 0)) := (hbx _ (Nat.le_refl _)).trans (World.alloc_heap_new W0 _)
    obtain ⟨sb, hsb⟩ : ∃ sb, W0.heap.size = sb := ⟨_, rfl⟩
    rw [hsb] at hb0 ⊢
    have c0 : V.cell? ⟨sb, 0, none⟩ = some (.int .i64 (sf : Int)) := by simp [World.cell?, hb0]
    have c1 : V.cell? ⟨sb, 1, none⟩ = some (.int .i64 (st : Int)) := by simp [World.cell?, hb0]
    obtain ⟨y0, _⟩ := one_cell g4
    have hsn := spF_snoc pre x
    rw [hsf, hst] at hsn
    have HG1 := hide1 g1
    have HG2 := hide1 g2
    have HG3 := hide1 g3
    have HG4 := hide1 g4
    have HG9 := hide1 g9
    have HT : Hid (∀ k, T k → k < V.heap.size) := fun k hk => (hTb k hk).2
    have HPRE := hide1 hpre'
    have HX2 : Hid (x.2 = (sf, st)) := (by rw [← hsf, ← hst] : x.2 = (sf, st))
    clear g1 g2 g3 g4 g9 hpre hTb hT0 hT1 hsz hloop hE hbx hVs hw0 hTl hb0 hpre' hsf hst hsb
    by_cases hlt : sf < st
    · rw [if_pos hlt] at hsn
      have HSN := hide1 hsn
      have hltI : (sf : Int) < (st : Int) := by omega
      clear hsn
      obtain ⟨fn, tm, asg, bod, hy, hR⟩ := HY.out (fun k => T k ∨ k = yb) (spF pre) x.2 V HG9.out (by rw [← HSN.out]; exact spF_pre HPRE.out)
        (fun k hk => by have hE := HE.out; have h2 := HG2.out; rcases hk with hk | hk
                        · have := HG1.out k hk; have := HT.out k hk; omega
                        · omega)
      have HR := hide1 hR
      rw [HX2.out] at hy
      dsimp only [encS] at hy
      clear hR
      gi_wp2_with fail
      refine (roundX HR.out).mono ?_
      rintro e W3 (⟨rfl, hJ3, hK3, hs3, hT3⟩ | ⟨rfl, hx3, hs3, hT3⟩)
      · have HT3 := hide1 hT3
        have HJ3 := hide1 hJ3
        have HK3 := hide1 hK3
        have HS3 := hide1 hs3
        clear hy hT3 hJ3 hK3 hs3 c0 c1 y0
        gi_wp2_with fail
        have hs3 := HS3.out
        refine ⟨hs3, fun k hk => HT3.out k (Or.inl hk), ⟨hs3, fun k hk => HK3.out.2 k (Or.inl hk)⟩, HG1.out, Nat.le_trans HG2.out hs3, HG3.out.trans HK3.out, (HT3.out yb (Or.inr rfl)).trans HG4.out, ?_⟩
        rw [HSN.out]
        exact HJ3.out
      · have HT3 := hide1 hT3
        have HX3 := hide1 hx3
        have HS3 := hide1 hs3
        clear hy hT3 hx3 hs3 c0 c1 y0
        gi_wp2_with fail
        have hs3 := HS3.out
        refine ⟨hs3, fun k hk => HT3.out k (Or.inl hk), rfl, HG1.out, Nat.le_trans HG2.out hs3, _, ?_, HX3.out⟩
        rw [← HSN.out]
        exact spF_pre HPRE.out
    · rw [if_neg hlt, List.append_nil] at hsn
      have HSN := hide1 hsn
      have hltI : ¬ (sf : Int) < (st : Int) := by omega
      clear hsn
      gi_wp2_with fail
      refine ⟨Nat.le_refl _, fun k hk => rfl, ⟨Nat.le_refl _, fun k hk => rfl⟩, HG1.out, HG2.out, HG3.out, HG4.out, ?_⟩
      rw [HSN.out]
      exact HG9.out
  case done =>
    rintro T V ⟨g1, g2, g3, g4, g9⟩ hdef hTb hT0 hT1
    have HG9 := hide1 g9
    have HDEF := hide1 hdef
    have HTB := hide1 hTb
    have HT0 := hide1 hT0
    have HG2 := hide1 g2
    clear g1 g2 g3 g4 g9 hdef hTb hT0 hT1
    go_wp2_with fail
    refine ⟨by simp, .inl ⟨_, _, rfl, run_takeDeferred HDEF.out, ?_⟩⟩
    refine ⟨_, results_none rfl _ _ _, ⟨_, rfl⟩, Or.inl ⟨fun k => T k ∨ k = yb, HJ.out _ _ _ _ _ HG9.out (StepW.put _ (Or.inl HT0.out)), fun k hk => ?_⟩⟩
    have hE := HE.out
    have h2 := HG2.out
    rcases hk with hk | hk
    · have := HTB.out k hk
      simp
      omega
    · simp
      omega
  case stop =>
    rintro T c pre V hpre ⟨rfl, g1, g2, p, hp, hx⟩ hdef hTb hT0 hT1
    have HX := hide1 hx
    have HDEF := hide1 hdef
    gi_wp2_with fail
    refine ⟨by simp, .inl ⟨_, _, rfl, run_takeDeferred HDEF.out, ?_⟩⟩
    refine ⟨_, results_none rfl _ _ _, ⟨_, rfl⟩, Or.inr ⟨fun k => T k ∨ k = yb, p, hp, HJX.out _ _ _ _ _ HX.out (StepW.put _ (Or.inl hT0)), fun k hk => ?_⟩⟩
    have hE := HE.out
    rcases hk with hk | hk
    · have := hTb k hk
      simp
      omega
    · simp
      omega

end Tr
end Ex
end Go.Proofs.Ytkkilkojmdeopaa
namespace Go.Proofs.Ytkkilkojmdeopaa
open Go.RowKit
set_option linter.unusedVariables false
namespace Ex
namespace Tr

/-- What lies between hunks is the same; the hunks lie apart, in order, none is of nothing. pf, pi: the end of the hunk ahead; fst: there is none. -/
def GapOk (l m : List Int) : List Hk → Nat → Nat → Bool → Prop
  | [], pf, pi, _ => pf ≤ l.length ∧ pi ≤ m.length ∧ l.length - pf = m.length - pi ∧ ∀ j, j < l.length - pf → l[pf + j]? = m[pi + j]?
  | h :: t, pf, pi, fst => (pf ≤ h.fr ∧ pi ≤ h.into ∧ h.fr - pf = h.into - pi ∧ ∀ j, j < h.fr - pf → l[pf + j]? = m[pi + j]?) ∧ (h.fr ≤ h.to_ ∧ h.into ≤ h.upto ∧ (h.fr < h.to_ ∨ h.into < h.upto) ∧ h.to_ ≤ l.length ∧ h.upto ≤ m.length ∧ (fst = false → pf < h.fr)) ∧ GapOk l m t h.to_ h.upto false
theorem gap_of (l m : List Int) : ∀ (Q : List (Nat × Nat)) (f i pf pi : Nat) (fst : Bool), (∀ q ∈ Q, f ≤ q.1 ∧ i ≤ q.2 ∧ q.1 < l.length ∧ q.2 < m.length ∧ l[q.1]? = m[q.2]?) → Q.Pairwise (fun a b => a.1 < b.1 ∧ a.2 < b.2) → f ≤ l.length → i ≤ m.length → pf ≤ f → pi ≤ i → f - pf = i - pi → (∀ j, j < f - pf → l[pf + j]? = m[pi + j]?) → (fst = false → pf < f) → GapOk l m (hks l.length m.length Q f i) pf pi fst
  | [], f, i, pf, pi, fst, hQ, hP, hf, hi, h1, h2, h3, h4, h5 => by
    unfold hks
    split
    · exact ⟨⟨h1, h2, h3, h4⟩, ⟨hf, hi, by assumption, Nat.le_refl _, Nat.le_refl _, h5⟩, Nat.le_refl _, Nat.le_refl _, by dsimp only; omega, fun j hj => by dsimp only at hj; omega⟩
    · rename_i hn
      have e1 : f = l.length := by omega
      have e2 : i = m.length := by omega
      subst e1 e2
      exact ⟨h1, h2, h3, h4⟩
  | (a, p) :: r, f, i, pf, pi, fst, hQ, hP, hf, hi, h1, h2, h3, h4, h5 => by
    obtain ⟨q1, q2, q3, q4, q5⟩ := hQ (a, p) List.mem_cons_self
    dsimp only at q1 q2 q3 q4 q5
    have hP' := List.pairwise_cons.1 hP
    have hQ' : ∀ q ∈ r, a + 1 ≤ q.1 ∧ p + 1 ≤ q.2 ∧ q.1 < l.length ∧ q.2 < m.length ∧ l[q.1]? = m[q.2]? := fun q hq => by
      obtain ⟨_, _, c3, c4, c5⟩ := hQ q (List.mem_cons_of_mem _ hq)
      have := hP'.1 q hq
      exact ⟨this.1, this.2, c3, c4, c5⟩
    unfold hks
    split
    · rename_i hc
      refine ⟨⟨h1, h2, h3, h4⟩, ⟨q1, q2, hc, by dsimp only; omega, by dsimp only; omega, h5⟩, ?_⟩
      refine gap_of l m r (a + 1) (p + 1) a p false hQ' hP'.2 (by omega) (by omega) (by omega) (by omega) (by omega) (fun j hj => ?_) (fun _ => by omega)
      have : j = 0 := by omega
      subst this
      exact q5
    · rename_i hc
      have e1 : f = a := by omega
      have e2 : i = p := by omega
      subst e1 e2
      rw [List.nil_append]
      refine gap_of l m r (f + 1) (i + 1) pf pi fst hQ' hP'.2 (by omega) (by omega) (by omega) (by omega) (by omega) (fun j hj => ?_) (fun h => by have := h5 h; omega)
      by_cases hj2 : j < f - pf
      · exact h4 j hj2
      · have e3 : pf + j = f := by omega
        have e4 : pi + j = i := by omega
        rw [e3, e4]
        exact q5
theorem gap_all (l m : List Int) : GapOk l m (hks l.length m.length (pairsL l m) 0 0) 0 0 true := by
  have h := pairs_ok l m
  refine gap_of l m _ 0 0 0 0 true (fun q hq => ?_) h.2 (Nat.zero_le _) (Nat.zero_le _) (Nat.le_refl _) (Nat.le_refl _) rfl (fun j hj => by omega) (fun h => by cases h)
  obtain ⟨_, _, y, y1, y2⟩ := h.1 q hq
  have a1 := (onceN_at y1).1
  have a2 := (onceN_at y2).1
  exact ⟨Nat.zero_le _, Nat.zero_le _, (List.getElem?_eq_some_iff.1 a1).1, (List.getElem?_eq_some_iff.1 a2).1, a1.trans a2.symm⟩
/-- Where each leaf begins, and at last the width. -/
def begL (N : Nat → Nd) (b : Nat) : List Int := (List.range ((lvs N b).length + 1)).map fun j => (beg N b j : Int)
theorem begL_len (N : Nat → Nd) (b : Nat) : (begL N b).length = (lvs N b).length + 1 := by simp [begL]
theorem begL_at (N : Nat → Nd) (b : Nat) {j : Nat} (h : j ≤ (lvs N b).length) : (begL N b)[j]? = some (beg N b j : Int) := by
  unfold begL
  rw [List.getElem?_map, List.getElem?_range (by omega)]
  rfl
theorem range_firsts {N : Nat → Nd} : ∀ (n : Nat) (l : List (Nat × Nat)), l.length = n → ∀ (a z : Nat), LvOk N l a z → l.map (fun q => (q.1 : Int)) = (List.range l.length).map fun j => ((a + wsum N (l.take j) : Nat) : Int) := by
  intro n l hl a z h
  refine List.ext_getElem? (fun j => ?_)
  by_cases hj : j < l.length
  · rw [List.getElem?_map, List.getElem?_map, List.getElem?_range hj, List.getElem?_eq_getElem hj]
    simp only [Option.map_some]
    congr 2
    have e : l = l.take j ++ [l[j]] ++ l.drop (j + 1) := by
      rw [List.append_assoc, List.singleton_append, ← List.drop_eq_getElem_cons hj, List.take_append_drop]
    rw [e] at h
    exact LvOk.at _ _ _ _ _ h
  · rw [List.getElem?_eq_none (by rw [List.length_map]; omega), List.getElem?_eq_none (by rw [List.length_map, List.length_range]; omega)]
/-- The places that are told of the leaves, and the width. -/
theorem firsts_beg {R : Nat → Prop} {N : Nat → Nd} {B : Nat} {w : World} (hF : Forest R N B w) (hL : LeafSum N R) {b : Nat} (hb : R b) : (lvs N b).map (fun q => (q.1 : Int)) ++ [((N b).width : Int)] = begL N b := by
  have h := (leaves_ok hF hL (N b).size [b] 0 (fun p hp => by rw [List.mem_singleton.1 hp]; exact hb) (by simp [sizeS])).2
  have hw : widthS N [b] = (N b).width := by simp [widthS]
  rw [hw] at h
  have h1 := range_firsts _ _ rfl _ _ h
  have h2 := LvOk.end _ _ _ h
  unfold begL
  rw [List.range_succ, List.map_append]
  congr 1
  · refine h1.trans ?_
    refine List.map_congr_left (fun j _ => ?_)
    rw [Nat.zero_add]
    rfl
  · simp only [List.map_cons, List.map_nil]
    congr 2
    unfold beg
    rw [List.take_length]
    unfold lvs
    omega
/-- How many spans are told of the first hunks. -/
def toldN (N : Nat → Nd) (b : Nat) (pre : List Hk) : Nat := (spF (pre.map (withS N b))).length
theorem told_nil (N : Nat → Nd) (b : Nat) : toldN N b [] = 0 := rfl
theorem told_step (N : Nat → Nd) (b : Nat) (pre : List Hk) (h : Hk) : toldN N b (pre ++ [h]) = toldN N b pre + (if beg N b h.into < beg N b h.upto then 1 else 0) := by
  unfold toldN
  rw [List.map_append, List.map_singleton, spF_snoc, List.length_append]
  unfold withS
  dsimp only
  split <;> rfl
theorem told_at (N : Nat → Nd) {a b : Nat} {pre : List Hk} {h : Hk} (hp : (pre ++ [h]) <+: hunksL N a b) (hs : beg N b h.into < beg N b h.upto) : (spansL N a b)[toldN N b pre]? = some (beg N b h.into, beg N b h.upto) := by
  obtain ⟨t, ht⟩ := hp
  unfold spansL toldN
  rw [← ht, List.map_append, List.map_append, List.map_singleton]
  have h1 : spF (pre.map (withS N b) ++ [withS N b h]) <+: spF (pre.map (withS N b) ++ [withS N b h] ++ t.map (withS N b)) := spF_pre ⟨_, rfl⟩
  rw [spF_snoc] at h1
  obtain ⟨t2, h2⟩ := h1
  rw [← h2]
  have e : (withS N b h).2.1 < (withS N b h).2.2 := hs
  rw [if_pos e, List.append_assoc, List.getElem?_append_right (Nat.le_refl _)]
  simp
  rfl

end Tr
end Ex
end Go.Proofs.Ytkkilkojmdeopaa
namespace Go.Proofs.Ytkkilkojmdeopaa
open Go.RowKit Go.Maps
attribute [local go_sem] Oper.semAt_some
namespace Ex
namespace Tr
attribute [local simp] wide_fn wide_depth
attribute [local go_sem] func_nil

/-- An append at a step of a region that draws its order, within a round. -/
theorem stepIn_lo {α : Type} {E : ElK α} {F : Fence} {nn : Nat} {ops : Array Oper} {o : Oper} {a : Act} {w : World} {K : Act → World → Prop} {Q : Exit → Act → World → Prop} {EE : Prop} (hgd : o.guard = none) (s x : Operand) (ho : o.op = .call { callee := .builtin .append, args := #[s, x], argTypes := #[E.TT, E.TT] }) (base : Nat) (v : Value) (l : List α) (m : Nat) (hm : l.length = m) (hs : a.eval s = v) (hown : LO E w base v l) (lb : Nat) (q : α) (hx : a.eval x = .slice (some ⟨lb, 0, none⟩) 1 1) (hbx : w.heap[lb]? = some (.cells (E.enc q).toArray E.T (0, 0))) (hl : (m + 1) * E.by_ ≤ 140737488355328) (hl2 : m + 1 ≤ maxLen) (hbase : base ≤ w.heap.size)
    (h : ∀ g cap w', LO E w' base (.slice (some ⟨g, 0, none⟩) (m + 1) cap) (l ++ [q]) → w.grownBy w' v.ownBlock → (v.ownBlock = some g ∨ g = w.heap.size) → g < w'.heap.size → K (a.put o.dst (.slice (some ⟨g, 0, none⟩) (m + 1) cap)) w') :
    if Region.wanted o (yielded ops a.tmps) = true then Oper.wpIn F nn Try.prog o a w K Q else EE := by
  subst hm
  have hw : Region.wanted o (yielded ops a.tmps) = true := by simp [Region.wanted, hgd]
  rw [if_pos hw]
  obtain ⟨g, cap, w', hr, h2, h3, h4, h5⟩ := lo_run hown o.type hbx hl hl2 hbase
  unfold Oper.wpIn
  refine ⟨by simp [Oper.about, ho, resolve, Target.leads, Sem.run_pure], ?_⟩
  rw [Oper.semAt_plain F _ _ (by rw [ho]; intro c hc'; cases hc')]
  simp [execOp, ho, resolve, invoke, builtin, hs, hx, hr, Result.andThen]
  exact h g cap w' h2 h3 h4 h5
/-- A list that lies in a box has one element more. -/
structure Push {α : Type} (E : ElK α) (V W : World) (lb H : Nat) (t : TypeId) (v v9 : Value) (l : List α) : Prop where
  kt : KT (fun k => k = lb ∨ v.ownBlock = some k) V W
  box : W.heap[lb]? = some (.cells #[v9] t (0, 0))
  lo : LO E W H v9 l
  own : ∀ d, v9.ownBlock = some d → v.ownBlock = some d ∨ V.heap.size ≤ d
theorem push_of {α : Type} {E : ElK α} {V V0 w9 : World} {lb H g9 n c : Nat} {t : TypeId} {v : Value} {l l' : List α} {cs : Array Value} {ty : TypeId} (hk : Kept V V0) (hbx : V.heap[lb]? = some (.cells #[v] t (0, 0))) (hO : LO E V H v l) (hlb : lb < H)
    (hg : (V0.alloc (.cells cs ty)).grownBy w9 v.ownBlock) (ho9 : LO E w9 H (.slice (some ⟨g9, 0, none⟩) n c) l') (hor : v.ownBlock = some g9 ∨ g9 = (V0.alloc (.cells cs ty)).heap.size) :
    Push E V (w9.setCell ⟨lb, 0, none⟩ (.slice (some ⟨g9, 0, none⟩) n c)) lb H t v (.slice (some ⟨g9, 0, none⟩) n c) l' := by
  have hlV := (Array.getElem?_eq_some_iff.1 hbx).1
  have hs := hk.size
  have h9 := ho9.lt' g9 rfl
  have hl9 : w9.heap[lb]? = some (.cells #[v] t (0, 0)) := (hg.block lb (by simp; omega) (fun e => by have h1 := (hO.lt' lb e.symm).1; omega)).trans ((heap_alloc_old V0 _ (by omega)).trans ((hk.2.2.2.2 lb hlV).trans hbx))
  refine ⟨(hk.kt _).trans ((((Kept.refl V0).alloc cs ty).kt _).trans (KT.trans ⟨hg.os, hg.tape, hg.output, hg.size, fun k hk hn => hg.block k hk (fun e => hn (Or.inr e.symm))⟩ (KeptBut.kt (setCell_but w9 lb 0 _) (Or.inl rfl)))), set_one hl9 _, ho9.same (fun d hd => Below.heap_setCell _ _ _ _ (by simp only [Value.ownBlock, Option.some.injEq] at hd; subst hd; show g9 ≠ lb; omega)), fun d hd => ?_⟩
  simp only [Value.ownBlock, Option.some.injEq] at hd
  subst hd
  rcases hor with h | h
  · exact Or.inl h
  · right
    rw [h]
    simp only [World.size_alloc]
    omega
/-- While the leaves are gone through: l1: the box of the numbers; l2: of the places. -/
def LvI (N : Nat → Nd) (w3 : World) (l1 l2 : Nat) (T : Nat → Prop) (pre : List (Nat × Nat)) (W : World) : Prop :=
  (∀ k, T k → w3.heap.size ≤ k) ∧ K2 l1 l2 w3 W ∧ ∃ v1 v2, W.heap[l1]? = some (.cells #[v1] 35 (0, 0)) ∧ W.heap[l2]? = some (.cells #[v2] 35 (0, 0)) ∧ LO iE W w3.heap.size v1 (numL N pre) ∧ LO iE W w3.heap.size v2 (pre.map fun q => (q.1 : Int)) ∧ (∀ d, v1.ownBlock = some d → ¬ T d ∧ v2.ownBlock ≠ some d) ∧ ∀ d, v2.ownBlock = some d → ¬ T d
theorem LvI.stable {N : Nat → Nd} {w3 : World} {l1 l2 : Nat} (h1 : l1 < w3.heap.size) (h2 : l2 < w3.heap.size) : StableW (LvI N w3 l1 l2) := by
  rintro T T' s A A' ⟨g1, g2, v1, v2, g3, g4, g5, g6, g7, g8⟩ hs
  have hn : ∀ k, k < w3.heap.size → ¬ T k := fun k hk h => by have := g1 k h; omega
  have hA := g2.2.2.2.1
  have hst : ∀ k, k < w3.heap.size → A'.heap[k]? = A.heap[k]? := fun k hk => hs.2.2.2.2.1 k (by omega) (hn k hk)
  have hT : ∀ k, k < A.heap.size → ¬ T k → ¬ T' k := fun k hk h h' => by
    rcases hs.2.2.2.2.2 k h' with h'' | h''
    · exact h h''
    · omega
  refine ⟨fun k hk => ?_, ⟨hs.1.trans g2.1, hs.2.1.trans g2.2.1, hs.2.2.1.trans g2.2.2.1, Nat.le_trans g2.2.2.2.1 hs.2.2.2.1, fun k a b c => (hst k a).trans (g2.2.2.2.2 k a b c)⟩, v1, v2, (hst l1 h1).trans g3, (hst l2 h2).trans g4, g5.same (fun d hd => hs.2.2.2.2.1 d (g5.lt' d hd).2 (g7 d hd).1), g6.same (fun d hd => hs.2.2.2.2.1 d (g6.lt' d hd).2 (g8 d hd)), fun d hd => ⟨hT d (g5.lt' d hd).2 (g7 d hd).1, (g7 d hd).2⟩, fun d hd => hT d (g6.lt' d hd).2 (g8 d hd)⟩
  rcases hs.2.2.2.2.2 k hk with h | h
  · exact g1 k h
  · omega
/-- A round's end. -/
theorem lv_fin {N : Nat → Nd} {w3 W V1 V2 : World} {l1 l2 B br : Nat} {T : Nat → Prop} {pre : List (Nat × Nat)} {x : Nat × Nat} {v1 v2 u1 u2 : Value} (h12 : l1 < l2) (h2 : l2 < w3.heap.size) (hB : B ≤ l1) (hbr : br < l1) (g1 : ∀ k, T k → w3.heap.size ≤ k) (g2 : K2 l1 l2 w3 W) (g5 : LO iE W w3.heap.size v1 (numL N pre)) (g6 : LO iE W w3.heap.size v2 (pre.map fun q => (q.1 : Int))) (g7 : ∀ d, v1.ownBlock = some d → ¬ T d ∧ v2.ownBlock ≠ some d) (g8 : ∀ d, v2.ownBlock = some d → ¬ T d) (hT : ∀ k, T k → k < W.heap.size)
    (hp1 : Push iE W V1 l1 w3.heap.size 35 v1 u1 (numL N pre ++ [((N x.2).num : Int)])) (hp2 : Push iE V1 V2 l2 w3.heap.size 35 v2 u2 ((pre.map fun q => (q.1 : Int)) ++ [(x.1 : Int)])) :
    W.heap.size ≤ V2.heap.size ∧ (∀ k, T k → V2.heap[k]? = W.heap[k]?) ∧ KX (fun k => k < B ∨ k = br) W V2 ∧ LvI N w3 l1 l2 T (pre ++ [x]) V2 := by
  have hs1 := hp1.kt.2.2.2.1
  have hs2 := hp2.kt.2.2.2.1
  have hs0 := g2.2.2.2.1
  have o1 : ∀ d, v1.ownBlock = some d → w3.heap.size ≤ d ∧ d < W.heap.size := g5.lt'
  have o2 : ∀ d, v2.ownBlock = some d → w3.heap.size ≤ d ∧ d < W.heap.size := g6.lt'
  have hall : ∀ k, k < W.heap.size → k ≠ l1 → k ≠ l2 → v1.ownBlock ≠ some k → v2.ownBlock ≠ some k → V2.heap[k]? = W.heap[k]? := fun k hk a b c d => (hp2.kt.2.2.2.2 k (by omega) (fun e => e.elim b d)).trans (hp1.kt.2.2.2.2 k hk (fun e => e.elim a c))
  have hlow : ∀ k, k < w3.heap.size → k ≠ l1 → k ≠ l2 → V2.heap[k]? = W.heap[k]? := fun k hk a b => hall k (by omega) a b (fun e => by have := o1 k e; omega) (fun e => by have := o2 k e; omega)
  refine ⟨by omega, fun k hk => hall k (hT k hk) (by have := g1 k hk; omega) (by have := g1 k hk; omega) (fun e => (g7 k e).1 hk) (fun e => g8 k e hk), ⟨by omega, fun k hk => hlow k (by omega) (by omega) (by omega)⟩, g1, ⟨(hp2.kt.1.trans hp1.kt.1).trans g2.1, (hp2.kt.2.1.trans hp1.kt.2.1).trans g2.2.1, (hp2.kt.2.2.1.trans hp1.kt.2.2.1).trans g2.2.2.1, by omega, fun k a b c => (hlow k a b c).trans (g2.2.2.2.2 k a b c)⟩, u1, u2, ?_, hp2.box, ?_, ?_, fun d hd => ⟨fun ht => ?_, fun e => ?_⟩, fun d hd ht => ?_⟩
  · exact (hp2.kt.2.2.2.2 l1 (by omega) (fun e => e.elim (fun e => by omega) (fun e => by have := o2 l1 e; omega))).trans hp1.box
  · rw [numL_snoc]
    refine hp1.lo.same (fun d hd => hp2.kt.2.2.2.2 d (hp1.lo.lt' d hd).2 (fun e => ?_))
    have hd0 := hp1.lo.lt' d hd
    rcases e with e | e
    · omega
    · rcases hp1.own d hd with h | h
      · exact (g7 d h).2 e
      · have := o2 d e; omega
  · rw [List.map_append]
    exact hp2.lo
  · have := hT d ht
    rcases hp1.own d hd with h | h
    · exact (g7 d h).1 ht
    · omega
  · have hd0 := hp1.lo.lt' d hd
    rcases hp2.own d e with h | h
    · rcases hp1.own d hd with h9 | h9
      · exact (g7 d h9).2 h
      · have := o2 d h; omega
    · omega
  · have := hT d ht
    rcases hp2.own d hd with h | h
    · exact g8 d h ht
    · omega
/-- Three results that lie in cells. -/
theorem results_cells3 {fn : Func} {p q r : Tmp} (h : fn.results = #[.cell p 35, .cell q 35, .cell r 4]) (tmps : Array Value) (w : World) (g1 g2 g3 : Nat) (v1 v2 v3 : Value) (hp : tmps.getD p undef = .pointer (some ⟨g1, 0, none⟩)) (hq : tmps.getD q undef = .pointer (some ⟨g2, 0, none⟩)) (hr : tmps.getD r undef = .pointer (some ⟨g3, 0, none⟩)) (h1 : w.cell? ⟨g1, 0, none⟩ = some v1) (h2 : w.cell? ⟨g2, 0, none⟩ = some v2) (h3 : w.cell? ⟨g3, 0, none⟩ = some v3) : (results fn tmps).run Try.prog w = .ok (.tuple #[v1, v2, v3]) w := by
  have hp' : tmps[p]?.getD undef = .pointer (some ⟨g1, 0, none⟩) := by simpa using hp
  have hq' : tmps[q]?.getD undef = .pointer (some ⟨g2, 0, none⟩) := by simpa using hq
  have hr' : tmps[r]?.getD undef = .pointer (some ⟨g3, 0, none⟩) := by simpa using hr
  have l1 : (loadVar 35 ⟨g1, 0, none⟩).run Try.prog w = .ok v1 w := by
    simp [loadVar, isAgg, run_underlying Try.underlying35, go_sem, h1]
  have l2 : (loadVar 35 ⟨g2, 0, none⟩).run Try.prog w = .ok v2 w := by
    simp [loadVar, isAgg, run_underlying Try.underlying35, go_sem, h2]
  have l3 : (loadVar 4 ⟨g3, 0, none⟩).run Try.prog w = .ok v3 w := by
    simp [loadVar, isAgg, run_underlying Try.underlying4, go_sem, h3]
  simp [results, h, hp', hq', hr', asAddr, l1, l2, l3]

set_option linter.unusedSimpArgs false in
set_option maxRecDepth 100000 in
set_option maxHeartbeats 4000000 in
theorem leavesG_is (R : Nat → Prop) (N : Nat → Nd) (B b : Nat) (w : World) (hF : Forest R N B w) (hL : LeafSum N R) (hb : R b) (hB : B ≤ w.heap.size) :
    Calls Try.prog 8 #[.pointer (some ⟨b, 0, none⟩)] w fun e w' => ∃ v1 v2, e = .returned (.tuple #[v1, v2, .bool true]) ∧ LO iE w' w.heap.size v1 (numL N (lvs N b)) ∧ LO iE w' w.heap.size v2 (begL N b) ∧ Kept w w' := by
  have HF := hide1 hF
  have HB := hide1 hb
  have HBG := hide1 (firsts_beg hF hL hb)
  have hlen := lvs_len hF hb
  obtain ⟨xs, hxs⟩ : ∃ xs, lvs N b = xs := ⟨_, rfl⟩
  rw [hxs] at hlen
  have HXS := hide1 hxs
  clear hF hb hL hxs
  refine (callsIn_wide (n := 3)).1 ?_
  refine callsIn_of_wp_marks Try.func8 rfl trivial ?_ rfl
  simp only [Try.ntmps8, List.size_toArray, List.length_cons, List.length_nil, Nat.reduceAdd, Nat.reduceSub, Array.replicate_succ, Array.replicate_zero, List.push_toArray, List.append_toArray, List.nil_append, List.cons_append]
  refine (wpIn_wide (n := 3)).2 ?_
  go_wp2_with (go_at_call 31; refine (leaves_is _ _).mono ?_; rintro e w3 ⟨rfl, hw3⟩; have HW3 := hide1 hw3; clear hw3)
  obtain ⟨r2, hr2⟩ : ∃ r, w.heap.size = r := ⟨_, rfl⟩
  obtain ⟨wc, hwc⟩ : ∃ wc, ((w.alloc (.cells #[.slice none 0 0] 35)).alloc (.cells #[.slice none 0 0] 35)).alloc (.cells #[.bool false] 4) = wc := ⟨_, rfl⟩
  have hkc : Kept w wc := by rw [← hwc]; exact ((((Kept.refl w).alloc _ _).alloc _ _).alloc _ _)
  have hsc : wc.heap.size = r2 + 3 := by rw [← hwc]; simp [hr2]
  have hc2 : wc.heap[r2]? = some (.cells #[.slice none 0 0] 35 (0, 0)) := by
    rw [← hwc, heap_alloc_old _ _ (by simp; omega), heap_alloc_old _ _ (by simp; omega), ← hr2]
    exact World.alloc_heap_new w _
  have hc3 : wc.heap[r2 + 1]? = some (.cells #[.slice none 0 0] 35 (0, 0)) := by
    rw [← hwc, heap_alloc_old _ _ (by simp; omega)]
    have h9 := World.alloc_heap_new (w.alloc (.cells #[.slice none 0 0] 35)) (.cells #[.slice none 0 0] 35)
    rw [World.size_alloc, hr2] at h9
    exact h9
  have hc4 : wc.heap[r2 + 2]? = some (.cells #[.bool false] 4 (0, 0)) := by
    rw [← hwc]
    have h9 := World.alloc_heap_new ((w.alloc (.cells #[.slice none 0 0] 35)).alloc (.cells #[.slice none 0 0] 35)) (.cells #[.bool false] 4)
    rw [World.size_alloc, World.size_alloc, hr2] at h9
    exact h9
  have hw3 := HW3.out
  rw [hwc] at hw3
  have hs3 : w3.heap.size = r2 + 4 := by rw [hw3, World.size_alloc, hsc]
  have hk3 : Kept wc w3 := by rw [hw3]; exact (Kept.refl wc).alloc _ _
  have hb3 : w3.heap[r2 + 3]? = some (.cells #[.pointer (some ⟨b, 0, none⟩)] 32 (0, 0)) := by rw [hw3, ← hsc]; exact World.alloc_heap_new wc _
  obtain ⟨wb, hwb⟩ : ∃ wb, (w3.alloc (.cells #[.slice none 0 0] 35)).alloc (.cells #[.slice none 0 0] 35) = wb := ⟨_, rfl⟩
  have hkb : Kept w3 wb := by rw [← hwb]; exact ((Kept.refl w3).alloc _ _).alloc _ _
  have hsb : wb.heap.size = r2 + 6 := by rw [← hwb]; simp [hs3]
  have hl1 : wb.heap[r2 + 4]? = some (.cells #[.slice none 0 0] 35 (0, 0)) := by
    rw [← hwb, heap_alloc_old _ _ (by simp; omega), ← hs3]
    exact World.alloc_heap_new w3 _
  have hl2 : wb.heap[r2 + 5]? = some (.cells #[.slice none 0 0] 35 (0, 0)) := by
    rw [← hwb]
    have h9 := World.alloc_heap_new (w3.alloc (.cells #[.slice none 0 0] 35)) (.cells #[.slice none 0 0] 35)
    rw [World.size_alloc, hs3] at h9
    exact h9
  have hkw : Kept w wb := gtrans hkc (gtrans hk3 hkb)
  have hbB : wb.heap[r2 + 3]? = some (.cells #[.pointer (some ⟨b, 0, none⟩)] 32 (0, 0)) := (hkb.2.2.2.2 _ (by omega)).trans hb3
  have HR : Hid (wb.heap[r2]? = some (.cells #[.slice none 0 0] 35 (0, 0)) ∧ wb.heap[r2 + 1]? = some (.cells #[.slice none 0 0] 35 (0, 0)) ∧ wb.heap[r2 + 2]? = some (.cells #[.bool false] 4 (0, 0))) := ⟨((gtrans hk3 hkb).2.2.2.2 _ (by omega)).trans hc2, ((gtrans hk3 hkb).2.2.2.2 _ (by omega)).trans hc3, ((gtrans hk3 hkb).2.2.2.2 _ (by omega)).trans hc4⟩
  have hFb : Forest R N B wb := HF.out.kb (hkw.kb hB)
  have hI0 : LvI N wb (r2 + 4) (r2 + 5) (fun _ => False) [] wb := ⟨fun _ h => h.elim, K2.refl _ _ _, .slice none 0 0, .slice none 0 0, hl1, hl2, LO.nil _ _, LO.nil _ _, fun d hd => (by cases hd), fun d hd => (by cases hd)⟩
  have hseq := leaves_seq 2 (by omega) R N B (r2 + 3) b wb hFb HB.out (by omega) (by omega) (by simp [World.cell?, hbB])
  have e9 : (wl N (N b).size [b] 0).filter (leafB N) = xs := HXS.out
  rw [e9] at hseq
  have HFb := hide1 hFb
  have HI0 := hide1 hI0
  have HSEQ := hide1 hseq
  have HKW := hide1 hkw
  have HE : Hid (w.heap.size = r2 ∧ wb.heap.size = r2 + 6 ∧ B ≤ r2) := ⟨hr2, hsb, by omega⟩
  rw [hwb, hs3, hr2]
  simp only [Nat.add_assoc, Nat.reduceAdd]
  clear hFb hI0 hseq hkw hbB hl1 hl2 hsb hkb hwb hb3 hk3 hs3 hw3 hc4 hc3 hc2 hsc hkc hwc hr2 HW3 e9 hB
  refine (wpIn_wide (n := 3)).1 ?_
  refine range_W rfl (by omega) (gf := 57) (lb := #[.pointer (some ⟨r2 + 3, 0, none⟩)]) rfl trivial (enters_of Try.func57 (by kernel_rfl) rfl) HSEQ.out ?kp KX.trans (fun _ => rfl)
    (LvI N wb (r2 + 4) (r2 + 5)) (fun _ _ _ => False) (LvI.stable (by have := HE.out; omega) (by have := HE.out; omega)) (fun _ _ _ _ _ h => h.elim) HI0.out
    (fun x => { tmps := #[Value.pointer (some ⟨b, 0, none⟩), undef, .pointer (some ⟨r2, 0, none⟩), .pointer (some ⟨r2 + 1, 0, none⟩), .pointer (some ⟨r2 + 2, 0, none⟩), .func (.func 57) #[] #[.pointer (some ⟨r2 + 3, 0, none⟩)], .pointer (some ⟨r2 + 4, 0, none⟩), .pointer (some ⟨r2 + 5, 0, none⟩), .int .i64 (x.1 : Int), .pointer (some ⟨x.2, 0, none⟩), .pointer (some ⟨b, 0, none⟩), .func (.func 57) #[] #[.pointer (some ⟨r2 + 3, 0, none⟩)], .func (.func 57) #[] #[.pointer (some ⟨r2 + 3, 0, none⟩)], .bool false, .func (.func 57) #[] #[.pointer (some ⟨r2 + 3, 0, none⟩)], .int .i64 (x.1 : Int), .pointer (some ⟨x.2, 0, none⟩), undef, undef, undef, undef, undef, undef, undef, undef, undef, undef, undef, undef, undef, undef, undef, undef, undef], defers := [] })
    ?assign ?body ?done (fun _ _ _ _ _ _ h => h.elim)
  case kp => exact fun A A' h1 h2 h3 => ⟨h2, fun k hk => h3 k (by have := HE.out; omega)⟩
  case assign =>
    intro l x W K hK
    have HK := hide1 hK
    clear hK
    dsimp only [encW]
    gi_wp2
    exact HK.out
  case body =>
    rintro T pre x W ⟨g1, g2, v1, v2, g3, g4, g5, g6, g7, g8⟩ hpre hTb hT0 hT1 hsz hloop
    have hxm : x ∈ lvs N b := by rw [HXS.out]; exact hpre.subset (by simp)
    have hRx := (lvs_mem HFb.out HB.out hxm).1
    have hplen : pre.length < 4194304 := by
      have h1 := hpre.length_le
      simp only [List.length_append, List.length_cons, List.length_nil] at h1
      omega
    obtain ⟨m, hm⟩ : ∃ m, pre.length = m := ⟨_, rfl⟩
    have hm4 : m < 4194304 := by omega
    have HLEN : Hid ((numL N pre).length = m) := (by unfold numL; rw [List.length_map]; exact hm : (numL N pre).length = m)
    have HLEN2 : Hid ((pre.map fun q => (q.1 : Int)).length = m) := (by rw [List.length_map]; exact hm : (pre.map fun q => (q.1 : Int)).length = m)
    obtain ⟨va, vc, rfl⟩ : ∃ a c, v1 = .slice a m c := by obtain ⟨a, c, h⟩ := g5.form; rw [HLEN.out] at h; exact ⟨a, c, h⟩
    obtain ⟨ua, uc, rfl⟩ : ∃ a c, v2 = .slice a m c := by obtain ⟨a, c, h⟩ := g6.form; rw [HLEN2.out] at h; exact ⟨a, c, h⟩
    have hE := HE.out
    have hWs := g2.2.2.2.1
    obtain ⟨c0, f0⟩ := one_cell g3
    obtain ⟨nm, hnm⟩ : ∃ nm : Int, ((N x.2).num : Int) = nm := ⟨_, rfl⟩
    have HNUM : Hid (Calls Try.prog 28 #[.pointer (some ⟨x.2, 0, none⟩)] W.drew fun e w' => e = .returned (.int .i64 nm) ∧ w' = W.drew) := by
      rw [← hnm]
      refine number_is ((HFb.out x.2 hRx).1.kb (B := B) ⟨?_, fun k hk => ?_⟩)
      · show wb.heap.size ≤ W.heap.size
        omega
      · exact (g2.2.2.2.2 k (by omega) (by omega) (by omega) : W.heap[k]? = wb.heap[k]?)
    have HG1 := hide1 g1
    have HG2 := hide1 g2
    have HG3 := hide1 g3
    have HG4 := hide1 g4
    have HG5 := hide1 g5
    have HG6 := hide1 g6
    have HG7 := hide1 g7
    have HG8 := hide1 g8
    have HNM := hide1 hnm
    have HTB : Hid (∀ k, T k → k < W.heap.size) := fun k hk => (hTb k hk).2
    have HSZ : Hid (wb.heap.size = r2 + 6 ∧ B ≤ r2 ∧ wb.heap.size ≤ W.heap.size) := ⟨hE.2.1, hE.2.2, hWs⟩
    clear g1 g2 g3 g4 g5 g6 g7 g8 hpre hTb hT0 hT1 hsz hloop hxm hRx hplen hm hE hWs hnm
    gi_wp2_with fail
    refine wpIn_region_any (by kernel_rfl) ?_
    change wpAnyIn _ _ _ _ _ _ _ _ _ (World.drew _)
    refine wpAnyIn_ready (rs := [0, 1]) (by kernel_rfl) (by simp) ?_
    refine AllReadyIn.cons (i := 0) rfl (fun K hK => ?_) (AllReadyIn.cons (i := 1) rfl (fun K hK => ?_) AllReadyIn.nil)
    · go_simp
      refine hK _ _ ?_
      clear hK K
      try simp only [Act.put, List.setIfInBounds_toArray, List.set_cons_zero, List.set_cons_succ]
      refine wpAnyIn_ready (rs := [1]) (by kernel_rfl) (by simp) ?_
      refine AllReadyIn.cons (i := 1) rfl (fun K hK => ?_) AllReadyIn.nil
      go_simp
      refine hK _ _ ?_
      clear hK K
      try simp only [Act.put, List.setIfInBounds_toArray, List.set_cons_zero, List.set_cons_succ]
      refine wpAnyIn_ready (rs := [2]) (by kernel_rfl) (by simp) ?_
      refine AllReadyIn.cons (i := 2) rfl (fun K hK => ?_) AllReadyIn.nil
      go_simp
      refine (CallsIn.inRound _ (callsIn_wide.2 HNUM.out)).mono ?_
      rintro e w6 ⟨rfl, hw6⟩
      have hk6 : Kept W w6 := (by rw [hw6]; exact drew_kept W)
      clear hw6
      have c6 : w6.cell? ⟨r2 + 4, 0, none⟩ = some (.slice va m vc) := grown_cell hk6 c0
      have c7 : (w6.alloc (.cells #[.int .i64 nm] 3)).cell? ⟨r2 + 4, 0, none⟩ = some (.slice va m vc) := (cell_alloc_old w6 _ (World.block_lt_of_cell? w6 _ c6)).trans c6
      refine hK _ _ ?_
      clear hK K
      try simp only [Act.put, List.setIfInBounds_toArray, List.set_cons_zero, List.set_cons_succ]
      refine wpAnyIn_ready (rs := [3]) (by kernel_rfl) (by simp) ?_
      refine AllReadyIn.cons (i := 3) rfl (fun K hK => ?_) AllReadyIn.nil
      go_simp
      refine hK _ _ ?_
      clear hK K
      try simp only [Act.put, List.setIfInBounds_toArray, List.set_cons_zero, List.set_cons_succ]
      refine wpAnyIn_ready (rs := [4]) (by kernel_rfl) (by simp) ?_
      refine AllReadyIn.cons (i := 4) rfl (fun K hK => ?_) AllReadyIn.nil
      refine stepIn_lo (E := iE) rfl _ _ rfl wb.heap.size (.slice va m vc) (numL N pre) m HLEN.out (by rfl) (HG5.out.keep (hk6.alloc _ _)) w6.heap.size nm (by rfl) (World.alloc_heap_new w6 _) (by show (m + 1) * 8 ≤ 140737488355328; omega) (by unfold maxLen; omega) (by have h1 := hk6.size; have h2 := HSZ.out; simp only [World.size_alloc]; omega) ?_
      intro g9 c9 w9 ho9 hg9 hor9 hl9
      have HP1 := hide1 (push_of hk6 HG3.out HG5.out (by have := HSZ.out; omega) hg9 ho9 hor9)
      have hr9 : w9.heap[r2 + 4]? = some (.cells #[.slice va m vc] 35 (0, 0)) := (hg9.block (r2 + 4) (by have h1 := hk6.size; have h2 := HSZ.out; simp only [World.size_alloc]; omega) (fun e => by have h1 := (HG5.out.lt' _ e.symm).1; have h2 := HSZ.out; omega)).trans ((heap_alloc_old w6 _ (by have h1 := hk6.size; have h2 := HSZ.out; omega)).trans ((hk6.2.2.2.2 (r2 + 4) (by have h2 := HSZ.out; omega)).trans HG3.out))
      obtain ⟨u0, u1⟩ := one_cell hr9
      have u2 : r2 + 4 < w9.heap.size := (Array.getElem?_eq_some_iff.1 hr9).1
      clear ho9 hg9 hor9 hr9
      refine hK _ _ ?_
      clear hK K
      try simp only [Act.put, List.setIfInBounds_toArray, List.set_cons_zero, List.set_cons_succ]
      refine wpAnyIn_ready (rs := [5]) (by kernel_rfl) (by simp) ?_
      refine AllReadyIn.cons (i := 5) rfl (fun K hK => ?_) AllReadyIn.nil
      go_simp
      refine hK _ _ ?_
      clear hK K
      try simp only [Act.put, List.setIfInBounds_toArray, List.set_cons_zero, List.set_cons_succ]
      refine wpAnyIn_done (by kernel_rfl) ?_ _
      obtain ⟨V1, hV1⟩ : ∃ V1, w9.setCell ⟨r2 + 4, 0, none⟩ (.slice (some ⟨g9, 0, none⟩) (m + 1) c9) = V1 := ⟨_, rfl⟩
      rw [hV1] at HP1 ⊢
      have hp1 := HP1.out
      have hb2 : V1.heap[r2 + 5]? = some (.cells #[.slice ua m uc] 35 (0, 0)) := (hp1.kt.2.2.2.2 (r2 + 5) (by have h2 := HSZ.out; omega) (fun e => e.elim (fun e => by omega) (fun e => by have h1 := (HG5.out.lt' _ e).1; have h2 := HSZ.out; omega))).trans HG4.out
      have ho2 : LO iE V1 wb.heap.size (.slice ua m uc) (pre.map fun q => (q.1 : Int)) := HG6.out.same (fun d hd => hp1.kt.2.2.2.2 d (HG6.out.lt' d hd).2 (fun e => e.elim (fun e => by have h1 := (HG6.out.lt' d hd).1; have h2 := HSZ.out; omega) (fun e => (HG7.out d e).2 hd)))
      obtain ⟨d0, d1⟩ := one_cell hb2
      have HB2 := hide1 hb2
      have HO2 := hide1 ho2
      have HS1 : Hid (wb.heap.size ≤ V1.heap.size) := (by have h1 := hp1.kt.2.2.2.1; have h2 := HSZ.out; omega : wb.heap.size ≤ V1.heap.size)
      clear hp1 hb2 ho2 hV1 u0 u1 u2 hl9 c6 c7 c0 f0
      gi_wp2_with (gi_at_builtin
                   refine wplIn_lo (E := iE) rfl _ _ rfl wb.heap.size (.slice ua m uc) (pre.map fun q => (q.1 : Int)) m HLEN2.out rfl (HO2.out.keep ((Kept.refl V1).alloc _ _)) V1.heap.size (x.1 : Int) rfl (World.alloc_heap_new V1 _) (by show (m + 1) * 8 ≤ 140737488355328; omega) (by unfold maxLen; omega) (Nat.le_trans HS1.out (alloc_le V1 _)) ?_
                   intro g8 c8 w8 ho8 hg8 hor8 hl8
                   have HP2 := hide1 (push_of (Kept.refl V1) HB2.out HO2.out (by have := HSZ.out; omega) hg8 ho8 hor8)
                   have hr8 : w8.heap[r2 + 5]? = some (.cells #[.slice ua m uc] 35 (0, 0)) := (hg8.block (r2 + 5) (by have h1 := HS1.out; have h2 := HSZ.out; simp only [World.size_alloc]; omega) (fun e => by have h1 := (HO2.out.lt' _ e.symm).1; have h2 := HSZ.out; omega)).trans ((heap_alloc_old V1 _ (by have h1 := HS1.out; have h2 := HSZ.out; omega)).trans HB2.out)
                   obtain ⟨e0, e1⟩ := one_cell hr8
                   clear ho8 hg8 hor8 hl8 hr8)
      have hsz := HSZ.out
      rw [← HNM.out] at HP1
      exact lv_fin (B := B) (br := r2 + 3) (by omega) (by omega) (by omega) (by omega) HG1.out HG2.out HG5.out HG6.out HG7.out HG8.out HTB.out HP1.out HP2.out
    · go_simp
      refine hK _ _ ?_
      clear hK K
      try simp only [Act.put, List.setIfInBounds_toArray, List.set_cons_zero, List.set_cons_succ]
      refine wpAnyIn_ready (rs := [0, 2]) (by kernel_rfl) (by simp) ?_
      refine AllReadyIn.cons (i := 0) rfl (fun K hK => ?_) (AllReadyIn.cons (i := 2) rfl (fun K hK => ?_) AllReadyIn.nil)
      · go_simp
        refine hK _ _ ?_
        clear hK K
        try simp only [Act.put, List.setIfInBounds_toArray, List.set_cons_zero, List.set_cons_succ]
        refine wpAnyIn_ready (rs := [2]) (by kernel_rfl) (by simp) ?_
        refine AllReadyIn.cons (i := 2) rfl (fun K hK => ?_) AllReadyIn.nil
        go_simp
        refine (CallsIn.inRound _ (callsIn_wide.2 HNUM.out)).mono ?_
        rintro e w6 ⟨rfl, hw6⟩
        have hk6 : Kept W w6 := (by rw [hw6]; exact drew_kept W)
        clear hw6
        have c6 : w6.cell? ⟨r2 + 4, 0, none⟩ = some (.slice va m vc) := grown_cell hk6 c0
        have c7 : (w6.alloc (.cells #[.int .i64 nm] 3)).cell? ⟨r2 + 4, 0, none⟩ = some (.slice va m vc) := (cell_alloc_old w6 _ (World.block_lt_of_cell? w6 _ c6)).trans c6
        refine hK _ _ ?_
        clear hK K
        try simp only [Act.put, List.setIfInBounds_toArray, List.set_cons_zero, List.set_cons_succ]
        refine wpAnyIn_ready (rs := [3]) (by kernel_rfl) (by simp) ?_
        refine AllReadyIn.cons (i := 3) rfl (fun K hK => ?_) AllReadyIn.nil
        go_simp
        refine hK _ _ ?_
        clear hK K
        try simp only [Act.put, List.setIfInBounds_toArray, List.set_cons_zero, List.set_cons_succ]
        refine wpAnyIn_ready (rs := [4]) (by kernel_rfl) (by simp) ?_
        refine AllReadyIn.cons (i := 4) rfl (fun K hK => ?_) AllReadyIn.nil
        refine stepIn_lo (E := iE) rfl _ _ rfl wb.heap.size (.slice va m vc) (numL N pre) m HLEN.out (by rfl) (HG5.out.keep (hk6.alloc _ _)) w6.heap.size nm (by rfl) (World.alloc_heap_new w6 _) (by show (m + 1) * 8 ≤ 140737488355328; omega) (by unfold maxLen; omega) (by have h1 := hk6.size; have h2 := HSZ.out; simp only [World.size_alloc]; omega) ?_
        intro g9 c9 w9 ho9 hg9 hor9 hl9
        have HP1 := hide1 (push_of hk6 HG3.out HG5.out (by have := HSZ.out; omega) hg9 ho9 hor9)
        have hr9 : w9.heap[r2 + 4]? = some (.cells #[.slice va m vc] 35 (0, 0)) := (hg9.block (r2 + 4) (by have h1 := hk6.size; have h2 := HSZ.out; simp only [World.size_alloc]; omega) (fun e => by have h1 := (HG5.out.lt' _ e.symm).1; have h2 := HSZ.out; omega)).trans ((heap_alloc_old w6 _ (by have h1 := hk6.size; have h2 := HSZ.out; omega)).trans ((hk6.2.2.2.2 (r2 + 4) (by have h2 := HSZ.out; omega)).trans HG3.out))
        obtain ⟨u0, u1⟩ := one_cell hr9
        have u2 : r2 + 4 < w9.heap.size := (Array.getElem?_eq_some_iff.1 hr9).1
        clear ho9 hg9 hor9 hr9
        refine hK _ _ ?_
        clear hK K
        try simp only [Act.put, List.setIfInBounds_toArray, List.set_cons_zero, List.set_cons_succ]
        refine wpAnyIn_ready (rs := [5]) (by kernel_rfl) (by simp) ?_
        refine AllReadyIn.cons (i := 5) rfl (fun K hK => ?_) AllReadyIn.nil
        go_simp
        refine hK _ _ ?_
        clear hK K
        try simp only [Act.put, List.setIfInBounds_toArray, List.set_cons_zero, List.set_cons_succ]
        refine wpAnyIn_done (by kernel_rfl) ?_ _
        obtain ⟨V1, hV1⟩ : ∃ V1, w9.setCell ⟨r2 + 4, 0, none⟩ (.slice (some ⟨g9, 0, none⟩) (m + 1) c9) = V1 := ⟨_, rfl⟩
        rw [hV1] at HP1 ⊢
        have hp1 := HP1.out
        have hb2 : V1.heap[r2 + 5]? = some (.cells #[.slice ua m uc] 35 (0, 0)) := (hp1.kt.2.2.2.2 (r2 + 5) (by have h2 := HSZ.out; omega) (fun e => e.elim (fun e => by omega) (fun e => by have h1 := (HG5.out.lt' _ e).1; have h2 := HSZ.out; omega))).trans HG4.out
        have ho2 : LO iE V1 wb.heap.size (.slice ua m uc) (pre.map fun q => (q.1 : Int)) := HG6.out.same (fun d hd => hp1.kt.2.2.2.2 d (HG6.out.lt' d hd).2 (fun e => e.elim (fun e => by have h1 := (HG6.out.lt' d hd).1; have h2 := HSZ.out; omega) (fun e => (HG7.out d e).2 hd)))
        obtain ⟨d0, d1⟩ := one_cell hb2
        have HB2 := hide1 hb2
        have HO2 := hide1 ho2
        have HS1 : Hid (wb.heap.size ≤ V1.heap.size) := (by have h1 := hp1.kt.2.2.2.1; have h2 := HSZ.out; omega : wb.heap.size ≤ V1.heap.size)
        clear hp1 hb2 ho2 hV1 u0 u1 u2 hl9 c6 c7 c0 f0
        gi_wp2_with (gi_at_builtin
                     refine wplIn_lo (E := iE) rfl _ _ rfl wb.heap.size (.slice ua m uc) (pre.map fun q => (q.1 : Int)) m HLEN2.out rfl (HO2.out.keep ((Kept.refl V1).alloc _ _)) V1.heap.size (x.1 : Int) rfl (World.alloc_heap_new V1 _) (by show (m + 1) * 8 ≤ 140737488355328; omega) (by unfold maxLen; omega) (Nat.le_trans HS1.out (alloc_le V1 _)) ?_
                     intro g8 c8 w8 ho8 hg8 hor8 hl8
                     have HP2 := hide1 (push_of (Kept.refl V1) HB2.out HO2.out (by have := HSZ.out; omega) hg8 ho8 hor8)
                     have hr8 : w8.heap[r2 + 5]? = some (.cells #[.slice ua m uc] 35 (0, 0)) := (hg8.block (r2 + 5) (by have h1 := HS1.out; have h2 := HSZ.out; simp only [World.size_alloc]; omega) (fun e => by have h1 := (HO2.out.lt' _ e.symm).1; have h2 := HSZ.out; omega)).trans ((heap_alloc_old V1 _ (by have h1 := HS1.out; have h2 := HSZ.out; omega)).trans HB2.out)
                     obtain ⟨e0, e1⟩ := one_cell hr8
                     clear ho8 hg8 hor8 hl8 hr8)
        have hsz := HSZ.out
        rw [← HNM.out] at HP1
        exact lv_fin (B := B) (br := r2 + 3) (by omega) (by omega) (by omega) (by omega) HG1.out HG2.out HG5.out HG6.out HG7.out HG8.out HTB.out HP1.out HP2.out
      · go_simp
        refine (CallsIn.inRound _ (callsIn_wide.2 HNUM.out)).mono ?_
        rintro e w6 ⟨rfl, hw6⟩
        have hk6 : Kept W w6 := (by rw [hw6]; exact drew_kept W)
        clear hw6
        have c6 : w6.cell? ⟨r2 + 4, 0, none⟩ = some (.slice va m vc) := grown_cell hk6 c0
        have c7 : (w6.alloc (.cells #[.int .i64 nm] 3)).cell? ⟨r2 + 4, 0, none⟩ = some (.slice va m vc) := (cell_alloc_old w6 _ (World.block_lt_of_cell? w6 _ c6)).trans c6
        refine hK _ _ ?_
        clear hK K
        try simp only [Act.put, List.setIfInBounds_toArray, List.set_cons_zero, List.set_cons_succ]
        refine wpAnyIn_ready (rs := [0, 3]) (by kernel_rfl) (by simp) ?_
        refine AllReadyIn.cons (i := 0) rfl (fun K hK => ?_) (AllReadyIn.cons (i := 3) rfl (fun K hK => ?_) AllReadyIn.nil)
        · go_simp
          refine hK _ _ ?_
          clear hK K
          try simp only [Act.put, List.setIfInBounds_toArray, List.set_cons_zero, List.set_cons_succ]
          refine wpAnyIn_ready (rs := [3]) (by kernel_rfl) (by simp) ?_
          refine AllReadyIn.cons (i := 3) rfl (fun K hK => ?_) AllReadyIn.nil
          go_simp
          refine hK _ _ ?_
          clear hK K
          try simp only [Act.put, List.setIfInBounds_toArray, List.set_cons_zero, List.set_cons_succ]
          refine wpAnyIn_ready (rs := [4]) (by kernel_rfl) (by simp) ?_
          refine AllReadyIn.cons (i := 4) rfl (fun K hK => ?_) AllReadyIn.nil
          refine stepIn_lo (E := iE) rfl _ _ rfl wb.heap.size (.slice va m vc) (numL N pre) m HLEN.out (by rfl) (HG5.out.keep (hk6.alloc _ _)) w6.heap.size nm (by rfl) (World.alloc_heap_new w6 _) (by show (m + 1) * 8 ≤ 140737488355328; omega) (by unfold maxLen; omega) (by have h1 := hk6.size; have h2 := HSZ.out; simp only [World.size_alloc]; omega) ?_
          intro g9 c9 w9 ho9 hg9 hor9 hl9
          have HP1 := hide1 (push_of hk6 HG3.out HG5.out (by have := HSZ.out; omega) hg9 ho9 hor9)
          have hr9 : w9.heap[r2 + 4]? = some (.cells #[.slice va m vc] 35 (0, 0)) := (hg9.block (r2 + 4) (by have h1 := hk6.size; have h2 := HSZ.out; simp only [World.size_alloc]; omega) (fun e => by have h1 := (HG5.out.lt' _ e.symm).1; have h2 := HSZ.out; omega)).trans ((heap_alloc_old w6 _ (by have h1 := hk6.size; have h2 := HSZ.out; omega)).trans ((hk6.2.2.2.2 (r2 + 4) (by have h2 := HSZ.out; omega)).trans HG3.out))
          obtain ⟨u0, u1⟩ := one_cell hr9
          have u2 : r2 + 4 < w9.heap.size := (Array.getElem?_eq_some_iff.1 hr9).1
          clear ho9 hg9 hor9 hr9
          refine hK _ _ ?_
          clear hK K
          try simp only [Act.put, List.setIfInBounds_toArray, List.set_cons_zero, List.set_cons_succ]
          refine wpAnyIn_ready (rs := [5]) (by kernel_rfl) (by simp) ?_
          refine AllReadyIn.cons (i := 5) rfl (fun K hK => ?_) AllReadyIn.nil
          go_simp
          refine hK _ _ ?_
          clear hK K
          try simp only [Act.put, List.setIfInBounds_toArray, List.set_cons_zero, List.set_cons_succ]
          refine wpAnyIn_done (by kernel_rfl) ?_ _
          obtain ⟨V1, hV1⟩ : ∃ V1, w9.setCell ⟨r2 + 4, 0, none⟩ (.slice (some ⟨g9, 0, none⟩) (m + 1) c9) = V1 := ⟨_, rfl⟩
          rw [hV1] at HP1 ⊢
          have hp1 := HP1.out
          have hb2 : V1.heap[r2 + 5]? = some (.cells #[.slice ua m uc] 35 (0, 0)) := (hp1.kt.2.2.2.2 (r2 + 5) (by have h2 := HSZ.out; omega) (fun e => e.elim (fun e => by omega) (fun e => by have h1 := (HG5.out.lt' _ e).1; have h2 := HSZ.out; omega))).trans HG4.out
          have ho2 : LO iE V1 wb.heap.size (.slice ua m uc) (pre.map fun q => (q.1 : Int)) := HG6.out.same (fun d hd => hp1.kt.2.2.2.2 d (HG6.out.lt' d hd).2 (fun e => e.elim (fun e => by have h1 := (HG6.out.lt' d hd).1; have h2 := HSZ.out; omega) (fun e => (HG7.out d e).2 hd)))
          obtain ⟨d0, d1⟩ := one_cell hb2
          have HB2 := hide1 hb2
          have HO2 := hide1 ho2
          have HS1 : Hid (wb.heap.size ≤ V1.heap.size) := (by have h1 := hp1.kt.2.2.2.1; have h2 := HSZ.out; omega : wb.heap.size ≤ V1.heap.size)
          clear hp1 hb2 ho2 hV1 u0 u1 u2 hl9 c6 c7 c0 f0
          gi_wp2_with (gi_at_builtin
                       refine wplIn_lo (E := iE) rfl _ _ rfl wb.heap.size (.slice ua m uc) (pre.map fun q => (q.1 : Int)) m HLEN2.out rfl (HO2.out.keep ((Kept.refl V1).alloc _ _)) V1.heap.size (x.1 : Int) rfl (World.alloc_heap_new V1 _) (by show (m + 1) * 8 ≤ 140737488355328; omega) (by unfold maxLen; omega) (Nat.le_trans HS1.out (alloc_le V1 _)) ?_
                       intro g8 c8 w8 ho8 hg8 hor8 hl8
                       have HP2 := hide1 (push_of (Kept.refl V1) HB2.out HO2.out (by have := HSZ.out; omega) hg8 ho8 hor8)
                       have hr8 : w8.heap[r2 + 5]? = some (.cells #[.slice ua m uc] 35 (0, 0)) := (hg8.block (r2 + 5) (by have h1 := HS1.out; have h2 := HSZ.out; simp only [World.size_alloc]; omega) (fun e => by have h1 := (HO2.out.lt' _ e.symm).1; have h2 := HSZ.out; omega)).trans ((heap_alloc_old V1 _ (by have h1 := HS1.out; have h2 := HSZ.out; omega)).trans HB2.out)
                       obtain ⟨e0, e1⟩ := one_cell hr8
                       clear ho8 hg8 hor8 hl8 hr8)
          have hsz := HSZ.out
          rw [← HNM.out] at HP1
          exact lv_fin (B := B) (br := r2 + 3) (by omega) (by omega) (by omega) (by omega) HG1.out HG2.out HG5.out HG6.out HG7.out HG8.out HTB.out HP1.out HP2.out
        · go_simp
          refine hK _ _ ?_
          clear hK K
          try simp only [Act.put, List.setIfInBounds_toArray, List.set_cons_zero, List.set_cons_succ]
          refine wpAnyIn_ready (rs := [0]) (by kernel_rfl) (by simp) ?_
          refine AllReadyIn.cons (i := 0) rfl (fun K hK => ?_) AllReadyIn.nil
          go_simp
          refine hK _ _ ?_
          clear hK K
          try simp only [Act.put, List.setIfInBounds_toArray, List.set_cons_zero, List.set_cons_succ]
          refine wpAnyIn_ready (rs := [4]) (by kernel_rfl) (by simp) ?_
          refine AllReadyIn.cons (i := 4) rfl (fun K hK => ?_) AllReadyIn.nil
          refine stepIn_lo (E := iE) rfl _ _ rfl wb.heap.size (.slice va m vc) (numL N pre) m HLEN.out (by rfl) (HG5.out.keep (hk6.alloc _ _)) w6.heap.size nm (by rfl) (World.alloc_heap_new w6 _) (by show (m + 1) * 8 ≤ 140737488355328; omega) (by unfold maxLen; omega) (by have h1 := hk6.size; have h2 := HSZ.out; simp only [World.size_alloc]; omega) ?_
          intro g9 c9 w9 ho9 hg9 hor9 hl9
          have HP1 := hide1 (push_of hk6 HG3.out HG5.out (by have := HSZ.out; omega) hg9 ho9 hor9)
          have hr9 : w9.heap[r2 + 4]? = some (.cells #[.slice va m vc] 35 (0, 0)) := (hg9.block (r2 + 4) (by have h1 := hk6.size; have h2 := HSZ.out; simp only [World.size_alloc]; omega) (fun e => by have h1 := (HG5.out.lt' _ e.symm).1; have h2 := HSZ.out; omega)).trans ((heap_alloc_old w6 _ (by have h1 := hk6.size; have h2 := HSZ.out; omega)).trans ((hk6.2.2.2.2 (r2 + 4) (by have h2 := HSZ.out; omega)).trans HG3.out))
          obtain ⟨u0, u1⟩ := one_cell hr9
          have u2 : r2 + 4 < w9.heap.size := (Array.getElem?_eq_some_iff.1 hr9).1
          clear ho9 hg9 hor9 hr9
          refine hK _ _ ?_
          clear hK K
          try simp only [Act.put, List.setIfInBounds_toArray, List.set_cons_zero, List.set_cons_succ]
          refine wpAnyIn_ready (rs := [5]) (by kernel_rfl) (by simp) ?_
          refine AllReadyIn.cons (i := 5) rfl (fun K hK => ?_) AllReadyIn.nil
          go_simp
          refine hK _ _ ?_
          clear hK K
          try simp only [Act.put, List.setIfInBounds_toArray, List.set_cons_zero, List.set_cons_succ]
          refine wpAnyIn_done (by kernel_rfl) ?_ _
          obtain ⟨V1, hV1⟩ : ∃ V1, w9.setCell ⟨r2 + 4, 0, none⟩ (.slice (some ⟨g9, 0, none⟩) (m + 1) c9) = V1 := ⟨_, rfl⟩
          rw [hV1] at HP1 ⊢
          have hp1 := HP1.out
          have hb2 : V1.heap[r2 + 5]? = some (.cells #[.slice ua m uc] 35 (0, 0)) := (hp1.kt.2.2.2.2 (r2 + 5) (by have h2 := HSZ.out; omega) (fun e => e.elim (fun e => by omega) (fun e => by have h1 := (HG5.out.lt' _ e).1; have h2 := HSZ.out; omega))).trans HG4.out
          have ho2 : LO iE V1 wb.heap.size (.slice ua m uc) (pre.map fun q => (q.1 : Int)) := HG6.out.same (fun d hd => hp1.kt.2.2.2.2 d (HG6.out.lt' d hd).2 (fun e => e.elim (fun e => by have h1 := (HG6.out.lt' d hd).1; have h2 := HSZ.out; omega) (fun e => (HG7.out d e).2 hd)))
          obtain ⟨d0, d1⟩ := one_cell hb2
          have HB2 := hide1 hb2
          have HO2 := hide1 ho2
          have HS1 : Hid (wb.heap.size ≤ V1.heap.size) := (by have h1 := hp1.kt.2.2.2.1; have h2 := HSZ.out; omega : wb.heap.size ≤ V1.heap.size)
          clear hp1 hb2 ho2 hV1 u0 u1 u2 hl9 c6 c7 c0 f0
          gi_wp2_with (gi_at_builtin
                       refine wplIn_lo (E := iE) rfl _ _ rfl wb.heap.size (.slice ua m uc) (pre.map fun q => (q.1 : Int)) m HLEN2.out rfl (HO2.out.keep ((Kept.refl V1).alloc _ _)) V1.heap.size (x.1 : Int) rfl (World.alloc_heap_new V1 _) (by show (m + 1) * 8 ≤ 140737488355328; omega) (by unfold maxLen; omega) (Nat.le_trans HS1.out (alloc_le V1 _)) ?_
                       intro g8 c8 w8 ho8 hg8 hor8 hl8
                       have HP2 := hide1 (push_of (Kept.refl V1) HB2.out HO2.out (by have := HSZ.out; omega) hg8 ho8 hor8)
                       have hr8 : w8.heap[r2 + 5]? = some (.cells #[.slice ua m uc] 35 (0, 0)) := (hg8.block (r2 + 5) (by have h1 := HS1.out; have h2 := HSZ.out; simp only [World.size_alloc]; omega) (fun e => by have h1 := (HO2.out.lt' _ e.symm).1; have h2 := HSZ.out; omega)).trans ((heap_alloc_old V1 _ (by have h1 := HS1.out; have h2 := HSZ.out; omega)).trans HB2.out)
                       obtain ⟨e0, e1⟩ := one_cell hr8
                       clear ho8 hg8 hor8 hl8 hr8)
          have hsz := HSZ.out
          rw [← HNM.out] at HP1
          exact lv_fin (B := B) (br := r2 + 3) (by omega) (by omega) (by omega) (by omega) HG1.out HG2.out HG5.out HG6.out HG7.out HG8.out HTB.out HP1.out HP2.out
  case done =>
    rintro D T V hD ⟨g1, g2, v1, v2, g3, g4, g5, g6, g7, g8⟩ hdef hTb hT0 hT1
    obtain ⟨m, hm⟩ : ∃ m, xs.length = m := ⟨_, rfl⟩
    have hm4 : m ≤ 4194304 := by omega
    have HLEN : Hid ((numL N xs).length = m) := (by unfold numL; rw [List.length_map]; exact hm : (numL N xs).length = m)
    have HLEN2 : Hid ((xs.map fun q => (q.1 : Int)).length = m) := (by rw [List.length_map]; exact hm : (xs.map fun q => (q.1 : Int)).length = m)
    obtain ⟨va, vc, rfl⟩ : ∃ a c, v1 = .slice a m c := by obtain ⟨a, c, h⟩ := g5.form; rw [HLEN.out] at h; exact ⟨a, c, h⟩
    obtain ⟨ua, uc, rfl⟩ : ∃ a c, v2 = .slice a m c := by obtain ⟨a, c, h⟩ := g6.form; rw [HLEN2.out] at h; exact ⟨a, c, h⟩
    have hE := HE.out
    have hWs := g2.2.2.2.1
    have hq2 := (g2.2.2.2.2 r2 (by omega) (by omega) (by omega)).trans HR.out.1
    have hq3 := (g2.2.2.2.2 (r2 + 1) (by omega) (by omega) (by omega)).trans HR.out.2.1
    have hq4 := (g2.2.2.2.2 (r2 + 2) (by omega) (by omega) (by omega)).trans HR.out.2.2
    obtain ⟨c0, f0⟩ := one_cell g3
    obtain ⟨d0, f1⟩ := one_cell g4
    obtain ⟨wd, hwd⟩ : ∃ wd : Int, ((N b).width : Int) = wd := ⟨_, rfl⟩
    have HWID : Hid (Calls Try.prog 32 #[.pointer (some ⟨b, 0, none⟩)] V.drew fun e w' => e = .returned (.int .i64 wd) ∧ w' = V.drew) := by
      rw [← hwd]
      refine width_is ((HFb.out b HB.out).1.kb (B := B) ⟨?_, fun k hk => ?_⟩)
      · show wb.heap.size ≤ V.heap.size
        omega
      · exact (g2.2.2.2.2 k (by omega) (by omega) (by omega) : V.heap[k]? = wb.heap[k]?)
    have HBG2 : Hid ((xs.map fun q => (q.1 : Int)) ++ [wd] = begL N b) := (by rw [← hwd, ← HBG.out, HXS.out] : (xs.map fun q => (q.1 : Int)) ++ [wd] = begL N b)
    have HKV : Hid (Kept w V) := ⟨g2.1.trans HKW.out.1, g2.2.1.trans HKW.out.2.1, g2.2.2.1.trans HKW.out.2.2.1, by have := HKW.out.size; omega, fun k hk => (g2.2.2.2.2 k (by omega) (by omega) (by omega)).trans (HKW.out.2.2.2.2 k hk)⟩
    have HG5 := hide1 g5
    have HG6 := hide1 g6
    have HG7 := hide1 g7
    have HG8 := hide1 g8
    have HDEF := hide1 hdef
    have HQ : Hid (V.heap[r2]? = some (.cells #[.slice none 0 0] 35 (0, 0)) ∧ V.heap[r2 + 1]? = some (.cells #[.slice none 0 0] 35 (0, 0)) ∧ V.heap[r2 + 2]? = some (.cells #[.bool false] 4 (0, 0))) := ⟨hq2, hq3, hq4⟩
    have HSZ : Hid (w.heap.size = r2 ∧ wb.heap.size = r2 + 6 ∧ B ≤ r2 ∧ wb.heap.size ≤ V.heap.size ∧ wb.heap.size ≤ D) := ⟨hE.1, hE.2.1, hE.2.2, hWs, hD⟩
    clear g1 g2 g3 g4 g5 g6 g7 g8 hdef hTb hT0 hT1 hm hE hWs hq2 hq3 hq4 hwd hD hlen
    go_wp2_with fail
    go_region_held3 (fun w' => w'.cell? ⟨r2 + 4, 0, none⟩ = some (.slice va m vc) ∧ w'.cell? ⟨r2 + 5, 0, none⟩ = some (.slice ua m uc)) (first | assumption | exact ⟨by assumption, by assumption⟩ | exact ⟨by go_keep, by go_keep⟩ | go_keep) ((first
      | (go_at_call 32; refine HWID.out.mono ?_; rintro e w5 ⟨rfl, hw5⟩; have hw5 := hw5.symm; subst hw5)
      | (refine step_lo (E := iE) rfl _ _ rfl wb.heap.size (.slice ua m uc) (xs.map fun q => (q.1 : Int)) m HLEN2.out (by rfl) (HG6.out.keep (gtrans ((Kept.refl V).alloc _ _) (drew_kept _))) V.heap.size wd (by rfl) (World.alloc_heap_new V _) (by show (m + 1) * 8 ≤ 140737488355328; omega) (by unfold maxLen; omega) (by have h2 := HSZ.out; show wb.heap.size ≤ (V.alloc _).heap.size; rw [World.size_alloc]; omega) ?_
         intro g8 c8 w8 ho8 hg8 hor8 hl8
         have hold : ∀ k, k < V.heap.size → (Value.slice ua m uc).ownBlock ≠ some k → w8.heap[k]? = V.heap[k]? := fun k hk hn => (hg8.block k (by show k < (V.alloc _).heap.size; rw [World.size_alloc]; omega) (fun e => hn e.symm)).trans ((heap_alloc_old V _ hk))
         have hlow : ∀ k, k < wb.heap.size → w8.heap[k]? = V.heap[k]? := fun k hk => hold k (by have h2 := HSZ.out; omega) (fun e => by have h1 := (HG6.out.lt' _ e).1; omega)
         have x4 : w8.cell? ⟨r2 + 4, 0, none⟩ = some (.slice va m vc) := (World.cell?_of_block (w := V) (a := ⟨r2 + 4, 0, none⟩) (hlow (r2 + 4) (by have h2 := HSZ.out; omega))).trans c0
         have x5 : w8.cell? ⟨r2 + 5, 0, none⟩ = some (.slice ua m uc) := (World.cell?_of_block (w := V) (a := ⟨r2 + 5, 0, none⟩) (hlow (r2 + 5) (by have h2 := HSZ.out; omega))).trans d0
         obtain ⟨a2, b2⟩ := one_cell ((hlow r2 (by have h2 := HSZ.out; omega)).trans HQ.out.1)
         obtain ⟨a3, b3⟩ := one_cell ((hlow (r2 + 1) (by have h2 := HSZ.out; omega)).trans HQ.out.2.1)
         obtain ⟨a4, b4⟩ := one_cell ((hlow (r2 + 2) (by have h2 := HSZ.out; omega)).trans HQ.out.2.2)
         have HO8 := hide1 ho8
         have HOLD := hide1 hold
         have HG8' := hide1 hg8
         have HOR8 := hide1 hor8
         clear ho8 hold hlow hg8 hor8 hl8)))
    have hsz := HSZ.out
    have hg := HG8'.out
    have hs8 : V.heap.size ≤ w8.heap.size := by have h1 := hg.size; have h2 : V.heap.size ≤ (V.alloc (.cells #[.int .i64 wd] 3)).heap.size := alloc_le V _; exact Nat.le_trans h2 h1
    have hDlt : D < V.heap.size := (Array.getElem?_eq_some_iff.1 HDEF.out).1
    have hlow : ∀ k, k < wb.heap.size → w8.heap[k]? = V.heap[k]? := fun k hk => HOLD.out k (by omega) (fun e => by have h1 := (HG6.out.lt' _ e).1; omega)
    have hd8 : w8.heap[D]? = some (.deferred (some [])) := (HOLD.out D hDlt (fun e => by obtain ⟨cur, hc⟩ := HG6.out.type e; rw [HDEF.out] at hc; cases hc)).trans HDEF.out
    obtain ⟨wE, hwE⟩ : ∃ wE, ((w8.setCell ⟨r2, 0, none⟩ (.slice va m vc)).setCell ⟨r2 + 1, 0, none⟩ (.slice (some ⟨g8, 0, none⟩) (m + 1) c8)).setCell ⟨r2 + 2, 0, none⟩ (.bool true) = wE := ⟨_, rfl⟩
    have q2 : w8.heap[r2]? = some (.cells #[.slice none 0 0] 35 (0, 0)) := (hlow r2 (by omega)).trans HQ.out.1
    have q3 : w8.heap[r2 + 1]? = some (.cells #[.slice none 0 0] 35 (0, 0)) := (hlow (r2 + 1) (by omega)).trans HQ.out.2.1
    have q4 : w8.heap[r2 + 2]? = some (.cells #[.bool false] 4 (0, 0)) := (hlow (r2 + 2) (by omega)).trans HQ.out.2.2
    have hEo : ∀ k, k ≠ r2 → k ≠ r2 + 1 → k ≠ r2 + 2 → wE.heap[k]? = w8.heap[k]? := fun k h1 h2 h3 => by
      rw [← hwE, Below.heap_setCell _ _ _ _ h3, Below.heap_setCell _ _ _ _ h2, Below.heap_setCell _ _ _ _ h1]
    have p2 : wE.heap[r2]? = some (.cells #[.slice va m vc] 35 (0, 0)) := by
      rw [← hwE, Below.heap_setCell _ _ _ _ (show r2 ≠ r2 + 2 by omega), Below.heap_setCell _ _ _ _ (show r2 ≠ r2 + 1 by omega)]
      exact set_one q2 _
    have p3 : wE.heap[r2 + 1]? = some (.cells #[.slice (some ⟨g8, 0, none⟩) (m + 1) c8] 35 (0, 0)) := by
      rw [← hwE, Below.heap_setCell _ _ _ _ (show r2 + 1 ≠ r2 + 2 by omega)]
      exact set_one ((Below.heap_setCell _ _ _ _ (show r2 + 1 ≠ r2 by omega)).trans q3) _
    have p4 : wE.heap[r2 + 2]? = some (.cells #[.bool true] 4 (0, 0)) := by
      rw [← hwE]
      exact set_one ((Below.heap_setCell _ _ _ _ (show r2 + 2 ≠ r2 + 1 by omega)).trans ((Below.heap_setCell _ _ _ _ (show r2 + 2 ≠ r2 by omega)).trans q4)) _
    have hk3 : KT (fun k => r2 ≤ k) w8 wE := by
      rw [← hwE]
      exact (KeptBut.kt (setCell_but w8 r2 0 _) (Nat.le_refl _)).trans ((KeptBut.kt (setCell_but _ (r2 + 1) 0 _) (by show r2 ≤ r2 + 1; omega)).trans (KeptBut.kt (setCell_but _ (r2 + 2) 0 _) (by show r2 ≤ r2 + 2; omega)))
    have hkE : Kept w wE := by
      refine ⟨hk3.1.trans (hg.os.trans HKV.out.1), hk3.2.1.trans (hg.tape.trans HKV.out.2.1), hk3.2.2.1.trans (hg.output.trans HKV.out.2.2.1), ?_, fun k hk => ?_⟩
      · have h1 := hk3.2.2.2.1
        omega
      · exact (hEo k (by omega) (by omega) (by omega)).trans ((hlow k (by omega)).trans (HKV.out.2.2.2.2 k hk))
    have o1 : LO iE wE w.heap.size (.slice va m vc) (numL N xs) := (HG5.out.low (by omega)).same (fun d hd => by
      have h1 := HG5.out.lt' d hd
      refine (hEo d (by omega) (by omega) (by omega)).trans (HOLD.out d h1.2 (HG7.out d hd).2))
    have o2 : LO iE wE w.heap.size (.slice (some ⟨g8, 0, none⟩) (m + 1) c8) (begL N b) := by
      rw [← HBG2.out]
      refine (HO8.out.low (by omega)).same (fun d hd => ?_)
      have h1 := HO8.out.lt' d hd
      exact hEo d (by omega) (by omega) (by omega)
    have hdE : wE.heap[D]? = some (.deferred (some [])) := (hEo D (by omega) (by omega) (by omega)).trans hd8
    rw [hwE]
    have HPE : Hid (wE.cell? ⟨r2, 0, none⟩ = some (.slice va m vc) ∧ wE.cell? ⟨r2 + 1, 0, none⟩ = some (.slice (some ⟨g8, 0, none⟩) (m + 1) c8) ∧ wE.cell? ⟨r2 + 2, 0, none⟩ = some (.bool true)) := ⟨(one_cell p2).1, (one_cell p3).1, (one_cell p4).1⟩
    have HO1 := hide1 o1
    have HO2 := hide1 o2
    have HKE := hide1 hkE
    have HDE := hide1 hdE
    clear o1 o2 hkE hdE hk3 p2 p3 p4 q2 q3 q4 hEo hwE hd8 hlow hs8 hg
    go_wp2_with fail
    refine ⟨by simp, .inl ⟨_, _, rfl, run_takeDeferred HDE.out, ?_⟩⟩
    have hput : ∀ (o : Obj) (k : Nat), k ≠ D → (wE.putObj D o).heap[k]? = wE.heap[k]? := fun o k hk => World.putObj_heap_other hk
    refine ⟨_, results_cells3 rfl _ _ r2 (r2 + 1) (r2 + 2) (.slice va m vc) (.slice (some ⟨g8, 0, none⟩) (m + 1) c8) (.bool true) rfl rfl rfl ?_ ?_ ?_, _, _, rfl, ?_, ?_, HKE.out.put (by omega) _⟩
    · exact (World.cell?_of_block (w := wE) (a := ⟨r2, 0, none⟩) (hput _ _ (by show r2 ≠ D; omega))).trans HPE.out.1
    · exact (World.cell?_of_block (w := wE) (a := ⟨r2 + 1, 0, none⟩) (hput _ _ (by show r2 + 1 ≠ D; omega))).trans HPE.out.2.1
    · exact (World.cell?_of_block (w := wE) (a := ⟨r2 + 2, 0, none⟩) (hput _ _ (by show r2 + 2 ≠ D; omega))).trans HPE.out.2.2
    · rw [HXS.out]
      exact HO1.out.same (fun d hd => hput _ _ (fun e => by obtain ⟨cur, hc⟩ := HO1.out.type hd; rw [e, HDE.out] at hc; cases hc))
    · exact HO2.out.same (fun d hd => hput _ _ (fun e => by obtain ⟨cur, hc⟩ := HO2.out.type hd; rw [e, HDE.out] at hc; cases hc))

end Tr
end Ex
end Go.Proofs.Ytkkilkojmdeopaa
