import Derived.Test.YteckbpmliahhhaaTrSeq
import Derived.Test.YteckbpmliahhhaaTrHead
import Derived.Sort.QuietIn
import Derived.RangeFuncCalls
namespace Go.Proofs.Yteckbpmliahhhaa
open Go.RowKit
attribute [local go_sem] Oper.semAt_some
namespace Ex
namespace Tr

theorem seqW_round {α : Type} {n l0 : Nat} {P : Program} {g : Nat} {lb : Array Value} {encs : α → Array Value} {Kp : World → World → Prop} {xs : List α} {w : World}
    (h : SeqW Fence.wide n P g lb encs Kp xs w) : SeqW (Fence.wide.inRound l0) n P g lb encs Kp xs w := h

/-- The statement 'range' over such an iterator within a round of another, where no round is left early. -/
theorem range_WN {F : Fence} {n : Nat} {P : Program} {α : Type} {g : Operand} {ps : Array Tmp} {assign body : Code} {Q : Exit → Act → World → Prop} {a : Act} {w : World}
    {l₀ : Nat} {r₀ : Loop} (hro : F.round = some l₀) (hl₀ : w.heap[l₀]? = some (.loop r₀)) (h1 : 1 ≤ n) {gf : Nat} {lb : Array Value} (hg : a.eval g = .func (.func gf) #[] lb) (hFg : F.fn gf) (eg : ∀ args w, (callFunc gf args).run P w = .ok (.enter gf args) w)
    {encs : α → Array Value} {Kp : World → World → Prop} {xs : List α} (hseq : SeqW F (n - 1) P gf lb encs Kp xs w)
    (hKp : ∀ (A A' : World), w.heap.size ≤ A.heap.size → A.heap.size ≤ A'.heap.size → (∀ k, k < w.heap.size → A'.heap[k]? = A.heap[k]?) → Kp A A') (hKt : ∀ {A B C : World}, Kp A B → Kp B C → Kp A C) (hps : ∀ x, (encs x).size = ps.size)
    (I : (Nat → Prop) → List α → World → Prop) (hI : StableW I) (h0 : I (fun _ => False) [] w) (a₁ : α → Act)
    (hassign : ∀ (l : Nat) (x : α) (W : World) (K : Act → World → Prop), K (a₁ x) W →
      assign.wpIn (F.inRound l) (n - 1 - 1) P (Exit.then K (fun _ _ _ => False)) { tmps := (ps.zip (encs x)).foldl (fun t (p, v) => t.setIfInBounds p v) a.tmps, defers := [] } W)
    (hbody : ∀ (T : Nat → Prop) (pre : List α) (x : α) (W : World), I T pre W → (pre ++ [x]) <+: xs → (∀ b, T b → w.heap.size ≤ b ∧ b < W.heap.size) → T w.heap.size → w.heap.size ≤ W.heap.size →
      body.wpIn (F.inRound w.heap.size) (n - 1 - 1) P (postW T Kp I (fun _ _ _ => False) (pre ++ [x]) W) (a₁ x) W)
    (hdone : ∀ (T : Nat → Prop) (W : World), I T xs W → (∀ b, T b → w.heap.size ≤ b ∧ b < W.heap.size) → Q .normal a W) :
    (Code.rangeFunc g ps assign body).wpIn F n P Q a w := by
  refine wpIn_rangeFunc ?_
  intro fn hfn
  rw [hro]
  obtain ⟨rec, hrec⟩ : ∃ rec : LoopState → Option Code → Loop, rec = fun st pe => { state := st, pending := pe, fn, tmps := a.tmps, params := ps, assign, body, defers := r₀.defers } := ⟨_, rfl⟩
  obtain ⟨W1, hW1⟩ : ∃ W1, w.alloc (.loop (rec .ready none)) = W1 := ⟨_, rfl⟩
  have hsz : W1.heap.size = w.heap.size + 1 := by rw [← hW1]; simp
  have hbw : Below w.heap.size w W1 := by rw [← hW1]; exact (Below.refl _ w).alloc (Nat.le_refl _) _
  have hL1 : W1.heap[w.heap.size]? = some (.loop (rec .ready none)) := by rw [← hW1]; exact World.alloc_heap_new w _
  obtain ⟨U, hU⟩ : ∃ U : (Nat → Prop) → Nat → Prop, U = fun T b => T b ∨ b = w.heap.size := ⟨_, rfl⟩
  have hU0 : ∀ T, U T w.heap.size := fun T => by rw [hU]; exact Or.inr rfl
  have hUT : ∀ T b, T b → U T b := fun T b h => by rw [hU]; exact Or.inl h
  have hUb : ∀ T (W : World), W1.heap.size ≤ W.heap.size → (∀ b, T b → W1.heap.size ≤ b ∧ b < W.heap.size) → ∀ b, U T b → w.heap.size ≤ b ∧ b < W.heap.size := fun T W hW h b hb => by
    rw [hU] at hb
    rcases hb with hb | rfl
    · have := h b hb; omega
    · omega
  have hstep1 : StepW (fun _ => False) (U fun _ => False) w W1 := ⟨hbw.os, hbw.tape, hbw.output, hbw.size, fun k hk _ => hbw.block k hk, fun b hb => by
    rw [hU] at hb
    rcases hb with hb | rfl
    · exact hb.elim
    · exact Or.inr ⟨Nat.le_refl _, by omega⟩⟩
  refine ⟨w.heap.size, [], W1, { target := .fn (.func gf) lb, args := #[.func (.yield w.heap.size) #[] #[]] }, W1, gf,
    #[.func (.yield w.heap.size) #[] #[]] ++ lb, W1, ?_, ?_, ?_, ?_, fun _ => h1, ?_⟩
  · rw [← hW1, hrec]; exact run_enterLoop_inner hl₀ _ _ _ _ _
  · simp only [resolve, hg]
    simp [go_sem]
  · intro f' hf'; simp [Target.leads] at hf'; subst hf'; exact hFg
  · simp [invoke, go_sem, eg]
  refine (hseq w.heap.size
    (fun T pre W => I (U T) pre W ∧ W1.heap.size ≤ W.heap.size ∧ (∀ b, T b → W1.heap.size ≤ b) ∧ W.heap[w.heap.size]? = some (.loop (rec .ready none)))
    (fun _ _ => False)
    W1 (hKp _ _ (Nat.le_refl _) hbw.size (fun k hk => hbw.block k hk)) hbw.size ?_ ?_ ⟨hI _ _ _ _ _ h0 hstep1, Nat.le_refl _, fun _ h => h.elim, hL1⟩).mono ?_
  · rintro T T' s A A' ⟨g1, g0, gT, g2⟩ hs
    have hn : ∀ k, k < W1.heap.size → ¬ T k := fun k hk h => by have := gT k h; omega
    refine ⟨hI _ _ s A A' g1 ⟨hs.1, hs.2.1, hs.2.2.1, hs.2.2.2.1, fun k hk hr => hs.2.2.2.2.1 k hk (fun e => hr (hUT T k e)), fun b hb => ?_⟩, Nat.le_trans g0 hs.2.2.2.1, fun b hb => ?_, ?_⟩
    · rw [hU] at hb ⊢
      rcases hb with hb | hb
      · exact (hs.2.2.2.2.2 b hb).imp Or.inl id
      · exact Or.inl (Or.inr hb)
    · rcases hs.2.2.2.2.2 b hb with h | h
      · exact gT b h
      · omega
    · rw [hs.2.2.2.2.1 _ (Array.getElem?_eq_some_iff.1 g2).1 (hn _ (by omega))]; exact g2
  · rintro T pre x W ⟨hi, hsw, hTw, hl⟩ hpre hTb
    have hlt : w.heap.size < W.heap.size := (Array.getElem?_eq_some_iff.1 hl).1
    have hy := run_yield (P := P) (args := encs x) hl (by rw [hrec]; exact hps x)
    rw [hrec] at hy
    refine ⟨fn, _, assign, body, hy, roundIn_of_wpIn hfn (hassign _ x W _ ⟨_, run_beginRound hl (by rw [hrec]), ?_⟩)⟩
    obtain ⟨W2, hW2⟩ : ∃ W2, W.putObj w.heap.size (.loop { rec .ready none with state := .busy }) = W2 := ⟨_, rfl⟩
    have hs2 : StepW (U T) (U T) W W2 := by rw [← hW2]; exact StepW.put _ (hU0 T)
    have hl2 : W2.heap[w.heap.size]? = some (.loop { rec .ready none with state := .busy }) := by rw [← hW2]; exact World.putObj_heap_same hlt
    have hT2 : ∀ b, T b → W2.heap[b]? = W.heap[b]? := fun b hb => by rw [← hW2]; exact World.putObj_heap_other (by have := hTw b hb; omega)
    have hsz2 : W2.heap.size = W.heap.size := by rw [← hW2]; simp
    have hkp2 : Kp W W2 := hKp _ _ (by omega) (by omega) (fun k hk => by rw [← hW2]; exact World.putObj_heap_other (by omega))
    have hbd := hbody (U T) pre x W2 (hI _ _ _ _ _ hi hs2) hpre (hUb T W2 (by omega) (fun b hb => by have := hTb b hb; omega)) (hU0 T) (by omega)
    rw [hW2]
    refine wpIn_mono hbd ?_
    rintro e a3 W3 hp
    cases e with
    | normal =>
      obtain ⟨hs3, hk3, hkp3, hi3⟩ := hp
      have hl3 := (hk3 _ (hU0 T)).trans hl2
      have hr := run_endRound (P := P) none hl3
      rw [hrec] at hr
      refine ⟨_, _, hr, .inl ⟨rfl, ⟨hI _ _ _ _ _ hi3 (StepW.put _ (hU0 T)), by simp; omega, hTw, ?_⟩, ?_, by simp; omega, fun b hb => ?_⟩⟩
      · rw [hrec]; exact World.putObj_heap_same (Array.getElem?_eq_some_iff.1 hl3).1
      · exact hKt (hKt hkp2 hkp3) (hKp _ _ (by omega) (by simp) (fun k hk => World.putObj_heap_other (by omega)))
      · rw [World.putObj_heap_other (by have := hTw b hb; omega), hk3 b (hUT T b hb), hT2 b hb]
    | ret => exact hp.2.elim
    | exit id => exact hp.2.elim
    | goto t => exact hp.2.elim
    | panic ch => exact hp.elim
    | outgrown => exact hp.elim
  · rintro e W2 ⟨⟨v, rfl⟩, (⟨T, ⟨hi, hsw, hTw, hl⟩, hTb⟩ | ⟨pre, hSp, h⟩)⟩
    · refine ⟨none, _, by have := run_endLoop (P := P) hl (by rw [hrec]; simp); rw [hrec] at this; exact this, hdone (U T) _ (hI _ _ _ _ _ hi (StepW.put _ (hU0 T))) ?_⟩
      exact hUb T _ (by simp; omega) (fun b hb => by have := hTb b hb; simp; omega)
    · exact h.elim

end Tr
end Ex
end Go.Proofs.Yteckbpmliahhhaa
namespace Go.Proofs.Yteckbpmliahhhaa
open Go.RowKit
namespace Ex
namespace Tr

section
variable {F : Fence} {n : Nat} {P : Program} {ops : Array Oper} {md : Region.Mode} {C : World → Prop}
theorem wpIn_of_quiet_sem {o : Oper} {a : Act} {K : Act → Prop} {K' : Act → World → Prop} {Q' : Exit → Act → World → Prop} {w : World} (hsem : ∀ c, o.op ≠ .defer c) (hw : C w) (h : ∀ a w', C w' → K a → K' a w')
    (ha : o.askedIn F P a C) (hh : o.quietIn F n P a C K) : o.wpIn F n P a w K' Q' := by
  obtain ⟨v, h1, h2⟩ := hh
  have h3 := h1 w hw
  unfold Oper.quietAtIn at h3
  unfold Oper.wpIn
  refine ⟨ha w hw, ?_⟩
  rw [Oper.semAt_eq _ _ _ hsem]
  generalize (execOp a.eval o).run P w = r at *
  cases r with
  | ok x w' =>
    cases x <;> simp only [Oper.quietUponIn] at h3 <;> simp only [Oper.uponIn]
    case value u =>
      obtain ⟨e1, e2⟩ := h3
      rw [e1, e2]
      exact h _ _ hw h2
    case skip =>
      obtain ⟨e1, e2⟩ := h3
      rw [e1, ← e2]
      exact h _ _ hw h2
    case enter f args =>
      obtain ⟨e1, hd, hc⟩ := h3
      rw [e1]
      exact ⟨hd, hc.mono fun e w'' ⟨he, hw''⟩ => by subst he; exact h _ _ hw'' h2⟩
  | halt x w' => simp only [Oper.quietUponIn] at h3
theorem wpOpIn_of_quiet_sem {i : Nat} {a : Act} {K : Act → Prop} {K' : Act → World → Prop} {Q' : Exit → Act → World → Prop} {w : World} (hsem : ∀ (i : Nat) (o : Oper), ops[i]? = some o → ∀ c, o.op ≠ .defer c) (hC : C w) (h : ∀ a w', C w' → K a → K' a w')
    (hh : qOpIn F n P ops C i K a) : wpOpIn F n P ops Q' i K' a w := by
  unfold qOpIn at hh
  unfold wpOpIn
  split
  · rename_i ho; simp only [ho] at hh; exact h _ _ hC hh
  · rename_i o ho
    simp only [ho] at hh
    obtain ⟨ha, hh⟩ := hh
    split
    · rename_i hw; simp only [hw, if_true] at hh; exact wpIn_of_quiet_sem (hsem i o ho) hC h ha hh
    · rename_i hw; simp only [hw] at hh; exact ⟨ha w hC, h _ _ hC hh⟩
theorem wpAnyIn_of_quiet_sem {Q : Act → Prop} {Q' : Exit → Act → World → Prop} (hsem : ∀ (i : Nat) (o : Oper), ops[i]? = some o → ∀ c, o.op ≠ .defer c) (hQ : ∀ a w, C w → Q a → Q' .normal a w) : ∀ (fuel : Nat) (listed : Array Bool) (a : Act) (w : World), C w →
    wpAnyQIn F n P md ops C Q fuel listed a → wpAnyIn F n P md ops Q' fuel listed a w
  | 0, _, _, _, hw, h => ⟨h.1, hQ _ _ hw h.2⟩
  | fuel + 1, _, _, _, hw, h => ⟨fun h0 => hQ _ _ hw (h.1 h0), fun i hi => wpOpIn_of_quiet_sem hsem hw (fun a' w' hw' => wpAnyIn_of_quiet_sem hsem hQ fuel _ a' w' hw') (h.2 i hi)⟩
end
theorem wide_fn (f : FuncId) : Fence.wide.fn f = True := rfl
def noDefer (o : Oper) : Bool := match o.op with | .defer _ => false | _ => true
theorem noDefer_ne {o : Oper} (h : noDefer o = true) : ∀ c, o.op ≠ .defer c := fun c e => by unfold noDefer at h; rw [e] at h; cases h
theorem quietIn_round {l0 n : Nat} {P : Program} {ops : Array Oper} {C : World → Prop} {Q : Act → Prop} : ∀ (L : List Oper) (a : Act), wpQuietIn Fence.wide n P ops C Q L a → wpQuietIn (Fence.wide.inRound l0) n P ops C Q L a
  | [], _, h => h
  | o :: rest, a, h => by
    refine ⟨h.1, ?_⟩
    have h2 := h.2
    by_cases hw : Region.wanted o (yielded ops a.tmps) = true
    · simp only [hw, if_true] at h2 ⊢
      obtain ⟨v, h3, h4⟩ := h2
      exact ⟨v, h3, quietIn_round rest _ h4⟩
    · simp only [hw] at h2 ⊢
      exact quietIn_round rest _ h2
/-- A region that only reads, within a round: one walk in the order of the text. -/
theorem region_quiet_round {l0 n : Nat} {P : Program} {id : Nat} {Q : Exit → Act → World → Prop} {a : Act} {w : World} {L : List Oper} (hnd : L.all noDefer = true) (hm : P.follows .mixedOrders = true) (hB : Region.lexB .any L.toArray = true)
    (h : wpQuietIn Fence.wide n P L.toArray (fun w' => ∃ n, w' = w.drewN n) (fun a' => ∀ w', (∃ n, w' = w.drewN n) → Q .normal a' w') L a) : (Code.region id L.toArray true).wpIn (Fence.wide.inRound l0) n P Q a w := by
  have h' : wpQuietIn (Fence.wide.inRound l0) n P L.toArray (fun w' => ∃ n, w' = w.drewN n) (fun a' => ∀ w', (∃ n, w' = w.drewN n) → Q .normal a' w') L a := quietIn_round L a h
  simp only [Region.lexB, Bool.and_eq_true] at hB
  refine wpIn_region_any hm (wpAnyIn_of_quiet_sem (C := fun w' => ∃ n, w' = w.drewN n) (Q := fun a' => ∀ w', (∃ n, w' = w.drewN n) → Q .normal a' w') ?_ (fun _ w' hw' h => h w' hw') _ _ _ _ ⟨1, rfl⟩ ?_)
  · intro i o ho
    refine noDefer_ne (List.all_eq_true.1 hnd o ?_)
    have := List.mem_of_getElem? (l := L) (i := i) (a := o) (by simpa using ho)
    exact this
  · have := wpAnyQIn_lex (F := Fence.wide.inRound l0) (n := n) (P := P) (C := fun w' => ∃ n, w' = w.drewN n) (md := .any) hB.1 L.toArray.toList 0 (Array.replicate L.toArray.size false) a (by simp) (by simpa using hB.2) (by simpa using h')
    simpa using this

end Tr
end Ex
end Go.Proofs.Yteckbpmliahhhaa
