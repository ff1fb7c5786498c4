import Derived.Test.YteckbpmliahhhaaTrLeav
namespace Go.Proofs.Yteckbpmliahhhaa
open Go.RowKit
attribute [local go_sem] Oper.semAt_some
namespace Ex
namespace Tr

/-- As SeqW; what is left early (Jx) hangs on the iterator's own blocks too, which it may still write. -/
def SeqX {α : Type} (F : Fence) (n : Nat) (P : Program) (g : Nat) (lb : Array Value) (encs : α → Array Value) (Kp : World → World → Prop) (xs : List α) (w : World) : Prop :=
  ∀ (l : Nat) (J Jx : (Nat → Prop) → List α → World → Prop) (W : World), Kp w W → w.heap.size ≤ W.heap.size → StableW J → StableW Jx →
    (∀ T pre x W1, J T pre W1 → (pre ++ [x]) <+: xs → (∀ b, T b → W.heap.size ≤ b ∧ b < W1.heap.size) → YieldAt F (n - 1) P l (encs x) W1 fun e W' =>
      (e = .returned (.bool true) ∧ J T (pre ++ [x]) W' ∧ Kp W1 W' ∧ W1.heap.size ≤ W'.heap.size ∧ ∀ b, T b → W'.heap[b]? = W1.heap[b]?) ∨ (e = .returned (.bool false) ∧ Jx T (pre ++ [x]) W' ∧ W1.heap.size ≤ W'.heap.size ∧ ∀ b, T b → W'.heap[b]? = W1.heap[b]?)) →
    J (fun _ => False) [] W →
    CallsIn F n P g (#[.func (.yield l) #[] #[]] ++ lb) W fun e W' => (∃ v, e = .returned v) ∧ ((∃ T, J T xs W' ∧ ∀ b, T b → W.heap.size ≤ b ∧ b < W'.heap.size) ∨ ∃ T pre, pre <+: xs ∧ Jx T pre W' ∧ ∀ b, T b → W.heap.size ≤ b ∧ b < W'.heap.size)
theorem SeqW.x {α : Type} {F : Fence} {n : Nat} {P : Program} {g : Nat} {lb : Array Value} {encs : α → Array Value} {Kp : World → World → Prop} {xs : List α} {w : World} (h : SeqW F n P g lb encs Kp xs w) : SeqX F n P g lb encs Kp xs w := by
  intro l J Jx W hK hs hJ hJx hY h0
  refine (h l J (fun pre W' => ∃ T, Jx T pre W' ∧ ∀ b, T b → W.heap.size ≤ b ∧ b < W'.heap.size) W hK hs hJ ?_ h0).mono ?_
  · intro T pre x W1 hj hpre hT
    obtain ⟨fn, tmps, assign, body, hy, hr⟩ := hY T pre x W1 hj hpre hT
    refine ⟨fn, tmps, assign, body, hy, hr.mono ?_⟩
    rintro e W' (h1 | ⟨h1, h2, h3, h4⟩)
    · exact Or.inl h1
    · exact Or.inr ⟨h1, T, h2, fun b hb => by have := hT b hb; omega⟩
  · rintro e W' ⟨hv, h1 | ⟨pre, hp, T, h2, h3⟩⟩
    · exact ⟨hv, Or.inl h1⟩
    · exact ⟨hv, Or.inr ⟨T, pre, hp, h2, h3⟩⟩
/-- How the body of a round may be left. -/
def postX {α : Type} (T : Nat → Prop) (Kp : World → World → Prop) (I : (Nat → Prop) → List α → World → Prop) (Ix : Code → (Nat → Prop) → List α → World → Prop) (xs : List α) (W : World) : Exit → Act → World → Prop
  | .normal, _, W' => W.heap.size ≤ W'.heap.size ∧ (∀ b, T b → W'.heap[b]? = W.heap[b]?) ∧ Kp W W' ∧ I T xs W'
  | .ret, _, W' => W.heap.size ≤ W'.heap.size ∧ (∀ b, T b → W'.heap[b]? = W.heap[b]?) ∧ Ix .ret T xs W'
  | .exit id, _, W' => W.heap.size ≤ W'.heap.size ∧ (∀ b, T b → W'.heap[b]? = W.heap[b]?) ∧ Ix (.exit id) T xs W'
  | .goto t, _, W' => W.heap.size ≤ W'.heap.size ∧ (∀ b, T b → W'.heap[b]? = W.heap[b]?) ∧ Ix (.goto t) T xs W'
  | .panic _, _, _ => False
  | .outgrown, _, _ => False
theorem roundX {n n' l0 l : Nat} {P : Program} {f : FuncId} {tmps : Array Value} {assign body : Code} {w : World} {R : Ending → World → Prop} (h : RoundIn Fence.wide n P l f tmps assign body w R) : RoundIn (Fence.wide.inRound l0) n' P l f tmps assign body w R := ⟨trivial, fun c cs _ => h.2 c cs (room_wide _)⟩
theorem roundY {n n' l : Nat} {P : Program} {f : FuncId} {tmps : Array Value} {assign body : Code} {w : World} {R : Ending → World → Prop} (h : RoundIn Fence.wide n P l f tmps assign body w R) : RoundIn Fence.wide n' P l f tmps assign body w R := ⟨trivial, fun c cs _ => h.2 c cs (room_wide _)⟩

/-- The statement 'range' over such an iterator. -/
theorem range_X {F : Fence} {n : Nat} {P : Program} {α : Type} {g : Operand} {ps : Array Tmp} {assign body : Code} {Q : Exit → Act → World → Prop} {a : Act} {w : World}
    (hro : F.round = none) (h1 : 1 ≤ n) {gf : Nat} {lb : Array Value} (hg : a.eval g = .func (.func gf) #[] lb) (hFg : F.fn gf) (eg : ∀ args w, (callFunc gf args).run P w = .ok (.enter gf args) w)
    {encs : α → Array Value} {Kp : World → World → Prop} {xs : List α} (hseq : SeqX F (n - 1) P gf lb encs Kp xs w)
    (hKp : ∀ (A A' : World), w.heap.size ≤ A.heap.size → A.heap.size ≤ A'.heap.size → (∀ k, k < w.heap.size → A'.heap[k]? = A.heap[k]?) → Kp A A') (hKt : ∀ {A B C : World}, Kp A B → Kp B C → Kp A C) (hps : ∀ x, (encs x).size = ps.size)
    (I : (Nat → Prop) → List α → World → Prop) (Ix : Code → (Nat → Prop) → List α → World → Prop) (hI : StableW I) (hIx : ∀ c, StableW (Ix c)) (h0 : I (fun _ => False) [] w) (a₁ : α → Act)
    (hassign : ∀ (l : Nat) (x : α) (W : World) (K : Act → World → Prop), K (a₁ x) W →
      assign.wpIn (F.inRound l) (n - 1 - 1) P (Exit.then K (fun _ _ _ => False)) { tmps := (ps.zip (encs x)).foldl (fun t (p, v) => t.setIfInBounds p v) a.tmps, defers := [] } W)
    (hbody : ∀ (T : Nat → Prop) (pre : List α) (x : α) (W : World), I T pre W → (pre ++ [x]) <+: xs → (∀ b, T b → w.heap.size ≤ b ∧ b < W.heap.size) → T w.heap.size → T (w.heap.size + 1) → w.heap.size ≤ W.heap.size → (∃ r : Loop, r.defers = w.heap.size ∧ W.heap[w.heap.size + 1]? = some (.loop r)) →
      body.wpIn (F.inRound (w.heap.size + 1)) (n - 1 - 1) P (postX T Kp I Ix (pre ++ [x]) W) (a₁ x) W)
    (hdone : ∀ (T : Nat → Prop) (W : World), I T xs W → W.heap[w.heap.size]? = some (.deferred (some [])) → (∀ b, T b → w.heap.size ≤ b ∧ b < W.heap.size) → T w.heap.size → T (w.heap.size + 1) → Q .normal { a with defers := { target := .collected w.heap.size, args := #[] } :: a.defers } W)
    (hstop : ∀ (T : Nat → Prop) (c : Code) (pre : List α) (W : World), pre <+: xs → Ix c T pre W → W.heap[w.heap.size]? = some (.deferred (some [])) → (∀ b, T b → w.heap.size ≤ b ∧ b < W.heap.size) → T w.heap.size → T (w.heap.size + 1) → c.wpIn F n P Q { a with defers := { target := .collected w.heap.size, args := #[] } :: a.defers } W) :
    (Code.rangeFunc g ps assign body).wpIn F n P Q a w := by
  refine wpIn_rangeFunc ?_
  intro fn hfn
  rw [hro]
  obtain ⟨rec, hrec⟩ : ∃ rec : LoopState → Option Code → Loop, rec = fun st pe => { state := st, pending := pe, fn, tmps := a.tmps, params := ps, assign, body, defers := w.heap.size } := ⟨_, rfl⟩
  obtain ⟨W1, hW1⟩ : ∃ W1, (w.alloc (.deferred (some []))).alloc (.loop (rec .ready none)) = W1 := ⟨_, rfl⟩
  have hsz : W1.heap.size = w.heap.size + 2 := by rw [← hW1]; simp
  have hbw : Below w.heap.size w W1 := by rw [← hW1]; exact ((Below.refl _ w).alloc (Nat.le_refl _) _).alloc (by simp) _
  have hL1 : W1.heap[w.heap.size + 1]? = some (.loop (rec .ready none)) := by
    have := World.alloc_heap_new (w.alloc (.deferred (some []))) (.loop (rec .ready none))
    rw [← hW1]; rwa [World.size_alloc] at this
  have hD1 : W1.heap[w.heap.size]? = some (.deferred (some [])) := by
    rw [← hW1]; exact (Below.heap_alloc _ _ _ (by simp)).trans (World.alloc_heap_new w _)
  obtain ⟨U, hU⟩ : ∃ U : (Nat → Prop) → Nat → Prop, U = fun T b => T b ∨ b = w.heap.size ∨ b = w.heap.size + 1 := ⟨_, rfl⟩
  have hU0 : ∀ T, U T w.heap.size := fun T => by rw [hU]; exact Or.inr (Or.inl rfl)
  have hU1 : ∀ T, U T (w.heap.size + 1) := fun T => by rw [hU]; exact Or.inr (Or.inr rfl)
  have hUT : ∀ T b, T b → U T b := fun T b h => by rw [hU]; exact Or.inl h
  have hUb : ∀ T (W : World), W1.heap.size ≤ W.heap.size → (∀ b, T b → W1.heap.size ≤ b ∧ b < W.heap.size) → ∀ b, U T b → w.heap.size ≤ b ∧ b < W.heap.size := fun T W hW h b hb => by
    rw [hU] at hb
    rcases hb with hb | rfl | rfl
    · have := h b hb; omega
    · omega
    · omega
  have hstep1 : StepW (fun _ => False) (U fun _ => False) w W1 := ⟨hbw.os, hbw.tape, hbw.output, hbw.size, fun k hk _ => hbw.block k hk, fun b hb => by
    rw [hU] at hb
    rcases hb with hb | rfl | rfl
    · exact hb.elim
    · exact Or.inr ⟨Nat.le_refl _, by omega⟩
    · exact Or.inr ⟨by omega, by omega⟩⟩
  refine ⟨w.heap.size + 1, [{ target := .collected w.heap.size, args := #[] }], W1, { target := .fn (.func gf) lb, args := #[.func (.yield (w.heap.size + 1)) #[] #[]] }, W1, gf,
    #[.func (.yield (w.heap.size + 1)) #[] #[]] ++ lb, W1, ?_, ?_, ?_, ?_, fun _ => h1, ?_⟩
  · rw [← hW1, hrec]; exact run_enterLoop_outer _ _ _ _ _
  · simp only [resolve, hg]
    simp [go_sem]
  · intro f' hf'; simp [Target.leads] at hf'; subst hf'; exact hFg
  · simp [invoke, go_sem, eg]
  refine (hseq (w.heap.size + 1)
    (fun T pre W => I (U T) pre W ∧ W1.heap.size ≤ W.heap.size ∧ (∀ b, T b → W1.heap.size ≤ b) ∧ W.heap[w.heap.size + 1]? = some (.loop (rec .ready none)) ∧ W.heap[w.heap.size]? = some (.deferred (some [])))
    (fun T pre W => ∃ c, Ix c (U T) pre W ∧ W1.heap.size ≤ W.heap.size ∧ (∀ b, T b → W1.heap.size ≤ b) ∧ W.heap[w.heap.size + 1]? = some (.loop (rec .done (some c))) ∧ W.heap[w.heap.size]? = some (.deferred (some [])))
    W1 (hKp _ _ (Nat.le_refl _) hbw.size (fun k hk => hbw.block k hk)) hbw.size ?_ ?_ ?_ ⟨hI _ _ _ _ _ h0 hstep1, Nat.le_refl _, fun _ h => h.elim, hL1, hD1⟩).mono ?_
  · rintro T T' s A A' ⟨g1, g0, gT, g2, g3⟩ hs
    have hn : ∀ k, k < W1.heap.size → ¬ T k := fun k hk h => by have := gT k h; omega
    refine ⟨hI _ _ s A A' g1 ⟨hs.1, hs.2.1, hs.2.2.1, hs.2.2.2.1, fun k hk hr => hs.2.2.2.2.1 k hk (fun e => hr (hUT T k e)), fun b hb => ?_⟩, Nat.le_trans g0 hs.2.2.2.1, fun b hb => ?_, ?_, ?_⟩
    · rw [hU] at hb ⊢
      rcases hb with hb | hb
      · exact (hs.2.2.2.2.2 b hb).imp Or.inl id
      · exact Or.inl (Or.inr hb)
    · rcases hs.2.2.2.2.2 b hb with h | h
      · exact gT b h
      · omega
    · rw [hs.2.2.2.2.1 _ (Array.getElem?_eq_some_iff.1 g2).1 (hn _ (by omega))]; exact g2
    · rw [hs.2.2.2.2.1 _ (Array.getElem?_eq_some_iff.1 g3).1 (hn _ (by omega))]; exact g3
  · rintro T T' s A A' ⟨c, g1, g0, gT, g2, g3⟩ hs
    have hn : ∀ k, k < W1.heap.size → ¬ T k := fun k hk h => by have := gT k h; omega
    refine ⟨c, hIx c _ _ s A A' g1 ⟨hs.1, hs.2.1, hs.2.2.1, hs.2.2.2.1, fun k hk hr => hs.2.2.2.2.1 k hk (fun e => hr (hUT T k e)), fun b hb => ?_⟩, Nat.le_trans g0 hs.2.2.2.1, fun b hb => ?_, ?_, ?_⟩
    · rw [hU] at hb ⊢
      rcases hb with hb | hb
      · exact (hs.2.2.2.2.2 b hb).imp Or.inl id
      · exact Or.inl (Or.inr hb)
    · rcases hs.2.2.2.2.2 b hb with h | h
      · exact gT b h
      · omega
    · rw [hs.2.2.2.2.1 _ (Array.getElem?_eq_some_iff.1 g2).1 (hn _ (by omega))]; exact g2
    · rw [hs.2.2.2.2.1 _ (Array.getElem?_eq_some_iff.1 g3).1 (hn _ (by omega))]; exact g3
  · rintro T pre x W ⟨hi, hsw, hTw, hl, hk⟩ hpre hTb
    have hlt : w.heap.size + 1 < W.heap.size := (Array.getElem?_eq_some_iff.1 hl).1
    have hy := run_yield (P := P) (args := encs x) hl (by rw [hrec]; exact hps x)
    rw [hrec] at hy
    refine ⟨fn, _, assign, body, hy, roundIn_of_wpIn hfn (hassign _ x W _ ⟨_, run_beginRound hl (by rw [hrec]), ?_⟩)⟩
    obtain ⟨W2, hW2⟩ : ∃ W2, W.putObj (w.heap.size + 1) (.loop { rec .ready none with state := .busy }) = W2 := ⟨_, rfl⟩
    have hs2 : StepW (U T) (U T) W W2 := by rw [← hW2]; exact StepW.put _ (hU1 T)
    have hl2 : W2.heap[w.heap.size + 1]? = some (.loop { rec .ready none with state := .busy }) := by rw [← hW2]; exact World.putObj_heap_same hlt
    have hk2 : W2.heap[w.heap.size]? = some (.deferred (some [])) := by rw [← hW2]; exact (World.putObj_heap_other (by omega)).trans hk
    have hT2 : ∀ b, T b → W2.heap[b]? = W.heap[b]? := fun b hb => by rw [← hW2]; exact World.putObj_heap_other (by have := hTw b hb; omega)
    have hsz2 : W2.heap.size = W.heap.size := by rw [← hW2]; simp
    have hkp2 : Kp W W2 := hKp _ _ (by omega) (by omega) (fun k hk => by rw [← hW2]; exact World.putObj_heap_other (by omega))
    have hbd := hbody (U T) pre x W2 (hI _ _ _ _ _ hi hs2) hpre (hUb T W2 (by omega) (fun b hb => by have := hTb b hb; omega)) (hU0 T) (hU1 T) (by omega) ⟨_, by rw [hrec], hl2⟩
    have fin : ∀ (jump : Option Code) (W3 : World), (∀ b, U T b → W3.heap[b]? = W2.heap[b]?) →
        (Instr.endRound (w.heap.size + 1) jump).run P W3 = .ok (.bool jump.isNone) (W3.putObj (w.heap.size + 1) (.loop (rec (if jump.isNone then .ready else .done) jump))) ∧
        (W3.putObj (w.heap.size + 1) (.loop (rec (if jump.isNone then .ready else .done) jump))).heap[w.heap.size + 1]? = some (.loop (rec (if jump.isNone then .ready else .done) jump)) ∧
        (W3.putObj (w.heap.size + 1) (.loop (rec (if jump.isNone then .ready else .done) jump))).heap[w.heap.size]? = some (.deferred (some [])) := by
      intro jump W3 hk3
      have hl3 := (hk3 _ (hU1 T)).trans hl2
      have hr := run_endRound (P := P) jump hl3
      rw [hrec] at hr ⊢
      exact ⟨hr, World.putObj_heap_same (Array.getElem?_eq_some_iff.1 hl3).1, (World.putObj_heap_other (by omega)).trans ((hk3 _ (hU0 T)).trans hk2)⟩
    rw [hW2]
    refine wpIn_mono hbd ?_
    rintro e a3 W3 hp
    cases e with
    | normal =>
      obtain ⟨hs3, hk3, hkp3, hi3⟩ := hp
      obtain ⟨hr, hl4, hk4⟩ := fin none W3 hk3
      refine ⟨_, _, hr, .inl ⟨rfl, ⟨hI _ _ _ _ _ hi3 (StepW.put _ (hU1 T)), by simp; omega, hTw, hl4, hk4⟩, ?_, by simp; omega, fun b hb => ?_⟩⟩
      · exact hKt (hKt hkp2 hkp3) (hKp _ _ (by omega) (by simp) (fun k hk => World.putObj_heap_other (by omega)))
      · rw [World.putObj_heap_other (by have := hTw b hb; omega), hk3 b (hUT T b hb), hT2 b hb]
    | ret =>
      obtain ⟨hs3, hk3, hi3⟩ := hp
      obtain ⟨hr, hl4, hk4⟩ := fin (some .ret) W3 hk3
      exact ⟨_, _, hr, .inr ⟨rfl, ⟨.ret, hIx _ _ _ _ _ _ hi3 (StepW.put _ (hU1 T)), by simp; omega, hTw, hl4, hk4⟩, by simp; omega, fun b hb => by rw [World.putObj_heap_other (by have := hTw b hb; omega), hk3 b (hUT T b hb), hT2 b hb]⟩⟩
    | exit id =>
      obtain ⟨hs3, hk3, hi3⟩ := hp
      obtain ⟨hr, hl4, hk4⟩ := fin (some (.exit id)) W3 hk3
      exact ⟨_, _, hr, .inr ⟨rfl, ⟨.exit id, hIx _ _ _ _ _ _ hi3 (StepW.put _ (hU1 T)), by simp; omega, hTw, hl4, hk4⟩, by simp; omega, fun b hb => by rw [World.putObj_heap_other (by have := hTw b hb; omega), hk3 b (hUT T b hb), hT2 b hb]⟩⟩
    | goto t =>
      obtain ⟨hs3, hk3, hi3⟩ := hp
      obtain ⟨hr, hl4, hk4⟩ := fin (some (.goto t)) W3 hk3
      exact ⟨_, _, hr, .inr ⟨rfl, ⟨.goto t, hIx _ _ _ _ _ _ hi3 (StepW.put _ (hU1 T)), by simp; omega, hTw, hl4, hk4⟩, by simp; omega, fun b hb => by rw [World.putObj_heap_other (by have := hTw b hb; omega), hk3 b (hUT T b hb), hT2 b hb]⟩⟩
    | panic ch => exact hp.elim
    | outgrown => exact hp.elim
  · rintro e W2 ⟨⟨v, rfl⟩, (⟨T, ⟨hi, hsw, hTw, hl, hk⟩, hTb⟩ | ⟨T, pre, hSp, ⟨c, hi, hsw, hTw, hl, hk⟩, hTb⟩)⟩
    · refine ⟨none, _, by have := run_endLoop (P := P) hl (by rw [hrec]; simp); rw [hrec] at this; exact this, hdone (U T) _ (hI _ _ _ _ _ hi (StepW.put _ (hU1 T))) ((World.putObj_heap_other (by omega)).trans hk) ?_ (hU0 T) (hU1 T)⟩
      exact hUb T _ (by simp; omega) (fun b hb => by have := hTb b hb; simp; omega)
    · exact ⟨some c, _, by have := run_endLoop (P := P) hl (by rw [hrec]; simp); rw [hrec] at this; exact this, hstop (U T) c pre _ hSp (hIx c _ _ _ _ _ hi (StepW.put _ (hU1 T))) ((World.putObj_heap_other (by omega)).trans hk) (hUb T _ (by simp; omega) (fun b hb => by have := hTb b hb; simp; omega)) (hU0 T) (hU1 T)⟩

end Tr
end Ex
end Go.Proofs.Yteckbpmliahhhaa
namespace Go.Proofs.Yteckbpmliahhhaa
open Go.RowKit
attribute [local go_sem] Oper.semAt_some
namespace Ex
namespace Tr

/-- The same where a round's variables lie in blocks that each round makes. -/
theorem range_A {F : Fence} {n : Nat} {P : Program} {α : Type} {g : Operand} {ps : Array Tmp} {assign body : Code} {Q : Exit → Act → World → Prop} {a : Act} {w : World}
    (hro : F.round = none) (h1 : 1 ≤ n) {gf : Nat} {lb : Array Value} (hg : a.eval g = .func (.func gf) #[] lb) (hFg : F.fn gf) (eg : ∀ args w, (callFunc gf args).run P w = .ok (.enter gf args) w)
    {encs : α → Array Value} {Kp : World → World → Prop} {xs : List α} (hseq : SeqX F (n - 1) P gf lb encs Kp xs w)
    (hKp : ∀ (A A' : World), w.heap.size ≤ A.heap.size → A.heap.size ≤ A'.heap.size → (∀ k, k < w.heap.size → A'.heap[k]? = A.heap[k]?) → Kp A A') (hKt : ∀ {A B C : World}, Kp A B → Kp B C → Kp A C) (hps : ∀ x, (encs x).size = ps.size)
    (I : (Nat → Prop) → List α → World → Prop) (Ix : Code → (Nat → Prop) → List α → World → Prop) (hI : StableW I) (hIx : ∀ c, StableW (Ix c)) (h0 : I (fun _ => False) [] w) (asg : α → World → World) (hasg : ∀ x W, Kept W (asg x W)) (a₁ : α → World → Act)
    (hassign : ∀ (l : Nat) (x : α) (W : World) (K : Act → World → Prop), K (a₁ x W) (asg x W) →
      assign.wpIn (F.inRound l) (n - 1 - 1) P (Exit.then K (fun _ _ _ => False)) { tmps := (ps.zip (encs x)).foldl (fun t (p, v) => t.setIfInBounds p v) a.tmps, defers := [] } W)
    (hbody : ∀ (T : Nat → Prop) (pre : List α) (x : α) (W0 W : World), w.heap.size ≤ W0.heap.size → (∀ b, T b → b < W0.heap.size) → (∀ k, W0.heap.size ≤ k → W.heap[k]? = (asg x W0).heap[k]?) → W.heap.size = (asg x W0).heap.size → I T pre W → (pre ++ [x]) <+: xs → (∀ b, T b → w.heap.size ≤ b ∧ b < W.heap.size) → T w.heap.size → T (w.heap.size + 1) → w.heap.size ≤ W.heap.size → (∃ r : Loop, r.defers = w.heap.size ∧ W.heap[w.heap.size + 1]? = some (.loop r)) →
      body.wpIn (F.inRound (w.heap.size + 1)) (n - 1 - 1) P (postX T Kp I Ix (pre ++ [x]) W) (a₁ x W0) W)
    (hdone : ∀ (T : Nat → Prop) (W : World), I T xs W → W.heap[w.heap.size]? = some (.deferred (some [])) → (∀ b, T b → w.heap.size ≤ b ∧ b < W.heap.size) → T w.heap.size → T (w.heap.size + 1) → Q .normal { a with defers := { target := .collected w.heap.size, args := #[] } :: a.defers } W)
    (hstop : ∀ (T : Nat → Prop) (c : Code) (pre : List α) (W : World), pre <+: xs → Ix c T pre W → W.heap[w.heap.size]? = some (.deferred (some [])) → (∀ b, T b → w.heap.size ≤ b ∧ b < W.heap.size) → T w.heap.size → T (w.heap.size + 1) → c.wpIn F n P Q { a with defers := { target := .collected w.heap.size, args := #[] } :: a.defers } W) :
    (Code.rangeFunc g ps assign body).wpIn F n P Q a w := by
  refine wpIn_rangeFunc ?_
  intro fn hfn
  rw [hro]
  obtain ⟨rec, hrec⟩ : ∃ rec : LoopState → Option Code → Loop, rec = fun st pe => { state := st, pending := pe, fn, tmps := a.tmps, params := ps, assign, body, defers := w.heap.size } := ⟨_, rfl⟩
  obtain ⟨W1, hW1⟩ : ∃ W1, (w.alloc (.deferred (some []))).alloc (.loop (rec .ready none)) = W1 := ⟨_, rfl⟩
  have hsz : W1.heap.size = w.heap.size + 2 := by rw [← hW1]; simp
  have hbw : Below w.heap.size w W1 := by rw [← hW1]; exact ((Below.refl _ w).alloc (Nat.le_refl _) _).alloc (by simp) _
  have hL1 : W1.heap[w.heap.size + 1]? = some (.loop (rec .ready none)) := by
    have := World.alloc_heap_new (w.alloc (.deferred (some []))) (.loop (rec .ready none))
    rw [← hW1]; rwa [World.size_alloc] at this
  have hD1 : W1.heap[w.heap.size]? = some (.deferred (some [])) := by
    rw [← hW1]; exact (Below.heap_alloc _ _ _ (by simp)).trans (World.alloc_heap_new w _)
  obtain ⟨U, hU⟩ : ∃ U : (Nat → Prop) → Nat → Prop, U = fun T b => T b ∨ b = w.heap.size ∨ b = w.heap.size + 1 := ⟨_, rfl⟩
  have hU0 : ∀ T, U T w.heap.size := fun T => by rw [hU]; exact Or.inr (Or.inl rfl)
  have hU1 : ∀ T, U T (w.heap.size + 1) := fun T => by rw [hU]; exact Or.inr (Or.inr rfl)
  have hUT : ∀ T b, T b → U T b := fun T b h => by rw [hU]; exact Or.inl h
  have hUb : ∀ T (W : World), W1.heap.size ≤ W.heap.size → (∀ b, T b → W1.heap.size ≤ b ∧ b < W.heap.size) → ∀ b, U T b → w.heap.size ≤ b ∧ b < W.heap.size := fun T W hW h b hb => by
    rw [hU] at hb
    rcases hb with hb | rfl | rfl
    · have := h b hb; omega
    · omega
    · omega
  have hstep1 : StepW (fun _ => False) (U fun _ => False) w W1 := ⟨hbw.os, hbw.tape, hbw.output, hbw.size, fun k hk _ => hbw.block k hk, fun b hb => by
    rw [hU] at hb
    rcases hb with hb | rfl | rfl
    · exact hb.elim
    · exact Or.inr ⟨Nat.le_refl _, by omega⟩
    · exact Or.inr ⟨by omega, by omega⟩⟩
  refine ⟨w.heap.size + 1, [{ target := .collected w.heap.size, args := #[] }], W1, { target := .fn (.func gf) lb, args := #[.func (.yield (w.heap.size + 1)) #[] #[]] }, W1, gf,
    #[.func (.yield (w.heap.size + 1)) #[] #[]] ++ lb, W1, ?_, ?_, ?_, ?_, fun _ => h1, ?_⟩
  · rw [← hW1, hrec]; exact run_enterLoop_outer _ _ _ _ _
  · simp only [resolve, hg]
    simp [go_sem]
  · intro f' hf'; simp [Target.leads] at hf'; subst hf'; exact hFg
  · simp [invoke, go_sem, eg]
  refine (hseq (w.heap.size + 1)
    (fun T pre W => I (U T) pre W ∧ W1.heap.size ≤ W.heap.size ∧ (∀ b, T b → W1.heap.size ≤ b) ∧ W.heap[w.heap.size + 1]? = some (.loop (rec .ready none)) ∧ W.heap[w.heap.size]? = some (.deferred (some [])))
    (fun T pre W => ∃ c, Ix c (U T) pre W ∧ W1.heap.size ≤ W.heap.size ∧ (∀ b, T b → W1.heap.size ≤ b) ∧ W.heap[w.heap.size + 1]? = some (.loop (rec .done (some c))) ∧ W.heap[w.heap.size]? = some (.deferred (some [])))
    W1 (hKp _ _ (Nat.le_refl _) hbw.size (fun k hk => hbw.block k hk)) hbw.size ?_ ?_ ?_ ⟨hI _ _ _ _ _ h0 hstep1, Nat.le_refl _, fun _ h => h.elim, hL1, hD1⟩).mono ?_
  · rintro T T' s A A' ⟨g1, g0, gT, g2, g3⟩ hs
    have hn : ∀ k, k < W1.heap.size → ¬ T k := fun k hk h => by have := gT k h; omega
    refine ⟨hI _ _ s A A' g1 ⟨hs.1, hs.2.1, hs.2.2.1, hs.2.2.2.1, fun k hk hr => hs.2.2.2.2.1 k hk (fun e => hr (hUT T k e)), fun b hb => ?_⟩, Nat.le_trans g0 hs.2.2.2.1, fun b hb => ?_, ?_, ?_⟩
    · rw [hU] at hb ⊢
      rcases hb with hb | hb
      · exact (hs.2.2.2.2.2 b hb).imp Or.inl id
      · exact Or.inl (Or.inr hb)
    · rcases hs.2.2.2.2.2 b hb with h | h
      · exact gT b h
      · omega
    · rw [hs.2.2.2.2.1 _ (Array.getElem?_eq_some_iff.1 g2).1 (hn _ (by omega))]; exact g2
    · rw [hs.2.2.2.2.1 _ (Array.getElem?_eq_some_iff.1 g3).1 (hn _ (by omega))]; exact g3
  · rintro T T' s A A' ⟨c, g1, g0, gT, g2, g3⟩ hs
    have hn : ∀ k, k < W1.heap.size → ¬ T k := fun k hk h => by have := gT k h; omega
    refine ⟨c, hIx c _ _ s A A' g1 ⟨hs.1, hs.2.1, hs.2.2.1, hs.2.2.2.1, fun k hk hr => hs.2.2.2.2.1 k hk (fun e => hr (hUT T k e)), fun b hb => ?_⟩, Nat.le_trans g0 hs.2.2.2.1, fun b hb => ?_, ?_, ?_⟩
    · rw [hU] at hb ⊢
      rcases hb with hb | hb
      · exact (hs.2.2.2.2.2 b hb).imp Or.inl id
      · exact Or.inl (Or.inr hb)
    · rcases hs.2.2.2.2.2 b hb with h | h
      · exact gT b h
      · omega
    · rw [hs.2.2.2.2.1 _ (Array.getElem?_eq_some_iff.1 g2).1 (hn _ (by omega))]; exact g2
    · rw [hs.2.2.2.2.1 _ (Array.getElem?_eq_some_iff.1 g3).1 (hn _ (by omega))]; exact g3
  · rintro T pre x W ⟨hi, hsw, hTw, hl, hk⟩ hpre hTb
    have hlt : w.heap.size + 1 < W.heap.size := (Array.getElem?_eq_some_iff.1 hl).1
    have hy := run_yield (P := P) (args := encs x) hl (by rw [hrec]; exact hps x)
    rw [hrec] at hy
    have hkA := hasg x W
    have hlA : (asg x W).heap[w.heap.size + 1]? = some (.loop (rec .ready none)) := (hkA.2.2.2.2 _ hlt).trans hl
    have hltA : w.heap.size + 1 < (asg x W).heap.size := Nat.lt_of_lt_of_le hlt hkA.2.2.2.1
    have hstA : StepW (U T) (U T) W (asg x W) := ⟨hkA.1, hkA.2.1, hkA.2.2.1, hkA.2.2.2.1, fun k hk _ => hkA.2.2.2.2 k hk, fun _ h => Or.inl h⟩
    refine ⟨fn, _, assign, body, hy, roundIn_of_wpIn hfn (hassign _ x W _ ⟨_, run_beginRound hlA (by rw [hrec]), ?_⟩)⟩
    obtain ⟨W2, hW2⟩ : ∃ W2, (asg x W).putObj (w.heap.size + 1) (.loop { rec .ready none with state := .busy }) = W2 := ⟨_, rfl⟩
    have hs2 : StepW (U T) (U T) (asg x W) W2 := by rw [← hW2]; exact StepW.put _ (hU1 T)
    have hl2 : W2.heap[w.heap.size + 1]? = some (.loop { rec .ready none with state := .busy }) := by rw [← hW2]; exact World.putObj_heap_same hltA
    have hk2 : W2.heap[w.heap.size]? = some (.deferred (some [])) := by rw [← hW2]; exact (World.putObj_heap_other (by omega)).trans ((hkA.2.2.2.2 _ (by omega)).trans hk)
    have hTl : ∀ b, T b → b < W.heap.size := fun b hb => (hTb b hb).2
    have hT2 : ∀ b, T b → W2.heap[b]? = W.heap[b]? := fun b hb => by rw [← hW2]; exact (World.putObj_heap_other (by have := hTw b hb; omega)).trans (hkA.2.2.2.2 b (hTl b hb))
    have hszA := hkA.2.2.2.1
    have hsz2 : W2.heap.size = (asg x W).heap.size := by rw [← hW2]; simp
    have hkp2 : Kp W W2 := hKp _ _ (by omega) (by omega) (fun k hk => by rw [← hW2]; exact (World.putObj_heap_other (by omega)).trans (hkA.2.2.2.2 k (by omega)))
    have hbd := hbody (U T) pre x W W2 (by omega) (fun b hb => by rw [hU] at hb; rcases hb with hb | rfl | rfl; exact hTl b hb; omega; omega) (fun k hk => by rw [← hW2]; exact World.putObj_heap_other (by omega)) hsz2 (hI _ _ _ _ _ (hI _ _ _ _ _ hi hstA) hs2) hpre (hUb T W2 (by omega) (fun b hb => by have := hTb b hb; omega)) (hU0 T) (hU1 T) (by omega) ⟨_, by rw [hrec], hl2⟩
    have fin : ∀ (jump : Option Code) (W3 : World), (∀ b, U T b → W3.heap[b]? = W2.heap[b]?) →
        (Instr.endRound (w.heap.size + 1) jump).run P W3 = .ok (.bool jump.isNone) (W3.putObj (w.heap.size + 1) (.loop (rec (if jump.isNone then .ready else .done) jump))) ∧
        (W3.putObj (w.heap.size + 1) (.loop (rec (if jump.isNone then .ready else .done) jump))).heap[w.heap.size + 1]? = some (.loop (rec (if jump.isNone then .ready else .done) jump)) ∧
        (W3.putObj (w.heap.size + 1) (.loop (rec (if jump.isNone then .ready else .done) jump))).heap[w.heap.size]? = some (.deferred (some [])) := by
      intro jump W3 hk3
      have hl3 := (hk3 _ (hU1 T)).trans hl2
      have hr := run_endRound (P := P) jump hl3
      rw [hrec] at hr ⊢
      exact ⟨hr, World.putObj_heap_same (Array.getElem?_eq_some_iff.1 hl3).1, (World.putObj_heap_other (by omega)).trans ((hk3 _ (hU0 T)).trans hk2)⟩
    rw [hW2]
    refine wpIn_mono hbd ?_
    rintro e a3 W3 hp
    cases e with
    | normal =>
      obtain ⟨hs3, hk3, hkp3, hi3⟩ := hp
      obtain ⟨hr, hl4, hk4⟩ := fin none W3 hk3
      refine ⟨_, _, hr, .inl ⟨rfl, ⟨hI _ _ _ _ _ hi3 (StepW.put _ (hU1 T)), by simp; omega, hTw, hl4, hk4⟩, ?_, by simp; omega, fun b hb => ?_⟩⟩
      · exact hKt (hKt hkp2 hkp3) (hKp _ _ (by omega) (by simp) (fun k hk => World.putObj_heap_other (by omega)))
      · rw [World.putObj_heap_other (by have := hTw b hb; omega), hk3 b (hUT T b hb), hT2 b hb]
    | ret =>
      obtain ⟨hs3, hk3, hi3⟩ := hp
      obtain ⟨hr, hl4, hk4⟩ := fin (some .ret) W3 hk3
      exact ⟨_, _, hr, .inr ⟨rfl, ⟨.ret, hIx _ _ _ _ _ _ hi3 (StepW.put _ (hU1 T)), by simp; omega, hTw, hl4, hk4⟩, by simp; omega, fun b hb => by rw [World.putObj_heap_other (by have := hTw b hb; omega), hk3 b (hUT T b hb), hT2 b hb]⟩⟩
    | exit id =>
      obtain ⟨hs3, hk3, hi3⟩ := hp
      obtain ⟨hr, hl4, hk4⟩ := fin (some (.exit id)) W3 hk3
      exact ⟨_, _, hr, .inr ⟨rfl, ⟨.exit id, hIx _ _ _ _ _ _ hi3 (StepW.put _ (hU1 T)), by simp; omega, hTw, hl4, hk4⟩, by simp; omega, fun b hb => by rw [World.putObj_heap_other (by have := hTw b hb; omega), hk3 b (hUT T b hb), hT2 b hb]⟩⟩
    | goto t =>
      obtain ⟨hs3, hk3, hi3⟩ := hp
      obtain ⟨hr, hl4, hk4⟩ := fin (some (.goto t)) W3 hk3
      exact ⟨_, _, hr, .inr ⟨rfl, ⟨.goto t, hIx _ _ _ _ _ _ hi3 (StepW.put _ (hU1 T)), by simp; omega, hTw, hl4, hk4⟩, by simp; omega, fun b hb => by rw [World.putObj_heap_other (by have := hTw b hb; omega), hk3 b (hUT T b hb), hT2 b hb]⟩⟩
    | panic ch => exact hp.elim
    | outgrown => exact hp.elim
  · rintro e W2 ⟨⟨v, rfl⟩, (⟨T, ⟨hi, hsw, hTw, hl, hk⟩, hTb⟩ | ⟨T, pre, hSp, ⟨c, hi, hsw, hTw, hl, hk⟩, hTb⟩)⟩
    · refine ⟨none, _, by have := run_endLoop (P := P) hl (by rw [hrec]; simp); rw [hrec] at this; exact this, hdone (U T) _ (hI _ _ _ _ _ hi (StepW.put _ (hU1 T))) ((World.putObj_heap_other (by omega)).trans hk) ?_ (hU0 T) (hU1 T)⟩
      exact hUb T _ (by simp; omega) (fun b hb => by have := hTb b hb; simp; omega)
    · exact ⟨some c, _, by have := run_endLoop (P := P) hl (by rw [hrec]; simp); rw [hrec] at this; exact this, hstop (U T) c pre _ hSp (hIx c _ _ _ _ _ hi (StepW.put _ (hU1 T))) ((World.putObj_heap_other (by omega)).trans hk) (hUb T _ (by simp; omega) (fun b hb => by have := hTb b hb; simp; omega)) (hU0 T) (hU1 T)⟩

end Tr
end Ex
end Go.Proofs.Yteckbpmliahhhaa
