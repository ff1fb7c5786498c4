import Derived.Test.YthjagnnbhpfpoaaRopePart
import Derived.Test.YthjagnnbhpfpoaaRopeEqual
import Derived.Test.YthjagnnbhpfpoaaRopeSame
import Derived.Test.YthjagnnbhpfpoaaRopeLevel
import Derived.Deep.QuietTactic
import Derived.Sort.QuietIn
import Derived.RangeFuncCalls
import Derived.Test.YthjagnnbhpfpoaaTabScript
namespace Go.Proofs.Ythjagnnbhpfpoaa
open Go.RowKit
attribute [local go_sem] Oper.semAt_some
namespace Rope

theorem ReaderAt.moves {S S' : Nat → Prop} {w w' : World} {D i : Nat} {pc rs : List Int} (h : ReaderAt S w D i pc rs) (hS : ∀ b, S b → b < w.heap.size → S' b ∧ w'.heap[b]? = w.heap[b]?) (hD : w'.heap[D]? = w.heap[D]?) (hn : ¬ S' D) : ReaderAt S' w' D i pc rs := by
  obtain ⟨h1, h2, v, u, h3, h4, h5, h6, h7⟩ := h
  have hs : Same (fun b => S b ∧ b < w.heap.size) w w' := ⟨fun b o v hb hc => by rw [World.cell?_of_block (w := w) (a := ⟨b, o, none⟩) (hS b hb.1 hb.2).2]; exact hc, fun b v hb _ hp o => by rw [World.frozen?_of_block (w := w) (a := ⟨b, o, none⟩) (hS b hb.1 hb.2).2]; exact hp o⟩
  refine ⟨hn, fun o => by rw [World.frozen?_of_block (w := w) (a := ⟨D, o, none⟩) hD]; exact h2 o, v, u, ?_, ?_, ?_, h6.tight.mono hs (fun b hb => (hS b hb.1 hb.2).1), (h7.tight.mono hs).wide (fun b hb => (hS b hb.1 hb.2).1)⟩
  · rw [World.cell?_of_block (w := w) (a := ⟨D, 0, none⟩) hD]; exact h3
  · rw [World.cell?_of_block (w := w) (a := ⟨D, 1, none⟩) hD]; exact h4
  · rw [World.cell?_of_block (w := w) (a := ⟨D, 2, none⟩) hD]; exact h5
theorem ReaderAt.below {S : Nat → Prop} {w : World} {D i : Nat} {pc rs : List Int} (h : ReaderAt S w D i pc rs) : D < w.heap.size := by
  obtain ⟨_, _, v, u, d0, _⟩ := h
  exact World.block_lt_of_cell? w ⟨D, 0, none⟩ d0

/-- A step that turns the blocks R alone; the iterator's ground grows by new blocks alone. -/
def Step (R T T' : Nat → Prop) (A A' : World) : Prop :=
  A'.os = A.os ∧ A'.tape = A.tape ∧ A'.output = A.output ∧ A.heap.size ≤ A'.heap.size ∧ (∀ k, k < A.heap.size → ¬ R k → A'.heap[k]? = A.heap[k]?) ∧ ∀ b, T' b → T b ∨ A.heap.size ≤ b
def Stable {β : Type} (R : Nat → Prop) (J : (Nat → Prop) → β → World → Prop) : Prop := ∀ T T' s A A', J T s A → Step R T T' A A' → J T' s A'
theorem Step.but {R T : Nat → Prop} {D : Nat} {A A' : World} (h : KeptBut D A A') (hD : R D) : Step R T (fun b => T b ∨ (A.heap.size ≤ b ∧ b < A'.heap.size)) A A' :=
  ⟨h.1, h.2.1, h.2.2.1, h.2.2.2.1, fun k hk hr => h.2.2.2.2 k hk (fun e => hr (e ▸ hD)), fun _ hb => hb.imp id And.left⟩
theorem Step.kept {R T : Nat → Prop} {A A' : World} (h : Kept A A') : Step R T (fun b => T b ∨ (A.heap.size ≤ b ∧ b < A'.heap.size)) A A' :=
  ⟨h.1, h.2.1, h.2.2.1, h.2.2.2.1, fun k hk _ => h.2.2.2.2 k hk, fun _ hb => hb.imp id And.left⟩
theorem Step.put {R T : Nat → Prop} {A : World} {l : Nat} (o : Obj) (hl : R l) : Step R T T A (A.putObj l o) :=
  ⟨rfl, rfl, rfl, by simp, fun k _ hr => World.putObj_heap_other (fun e => hr (e ▸ hl)), fun _ h => Or.inl h⟩

/-- An iterator that may write what it has made itself, and gives what it hands over away: T: its own ground. -/
def SeqT {α : Type} (blk : α → Nat) (F : Fence) (n : Nat) (P : Program) (g : Nat) (lb : Array Value) (encs : α → Array Value) (Hand : List α → α → World → Prop) (S Sp : List α → Prop) (T0 : Nat → Prop) (w : World) : Prop :=
  ∀ (l : Nat) (J : (Nat → Prop) → List α → World → Prop) (Jx : List α → World → Prop) (W : World), Below w.heap.size w W → Stable (fun b => b = W.heap.size) J →
    (∀ T pre x W1, J T pre W1 → Hand pre x W1 → T (blk x) → (∀ b, T0 b → T b) → (∀ b, T b → T0 b ∨ W.heap.size ≤ b) → W.heap.size < blk x → (∀ b, T b → b < W1.heap.size) → YieldAt F (n - 1) P l (encs x) W1 fun e W' =>
      (e = .returned (.bool true) ∧ J (fun b => T b ∧ b ≠ blk x) (pre ++ [x]) W' ∧ W1.heap.size ≤ W'.heap.size ∧ ∀ b, T b → b ≠ blk x → W'.heap[b]? = W1.heap[b]?) ∨ (e = .returned (.bool false) ∧ Jx (pre ++ [x]) W')) →
    J T0 [] W →
    CallsIn F n P g (#[.func (.yield l) #[] #[]] ++ lb) W fun e W' => (∃ v, e = .returned v) ∧ ((∃ T xs, S xs ∧ J T xs W') ∨ (∃ pre, Sp pre ∧ Jx pre W'))

/-- How the body of a round may be left. -/
def ownPostT {α : Type} (B : Nat) (T' : Nat → Prop) (I : (Nat → Prop) → List α → World → Prop) (Ix : Code → List α → World → Prop) (xs : List α) (W : World) : Exit → Act → World → Prop
  | .normal, _, W' => KeepsFrom B W W' ∧ (∀ b, T' b → W'.heap[b]? = W.heap[b]?) ∧ I T' xs W'
  | .ret, _, W' => KeepsFrom B W W' ∧ Ix .ret xs W'
  | .exit id, _, W' => KeepsFrom B W W' ∧ Ix (.exit id) xs W'
  | .goto t, _, W' => KeepsFrom B W W' ∧ Ix (.goto t) xs W'
  | .panic _, _, _ => False
  | .outgrown, _, _ => False

/-- The statement 'range' over such an iterator. -/
theorem range_T {F : Fence} {n : Nat} {P : Program} {α : Type} (blk : α → Nat) {g : Operand} {ps : Array Tmp} {assign body : Code} {Q : Exit → Act → World → Prop} {a : Act} {w : World}
    (hro : F.round = none) (h1 : 1 ≤ n) {gf : Nat} {lb : Array Value} (hg : a.eval g = .func (.func gf) #[] lb) (hFg : F.fn gf) (eg : ∀ args w, (callFunc gf args).run P w = .ok (.enter gf args) w)
    {encs : α → Array Value} {Hand : List α → α → World → Prop} {S Sp : List α → Prop} {T0 : Nat → Prop} {w0 : World} (hseq : SeqT blk F (n - 1) P gf lb encs Hand S Sp T0 w0) (hT0 : ∀ b, T0 b → b < w.heap.size)
    (hHb : ∀ pre x (W : World) (l : Nat) (o o' : Obj), W.heap[l]? = some o → o.isCells = false → Hand pre x W → Hand pre x (W.putObj l o'))
    (hb0 : Below w0.heap.size w0 w) (hps : ∀ x, (encs x).size = ps.size)
    (I : (Nat → Prop) → List α → World → Prop) (Ix : Code → List α → World → Prop) (hI : Stable (fun b => w.heap.size ≤ b ∧ b < w.heap.size + 3) I) (hIx : ∀ c, Stable (fun b => w.heap.size ≤ b ∧ b < w.heap.size + 3) (fun _ => Ix c)) (h0 : I T0 [] w) (a₁ : α → Act)
    (hassign : ∀ (l : Nat) (x : α) (W : World) (K : Act → World → Prop), K (a₁ x) W →
      assign.wpIn (F.inRound l) (n - 1 - 1) P (Exit.then K (fun _ _ _ => False)) { tmps := (ps.zip (encs x)).foldl (fun t (p, v) => t.setIfInBounds p v) a.tmps, defers := [] } W)
    (hbody : ∀ (T : Nat → Prop) (pre : List α) (x : α) (W : World), I T pre W → Hand pre x W → T (blk x) → (∀ b, T0 b → T b) → (∀ b, T b → T0 b ∨ w.heap.size + 2 ≤ b) → w.heap.size + 2 < blk x → (∀ b, T b → b < W.heap.size) → (∃ r : Loop, r.defers = w.heap.size ∧ W.heap[w.heap.size + 1]? = some (.loop r)) →
      body.wpIn (F.inRound (w.heap.size + 1)) (n - 1 - 1) P (ownPostT w.heap.size (fun b => T b ∧ b ≠ blk x) I Ix (pre ++ [x]) W) (a₁ x) W)
    (hdone : ∀ (D : Nat) (T : Nat → Prop) (xs : List α) (W : World), w.heap.size ≤ D → S xs → I T xs W → W.heap[D]? = some (.deferred (some [])) → Q .normal { a with defers := { target := .collected D, args := #[] } :: a.defers } W)
    (hstop : ∀ (D : Nat) (c : Code) (pre : List α) (W : World), w.heap.size ≤ D → Sp pre → Ix c pre W → W.heap[D]? = some (.deferred (some [])) → c.wpIn F n P Q { a with defers := { target := .collected D, args := #[] } :: a.defers } W) :
    (Code.rangeFunc g ps assign body).wpIn F n P Q a w := by
  refine wpIn_rangeFunc ?_
  intro fn hfn
  rw [hro]
  obtain ⟨rec, hrec⟩ : ∃ rec : LoopState → Option Code → Loop, rec = fun st pe => { state := st, pending := pe, fn, tmps := a.tmps, params := ps, assign, body, defers := w.heap.size } := ⟨_, rfl⟩
  obtain ⟨W1, hW1⟩ : ∃ W1, (w.alloc (.deferred (some []))).alloc (.loop (rec .ready none)) = W1 := ⟨_, rfl⟩
  have hsz : W1.heap.size = w.heap.size + 2 := by rw [← hW1]; simp
  have hbw : Below w.heap.size w W1 := by rw [← hW1]; exact ((Below.refl _ w).alloc (Nat.le_refl _) _).alloc (by simp) _
  have hL1 : W1.heap[w.heap.size + 1]? = some (.loop (rec .ready none)) := by
    have := World.alloc_heap_new (w.alloc (.deferred (some []))) (.loop (rec .ready none))
    rw [← hW1]; rwa [World.size_alloc] at this
  have hD1 : W1.heap[w.heap.size]? = some (.deferred (some [])) := by
    rw [← hW1]; exact (Below.heap_alloc _ _ _ (by simp)).trans (World.alloc_heap_new w _)
  have hR : ∀ b, b = W1.heap.size → w.heap.size ≤ b ∧ b < w.heap.size + 3 := fun b e => by omega
  have hstep1 : Step (fun b => w.heap.size ≤ b ∧ b < w.heap.size + 3) T0 T0 w W1 := ⟨hbw.os, hbw.tape, hbw.output, hbw.size, fun k hk _ => hbw.block k hk, fun _ h => Or.inl h⟩
  refine ⟨w.heap.size + 1, [{ target := .collected w.heap.size, args := #[] }], W1, { target := .fn (.func gf) lb, args := #[.func (.yield (w.heap.size + 1)) #[] #[]] }, W1, gf,
    #[.func (.yield (w.heap.size + 1)) #[] #[]] ++ lb, W1, ?_, ?_, ?_, ?_, fun _ => h1, ?_⟩
  · rw [← hW1, hrec]; exact run_enterLoop_outer _ _ _ _ _
  · simp only [resolve, hg]
    simp [go_sem]
  · intro f' hf'; simp [Target.leads] at hf'; subst hf'; exact hFg
  · simp [invoke, go_sem, eg]
  refine (hseq (w.heap.size + 1)
    (fun T pre W => I T pre W ∧ W.heap[w.heap.size + 1]? = some (.loop (rec .ready none)) ∧ W.heap[w.heap.size]? = some (.deferred (some [])))
    (fun pre W => ∃ c, Ix c pre W ∧ W.heap[w.heap.size + 1]? = some (.loop (rec .done (some c))) ∧ W.heap[w.heap.size]? = some (.deferred (some [])))
    W1 (hb0.trans (hbw.mono hb0.size)) ?_ ?_ ⟨hI _ _ _ _ _ h0 hstep1, hL1, hD1⟩).mono ?_
  · rintro T T' s A A' ⟨g1, g2, g3⟩ hs
    refine ⟨hI T T' s A A' g1 ⟨hs.1, hs.2.1, hs.2.2.1, hs.2.2.2.1, fun k hk hr => hs.2.2.2.2.1 k hk (fun e => hr (hR k e)), hs.2.2.2.2.2⟩, ?_, ?_⟩
    · rw [hs.2.2.2.2.1 _ (Array.getElem?_eq_some_iff.1 g2).1 (by omega)]; exact g2
    · rw [hs.2.2.2.2.1 _ (Array.getElem?_eq_some_iff.1 g3).1 (by omega)]; exact g3
  · rintro T pre x W ⟨hi, hl, hk⟩ hhand hTx hT1 hT2 hblk hTl
    have hlt : w.heap.size + 1 < W.heap.size := (Array.getElem?_eq_some_iff.1 hl).1
    have hTb : ∀ b, T b → b < w.heap.size ∨ w.heap.size + 2 ≤ b := fun b hb => by
      rcases hT2 b hb with h | h
      · exact Or.inl (hT0 b h)
      · right; omega
    have hy := run_yield (P := P) (args := encs x) hl (by rw [hrec]; exact hps x)
    rw [hrec] at hy
    refine ⟨fn, _, assign, body, hy, roundIn_of_wpIn hfn (hassign _ x W _ ⟨_, run_beginRound hl (by rw [hrec]), ?_⟩)⟩
    obtain ⟨W2, hW2⟩ : ∃ W2, W.putObj (w.heap.size + 1) (.loop { rec .ready none with state := .busy }) = W2 := ⟨_, rfl⟩
    have hs2 : Step (fun b => w.heap.size ≤ b ∧ b < w.heap.size + 3) T T W W2 := by rw [← hW2]; exact Step.put _ (by omega)
    have hl2 : W2.heap[w.heap.size + 1]? = some (.loop { rec .ready none with state := .busy }) := by rw [← hW2]; exact World.putObj_heap_same hlt
    have hk2 : W2.heap[w.heap.size]? = some (.deferred (some [])) := by rw [← hW2]; exact (World.putObj_heap_other (by omega)).trans hk
    have hT2' : ∀ b, T b → W2.heap[b]? = W.heap[b]? := fun b hb => by rw [← hW2]; exact World.putObj_heap_other (by have := hTb b hb; omega)
    have hh2 : Hand pre x W2 := by rw [← hW2]; exact hHb _ _ _ _ _ _ hl rfl hhand
    have hlt2 : ∀ b, T b → b < W2.heap.size := fun b hb => Nat.lt_of_lt_of_le (hTl b hb) hs2.2.2.2.1
    have hbd := hbody T pre x W2 (hI _ _ _ _ _ hi hs2) hh2 hTx hT1 (fun b hb => (hT2 b hb).imp id (fun h => by omega)) (by omega) hlt2 ⟨_, by rw [hrec], hl2⟩
    have fin : ∀ (jump : Option Code) (W3 : World), KeepsFrom w.heap.size W2 W3 →
        (Instr.endRound (w.heap.size + 1) jump).run P W3 = .ok (.bool jump.isNone) (W3.putObj (w.heap.size + 1) (.loop (rec (if jump.isNone then .ready else .done) jump))) ∧
        W3.heap[w.heap.size + 1]? = some (.loop { rec .ready none with state := .busy }) ∧
        (W3.putObj (w.heap.size + 1) (.loop (rec (if jump.isNone then .ready else .done) jump))).heap[w.heap.size + 1]? = some (.loop (rec (if jump.isNone then .ready else .done) jump)) ∧
        (W3.putObj (w.heap.size + 1) (.loop (rec (if jump.isNone then .ready else .done) jump))).heap[w.heap.size]? = some (.deferred (some [])) := by
      intro jump W3 hk3
      have hl3 := hk3.same _ _ (by omega) hl2 rfl
      have hr := run_endRound (P := P) jump hl3
      rw [hrec] at hr ⊢
      exact ⟨hr, by rw [hrec] at hl3; exact hl3, World.putObj_heap_same (Array.getElem?_eq_some_iff.1 hl3).1, (World.putObj_heap_other (by omega)).trans (hk3.same _ _ (Nat.le_refl _) hk2 rfl)⟩
    rw [hW2]
    refine wpIn_mono hbd ?_
    rintro e a3 W3 hp
    cases e with
    | normal =>
      obtain ⟨hk3, hkp3, hi3⟩ := hp
      obtain ⟨hr, hl3, hl4, hk4⟩ := fin none W3 hk3
      refine ⟨_, _, hr, .inl ⟨rfl, ⟨hI _ _ _ _ _ hi3 (Step.put _ (by omega)), hl4, hk4⟩, ?_, fun b hb hne => ?_⟩⟩
      · have := hk3.size; have h2 := hs2.2.2.2.1; simp; omega
      · rw [World.putObj_heap_other (by have := hTb b hb; omega), hkp3 b ⟨hb, hne⟩, hT2' b hb]
    | ret =>
      obtain ⟨hk3, hi3⟩ := hp
      obtain ⟨hr, hl3, hl4, hk4⟩ := fin (some .ret) W3 hk3
      exact ⟨_, _, hr, .inr ⟨rfl, .ret, hIx _ T T _ _ _ hi3 (Step.put _ (by omega)), hl4, hk4⟩⟩
    | exit id =>
      obtain ⟨hk3, hi3⟩ := hp
      obtain ⟨hr, hl3, hl4, hk4⟩ := fin (some (.exit id)) W3 hk3
      exact ⟨_, _, hr, .inr ⟨rfl, .exit id, hIx _ T T _ _ _ hi3 (Step.put _ (by omega)), hl4, hk4⟩⟩
    | goto t =>
      obtain ⟨hk3, hi3⟩ := hp
      obtain ⟨hr, hl3, hl4, hk4⟩ := fin (some (.goto t)) W3 hk3
      exact ⟨_, _, hr, .inr ⟨rfl, .goto t, hIx _ T T _ _ _ hi3 (Step.put _ (by omega)), hl4, hk4⟩⟩
    | panic ch => exact hp.elim
    | outgrown => exact hp.elim
  · rintro e W2 ⟨⟨v, rfl⟩, (⟨T, xs, hS, hi, hl, hk⟩ | ⟨pre, hSp, c, hi, hl, hk⟩)⟩
    · exact ⟨none, _, by have := run_endLoop (P := P) hl (by rw [hrec]; simp); rw [hrec] at this; exact this, hdone _ T xs _ (Nat.le_refl _) hS (hI _ _ _ _ _ hi (Step.put _ (by omega))) ((World.putObj_heap_other (by omega)).trans hk)⟩
    · exact ⟨some c, _, by have := run_endLoop (P := P) hl (by rw [hrec]; simp); rw [hrec] at this; exact this, hstop _ c pre _ (Nat.le_refl _) hSp (hIx c T0 T0 _ _ _ hi (Step.put _ (by omega))) ((World.putObj_heap_other (by omega)).trans hk)⟩

set_option maxRecDepth 100000 in
set_option maxHeartbeats 4000000 in
theorem chunksT_seq (S0 : Nat → Prop) (n br bf f : Nat) (rv : Option Addr) (xs : List Int) (w : World) (hr : RopeAt S0 w (.pointer rv) xs) (cr : w.cell? ⟨br, 0, none⟩ = some (.pointer rv)) (cf : w.cell? ⟨bf, 0, none⟩ = some (.int .i64 f)) (hf : f ≤ xs.length) :
    SeqT Item.blk Fence.wide n Try.prog 49 #[.pointer (some ⟨br, 0, none⟩), .pointer (some ⟨bf, 0, none⟩)] Item.encs (Hands w.heap.size f xs) (fun ys => got ys = xs.drop f) (fun _ => True) (fun b => S0 b ∧ b < w.heap.size) w := by
  intro l J Jx W hb hJ hY h0
  have hlen := hr.len
  obtain ⟨D, hD⟩ : ∃ D, W.heap.size = D := ⟨_, rfl⟩
  have hwD : w.heap.size ≤ D := by rw [← hD]; exact hb.size
  have hkW : Kept w W := Kept.of hb
  have hrW : RopeAt (fun b => (S0 b ∧ b < w.heap.size) ∨ D < b) W (.pointer rv) xs := (hr.tight.kept hkW).mono (Same.refl _ _) (fun b h => Or.inl h)
  have crW := grown_cell hkW cr
  have cfW := grown_cell hkW cf
  have HR : Hid (Calls Try.prog 40 #[.pointer rv, .int .i64 f] W fun e w' => e = .returned (.pointer (some ⟨D, 0, none⟩)) ∧ Kept W w' ∧ ∃ pc rs, ReaderAt (fun b => (S0 b ∧ b < w.heap.size) ∨ D < b) w' D f pc rs ∧ pc ++ rs = xs.drop f) := by
    have := reader_rope (fun b => (S0 b ∧ b < w.heap.size) ∨ D < b) (.pointer rv) f xs W hrW (by rw [hD]; exact fun c h => Or.inr h) (by rw [hD]; rintro (h | h) <;> omega) hf
    rw [hD] at this; exact this
  rw [hD] at hJ hY
  have HD := hide1 hD
  have HJ := hide1 hJ
  have HY := hide1 hY
  have H0 := hide1 h0
  clear hr cr cf hb hD hJ hrW hY h0
  refine callsIn_of_wp Try.func49 rfl trivial ?_ rfl
  simp only [Try.ntmps49, List.size_toArray, List.length_cons, List.length_nil, Nat.reduceAdd, Nat.reduceSub, Array.replicate_succ, Array.replicate_zero, List.push_toArray, List.append_toArray, List.nil_append, List.cons_append]
  gi_wp2_with fail
  refine ⟨trivial, fun h => (by cases h), ?_⟩
  refine (callsIn_wide.2 HR.out).mono ?_
  rintro e W0 ⟨rfl, hk0, pc0, rs0, hR0, hall0⟩
  have hDW : D < W0.heap.size := hR0.below
  have hj0 : J (fun b => (S0 b ∧ b < w.heap.size) ∨ (D ≤ b ∧ b < W0.heap.size)) [] W0 := by
    have := HJ.out _ _ _ _ _ H0.out (Step.kept (T := fun b => S0 b ∧ b < w.heap.size) hk0)
    rw [HD.out] at this
    exact this
  have hR0' : ReaderAt (fun b => ((S0 b ∧ b < w.heap.size) ∨ (D ≤ b ∧ b < W0.heap.size)) ∧ b ≠ D) W0 D f pc0 rs0 :=
    hR0.moves (fun b hb hlt => ⟨⟨hb.imp id (fun h => ⟨by omega, hlt⟩), by rcases hb with h | h <;> omega⟩, rfl⟩) rfl (fun h => h.2 rfl)
  have HT0 : Hid ((∀ b, (S0 b ∧ b < w.heap.size) → ((S0 b ∧ b < w.heap.size) ∨ (D ≤ b ∧ b < W0.heap.size))) ∧ (∀ b, ((S0 b ∧ b < w.heap.size) ∨ (D ≤ b ∧ b < W0.heap.size)) → (S0 b ∧ b < w.heap.size) ∨ D ≤ b) ∧ ((S0 D ∧ D < w.heap.size) ∨ (D ≤ D ∧ D < W0.heap.size)) ∧ ∀ b, ((S0 b ∧ b < w.heap.size) ∨ (D ≤ b ∧ b < W0.heap.size)) → b < W0.heap.size) :=
    ⟨fun b h => Or.inl h, fun b h => h.imp id And.left, Or.inr ⟨Nat.le_refl _, hDW⟩, fun b h => by rcases h with h | h <;> omega⟩
  have HJ0 := hide1 hj0
  have HR0 := hide1 hR0'
  have HA0 := hide1 hall0
  clear hj0 hR0 hR0' hall0 HR H0 hk0
  gi_wp2_with fail
  gi_loopw [5] (fun _ wr => ∃ (T : Nat → Prop) (pre : List Item) (pc rs : List Int), Hid (J T pre wr) ∧ Hid (ReaderAt (fun b => T b ∧ b ≠ D) wr D (f + (got pre).length) pc rs) ∧ Hid (xs.drop f = got pre ++ (pc ++ rs)) ∧ D < wr.heap.size ∧ Hid ((∀ b, (S0 b ∧ b < w.heap.size) → T b) ∧ (∀ b, T b → (S0 b ∧ b < w.heap.size) ∨ D ≤ b) ∧ T D ∧ ∀ b, T b → b < wr.heap.size)) (fun _ wr => ahead xs.length D wr)
  case atStart => exact ⟨_, [], pc0, rs0, HJ0, HR0, HA0.out.symm, hDW, HT0⟩
  case round =>
    obtain ⟨T, pre, pc, rs, HJ1, HR1, HA1, hlt, HT1⟩ := hrel
    clear HJ0 HR0 HA0 hDW HT0
    gi_wp2_with fail
    refine ⟨trivial, fun h => (by cases h), ?_⟩
    have hRw : ReaderAt (fun b => (T b ∧ b ≠ D) ∨ wr.heap.size ≤ b) wr D (f + (got pre).length) pc rs := HR1.out.moves (fun b hb _ => ⟨Or.inl hb, rfl⟩) rfl (by rintro (h | h); exact h.2 rfl; omega)
    refine (callsIn_wide.2 (more_any (fun b => (T b ∧ b ≠ D) ∨ wr.heap.size ≤ b) D _ pc rs wr (fun c hc => Or.inr hc) hRw)).mono ?_
    rintro e W1 ⟨rfl, hk1, pc1, rs1, hR1, hne1, hall1⟩
    clear hRw
    have hj1 : J (fun b => T b ∨ (wr.heap.size ≤ b ∧ b < W1.heap.size)) pre W1 := HJ.out _ _ _ _ _ HJ1.out (Step.but hk1 rfl)
    have hD1 : D < W1.heap.size := Nat.lt_of_lt_of_le hlt hk1.size
    by_cases hend : pc ++ rs = []
    · have HFIN : Hid (got pre = xs.drop f) := by have := HA1.out; rw [hend, List.append_nil] at this; exact this.symm
      have hemp : (!(pc ++ rs).isEmpty) = false := by rw [hend]; rfl
      have HJ2 := hide1 hj1
      clear hj1 hne1 hall1 hR1 hk1 hend
      rw [hemp]
      gi_wp2
      go_end0
      exact ⟨⟨_, rfl⟩, .inl ⟨_, pre, HFIN.out, HJ2.out⟩⟩
    · have hemp : (!(pc ++ rs).isEmpty) = true := by cases h : pc ++ rs with | nil => exact absurd h hend | cons => rfl
      rw [hemp]
      have hne2 := hne1 hend
      have hR1' := hR1
      obtain ⟨_, _, v1, u1, d0, d1, d2, hv1, ht1⟩ := hR1'
      obtain ⟨va, vcap, rfl⟩ := hv1.form
      have hpos : 0 < pc1.length := List.length_pos_iff.2 hne2
      have hlen2 : (got pre).length + (pc1 ++ rs1).length = (xs.drop f).length := by rw [HA1.out, ← hall1]; simp
      have hlen3 : f + (got pre).length + pc1.length + rs1.length ≤ xs.length := by
        simp only [List.length_append, List.length_drop] at hlen2; omega
      have HJ2 := hide1 hj1
      have HR2 := hide1 hR1
      have HA2 := hide1 hall1
      have HK1 := hide1 hk1
      clear hj1 hne1 hall1 hR1 hv1 ht1 hend hlen2 hk1
      gi_wp2_with fail
      refine ⟨trivial, fun h => (by cases h), ?_⟩
      refine (callsIn_wide.2 (take_any _ D _ pc1.length pc1 rs1 W1 HR2.out (Nat.le_refl _) hpos (by omega))).mono ?_
      rintro e W2 ⟨v2, rfl, hk2, hs2, hR2⟩
      rw [List.take_of_length_le (Nat.le_refl _)] at hs2
      rw [List.drop_eq_nil_of_le (Nat.le_refl _)] at hR2
      have hj2 := HJ.out _ _ _ _ _ HJ2.out (Step.but hk2 rfl)
      have hD2 : D < W2.heap.size := Nat.lt_of_lt_of_le hD1 hk2.size
      have HS2 := hide1 hs2
      have HJ3 := hide1 hj2
      have HR3 := hide1 hR2
      have HK2 := hide1 hk2
      clear hs2 hj2 hR2 HJ2 HR2 d0 d1 d2 hk2
      gi_wp2_with fail
      refine ⟨trivial, fun h => (by cases h), ?_⟩
      refine (callsIn_wide.2 (clone_any _ _ pc1 W2 HS2.out hne2 (by omega))).mono ?_
      rintro e W3 ⟨g3, cap3, rfl, hk3, how3, hg3⟩
      have hj3 := HJ.out _ _ _ _ _ HJ3.out (Step.kept hk3)
      have hD3 : D < W3.heap.size := Nat.lt_of_lt_of_le hD2 hk3.size
      have hg3' : g3 < W3.heap.size := by
        rcases how3.2 with ⟨h, _⟩ | ⟨g', c', cur, e, _, h2, _⟩
        · cases h
        · simp only [Value.slice.injEq, Option.some.injEq, Addr.mk.injEq] at e
          obtain ⟨⟨rfl, _⟩, _⟩ := e
          exact (Array.getElem?_eq_some_iff.1 h2).1
      have s1 := HK1.out.size
      have s2 := HK2.out.size
      have s3 := hk3.size
      have HK3 := hide1 hk3
      have hhand : Hands w.heap.size f xs pre ⟨f + (got pre).length, pc1, g3, cap3⟩ W3 := by
        refine ⟨rfl, hne2, ⟨rs1, ?_⟩, how3.low (by omega), by show w.heap.size ≤ g3; omega⟩
        show xs.drop f = got pre ++ pc1 ++ rs1
        rw [HA1.out, ← HA2.out, List.append_assoc]
      obtain ⟨fn, tmps, assign, body, hy, hRd⟩ := HY.out _ pre ⟨f + (got pre).length, pc1, g3, cap3⟩ W3 hj3 hhand (Or.inr ⟨hg3, hg3'⟩) (fun b hb => Or.inl (Or.inl (Or.inl (HT1.out.1 b hb)))) (fun b hb => by
        rcases hb with ((h | h) | h) | h
        · exact HT1.out.2.1 b h
        all_goals (right; omega)) (by show D < g3; omega) (fun b hb => by
        rcases hb with ((h | h) | h) | h
        · have := HT1.out.2.2.2 b h; omega
        all_goals omega)
      have HRD := hide1 hRd
      clear hRd hj3 hhand how3 HJ3 HS2
      dsimp only [Item.encs] at hy
      simp only [Int.natCast_add] at hy
      gi_wp2_with fail
      refine ⟨fun h => (by cases h), ?_⟩
      refine HRD.out.mono ?_
      rintro e W4 (⟨rfl, hj4, hsz4, hk4⟩ | ⟨rfl, hj4⟩)
      · have hTin : ∀ b, ((T b ∧ b ≠ D) ∨ wr.heap.size ≤ b) → b < W2.heap.size → ((((T b ∨ (wr.heap.size ≤ b ∧ b < W1.heap.size)) ∨ (W1.heap.size ≤ b ∧ b < W2.heap.size)) ∨ (W2.heap.size ≤ b ∧ b < W3.heap.size))) ∧ b ≠ g3 ∧ b ≠ D := by
          rintro b (h | h) hlt'
          · exact ⟨Or.inl (Or.inl (Or.inl h.1)), by omega, h.2⟩
          · exact ⟨by omega, by omega, by omega⟩
        have hR5 : ReaderAt (fun b => ((((T b ∨ (wr.heap.size ≤ b ∧ b < W1.heap.size)) ∨ (W1.heap.size ≤ b ∧ b < W2.heap.size)) ∨ (W2.heap.size ≤ b ∧ b < W3.heap.size)) ∧ b ≠ g3) ∧ b ≠ D) W4 D (f + (got (pre ++ [⟨f + (got pre).length, pc1, g3, cap3⟩])).length) [] rs1 := by
          rw [got_snoc, List.length_append, ← Nat.add_assoc]
          exact HR3.out.moves (fun b hb hlt' => ⟨⟨⟨(hTin b hb hlt').1, (hTin b hb hlt').2.1⟩, (hTin b hb hlt').2.2⟩, by rw [hk4 b (hTin b hb hlt').1 (hTin b hb hlt').2.1, HK3.out.2.2.2.2 b hlt']⟩) (by rw [hk4 D (Or.inl (Or.inl (Or.inl HT1.out.2.2.1))) (by show D ≠ g3; omega), HK3.out.2.2.2.2 D hD2]) (fun h => h.2 rfl)
        have hall5 : xs.drop f = got (pre ++ [⟨f + (got pre).length, pc1, g3, cap3⟩]) ++ ([] ++ rs1) := by
          rw [got_snoc, List.nil_append, List.append_assoc]
          show xs.drop f = got pre ++ (pc1 ++ rs1)
          rw [HA1.out, HA2.out]
        have hm : ahead xs.length D W4 < ahead xs.length D wr := by
          rw [ahead_of hR5, ahead_of HR1.out, got_snoc, List.length_append]
          show _ - (f + ((got pre).length + pc1.length)) < _
          omega
        have hT5 : Hid ((∀ b, (S0 b ∧ b < w.heap.size) → ((((T b ∨ (wr.heap.size ≤ b ∧ b < W1.heap.size)) ∨ (W1.heap.size ≤ b ∧ b < W2.heap.size)) ∨ (W2.heap.size ≤ b ∧ b < W3.heap.size)) ∧ b ≠ g3)) ∧ (∀ b, ((((T b ∨ (wr.heap.size ≤ b ∧ b < W1.heap.size)) ∨ (W1.heap.size ≤ b ∧ b < W2.heap.size)) ∨ (W2.heap.size ≤ b ∧ b < W3.heap.size)) ∧ b ≠ g3) → (S0 b ∧ b < w.heap.size) ∨ D ≤ b) ∧ ((((T D ∨ (wr.heap.size ≤ D ∧ D < W1.heap.size)) ∨ (W1.heap.size ≤ D ∧ D < W2.heap.size)) ∨ (W2.heap.size ≤ D ∧ D < W3.heap.size)) ∧ D ≠ g3) ∧ ∀ b, ((((T b ∨ (wr.heap.size ≤ b ∧ b < W1.heap.size)) ∨ (W1.heap.size ≤ b ∧ b < W2.heap.size)) ∨ (W2.heap.size ≤ b ∧ b < W3.heap.size)) ∧ b ≠ g3) → b < W4.heap.size) := by
          refine ⟨fun b hb => ⟨Or.inl (Or.inl (Or.inl (HT1.out.1 b hb))), by omega⟩, ?_, ⟨Or.inl (Or.inl (Or.inl HT1.out.2.2.1)), by omega⟩, ?_⟩
          · rintro b ⟨((h | h) | h) | h, _⟩
            · exact HT1.out.2.1 b h
            all_goals (right; omega)
          · rintro b ⟨((h | h) | h) | h, _⟩
            · have := HT1.out.2.2.2 b h; omega
            all_goals omega
        have H5 := hide1 hR5
        have H6 := hide1 hall5
        clear hR5 hall5 hTin
        gi_wp2
        exact ⟨⟨_, _, [], rs1, hj4, H5, H6, by omega, hT5⟩, hm⟩
      · gi_wp2
        exact bodyPost_ret (v := .tuple #[]) (by simp [results, Try.results49, go_sem]) rfl ⟨⟨_, rfl⟩, .inr ⟨_, trivial, hj4⟩⟩

end Rope
end Go.Proofs.Ythjagnnbhpfpoaa
namespace Go.Proofs.Ythjagnnbhpfpoaa
open Go.RowKit
namespace Rope

/-- The statement 'range' over such an iterator within a round of another, where no round is left early. -/
theorem range_N {F : Fence} {n : Nat} {P : Program} {α : Type} (blk : α → Nat) {g : Operand} {ps : Array Tmp} {assign body : Code} {Q : Exit → Act → World → Prop} {a : Act} {w : World}
    {l₀ : Nat} {r₀ : Loop} (hro : F.round = some l₀) (hl₀ : w.heap[l₀]? = some (.loop r₀)) (h1 : 1 ≤ n) {gf : Nat} {lb : Array Value} (hg : a.eval g = .func (.func gf) #[] lb) (hFg : F.fn gf) (eg : ∀ args w, (callFunc gf args).run P w = .ok (.enter gf args) w)
    {encs : α → Array Value} {Hand : List α → α → World → Prop} {S Sp : List α → Prop} {T0 : Nat → Prop} {w0 : World} (hseq : SeqT blk F (n - 1) P gf lb encs Hand S Sp T0 w0) (hT0 : ∀ b, T0 b → b < w.heap.size)
    (hHb : ∀ pre x (W : World) (l : Nat) (o o' : Obj), W.heap[l]? = some o → o.isCells = false → Hand pre x W → Hand pre x (W.putObj l o'))
    (hb0 : Below w0.heap.size w0 w) (hps : ∀ x, (encs x).size = ps.size)
    (I : (Nat → Prop) → List α → World → Prop) (hI : Stable (fun b => w.heap.size ≤ b ∧ b < w.heap.size + 2) I) (h0 : I T0 [] w) (a₁ : α → Act)
    (hassign : ∀ (l : Nat) (x : α) (W : World) (K : Act → World → Prop), K (a₁ x) W →
      assign.wpIn (F.inRound l) (n - 1 - 1) P (Exit.then K (fun _ _ _ => False)) { tmps := (ps.zip (encs x)).foldl (fun t (p, v) => t.setIfInBounds p v) a.tmps, defers := [] } W)
    (hbody : ∀ (T : Nat → Prop) (pre : List α) (x : α) (W : World), I T pre W → Hand pre x W → T (blk x) → (∀ b, T0 b → T b) → (∀ b, T b → T0 b ∨ w.heap.size + 1 ≤ b) → w.heap.size + 1 < blk x → (∀ b, T b → b < W.heap.size) →
      body.wpIn (F.inRound w.heap.size) (n - 1 - 1) P (ownPostT w.heap.size (fun b => T b ∧ b ≠ blk x) I (fun _ _ _ => False) (pre ++ [x]) W) (a₁ x) W)
    (hdone : ∀ (T : Nat → Prop) (xs : List α) (W : World), S xs → I T xs W → Q .normal a W) :
    (Code.rangeFunc g ps assign body).wpIn F n P Q a w := by
  refine wpIn_rangeFunc ?_
  intro fn hfn
  rw [hro]
  obtain ⟨rec, hrec⟩ : ∃ rec : LoopState → Option Code → Loop, rec = fun st pe => { state := st, pending := pe, fn, tmps := a.tmps, params := ps, assign, body, defers := r₀.defers } := ⟨_, rfl⟩
  obtain ⟨W1, hW1⟩ : ∃ W1, w.alloc (.loop (rec .ready none)) = W1 := ⟨_, rfl⟩
  have hsz : W1.heap.size = w.heap.size + 1 := by rw [← hW1]; simp
  have hbw : Below w.heap.size w W1 := by rw [← hW1]; exact (Below.refl _ w).alloc (Nat.le_refl _) _
  have hL1 : W1.heap[w.heap.size]? = some (.loop (rec .ready none)) := by rw [← hW1]; exact World.alloc_heap_new w _
  have hR : ∀ b, b = W1.heap.size → w.heap.size ≤ b ∧ b < w.heap.size + 2 := fun b e => by omega
  have hstep1 : Step (fun b => w.heap.size ≤ b ∧ b < w.heap.size + 2) T0 T0 w W1 := ⟨hbw.os, hbw.tape, hbw.output, hbw.size, fun k hk _ => hbw.block k hk, fun _ h => Or.inl h⟩
  refine ⟨w.heap.size, [], W1, { target := .fn (.func gf) lb, args := #[.func (.yield w.heap.size) #[] #[]] }, W1, gf,
    #[.func (.yield w.heap.size) #[] #[]] ++ lb, W1, ?_, ?_, ?_, ?_, fun _ => h1, ?_⟩
  · rw [← hW1, hrec]; exact run_enterLoop_inner hl₀ _ _ _ _ _
  · simp only [resolve, hg]
    simp [go_sem]
  · intro f' hf'; simp [Target.leads] at hf'; subst hf'; exact hFg
  · simp [invoke, go_sem, eg]
  refine (hseq w.heap.size
    (fun T pre W => I T pre W ∧ W.heap[w.heap.size]? = some (.loop (rec .ready none)))
    (fun _ _ => False)
    W1 (hb0.trans (hbw.mono hb0.size)) ?_ ?_ ⟨hI _ _ _ _ _ h0 hstep1, hL1⟩).mono ?_
  · rintro T T' s A A' ⟨g1, g2⟩ hs
    refine ⟨hI T T' s A A' g1 ⟨hs.1, hs.2.1, hs.2.2.1, hs.2.2.2.1, fun k hk hr => hs.2.2.2.2.1 k hk (fun e => hr (hR k e)), hs.2.2.2.2.2⟩, ?_⟩
    rw [hs.2.2.2.2.1 _ (Array.getElem?_eq_some_iff.1 g2).1 (by omega)]; exact g2
  · rintro T pre x W ⟨hi, hl⟩ hhand hTx hT1 hT2 hblk hTl
    have hlt : w.heap.size < W.heap.size := (Array.getElem?_eq_some_iff.1 hl).1
    have hTb : ∀ b, T b → b < w.heap.size ∨ w.heap.size + 1 ≤ b := fun b hb => by
      rcases hT2 b hb with h | h
      · exact Or.inl (hT0 b h)
      · right; omega
    have hy := run_yield (P := P) (args := encs x) hl (by rw [hrec]; exact hps x)
    rw [hrec] at hy
    refine ⟨fn, _, assign, body, hy, roundIn_of_wpIn hfn (hassign _ x W _ ⟨_, run_beginRound hl (by rw [hrec]), ?_⟩)⟩
    obtain ⟨W2, hW2⟩ : ∃ W2, W.putObj w.heap.size (.loop { rec .ready none with state := .busy }) = W2 := ⟨_, rfl⟩
    have hs2 : Step (fun b => w.heap.size ≤ b ∧ b < w.heap.size + 2) T T W W2 := by rw [← hW2]; exact Step.put _ (by omega)
    have hl2 : W2.heap[w.heap.size]? = some (.loop { rec .ready none with state := .busy }) := by rw [← hW2]; exact World.putObj_heap_same hlt
    have hT2' : ∀ b, T b → W2.heap[b]? = W.heap[b]? := fun b hb => by rw [← hW2]; exact World.putObj_heap_other (by have := hTb b hb; omega)
    have hh2 : Hand pre x W2 := by rw [← hW2]; exact hHb _ _ _ _ _ _ hl rfl hhand
    have hlt2 : ∀ b, T b → b < W2.heap.size := fun b hb => Nat.lt_of_lt_of_le (hTl b hb) hs2.2.2.2.1
    have hbd := hbody T pre x W2 (hI _ _ _ _ _ hi hs2) hh2 hTx hT1 (fun b hb => (hT2 b hb).imp id (fun h => by omega)) (by omega) hlt2
    rw [hW2]
    refine wpIn_mono hbd ?_
    rintro e a3 W3 hp
    cases e with
    | normal =>
      obtain ⟨hk3, hkp3, hi3⟩ := hp
      have hl3 := hk3.same _ _ (Nat.le_refl _) hl2 rfl
      have hr := run_endRound (P := P) none hl3
      rw [hrec] at hr
      refine ⟨_, _, hr, .inl ⟨rfl, ⟨hI _ _ _ _ _ hi3 (Step.put _ (by omega)), ?_⟩, ?_, fun b hb hne => ?_⟩⟩
      · rw [hrec]; exact World.putObj_heap_same (Array.getElem?_eq_some_iff.1 hl3).1
      · have := hk3.size; have h2 := hs2.2.2.2.1; simp; omega
      · rw [World.putObj_heap_other (by have := hTb b hb; omega), hkp3 b ⟨hb, hne⟩, hT2' b hb]
    | ret => exact hp.2.elim
    | exit id => exact hp.2.elim
    | goto t => exact hp.2.elim
    | panic ch => exact hp.elim
    | outgrown => exact hp.elim
  · rintro e W2 ⟨⟨v, rfl⟩, (⟨T, xs, hS, hi, hl⟩ | ⟨pre, hSp, h⟩)⟩
    · exact ⟨none, _, by have := run_endLoop (P := P) hl (by rw [hrec]; simp); rw [hrec] at this; exact this, hdone T xs _ hS (hI _ _ _ _ _ hi (Step.put _ (by omega)))⟩
    · exact h.elim

end Rope
end Go.Proofs.Ythjagnnbhpfpoaa
namespace Go.Proofs.Ythjagnnbhpfpoaa
open Go.RowKit
attribute [local go_sem] Oper.semAt_some
namespace Rope

set_option maxRecDepth 100000 in
set_option maxHeartbeats 2000000 in
theorem sameq_cells (c o p d o' q n : Nat) (xs : List Int) (w : World) (hl : xs.length = n) (hn : n ≤ 1000000000)
    (h1 : Hid (∀ j x, xs[j]? = some x → w.cell? ⟨c, o + j, none⟩ = some (.int .u8 x))) (h2 : Hid (∀ j x, xs[j]? = some x → w.cell? ⟨d, o' + j, none⟩ = some (.int .u8 x))) :
    Calls Try.prog 22 #[.slice (some ⟨c, o, none⟩) n p, .slice (some ⟨d, o', none⟩) n q] w fun e w' => e = .returned (.bool true) ∧ ∃ m, w' = w.drewN m := by
  have gn : (n : Int) ≤ 1000000000 := by omega
  go_enter Try.func22, Try.ntmps22
  go_wp2_with fail
  go_loopw [5] (fun i wr => ∃ j m : Nat, i = .int .i64 (j : Int) ∧ j ≤ n ∧ wr = w.drewN m) (fun i _ => n - (intOf i).toNat)
  case atStart => exact ⟨0, 0, rfl, by omega, rfl⟩
  case round =>
    obtain ⟨j, m, rfl, hj, hk⟩ := hrel
    by_cases hlt : (j : Int) < (n : Int)
    · obtain ⟨x, hx⟩ : ∃ x, xs[j]? = some x := ⟨_, List.getElem?_eq_getElem (by omega)⟩
      have c1 : wr.cell? ⟨c, o + j, none⟩ = some (.int .u8 x) := by rw [hk]; exact grown_cell (grown_drewN w m) (h1.out j x hx)
      have c2 : wr.cell? ⟨d, o' + j, none⟩ = some (.int .u8 x) := by rw [hk]; exact grown_cell (grown_drewN w m) (h2.out j x hx)
      have HK := hide1 hk
      clear hk hx
      go_wp2_with fail
      go_quiet (fail)
      go_wp2
      go_roundw
      case rel => exact ⟨j + 1, m + nq, by go_num, by omega, by rw [HK.out, World.drewN_drewN]⟩
      case measure => simp [intOf]; omega
    · have HK := hide1 hk
      clear hk
      go_wp2
      go_ret
      exact ⟨rfl, m, HK.out⟩

set_option maxRecDepth 100000 in
set_option maxHeartbeats 2000000 in
theorem sameq_none (a b : Option Addr) (p q : Nat) (w : World) :
    Calls Try.prog 22 #[.slice a 0 p, .slice b 0 q] w fun e w' => e = .returned (.bool true) ∧ ∃ m, w' = w.drewN m := by
  go_enter Try.func22, Try.ntmps22
  go_wp2_with fail
  go_loopw [5] (fun i wr => i = .int .i64 0 ∧ wr = w) (fun i _ => (intOf i).toNat)
  case atStart => exact ⟨rfl, rfl⟩
  case round =>
    obtain ⟨rfl, rfl⟩ := hrel
    go_wp2
    go_ret
    exact ⟨rfl, 0, rfl⟩

theorem sameq (S S' : Nat → Prop) (u v : Value) (xs : List Int) (w : World) (h1 : ListAt S w u xs) (h2 : ListAt S' w v xs) (hn : xs.length ≤ 1000000000) :
    Calls Try.prog 22 #[u, v] w fun e w' => e = .returned (.bool true) ∧ ∃ m, w' = w.drewN m := by
  rcases h1 with ⟨rfl, a, p, rfl⟩ | h1
  · obtain ⟨b, q, rfl⟩ := h2.form
    exact sameq_none a b p q w
  · rcases h2 with ⟨rfl, b, q, rfl⟩ | h2
    · obtain ⟨c, o, cap, rfl, _⟩ := h1
      exact sameq_none _ b cap q w
    · obtain ⟨c, o, p, rfl, _, _, hc, _⟩ := h1
      obtain ⟨d, o', q, rfl, _, _, hd, _⟩ := h2
      exact sameq_cells c o p d o' q xs.length xs w rfl hn hc hd
/-- .. as a quiet region asks for it. -/
theorem sameq_at (S S' : Nat → Prop) (u v : Value) (xs : List Int) (w : World) (n : Nat) (h1 : ListAt S w u xs) (h2 : ListAt S' w v xs) (hn : xs.length ≤ 1000000000) :
    Calls Try.prog 22 #[u, v] (w.drewN n) fun e w' => e = .returned (.bool true) ∧ ∃ m, w' = w.drewN m :=
  (sameq S S' u v xs (w.drewN n) (h1.mono (Kept.same (grown_drewN w n) _) (fun _ h => h)) (h2.mono (Kept.same (grown_drewN w n) _) (fun _ h => h)) hn).mono fun _ _ ⟨he, m, hm⟩ => ⟨he, n + m, by rw [hm, World.drewN_drewN]⟩

end Rope
end Go.Proofs.Ythjagnnbhpfpoaa
namespace Go.Proofs.Ythjagnnbhpfpoaa
open Go.RowKit
namespace Rope

section
variable {F : Fence} {n : Nat} {P : Program} {ops : Array Oper} {md : Region.Mode} {C : World → Prop}
theorem wpIn_of_quiet_sem {o : Oper} {a : Act} {K : Act → Prop} {K' : Act → World → Prop} {Q' : Exit → Act → World → Prop} {w : World} (hsem : ∀ c, o.op ≠ .defer c) (hw : C w) (h : ∀ a w', C w' → K a → K' a w')
    (ha : o.askedIn F P a C) (hh : o.quietIn F n P a C K) : o.wpIn F n P a w K' Q' := by
  obtain ⟨v, h1, h2⟩ := hh
  have h3 := h1 w hw
  unfold Oper.quietAtIn at h3
  unfold Oper.wpIn
  refine ⟨ha w hw, ?_⟩
  rw [Oper.semAt_eq _ _ _ hsem]
  generalize (execOp a.eval o).run P w = r at *
  cases r with
  | ok x w' =>
    cases x <;> simp only [Oper.quietUponIn] at h3 <;> simp only [Oper.uponIn]
    case value u =>
      obtain ⟨e1, e2⟩ := h3
      rw [e1, e2]
      exact h _ _ hw h2
    case skip =>
      obtain ⟨e1, e2⟩ := h3
      rw [e1, ← e2]
      exact h _ _ hw h2
    case enter f args =>
      obtain ⟨e1, hd, hc⟩ := h3
      rw [e1]
      exact ⟨hd, hc.mono fun e w'' ⟨he, hw''⟩ => by subst he; exact h _ _ hw'' h2⟩
  | halt x w' => simp only [Oper.quietUponIn] at h3
theorem wpOpIn_of_quiet_sem {i : Nat} {a : Act} {K : Act → Prop} {K' : Act → World → Prop} {Q' : Exit → Act → World → Prop} {w : World} (hsem : ∀ (i : Nat) (o : Oper), ops[i]? = some o → ∀ c, o.op ≠ .defer c) (hC : C w) (h : ∀ a w', C w' → K a → K' a w')
    (hh : qOpIn F n P ops C i K a) : wpOpIn F n P ops Q' i K' a w := by
  unfold qOpIn at hh
  unfold wpOpIn
  split
  · rename_i ho; simp only [ho] at hh; exact h _ _ hC hh
  · rename_i o ho
    simp only [ho] at hh
    obtain ⟨ha, hh⟩ := hh
    split
    · rename_i hw; simp only [hw, if_true] at hh; exact wpIn_of_quiet_sem (hsem i o ho) hC h ha hh
    · rename_i hw; simp only [hw] at hh; exact ⟨ha w hC, h _ _ hC hh⟩
theorem wpAnyIn_of_quiet_sem {Q : Act → Prop} {Q' : Exit → Act → World → Prop} (hsem : ∀ (i : Nat) (o : Oper), ops[i]? = some o → ∀ c, o.op ≠ .defer c) (hQ : ∀ a w, C w → Q a → Q' .normal a w) : ∀ (fuel : Nat) (listed : Array Bool) (a : Act) (w : World), C w →
    wpAnyQIn F n P md ops C Q fuel listed a → wpAnyIn F n P md ops Q' fuel listed a w
  | 0, _, _, _, hw, h => ⟨h.1, hQ _ _ hw h.2⟩
  | fuel + 1, _, _, _, hw, h => ⟨fun h0 => hQ _ _ hw (h.1 h0), fun i hi => wpOpIn_of_quiet_sem hsem hw (fun a' w' hw' => wpAnyIn_of_quiet_sem hsem hQ fuel _ a' w' hw') (h.2 i hi)⟩
end
theorem wide_fn (f : FuncId) : Fence.wide.fn f = True := rfl
def noDefer (o : Oper) : Bool := match o.op with | .defer _ => false | _ => true
theorem noDefer_ne {o : Oper} (h : noDefer o = true) : ∀ c, o.op ≠ .defer c := fun c e => by unfold noDefer at h; rw [e] at h; cases h
theorem quietIn_round {l0 n : Nat} {P : Program} {ops : Array Oper} {C : World → Prop} {Q : Act → Prop} : ∀ (L : List Oper) (a : Act), wpQuietIn Fence.wide n P ops C Q L a → wpQuietIn (Fence.wide.inRound l0) n P ops C Q L a
  | [], _, h => h
  | o :: rest, a, h => by
    refine ⟨h.1, ?_⟩
    have h2 := h.2
    by_cases hw : Region.wanted o (yielded ops a.tmps) = true
    · simp only [hw, if_true] at h2 ⊢
      obtain ⟨v, h3, h4⟩ := h2
      exact ⟨v, h3, quietIn_round rest _ h4⟩
    · simp only [hw] at h2 ⊢
      exact quietIn_round rest _ h2
/-- A region that only reads, within a round: one walk in the order of the text. -/
theorem region_quiet_round {l0 n : Nat} {P : Program} {id : Nat} {Q : Exit → Act → World → Prop} {a : Act} {w : World} {L : List Oper} (hnd : L.all noDefer = true) (hm : P.follows .mixedOrders = true) (hB : Region.lexB .any L.toArray = true)
    (h : wpQuietIn Fence.wide n P L.toArray (fun w' => ∃ n, w' = w.drewN n) (fun a' => ∀ w', (∃ n, w' = w.drewN n) → Q .normal a' w') L a) : (Code.region id L.toArray true).wpIn (Fence.wide.inRound l0) n P Q a w := by
  have h' : wpQuietIn (Fence.wide.inRound l0) n P L.toArray (fun w' => ∃ n, w' = w.drewN n) (fun a' => ∀ w', (∃ n, w' = w.drewN n) → Q .normal a' w') L a := quietIn_round L a h
  simp only [Region.lexB, Bool.and_eq_true] at hB
  refine wpIn_region_any hm (wpAnyIn_of_quiet_sem (C := fun w' => ∃ n, w' = w.drewN n) (Q := fun a' => ∀ w', (∃ n, w' = w.drewN n) → Q .normal a' w') ?_ (fun _ w' hw' h => h w' hw') _ _ _ _ ⟨1, rfl⟩ ?_)
  · intro i o ho
    refine noDefer_ne (List.all_eq_true.1 hnd o ?_)
    have := List.mem_of_getElem? (l := L) (i := i) (a := o) (by simpa using ho)
    exact this
  · have := wpAnyQIn_lex (F := Fence.wide.inRound l0) (n := n) (P := P) (C := fun w' => ∃ n, w' = w.drewN n) (md := .any) hB.1 L.toArray.toList 0 (Array.replicate L.toArray.size false) a (by simp) (by simpa using hB.2) (by simpa using h')
    simpa using this

end Rope
end Go.Proofs.Ythjagnnbhpfpoaa
namespace Go.Proofs.Ythjagnnbhpfpoaa
open Go.RowKit
namespace Rope

/-- All but the blocks X is as it was. -/
def AllBut (X : Nat → Prop) (A A' : World) : Prop := A'.os = A.os ∧ A'.tape = A.tape ∧ A'.output = A.output ∧ A.heap.size ≤ A'.heap.size ∧ ∀ k, k < A.heap.size → ¬ X k → A'.heap[k]? = A.heap[k]?
section
variable {X Y : Nat → Prop} {A B C : World}
theorem AllBut.refl (X : Nat → Prop) (A : World) : AllBut X A A := ⟨rfl, rfl, rfl, Nat.le_refl _, fun _ _ _ => rfl⟩
theorem AllBut.trans (h : AllBut X A B) (k : AllBut X B C) : AllBut X A C :=
  ⟨k.1.trans h.1, k.2.1.trans h.2.1, k.2.2.1.trans h.2.2.1, Nat.le_trans h.2.2.2.1 k.2.2.2.1, fun i hi hx => (k.2.2.2.2 i (Nat.lt_of_lt_of_le hi h.2.2.2.1) hx).trans (h.2.2.2.2 i hi hx)⟩
theorem AllBut.wide (h : AllBut X A B) (hX : ∀ k, k < A.heap.size → X k → Y k) : AllBut Y A B := ⟨h.1, h.2.1, h.2.2.1, h.2.2.2.1, fun k hk hy => h.2.2.2.2 k hk (fun hx => hy (hX k hk hx))⟩
theorem AllBut.kept (h : Kept A B) : AllBut X A B := ⟨h.1, h.2.1, h.2.2.1, h.2.2.2.1, fun k hk _ => h.2.2.2.2 k hk⟩
theorem AllBut.set {b o : Nat} (hb : X b) (v : Value) : AllBut X A (A.setCell ⟨b, o, none⟩ v) := ⟨rfl, rfl, rfl, by simp [World.setCell], fun k _ hx => Below.heap_setCell _ _ _ _ (show k ≠ b from fun e => hx (e ▸ hb))⟩
theorem AllBut.cell (h : AllBut X A B) {b o : Nat} {v : Value} (hb : ¬ X b) (hc : A.cell? ⟨b, o, none⟩ = some v) : B.cell? ⟨b, o, none⟩ = some v := by
  rw [World.cell?_of_block (w := A) (a := ⟨b, o, none⟩) (h.2.2.2.2 b (World.block_lt_of_cell? A ⟨b, o, none⟩ hc) hb)]; exact hc
theorem AllBut.below {n0 : Nat} (h : AllBut X A B) (hn : n0 ≤ A.heap.size) (hX : ∀ k, X k → n0 ≤ k) : Below n0 A B := ⟨h.1, h.2.1, h.2.2.1, h.2.2.2.1, fun k hk => h.2.2.2.2 k (by omega) (fun hx => by have := hX k hx; omega)⟩
end

/-- Between two pieces: 'at' in block ba, 'pieces' in bp. -/
def ChI (w7 : World) (ba bp f : Nat) (pre : List Item) (W : World) : Prop :=
  AllBut (fun k => k = ba ∨ k = bp) w7 W ∧ W.cell? ⟨ba, 0, none⟩ = some (.int .i64 ((f + (got pre).length : Nat) : Int)) ∧ W.frozen? ⟨ba, 0, none⟩ = false ∧ W.cell? ⟨bp, 0, none⟩ = some (.int .i64 (pre.length : Int)) ∧ W.frozen? ⟨bp, 0, none⟩ = false ∧ pre.length ≤ (got pre).length
theorem chI_stable {w7 : World} {ba bp f : Nat} (hba : ba < w7.heap.size) (hbp : bp < w7.heap.size) : Stable (fun b => w7.heap.size ≤ b ∧ b < w7.heap.size + 3) (fun _ => ChI w7 ba bp f) := by
  rintro T T' pre A A' ⟨h1, h2, h3, h4, h5, h6⟩ ⟨s1, s2, s3, s4, s5, _⟩
  have key : ∀ k, k < w7.heap.size → A'.heap[k]? = A.heap[k]? := fun k hk => s5 k (Nat.lt_of_lt_of_le hk h1.2.2.2.1) (by omega)
  refine ⟨⟨s1.trans h1.1, s2.trans h1.2.1, s3.trans h1.2.2.1, Nat.le_trans h1.2.2.2.1 s4, fun k hk hx => (key k hk).trans (h1.2.2.2.2 k hk hx)⟩, ?_, ?_, ?_, ?_, h6⟩
  · rw [World.cell?_of_block (w := A) (a := ⟨ba, 0, none⟩) (key ba hba)]; exact h2
  · rw [World.frozen?_of_block (w := A) (a := ⟨ba, 0, none⟩) (key ba hba)]; exact h3
  · rw [World.cell?_of_block (w := A) (a := ⟨bp, 0, none⟩) (key bp hbp)]; exact h4
  · rw [World.frozen?_of_block (w := A) (a := ⟨bp, 0, none⟩) (key bp hbp)]; exact h5
theorem ch_next {w7 W W' : World} {ba bp f place blk bcap : Nat} {pre : List Item} {bytes : List Int} {T : Nat → Prop} {G : List Value} {v1 v2 : Value} (h : ChI w7 ba bp f pre W) (hne : ba ≠ bp) (hba : ba < w7.heap.size) (hbp : bp < w7.heap.size) (hblk : w7.heap.size ≤ blk) (hm : 0 < bytes.length) (hrow : RowOf W blk G)
    (hv1 : v1 = .int .i64 ((f + (got pre).length + bytes.length : Nat) : Int)) (hv2 : v2 = .int .i64 ((pre.length + 1 : Nat) : Int)) (hA : AllBut (fun k => k = blk) ((W.setCell ⟨ba, 0, none⟩ v1).setCell ⟨bp, 0, none⟩ v2) W')
    (hTb : ∀ b, T b → (b < w7.heap.size ∧ b ≠ ba ∧ b ≠ bp) ∨ w7.heap.size + 2 ≤ b) (hTl : ∀ b, T b → b < W.heap.size) :
    KeepsFrom w7.heap.size W W' ∧ (∀ b, T b ∧ b ≠ blk → W'.heap[b]? = W.heap[b]?) ∧ ChI w7 ba bp f (pre ++ [⟨place, bytes, blk, bcap⟩]) W' := by
  obtain ⟨h1, h2, h3, h4, h5, h6⟩ := h
  obtain ⟨W1, hW1⟩ : ∃ W1, W.setCell ⟨ba, 0, none⟩ v1 = W1 := ⟨_, rfl⟩
  obtain ⟨W2, hW2⟩ : ∃ W2, W1.setCell ⟨bp, 0, none⟩ v2 = W2 := ⟨_, rfl⟩
  rw [hW1, hW2] at hA
  have a1 : AllBut (fun k => k = ba ∨ k = bp) W W1 := hW1 ▸ AllBut.set (Or.inl rfl) v1
  have a2 : AllBut (fun k => k = ba ∨ k = bp) W1 W2 := hW2 ▸ AllBut.set (Or.inr rfl) v2
  have c1 : W1.cell? ⟨ba, 0, none⟩ = some v1 := hW1 ▸ set_same _ h2
  have z1 : W1.frozen? ⟨ba, 0, none⟩ = false := by rw [← hW1, World.frozen?_setCell]; exact h3
  have c2 : W1.cell? ⟨bp, 0, none⟩ = some (.int .i64 (pre.length : Int)) := by rw [← hW1, World.cell?_of_block (w := W) (a := ⟨bp, 0, none⟩) (Below.heap_setCell _ _ _ _ (show bp ≠ ba by omega))]; exact h4
  have z2 : W1.frozen? ⟨bp, 0, none⟩ = false := by rw [← hW1, World.frozen?_setCell]; exact h5
  have b2 : W2.heap[ba]? = W1.heap[ba]? := by rw [← hW2]; exact Below.heap_setCell _ _ _ _ hne
  have s12 : W.heap.size ≤ W2.heap.size := Nat.le_trans a1.2.2.2.1 a2.2.2.2.1
  have a02 := a1.trans a2
  have hw := h1.2.2.2.1
  have e : ∀ k, k < W.heap.size → k ≠ ba → k ≠ bp → k ≠ blk → W'.heap[k]? = W.heap[k]? := fun k hk n1 n2 n3 => by rw [hA.2.2.2.2 k (by omega) n3]; exact a02.2.2.2.2 k hk (by omega)
  have eba : W'.heap[ba]? = W1.heap[ba]? := by rw [hA.2.2.2.2 ba (by omega) (by omega), b2]
  have ebp : W'.heap[bp]? = W2.heap[bp]? := hA.2.2.2.2 bp (by omega) (by omega)
  refine ⟨⟨Nat.le_trans s12 hA.2.2.2.1, fun k o hB hk ho => ?_⟩, fun b hb => ?_, ⟨?_, ?_, ?_, Nat.le_trans hw (Nat.le_trans s12 hA.2.2.2.1), fun k hk hx => ?_⟩, ?_, ?_, ?_, ?_, ?_⟩
  · rw [e k (Array.getElem?_eq_some_iff.1 hk).1 (by omega) (by omega) (fun eb => by unfold RowOf at hrow; rw [← eb, hk] at hrow; cases hrow; cases ho)]; exact hk
  · have := hTb b hb.1
    exact e b (hTl b hb.1) (by omega) (by omega) hb.2
  · exact (hA.1.trans a02.1).trans h1.1
  · exact (hA.2.1.trans a02.2.1).trans h1.2.1
  · exact (hA.2.2.1.trans a02.2.2.1).trans h1.2.2.1
  · rw [e k (by omega) (by omega) (by omega) (by omega)]; exact h1.2.2.2.2 k hk hx
  · rw [World.cell?_of_block (w := W1) (a := ⟨ba, 0, none⟩) eba, c1, hv1, got_snoc, List.length_append, Nat.add_assoc]
  · rw [World.frozen?_of_block (w := W1) (a := ⟨ba, 0, none⟩) eba]; exact z1
  · rw [World.cell?_of_block (w := W2) (a := ⟨bp, 0, none⟩) ebp, List.length_append, List.length_singleton, ← hv2, ← hW2]; exact set_same _ c2
  · rw [World.frozen?_of_block (w := W2) (a := ⟨bp, 0, none⟩) ebp, ← hW2, World.frozen?_setCell]; exact z2
  · rw [got_snoc, List.length_append, List.length_append, List.length_singleton]; show _ ≤ _ + bytes.length; omega

/-- Between two pieces of the inner range: 'inner' in block bi. -/
def ChN (w8 : World) (bi f : Nat) (pre : List Item) (W : World) : Prop :=
  AllBut (fun k => k = bi) w8 W ∧ W.cell? ⟨bi, 0, none⟩ = some (.int .i64 ((f + (got pre).length : Nat) : Int)) ∧ W.frozen? ⟨bi, 0, none⟩ = false
theorem chN_stable {w8 : World} {bi f : Nat} (hbi : bi < w8.heap.size) : Stable (fun b => w8.heap.size ≤ b ∧ b < w8.heap.size + 2) (fun _ => ChN w8 bi f) := by
  rintro T T' pre A A' ⟨h1, h2, h3⟩ ⟨s1, s2, s3, s4, s5, _⟩
  have key : ∀ k, k < w8.heap.size → A'.heap[k]? = A.heap[k]? := fun k hk => s5 k (Nat.lt_of_lt_of_le hk h1.2.2.2.1) (by omega)
  refine ⟨⟨s1.trans h1.1, s2.trans h1.2.1, s3.trans h1.2.2.1, Nat.le_trans h1.2.2.2.1 s4, fun k hk hx => (key k hk).trans (h1.2.2.2.2 k hk hx)⟩, ?_, ?_⟩
  · rw [World.cell?_of_block (w := A) (a := ⟨bi, 0, none⟩) (key bi hbi)]; exact h2
  · rw [World.frozen?_of_block (w := A) (a := ⟨bi, 0, none⟩) (key bi hbi)]; exact h3
theorem chN_next {w8 W W' : World} {bi f place blk bcap : Nat} {pre : List Item} {bytes : List Int} {T : Nat → Prop} {v1 : Value} (h : ChN w8 bi f pre W) (hbi : bi < w8.heap.size)
    (hv1 : v1 = .int .i64 ((f + (got pre).length + bytes.length : Nat) : Int)) (hW' : W' = W.setCell ⟨bi, 0, none⟩ v1) (hTb : ∀ b, T b → b ≠ bi) :
    KeepsFrom w8.heap.size W W' ∧ (∀ b, T b ∧ b ≠ blk → W'.heap[b]? = W.heap[b]?) ∧ ChN w8 bi f (pre ++ [⟨place, bytes, blk, bcap⟩]) W' := by
  obtain ⟨h1, h2, h3⟩ := h
  subst hW'
  have e : ∀ k, k ≠ bi → (W.setCell ⟨bi, 0, none⟩ v1).heap[k]? = W.heap[k]? := fun k hk => Below.heap_setCell _ _ _ _ hk
  refine ⟨⟨by simp [World.setCell], fun k o hB hk _ => ?_⟩, fun b hb => e b (hTb b hb.1), h1.trans (AllBut.set (X := fun k => k = bi) rfl v1), ?_, ?_⟩
  · rw [e k (by omega)]; exact hk
  · rw [set_same _ h2, hv1, got_snoc, List.length_append, Nat.add_assoc]
  · rw [World.frozen?_setCell]; exact h3

theorem own_rows {w : World} {base g cap : Nat} {bs : List Int} (h : Own w base (.slice (some ⟨g, 0, none⟩) bs.length cap) bs) (hby : Byt bs) : ∃ G, RowOf w g G ∧ G.length = cap ∧ bs.length ≤ cap ∧ ∀ i, i < bs.length → ∃ y : Int, 0 ≤ y ∧ y ≤ 255 ∧ G[i]? = some (.int .u8 y) := by
  rcases h.2 with ⟨h, _⟩ | ⟨g', c', cur, e, _, h2, h3, _, h5, h6⟩
  · cases h
  · simp only [Value.slice.injEq, Option.some.injEq, Addr.mk.injEq] at e
    obtain ⟨⟨rfl, _⟩, _, rfl⟩ := e
    refine ⟨cur.toList, by unfold RowOf; simpa using h2, by simpa using h5, h3, fun i hi => ?_⟩
    have hb := hby bs[i] (List.getElem_mem hi)
    refine ⟨bs[i], hb.1, by omega, ?_⟩
    have h7 : (cur.toList.take bs.length)[i]? = (bytesV bs)[i]? := by
      have : cur.toList.take bs.length = bytesV bs := by simpa using h6
      rw [this]
    rw [List.getElem?_take, if_pos hi] at h7
    rw [h7]
    unfold bytesV
    rw [List.getElem?_map, List.getElem?_eq_getElem hi]
    rfl
theorem piece_is {xs bytes rest : List Int} {pre : List Item} {f m : Nat} (hm : m = f + (got pre).length) (h : xs.drop f = got pre ++ bytes ++ rest) : (xs.take (m + bytes.length)).drop m = bytes := by
  have h1 : xs.drop m = bytes ++ rest := by rw [hm, ← List.drop_drop, h, List.append_assoc, List.drop_left]
  rw [List.drop_take, h1, Nat.add_sub_cancel_left, List.take_left]
/-- The number in a cell. -/
def cnt (w : World) (v : Value) : Nat := match v with | .pointer (some a) => (match w.cell? a with | some (.int _ x) => x.toNat | _ => 0) | _ => 0
theorem cnt_of {w : World} {b k : Nat} (h : w.cell? ⟨b, 0, none⟩ = some (.int .i64 (k : Int))) : cnt w (.pointer (some ⟨b, 0, none⟩)) = k := by unfold cnt; simp [h]

end Rope
end Go.Proofs.Ythjagnnbhpfpoaa
