import Derived.RangeFuncNested
import Derived.RangeFuncBound
import Derived.RangeFuncCalls
import Derived.RangeFuncLeaves
import Derived.RangeFuncWrites
import Derived.Test.YtlgojnodhbmlkaaGreatDoorMExLy7
import Derived.TacticsIn
import Derived.RegionIn
import Derived.LoopIn
import Derived.TacticsInMore
namespace Go.Proofs.YtlgojnodhbmlkaaGreatDoor
open Go.RowKit
namespace Ex

/-- What a world that has only grown keeps. -/
def Grows {β : Type} (J : β → World → Prop) : Prop := ∀ s A A', J s A → Kept A A' → J s A'
/-- An iterator that reads: it hands over the members of xs, one behind the other; Kp: what a round must keep for it. -/
def SeqC {α : Type} (F : Fence) (n : Nat) (P : Program) (g : Nat) (lb : Array Value) (encs : α → Array Value) (Kp : World → World → Prop) (xs : List α) (w : World) : Prop :=
  ∀ (l : Nat) (J : List α → World → Prop) (W : World), Kp w W → Grows J →
    (∀ pre x W1, J pre W1 → (pre ++ [x]) <+: xs → YieldAt F (n - 1) P l (encs x) W1 fun e W' => e = .returned (.bool true) ∧ J (pre ++ [x]) W' ∧ Kp W1 W') →
    J [] W →
    CallsIn F n P g (#[.func (.yield l) #[] #[]] ++ lb) W fun e W' => (∃ v, e = .returned v) ∧ J xs W'

/-- How the body of a round is left. -/
def postC {α : Type} (B : Nat) (Kp : World → World → Prop) (I : List α → World → Prop) (xs : List α) (W : World) : Exit → Act → World → Prop
  | .normal, _, W' => KeepsFrom B W W' ∧ Kp W W' ∧ I xs W'
  | _, _, _ => False

/-- The statement 'range' over such an iterator, whose variable lies in a box that each round makes. -/
theorem range_box {F : Fence} {n : Nat} {P : Program} {α : Type} {g : Operand} {ps : Array Tmp} {assign body : Code} {Q : Exit → Act → World → Prop} {a : Act} {w : World}
    (hro : F.round = none) (h1 : 1 ≤ n) {gf : Nat} {lb : Array Value} (hg : a.eval g = .func (.func gf) #[] lb) (hFg : F.fn gf) (eg : ∀ args w, (callFunc gf args).run P w = .ok (.enter gf args) w)
    {encs : α → Array Value} {Kp : World → World → Prop} {xs : List α} (hseq : SeqC F (n - 1) P gf lb encs Kp xs w)
    (hKt : ∀ {A B C : World}, Kp A B → Kp B C → Kp A C) (hKb : ∀ (W : World) (l : Nat) (o o' : Obj), w.heap.size ≤ l → W.heap[l]? = some o → o.isCells = false → Kp W (W.putObj l o'))
    (hKk : ∀ W W', w.heap.size ≤ W.heap.size → Kept W W' → Kp W W') (hps : ∀ x, (encs x).size = ps.size)
    (I : List α → World → Prop) (hI : Grows I) (hIp : ∀ s W l o o', I s W → w.heap.size ≤ l → W.heap[l]? = some o → o.isCells = false → I s (W.putObj l o')) (h0 : I [] w) (ob : α → Obj) (a₁ : α → Nat → Act)
    (hassign : ∀ (l : Nat) (x : α) (W : World) (K : Act → World → Prop), x ∈ xs → K (a₁ x W.heap.size) (W.alloc (ob x)) →
      assign.wpIn (F.inRound l) (n - 1 - 1) P (Exit.then K (fun _ _ _ => False)) { tmps := (ps.zip (encs x)).foldl (fun t (p, v) => t.setIfInBounds p v) a.tmps, defers := [] } W)
    (hbody : ∀ (l : Nat) (pre : List α) (x : α) (W : World) (m : Nat), I pre W → (pre ++ [x]) <+: xs → W.heap[m]? = some (ob x) → w.heap.size < m → (∀ r : Nat, r = l → r ≠ m) → body.wpIn (F.inRound l) (n - 1 - 1) P (postC w.heap.size Kp I (pre ++ [x]) W) (a₁ x m) W)
    (hdone : ∀ (D : Nat) (W : World), w.heap.size ≤ D → I xs W → W.heap[D]? = some (.deferred (some [])) → Q .normal { a with defers := { target := .collected D, args := #[] } :: a.defers } W) :
    (Code.rangeFunc g ps assign body).wpIn F n P Q a w := by
  refine wpIn_rangeFunc ?_
  intro fn hfn
  rw [hro]
  obtain ⟨rec, hrec⟩ : ∃ rec : LoopState → Option Code → Loop, rec = fun st pe => { state := st, pending := pe, fn, tmps := a.tmps, params := ps, assign, body, defers := w.heap.size } := ⟨_, rfl⟩
  obtain ⟨W1, hW1⟩ : ∃ W1, (w.alloc (.deferred (some []))).alloc (.loop (rec .ready none)) = W1 := ⟨_, rfl⟩
  have hsz : W1.heap.size = w.heap.size + 2 := by rw [← hW1]; simp
  have hkw : Kept w W1 := by
    rw [← hW1]
    refine ⟨rfl, rfl, rfl, by simp; omega, fun k hk => ?_⟩
    exact (Below.heap_alloc _ _ _ (by simp; omega)).trans (Below.heap_alloc _ _ _ hk)
  have hL1 : W1.heap[w.heap.size + 1]? = some (.loop (rec .ready none)) := by
    have := World.alloc_heap_new (w.alloc (.deferred (some []))) (.loop (rec .ready none))
    rw [← hW1]; rwa [World.size_alloc] at this
  have hD1 : W1.heap[w.heap.size]? = some (.deferred (some [])) := by
    rw [← hW1]; exact (Below.heap_alloc _ _ _ (by simp)).trans (World.alloc_heap_new w _)
  refine ⟨w.heap.size + 1, [{ target := .collected w.heap.size, args := #[] }], W1, { target := .fn (.func gf) lb, args := #[.func (.yield (w.heap.size + 1)) #[] #[]] }, W1, gf,
    #[.func (.yield (w.heap.size + 1)) #[] #[]] ++ lb, W1, ?_, ?_, ?_, ?_, fun _ => h1, ?_⟩
  · rw [← hW1, hrec]; exact run_enterLoop_outer _ _ _ _ _
  · simp only [resolve, hg]
    simp [go_sem]
  · intro f' hf'; simp [Target.leads] at hf'; subst hf'; exact hFg
  · simp [invoke, go_sem, eg]
  refine (hseq (w.heap.size + 1)
    (fun pre W => I pre W ∧ W.heap[w.heap.size + 1]? = some (.loop (rec .ready none)) ∧ W.heap[w.heap.size]? = some (.deferred (some [])))
    W1 (hKk _ _ (Nat.le_refl _) hkw) ?_ ?_ ⟨hI _ _ _ h0 hkw, hL1, hD1⟩).mono ?_
  · rintro s A A' ⟨g1, g2, g3⟩ hb
    exact ⟨hI s A A' g1 hb, (hb.2.2.2.2 _ (Array.getElem?_eq_some_iff.1 g2).1).trans g2, (hb.2.2.2.2 _ (Array.getElem?_eq_some_iff.1 g3).1).trans g3⟩
  · rintro pre x W ⟨hi, hl, hk⟩ hpre
    have hlt : w.heap.size + 1 < W.heap.size := (Array.getElem?_eq_some_iff.1 hl).1
    have hy := run_yield (P := P) (args := encs x) hl (by rw [hrec]; exact hps x)
    rw [hrec] at hy
    obtain ⟨Wa, hWa⟩ : ∃ Wa, W.alloc (ob x) = Wa := ⟨_, rfl⟩
    have hka : Kept W Wa := by
      rw [← hWa]
      exact ⟨rfl, rfl, rfl, by simp, fun k hk => Below.heap_alloc _ _ _ hk⟩
    have hma : Wa.heap[W.heap.size]? = some (ob x) := by rw [← hWa]; exact heap_alloc_new W _
    have hla : Wa.heap[w.heap.size + 1]? = some (.loop (rec .ready none)) := (hka.2.2.2.2 _ hlt).trans hl
    have hda : Wa.heap[w.heap.size]? = some (.deferred (some [])) := (hka.2.2.2.2 _ (by omega)).trans hk
    have hlta : w.heap.size + 1 < Wa.heap.size := (Array.getElem?_eq_some_iff.1 hla).1
    refine ⟨fn, _, assign, body, hy, roundIn_of_wpIn hfn (hassign _ x W _ (hpre.subset (by simp)) ⟨_, run_beginRound (by rw [hWa]; exact hla) (by rw [hrec]), ?_⟩)⟩
    rw [hWa]
    obtain ⟨W2, hW2⟩ : ∃ W2, Wa.putObj (w.heap.size + 1) (.loop { rec .ready none with state := .busy }) = W2 := ⟨_, rfl⟩
    have hl2 : W2.heap[w.heap.size + 1]? = some (.loop { rec .ready none with state := .busy }) := by rw [← hW2]; exact World.putObj_heap_same hlta
    have hk2 : W2.heap[w.heap.size]? = some (.deferred (some [])) := by rw [← hW2]; exact (World.putObj_heap_other (by omega)).trans hda
    have hm2 : W2.heap[W.heap.size]? = some (ob x) := by rw [← hW2]; exact (World.putObj_heap_other (by omega)).trans hma
    have hkp2 : Kp W W2 := hKt (hKk _ _ (by omega) hka) (by rw [← hW2]; exact hKb _ _ _ _ (by omega) hla rfl)
    have hi2 : I pre W2 := by rw [← hW2]; exact hIp _ _ _ _ _ (hI _ _ _ hi hka) (by omega) hla rfl
    have hbd := hbody (w.heap.size + 1) pre x W2 W.heap.size hi2 hpre hm2 (by omega) (fun r hr => by omega)
    have fin : ∀ (W3 : World), KeepsFrom w.heap.size W2 W3 →
        (Instr.endRound (w.heap.size + 1) none).run P W3 = .ok (.bool true) (W3.putObj (w.heap.size + 1) (.loop (rec .ready none))) ∧
        W3.heap[w.heap.size + 1]? = some (.loop { rec .ready none with state := .busy }) ∧
        (W3.putObj (w.heap.size + 1) (.loop (rec .ready none))).heap[w.heap.size + 1]? = some (.loop (rec .ready none)) ∧
        (W3.putObj (w.heap.size + 1) (.loop (rec .ready none))).heap[w.heap.size]? = some (.deferred (some [])) := by
      intro W3 hk3
      have hl3 := hk3.same _ _ (by omega) hl2 rfl
      have hr := run_endRound (P := P) none hl3
      rw [hrec] at hr ⊢
      exact ⟨hr, by rw [hrec] at hl3; exact hl3, World.putObj_heap_same (Array.getElem?_eq_some_iff.1 hl3).1, (World.putObj_heap_other (by omega)).trans (hk3.same _ _ (Nat.le_refl _) hk2 rfl)⟩
    rw [hW2]
    refine wpIn_mono hbd ?_
    rintro e a3 W3 hp
    cases e with
    | normal =>
      obtain ⟨hk3, hkp3, hi3⟩ := hp
      obtain ⟨hr, hl3, hl4, hk4⟩ := fin W3 hk3
      exact ⟨_, _, hr, rfl, ⟨hIp _ _ _ _ _ hi3 (by omega) hl3 rfl, hl4, hk4⟩, hKt (hKt hkp2 hkp3) (hKb _ _ _ _ (by omega) hl3 rfl)⟩
    | ret => exact hp.elim
    | exit id => exact hp.elim
    | goto t => exact hp.elim
    | panic ch => exact hp.elim
    | outgrown => exact hp.elim
  · rintro e W2 ⟨⟨v, rfl⟩, hi, hl, hk⟩
    exact ⟨none, _, by have := run_endLoop (P := P) hl (by rw [hrec]; simp); rw [hrec] at this; exact this, hdone _ _ (Nat.le_refl _) (hIp _ _ _ _ _ hi (by omega) hl rfl) ((World.putObj_heap_other (by omega)).trans hk)⟩

end Ex
end Go.Proofs.YtlgojnodhbmlkaaGreatDoor
namespace Go.Proofs.YtlgojnodhbmlkaaGreatDoor
open Go.RowKit
attribute [local go_sem] Oper.semAt_some
namespace Ex

/-- The last members, from behind. -/
def dn {α : Type} (el : Nat → α) (len k : Nat) : List α := (((List.range len).drop k).map el).reverse
theorem dn_len {α : Type} (el : Nat → α) (len : Nat) : dn el len len = [] := by simp [dn]
theorem dn_succ {α : Type} (el : Nat → α) {len k : Nat} (h : k < len) : dn el len k = dn el len (k + 1) ++ [el k] := by
  have e : (List.range len).drop k = k :: (List.range len).drop (k + 1) := by
    rw [List.drop_eq_getElem_cons (by simpa using h)]
    simp
  unfold dn
  rw [e]
  simp
theorem dn_prefix {α : Type} (el : Nat → α) (len k : Nat) : dn el len k <+: dn el len 0 := by
  unfold dn
  rw [List.reverse_prefix]
  exact (List.drop_suffix _ _).map _
/-- These blocks lie as they lay. -/
def XK (X : Nat → Prop) (A B : World) : Prop := A.heap.size ≤ B.heap.size ∧ ∀ k, X k → B.heap[k]? = A.heap[k]?
theorem XK.trans {X : Nat → Prop} {A B C : World} (h : XK X A B) (k : XK X B C) : XK X A C := ⟨Nat.le_trans h.1 k.1, fun d hd => (k.2 d hd).trans (h.2 d hd)⟩
theorem XK.cell {X : Nat → Prop} {A B : World} (h : XK X A B) {d o : Nat} {v : Value} (hd : X d) (hc : A.cell? ⟨d, o, none⟩ = some v) : B.cell? ⟨d, o, none⟩ = some v := (World.cell?_of_block (w := A) (a := ⟨d, o, none⟩) (h.2 d hd)).trans hc

/-- The closure's loop. -/
def BkR {m : Nat} (X : Nat → Prop) (len : Nat) (el : Nat → PatN (m + 1) × Value) (J : List (Nat × PatN (m + 1) × Value) → World → Prop) (W : World) (vi : Value) (wr : World) : Prop :=
  ∃ k : Nat, k ≤ len ∧ vi = .int .i64 ((k : Int) - 1) ∧ J (dn (fun i => (i, el i)) len k) wr ∧ XK X W wr

set_option linter.unusedSimpArgs false in
set_option maxRecDepth 100000 in
set_option maxHeartbeats 2000000 in
/-- slices.Backward's closure. -/
theorem back_in (n : Nat) (hn : 1 ≤ n) (m : Nat) (X : Nat → Prop) (l Bs c o cap len : Nat) (el : Nat → PatN (m + 1) × Value) (hlen : len ≤ 17592186044416) (hXb : X Bs) (hXc : X c) (J : List (Nat × PatN (m + 1) × Value) → World → Prop)
    (hY : ∀ pre x W1, J pre W1 → (pre ++ [x]) <+: dn (fun i => (i, el i)) len 0 → YieldAt Fence.wide (n - 1) Tryz.prog l #[.int .i64 (x.1 : Int), valOf x.2.1 x.2.2] W1 fun e W' => e = .returned (.bool true) ∧ J (pre ++ [x]) W' ∧ XK X W1 W')
    (W : World) (hBs : W.cell? ⟨Bs, 0, none⟩ = some (.slice (some ⟨c, o, none⟩) len cap))
    (hc : ∀ i, i < len → W.cell? ⟨c, o + i * 6, none⟩ = some (.int .i64 (kind (el i).1)) ∧ W.cell? ⟨c, o + i * 6 + 1, none⟩ = some (.int .i64 (from_ (el i).1)) ∧ W.cell? ⟨c, o + i * 6 + 2, none⟩ = some (.int .i64 (to_ (el i).1)) ∧ W.cell? ⟨c, o + i * 6 + 3, none⟩ = some (.int .i64 (min_ (el i).1)) ∧ W.cell? ⟨c, o + i * 6 + 4, none⟩ = some (.int .i64 (max_ (el i).1)) ∧ W.cell? ⟨c, o + i * 6 + 5, none⟩ = some (el i).2 ∧ ∃ a z cp, (el i).2 = .slice a z cp) (h0 : J [] W) :
    CallsIn Fence.wide n Tryz.prog 80 #[.func (.yield l) #[] #[], .pointer (some ⟨Bs, 0, none⟩)] W fun e W' => (∃ v, e = .returned v) ∧ J (dn (fun i => (i, el i)) len 0) W' := by
  have HC := hide1 hc
  have HY := hide1 hY
  have HXB := hide1 hXb
  have HXC := hide1 hXc
  have H0 := hide1 h0
  clear hc hY hXb hXc h0
  have hlI : (len : Int) ≤ 17592186044416 := by omega
  refine callsIn_of_wp Tryz.func80 rfl trivial ?_ rfl
  simp only [Tryz.ntmps80, List.size_toArray, List.length_cons, List.length_nil, Nat.reduceAdd, Nat.reduceSub, Array.replicate_succ, Array.replicate_zero, List.push_toArray, List.append_toArray, List.nil_append, List.cons_append]
  gi_wp2
  gi_loopw [3] (fun vi wr => BkR X len el J W vi wr) (fun vi _ => (intOf vi + 1).toNat)
  case atStart => exact ⟨len, Nat.le_refl _, rfl, by rw [dn_len]; exact H0.out, Nat.le_refl _, fun _ _ => rfl⟩
  case round =>
    obtain ⟨k, hk, rfl, hJs, hx⟩ := hrel
    have HJS := hide1 hJs
    have HXK := hide1 hx
    have hb := hx.cell HXB.out hBs
    clear hJs hx
    cases k with
    | zero =>
      have hz : ((0 : Nat) : Int) - 1 = -1 := by omega
      rw [hz]
      gi_wp2
      go_end0
      exact ⟨⟨_, rfl⟩, HJS.out⟩
    | succ k =>
      have hz : ((k + 1 : Nat) : Int) - 1 = (k : Int) := by omega
      rw [hz]
      have HD := hide1 (dn_succ (fun i => (i, el i)) (len := len) (k := k) (by omega))
      obtain ⟨y0, y1, y2, y3, y4, y5, a6, z6, c6, y6⟩ := HC.out k (by omega)
      rw [y6] at y5
      have x0 := HXK.out.cell HXC.out y0
      have x1 := HXK.out.cell HXC.out y1
      have x2 := HXK.out.cell HXC.out y2
      have x3 := HXK.out.cell HXC.out y3
      have x4 := HXK.out.cell HXC.out y4
      have x5 := HXK.out.cell HXC.out y5
      have hq : valOf (el k).1 (el k).2 = .agg #[.int .i64 (kind (el k).1), .int .i64 (from_ (el k).1), .int .i64 (to_ (el k).1), .int .i64 (min_ (el k).1), .int .i64 (max_ (el k).1), .slice a6 z6 c6] := by rw [y6]; rfl
      obtain ⟨fn, tmps, assign, body, hy, hR⟩ := HY.out _ (k, el k) wr HJS.out (by have h1 := HD.out; rw [← h1]; exact dn_prefix _ _ _)
      have HR := hide1 hR
      dsimp only at hy
      rw [hq] at hy
      clear y0 y1 y2 y3 y4 y5 y6 hR hq
      have hkl : (k : Int) < (len : Int) := by omega
      gi_wp2
      refine HR.out.mono ?_
      rintro e W3 ⟨rfl, hJ3, hk3⟩
      have HJ3 := hide1 hJ3
      have HK3 := hide1 hk3
      clear hJ3 hk3
      gi_wp2
      go_roundw
      case rel => exact ⟨k, by omega, by go_num, by have h1 := HD.out; rw [h1]; exact HJ3.out, HXK.out.trans HK3.out⟩
      case measure => simp [intOf]

/-- What the closure does, as the statement range wants it. -/
theorem back_seq (n : Nat) (hn : 1 ≤ n) (m : Nat) (X : Nat → Prop) (Bs c o cap len : Nat) (el : Nat → PatN (m + 1) × Value) (hlen : len ≤ 17592186044416) (hXb : X Bs) (hXc : X c)
    (w : World) (hBs : w.cell? ⟨Bs, 0, none⟩ = some (.slice (some ⟨c, o, none⟩) len cap))
    (hc : ∀ i, i < len → w.cell? ⟨c, o + i * 6, none⟩ = some (.int .i64 (kind (el i).1)) ∧ w.cell? ⟨c, o + i * 6 + 1, none⟩ = some (.int .i64 (from_ (el i).1)) ∧ w.cell? ⟨c, o + i * 6 + 2, none⟩ = some (.int .i64 (to_ (el i).1)) ∧ w.cell? ⟨c, o + i * 6 + 3, none⟩ = some (.int .i64 (min_ (el i).1)) ∧ w.cell? ⟨c, o + i * 6 + 4, none⟩ = some (.int .i64 (max_ (el i).1)) ∧ w.cell? ⟨c, o + i * 6 + 5, none⟩ = some (el i).2 ∧ ∃ a z cp, (el i).2 = .slice a z cp) :
    SeqC Fence.wide n Tryz.prog 80 #[.pointer (some ⟨Bs, 0, none⟩)] (fun x : Nat × PatN (m + 1) × Value => #[.int .i64 (x.1 : Int), valOf x.2.1 x.2.2]) (XK X) (dn (fun i => (i, el i)) len 0) w := fun l J W hW _ hY h0 =>
  back_in n hn m X l Bs c o cap len el hlen hXb hXc J hY W (hW.cell hXb hBs) (fun i hi => by
    obtain ⟨y0, y1, y2, y3, y4, y5, y6⟩ := hc i hi
    exact ⟨hW.cell hXc y0, hW.cell hXc y1, hW.cell hXc y2, hW.cell hXc y3, hW.cell hXc y4, hW.cell hXc y5, y6⟩) h0
theorem back_is (a : Option Addr) (len cap : Nat) (w : World) :
    Calls Tryz.prog 60 #[.slice a len cap] w fun e w' => e = .returned (.func (.func 80) #[] #[.pointer (some ⟨w.heap.size, 0, none⟩)]) ∧ w' = w.alloc (.cells #[.slice a len cap] 22) := by
  go_enter Tryz.func60, Tryz.ntmps60
  go_wp2_with fail
  go_ret
  exact ⟨rfl, rfl⟩

end Ex
end Go.Proofs.YtlgojnodhbmlkaaGreatDoor
namespace Go.Proofs.YtlgojnodhbmlkaaGreatDoor
open Go.RowKit
attribute [local go_sem] Oper.semAt_some
namespace Ex

theorem row_block {w : World} {b : Nat} {t : TypeId} {z k : Nat} {v : Value} {xs : List Value} (h : w.ownsRow b t z v k xs) (g : Nat) (hg : v.ownBlock = some g) : ∃ cur, w.heap[g]? = some (.cells cur t (0, 0)) := by
  rcases h.2 with ⟨rfl, _⟩ | ⟨g2, cap, cur, rfl, _, hgb, _⟩
  · simp [Value.ownBlock] at hg
  · simp only [Value.ownBlock, Option.some.injEq] at hg
    subst hg
    exact ⟨cur, hgb⟩
theorem NetL.other {X : Nat → Prop} {w w' : World} {nb : Nat} {ts : List (Int × Int × Nat)} {fs : List (Nat × Nat)} (h : NetL X w nb ts fs) (hX : ∀ d, X d → d ≠ nb) (hk : ∀ k, ¬ X k → w'.heap[k]? = w.heap[k]?) : NetL X w' nb ts fs := by
  obtain ⟨f0, vt, vf, h1, h2, h3, h4, h5⟩ := h
  exact ⟨f0, vt, vf, (hk nb (fun e => hX nb e rfl)).trans h1, owns_kept h2 (fun g hg => hk g (h4 g hg).1), owns_kept h3 (fun g hg => hk g (h5 g hg).1), h4, h5⟩
/-- What is no cells is none of the net's. -/
theorem NetL.more {X : Nat → Prop} {w : World} {nb : Nat} {ts : List (Int × Int × Nat)} {fs : List (Nat × Nat)} (h : NetL X w nb ts fs) : NetL (fun d => X d ∨ ∃ o, w.heap[d]? = some o ∧ o.isCells = false) w nb ts fs ∧ ∀ d o, w.heap[d]? = some o → o.isCells = false → d ≠ nb := by
  obtain ⟨f0, vt, vf, h1, h2, h3, h4, h5⟩ := h
  refine ⟨⟨f0, vt, vf, h1, h2, h3, fun g hg => ⟨fun e => ?_, (h4 g hg).2⟩, fun g hg => ⟨fun e => ?_, (h5 g hg).2⟩⟩, fun d o hd ho e => ?_⟩
  · rcases e with e | ⟨o, e1, e2⟩
    · exact (h4 g hg).1 e
    · obtain ⟨cur, hc⟩ := row_block h2 g hg
      rw [hc] at e1; cases e1; cases e2
  · rcases e with e | ⟨o, e1, e2⟩
    · exact (h5 g hg).1 e
    · obtain ⟨cur, hc⟩ := row_block h3 g hg
      rw [hc] at e1; cases e1; cases e2
  · subst e
    rw [h1] at hd; cases hd; cases ho
theorem NetL.put {X : Nat → Prop} {w : World} {nb l : Nat} {o : Obj} (o' : Obj) {ts : List (Int × Int × Nat)} {fs : List (Nat × Nat)} (h : NetL X w nb ts fs) (hX : ∀ d, X d → d ≠ nb) (hl : w.heap[l]? = some o) (ho : o.isCells = false) : NetL X (w.putObj l o') nb ts fs := by
  have h2 := h.more
  refine (h2.1.other (w' := w.putObj l o') (fun d hd => ?_) (fun k hk => ?_)).sub (fun d hd => .inl hd)
  · rcases hd with hd | ⟨o2, e1, e2⟩
    · exact hX d hd
    · exact h2.2 d o2 e1 e2
  · exact World.putObj_heap_other (fun e => hk (.inr ⟨o, by rw [e]; exact hl, ho⟩))

end Ex
end Go.Proofs.YtlgojnodhbmlkaaGreatDoor
