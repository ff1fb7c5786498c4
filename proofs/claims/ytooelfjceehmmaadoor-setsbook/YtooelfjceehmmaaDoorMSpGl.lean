import Derived.Test.YtooelfjceehmmaaDoorMSpGi
import Derived.Deep.RegionHeld3
namespace Go.Proofs.YtooelfjceehmmaaDoor
open Go.RowKit
attribute [local go_sem] Oper.semAt_some
set_option linter.unusedVariables false
namespace Ex
namespace Sh

/-- A list of one number, in a block of its own. -/
def Sg (w : World) (x : SlV) (v : Int) : Prop := ∃ b, x = (some ⟨b, 0, none⟩, 1, 1) ∧ w.heap[b]? = some (.cells #[.int .i64 v] 3 (0, 0))
theorem Sg.lt {w : World} {b : Nat} {v : Int} {n c : Nat} (h : Sg w (some ⟨b, 0, none⟩, n, c) v) : b < w.heap.size := by
  obtain ⟨b', e, h⟩ := h
  injection e with e _
  injection e with e
  injection e with e
  subst e
  exact (Array.getElem?_eq_some_iff.1 h).1
theorem Sg.other {w w' : World} {x : SlV} {v : Int} {S : Nat → Prop} (h : Sg w x v) (hk : KT S w w') (hS : ∀ k, S k → ∃ cur T, w.heap[k]? = some (.cells cur T (0, 0)) ∧ T ≠ 3) : Sg w' x v := by
  obtain ⟨b, e, h⟩ := h
  refine ⟨b, e, (hk.2.2.2.2 b (Array.getElem?_eq_some_iff.1 h).1 (fun hb => ?_)).trans h⟩
  obtain ⟨cur, T, h2, h3⟩ := hS b hb
  rw [h] at h2
  injection h2 with h2
  injection h2 with _ h2
  exact h3 h2.symm
theorem Sg.kept {w w' : World} {x : SlV} {v : Int} (h : Sg w x v) (hk : Kept w w') : Sg w' x v := h.other (hk.kt (fun _ => False)) (fun _ h => h.elim)
theorem Sg.grown {α : Type} {L : ElK α} {w w' : World} {x : SlV} {v : Int} {b : Nat} {gv : Value} {l : List α} (h : Sg w x v) (ho : LO L w b gv l) (hT : L.T ≠ 3) (hg : w.grownBy w' gv.ownBlock) : Sg w' x v :=
  h.other (S := fun k => gv.ownBlock = some k) ⟨hg.os, hg.tape, hg.output, hg.size, fun k hk hn => hg.block k hk (fun e => hn e.symm)⟩ (fun k hk => by
    obtain ⟨cur, hc⟩ := ho.type hk
    exact ⟨cur, _, hc, hT⟩)
theorem Sg.app2 {w w' : World} {x y : SlV} {v : Int} {b m g cap : Nat} {l : List SlV} (h : Sg w x v) (ho : LO slE w b (val y) l) (ha : App2 w w' (val y) m g cap) : Sg w' x v := by
  rcases ha with ⟨e1, e2⟩ | ⟨_, e2⟩
  · have hy : (val y).ownBlock = some g := by rw [e1]; rfl
    rw [← hy] at e2
    exact h.grown ho (by decide) e2
  · exact h.kept e2
theorem Sg.ints {w : World} {x : SlV} {v : Int} (h : Sg w x v) : IntsR w (.slice x.1 x.2.1 x.2.2) [v] := by
  obtain ⟨b, rfl, h⟩ := h
  refine ⟨some ⟨b, 0, none⟩, 1, rfl, Nat.le_refl _, by show 1 ≤ 17592186044416; omega, .inr ⟨b, 0, rfl, (Array.getElem?_eq_some_iff.1 h).1, fun i y hy => ?_⟩⟩
  cases i with
  | zero =>
    have hy : v = y := by simpa using hy
    subst hy
    refine ⟨[.int .i64 v], rfl, fun j u hu => ?_, rfl⟩
    cases j with
    | zero =>
      have hu : Value.int .i64 v = u := by simpa using hu
      subst hu
      simp [World.cell?, h]
    | succ j => simp at hu
  | succ i => simp at hy
theorem Sg.new (w : World) (v : Int) : Sg (w.alloc (.cells #[.int .i64 v] 3)) (some ⟨w.heap.size, 0, none⟩, 1, 1) v := ⟨_, rfl, heap_alloc_new w _⟩
theorem heap_alloc2 (w : World) (o o2 : Obj) : ((w.alloc o).alloc o2).heap[w.heap.size + 1]? = some o2 := by
  have h := heap_alloc_new (w.alloc o) o2
  have e : (w.alloc o).heap.size = w.heap.size + 1 := by simp
  rw [e] at h
  exact h
def updM (M : Nat → Nat → SlV) (i k : Nat) (x : SlV) : Nat → Nat → SlV := fun u s => if u = i ∧ s = k then x else M u s
theorem updM_same (M : Nat → Nat → SlV) (i k : Nat) (x : SlV) : updM M i k x i k = x := if_pos ⟨rfl, rfl⟩
theorem updM_other {M : Nat → Nat → SlV} {i k u s : Nat} {x : SlV} (h : ¬ (u = i ∧ s = k)) : updM M i k x u s = M u s := if_neg h
theorem Mrk.upd {M : Nat → Nat → SlV} {vs : List SlV} {C : Nat → List SlV} {i k : Nat} (h : Mrk M vs C i k) (x : SlV) : Mrk (updM M i k x) vs C i k := fun u y s hy hs hc => by
  rw [updM_other (by omega)]
  exact h u y s hy hs hc
/-- The marks are lists of their numbers. -/
def SgM (w : World) (vs : List SlV) (M : Nat → Nat → SlV) (i k : Nat) : Prop := ∀ (u : Nat) (y : SlV) (s : Nat), vs[u]? = some y → s < y.2.1 → (u < i ∨ u = i ∧ s < k) → Sg w (M u s) (grIM u s)
def SgA (w : World) (A : Nat → Nat → SlV) (i k : Nat) : Prop := ∀ u s, s < 70 → (u < i ∨ u = i ∧ s < k) → Sg w (A u s) (grIA u s)
theorem SgM.put {w w' : World} {vs : List SlV} {M : Nat → Nat → SlV} {i k : Nat} {x : SlV} (h : SgM w vs M i k) (hw : ∀ x v, Sg w x v → Sg w' x v) (hx : Sg w' x (grIM i k)) : SgM w' vs (updM M i k x) i (k + 1) := fun u y s hy hs hc => by
  by_cases e : u = i ∧ s = k
  · obtain ⟨rfl, rfl⟩ := e
    rw [updM_same]
    exact hx
  · rw [updM_other e]
    exact hw _ _ (h u y s hy hs (by omega))
theorem SgM.step {w w' : World} {vs : List SlV} {M : Nat → Nat → SlV} {i k : Nat} (h : SgM w vs M i k) (hw : ∀ x v, Sg w x v → Sg w' x v) : SgM w' vs M i k := fun u y s hy hs hc => hw _ _ (h u y s hy hs hc)
theorem SgM.next {w : World} {vs : List SlV} {M : Nat → Nat → SlV} {i n : Nat} (h : SgM w vs M i n) (hn : ∀ x, vs[i]? = some x → x.2.1 = n) : SgM w vs M (i + 1) 0 := fun u y s hy hs hc => by
  by_cases e : u = i
  · subst e
    exact h u y s hy hs (.inr ⟨rfl, by rw [← hn y hy]; exact hs⟩)
  · exact h u y s hy hs (by omega)
theorem SgA.put {w w' : World} {A : Nat → Nat → SlV} {i k : Nat} {x : SlV} (h : SgA w A i k) (hw : ∀ x v, Sg w x v → Sg w' x v) (hx : Sg w' x (grIA i k)) : SgA w' (updM A i k x) i (k + 1) := fun u s hs hc => by
  by_cases e : u = i ∧ s = k
  · obtain ⟨rfl, rfl⟩ := e
    rw [updM_same]
    exact hx
  · rw [updM_other e]
    exact hw _ _ (h u s hs (by omega))
theorem SgA.step {w w' : World} {A : Nat → Nat → SlV} {i k : Nat} (h : SgA w A i k) (hw : ∀ x v, Sg w x v → Sg w' x v) : SgA w' A i k := fun u s hs hc => hw _ _ (h u s hs hc)
theorem SgA.next {w : World} {A : Nat → Nat → SlV} {i : Nat} (h : SgA w A i 70) : SgA w A (i + 1) 0 := fun u s hs hc => h u s hs (by omega)
theorem Gr2.ap {M A A' : Nat → Nat → SlV} {vs xs : List SlV} {w0 w : World} {gv : Value} {C D : Nat → List SlV} (h : Gr2 slE llE M A vs w0 w gv xs C D) (hA : ∀ v s, v < xs.length → A' v s = A v s) : Gr2 slE llE M A' vs w0 w gv xs C D :=
  ⟨h.bag, h.mr, h.kb, h.gl, h.bag2, fun v x y hx hy => by
    obtain ⟨d1, d2, d3⟩ := h.dd v x y hx hy
    exact ⟨d1, d2, fun s hs => by rw [hA v s (List.getElem?_eq_some_iff.1 hx).1]; exact d3 s hs⟩, h.own, h.lone2⟩
theorem Cu.ap {M A A' : Nat → Nat → SlV} {w0 w : World} {xs : List SlV} {u j : Nat} {y x : SlV} {G : List SlV} (h : Cu slE M A w0 w xs u j y x G) (hA : ∀ s, s < j → A' u s = A u s) : Cu slE M A' w0 w xs u j y x G := ⟨h.lo, h.n, h.g1, fun s hs => by rw [hA s hs]; exact h.g2 s hs, h.own⟩
set_option linter.unusedSimpArgs false in
set_option maxRecDepth 100000 in
set_option maxHeartbeats 8000000 in
theorem grL_is (vs : List SlV) (g0 N cap b0 : Nat) (C0 : Nat → List SlV) (w : World) (hN : vs.length = N) (hNb : N ≤ 2000) (hall : LO llE w b0 (.slice (some ⟨g0, 0, none⟩) N cap) vs) (hb : BagL slE w vs C0) (hl : LoneS vs) (hlen : ∀ (u : Nat) (x : SlV), vs[u]? = some x → x.2.1 ≤ 100000) :
    Calls Tryd.prog 12 #[.slice (some ⟨g0, 0, none⟩) N cap] w fun e w' => e = .returned (.bool true) ∧ KT (InB vs) w w' := by
  have HL := hide1 hl
  have HB := hide1 hb
  have HNN := hide1 hN
  have HLEN := hide1 hlen
  have hT : (slE).T ≠ (llE).T := by decide
  have HC : Hid (∀ w', KT (InB vs) w w' → ∀ (u : Nat) (x : SlV), vs[u]? = some x → w'.cell? ⟨g0, u, none⟩ = some (.slice x.1 x.2.1 x.2.2)) := fun w' hk u x hx => by
    have h1 : LO llE w' b0 (.slice (some ⟨g0, 0, none⟩) N cap) vs := hall.same (fun d hd => hk.2.2.2.2 d (hall.lt' d hd).2 (fun e => by
      obtain ⟨v, z, hz, hzd⟩ := e
      exact lo_ne (hb v z hz) hall hT hzd hd))
    obtain ⟨g, e, h2⟩ := Sh.lo_sl h1 rfl rfl hx
    injection e with e
    injection e with e
    rw [e]
    exact h2
  have HOLD : Hid (∀ (v : Nat) (z : SlV) (d : Nat), vs[v]? = some z → (val z).ownBlock = some d → d < w.heap.size) := fun v z d hz hd => ((hb v z hz).lt' d hd).2
  have gN : (N : Int) ≤ 2000 := by omega
  have HCAP : Hid (N ≤ cap) := (by have h1 := hall.cap; omega : N ≤ cap)
  have gC : (N : Int) ≤ (cap : Int) := by have := HCAP.out; omega
  clear hl hb hN hNb hall hlen
  go_enter Tryd.func12, Tryd.ntmps12
  go_wp2_with fail
  go_loopw [3] (fun i wr => ∃ (t : Nat) (C : Nat → List SlV) (M : Nat → Nat → SlV), i = .int .i64 (t : Int) ∧ t ≤ N ∧ Hid (BagL slE wr vs C) ∧ Hid (Mrk M vs C t 0) ∧ Hid (SgM wr vs M t 0) ∧ Hid (KT (InB vs) w wr)) (fun i _ => N - (intOf i).toNat)
  case atStart => exact ⟨0, C0, fun _ _ => (none, 0, 0), rfl, by omega, HB, fun t b n ht hs h => by omega, fun t b n ht hs h => by omega, (Kept.refl w).kt _⟩
  case round =>
    obtain ⟨t, C, M, rfl, ht, hB, hF, hG, hK⟩ := hrel
    clear HB
    by_cases hlt : (t : Int) < (N : Int)
    · obtain ⟨⟨xa, n, c⟩, hit⟩ : ∃ it, vs[t]? = some it := ⟨_, List.getElem?_eq_getElem (by have := HNN.out; omega)⟩
      have HIT := hide1 hit
      have hn4 : n ≤ 100000 := HLEN.out t _ hit
      have gn : (n : Int) ≤ 100000 := by omega
      have gt : (t : Int) ≤ 2000 := by omega
      clear hit
      go_wp2_with fail
      go_loopw [4] (fun i wr => ∃ (j : Nat) (C : Nat → List SlV) (M : Nat → Nat → SlV), i = .int .i64 (j : Int) ∧ j ≤ n ∧ Hid (BagL slE wr vs C) ∧ Hid (Mrk M vs C t j) ∧ Hid (SgM wr vs M t j) ∧ Hid (KT (InB vs) w wr)) (fun i _ => n - (intOf i).toNat)
      case atStart => exact ⟨0, C, M, rfl, by omega, hB, hF, hG, hK⟩
      case round =>
        clear hB hF hG hK
        obtain ⟨j, C, M, rfl, hj, hB, hF, hG, hK⟩ := hrel
        have hcell := HC.out wr hK.out t _ HIT.out
        dsimp only at hcell
        by_cases hlt2 : (j : Int) < (n : Int)
        · have hjn : j < n := by omega
          have hlo : LO slE wr 0 (.slice xa n c) (C t) := hB.out t _ HIT.out
          have hll := lo_lens hlo
          obtain ⟨g, hxa⟩ := hlo.some (by intro e; rw [e] at hll; simp at hll; omega)
          subst hxa
          have hcp : n ≤ c := by have := hlo.cap; omega
          obtain ⟨⟨u0, e0⟩, z0⟩ := lo_set0 hlo hjn 0 (by decide)
          have c0 : wr.cell? ⟨g, j, none⟩ = some u0 := by rw [show j * (slE).sz + 0 = j from Nat.mul_one j] at e0; exact e0
          have f0 : wr.frozen? ⟨g, j, none⟩ = false := by rw [show j * (slE).sz + 0 = j from Nat.mul_one j] at z0; exact z0
          obtain ⟨mt, hmt⟩ : ∃ mt : Int, 100000 * (t : Int) = mt := ⟨_, rfl⟩
          obtain ⟨mv, hmv⟩ : ∃ mv : Int, grIM t j = mv := ⟨_, rfl⟩
          have hm1 : IntKind.i64.wrap (100000 * (t : Int)) = mt := by rw [IntKind.wrap_i64] <;> omega
          have hm2 : IntKind.i64.wrap (mt + (j : Int)) = mv := by unfold grIM at hmv; rw [IntKind.wrap_i64] <;> omega
          clear hmt
          have HK1 : Hid (Kept wr (wr.alloc (.cells #[.int .i64 mv] 3))) := (Kept.refl wr).alloc _ _
          have HX1 : Hid (Sg (wr.alloc (.cells #[.int .i64 mv] 3)) (some ⟨wr.heap.size, 0, none⟩, 1, 1) mv) := Sg.new wr mv
          have HLG : Hid (LO slE (wr.alloc (.cells #[.int .i64 mv] 3)) 0 (.slice (some ⟨g, 0, none⟩) n c) (C t)) := LO.keep hlo HK1.out
          have c1 := grown_cell HK1.out c0
          have f1 := (lo_set0 HLG.out hjn 0 (by decide)).2
          rw [show j * (slE).sz + 0 = j from Nat.mul_one j] at f1
          have HST : Hid (∀ x v, Sg (wr.alloc (.cells #[.int .i64 mv] 3)) x v → Sg ((wr.alloc (.cells #[.int .i64 mv] 3)).setCell ⟨g, j, none⟩ (.slice (some ⟨wr.heap.size, 0, none⟩) 1 1)) x v) := fun x v h => h.other (set_kt _ g j _) (fun k hk => by
            obtain ⟨cur, hc⟩ := LO.type HLG.out (g := g) rfl
            rw [hk]
            exact ⟨cur, _, hc, by decide⟩)
          have HB5 : Hid (BagL slE ((wr.alloc (.cells #[.int .i64 mv] 3)).setCell ⟨g, j, none⟩ (.slice (some ⟨wr.heap.size, 0, none⟩) 1 1)) vs (updF C t ((C t).set j (some ⟨wr.heap.size, 0, none⟩, 1, 1)))) := by
            have h := (hB.out.kept HK1.out).put HL.out HIT.out hjn (some ⟨wr.heap.size, 0, none⟩, 1, 1)
            rw [show j * (slE).sz = j from Nat.mul_one j] at h
            exact h
          have HF5 : Hid (Mrk (updM M t j (some ⟨wr.heap.size, 0, none⟩, 1, 1)) vs (updF C t ((C t).set j (some ⟨wr.heap.size, 0, none⟩, 1, 1))) t (j + 1)) := by
            have h := (hF.out.upd (some ⟨wr.heap.size, 0, none⟩, 1, 1)).put HIT.out (show j < (C t).length by omega)
            rw [updM_same] at h
            exact h
          have HG5 : Hid (SgM ((wr.alloc (.cells #[.int .i64 mv] 3)).setCell ⟨g, j, none⟩ (.slice (some ⟨wr.heap.size, 0, none⟩) 1 1)) vs (updM M t j (some ⟨wr.heap.size, 0, none⟩, 1, 1)) t (j + 1)) := (hG.out.step (fun x v h => h.kept HK1.out)).put HST.out (by rw [hmv]; exact HST.out _ _ HX1.out)
          have HK5 : Hid (KT (InB vs) w ((wr.alloc (.cells #[.int .i64 mv] 3)).setCell ⟨g, j, none⟩ (.slice (some ⟨wr.heap.size, 0, none⟩) 1 1))) := hK.out.trans ((HK1.out.kt _).trans ((set_kt _ g j _).mono (fun k e => by rw [e]; exact ⟨t, _, HIT.out, rfl⟩)))
          clear HLG HX1
          have hjc : (j : Int) < (c : Int) := by omega
          clear hlo hll hB hF hG hK e0 z0 hcp hjn hmv
          go_wp2_with fail
          go_roundw
          case rel => exact ⟨j + 1, _, _, by go_num, by omega, HB5, HF5, HG5, HK5⟩
          case measure => simp [intOf]; omega
        · go_wp2_with fail
          go_roundw
          case rel => exact ⟨t + 1, C, M, by go_num, by omega, hB, (hF.out.next (fun x h' => by have h9 := HIT.out; rw [h'] at h9; have h8 := Option.some.inj h9; subst h8; show n = j; omega)), (hG.out.next (fun x h' => by have h9 := HIT.out; rw [h'] at h9; have h8 := Option.some.inj h9; subst h8; show n = j; omega)), hK⟩
          case measure => simp [intOf]; omega
    · obtain rfl : t = N := by omega
      clear hlt ht
      have HGM : Hid (∀ w', (∀ x v, Sg wr x v → Sg w' x v) → SgM w' vs M t 0) := fun w' hw => hG.out.step hw
      have HSTART : Hid (Gr2 slE llE M (fun _ _ => (none, 0, 0)) vs w wr (.slice none 0 0) [] C (fun _ => [])) := ⟨hB.out, by rw [HNN.out]; exact hF.out, hK.out, LO.nil _ _, fun u x hx => by simp at hx, fun u x y hx => by simp at hx, fun u x y d hx => by simp at hx, fun u u' x x' d hx => by simp at hx⟩
      have HGM0 := hG
      clear hB hF hG hK HGM
      go_wp2_with fail
      go_loopw [5, 6] (fun m i wr => ∃ (u : Nat) (xs : List SlV) (C D : Nat → List SlV) (A : Nat → Nat → SlV) (aM : Option Addr) (cM : Nat), m = .slice aM u cM ∧ i = .int .i64 (u : Int) ∧ u ≤ t ∧ Hid (xs.length = u) ∧ Hid (Gr2 slE llE M A vs w wr (.slice aM u cM) xs C D) ∧ Hid (SgM wr vs M t 0) ∧ Hid (SgA wr A u 0)) (fun _ i _ => t - (intOf i).toNat)
      case atStart => exact ⟨0, [], C, fun _ => [], fun _ _ => (none, 0, 0), none, 0, rfl, rfl, by omega, rfl, HSTART.out, HGM0, fun u s hs hc => by omega⟩
      case round =>
        clear HSTART HGM0
        obtain ⟨u, xs, C, D, A, aM, cM, rfl, rfl, hu, hxl, hS, hM, hA⟩ := hrel
        by_cases hlt : (u : Int) < (t : Int)
        · obtain ⟨⟨ya, n, c⟩, hit⟩ : ∃ it, vs[u]? = some it := ⟨_, List.getElem?_eq_getElem (by have := HNN.out; omega)⟩
          have HIT := hide1 hit
          have hcell := HC.out wr hS.out.kb u _ hit
          dsimp only at hcell
          have hn4 : n ≤ 100000 := HLEN.out u _ hit
          have gn : (n : Int) ≤ 100000 := by omega
          have gu : (u : Int) ≤ 2000 := by omega
          have HCU : Hid (Cu slE M A w wr xs u 0 (ya, n, c) (ya, n + 0, c) (C u)) := ⟨hS.out.bag u _ hit, rfl, fun s hs => hS.out.mr u _ s hit hs (Or.inl (by have := HNN.out; omega)), fun s hs => by omega, Or.inl ⟨rfl, rfl⟩⟩
          clear hit
          go_wp2_with fail
          go_loopw [7, 8] (fun g i wr => ∃ (j : Nat) (C : Nat → List SlV) (A : Nat → Nat → SlV) (xa : Option Addr) (xc : Nat) (G : List SlV), g = .slice xa (n + j) xc ∧ i = .int .i64 (j : Int) ∧ j ≤ 70 ∧ Hid (Gr2 slE llE M A vs w wr (.slice aM u cM) xs C D) ∧ Hid (Cu slE M A w wr xs u j (ya, n, c) (xa, n + j, xc) G) ∧ Hid (SgM wr vs M t 0) ∧ Hid (SgA wr A u j)) (fun _ i _ => 70 - (intOf i).toNat)
          case atStart => exact ⟨0, C, A, ya, c, C u, rfl, rfl, by omega, hS, HCU, hM, hA⟩
          case round =>
            clear hS HCU hM hA
            obtain ⟨j, C, A, xa, xc, G, rfl, rfl, hj, hS, hC, hM, hA⟩ := hrel
            have HGL : Hid (G.length = n + j) := lo_lens (show LO slE wr 0 (.slice xa (n + j) xc) G from hC.out.lo)
            by_cases hlt3 : (j : Int) < 70
            · skip
              obtain ⟨at_, hat⟩ : ∃ at_ : Int, 100 * (u : Int) = at_ := ⟨_, rfl⟩
              obtain ⟨au, hau⟩ : ∃ au : Int, -1 - at_ = au := ⟨_, rfl⟩
              obtain ⟨av, hav⟩ : ∃ av : Int, grIA u j = av := ⟨_, rfl⟩
              have hm1 : IntKind.i64.wrap (100 * (u : Int)) = at_ := by rw [IntKind.wrap_i64] <;> omega
              have hm2 : IntKind.i64.wrap (-1 - at_) = au := by rw [IntKind.wrap_i64] <;> omega
              have hm3 : IntKind.i64.wrap (au - (j : Int)) = av := by unfold grIA at hav; rw [IntKind.wrap_i64] <;> omega
              clear hat hau
              have HAV := hide1 hav
              clear hav
              have HK2 : Hid (Kept wr ((wr.alloc (.cells #[.int .i64 av] 3)).alloc (.cells #[.slice (some ⟨wr.heap.size, 0, none⟩) 1 1] 41))) := ((Kept.refl wr).alloc _ _).alloc _ _
              have HX2 : Hid (Sg ((wr.alloc (.cells #[.int .i64 av] 3)).alloc (.cells #[.slice (some ⟨wr.heap.size, 0, none⟩) 1 1] 41)) (some ⟨wr.heap.size, 0, none⟩, 1, 1) av) := (Sg.new wr av).kept ((Kept.refl _).alloc _ _)
              have HS2 : Hid (Gr2 slE llE M (updM A u j (some ⟨wr.heap.size, 0, none⟩, 1, 1)) vs w wr (.slice aM u cM) xs C D) := hS.out.ap (fun v s hv => updM_other (by rw [hxl.out] at hv; omega))
              have HC2 : Hid (Cu slE M (updM A u j (some ⟨wr.heap.size, 0, none⟩, 1, 1)) w wr xs u j (ya, n, c) (xa, n + j, xc) G) := hC.out.ap (fun s hs => updM_other (by omega))
              go_wp2_with (at_builtin; go_must (refine wpl_lo2 (E := slE) (by decide) rfl _ _ rfl 0 (.slice xa (n + j) xc) G (n + j) HGL.out (by rfl) (LO.keep hC.out.lo HK2.out) (wr.heap.size + 1) (some ⟨wr.heap.size, 0, none⟩, 1, 1) (by rfl) (heap_alloc2 wr _ _) (by omega) (Nat.zero_le _) ?_; intro g6 c6 w6 ho6 ha6 hg6; have hstep := hide1 (gr_step hT HS2.out HC2.out HIT.out hxl.out HL.out HOLD.out HK2.out (by rw [updM_same]; exact ho6) ha6 hg6); have hMV := hide1 (fun (x : SlV) (v : Int) (h : Sg ((wr.alloc (.cells #[.int .i64 av] 3)).alloc (.cells #[.slice (some ⟨wr.heap.size, 0, none⟩) 1 1] 41)) x v) => h.app2 (y := (xa, n + j, xc)) (LO.keep hC.out.lo HK2.out) ha6); clear ho6 ha6 hg6))
              obtain ⟨C', hs', hc'⟩ := hstep.out
              have HS' := hide1 hs'
              have HC' := hide1 hc'
              have HM' := hide1 (hM.out.step (fun x v h => hMV.out x v (h.kept HK2.out)))
              have HA' := hide1 ((hA.out.step (fun x v h => h.kept HK2.out)).put (fun x v h => hMV.out x v h) (by rw [HAV.out]; exact hMV.out _ _ HX2.out))
              rw [updM_same] at HC'
              clear hs' hc' hstep hMV HS2 HC2 HX2 HK2
              go_roundw
              case rel => exact ⟨j + 1, C', _, some ⟨g6, 0, none⟩, c6, _, rfl, by go_num, by omega, HS', HC', HM', HA'⟩
              case measure => simp [intOf]; omega
            · obtain rfl : j = 70 := by omega
              clear hj hlt3
              have hsz0 := hS.out.kb.2.2.2.1
              go_wp2_with (at_builtin; go_must (refine wpl_lo (E := llE) rfl _ _ rfl w.heap.size (.slice aM u cM) xs u hxl.out (by rfl) (LO.keep hS.out.gl ((Kept.refl wr).alloc _ _)) wr.heap.size (xa, n + 70, xc) (by rfl) (heap_alloc_new wr _) (by show (u + 1) * 24 ≤ 140737488355328; omega) (by unfold maxLen; omega) (Nat.le_trans hsz0 (Nat.le_of_lt (by simp))) ?_; intro g7 c7 w7 ho7 hg7 hor7 hlt7; have hstep := hide1 (gr_push hT hS.out hC.out HIT.out hxl.out HL.out HOLD.out ((Kept.refl wr).alloc _ _) ho7 hg7); have hMV := hide1 (fun (x : SlV) (v : Int) (h : Sg wr x v) => (h.kept ((Kept.refl wr).alloc #[.slice xa (n + 70) xc] 28)).grown (LO.keep hS.out.gl ((Kept.refl wr).alloc _ _)) (by decide) hg7); clear ho7 hg7 hor7 hlt7))
              have HM' := hide1 (hM.out.step (fun x v h => hMV.out x v h))
              have HA' := hide1 ((hA.out.step (fun x v h => hMV.out x v h)).next)
              clear hMV
              go_roundw
              case rel => exact ⟨u + 1, xs ++ [(xa, n + 70, xc)], C, updF D u G, A, some ⟨g7, 0, none⟩, c7, rfl, by go_num, by omega, by rw [List.length_append, hxl.out]; rfl, hstep, HM', HA'⟩
              case measure => simp [intOf]; omega
        · obtain rfl : u = t := by omega
          clear hlt hu
          have HP := hide1 (fun (v : Nat) (hv : v < u) => gr_rows hS.out hxl.out HNN.out rfl rfl v hv)
          have HK := hide1 hS.out.kb
          have HMM := hM
          have HAA := hA
          have HUN := hide1 HNN.out
          clear hS hM hA
          obtain ⟨wb, rfl⟩ : ∃ x, x = wr := ⟨_, rfl⟩
          go_wp2_with fail
          go_loopw [9] (fun i wx => ∃ v : Nat, i = .int .i64 (v : Int) ∧ v ≤ u ∧ Hid (Kept wb wx)) (fun i _ => u - (intOf i).toNat)
          case atStart => exact ⟨0, rfl, by omega, Kept.refl _⟩
          case round =>
            obtain ⟨v, rfl, hv, hk⟩ := hrel
            by_cases hlt : (v : Int) < (u : Int)
            · obtain ⟨⟨ya, n, c⟩, ⟨xa, n7, xc⟩, gM, hy, h71, hcy, hcx, rfl, hcM, hr1, hr2⟩ := HP.out v (by omega)
              dsimp only at h71 hcy hcx hcM hr1 hr2
              subst h71
              have q1 := kcell (HC.out _ HK.out v _ hy)
              dsimp only at q1
              have q2 := kcell hcM
              have hn4 : n ≤ 100000 := HLEN.out v _ hy
              have gn : (n : Int) ≤ 100000 := by omega
              have gv : (v : Int) ≤ 2000 := by omega
              have HR1 := hide1 hr1
              have HY := hide1 hy
              have HR2 := hide1 hr2
              clear hy hcM hr1 hr2
              have d1 := q1 _ hk.out
              go_wp2_with fail
              clear d1
              go_loopw [11] (fun i wx => ∃ s : Nat, i = .int .i64 (s : Int) ∧ s ≤ n ∧ Hid (Kept wb wx)) (fun i _ => n - (intOf i).toNat)
              case atStart => exact ⟨0, rfl, by omega, hk⟩
              case round =>
                clear hk
                obtain ⟨s, rfl, hs, hk⟩ := hrel
                by_cases hlt2 : (s : Int) < (n : Int)
                · have d1 := q1 _ hk.out
                  have d2 := q2 _ hk.out
                  have hs7 : (s : Int) < (n : Int) + 70 := by omega
                  obtain ⟨gy, gx, rfl, rfl, r3⟩ := HR1.out s (by omega)
                  obtain ⟨mt, hmt⟩ : ∃ mt : Int, 100000 * (v : Int) = mt := ⟨_, rfl⟩
                  obtain ⟨mv, hmv⟩ : ∃ mv : Int, grIM v s = mv := ⟨_, rfl⟩
                  have hm1 : IntKind.i64.wrap (100000 * (v : Int)) = mt := by rw [IntKind.wrap_i64] <;> omega
                  have hm2 : IntKind.i64.wrap (mt + (s : Int)) = mv := by unfold grIM at hmv; rw [IntKind.wrap_i64] <;> omega
                  clear hmt
                  have hSG := HMM.out v _ s HY.out (show s < n by omega) (Or.inl (by omega))
                  rw [hmv] at hSG
                  obtain ⟨bm, hbm⟩ : ∃ b, M v s = (some ⟨b, 0, none⟩, 1, 1) := ⟨_, hSG.choose_spec.1⟩
                  rw [hbm] at hSG
                  have HBM := hide1 (hSG.kept hk.out)
                  have a0 : wr.cell? ⟨gy, s, none⟩ = some (.slice (some ⟨bm, 0, none⟩) 1 1) := by
                    have h := grown_cell hk.out (r3 0 _ rfl).1
                    rw [show s * (slE).sz + 0 = s from Nat.mul_one s, hbm] at h
                    exact h
                  have b0 : wr.cell? ⟨gx, s, none⟩ = some (.slice (some ⟨bm, 0, none⟩) 1 1) := by
                    have h := grown_cell hk.out (r3 0 _ rfl).2
                    rw [show s * (slE).sz + 0 = s from Nat.mul_one s, hbm] at h
                    exact h
                  clear r3 hmv hbm hSG
                  have hvI : (v : Int) < (u : Int) := by omega
                  have hsc : (s : Int) < (n : Int) := hlt2
                  go_upto_region 25 with fail
                  refine wp_region_held_drew (S := fun X => Kept wr X) (by kernel_rfl) (drew_kept _) (fun hHeld => ?_)
                  refine wpAnyH_take (i := 0) (v := .slice (some ⟨g0, 0, none⟩) u cap) rfl (by kernel_rfl) (by kernel_rfl) (by kernel_rfl) (fun _ _ _ h => h) (Or.inl ⟨by kernel_rfl, fun w' hSw => ?_⟩) (by with_reducible assumption) ?_
                  · skip
                    clear hSw
                    go_simp
                  try simp only [Act.put, List.getElem_toArray, List.getElem_cons_succ, List.getElem_cons_zero, List.setIfInBounds_toArray, List.set_cons_zero, List.set_cons_succ]
                  refine wpAnyH_take (i := 1) (v := .int .i64 (v : Int)) rfl (by kernel_rfl) (by kernel_rfl) (by kernel_rfl) (fun _ _ _ h => h) (Or.inl ⟨by kernel_rfl, fun w' hSw => ?_⟩) (by with_reducible assumption) ?_
                  · skip
                    clear hSw
                    go_simp
                  try simp only [Act.put, List.getElem_toArray, List.getElem_cons_succ, List.getElem_cons_zero, List.setIfInBounds_toArray, List.set_cons_zero, List.set_cons_succ]
                  refine wpAnyH_take (i := 2) (v := .pointer (some ⟨g0, v, none⟩)) rfl (by kernel_rfl) (by kernel_rfl) (by kernel_rfl) (fun _ _ _ h => h) (Or.inl ⟨by kernel_rfl, fun w' hSw => ?_⟩) (by with_reducible assumption) ?_
                  · skip
                    clear hSw
                    go_simp
                  try simp only [Act.put, List.getElem_toArray, List.getElem_cons_succ, List.getElem_cons_zero, List.setIfInBounds_toArray, List.set_cons_zero, List.set_cons_succ]
                  refine wpAnyH_take (i := 3) (v := .slice (some ⟨gy, 0, none⟩) n c) rfl (by kernel_rfl) (by kernel_rfl) (by kernel_rfl) (fun _ _ _ h => h) (Or.inl ⟨by kernel_rfl, fun w' hSw => ?_⟩) (by with_reducible assumption) ?_
                  · have t1 := grown_cell hSw d1
                    clear hSw
                    go_simp
                  try simp only [Act.put, List.getElem_toArray, List.getElem_cons_succ, List.getElem_cons_zero, List.setIfInBounds_toArray, List.set_cons_zero, List.set_cons_succ]
                  refine wpAnyH_take (i := 4) (v := .int .i64 (s : Int)) rfl (by kernel_rfl) (by kernel_rfl) (by kernel_rfl) (fun _ _ _ h => h) (Or.inl ⟨by kernel_rfl, fun w' hSw => ?_⟩) (by with_reducible assumption) ?_
                  · skip
                    clear hSw
                    go_simp
                  try simp only [Act.put, List.getElem_toArray, List.getElem_cons_succ, List.getElem_cons_zero, List.setIfInBounds_toArray, List.set_cons_zero, List.set_cons_succ]
                  refine wpAnyH_take (i := 5) (v := .pointer (some ⟨gy, s, none⟩)) rfl (by kernel_rfl) (by kernel_rfl) (by kernel_rfl) (fun _ _ _ h => h) (Or.inl ⟨by kernel_rfl, fun w' hSw => ?_⟩) (by with_reducible assumption) ?_
                  · skip
                    clear hSw
                    go_simp
                  try simp only [Act.put, List.getElem_toArray, List.getElem_cons_succ, List.getElem_cons_zero, List.setIfInBounds_toArray, List.set_cons_zero, List.set_cons_succ]
                  refine wpAnyH_take (i := 6) (v := .slice (some ⟨bm, 0, none⟩) 1 1) rfl (by kernel_rfl) (by kernel_rfl) (by kernel_rfl) (fun _ _ _ h => h) (Or.inl ⟨by kernel_rfl, fun w' hSw => ?_⟩) (by with_reducible assumption) ?_
                  · have t1 := grown_cell hSw a0
                    clear hSw
                    go_simp
                  try simp only [Act.put, List.getElem_toArray, List.getElem_cons_succ, List.getElem_cons_zero, List.setIfInBounds_toArray, List.set_cons_zero, List.set_cons_succ]
                  refine wpAnyH_take (i := 7) (v := .int .i64 (v : Int)) rfl (by kernel_rfl) (by kernel_rfl) (by kernel_rfl) (fun _ _ _ h => h) (Or.inl ⟨by kernel_rfl, fun w' hSw => ?_⟩) (by with_reducible assumption) ?_
                  · skip
                    clear hSw
                    go_simp
                  try simp only [Act.put, List.getElem_toArray, List.getElem_cons_succ, List.getElem_cons_zero, List.setIfInBounds_toArray, List.set_cons_zero, List.set_cons_succ]
                  refine wpAnyH_take (i := 8) (v := .int .i64 mt) rfl (by kernel_rfl) (by kernel_rfl) (by kernel_rfl) (fun _ _ _ h => h) (Or.inl ⟨by kernel_rfl, fun w' hSw => ?_⟩) (by with_reducible assumption) ?_
                  · skip
                    clear hSw
                    go_simp
                  try simp only [Act.put, List.getElem_toArray, List.getElem_cons_succ, List.getElem_cons_zero, List.setIfInBounds_toArray, List.set_cons_zero, List.set_cons_succ]
                  refine wpAnyH_take (i := 9) (v := .int .i64 (s : Int)) rfl (by kernel_rfl) (by kernel_rfl) (by kernel_rfl) (fun _ _ _ h => h) (Or.inl ⟨by kernel_rfl, fun w' hSw => ?_⟩) (by with_reducible assumption) ?_
                  · skip
                    clear hSw
                    go_simp
                  try simp only [Act.put, List.getElem_toArray, List.getElem_cons_succ, List.getElem_cons_zero, List.setIfInBounds_toArray, List.set_cons_zero, List.set_cons_succ]
                  refine wpAnyH_take (i := 10) (v := .int .i64 mv) rfl (by kernel_rfl) (by kernel_rfl) (by kernel_rfl) (fun _ _ _ h => h) (Or.inl ⟨by kernel_rfl, fun w' hSw => ?_⟩) (by with_reducible assumption) ?_
                  · skip
                    clear hSw
                    go_simp
                  try simp only [Act.put, List.getElem_toArray, List.getElem_cons_succ, List.getElem_cons_zero, List.setIfInBounds_toArray, List.set_cons_zero, List.set_cons_succ]
                  refine wpAnyH_ready (rs := [11]) (by kernel_rfl) (by simp) ?_
                  refine AllReadyH.cons (i := 11) rfl (fun K hK => ?_) AllReadyH.nil
                  go_simp
                  obtain ⟨w5, hw5⟩ : ∃ w5, (wr.alloc (.cells #[.int .i64 mv] 3)).drew = w5 := ⟨_, rfl⟩
                  have HK5 : Hid (Kept wr w5) := by rw [← hw5]; exact gtrans ((Kept.refl wr).alloc _ _) (drew_kept _)
                  have HX5 : Hid (Sg w5 (some ⟨wr.heap.size, 0, none⟩, 1, 1) mv) := by rw [← hw5]; exact (Sg.new wr mv).kept (drew_kept _)
                  rw [hw5]
                  clear hw5
                  refine hK.out _ _ HK5.out (fun hHeld2 => ?_)
                  clear hK K hHeld
                  have hHeld := hHeld2
                  clear hHeld2
                  try simp only [Act.put, List.getElem_toArray, List.getElem_cons_succ, List.getElem_cons_zero, List.setIfInBounds_toArray, List.set_cons_zero, List.set_cons_succ]
                  refine wpAnyH_ready (rs := [12]) (by kernel_rfl) (by simp) ?_
                  refine AllReadyH.cons (i := 12) rfl (fun K hK => ?_) AllReadyH.nil
                  go_simp
                  go_wp2_with (go_at_call 10; refine (sameIntsS_is (some ⟨bm, 0, none⟩) (some ⟨wr.heap.size, 0, none⟩) 1 1 1 1 [mv] [mv] w5 rfl rfl (HBM.out.kept HK5.out).ints HX5.out.ints).mono ?_; rintro e w6 ⟨rfl, hk6⟩; rw [decide_eq_true rfl]; have HK6 := hide1 (gtrans HK5.out hk6); clear hk6)
                  refine hK.out _ _ HK6.out (fun hHeld2 => ?_)
                  clear hK K hHeld
                  have hHeld := hHeld2
                  clear hHeld2
                  try simp only [Act.put, List.getElem_toArray, List.getElem_cons_succ, List.getElem_cons_zero, List.setIfInBounds_toArray, List.set_cons_zero, List.set_cons_succ]
                  refine wpAnyH_take (i := 13) (v := .bool false) rfl (by kernel_rfl) (by kernel_rfl) (by kernel_rfl) (fun _ _ _ h => h) (Or.inl ⟨by kernel_rfl, fun w' hSw => ?_⟩) (by with_reducible assumption) ?_
                  · skip
                    clear hSw
                    go_simp
                  try simp only [Act.put, List.getElem_toArray, List.getElem_cons_succ, List.getElem_cons_zero, List.setIfInBounds_toArray, List.set_cons_zero, List.set_cons_succ]
                  refine wpAnyH_take (i := 14) (v := .bool false) rfl (by kernel_rfl) (by kernel_rfl) (by kernel_rfl) (fun _ _ _ h => h) (Or.inl ⟨by kernel_rfl, fun w' hSw => ?_⟩) (by with_reducible assumption) ?_
                  · skip
                    clear hSw
                    go_simp
                  try simp only [Act.put, List.getElem_toArray, List.getElem_cons_succ, List.getElem_cons_zero, List.setIfInBounds_toArray, List.set_cons_zero, List.set_cons_succ]
                  refine wpAnyH_take (i := 15) (v := .slice (some ⟨gM, 0, none⟩) u cM) rfl (by kernel_rfl) (by kernel_rfl) (by kernel_rfl) (fun _ _ _ h => h) (Or.inl ⟨by kernel_rfl, fun w' hSw => ?_⟩) (by with_reducible assumption) ?_
                  · skip
                    clear hSw
                    go_simp
                  try simp only [Act.put, List.getElem_toArray, List.getElem_cons_succ, List.getElem_cons_zero, List.setIfInBounds_toArray, List.set_cons_zero, List.set_cons_succ]
                  refine wpAnyH_take (i := 16) (v := .int .i64 (v : Int)) rfl (by kernel_rfl) (by kernel_rfl) (by kernel_rfl) (fun _ _ _ h => h) (Or.inl ⟨by kernel_rfl, fun w' hSw => ?_⟩) (by with_reducible assumption) ?_
                  · skip
                    clear hSw
                    go_simp
                  try simp only [Act.put, List.getElem_toArray, List.getElem_cons_succ, List.getElem_cons_zero, List.setIfInBounds_toArray, List.set_cons_zero, List.set_cons_succ]
                  refine wpAnyH_take (i := 17) (v := .pointer (some ⟨gM, v, none⟩)) rfl (by kernel_rfl) (by kernel_rfl) (by kernel_rfl) (fun _ _ _ h => h) (Or.inl ⟨by kernel_rfl, fun w' hSw => ?_⟩) (by with_reducible assumption) ?_
                  · skip
                    clear hSw
                    go_simp
                  try simp only [Act.put, List.getElem_toArray, List.getElem_cons_succ, List.getElem_cons_zero, List.setIfInBounds_toArray, List.set_cons_zero, List.set_cons_succ]
                  refine wpAnyH_take (i := 18) (v := .slice (some ⟨gx, 0, none⟩) (n + 70) xc) rfl (by kernel_rfl) (by kernel_rfl) (by kernel_rfl) (fun _ _ _ h => h) (Or.inl ⟨by kernel_rfl, fun w' hSw => ?_⟩) (by with_reducible assumption) ?_
                  · have t1 := grown_cell hSw d2
                    clear hSw
                    go_simp
                  try simp only [Act.put, List.getElem_toArray, List.getElem_cons_succ, List.getElem_cons_zero, List.setIfInBounds_toArray, List.set_cons_zero, List.set_cons_succ]
                  refine wpAnyH_take (i := 19) (v := .int .i64 (s : Int)) rfl (by kernel_rfl) (by kernel_rfl) (by kernel_rfl) (fun _ _ _ h => h) (Or.inl ⟨by kernel_rfl, fun w' hSw => ?_⟩) (by with_reducible assumption) ?_
                  · skip
                    clear hSw
                    go_simp
                  try simp only [Act.put, List.getElem_toArray, List.getElem_cons_succ, List.getElem_cons_zero, List.setIfInBounds_toArray, List.set_cons_zero, List.set_cons_succ]
                  refine wpAnyH_take (i := 20) (v := .pointer (some ⟨gx, s, none⟩)) rfl (by kernel_rfl) (by kernel_rfl) (by kernel_rfl) (fun _ _ _ h => h) (Or.inl ⟨by kernel_rfl, fun w' hSw => ?_⟩) (by with_reducible assumption) ?_
                  · skip
                    clear hSw
                    go_simp
                  try simp only [Act.put, List.getElem_toArray, List.getElem_cons_succ, List.getElem_cons_zero, List.setIfInBounds_toArray, List.set_cons_zero, List.set_cons_succ]
                  refine wpAnyH_take (i := 21) (v := .slice (some ⟨bm, 0, none⟩) 1 1) rfl (by kernel_rfl) (by kernel_rfl) (by kernel_rfl) (fun _ _ _ h => h) (Or.inl ⟨by kernel_rfl, fun w' hSw => ?_⟩) (by with_reducible assumption) ?_
                  · have t1 := grown_cell hSw b0
                    clear hSw
                    go_simp
                  try simp only [Act.put, List.getElem_toArray, List.getElem_cons_succ, List.getElem_cons_zero, List.setIfInBounds_toArray, List.set_cons_zero, List.set_cons_succ]
                  refine wpAnyH_take (i := 22) (v := .slice (some ⟨g0, 0, none⟩) u cap) rfl (by kernel_rfl) (by kernel_rfl) (by kernel_rfl) (fun _ _ _ h => h) (Or.inl ⟨by kernel_rfl, fun w' hSw => ?_⟩) (by with_reducible assumption) ?_
                  · skip
                    clear hSw
                    go_simp
                  try simp only [Act.put, List.getElem_toArray, List.getElem_cons_succ, List.getElem_cons_zero, List.setIfInBounds_toArray, List.set_cons_zero, List.set_cons_succ]
                  refine wpAnyH_take (i := 23) (v := .int .i64 (v : Int)) rfl (by kernel_rfl) (by kernel_rfl) (by kernel_rfl) (fun _ _ _ h => h) (Or.inl ⟨by kernel_rfl, fun w' hSw => ?_⟩) (by with_reducible assumption) ?_
                  · skip
                    clear hSw
                    go_simp
                  try simp only [Act.put, List.getElem_toArray, List.getElem_cons_succ, List.getElem_cons_zero, List.setIfInBounds_toArray, List.set_cons_zero, List.set_cons_succ]
                  refine wpAnyH_take (i := 24) (v := .pointer (some ⟨g0, v, none⟩)) rfl (by kernel_rfl) (by kernel_rfl) (by kernel_rfl) (fun _ _ _ h => h) (Or.inl ⟨by kernel_rfl, fun w' hSw => ?_⟩) (by with_reducible assumption) ?_
                  · skip
                    clear hSw
                    go_simp
                  try simp only [Act.put, List.getElem_toArray, List.getElem_cons_succ, List.getElem_cons_zero, List.setIfInBounds_toArray, List.set_cons_zero, List.set_cons_succ]
                  refine wpAnyH_take (i := 25) (v := .slice (some ⟨gy, 0, none⟩) n c) rfl (by kernel_rfl) (by kernel_rfl) (by kernel_rfl) (fun _ _ _ h => h) (Or.inl ⟨by kernel_rfl, fun w' hSw => ?_⟩) (by with_reducible assumption) ?_
                  · have t1 := grown_cell hSw d1
                    clear hSw
                    go_simp
                  try simp only [Act.put, List.getElem_toArray, List.getElem_cons_succ, List.getElem_cons_zero, List.setIfInBounds_toArray, List.set_cons_zero, List.set_cons_succ]
                  refine wpAnyH_take (i := 26) (v := .int .i64 (s : Int)) rfl (by kernel_rfl) (by kernel_rfl) (by kernel_rfl) (fun _ _ _ h => h) (Or.inl ⟨by kernel_rfl, fun w' hSw => ?_⟩) (by with_reducible assumption) ?_
                  · skip
                    clear hSw
                    go_simp
                  try simp only [Act.put, List.getElem_toArray, List.getElem_cons_succ, List.getElem_cons_zero, List.setIfInBounds_toArray, List.set_cons_zero, List.set_cons_succ]
                  refine wpAnyH_take (i := 27) (v := .pointer (some ⟨gy, s, none⟩)) rfl (by kernel_rfl) (by kernel_rfl) (by kernel_rfl) (fun _ _ _ h => h) (Or.inl ⟨by kernel_rfl, fun w' hSw => ?_⟩) (by with_reducible assumption) ?_
                  · skip
                    clear hSw
                    go_simp
                  try simp only [Act.put, List.getElem_toArray, List.getElem_cons_succ, List.getElem_cons_zero, List.setIfInBounds_toArray, List.set_cons_zero, List.set_cons_succ]
                  refine wpAnyH_take (i := 28) (v := .slice (some ⟨bm, 0, none⟩) 1 1) rfl (by kernel_rfl) (by kernel_rfl) (by kernel_rfl) (fun _ _ _ h => h) (Or.inl ⟨by kernel_rfl, fun w' hSw => ?_⟩) (by with_reducible assumption) ?_
                  · have t1 := grown_cell hSw a0
                    clear hSw
                    go_simp
                  try simp only [Act.put, List.getElem_toArray, List.getElem_cons_succ, List.getElem_cons_zero, List.setIfInBounds_toArray, List.set_cons_zero, List.set_cons_succ]
                  refine wpAnyH_ready (rs := [29]) (by kernel_rfl) (by simp) ?_
                  refine AllReadyH.cons (i := 29) rfl (fun K hK => ?_) AllReadyH.nil
                  go_simp
                  go_wp2_with (go_at_call 10; refine (sameIntsS_is (some ⟨bm, 0, none⟩) (some ⟨bm, 0, none⟩) 1 1 1 1 [mv] [mv] w6 rfl rfl (HBM.out.kept HK6.out).ints (HBM.out.kept HK6.out).ints).mono ?_; rintro e w7 ⟨rfl, hk7⟩; rw [decide_eq_true rfl]; have HK7 := hide1 (gtrans HK6.out hk7); clear hk7)
                  refine hK.out _ _ HK7.out (fun hHeld2 => ?_)
                  clear hK K hHeld
                  have hHeld := hHeld2
                  clear hHeld2
                  try simp only [Act.put, List.getElem_toArray, List.getElem_cons_succ, List.getElem_cons_zero, List.setIfInBounds_toArray, List.set_cons_zero, List.set_cons_succ]
                  refine wpAnyH_take (i := 30) (v := .bool false) rfl (by kernel_rfl) (by kernel_rfl) (by kernel_rfl) (fun _ _ _ h => h) (Or.inl ⟨by kernel_rfl, fun w' hSw => ?_⟩) (by with_reducible assumption) ?_
                  · skip
                    clear hSw
                    go_simp
                  try simp only [Act.put, List.getElem_toArray, List.getElem_cons_succ, List.getElem_cons_zero, List.setIfInBounds_toArray, List.set_cons_zero, List.set_cons_succ]
                  refine wpAnyH_take (i := 31) (v := .bool false) rfl (by kernel_rfl) (by kernel_rfl) (by kernel_rfl) (fun _ _ _ h => h) (Or.inl ⟨by kernel_rfl, fun w' hSw => ?_⟩) (by with_reducible assumption) ?_
                  · skip
                    clear hSw
                    go_simp
                  try simp only [Act.put, List.getElem_toArray, List.getElem_cons_succ, List.getElem_cons_zero, List.setIfInBounds_toArray, List.set_cons_zero, List.set_cons_succ]
                  refine wpAnyH_done (by kernel_rfl) ?_ _
                  clear hHeld
                  have HKQ : Hid (Kept wb w7) := gtrans hk.out HK7.out
                  clear a0 b0 d1 d2 hm1 hm2
                  go_wp2_with fail
                  go_roundw
                  case rel => exact ⟨s + 1, by go_num, by omega, HKQ⟩
                  case measure => simp [intOf]; omega
                · clear hs
                  go_wp2_with fail
                  go_loopw [12] (fun i wx => ∃ s : Nat, i = .int .i64 (s : Int) ∧ s ≤ 70 ∧ Hid (Kept wb wx)) (fun i _ => 70 - (intOf i).toNat)
                  case atStart => exact ⟨0, rfl, by omega, hk⟩
                  case round =>
                    clear hk
                    obtain ⟨s, rfl, hs, hk⟩ := hrel
                    by_cases hlt3 : (s : Int) < 70
                    · have d2 := q2 _ hk.out
                      obtain ⟨ns, hns2⟩ : ∃ ns, n + s = ns := ⟨_, rfl⟩
                      have hnsI : (n : Int) + (s : Int) = (ns : Int) := by omega
                      have hns : (ns : Int) < (n : Int) + 70 := by omega
                      obtain ⟨gx, rfl, r4⟩ := HR2.out s (by omega)
                      rw [hns2] at r4
                      obtain ⟨at_, hat⟩ : ∃ at_ : Int, 100 * (v : Int) = at_ := ⟨_, rfl⟩
                      obtain ⟨au, hau⟩ : ∃ au : Int, -1 - at_ = au := ⟨_, rfl⟩
                      obtain ⟨av, hav⟩ : ∃ av : Int, grIA v s = av := ⟨_, rfl⟩
                      have hm1 : IntKind.i64.wrap (100 * (v : Int)) = at_ := by rw [IntKind.wrap_i64] <;> omega
                      have hm2 : IntKind.i64.wrap (-1 - at_) = au := by rw [IntKind.wrap_i64] <;> omega
                      have hm3 : IntKind.i64.wrap (au - (s : Int)) = av := by unfold grIA at hav; rw [IntKind.wrap_i64] <;> omega
                      clear hat hau
                      have hSG := HAA.out v s (show s < 70 by omega) (Or.inl (by omega))
                      rw [hav] at hSG
                      obtain ⟨bm, hbm⟩ : ∃ b, A v s = (some ⟨b, 0, none⟩, 1, 1) := ⟨_, hSG.choose_spec.1⟩
                      rw [hbm] at hSG
                      have HBM := hide1 (hSG.kept hk.out)
                      have b0 : wr.cell? ⟨gx, ns, none⟩ = some (.slice (some ⟨bm, 0, none⟩) 1 1) := by
                        have h := grown_cell hk.out (r4 0 _ rfl)
                        rw [show ns * (slE).sz + 0 = ns from Nat.mul_one ns, hbm] at h
                        exact h
                      clear r4 hns2 hav hbm hSG
                      have HK5 : Hid (Kept wr (wr.alloc (.cells #[.int .i64 av] 3))) := (Kept.refl wr).alloc _ _
                      have HX5 : Hid (Sg (wr.alloc (.cells #[.int .i64 av] 3)) (some ⟨wr.heap.size, 0, none⟩, 1, 1) av) := Sg.new wr av
                      go_wp2_with (go_at_call 10; refine (sameIntsS_is (some ⟨bm, 0, none⟩) (some ⟨wr.heap.size, 0, none⟩) 1 1 1 1 [av] [av] _ rfl rfl (HBM.out.kept HK5.out).ints HX5.out.ints).mono ?_; rintro e w6 ⟨rfl, hk6⟩; rw [decide_eq_true rfl]; have HK6 := hide1 (gtrans HK5.out hk6); clear hk6)
                      have HKQ : Hid (Kept wb w6) := gtrans hk.out HK6.out
                      go_roundw
                      case rel => exact ⟨s + 1, by go_num, by omega, HKQ⟩
                      case measure => simp [intOf]; omega
                    · go_wp2_with fail
                      go_roundw
                      case rel => exact ⟨v + 1, by go_num, by omega, hk⟩
                      case measure => simp [intOf]; omega
            · go_wp2_with fail
              go_ret
              exact ⟨rfl, HK.out.trans (hk.out.kt _)⟩

end Sh
end Ex
end Go.Proofs.YtooelfjceehmmaaDoor
