import Derived.Test.YtpbnjdnlgcfiiaaTrV4
import Derived.Test.YtpbnjdnlgcfiiaaTrSeN
import Derived.Test.YtpbnjdnlgcfiiaaTrLeav
import Derived.Test.YtpbnjdnlgcfiiaaTrRc
import Derived.Test.YtpbnjdnlgcfiiaaTrQr
import Derived.Test.YtpbnjdnlgcfiiaaTrH5
import Derived.Test.YtpbnjdnlgcfiiaaTrR4
namespace Go.Proofs.Ytpbnjdnlgcfiiaa
open Go.RowKit
attribute [local go_sem] Oper.semAt_some
namespace Ex
namespace Tr

/-- Spots that can be read. -/
def SpRd (w : World) (v : Value) (L : List SpM) : Prop := ∃ a c, v = .slice a L.length c ∧ L.length ≤ 4194304 ∧ ∀ (i : Nat) (q : SpM), L[i]? = some q → ∃ g, a = some ⟨g, 0, none⟩ ∧ g < w.heap.size ∧ w.cell? ⟨g, i * 3, none⟩ = some (.pointer (some ⟨q.d, 0, none⟩)) ∧ w.cell? ⟨g, i * 3 + 1, none⟩ = some (.int .i64 (q.pl : Int)) ∧ w.cell? ⟨g, i * 3 + 2, none⟩ = some q.pv
theorem SpOwn.rd {w : World} {base : Nat} {v : Value} {L : List SpM} (h : SpOwn w base v L) (hl : L.length ≤ 4194304) : SpRd w v L := by
  obtain ⟨a, c, rfl⟩ := h.form
  refine ⟨a, c, rfl, hl, fun i q hq => ?_⟩
  obtain ⟨g, cap, e, _, h2, _, h3⟩ := h.cellsAt hq
  injection e with e _ _
  exact ⟨g, e, h2, h3⟩
theorem SpRd.keep {w w' : World} {v : Value} {L : List SpM} (h : SpRd w v L) (hk : Kept w w') : SpRd w' v L := by
  obtain ⟨a, c, h1, h2, h3⟩ := h
  refine ⟨a, c, h1, h2, fun i q hq => ?_⟩
  obtain ⟨g, e, hg, g1, g2, g3⟩ := h3 i q hq
  exact ⟨g, e, Nat.lt_of_lt_of_le hg hk.size, grown_cell hk g1, grown_cell hk g2, grown_cell hk g3⟩
theorem GK.kept {w w' : World} (h : GK none w w') : Kept w w' := ⟨h.1, h.2.1, h.2.2.1, h.2.2.2.1, fun k hk => h.2.2.2.2 k hk (by simp)⟩
section
set_option linter.unusedSimpArgs false
set_option maxRecDepth 100000
theorem walkT_is {R : Nat → Prop} {X : Nat → Rd} {wd : Nat → Nat} {B : Nat} (d : Nat) (w : World) (hF : RFor R X wd B w) (hd : R d) (hB : B ≤ w.heap.size) (hz : (X d).size ≤ 4194304) (hw : wd d ≤ 2305843009213693952) :
    Calls Try.prog 10 #[.pointer (some ⟨d, 0, none⟩)] w fun e w' => ∃ v L, e = .returned v ∧ SpOwn w' w.heap.size v L ∧ L.map keyS = wk X wd (szK X [(d, 0, [])]) [(d, 0, [])] ∧ (∀ s ∈ L, PathRd w' s.pv s.path) ∧ Kept w w' := by
  have HC := hide1 (walkR_is (R := R) (X := X) (wd := wd) w.heap.size hB (X d).size d 0 [] (.slice none 0 0) (.slice none 0 0) [] w hF hd (Nat.le_refl _) (World.ownsRow_nil _ _ _ _) (Nat.le_refl _) (PathRd.nil w) (by simpa using hz) (by simpa using hz) (by omega))
  clear hF hd hB hz hw
  go_enter Try.func10, Try.ntmps10
  go_wp2_with (go_at_call 34; refine HC.out.mono ?_; rintro e w1 ⟨v1, rfl, h1⟩; have H1 := hide1 h1; clear h1)
  go_ret
  obtain ⟨L, h1, h2, h3, h4, h5⟩ := H1.out
  exact ⟨v1, L, rfl, h1, h2, h3, h4.kept⟩
end
/-- What is wanted of a walk: these nodes, at these places. -/
def Wants (P Q : List Nat) (X : Nat → Rd) (L : List SpM) (xs : List (Nat × Nat)) : Prop := L.map (fun s => (s.pl, btw P X s.d)) = xs ∧ ∀ s ∈ L, s.d ∈ Q
theorem Wants.at {P Q : List Nat} {X : Nat → Rd} {L : List SpM} {xs : List (Nat × Nat)} (h : Wants P Q X L xs) {k : Nat} {x : Nat × Nat} (hk : xs[k]? = some x) : ∃ s, L[k]? = some s ∧ s.pl = x.1 ∧ btw P X s.d = x.2 ∧ s.d ∈ Q := by
  rw [← h.1, List.getElem?_map] at hk
  obtain ⟨s, hs, e⟩ := Option.map_eq_some_iff.1 hk
  rw [← e]
  exact ⟨s, hs, rfl, rfl, h.2 s (List.mem_of_getElem? hs)⟩
theorem Wants.len {P Q : List Nat} {X : Nat → Rd} {L : List SpM} {xs : List (Nat × Nat)} (h : Wants P Q X L xs) : xs.length = L.length := by rw [← h.1, List.length_map]
/-- What a round reads. -/
def Reads (fb gp m cp : Nat) (va : Option Addr) (xs : List (Nat × Nat)) (W : World) : Prop := W.cell? ⟨fb, 2, none⟩ = some (.slice (some ⟨gp, 0, none⟩) m cp) ∧ ∀ (k : Nat) (x : Nat × Nat), xs[k]? = some x → ∃ g d pl : Nat, va = some ⟨g, 0, none⟩ ∧ W.cell? ⟨g, k * 3, none⟩ = some (.pointer (some ⟨d, 0, none⟩)) ∧ W.cell? ⟨g, k * 3 + 1, none⟩ = some (.int .i64 (x.1 : Int)) ∧
  W.cell? ⟨d, 1, none⟩ = some (.int .i64 (pl : Int)) ∧ pl < m ∧ W.cell? ⟨gp, pl, none⟩ = some (.pointer (some ⟨x.2, 0, none⟩))
theorem kb_cell {W W' : World} (hk : KB W.heap.size W W') {b o : Nat} {u : Value} (hb : W.cell? ⟨b, o, none⟩ = some u) : W'.cell? ⟨b, o, none⟩ = some u := (World.cell?_of_block (w := W) (a := ⟨b, o, none⟩) (hk.2 b (World.block_lt_of_cell? W ⟨b, o, none⟩ hb))).trans hb
theorem Reads.kb {fb gp m cp : Nat} {va : Option Addr} {xs : List (Nat × Nat)} {W W' : World} (h : Reads fb gp m cp va xs W) (hk : KB W.heap.size W W') : Reads fb gp m cp va xs W' := by
  refine ⟨kb_cell hk h.1, fun k x hx => ?_⟩
  obtain ⟨g, d, pl, h1, h2, h3, h4, h5, h6⟩ := h.2 k x hx
  exact ⟨g, d, pl, h1, kb_cell hk h2, kb_cell hk h3, kb_cell hk h4, h5, kb_cell hk h6⟩
theorem reads_of {base fb s0 s1 : Nat} {V : Nat → Prop} {P Q : List Nat} {N : Nat → Nd} {X : Nat → Rd} {m0 m1 gp cp n c : Nat} {va : Option Addr} {vR vB : Value} {w : World} (hM : FoM base fb s0 s1 V P Q N X m0 m1 (.slice (some ⟨gp, 0, none⟩) P.length cp) vR vB w) (hT : TwinOk s0 s1 m0 m1 P Q N X) {L : List SpM} {xs : List (Nat × Nat)} (hL : SpRd w (.slice va n c) L) (hW : Wants P Q X L xs) : Reads fb gp P.length cp va xs w := by
  refine ⟨by simp [World.cell?, hM.1], fun k x hx => ?_⟩
  obtain ⟨s, hs, e1, e2, hQ⟩ := hW.at hx
  obtain ⟨a, c', hv, _, hc⟩ := hL
  injection hv with hv _ _
  subst hv
  obtain ⟨g, ea, _, g1, g2, _⟩ := hc k s hs
  obtain ⟨_, _, _, _, _, _, _, _, _, i, hi, hp, hpl⟩ := twin_of hT hQ
  have hcl := ((hM.2.2.2.2.2.2.2.2.2.2.2 s.d hQ).is (fun k hk => (hM.2.2.2.2.2.2.2.2.2.1 k hk).2.1)).cells.2.1
  obtain ⟨gp', cp', ev, _, hcp⟩ := hM.2.2.2.1.cell hp
  injection ev with ev _ _
  injection ev with ev
  injection ev with ev
  subst ev
  exact ⟨g, s.d, i, ea, g1, by rw [← e1]; exact g2, by rw [hcl, hpl], (List.getElem?_eq_some_iff.1 hp).1, by rw [← e2]; exact hcp⟩
theorem run_store_fn {P : Program} {w : World} {a : Addr} {m : Mode} (f : Fn) (xs ys : Array Value) : (store a (.func f xs ys) m).run P w = stored P w a (.func f xs ys) m := run_store P w a _ m rfl
theorem new_cell (w : World) (v : Value) (t : TypeId) : (w.alloc (.cells #[v] t)).cell? ⟨w.heap.size, 0, none⟩ = some v ∧ (w.alloc (.cells #[v] t)).frozen? ⟨w.heap.size, 0, none⟩ = false ∧ w.heap.size < (w.alloc (.cells #[v] t)).heap.size := by
  refine ⟨World.cell?_alloc_new w _ _ 0, World.frozen?_alloc_new w _ _ 0, by simp⟩
/-- While a walk is gone through. -/
def WdI (w7 : World) (kb : Nat) (T : Nat → Prop) (pre : List (Nat × Nat)) (W : World) : Prop :=
  (∀ k, T k → w7.heap.size ≤ k) ∧ KeptBut kb w7 W ∧ W.heap[kb]? = some (.cells #[.int .i64 (pre.length : Int)] 3 (0, 0))
theorem WdI.stable {w7 : World} {kb : Nat} (hk : kb < w7.heap.size) : StableW (WdI w7 kb) := by
  rintro T T' s A A' ⟨g1, g2, g3⟩ hs
  have hn : ∀ k, k < w7.heap.size → ¬ T k := fun k hk h => by have := g1 k h; omega
  refine ⟨fun k hk => ?_, ⟨hs.1.trans g2.1, hs.2.1.trans g2.2.1, hs.2.2.1.trans g2.2.2.1, Nat.le_trans g2.2.2.2.1 hs.2.2.2.1, fun k h1 h2 => (hs.2.2.2.2.1 k (Nat.lt_of_lt_of_le h1 g2.2.2.2.1) (hn k h1)).trans (g2.2.2.2.2 k h1 h2)⟩, (hs.2.2.2.2.1 kb (Nat.lt_of_lt_of_le hk g2.2.2.2.1) (hn kb hk)).trans g3⟩
  rcases hs.2.2.2.2.2 k hk with h | h
  · exact g1 k h
  · exact Nat.le_trans g2.2.2.2.1 h.1
/-- .. and was left. -/
def WdX (w7 : World) (kb k : Nat) (stop : Int) (c : Code) (W : World) : Prop := c = .exit 2 ∧ k = 0 ∧ ∃ p : Nat, (p : Int) = stop ∧ KeptBut kb w7 W ∧ W.heap[kb]? = some (.cells #[.int .i64 (p : Int)] 3 (0, 0))
theorem WdX.put {w7 W : World} {kb k l : Nat} {stop : Int} {c : Code} (h : WdX w7 kb k stop c W) (hk : kb < w7.heap.size) (hl : w7.heap.size ≤ l) (o : Obj) : WdX w7 kb k stop c (W.putObj l o) := by
  obtain ⟨h1, h2, p, h3, h4, h5⟩ := h
  refine ⟨h1, h2, p, h3, ⟨h4.1, h4.2.1, h4.2.2.1, by simpa using h4.2.2.2.1, fun q hq hne => (World.putObj_heap_other (by omega)).trans (h4.2.2.2.2 q hq hne)⟩, (World.putObj_heap_other (by omega)).trans h5⟩
/-- What stays. -/
def Stat (fb gp m cp bf bw bq bsq br b : Nat) (va : Option Addr) (n vc : Nat) (fv : Value) (stop : Int) (xs : List (Nat × Nat)) (R : Nat → Prop) (N : Nat → Nd) (B : Nat) (W : World) : Prop :=
  W.cell? ⟨bf, 0, none⟩ = some (.pointer (some ⟨fb, 0, none⟩)) ∧ W.cell? ⟨bw, 0, none⟩ = some (.slice va n vc) ∧ W.cell? ⟨bq, 0, none⟩ = some (.int .i64 stop) ∧ W.cell? ⟨bsq, 0, none⟩ = some fv ∧ Reads fb gp m cp va xs W ∧ Forest R N B W ∧ B ≤ W.heap.size ∧ br < W.heap.size ∧ W.cell? ⟨br, 0, none⟩ = some (.pointer (some ⟨b, 0, none⟩))
theorem Stat.kb {fb gp m cp bf bw bq bsq br b : Nat} {va : Option Addr} {n vc : Nat} {fv : Value} {stop : Int} {xs : List (Nat × Nat)} {R : Nat → Prop} {N : Nat → Nd} {B : Nat} {W W' : World} (h : Stat fb gp m cp bf bw bq bsq br b va n vc fv stop xs R N B W) (hk : KB W.heap.size W W') : Stat fb gp m cp bf bw bq bsq br b va n vc fv stop xs R N B W' := by
  obtain ⟨h1, h2, h3, h4, h5, h6, h7, h8, h9⟩ := h
  exact ⟨kb_cell hk h1, kb_cell hk h2, kb_cell hk h3, kb_cell hk h4, h5.kb hk, h6.kb ⟨hk.1, fun k hk' => hk.2 k (by omega)⟩, Nat.le_trans h7 hk.1, Nat.lt_of_lt_of_le h8 hk.1, kb_cell hk h9⟩
theorem KA.kb {w W : World} (h : KA w.heap.size w W) : KB w.heap.size w W := ⟨h.2.2.2.1, h.2.2.2.2⟩
theorem box_of {w : World} {b k : Nat} (h : w.heap[b]? = some (.cells #[.int .i64 (k : Int)] 3 (0, 0))) : w.cell? ⟨b, 0, none⟩ = some (.int .i64 (k : Int)) ∧ w.frozen? ⟨b, 0, none⟩ = false ∧ b < w.heap.size := ⟨by simp [World.cell?, h], by simp [World.frozen?, h], (Array.getElem?_eq_some_iff.1 h).1⟩
theorem box_set {w : World} {b k : Nat} (h : w.heap[b]? = some (.cells #[.int .i64 (k : Int)] 3 (0, 0))) : (w.setCell ⟨b, 0, none⟩ (.int .i64 ((k : Int) + 1))).heap[b]? = some (.cells #[.int .i64 ((k + 1 : Nat) : Int)] 3 (0, 0)) := by
  have hl := (Array.getElem?_eq_some_iff.1 h).1
  have he := Option.some.inj ((Array.getElem?_eq_getElem hl).symm.trans h)
  simp [World.setCell, Array.getElem_modify, hl, he]
/-- A round's end. -/
theorem wd_fin {w7 W wy W' : World} {bk B br pl : Nat} {T : Nat → Prop} {pre : List (Nat × Nat)} {x : Nat × Nat} (h1 : ∀ k, T k → w7.heap.size ≤ k) (h2 : KeptBut bk w7 W) (h3 : W.heap[bk]? = some (.cells #[.int .i64 (pl : Int)] 3 (0, 0))) (hpl : pre.length = pl) (hT : ∀ k, T k → k < W.heap.size) (hbk : bk < w7.heap.size) (hB : B ≤ bk) (hbr : br < bk) (hy : Kept W wy) (hz : Kept (wy.setCell ⟨bk, 0, none⟩ (.int .i64 ((pl : Int) + 1))) W') :
    W.heap.size ≤ W'.heap.size ∧ (∀ k, T k → W'.heap[k]? = W.heap[k]?) ∧ KX (fun k => k < B ∨ k = br) W W' ∧ WdI w7 bk T (pre ++ [x]) W' := by
  have hst := setCell_but wy bk 0 (.int .i64 ((pl : Int) + 1))
  have hg := h2.2.2.2.1
  have hys := hy.size
  have hz1 := hst.2.2.2.1
  have hz2 := hz.size
  have hne : ∀ k, k < W.heap.size → k ≠ bk → W'.heap[k]? = W.heap[k]? := fun k hk hn => (hz.2.2.2.2 k (by omega)).trans ((Below.heap_setCell _ _ _ _ hn).trans (hy.2.2.2.2 k hk))
  have gy := (hy.2.2.2.2 bk (Array.getElem?_eq_some_iff.1 h3).1).trans h3
  refine ⟨by omega, fun k hk => hne k (hT k hk) (by have := h1 k hk; omega), ⟨by omega, fun k hk => hne k (by omega) (by omega)⟩, h1, ⟨(hz.1.trans (hst.1.trans hy.1)).trans h2.1, (hz.2.1.trans (hst.2.1.trans hy.2.1)).trans h2.2.1, (hz.2.2.1.trans (hst.2.2.1.trans hy.2.2.1)).trans h2.2.2.1, by omega, fun k hk hn => (hne k (by omega) hn).trans (h2.2.2.2.2 k hk hn)⟩, ?_⟩
  rw [hz.2.2.2.2 bk (by have := (Array.getElem?_eq_some_iff.1 gy).1; omega), box_set gy, List.length_append, hpl]
  rfl
def marks (Ds : List Nat) : List Deferred := Ds.map fun D => ({ target := .collected D, args := #[] } : Deferred)
theorem leaves_marks {F : Fence} {n : Nat} {P : Program} {fn : Func} {tmps : Array Value} {R : Ending → World → Prop} (Ds : List Nat) : ∀ W : World, Ds.Nodup → (∀ D, D ∈ Ds → W.heap[D]? = some (.deferred (some []))) →
    (∀ W' : World, W'.os = W.os → W'.tape = W.tape → W'.output = W.output → W'.heap.size = W.heap.size → (∀ k, k ∉ Ds → W'.heap[k]? = W.heap[k]?) → LeavesIn F n P fn tmps R [] .returning W') →
    LeavesInM F n P fn tmps R (marks Ds) .returning W := by
  induction Ds with
  | nil => intro W _ _ h; exact h W rfl rfl rfl rfl (fun _ _ => rfl)
  | cons D Ds ih =>
    intro W hnd hd h
    obtain ⟨hn1, hn2⟩ := List.nodup_cons.1 hnd
    refine ⟨by simp, .inl ⟨D, _, rfl, run_takeDeferred (hd D (List.mem_cons_self)), ?_⟩⟩
    refine ih _ hn2 (fun D' hD' => ?_) (fun W' e1 e2 e3 e4 e5 => h W' (e1.trans rfl) (e2.trans rfl) (e3.trans rfl) (by rw [e4]; simp) (fun k hk => ?_))
    · rw [World.putObj_heap_other (show D' ≠ D from fun e => hn1 (e ▸ hD'))]; exact hd D' (List.mem_cons_of_mem _ hD')
    · rw [e5 k (fun hm => hk (List.mem_cons_of_mem _ hm))]
      exact World.putObj_heap_other (fun e => hk (by rw [e]; exact List.mem_cons_self))
/-- The number in a cell. -/
def cntC (w : World) (v : Value) : Nat := match v with | .pointer (some a) => (match w.cell? a with | some (.int _ x) => x.toNat | _ => 0) | _ => 0
theorem cntC_of {w : World} {b k : Nat} (h : w.cell? ⟨b, 0, none⟩ = some (.int .i64 (k : Int))) : cntC w (.pointer (some ⟨b, 0, none⟩)) = k := by unfold cntC; simp [h]
theorem frame_toW {c : Code} {Q : Exit → Act → World → Prop} {a : Act} {w : World} {R : Act → Prop} (h : R a) (k : ∀ a', R a' → c.wp Try.prog Q a' w) : c.wp Try.prog Q a w := k a h
theorem frame_toWIn {F : Fence} {n : Nat} {c : Code} {Q : Exit → Act → World → Prop} {a : Act} {w : World} {R : Act → Prop} (h : R a) (k : ∀ a', R a' → c.wpIn F n Try.prog Q a' w) : c.wpIn F n Try.prog Q a w := k a h
def WdF (bf bw bq rc bsq bn : Nat) (ds : List Deferred) (a : Act) : Prop := ∃ T : Nat → Value, a = { tmps := List.toArray (T 0 :: T 1 :: T 2 :: T 3 :: T 4 :: (.pointer (some ⟨bf, 0, none⟩)) :: T 6 :: (.pointer (some ⟨bw, 0, none⟩)) :: T 8 :: (.pointer (some ⟨bq, 0, none⟩)) :: (.pointer (some ⟨rc, 0, none⟩)) :: (.pointer (some ⟨bsq, 0, none⟩)) :: (.pointer (some ⟨bn, 0, none⟩)) :: T 13 :: T 14 :: T 15 :: T 16 :: T 17 :: T 18 :: T 19 :: T 20 :: T 21 :: T 22 :: T 23 :: T 24 :: T 25 :: T 26 :: T 27 :: T 28 :: T 29 :: T 30 :: T 31 :: T 32 :: T 33 :: T 34 :: T 35 :: T 36 :: T 37 :: T 38 :: T 39 :: T 40 :: T 41 :: T 42 :: T 43 :: T 44 :: T 45 :: T 46 :: T 47 :: T 48 :: T 49 :: T 50 :: T 51 :: T 52 :: T 53 :: T 54 :: T 55 :: T 56 :: T 57 :: T 58 :: T 59 :: T 60 :: T 61 :: T 62 :: T 63 :: T 64 :: T 65 :: T 66 :: T 67 :: T 68 :: T 69 :: T 70 :: T 71 :: T 72 :: T 73 :: T 74 :: T 75 :: T 76 :: T 77 :: T 78 :: T 79 :: T 80 :: T 81 :: T 82 :: T 83 :: T 84 :: T 85 :: T 86 :: T 87 :: T 88 :: T 89 :: T 90 :: T 91 :: T 92 :: T 93 :: T 94 :: T 95 :: T 96 :: T 97 :: T 98 :: T 99 :: T 100 :: T 101 :: T 102 :: T 103 :: T 104 :: T 105 :: T 106 :: T 107 :: T 108 :: T 109 :: T 110 :: T 111 :: T 112 :: T 113 :: T 114 :: T 115 :: T 116 :: T 117 :: T 118 :: T 119 :: T 120 :: T 121 :: T 122 :: T 123 :: T 124 :: T 125 :: T 126 :: T 127 :: T 128 :: T 129 :: T 130 :: T 131 :: T 132 :: T 133 :: T 134 :: T 135 :: T 136 :: T 137 :: T 138 :: T 139 :: T 140 :: []), defers := ds }
theorem wdF_of {bf bw bq rc bsq bn : Nat} {ds : List Deferred} (L : List Value) (h : L = nthV L 0 :: nthV L 1 :: nthV L 2 :: nthV L 3 :: nthV L 4 :: (.pointer (some ⟨bf, 0, none⟩)) :: nthV L 6 :: (.pointer (some ⟨bw, 0, none⟩)) :: nthV L 8 :: (.pointer (some ⟨bq, 0, none⟩)) :: (.pointer (some ⟨rc, 0, none⟩)) :: (.pointer (some ⟨bsq, 0, none⟩)) :: (.pointer (some ⟨bn, 0, none⟩)) :: nthV L 13 :: nthV L 14 :: nthV L 15 :: nthV L 16 :: nthV L 17 :: nthV L 18 :: nthV L 19 :: nthV L 20 :: nthV L 21 :: nthV L 22 :: nthV L 23 :: nthV L 24 :: nthV L 25 :: nthV L 26 :: nthV L 27 :: nthV L 28 :: nthV L 29 :: nthV L 30 :: nthV L 31 :: nthV L 32 :: nthV L 33 :: nthV L 34 :: nthV L 35 :: nthV L 36 :: nthV L 37 :: nthV L 38 :: nthV L 39 :: nthV L 40 :: nthV L 41 :: nthV L 42 :: nthV L 43 :: nthV L 44 :: nthV L 45 :: nthV L 46 :: nthV L 47 :: nthV L 48 :: nthV L 49 :: nthV L 50 :: nthV L 51 :: nthV L 52 :: nthV L 53 :: nthV L 54 :: nthV L 55 :: nthV L 56 :: nthV L 57 :: nthV L 58 :: nthV L 59 :: nthV L 60 :: nthV L 61 :: nthV L 62 :: nthV L 63 :: nthV L 64 :: nthV L 65 :: nthV L 66 :: nthV L 67 :: nthV L 68 :: nthV L 69 :: nthV L 70 :: nthV L 71 :: nthV L 72 :: nthV L 73 :: nthV L 74 :: nthV L 75 :: nthV L 76 :: nthV L 77 :: nthV L 78 :: nthV L 79 :: nthV L 80 :: nthV L 81 :: nthV L 82 :: nthV L 83 :: nthV L 84 :: nthV L 85 :: nthV L 86 :: nthV L 87 :: nthV L 88 :: nthV L 89 :: nthV L 90 :: nthV L 91 :: nthV L 92 :: nthV L 93 :: nthV L 94 :: nthV L 95 :: nthV L 96 :: nthV L 97 :: nthV L 98 :: nthV L 99 :: nthV L 100 :: nthV L 101 :: nthV L 102 :: nthV L 103 :: nthV L 104 :: nthV L 105 :: nthV L 106 :: nthV L 107 :: nthV L 108 :: nthV L 109 :: nthV L 110 :: nthV L 111 :: nthV L 112 :: nthV L 113 :: nthV L 114 :: nthV L 115 :: nthV L 116 :: nthV L 117 :: nthV L 118 :: nthV L 119 :: nthV L 120 :: nthV L 121 :: nthV L 122 :: nthV L 123 :: nthV L 124 :: nthV L 125 :: nthV L 126 :: nthV L 127 :: nthV L 128 :: nthV L 129 :: nthV L 130 :: nthV L 131 :: nthV L 132 :: nthV L 133 :: nthV L 134 :: nthV L 135 :: nthV L 136 :: nthV L 137 :: nthV L 138 :: nthV L 139 :: nthV L 140 :: []) : WdF bf bw bq rc bsq bn ds { tmps := L.toArray, defers := ds } := ⟨fun k => nthV L k, by rw [← h]⟩
def WdG (bf bw bq rc bsq bn bk : Nat) (fv : Value) (ds : List Deferred) (a : Act) : Prop := ∃ T : Nat → Value, a = { tmps := List.toArray (T 0 :: T 1 :: T 2 :: T 3 :: T 4 :: (.pointer (some ⟨bf, 0, none⟩)) :: T 6 :: (.pointer (some ⟨bw, 0, none⟩)) :: T 8 :: (.pointer (some ⟨bq, 0, none⟩)) :: (.pointer (some ⟨rc, 0, none⟩)) :: (.pointer (some ⟨bsq, 0, none⟩)) :: (.pointer (some ⟨bn, 0, none⟩)) :: (.pointer (some ⟨bk, 0, none⟩)) :: T 14 :: T 15 :: T 16 :: T 17 :: T 18 :: T 19 :: T 20 :: T 21 :: T 22 :: T 23 :: T 24 :: T 25 :: T 26 :: T 27 :: T 28 :: T 29 :: T 30 :: T 31 :: T 32 :: T 33 :: T 34 :: T 35 :: T 36 :: T 37 :: T 38 :: T 39 :: T 40 :: T 41 :: fv :: T 43 :: T 44 :: T 45 :: T 46 :: T 47 :: T 48 :: T 49 :: T 50 :: T 51 :: T 52 :: T 53 :: T 54 :: T 55 :: T 56 :: T 57 :: T 58 :: T 59 :: T 60 :: T 61 :: T 62 :: T 63 :: T 64 :: T 65 :: T 66 :: T 67 :: T 68 :: T 69 :: T 70 :: T 71 :: T 72 :: T 73 :: T 74 :: T 75 :: T 76 :: T 77 :: T 78 :: T 79 :: T 80 :: T 81 :: T 82 :: T 83 :: T 84 :: T 85 :: T 86 :: T 87 :: T 88 :: T 89 :: T 90 :: T 91 :: T 92 :: T 93 :: T 94 :: T 95 :: T 96 :: T 97 :: T 98 :: T 99 :: T 100 :: T 101 :: T 102 :: T 103 :: T 104 :: T 105 :: T 106 :: T 107 :: T 108 :: T 109 :: T 110 :: T 111 :: T 112 :: T 113 :: T 114 :: T 115 :: T 116 :: T 117 :: T 118 :: T 119 :: T 120 :: T 121 :: T 122 :: T 123 :: T 124 :: T 125 :: T 126 :: T 127 :: T 128 :: T 129 :: T 130 :: T 131 :: T 132 :: T 133 :: T 134 :: T 135 :: T 136 :: T 137 :: T 138 :: T 139 :: T 140 :: []), defers := ds }
theorem wdG_of {bf bw bq rc bsq bn bk : Nat} {fv : Value} {ds : List Deferred} (L : List Value) (h : L = nthV L 0 :: nthV L 1 :: nthV L 2 :: nthV L 3 :: nthV L 4 :: (.pointer (some ⟨bf, 0, none⟩)) :: nthV L 6 :: (.pointer (some ⟨bw, 0, none⟩)) :: nthV L 8 :: (.pointer (some ⟨bq, 0, none⟩)) :: (.pointer (some ⟨rc, 0, none⟩)) :: (.pointer (some ⟨bsq, 0, none⟩)) :: (.pointer (some ⟨bn, 0, none⟩)) :: (.pointer (some ⟨bk, 0, none⟩)) :: nthV L 14 :: nthV L 15 :: nthV L 16 :: nthV L 17 :: nthV L 18 :: nthV L 19 :: nthV L 20 :: nthV L 21 :: nthV L 22 :: nthV L 23 :: nthV L 24 :: nthV L 25 :: nthV L 26 :: nthV L 27 :: nthV L 28 :: nthV L 29 :: nthV L 30 :: nthV L 31 :: nthV L 32 :: nthV L 33 :: nthV L 34 :: nthV L 35 :: nthV L 36 :: nthV L 37 :: nthV L 38 :: nthV L 39 :: nthV L 40 :: nthV L 41 :: fv :: nthV L 43 :: nthV L 44 :: nthV L 45 :: nthV L 46 :: nthV L 47 :: nthV L 48 :: nthV L 49 :: nthV L 50 :: nthV L 51 :: nthV L 52 :: nthV L 53 :: nthV L 54 :: nthV L 55 :: nthV L 56 :: nthV L 57 :: nthV L 58 :: nthV L 59 :: nthV L 60 :: nthV L 61 :: nthV L 62 :: nthV L 63 :: nthV L 64 :: nthV L 65 :: nthV L 66 :: nthV L 67 :: nthV L 68 :: nthV L 69 :: nthV L 70 :: nthV L 71 :: nthV L 72 :: nthV L 73 :: nthV L 74 :: nthV L 75 :: nthV L 76 :: nthV L 77 :: nthV L 78 :: nthV L 79 :: nthV L 80 :: nthV L 81 :: nthV L 82 :: nthV L 83 :: nthV L 84 :: nthV L 85 :: nthV L 86 :: nthV L 87 :: nthV L 88 :: nthV L 89 :: nthV L 90 :: nthV L 91 :: nthV L 92 :: nthV L 93 :: nthV L 94 :: nthV L 95 :: nthV L 96 :: nthV L 97 :: nthV L 98 :: nthV L 99 :: nthV L 100 :: nthV L 101 :: nthV L 102 :: nthV L 103 :: nthV L 104 :: nthV L 105 :: nthV L 106 :: nthV L 107 :: nthV L 108 :: nthV L 109 :: nthV L 110 :: nthV L 111 :: nthV L 112 :: nthV L 113 :: nthV L 114 :: nthV L 115 :: nthV L 116 :: nthV L 117 :: nthV L 118 :: nthV L 119 :: nthV L 120 :: nthV L 121 :: nthV L 122 :: nthV L 123 :: nthV L 124 :: nthV L 125 :: nthV L 126 :: nthV L 127 :: nthV L 128 :: nthV L 129 :: nthV L 130 :: nthV L 131 :: nthV L 132 :: nthV L 133 :: nthV L 134 :: nthV L 135 :: nthV L 136 :: nthV L 137 :: nthV L 138 :: nthV L 139 :: nthV L 140 :: []) : WdG bf bw bq rc bsq bn bk fv ds { tmps := L.toArray, defers := ds } := ⟨fun k => nthV L k, by rw [← h]⟩
def WdH (bf bw bq rc bsq bn bk bi : Nat) (fv : Value) (a : Act) : Prop := ∃ T : Nat → Value, a = { tmps := List.toArray (T 0 :: T 1 :: T 2 :: T 3 :: T 4 :: (.pointer (some ⟨bf, 0, none⟩)) :: T 6 :: (.pointer (some ⟨bw, 0, none⟩)) :: T 8 :: (.pointer (some ⟨bq, 0, none⟩)) :: (.pointer (some ⟨rc, 0, none⟩)) :: (.pointer (some ⟨bsq, 0, none⟩)) :: (.pointer (some ⟨bn, 0, none⟩)) :: (.pointer (some ⟨bk, 0, none⟩)) :: T 14 :: T 15 :: (.pointer (some ⟨bi, 0, none⟩)) :: T 17 :: T 18 :: T 19 :: T 20 :: T 21 :: T 22 :: T 23 :: T 24 :: T 25 :: T 26 :: T 27 :: T 28 :: T 29 :: T 30 :: T 31 :: T 32 :: T 33 :: T 34 :: T 35 :: T 36 :: T 37 :: T 38 :: T 39 :: T 40 :: T 41 :: T 42 :: T 43 :: T 44 :: T 45 :: T 46 :: T 47 :: T 48 :: T 49 :: T 50 :: T 51 :: T 52 :: T 53 :: T 54 :: T 55 :: T 56 :: T 57 :: T 58 :: T 59 :: T 60 :: T 61 :: T 62 :: T 63 :: T 64 :: T 65 :: T 66 :: T 67 :: T 68 :: T 69 :: T 70 :: T 71 :: T 72 :: T 73 :: T 74 :: T 75 :: T 76 :: T 77 :: T 78 :: T 79 :: T 80 :: T 81 :: T 82 :: T 83 :: T 84 :: T 85 :: T 86 :: fv :: T 88 :: T 89 :: T 90 :: T 91 :: T 92 :: T 93 :: T 94 :: T 95 :: T 96 :: T 97 :: T 98 :: T 99 :: T 100 :: T 101 :: T 102 :: T 103 :: T 104 :: T 105 :: T 106 :: T 107 :: T 108 :: T 109 :: T 110 :: T 111 :: T 112 :: T 113 :: T 114 :: T 115 :: T 116 :: T 117 :: T 118 :: T 119 :: T 120 :: T 121 :: T 122 :: T 123 :: T 124 :: T 125 :: T 126 :: T 127 :: T 128 :: T 129 :: T 130 :: T 131 :: T 132 :: T 133 :: T 134 :: T 135 :: T 136 :: T 137 :: T 138 :: T 139 :: T 140 :: []), defers := [] }
theorem wdH_of {bf bw bq rc bsq bn bk bi : Nat} {fv : Value} (L : List Value) (h : L = nthV L 0 :: nthV L 1 :: nthV L 2 :: nthV L 3 :: nthV L 4 :: (.pointer (some ⟨bf, 0, none⟩)) :: nthV L 6 :: (.pointer (some ⟨bw, 0, none⟩)) :: nthV L 8 :: (.pointer (some ⟨bq, 0, none⟩)) :: (.pointer (some ⟨rc, 0, none⟩)) :: (.pointer (some ⟨bsq, 0, none⟩)) :: (.pointer (some ⟨bn, 0, none⟩)) :: (.pointer (some ⟨bk, 0, none⟩)) :: nthV L 14 :: nthV L 15 :: (.pointer (some ⟨bi, 0, none⟩)) :: nthV L 17 :: nthV L 18 :: nthV L 19 :: nthV L 20 :: nthV L 21 :: nthV L 22 :: nthV L 23 :: nthV L 24 :: nthV L 25 :: nthV L 26 :: nthV L 27 :: nthV L 28 :: nthV L 29 :: nthV L 30 :: nthV L 31 :: nthV L 32 :: nthV L 33 :: nthV L 34 :: nthV L 35 :: nthV L 36 :: nthV L 37 :: nthV L 38 :: nthV L 39 :: nthV L 40 :: nthV L 41 :: nthV L 42 :: nthV L 43 :: nthV L 44 :: nthV L 45 :: nthV L 46 :: nthV L 47 :: nthV L 48 :: nthV L 49 :: nthV L 50 :: nthV L 51 :: nthV L 52 :: nthV L 53 :: nthV L 54 :: nthV L 55 :: nthV L 56 :: nthV L 57 :: nthV L 58 :: nthV L 59 :: nthV L 60 :: nthV L 61 :: nthV L 62 :: nthV L 63 :: nthV L 64 :: nthV L 65 :: nthV L 66 :: nthV L 67 :: nthV L 68 :: nthV L 69 :: nthV L 70 :: nthV L 71 :: nthV L 72 :: nthV L 73 :: nthV L 74 :: nthV L 75 :: nthV L 76 :: nthV L 77 :: nthV L 78 :: nthV L 79 :: nthV L 80 :: nthV L 81 :: nthV L 82 :: nthV L 83 :: nthV L 84 :: nthV L 85 :: nthV L 86 :: fv :: nthV L 88 :: nthV L 89 :: nthV L 90 :: nthV L 91 :: nthV L 92 :: nthV L 93 :: nthV L 94 :: nthV L 95 :: nthV L 96 :: nthV L 97 :: nthV L 98 :: nthV L 99 :: nthV L 100 :: nthV L 101 :: nthV L 102 :: nthV L 103 :: nthV L 104 :: nthV L 105 :: nthV L 106 :: nthV L 107 :: nthV L 108 :: nthV L 109 :: nthV L 110 :: nthV L 111 :: nthV L 112 :: nthV L 113 :: nthV L 114 :: nthV L 115 :: nthV L 116 :: nthV L 117 :: nthV L 118 :: nthV L 119 :: nthV L 120 :: nthV L 121 :: nthV L 122 :: nthV L 123 :: nthV L 124 :: nthV L 125 :: nthV L 126 :: nthV L 127 :: nthV L 128 :: nthV L 129 :: nthV L 130 :: nthV L 131 :: nthV L 132 :: nthV L 133 :: nthV L 134 :: nthV L 135 :: nthV L 136 :: nthV L 137 :: nthV L 138 :: nthV L 139 :: nthV L 140 :: []) : WdH bf bw bq rc bsq bn bk bi fv { tmps := L.toArray, defers := [] } := ⟨fun k => nthV L k, by rw [← h]⟩
/-- Between two rounds of the loop. -/
def WdO (bf bw bq rc bsq : Nat) (w6 : World) (a' : Act) (w' : World) : Prop :=
  ∃ (k bn : Nat) (Ds : List Nat), WdF bf bw bq rc bsq bn (marks Ds) a' ∧ k ≤ 2 ∧ Hid (KA w6.heap.size w6 w') ∧ Hid (w6.heap.size ≤ bn ∧ w'.heap[bn]? = some (.cells #[.int .i64 (k : Int)] 3 (0, 0))) ∧ Hid (Ds.Nodup ∧ ∀ D, D ∈ Ds → w6.heap.size ≤ D ∧ w'.heap[D]? = some (.deferred (some [])))
theorem wdO_next {bf bw bq rc bsq k : Nat} {w6 W : World} {Ds : List Nat} {a' : Act} (hK : KA w6.heap.size w6 W) (hD : Ds.Nodup ∧ ∀ D, D ∈ Ds → w6.heap.size ≤ D ∧ W.heap[D]? = some (.deferred (some []))) (hk : k < 2) (hF : WdF bf bw bq rc bsq W.heap.size (marks Ds) a') :
    WdO bf bw bq rc bsq w6 a' (W.alloc (.cells #[.int .i64 ((k : Int) + 1)] 3)) := by
  have hkW : Kept W (W.alloc (.cells #[.int .i64 ((k : Int) + 1)] 3)) := (Kept.refl W).alloc _ _
  refine ⟨k + 1, W.heap.size, Ds, hF, by omega, hK.trans (hkW.ka hK.2.2.2.1), ⟨hK.2.2.2.1, ?_⟩, hD.1, fun D hD' => ⟨(hD.2 D hD').1, (hkW.2.2.2.2 D (Array.getElem?_eq_some_iff.1 (hD.2 D hD').2).1).trans (hD.2 D hD').2⟩⟩
  have := World.alloc_heap_new W (.cells #[.int .i64 ((k : Int) + 1)] 3)
  rw [this]
  simp
theorem wd_marks {w6 w7 W : World} {Ds : List Nat} {D kb : Nat} (h : Ds.Nodup ∧ ∀ D, D ∈ Ds → w6.heap.size ≤ D ∧ w7.heap[D]? = some (.deferred (some []))) (hA : KeptBut kb w7 W) (hD : w7.heap.size ≤ D) (hdef : W.heap[D]? = some (.deferred (some []))) (hkb : w7.heap[kb]? = some (.cells #[.int .i64 0] 3 (0, 0))) (hs6 : w6.heap.size ≤ w7.heap.size) :
    (D :: Ds).Nodup ∧ ∀ D', D' ∈ D :: Ds → w6.heap.size ≤ D' ∧ W.heap[D']? = some (.deferred (some [])) := by
  have hlt : ∀ D' ∈ Ds, D' < w7.heap.size := fun D' hm => (Array.getElem?_eq_some_iff.1 (h.2 D' hm).2).1
  refine ⟨List.nodup_cons.2 ⟨fun hm => by have := hlt D hm; omega, h.1⟩, fun D' hD' => ?_⟩
  rcases List.mem_cons.1 hD' with rfl | hD'
  · exact ⟨by omega, hdef⟩
  · refine ⟨(h.2 D' hD').1, (hA.2.2.2.2 D' (hlt D' hD') (fun e => ?_)).trans (h.2 D' hD').2⟩
    have h1 := (h.2 D' hD').2
    rw [e, hkb] at h1
    cases h1
end Tr
end Ex
end Go.Proofs.Ytpbnjdnlgcfiiaa
