import Derived.Test.YtnjmbijebckncabMDeWd
import Derived.Test.YtnjmbijebckncabMDeRg
import Derived.Test.YtnjmbijebckncabMTrSeN
import Derived.Test.YtnjmbijebckncabMDeLl
import Derived.RangeFuncLeaves
import Derived.OwnWalkIn
import Derived.Test.YtnjmbijebckncabMDeGr
namespace Go.Proofs.Ytnjmbijebckncab
open Go.RowKit
attribute [local go_sem] Oper.semAt_some
namespace Ex
namespace Tr

theorem newR_cell (w : World) (v : Value) (t : TypeId) : (w.alloc (.cells #[v] t)).cell? ⟨w.heap.size, 0, none⟩ = some v ∧ (w.alloc (.cells #[v] t)).frozen? ⟨w.heap.size, 0, none⟩ = false ∧ w.heap.size < (w.alloc (.cells #[v] t)).heap.size := by
  refine ⟨World.cell?_alloc_new w _ _ 0, World.frozen?_alloc_new w _ _ 0, by simp⟩
/-- While a walk is gone through. -/
def RnI (w7 : World) (kb : Nat) (T : Nat → Prop) (pre : List (Nat × Nat)) (W : World) : Prop :=
  (∀ k, T k → w7.heap.size ≤ k) ∧ KeptBut kb w7 W ∧ W.heap[kb]? = some (.cells #[.int .i64 (pre.length : Int)] 3 (0, 0))
theorem RnI.stable {w7 : World} {kb : Nat} (hk : kb < w7.heap.size) : StableW (RnI w7 kb) := by
  rintro T T' s A A' ⟨g1, g2, g3⟩ hs
  have hn : ∀ k, k < w7.heap.size → ¬ T k := fun k hk h => by have := g1 k h; omega
  refine ⟨fun k hk => ?_, ⟨hs.1.trans g2.1, hs.2.1.trans g2.2.1, hs.2.2.1.trans g2.2.2.1, Nat.le_trans g2.2.2.2.1 hs.2.2.2.1, fun k h1 h2 => (hs.2.2.2.2.1 k (Nat.lt_of_lt_of_le h1 g2.2.2.2.1) (hn k h1)).trans (g2.2.2.2.2 k h1 h2)⟩, (hs.2.2.2.2.1 kb (Nat.lt_of_lt_of_le hk g2.2.2.2.1) (hn kb hk)).trans g3⟩
  rcases hs.2.2.2.2.2 k hk with h | h
  · exact g1 k h
  · exact Nat.le_trans g2.2.2.2.1 h.1
theorem boxR_of {w : World} {b k : Nat} (h : w.heap[b]? = some (.cells #[.int .i64 (k : Int)] 3 (0, 0))) : w.cell? ⟨b, 0, none⟩ = some (.int .i64 (k : Int)) ∧ w.frozen? ⟨b, 0, none⟩ = false ∧ b < w.heap.size := ⟨by simp [World.cell?, h], by simp [World.frozen?, h], (Array.getElem?_eq_some_iff.1 h).1⟩
theorem boxR_set {w : World} {b k : Nat} (h : w.heap[b]? = some (.cells #[.int .i64 (k : Int)] 3 (0, 0))) : (w.setCell ⟨b, 0, none⟩ (.int .i64 ((k : Int) + 1))).heap[b]? = some (.cells #[.int .i64 ((k + 1 : Nat) : Int)] 3 (0, 0)) := by
  have hl := (Array.getElem?_eq_some_iff.1 h).1
  have he := Option.some.inj ((Array.getElem?_eq_getElem hl).symm.trans h)
  simp [World.setCell, Array.getElem_modify, hl, he]
/-- A round's end. -/
theorem rn_fin {w7 W wy W' : World} {X : Nat → Prop} {bk pl : Nat} {T : Nat → Prop} {pre : List (Nat × Nat)} {x : Nat × Nat} (h1 : ∀ k, T k → w7.heap.size ≤ k) (h2 : KeptBut bk w7 W) (h3 : W.heap[bk]? = some (.cells #[.int .i64 (pl : Int)] 3 (0, 0))) (hpl : pre.length = pl) (hT : ∀ k, T k → k < W.heap.size) (hbk : bk < w7.heap.size) (hX : ∀ k, X k → k < bk) (hy : Kept W wy) (hz : Kept (wy.setCell ⟨bk, 0, none⟩ (.int .i64 ((pl : Int) + 1))) W') :
    W.heap.size ≤ W'.heap.size ∧ (∀ k, T k → W'.heap[k]? = W.heap[k]?) ∧ KX X W W' ∧ RnI w7 bk T (pre ++ [x]) W' := by
  have hst := setCell_but wy bk 0 (.int .i64 ((pl : Int) + 1))
  have hg := h2.2.2.2.1
  have hys := hy.size
  have hz1 := hst.2.2.2.1
  have hz2 := hz.size
  have hne : ∀ k, k < W.heap.size → k ≠ bk → W'.heap[k]? = W.heap[k]? := fun k hk hn => (hz.2.2.2.2 k (by omega)).trans ((Below.heap_setCell _ _ _ _ hn).trans (hy.2.2.2.2 k hk))
  have gy := (hy.2.2.2.2 bk (Array.getElem?_eq_some_iff.1 h3).1).trans h3
  refine ⟨by omega, fun k hk => hne k (hT k hk) (by have := h1 k hk; omega), ⟨by omega, fun k hk => by have := hX k hk; exact hne k (by omega) (by omega)⟩, h1, ⟨(hz.1.trans (hst.1.trans hy.1)).trans h2.1, (hz.2.1.trans (hst.2.1.trans hy.2.1)).trans h2.2.1, (hz.2.2.1.trans (hst.2.2.1.trans hy.2.2.1)).trans h2.2.2.1, by omega, fun k hk hn => (hne k (by omega) hn).trans (h2.2.2.2.2 k hk hn)⟩, ?_⟩
  rw [hz.2.2.2.2 bk (by have := (Array.getElem?_eq_some_iff.1 gy).1; omega), boxR_set gy, List.length_append, hpl]
  rfl
def marksR (Ds : List Nat) : List Deferred := Ds.map fun D => ({ target := .collected D, args := #[] } : Deferred)
theorem leaves_marksR {F : Fence} {n : Nat} {P : Program} {fn : Func} {tmps : Array Value} {R : Ending → World → Prop} (Ds : List Nat) : ∀ W : World, Ds.Nodup → (∀ D, D ∈ Ds → W.heap[D]? = some (.deferred (some []))) →
    (∀ W' : World, W'.os = W.os → W'.tape = W.tape → W'.output = W.output → W'.heap.size = W.heap.size → (∀ k, k ∉ Ds → W'.heap[k]? = W.heap[k]?) → LeavesIn F n P fn tmps R [] .returning W') →
    LeavesInM F n P fn tmps R (marksR Ds) .returning W := by
  induction Ds with
  | nil => intro W _ _ h; exact h W rfl rfl rfl rfl (fun _ _ => rfl)
  | cons D Ds ih =>
    intro W hnd hd h
    obtain ⟨hn1, hn2⟩ := List.nodup_cons.1 hnd
    refine ⟨by simp, .inl ⟨D, _, rfl, run_takeDeferred (hd D (List.mem_cons_self)), ?_⟩⟩
    refine ih _ hn2 (fun D' hD' => ?_) (fun W' e1 e2 e3 e4 e5 => h W' (e1.trans rfl) (e2.trans rfl) (e3.trans rfl) (by rw [e4]; simp) (fun k hk => ?_))
    · rw [World.putObj_heap_other (show D' ≠ D from fun e => hn1 (e ▸ hD'))]; exact hd D' (List.mem_cons_of_mem _ hD')
    · rw [e5 k (fun hm => hk (List.mem_cons_of_mem _ hm))]
      exact World.putObj_heap_other (fun e => hk (by rw [e]; exact List.mem_cons_self))
theorem frameR {c : Code} {Q : Exit → Act → World → Prop} {a : Act} {w : World} {R : Act → Prop} (h : R a) (k : ∀ a', R a' → c.wp Try.prog Q a' w) : c.wp Try.prog Q a w := k a h
theorem frameRIn {F : Fence} {n : Nat} {c : Code} {Q : Exit → Act → World → Prop} {a : Act} {w : World} {R : Act → Prop} (h : R a) (k : ∀ a', R a' → c.wpIn F n Try.prog Q a' w) : c.wpIn F n Try.prog Q a w := k a h
theorem marksR_more {w6 w7 W : World} {Ds : List Nat} {D kb : Nat} (h : Ds.Nodup ∧ ∀ D, D ∈ Ds → w6.heap.size ≤ D ∧ w7.heap[D]? = some (.deferred (some []))) (hA : KeptBut kb w7 W) (hD : w7.heap.size ≤ D) (hdef : W.heap[D]? = some (.deferred (some []))) (hkb : w7.heap[kb]? = some (.cells #[.int .i64 0] 3 (0, 0))) (hs6 : w6.heap.size ≤ w7.heap.size) :
    (D :: Ds).Nodup ∧ ∀ D', D' ∈ D :: Ds → w6.heap.size ≤ D' ∧ W.heap[D']? = some (.deferred (some [])) := by
  have hlt : ∀ D' ∈ Ds, D' < w7.heap.size := fun D' hm => (Array.getElem?_eq_some_iff.1 (h.2 D' hm).2).1
  refine ⟨List.nodup_cons.2 ⟨fun hm => by have := hlt D hm; omega, h.1⟩, fun D' hD' => ?_⟩
  rcases List.mem_cons.1 hD' with rfl | hD'
  · exact ⟨by omega, hdef⟩
  · refine ⟨(h.2 D' hD').1, (hA.2.2.2.2 D' (hlt D' hD') (fun e => ?_)).trans (h.2 D' hD').2⟩
    have h1 := (h.2 D' hD').2
    rw [e, hkb] at h1
    cases h1

end Tr
end Ex
end Go.Proofs.Ytnjmbijebckncab
namespace Go.Proofs.Ytnjmbijebckncab
open Go.RowKit
attribute [local go_sem] Oper.semAt_some
namespace Ex
namespace Tr
attribute [local simp] wide_fn wide_depth
attribute [local go_sem] run_store_fnR

def RN (va : Option Addr) (np vc lb rc gb i : Nat) (sb wb nb : Nat) (ds : List Deferred) (a : Act) : Prop := ∃ T : Nat → Value, a = { tmps := List.toArray (T 0 :: (.slice va np vc) :: T 2 :: T 3 :: T 4 :: (.pointer (some ⟨lb, 0, none⟩)) :: (.pointer (some ⟨rc, 0, none⟩)) :: (.pointer (some ⟨gb, 0, none⟩)) :: (.bool true) :: (.int .i64 (i : Int)) :: T 10 :: T 11 :: (.pointer (some ⟨sb, 0, none⟩)) :: (.pointer (some ⟨wb, 0, none⟩)) :: (.pointer (some ⟨nb, 0, none⟩)) :: T 15 :: T 16 :: T 17 :: T 18 :: T 19 :: T 20 :: T 21 :: T 22 :: T 23 :: T 24 :: T 25 :: T 26 :: T 27 :: T 28 :: T 29 :: T 30 :: T 31 :: T 32 :: T 33 :: T 34 :: T 35 :: T 36 :: T 37 :: T 38 :: T 39 :: T 40 :: T 41 :: T 42 :: T 43 :: T 44 :: T 45 :: T 46 :: T 47 :: T 48 :: T 49 :: T 50 :: T 51 :: T 52 :: T 53 :: T 54 :: T 55 :: T 56 :: T 57 :: T 58 :: T 59 :: T 60 :: T 61 :: T 62 :: T 63 :: T 64 :: T 65 :: T 66 :: T 67 :: T 68 :: T 69 :: T 70 :: T 71 :: T 72 :: T 73 :: T 74 :: T 75 :: T 76 :: T 77 :: T 78 :: T 79 :: T 80 :: T 81 :: T 82 :: T 83 :: T 84 :: T 85 :: T 86 :: T 87 :: T 88 :: T 89 :: T 90 :: T 91 :: T 92 :: T 93 :: T 94 :: T 95 :: T 96 :: T 97 :: T 98 :: T 99 :: T 100 :: T 101 :: T 102 :: T 103 :: T 104 :: T 105 :: T 106 :: T 107 :: T 108 :: T 109 :: T 110 :: T 111 :: T 112 :: T 113 :: T 114 :: T 115 :: T 116 :: T 117 :: T 118 :: T 119 :: T 120 :: T 121 :: T 122 :: T 123 :: T 124 :: T 125 :: T 126 :: T 127 :: T 128 :: T 129 :: T 130 :: T 131 :: T 132 :: T 133 :: T 134 :: T 135 :: T 136 :: T 137 :: T 138 :: T 139 :: T 140 :: T 141 :: T 142 :: T 143 :: T 144 :: T 145 :: T 146 :: T 147 :: T 148 :: T 149 :: T 150 :: T 151 :: T 152 :: T 153 :: T 154 :: T 155 :: T 156 :: T 157 :: T 158 :: T 159 :: T 160 :: []), defers := ds }
theorem rN_of {va : Option Addr} {np vc lb rc gb i : Nat} {sb wb nb : Nat} {ds : List Deferred} (L : List Value) (h : L = nthV L 0 :: (.slice va np vc) :: nthV L 2 :: nthV L 3 :: nthV L 4 :: (.pointer (some ⟨lb, 0, none⟩)) :: (.pointer (some ⟨rc, 0, none⟩)) :: (.pointer (some ⟨gb, 0, none⟩)) :: (.bool true) :: (.int .i64 (i : Int)) :: nthV L 10 :: nthV L 11 :: (.pointer (some ⟨sb, 0, none⟩)) :: (.pointer (some ⟨wb, 0, none⟩)) :: (.pointer (some ⟨nb, 0, none⟩)) :: nthV L 15 :: nthV L 16 :: nthV L 17 :: nthV L 18 :: nthV L 19 :: nthV L 20 :: nthV L 21 :: nthV L 22 :: nthV L 23 :: nthV L 24 :: nthV L 25 :: nthV L 26 :: nthV L 27 :: nthV L 28 :: nthV L 29 :: nthV L 30 :: nthV L 31 :: nthV L 32 :: nthV L 33 :: nthV L 34 :: nthV L 35 :: nthV L 36 :: nthV L 37 :: nthV L 38 :: nthV L 39 :: nthV L 40 :: nthV L 41 :: nthV L 42 :: nthV L 43 :: nthV L 44 :: nthV L 45 :: nthV L 46 :: nthV L 47 :: nthV L 48 :: nthV L 49 :: nthV L 50 :: nthV L 51 :: nthV L 52 :: nthV L 53 :: nthV L 54 :: nthV L 55 :: nthV L 56 :: nthV L 57 :: nthV L 58 :: nthV L 59 :: nthV L 60 :: nthV L 61 :: nthV L 62 :: nthV L 63 :: nthV L 64 :: nthV L 65 :: nthV L 66 :: nthV L 67 :: nthV L 68 :: nthV L 69 :: nthV L 70 :: nthV L 71 :: nthV L 72 :: nthV L 73 :: nthV L 74 :: nthV L 75 :: nthV L 76 :: nthV L 77 :: nthV L 78 :: nthV L 79 :: nthV L 80 :: nthV L 81 :: nthV L 82 :: nthV L 83 :: nthV L 84 :: nthV L 85 :: nthV L 86 :: nthV L 87 :: nthV L 88 :: nthV L 89 :: nthV L 90 :: nthV L 91 :: nthV L 92 :: nthV L 93 :: nthV L 94 :: nthV L 95 :: nthV L 96 :: nthV L 97 :: nthV L 98 :: nthV L 99 :: nthV L 100 :: nthV L 101 :: nthV L 102 :: nthV L 103 :: nthV L 104 :: nthV L 105 :: nthV L 106 :: nthV L 107 :: nthV L 108 :: nthV L 109 :: nthV L 110 :: nthV L 111 :: nthV L 112 :: nthV L 113 :: nthV L 114 :: nthV L 115 :: nthV L 116 :: nthV L 117 :: nthV L 118 :: nthV L 119 :: nthV L 120 :: nthV L 121 :: nthV L 122 :: nthV L 123 :: nthV L 124 :: nthV L 125 :: nthV L 126 :: nthV L 127 :: nthV L 128 :: nthV L 129 :: nthV L 130 :: nthV L 131 :: nthV L 132 :: nthV L 133 :: nthV L 134 :: nthV L 135 :: nthV L 136 :: nthV L 137 :: nthV L 138 :: nthV L 139 :: nthV L 140 :: nthV L 141 :: nthV L 142 :: nthV L 143 :: nthV L 144 :: nthV L 145 :: nthV L 146 :: nthV L 147 :: nthV L 148 :: nthV L 149 :: nthV L 150 :: nthV L 151 :: nthV L 152 :: nthV L 153 :: nthV L 154 :: nthV L 155 :: nthV L 156 :: nthV L 157 :: nthV L 158 :: nthV L 159 :: nthV L 160 :: []) : RN va np vc lb rc gb i sb wb nb ds { tmps := L.toArray, defers := ds } := ⟨fun k => nthV L k, by rw [← h]⟩
def RK (va : Option Addr) (np vc lb rc gb i : Nat) (sb wb nb kb : Nat) (fv : Value) (a : Act) : Prop := ∃ T : Nat → Value, a = { tmps := List.toArray (T 0 :: (.slice va np vc) :: T 2 :: T 3 :: T 4 :: (.pointer (some ⟨lb, 0, none⟩)) :: (.pointer (some ⟨rc, 0, none⟩)) :: (.pointer (some ⟨gb, 0, none⟩)) :: (.bool true) :: (.int .i64 (i : Int)) :: T 10 :: T 11 :: (.pointer (some ⟨sb, 0, none⟩)) :: (.pointer (some ⟨wb, 0, none⟩)) :: (.pointer (some ⟨nb, 0, none⟩)) :: T 15 :: T 16 :: (.pointer (some ⟨kb, 0, none⟩)) :: T 18 :: T 19 :: T 20 :: T 21 :: T 22 :: T 23 :: T 24 :: T 25 :: T 26 :: T 27 :: T 28 :: T 29 :: T 30 :: T 31 :: T 32 :: T 33 :: T 34 :: T 35 :: T 36 :: T 37 :: T 38 :: T 39 :: T 40 :: T 41 :: T 42 :: T 43 :: T 44 :: T 45 :: T 46 :: T 47 :: T 48 :: T 49 :: T 50 :: T 51 :: T 52 :: T 53 :: T 54 :: T 55 :: T 56 :: T 57 :: T 58 :: T 59 :: T 60 :: T 61 :: T 62 :: T 63 :: T 64 :: T 65 :: T 66 :: T 67 :: T 68 :: T 69 :: T 70 :: T 71 :: T 72 :: T 73 :: T 74 :: T 75 :: T 76 :: T 77 :: T 78 :: T 79 :: T 80 :: T 81 :: T 82 :: T 83 :: T 84 :: T 85 :: T 86 :: T 87 :: T 88 :: T 89 :: T 90 :: T 91 :: T 92 :: T 93 :: T 94 :: T 95 :: T 96 :: T 97 :: T 98 :: T 99 :: T 100 :: T 101 :: T 102 :: T 103 :: T 104 :: T 105 :: T 106 :: T 107 :: T 108 :: T 109 :: T 110 :: T 111 :: T 112 :: T 113 :: T 114 :: T 115 :: T 116 :: T 117 :: T 118 :: T 119 :: T 120 :: T 121 :: T 122 :: T 123 :: T 124 :: T 125 :: T 126 :: T 127 :: T 128 :: T 129 :: T 130 :: T 131 :: T 132 :: T 133 :: fv :: T 135 :: T 136 :: T 137 :: T 138 :: T 139 :: T 140 :: T 141 :: T 142 :: T 143 :: T 144 :: T 145 :: T 146 :: T 147 :: T 148 :: T 149 :: T 150 :: T 151 :: T 152 :: T 153 :: T 154 :: T 155 :: T 156 :: T 157 :: T 158 :: T 159 :: T 160 :: []), defers := [] }
theorem rK_of {va : Option Addr} {np vc lb rc gb i : Nat} {sb wb nb kb : Nat} {fv : Value} (L : List Value) (h : L = nthV L 0 :: (.slice va np vc) :: nthV L 2 :: nthV L 3 :: nthV L 4 :: (.pointer (some ⟨lb, 0, none⟩)) :: (.pointer (some ⟨rc, 0, none⟩)) :: (.pointer (some ⟨gb, 0, none⟩)) :: (.bool true) :: (.int .i64 (i : Int)) :: nthV L 10 :: nthV L 11 :: (.pointer (some ⟨sb, 0, none⟩)) :: (.pointer (some ⟨wb, 0, none⟩)) :: (.pointer (some ⟨nb, 0, none⟩)) :: nthV L 15 :: nthV L 16 :: (.pointer (some ⟨kb, 0, none⟩)) :: nthV L 18 :: nthV L 19 :: nthV L 20 :: nthV L 21 :: nthV L 22 :: nthV L 23 :: nthV L 24 :: nthV L 25 :: nthV L 26 :: nthV L 27 :: nthV L 28 :: nthV L 29 :: nthV L 30 :: nthV L 31 :: nthV L 32 :: nthV L 33 :: nthV L 34 :: nthV L 35 :: nthV L 36 :: nthV L 37 :: nthV L 38 :: nthV L 39 :: nthV L 40 :: nthV L 41 :: nthV L 42 :: nthV L 43 :: nthV L 44 :: nthV L 45 :: nthV L 46 :: nthV L 47 :: nthV L 48 :: nthV L 49 :: nthV L 50 :: nthV L 51 :: nthV L 52 :: nthV L 53 :: nthV L 54 :: nthV L 55 :: nthV L 56 :: nthV L 57 :: nthV L 58 :: nthV L 59 :: nthV L 60 :: nthV L 61 :: nthV L 62 :: nthV L 63 :: nthV L 64 :: nthV L 65 :: nthV L 66 :: nthV L 67 :: nthV L 68 :: nthV L 69 :: nthV L 70 :: nthV L 71 :: nthV L 72 :: nthV L 73 :: nthV L 74 :: nthV L 75 :: nthV L 76 :: nthV L 77 :: nthV L 78 :: nthV L 79 :: nthV L 80 :: nthV L 81 :: nthV L 82 :: nthV L 83 :: nthV L 84 :: nthV L 85 :: nthV L 86 :: nthV L 87 :: nthV L 88 :: nthV L 89 :: nthV L 90 :: nthV L 91 :: nthV L 92 :: nthV L 93 :: nthV L 94 :: nthV L 95 :: nthV L 96 :: nthV L 97 :: nthV L 98 :: nthV L 99 :: nthV L 100 :: nthV L 101 :: nthV L 102 :: nthV L 103 :: nthV L 104 :: nthV L 105 :: nthV L 106 :: nthV L 107 :: nthV L 108 :: nthV L 109 :: nthV L 110 :: nthV L 111 :: nthV L 112 :: nthV L 113 :: nthV L 114 :: nthV L 115 :: nthV L 116 :: nthV L 117 :: nthV L 118 :: nthV L 119 :: nthV L 120 :: nthV L 121 :: nthV L 122 :: nthV L 123 :: nthV L 124 :: nthV L 125 :: nthV L 126 :: nthV L 127 :: nthV L 128 :: nthV L 129 :: nthV L 130 :: nthV L 131 :: nthV L 132 :: nthV L 133 :: fv :: nthV L 135 :: nthV L 136 :: nthV L 137 :: nthV L 138 :: nthV L 139 :: nthV L 140 :: nthV L 141 :: nthV L 142 :: nthV L 143 :: nthV L 144 :: nthV L 145 :: nthV L 146 :: nthV L 147 :: nthV L 148 :: nthV L 149 :: nthV L 150 :: nthV L 151 :: nthV L 152 :: nthV L 153 :: nthV L 154 :: nthV L 155 :: nthV L 156 :: nthV L 157 :: nthV L 158 :: nthV L 159 :: nthV L 160 :: []) : RK va np vc lb rc gb i sb wb nb kb fv { tmps := L.toArray, defers := [] } := ⟨fun k => nthV L k, by rw [← h]⟩
def RF (va : Option Addr) (np vc lb rc gb i : Nat) (ds : List Deferred) (a : Act) : Prop := ∃ T : Nat → Value, a = { tmps := List.toArray (T 0 :: (.slice va np vc) :: T 2 :: T 3 :: T 4 :: (.pointer (some ⟨lb, 0, none⟩)) :: (.pointer (some ⟨rc, 0, none⟩)) :: (.pointer (some ⟨gb, 0, none⟩)) :: (.bool true) :: (.int .i64 (i : Int)) :: T 10 :: T 11 :: T 12 :: T 13 :: T 14 :: T 15 :: T 16 :: T 17 :: T 18 :: T 19 :: T 20 :: T 21 :: T 22 :: T 23 :: T 24 :: T 25 :: T 26 :: T 27 :: T 28 :: T 29 :: T 30 :: T 31 :: T 32 :: T 33 :: T 34 :: T 35 :: T 36 :: T 37 :: T 38 :: T 39 :: T 40 :: T 41 :: T 42 :: T 43 :: T 44 :: T 45 :: T 46 :: T 47 :: T 48 :: T 49 :: T 50 :: T 51 :: T 52 :: T 53 :: T 54 :: T 55 :: T 56 :: T 57 :: T 58 :: T 59 :: T 60 :: T 61 :: T 62 :: T 63 :: T 64 :: T 65 :: T 66 :: T 67 :: T 68 :: T 69 :: T 70 :: T 71 :: T 72 :: T 73 :: T 74 :: T 75 :: T 76 :: T 77 :: T 78 :: T 79 :: T 80 :: T 81 :: T 82 :: T 83 :: T 84 :: T 85 :: T 86 :: T 87 :: T 88 :: T 89 :: T 90 :: T 91 :: T 92 :: T 93 :: T 94 :: T 95 :: T 96 :: T 97 :: T 98 :: T 99 :: T 100 :: T 101 :: T 102 :: T 103 :: T 104 :: T 105 :: T 106 :: T 107 :: T 108 :: T 109 :: T 110 :: T 111 :: T 112 :: T 113 :: T 114 :: T 115 :: T 116 :: T 117 :: T 118 :: T 119 :: T 120 :: T 121 :: T 122 :: T 123 :: T 124 :: T 125 :: T 126 :: T 127 :: T 128 :: T 129 :: T 130 :: T 131 :: T 132 :: T 133 :: T 134 :: T 135 :: T 136 :: T 137 :: T 138 :: T 139 :: T 140 :: T 141 :: T 142 :: T 143 :: T 144 :: T 145 :: T 146 :: T 147 :: T 148 :: T 149 :: T 150 :: T 151 :: T 152 :: T 153 :: T 154 :: T 155 :: T 156 :: T 157 :: T 158 :: T 159 :: T 160 :: []), defers := ds }
theorem rF_of {va : Option Addr} {np vc lb rc gb i : Nat} {ds : List Deferred} (L : List Value) (h : L = nthV L 0 :: (.slice va np vc) :: nthV L 2 :: nthV L 3 :: nthV L 4 :: (.pointer (some ⟨lb, 0, none⟩)) :: (.pointer (some ⟨rc, 0, none⟩)) :: (.pointer (some ⟨gb, 0, none⟩)) :: (.bool true) :: (.int .i64 (i : Int)) :: nthV L 10 :: nthV L 11 :: nthV L 12 :: nthV L 13 :: nthV L 14 :: nthV L 15 :: nthV L 16 :: nthV L 17 :: nthV L 18 :: nthV L 19 :: nthV L 20 :: nthV L 21 :: nthV L 22 :: nthV L 23 :: nthV L 24 :: nthV L 25 :: nthV L 26 :: nthV L 27 :: nthV L 28 :: nthV L 29 :: nthV L 30 :: nthV L 31 :: nthV L 32 :: nthV L 33 :: nthV L 34 :: nthV L 35 :: nthV L 36 :: nthV L 37 :: nthV L 38 :: nthV L 39 :: nthV L 40 :: nthV L 41 :: nthV L 42 :: nthV L 43 :: nthV L 44 :: nthV L 45 :: nthV L 46 :: nthV L 47 :: nthV L 48 :: nthV L 49 :: nthV L 50 :: nthV L 51 :: nthV L 52 :: nthV L 53 :: nthV L 54 :: nthV L 55 :: nthV L 56 :: nthV L 57 :: nthV L 58 :: nthV L 59 :: nthV L 60 :: nthV L 61 :: nthV L 62 :: nthV L 63 :: nthV L 64 :: nthV L 65 :: nthV L 66 :: nthV L 67 :: nthV L 68 :: nthV L 69 :: nthV L 70 :: nthV L 71 :: nthV L 72 :: nthV L 73 :: nthV L 74 :: nthV L 75 :: nthV L 76 :: nthV L 77 :: nthV L 78 :: nthV L 79 :: nthV L 80 :: nthV L 81 :: nthV L 82 :: nthV L 83 :: nthV L 84 :: nthV L 85 :: nthV L 86 :: nthV L 87 :: nthV L 88 :: nthV L 89 :: nthV L 90 :: nthV L 91 :: nthV L 92 :: nthV L 93 :: nthV L 94 :: nthV L 95 :: nthV L 96 :: nthV L 97 :: nthV L 98 :: nthV L 99 :: nthV L 100 :: nthV L 101 :: nthV L 102 :: nthV L 103 :: nthV L 104 :: nthV L 105 :: nthV L 106 :: nthV L 107 :: nthV L 108 :: nthV L 109 :: nthV L 110 :: nthV L 111 :: nthV L 112 :: nthV L 113 :: nthV L 114 :: nthV L 115 :: nthV L 116 :: nthV L 117 :: nthV L 118 :: nthV L 119 :: nthV L 120 :: nthV L 121 :: nthV L 122 :: nthV L 123 :: nthV L 124 :: nthV L 125 :: nthV L 126 :: nthV L 127 :: nthV L 128 :: nthV L 129 :: nthV L 130 :: nthV L 131 :: nthV L 132 :: nthV L 133 :: nthV L 134 :: nthV L 135 :: nthV L 136 :: nthV L 137 :: nthV L 138 :: nthV L 139 :: nthV L 140 :: nthV L 141 :: nthV L 142 :: nthV L 143 :: nthV L 144 :: nthV L 145 :: nthV L 146 :: nthV L 147 :: nthV L 148 :: nthV L 149 :: nthV L 150 :: nthV L 151 :: nthV L 152 :: nthV L 153 :: nthV L 154 :: nthV L 155 :: nthV L 156 :: nthV L 157 :: nthV L 158 :: nthV L 159 :: nthV L 160 :: []) : RF va np vc lb rc gb i ds { tmps := L.toArray, defers := ds } := ⟨fun k => nthV L k, by rw [← h]⟩
def RM (va : Option Addr) (np vc lb rc gb i : Nat) (ra r9 sb : Nat) (ds : List Deferred) (a : Act) : Prop := ∃ T : Nat → Value, a = { tmps := List.toArray (T 0 :: (.slice va np vc) :: T 2 :: T 3 :: T 4 :: (.pointer (some ⟨lb, 0, none⟩)) :: (.pointer (some ⟨rc, 0, none⟩)) :: (.pointer (some ⟨gb, 0, none⟩)) :: (.bool true) :: (.int .i64 (i : Int)) :: (.int .i64 (ra : Int)) :: (.int .i64 (r9 : Int)) :: (.pointer (some ⟨sb, 0, none⟩)) :: T 13 :: T 14 :: T 15 :: T 16 :: T 17 :: T 18 :: T 19 :: T 20 :: T 21 :: T 22 :: T 23 :: T 24 :: T 25 :: T 26 :: T 27 :: T 28 :: T 29 :: T 30 :: T 31 :: T 32 :: T 33 :: T 34 :: T 35 :: T 36 :: T 37 :: T 38 :: T 39 :: T 40 :: T 41 :: T 42 :: T 43 :: T 44 :: T 45 :: T 46 :: T 47 :: T 48 :: T 49 :: T 50 :: T 51 :: T 52 :: T 53 :: T 54 :: T 55 :: T 56 :: T 57 :: T 58 :: T 59 :: T 60 :: T 61 :: T 62 :: T 63 :: T 64 :: T 65 :: T 66 :: T 67 :: T 68 :: T 69 :: T 70 :: T 71 :: T 72 :: T 73 :: T 74 :: T 75 :: T 76 :: T 77 :: T 78 :: T 79 :: T 80 :: T 81 :: T 82 :: T 83 :: T 84 :: T 85 :: T 86 :: T 87 :: T 88 :: T 89 :: T 90 :: T 91 :: T 92 :: T 93 :: T 94 :: T 95 :: T 96 :: T 97 :: T 98 :: T 99 :: T 100 :: T 101 :: T 102 :: T 103 :: T 104 :: T 105 :: T 106 :: T 107 :: T 108 :: T 109 :: T 110 :: T 111 :: T 112 :: T 113 :: T 114 :: T 115 :: T 116 :: T 117 :: T 118 :: T 119 :: T 120 :: T 121 :: T 122 :: T 123 :: T 124 :: T 125 :: T 126 :: T 127 :: T 128 :: T 129 :: T 130 :: T 131 :: T 132 :: T 133 :: T 134 :: T 135 :: T 136 :: T 137 :: T 138 :: T 139 :: T 140 :: T 141 :: T 142 :: T 143 :: T 144 :: T 145 :: T 146 :: T 147 :: T 148 :: T 149 :: T 150 :: T 151 :: T 152 :: T 153 :: T 154 :: T 155 :: T 156 :: T 157 :: T 158 :: T 159 :: T 160 :: []), defers := ds }
theorem rM_of {va : Option Addr} {np vc lb rc gb i : Nat} {ra r9 sb : Nat} {ds : List Deferred} (L : List Value) (h : L = nthV L 0 :: (.slice va np vc) :: nthV L 2 :: nthV L 3 :: nthV L 4 :: (.pointer (some ⟨lb, 0, none⟩)) :: (.pointer (some ⟨rc, 0, none⟩)) :: (.pointer (some ⟨gb, 0, none⟩)) :: (.bool true) :: (.int .i64 (i : Int)) :: (.int .i64 (ra : Int)) :: (.int .i64 (r9 : Int)) :: (.pointer (some ⟨sb, 0, none⟩)) :: nthV L 13 :: nthV L 14 :: nthV L 15 :: nthV L 16 :: nthV L 17 :: nthV L 18 :: nthV L 19 :: nthV L 20 :: nthV L 21 :: nthV L 22 :: nthV L 23 :: nthV L 24 :: nthV L 25 :: nthV L 26 :: nthV L 27 :: nthV L 28 :: nthV L 29 :: nthV L 30 :: nthV L 31 :: nthV L 32 :: nthV L 33 :: nthV L 34 :: nthV L 35 :: nthV L 36 :: nthV L 37 :: nthV L 38 :: nthV L 39 :: nthV L 40 :: nthV L 41 :: nthV L 42 :: nthV L 43 :: nthV L 44 :: nthV L 45 :: nthV L 46 :: nthV L 47 :: nthV L 48 :: nthV L 49 :: nthV L 50 :: nthV L 51 :: nthV L 52 :: nthV L 53 :: nthV L 54 :: nthV L 55 :: nthV L 56 :: nthV L 57 :: nthV L 58 :: nthV L 59 :: nthV L 60 :: nthV L 61 :: nthV L 62 :: nthV L 63 :: nthV L 64 :: nthV L 65 :: nthV L 66 :: nthV L 67 :: nthV L 68 :: nthV L 69 :: nthV L 70 :: nthV L 71 :: nthV L 72 :: nthV L 73 :: nthV L 74 :: nthV L 75 :: nthV L 76 :: nthV L 77 :: nthV L 78 :: nthV L 79 :: nthV L 80 :: nthV L 81 :: nthV L 82 :: nthV L 83 :: nthV L 84 :: nthV L 85 :: nthV L 86 :: nthV L 87 :: nthV L 88 :: nthV L 89 :: nthV L 90 :: nthV L 91 :: nthV L 92 :: nthV L 93 :: nthV L 94 :: nthV L 95 :: nthV L 96 :: nthV L 97 :: nthV L 98 :: nthV L 99 :: nthV L 100 :: nthV L 101 :: nthV L 102 :: nthV L 103 :: nthV L 104 :: nthV L 105 :: nthV L 106 :: nthV L 107 :: nthV L 108 :: nthV L 109 :: nthV L 110 :: nthV L 111 :: nthV L 112 :: nthV L 113 :: nthV L 114 :: nthV L 115 :: nthV L 116 :: nthV L 117 :: nthV L 118 :: nthV L 119 :: nthV L 120 :: nthV L 121 :: nthV L 122 :: nthV L 123 :: nthV L 124 :: nthV L 125 :: nthV L 126 :: nthV L 127 :: nthV L 128 :: nthV L 129 :: nthV L 130 :: nthV L 131 :: nthV L 132 :: nthV L 133 :: nthV L 134 :: nthV L 135 :: nthV L 136 :: nthV L 137 :: nthV L 138 :: nthV L 139 :: nthV L 140 :: nthV L 141 :: nthV L 142 :: nthV L 143 :: nthV L 144 :: nthV L 145 :: nthV L 146 :: nthV L 147 :: nthV L 148 :: nthV L 149 :: nthV L 150 :: nthV L 151 :: nthV L 152 :: nthV L 153 :: nthV L 154 :: nthV L 155 :: nthV L 156 :: nthV L 157 :: nthV L 158 :: nthV L 159 :: nthV L 160 :: []) : RM va np vc lb rc gb i ra r9 sb ds { tmps := L.toArray, defers := ds } := ⟨fun k => nthV L k, by rw [← h]⟩
def RW (va : Option Addr) (np vc lb rc gb i : Nat) (sb wb : Nat) (ds : List Deferred) (a : Act) : Prop := ∃ T : Nat → Value, a = { tmps := List.toArray (T 0 :: (.slice va np vc) :: T 2 :: T 3 :: T 4 :: (.pointer (some ⟨lb, 0, none⟩)) :: (.pointer (some ⟨rc, 0, none⟩)) :: (.pointer (some ⟨gb, 0, none⟩)) :: (.bool true) :: (.int .i64 (i : Int)) :: T 10 :: T 11 :: (.pointer (some ⟨sb, 0, none⟩)) :: (.pointer (some ⟨wb, 0, none⟩)) :: T 14 :: T 15 :: T 16 :: T 17 :: T 18 :: T 19 :: T 20 :: T 21 :: T 22 :: T 23 :: T 24 :: T 25 :: T 26 :: T 27 :: T 28 :: T 29 :: T 30 :: T 31 :: T 32 :: T 33 :: T 34 :: T 35 :: T 36 :: T 37 :: T 38 :: T 39 :: T 40 :: T 41 :: T 42 :: T 43 :: T 44 :: T 45 :: T 46 :: T 47 :: T 48 :: T 49 :: T 50 :: T 51 :: T 52 :: T 53 :: T 54 :: T 55 :: T 56 :: T 57 :: T 58 :: T 59 :: T 60 :: T 61 :: T 62 :: T 63 :: T 64 :: T 65 :: T 66 :: T 67 :: T 68 :: T 69 :: T 70 :: T 71 :: T 72 :: T 73 :: T 74 :: T 75 :: T 76 :: T 77 :: T 78 :: T 79 :: T 80 :: T 81 :: T 82 :: T 83 :: T 84 :: T 85 :: T 86 :: T 87 :: T 88 :: T 89 :: T 90 :: T 91 :: T 92 :: T 93 :: T 94 :: T 95 :: T 96 :: T 97 :: T 98 :: T 99 :: T 100 :: T 101 :: T 102 :: T 103 :: T 104 :: T 105 :: T 106 :: T 107 :: T 108 :: T 109 :: T 110 :: T 111 :: T 112 :: T 113 :: T 114 :: T 115 :: T 116 :: T 117 :: T 118 :: T 119 :: T 120 :: T 121 :: T 122 :: T 123 :: T 124 :: T 125 :: T 126 :: T 127 :: T 128 :: T 129 :: T 130 :: T 131 :: T 132 :: T 133 :: T 134 :: T 135 :: T 136 :: T 137 :: T 138 :: T 139 :: T 140 :: T 141 :: T 142 :: T 143 :: T 144 :: T 145 :: T 146 :: T 147 :: T 148 :: T 149 :: T 150 :: T 151 :: T 152 :: T 153 :: T 154 :: T 155 :: T 156 :: T 157 :: T 158 :: T 159 :: T 160 :: []), defers := ds }
theorem rW_of {va : Option Addr} {np vc lb rc gb i : Nat} {sb wb : Nat} {ds : List Deferred} (L : List Value) (h : L = nthV L 0 :: (.slice va np vc) :: nthV L 2 :: nthV L 3 :: nthV L 4 :: (.pointer (some ⟨lb, 0, none⟩)) :: (.pointer (some ⟨rc, 0, none⟩)) :: (.pointer (some ⟨gb, 0, none⟩)) :: (.bool true) :: (.int .i64 (i : Int)) :: nthV L 10 :: nthV L 11 :: (.pointer (some ⟨sb, 0, none⟩)) :: (.pointer (some ⟨wb, 0, none⟩)) :: nthV L 14 :: nthV L 15 :: nthV L 16 :: nthV L 17 :: nthV L 18 :: nthV L 19 :: nthV L 20 :: nthV L 21 :: nthV L 22 :: nthV L 23 :: nthV L 24 :: nthV L 25 :: nthV L 26 :: nthV L 27 :: nthV L 28 :: nthV L 29 :: nthV L 30 :: nthV L 31 :: nthV L 32 :: nthV L 33 :: nthV L 34 :: nthV L 35 :: nthV L 36 :: nthV L 37 :: nthV L 38 :: nthV L 39 :: nthV L 40 :: nthV L 41 :: nthV L 42 :: nthV L 43 :: nthV L 44 :: nthV L 45 :: nthV L 46 :: nthV L 47 :: nthV L 48 :: nthV L 49 :: nthV L 50 :: nthV L 51 :: nthV L 52 :: nthV L 53 :: nthV L 54 :: nthV L 55 :: nthV L 56 :: nthV L 57 :: nthV L 58 :: nthV L 59 :: nthV L 60 :: nthV L 61 :: nthV L 62 :: nthV L 63 :: nthV L 64 :: nthV L 65 :: nthV L 66 :: nthV L 67 :: nthV L 68 :: nthV L 69 :: nthV L 70 :: nthV L 71 :: nthV L 72 :: nthV L 73 :: nthV L 74 :: nthV L 75 :: nthV L 76 :: nthV L 77 :: nthV L 78 :: nthV L 79 :: nthV L 80 :: nthV L 81 :: nthV L 82 :: nthV L 83 :: nthV L 84 :: nthV L 85 :: nthV L 86 :: nthV L 87 :: nthV L 88 :: nthV L 89 :: nthV L 90 :: nthV L 91 :: nthV L 92 :: nthV L 93 :: nthV L 94 :: nthV L 95 :: nthV L 96 :: nthV L 97 :: nthV L 98 :: nthV L 99 :: nthV L 100 :: nthV L 101 :: nthV L 102 :: nthV L 103 :: nthV L 104 :: nthV L 105 :: nthV L 106 :: nthV L 107 :: nthV L 108 :: nthV L 109 :: nthV L 110 :: nthV L 111 :: nthV L 112 :: nthV L 113 :: nthV L 114 :: nthV L 115 :: nthV L 116 :: nthV L 117 :: nthV L 118 :: nthV L 119 :: nthV L 120 :: nthV L 121 :: nthV L 122 :: nthV L 123 :: nthV L 124 :: nthV L 125 :: nthV L 126 :: nthV L 127 :: nthV L 128 :: nthV L 129 :: nthV L 130 :: nthV L 131 :: nthV L 132 :: nthV L 133 :: nthV L 134 :: nthV L 135 :: nthV L 136 :: nthV L 137 :: nthV L 138 :: nthV L 139 :: nthV L 140 :: nthV L 141 :: nthV L 142 :: nthV L 143 :: nthV L 144 :: nthV L 145 :: nthV L 146 :: nthV L 147 :: nthV L 148 :: nthV L 149 :: nthV L 150 :: nthV L 151 :: nthV L 152 :: nthV L 153 :: nthV L 154 :: nthV L 155 :: nthV L 156 :: nthV L 157 :: nthV L 158 :: nthV L 159 :: nthV L 160 :: []) : RW va np vc lb rc gb i sb wb ds { tmps := L.toArray, defers := ds } := ⟨fun k => nthV L k, by rw [← h]⟩
def RG (va : Option Addr) (np vc lb rc gb i : Nat) (sb wb nb : Nat) (fv : Value) (ds : List Deferred) (a : Act) : Prop := ∃ T : Nat → Value, a = { tmps := List.toArray (T 0 :: (.slice va np vc) :: T 2 :: T 3 :: T 4 :: (.pointer (some ⟨lb, 0, none⟩)) :: (.pointer (some ⟨rc, 0, none⟩)) :: (.pointer (some ⟨gb, 0, none⟩)) :: (.bool true) :: (.int .i64 (i : Int)) :: T 10 :: T 11 :: (.pointer (some ⟨sb, 0, none⟩)) :: (.pointer (some ⟨wb, 0, none⟩)) :: (.pointer (some ⟨nb, 0, none⟩)) :: T 15 :: T 16 :: T 17 :: T 18 :: T 19 :: T 20 :: T 21 :: T 22 :: T 23 :: T 24 :: T 25 :: T 26 :: T 27 :: T 28 :: T 29 :: T 30 :: T 31 :: T 32 :: T 33 :: T 34 :: T 35 :: T 36 :: T 37 :: T 38 :: T 39 :: T 40 :: T 41 :: T 42 :: T 43 :: T 44 :: T 45 :: T 46 :: T 47 :: T 48 :: T 49 :: T 50 :: T 51 :: T 52 :: T 53 :: T 54 :: T 55 :: T 56 :: T 57 :: T 58 :: T 59 :: T 60 :: T 61 :: T 62 :: T 63 :: T 64 :: T 65 :: T 66 :: T 67 :: T 68 :: T 69 :: T 70 :: T 71 :: T 72 :: T 73 :: T 74 :: T 75 :: T 76 :: T 77 :: T 78 :: T 79 :: T 80 :: T 81 :: T 82 :: T 83 :: T 84 :: T 85 :: T 86 :: T 87 :: T 88 :: T 89 :: T 90 :: T 91 :: fv :: T 93 :: T 94 :: T 95 :: T 96 :: T 97 :: T 98 :: T 99 :: T 100 :: T 101 :: T 102 :: T 103 :: T 104 :: T 105 :: T 106 :: T 107 :: T 108 :: T 109 :: T 110 :: T 111 :: T 112 :: T 113 :: T 114 :: T 115 :: T 116 :: T 117 :: T 118 :: T 119 :: T 120 :: T 121 :: T 122 :: T 123 :: T 124 :: T 125 :: T 126 :: T 127 :: T 128 :: T 129 :: T 130 :: T 131 :: T 132 :: T 133 :: T 134 :: T 135 :: T 136 :: T 137 :: T 138 :: T 139 :: T 140 :: T 141 :: T 142 :: T 143 :: T 144 :: T 145 :: T 146 :: T 147 :: T 148 :: T 149 :: T 150 :: T 151 :: T 152 :: T 153 :: T 154 :: T 155 :: T 156 :: T 157 :: T 158 :: T 159 :: T 160 :: []), defers := ds }
theorem rG_of {va : Option Addr} {np vc lb rc gb i : Nat} {sb wb nb : Nat} {fv : Value} {ds : List Deferred} (L : List Value) (h : L = nthV L 0 :: (.slice va np vc) :: nthV L 2 :: nthV L 3 :: nthV L 4 :: (.pointer (some ⟨lb, 0, none⟩)) :: (.pointer (some ⟨rc, 0, none⟩)) :: (.pointer (some ⟨gb, 0, none⟩)) :: (.bool true) :: (.int .i64 (i : Int)) :: nthV L 10 :: nthV L 11 :: (.pointer (some ⟨sb, 0, none⟩)) :: (.pointer (some ⟨wb, 0, none⟩)) :: (.pointer (some ⟨nb, 0, none⟩)) :: nthV L 15 :: nthV L 16 :: nthV L 17 :: nthV L 18 :: nthV L 19 :: nthV L 20 :: nthV L 21 :: nthV L 22 :: nthV L 23 :: nthV L 24 :: nthV L 25 :: nthV L 26 :: nthV L 27 :: nthV L 28 :: nthV L 29 :: nthV L 30 :: nthV L 31 :: nthV L 32 :: nthV L 33 :: nthV L 34 :: nthV L 35 :: nthV L 36 :: nthV L 37 :: nthV L 38 :: nthV L 39 :: nthV L 40 :: nthV L 41 :: nthV L 42 :: nthV L 43 :: nthV L 44 :: nthV L 45 :: nthV L 46 :: nthV L 47 :: nthV L 48 :: nthV L 49 :: nthV L 50 :: nthV L 51 :: nthV L 52 :: nthV L 53 :: nthV L 54 :: nthV L 55 :: nthV L 56 :: nthV L 57 :: nthV L 58 :: nthV L 59 :: nthV L 60 :: nthV L 61 :: nthV L 62 :: nthV L 63 :: nthV L 64 :: nthV L 65 :: nthV L 66 :: nthV L 67 :: nthV L 68 :: nthV L 69 :: nthV L 70 :: nthV L 71 :: nthV L 72 :: nthV L 73 :: nthV L 74 :: nthV L 75 :: nthV L 76 :: nthV L 77 :: nthV L 78 :: nthV L 79 :: nthV L 80 :: nthV L 81 :: nthV L 82 :: nthV L 83 :: nthV L 84 :: nthV L 85 :: nthV L 86 :: nthV L 87 :: nthV L 88 :: nthV L 89 :: nthV L 90 :: nthV L 91 :: fv :: nthV L 93 :: nthV L 94 :: nthV L 95 :: nthV L 96 :: nthV L 97 :: nthV L 98 :: nthV L 99 :: nthV L 100 :: nthV L 101 :: nthV L 102 :: nthV L 103 :: nthV L 104 :: nthV L 105 :: nthV L 106 :: nthV L 107 :: nthV L 108 :: nthV L 109 :: nthV L 110 :: nthV L 111 :: nthV L 112 :: nthV L 113 :: nthV L 114 :: nthV L 115 :: nthV L 116 :: nthV L 117 :: nthV L 118 :: nthV L 119 :: nthV L 120 :: nthV L 121 :: nthV L 122 :: nthV L 123 :: nthV L 124 :: nthV L 125 :: nthV L 126 :: nthV L 127 :: nthV L 128 :: nthV L 129 :: nthV L 130 :: nthV L 131 :: nthV L 132 :: nthV L 133 :: nthV L 134 :: nthV L 135 :: nthV L 136 :: nthV L 137 :: nthV L 138 :: nthV L 139 :: nthV L 140 :: nthV L 141 :: nthV L 142 :: nthV L 143 :: nthV L 144 :: nthV L 145 :: nthV L 146 :: nthV L 147 :: nthV L 148 :: nthV L 149 :: nthV L 150 :: nthV L 151 :: nthV L 152 :: nthV L 153 :: nthV L 154 :: nthV L 155 :: nthV L 156 :: nthV L 157 :: nthV L 158 :: nthV L 159 :: nthV L 160 :: []) : RG va np vc lb rc gb i sb wb nb fv ds { tmps := L.toArray, defers := ds } := ⟨fun k => nthV L k, by rw [← h]⟩
def RH (va : Option Addr) (np vc lb rc gb i : Nat) (sb wb nb : Nat) (fv : Value) (ds : List Deferred) (a : Act) : Prop := ∃ T : Nat → Value, a = { tmps := List.toArray (T 0 :: (.slice va np vc) :: T 2 :: T 3 :: T 4 :: (.pointer (some ⟨lb, 0, none⟩)) :: (.pointer (some ⟨rc, 0, none⟩)) :: (.pointer (some ⟨gb, 0, none⟩)) :: (.bool true) :: (.int .i64 (i : Int)) :: T 10 :: T 11 :: (.pointer (some ⟨sb, 0, none⟩)) :: (.pointer (some ⟨wb, 0, none⟩)) :: (.pointer (some ⟨nb, 0, none⟩)) :: T 15 :: T 16 :: T 17 :: T 18 :: T 19 :: T 20 :: T 21 :: T 22 :: T 23 :: T 24 :: T 25 :: T 26 :: T 27 :: T 28 :: T 29 :: T 30 :: T 31 :: T 32 :: T 33 :: T 34 :: T 35 :: T 36 :: T 37 :: T 38 :: T 39 :: T 40 :: T 41 :: T 42 :: T 43 :: T 44 :: T 45 :: T 46 :: T 47 :: T 48 :: T 49 :: T 50 :: T 51 :: T 52 :: T 53 :: T 54 :: T 55 :: T 56 :: T 57 :: T 58 :: T 59 :: T 60 :: T 61 :: T 62 :: T 63 :: T 64 :: T 65 :: T 66 :: T 67 :: T 68 :: T 69 :: T 70 :: T 71 :: T 72 :: T 73 :: T 74 :: T 75 :: T 76 :: T 77 :: T 78 :: T 79 :: T 80 :: T 81 :: T 82 :: T 83 :: T 84 :: T 85 :: T 86 :: T 87 :: T 88 :: T 89 :: T 90 :: T 91 :: T 92 :: T 93 :: T 94 :: T 95 :: T 96 :: T 97 :: T 98 :: T 99 :: T 100 :: T 101 :: T 102 :: T 103 :: T 104 :: T 105 :: T 106 :: T 107 :: T 108 :: T 109 :: T 110 :: T 111 :: T 112 :: T 113 :: T 114 :: T 115 :: T 116 :: T 117 :: T 118 :: T 119 :: fv :: T 121 :: T 122 :: T 123 :: T 124 :: T 125 :: T 126 :: T 127 :: T 128 :: T 129 :: T 130 :: T 131 :: T 132 :: T 133 :: T 134 :: T 135 :: T 136 :: T 137 :: T 138 :: T 139 :: T 140 :: T 141 :: T 142 :: T 143 :: T 144 :: T 145 :: T 146 :: T 147 :: T 148 :: T 149 :: T 150 :: T 151 :: T 152 :: T 153 :: T 154 :: T 155 :: T 156 :: T 157 :: T 158 :: T 159 :: T 160 :: []), defers := ds }
theorem rH_of {va : Option Addr} {np vc lb rc gb i : Nat} {sb wb nb : Nat} {fv : Value} {ds : List Deferred} (L : List Value) (h : L = nthV L 0 :: (.slice va np vc) :: nthV L 2 :: nthV L 3 :: nthV L 4 :: (.pointer (some ⟨lb, 0, none⟩)) :: (.pointer (some ⟨rc, 0, none⟩)) :: (.pointer (some ⟨gb, 0, none⟩)) :: (.bool true) :: (.int .i64 (i : Int)) :: nthV L 10 :: nthV L 11 :: (.pointer (some ⟨sb, 0, none⟩)) :: (.pointer (some ⟨wb, 0, none⟩)) :: (.pointer (some ⟨nb, 0, none⟩)) :: nthV L 15 :: nthV L 16 :: nthV L 17 :: nthV L 18 :: nthV L 19 :: nthV L 20 :: nthV L 21 :: nthV L 22 :: nthV L 23 :: nthV L 24 :: nthV L 25 :: nthV L 26 :: nthV L 27 :: nthV L 28 :: nthV L 29 :: nthV L 30 :: nthV L 31 :: nthV L 32 :: nthV L 33 :: nthV L 34 :: nthV L 35 :: nthV L 36 :: nthV L 37 :: nthV L 38 :: nthV L 39 :: nthV L 40 :: nthV L 41 :: nthV L 42 :: nthV L 43 :: nthV L 44 :: nthV L 45 :: nthV L 46 :: nthV L 47 :: nthV L 48 :: nthV L 49 :: nthV L 50 :: nthV L 51 :: nthV L 52 :: nthV L 53 :: nthV L 54 :: nthV L 55 :: nthV L 56 :: nthV L 57 :: nthV L 58 :: nthV L 59 :: nthV L 60 :: nthV L 61 :: nthV L 62 :: nthV L 63 :: nthV L 64 :: nthV L 65 :: nthV L 66 :: nthV L 67 :: nthV L 68 :: nthV L 69 :: nthV L 70 :: nthV L 71 :: nthV L 72 :: nthV L 73 :: nthV L 74 :: nthV L 75 :: nthV L 76 :: nthV L 77 :: nthV L 78 :: nthV L 79 :: nthV L 80 :: nthV L 81 :: nthV L 82 :: nthV L 83 :: nthV L 84 :: nthV L 85 :: nthV L 86 :: nthV L 87 :: nthV L 88 :: nthV L 89 :: nthV L 90 :: nthV L 91 :: nthV L 92 :: nthV L 93 :: nthV L 94 :: nthV L 95 :: nthV L 96 :: nthV L 97 :: nthV L 98 :: nthV L 99 :: nthV L 100 :: nthV L 101 :: nthV L 102 :: nthV L 103 :: nthV L 104 :: nthV L 105 :: nthV L 106 :: nthV L 107 :: nthV L 108 :: nthV L 109 :: nthV L 110 :: nthV L 111 :: nthV L 112 :: nthV L 113 :: nthV L 114 :: nthV L 115 :: nthV L 116 :: nthV L 117 :: nthV L 118 :: nthV L 119 :: fv :: nthV L 121 :: nthV L 122 :: nthV L 123 :: nthV L 124 :: nthV L 125 :: nthV L 126 :: nthV L 127 :: nthV L 128 :: nthV L 129 :: nthV L 130 :: nthV L 131 :: nthV L 132 :: nthV L 133 :: nthV L 134 :: nthV L 135 :: nthV L 136 :: nthV L 137 :: nthV L 138 :: nthV L 139 :: nthV L 140 :: nthV L 141 :: nthV L 142 :: nthV L 143 :: nthV L 144 :: nthV L 145 :: nthV L 146 :: nthV L 147 :: nthV L 148 :: nthV L 149 :: nthV L 150 :: nthV L 151 :: nthV L 152 :: nthV L 153 :: nthV L 154 :: nthV L 155 :: nthV L 156 :: nthV L 157 :: nthV L 158 :: nthV L 159 :: nthV L 160 :: []) : RH va np vc lb rc gb i sb wb nb fv ds { tmps := L.toArray, defers := ds } := ⟨fun k => nthV L k, by rw [← h]⟩
theorem fnil_R (f : Nat) (bs : Array Value) (w : World) : (binOp .eql 35 (.func (.func f) #[] bs) .nilFunc).run Try.prog w = .ok (.bool false) w := by
  have h : ∀ d : Nat, (Op.equalIn (d + 1) 35 (.func (.func f) #[] bs) .nilFunc).run Try.prog w = .ok false w := fun d => by
    simp [Op.equalIn, run_underlying Try.underlying35]
  simp only [binOp]
  simp [Op.equal, Op.maxDepth, h 9999]
theorem inBlock_two {X : Exit → Act → World → Prop} {id : Nat} {e : Exit} {a : Act} {w : World} (he : e = .normal ∨ e = .exit id) (h : X .normal a w) : Exit.inBlock id X e a w := by
  rcases he with rfl | rfl
  · exact h
  · simpa [Exit.inBlock] using h
/-- A range was left. -/
def RnX (w7 : World) (nb : Nat) (lv : Int) (c : Code) (T : Nat → Prop) (_ : List (Nat × Nat)) (W : World) : Prop := c = .exit 2 ∧ (∀ k, T k → w7.heap.size ≤ k) ∧ ∃ q : Nat, (q : Int) = lv ∧ KeptBut nb w7 W ∧ W.heap[nb]? = some (.cells #[.int .i64 (q : Int)] 3 (0, 0))
theorem RnX.stable {w7 : World} {nb : Nat} {lv : Int} (hk : nb < w7.heap.size) (c : Code) : StableW (RnX w7 nb lv c) := by
  rintro T T' s A A' ⟨g0, g1, q, hq, g2, g3⟩ hs
  have hn : ∀ k, k < w7.heap.size → ¬ T k := fun k hk h => by have := g1 k h; omega
  refine ⟨g0, fun k hk => ?_, q, hq, ⟨hs.1.trans g2.1, hs.2.1.trans g2.2.1, hs.2.2.1.trans g2.2.2.1, Nat.le_trans g2.2.2.2.1 hs.2.2.2.1, fun k h1 h2 => (hs.2.2.2.2.1 k (Nat.lt_of_lt_of_le h1 g2.2.2.2.1) (hn k h1)).trans (g2.2.2.2.2 k h1 h2)⟩, (hs.2.2.2.2.1 nb (Nat.lt_of_lt_of_le hk g2.2.2.2.1) (hn nb hk)).trans g3⟩
  rcases hs.2.2.2.2.2 k hk with h | h
  · exact g1 k h
  · exact Nat.le_trans g2.2.2.2.1 h.1
/-- Between two rounds of the loop. -/
def RO (va : Option Addr) (np vc lb rc gb : Nat) (w1 : World) (a' : Act) (w' : World) : Prop :=
  ∃ (i : Nat) (Ds : List Nat), RF va np vc lb rc gb i (marksR Ds) a' ∧ i ≤ np ∧ Hid (Kept w1 w') ∧ Hid (Ds.Nodup ∧ ∀ D, D ∈ Ds → w1.heap.size ≤ D ∧ w'.heap[D]? = some (.deferred (some [])))
/-- What stays while a pair's ranges are gone through. -/
structure RSt (R : Nat → Prop) (N : Nat → Nd) (B a b ab bb pb mb n rb sb wb lb L gc : Nat) (ga : Option Addr) (lv : Int) (xs : List (Nat × Nat)) (w : World) : Prop where
  fo : Forest R N B w
  hB : B ≤ w.heap.size
  hp : PBox w a b ab bb pb mb n (pairF (numL N (lvs N a)) (numL N (lvs N b)))
  hr : RBox w rb ab bb pb
  sq : w.cell? ⟨sb, 0, none⟩ = some (.func (.func 35) #[] #[.pointer (some ⟨rb, 0, none⟩)])
  wt : w.cell? ⟨wb, 0, none⟩ = some (.slice ga L gc)
  hl : w.cell? ⟨lb, 0, none⟩ = some (.int .i64 lv)
  hx : ∀ (k : Nat) (x : Nat × Nat), xs[k]? = some x → ∃ g, ga = some ⟨g, 0, none⟩ ∧ w.cell? ⟨g, k * 2, none⟩ = some (.int .i64 (x.1 : Int)) ∧ w.cell? ⟨g, k * 2 + 1, none⟩ = some (.int .i64 (x.2 : Int))
theorem RSt.keep {R : Nat → Prop} {N : Nat → Nd} {B a b ab bb pb mb n rb sb wb lb L gc : Nat} {ga : Option Addr} {lv : Int} {xs : List (Nat × Nat)} {w w' : World} (h : RSt R N B a b ab bb pb mb n rb sb wb lb L gc ga lv xs w) (hk : Kept w w') : RSt R N B a b ab bb pb mb n rb sb wb lb L gc ga lv xs w' := by
  have hlt := h.hp.lt
  have hr := (Array.getElem?_eq_some_iff.1 h.hr).1
  refine ⟨h.fo.kb (hk.kb h.hB), Nat.le_trans h.hB hk.size, h.hp.kx (B := 0) ⟨hk.size, fun k hk' => hk.2.2.2.2 k (by rcases hk' with h | rfl | rfl | rfl | rfl <;> omega)⟩, (hk.2.2.2.2 rb hr).trans h.hr, grown_cell hk h.sq, grown_cell hk h.wt, grown_cell hk h.hl, fun k x hx => ?_⟩
  obtain ⟨g, e, h1, h2⟩ := h.hx k x hx
  exact ⟨g, e, grown_cell hk h1, grown_cell hk h2⟩
set_option linter.unusedSimpArgs false in
set_option maxRecDepth 100000 in
set_option maxHeartbeats 8000000 in
theorem lawRanges (v0 v1 : Value) (lv : Int) (ps : List (Int × Int)) (w : World) (hGr : ∀ W, Kept w W → Calls Try.prog 7 #[v0] W (GroveOut W)) (h1 : PairsIn w v1 ps) :
    Calls Try.prog 3 #[v0, v1, .int .i64 lv] w fun e w' => e = .returned (.bool true) ∧ Kept w w' := by
  obtain ⟨np, hnp⟩ : ∃ n, ps.length = n := ⟨_, rfl⟩
  obtain ⟨pa, pc, rfl, hp1, hp2⟩ : ∃ a c, v1 = .slice a np c ∧ np ≤ c ∧ np ≤ 17592186044416 := by
    obtain ⟨a, c, h2, h3, h4, _⟩ := h1
    rw [hnp] at h2 h3 h4
    exact ⟨a, c, h2, h3, h4⟩
  have HPS := hide1 h1
  have HNP := hide1 hnp
  have HGR := hide1 hGr
  have hpI : (np : Int) ≤ (pc : Int) := by omega
  have hpI2 : (np : Int) ≤ 17592186044416 := by omega
  clear h1 hnp hGr hp1 hp2
  refine (callsIn_wide (n := 9)).1 ?_
  refine callsIn_of_wp_marks Try.func3 rfl trivial ?_ rfl
  simp only [Try.ntmps3, List.size_toArray, List.length_cons, List.length_nil, Nat.reduceAdd, Nat.reduceSub, Array.replicate_succ, Array.replicate_zero, List.push_toArray, List.append_toArray, List.nil_append, List.cons_append]
  refine (wpIn_wide (n := 9)).2 ?_
  obtain ⟨w0, hw0⟩ : ∃ w0, (w.alloc (.cells #[.int .i64 lv] 3)).alloc (.cells #[.bool false] 4) = w0 := ⟨_, rfl⟩
  have HK0 : Hid (Kept w w0) := by rw [← hw0]; exact ((Kept.refl w).alloc _ _).alloc _ _
  have HW0 := hide1 hw0
  have HB0 : Hid (w0.heap[w.heap.size]? = some (.cells #[.int .i64 lv] 3 (0, 0)) ∧ w0.heap[w.heap.size + 1]? = some (.cells #[.bool false] 4 (0, 0))) := by
    show _ ∧ _
    have z1 : (w.alloc (.cells #[.int .i64 lv] 3)).heap.size = w.heap.size + 1 := by simp
    have a1 := World.alloc_heap_new w (.cells #[.int .i64 lv] 3)
    have a2 := World.alloc_heap_new (w.alloc (.cells #[.int .i64 lv] 3)) (.cells #[.bool false] 4)
    rw [z1, hw0] at a2
    refine ⟨?_, a2⟩
    have k2 : Kept (w.alloc (.cells #[.int .i64 lv] 3)) w0 := by rw [← hw0]; exact (Kept.refl _).alloc _ _
    exact (k2.2.2.2.2 _ (by omega)).trans a1
  clear hw0
  go_wp2_with (go_at_call 7; rw [HW0.out]; refine (HGR.out _ HK0.out).mono ?_; rintro e w1 ⟨gb, base, s, rfl, hI, hk1, hr1, hr2⟩; have HI := hide1 hI; have HK1 := hide1 hk1; clear hI hk1)
  obtain ⟨V, P, Q, N, X, vN, vP, hM, hT, hPi⟩ := HI.out
  obtain ⟨pn, hpn⟩ : ∃ pn, P.length = pn := ⟨_, rfl⟩
  have hqn : Q.length = pn := by rw [← hT.1]; exact hpn
  obtain ⟨aN, cN, rfl⟩ : ∃ a c, vN = .slice a pn c := by rw [← hpn]; exact hM.nl.form
  obtain ⟨aP, cP, rfl⟩ : ∃ a c, vP = .slice a pn c := by rw [← hqn]; exact hM.pl.form
  rw [hpn] at hM hPi
  have HM := hide1 hM
  have HT := hide1 hT
  have HPN := hide1 hpn
  have HQN := hide1 hqn
  have hpnI : (pn : Int) ≤ 200 := by omega
  have HGX : Hid (∀ W, Kept w1 W → W.cell? ⟨gb, 1, none⟩ = some (.slice aN pn cN) ∧ W.cell? ⟨gb, 2, none⟩ = some (.slice aP pn cP)) := fun W hW => by
    have h9 := (HM.out.keep hW).box
    exact ⟨by simp [World.cell?, h9], by simp [World.cell?, h9]⟩
  have HK01 : Hid (Kept w w1) := gtrans HK0.out HK1.out
  have HPX : Hid (∀ W, Kept w1 W → PairsIn W (.slice pa np pc) ps) := fun W hW => HPS.out.keep (gtrans HK01.out hW)
  obtain ⟨lb, hlb⟩ : ∃ lb, w.heap.size = lb := ⟨_, rfl⟩
  obtain ⟨rc, hrc⟩ : ∃ rc, lb + 1 = rc := ⟨_, rfl⟩
  have HLB : Hid (w1.heap[lb]? = some (.cells #[.int .i64 lv] 3 (0, 0)) ∧ w1.heap[rc]? = some (.cells #[.bool false] 4 (0, 0))) := by
    show _ ∧ _
    have h0 := HB0.out
    rw [hlb, hrc] at h0
    exact ⟨(HK1.out.2.2.2.2 _ (Array.getElem?_eq_some_iff.1 h0.1).1).trans h0.1, (HK1.out.2.2.2.2 _ (Array.getElem?_eq_some_iff.1 h0.2).1).trans h0.2⟩
  have HLE : Hid (w.heap.size = lb ∧ lb + 1 = rc ∧ rc < w1.heap.size) := ⟨hlb, hrc, (Array.getElem?_eq_some_iff.1 HLB.out.2).1⟩
  rw [hlb, hrc]
  clear hM hT hpn hqn HI HGR hlb hrc hr1 hr2 hPi HB0 HW0
  refine wp_loop (RO pa np pc lb rc gb w1) (fun a' _ => np - (intOf (a'.tmps.getD 9 undef)).toNat) ?_ ?_
  · exact ⟨0, [], rF_of _ (by kernel_rfl), Nat.zero_le _, Kept.refl w1, List.nodup_nil, fun D hD => by simp at hD⟩
  · rintro a' wr ⟨i, Ds, ⟨T, rfl⟩, hi, HKR, HDS⟩
    obtain ⟨y1, y2⟩ := HGX.out wr HKR.out
    by_cases hgo : i < np ∧ 0 < pn
    · obtain ⟨hi1, hp1⟩ := hgo
      obtain ⟨x, hx⟩ : ∃ x, ps[i]? = some x := ⟨_, List.getElem?_eq_getElem (by rw [HNP.out]; exact hi1)⟩
      obtain ⟨pg, po, rfl, t0, t1⟩ := (HPX.out wr HKR.out).at' hx
      obtain ⟨x0, x1⟩ := x
      dsimp only at t0 t1
      have HV0 : Hid (∀ W, Calls Try.prog 8 #[.int .i64 x0, .int .i64 (pn : Int)] W fun e w' => e = .returned (.int .i64 (wiN x0 pn : Int)) ∧ w' = W) := fun W => withinD_is x0 pn W hp1 (by omega)
      have HV1 : Hid (∀ W, Calls Try.prog 8 #[.int .i64 x1, .int .i64 (pn : Int)] W fun e w' => e = .returned (.int .i64 (wiN x1 pn : Int)) ∧ w' = W) := fun W => withinD_is x1 pn W hp1 (by omega)
      have hra := wiN_lt x0 hp1
      have hrb := wiN_lt x1 hp1
      obtain ⟨ra, hra2⟩ : ∃ r, wiN x0 pn = r := ⟨_, rfl⟩
      obtain ⟨r9, hrb2⟩ : ∃ r, wiN x1 pn = r := ⟨_, rfl⟩
      rw [hra2] at HV0 hra
      rw [hrb2] at HV1 hrb
      have hi1I : (i : Int) < (np : Int) := by omega
      have hp1I : (0 : Int) < (pn : Int) := by omega
      have hraI : (ra : Int) < (pn : Int) := by omega
      have hrbI : (r9 : Int) < (pn : Int) := by omega
      clear hx hra2 hrb2
      go_upto_region 5 with fail
      go_quiet ((go_at_call 8; exact Calls.quiet_of_same (HV0.out _)))
      obtain ⟨wq, hwq⟩ : ∃ wq, wr.drewN nq = wq := ⟨_, rfl⟩
      have hkq : Kept wr wq := by rw [← hwq]; exact drewN_kept _ _
      rw [hwq]
      have y1' := grown_cell hkq y1
      have t1' := grown_cell hkq t1
      have HKQ := hide1 (gtrans HKR.out hkq)
      have HKq := hide1 hkq
      clear hwq y1 y2 t0 t1 hkq nq
      go_upto_region 6 with fail
      go_quiet ((go_at_call 8; exact Calls.quiet_of_same (HV1.out _)))
      obtain ⟨wz, hwz⟩ : ∃ wz, wq.drewN nq = wz := ⟨_, rfl⟩
      have hkz : Kept wq wz := by rw [← hwz]; exact drewN_kept _ _
      rw [hwz]
      have hk1z := gtrans HKQ.out hkz
      have HKrz : Hid (Kept wr wz) := gtrans HKq.out hkz
      clear hwz y1' t1' hkz nq HKQ
      obtain ⟨y1, y2⟩ := HGX.out wz hk1z
      obtain ⟨a, ha⟩ : ∃ b, P[ra]? = some b := ⟨_, List.getElem?_eq_getElem (by rw [HPN.out]; exact hra)⟩
      obtain ⟨b, hb⟩ : ∃ b, P[r9]? = some b := ⟨_, List.getElem?_eq_getElem (by rw [HPN.out]; exact hrb)⟩
      obtain ⟨da, hda⟩ : ∃ b, Q[ra]? = some b := ⟨_, List.getElem?_eq_getElem (by rw [HQN.out]; exact hra)⟩
      obtain ⟨db, hdb⟩ : ∃ b, Q[r9]? = some b := ⟨_, List.getElem?_eq_getElem (by rw [HQN.out]; exact hrb)⟩
      have hMz := HM.out.keep hk1z
      obtain ⟨gN, gP, rfl, rfl, u1, u2⟩ := gr_read hMz ha hda
      obtain ⟨gN', gP', hgN', hgP', u3, u4⟩ := gr_read hMz hb hdb
      injection hgN' with hgN'
      injection hgN' with hgN'
      injection hgP' with hgP'
      injection hgP' with hgP'
      subst hgN' hgP'
      obtain ⟨xs, hxs⟩ : ∃ xs, spansL N a b = xs := ⟨_, rfl⟩
      have HRA : Hid (∀ W, Kept wz W → Calls Try.prog 9 #[.pointer (some ⟨a, 0, none⟩), .pointer (some ⟨b, 0, none⟩)] W (RgOut N a b W)) := fun W hW => rangesD_is (fun b => b ∈ P) N W.heap.size a b W (gr_forest (hMz.keep hW) HT.out) (gr_num HT.out (by rw [HPN.out]; omega)) (List.mem_of_getElem? ha) (List.mem_of_getElem? hb) (Nat.le_refl _)
      have HRP : Hid (∀ W, Kept wz W → Calls Try.prog 10 #[.pointer (some ⟨da, 0, none⟩), .pointer (some ⟨db, 0, none⟩)] W fun e w' => ∃ v, e = .returned v ∧ LO spE w' W.heap.size v xs ∧ Kept W w') := fun W hW => by
        have hMW := hMz.keep hW
        have h9 := tw_spans hMW HT.out (i := ra) (j := r9) (by rw [HPN.out]; exact hra) (by rw [HPN.out]; exact hrb)
        rw [atL_some ha, atL_some hb, atL_some hda, atL_some hdb, hxs] at h9
        have h := rangesP_is (fun d => d ∈ Q) X (rkX X) da db W (gr_pfor hMW HT.out) (tw_lens hMW HT.out) (List.mem_of_getElem? hda) (List.mem_of_getElem? hdb)
        rw [h9] at h
        exact h
      have HFO : Hid (Forest (fun b => b ∈ P) N wz.heap.size wz ∧ LeafSum N (fun b => b ∈ P) ∧ NumOk (fun b => b ∈ P) N ∧ a ∈ P ∧ b ∈ P) := ⟨gr_forest hMz HT.out, gr_sum HT.out, gr_num HT.out (by rw [HPN.out]; omega), List.mem_of_getElem? ha, List.mem_of_getElem? hb⟩
      have HXS := hide1 hxs
      have k1 := kcell y1
      have k2 := kcell y2
      have kA := kcell u1
      have kB := kcell u3
      have kC := kcell u2
      have kD := kcell u4
      have HKZ := hide1 hk1z
      clear hMz ha hb hda hdb hxs hk1z y1 y2 u1 u2 u3 u4
      go_upto_region 7 with fail
      refine Code.wp_mono (Q := fun e a' w' => e = .normal ∧ ∃ ab bb pb mb n rb sb, RM (some ⟨pg, po, none⟩) np pc lb rc gb i ra r9 sb (marksR Ds) a' ∧ Hid (PBox w' a b ab bb pb mb n (pairF (numL N (lvs N a)) (numL N (lvs N b))) ∧ RBox w' rb ab bb pb ∧ w'.cell? ⟨sb, 0, none⟩ = some (.func (.func 35) #[] #[.pointer (some ⟨rb, 0, none⟩)]) ∧ Kept wz w')) ?_ ?_
      rotate_left
      · refine wp_region_held_drew (S := fun X => Kept wz X) (by kernel_rfl) (drew_kept _) (fun hHeld => ?_)
        refine wpAnyH_take (i := 0) (v := (.pointer (some ⟨gb, 0, none⟩))) rfl (by kernel_rfl) (by kernel_rfl) (by kernel_rfl) (fun _ _ _ h => nomatch h.1) (Or.inl ⟨by rfl, fun w' hSw => ?_⟩) (by with_reducible assumption) ?_
        · clear hSw
          go_simp
        try simp only [Act.put, List.setIfInBounds_toArray, List.set_cons_zero, List.set_cons_succ]
        refine wpAnyH_take (i := 1) (v := (.pointer (some ⟨gb, 0, none⟩))) rfl (by kernel_rfl) (by kernel_rfl) (by kernel_rfl) (fun _ _ _ h => nomatch h.1) (Or.inl ⟨by rfl, fun w' hSw => ?_⟩) (by with_reducible assumption) ?_
        · clear hSw
          go_simp
        try simp only [Act.put, List.setIfInBounds_toArray, List.set_cons_zero, List.set_cons_succ]
        refine wpAnyH_take (i := 2) (v := .pointer (some ⟨gb, 1, none⟩)) rfl (by kernel_rfl) (by kernel_rfl) (by kernel_rfl) (fun _ _ _ h => nomatch h.1) (Or.inl ⟨by rfl, fun w' hSw => ?_⟩) (by with_reducible assumption) ?_
        · clear hSw
          go_simp
        try simp only [Act.put, List.setIfInBounds_toArray, List.set_cons_zero, List.set_cons_succ]
        refine wpAnyH_take (i := 3) (v := .slice (some ⟨gN, 0, none⟩) pn cN) rfl (by kernel_rfl) (by kernel_rfl) (by kernel_rfl) (fun _ _ _ h => nomatch h.1) (Or.inl ⟨by rfl, fun w' hSw => ?_⟩) (by with_reducible assumption) ?_
        · have t1 := k1 w' hSw
          go_simp
        try simp only [Act.put, List.setIfInBounds_toArray, List.set_cons_zero, List.set_cons_succ]
        refine wpAnyH_take (i := 4) (v := .int .i64 (ra : Int)) rfl (by kernel_rfl) (by kernel_rfl) (by kernel_rfl) (fun _ _ _ h => nomatch h.1) (Or.inl ⟨by rfl, fun w' hSw => ?_⟩) (by with_reducible assumption) ?_
        · clear hSw
          go_simp
        try simp only [Act.put, List.setIfInBounds_toArray, List.set_cons_zero, List.set_cons_succ]
        refine wpAnyH_take (i := 5) (v := .pointer (some ⟨gN, ra, none⟩)) rfl (by kernel_rfl) (by kernel_rfl) (by kernel_rfl) (fun _ _ _ h => nomatch h.1) (Or.inl ⟨by rfl, fun w' hSw => ?_⟩) (by with_reducible assumption) ?_
        · clear hSw
          go_simp
        try simp only [Act.put, List.setIfInBounds_toArray, List.set_cons_zero, List.set_cons_succ]
        refine wpAnyH_take (i := 6) (v := (.pointer (some ⟨a, 0, none⟩))) rfl (by kernel_rfl) (by kernel_rfl) (by kernel_rfl) (fun _ _ _ h => nomatch h.1) (Or.inl ⟨by rfl, fun w' hSw => ?_⟩) (by with_reducible assumption) ?_
        · have tA := kA w' hSw
          go_simp
        try simp only [Act.put, List.setIfInBounds_toArray, List.set_cons_zero, List.set_cons_succ]
        refine wpAnyH_take (i := 7) (v := (.pointer (some ⟨gb, 0, none⟩))) rfl (by kernel_rfl) (by kernel_rfl) (by kernel_rfl) (fun _ _ _ h => nomatch h.1) (Or.inl ⟨by rfl, fun w' hSw => ?_⟩) (by with_reducible assumption) ?_
        · clear hSw
          go_simp
        try simp only [Act.put, List.setIfInBounds_toArray, List.set_cons_zero, List.set_cons_succ]
        refine wpAnyH_take (i := 8) (v := (.pointer (some ⟨gb, 0, none⟩))) rfl (by kernel_rfl) (by kernel_rfl) (by kernel_rfl) (fun _ _ _ h => nomatch h.1) (Or.inl ⟨by rfl, fun w' hSw => ?_⟩) (by with_reducible assumption) ?_
        · clear hSw
          go_simp
        try simp only [Act.put, List.setIfInBounds_toArray, List.set_cons_zero, List.set_cons_succ]
        refine wpAnyH_take (i := 9) (v := .pointer (some ⟨gb, 1, none⟩)) rfl (by kernel_rfl) (by kernel_rfl) (by kernel_rfl) (fun _ _ _ h => nomatch h.1) (Or.inl ⟨by rfl, fun w' hSw => ?_⟩) (by with_reducible assumption) ?_
        · clear hSw
          go_simp
        try simp only [Act.put, List.setIfInBounds_toArray, List.set_cons_zero, List.set_cons_succ]
        refine wpAnyH_take (i := 10) (v := .slice (some ⟨gN, 0, none⟩) pn cN) rfl (by kernel_rfl) (by kernel_rfl) (by kernel_rfl) (fun _ _ _ h => nomatch h.1) (Or.inl ⟨by rfl, fun w' hSw => ?_⟩) (by with_reducible assumption) ?_
        · have t1 := k1 w' hSw
          go_simp
        try simp only [Act.put, List.setIfInBounds_toArray, List.set_cons_zero, List.set_cons_succ]
        refine wpAnyH_take (i := 11) (v := .int .i64 (r9 : Int)) rfl (by kernel_rfl) (by kernel_rfl) (by kernel_rfl) (fun _ _ _ h => nomatch h.1) (Or.inl ⟨by rfl, fun w' hSw => ?_⟩) (by with_reducible assumption) ?_
        · clear hSw
          go_simp
        try simp only [Act.put, List.setIfInBounds_toArray, List.set_cons_zero, List.set_cons_succ]
        refine wpAnyH_take (i := 12) (v := .pointer (some ⟨gN, r9, none⟩)) rfl (by kernel_rfl) (by kernel_rfl) (by kernel_rfl) (fun _ _ _ h => nomatch h.1) (Or.inl ⟨by rfl, fun w' hSw => ?_⟩) (by with_reducible assumption) ?_
        · clear hSw
          go_simp
        try simp only [Act.put, List.setIfInBounds_toArray, List.set_cons_zero, List.set_cons_succ]
        refine wpAnyH_take (i := 13) (v := (.pointer (some ⟨b, 0, none⟩))) rfl (by kernel_rfl) (by kernel_rfl) (by kernel_rfl) (fun _ _ _ h => nomatch h.1) (Or.inl ⟨by rfl, fun w' hSw => ?_⟩) (by with_reducible assumption) ?_
        · have tB := kB w' hSw
          go_simp
        try simp only [Act.put, List.setIfInBounds_toArray, List.set_cons_zero, List.set_cons_succ]
        refine wpAnyH_ready (rs := [14, 15]) (by kernel_rfl) (by simp) ?_
        refine AllReadyH.cons (i := 14) rfl (fun K hK => ?_) (AllReadyH.cons (i := 15) rfl (fun K hK => ?_) AllReadyH.nil)
        · go_simp
          go_wp2_with (go_at_call 9; refine (HRA.out _ (drew_kept _)).mono ?_; rintro e w5 ⟨ab, bb, pb, mb, n, rb, rfl, hP5, hR5, hk5, h51, h52, h53, h54, h55⟩; have HP5 := hide1 hP5; have HR5 := hide1 hR5; have HKc := hide1 hk5; have HK5 : Hid (Kept wz w5) := gtrans (drew_kept wz) hk5; have HL5 := hide1 (And.intro h51 (And.intro h52 (And.intro h53 (And.intro h54 h55)))); clear hP5 hR5 hk5 h51 h52 h53 h54 h55)
          refine hK.out _ _ HK5.out (fun hHeldc => ?_)
          clear hK K
          try simp only [Act.put, List.setIfInBounds_toArray, List.set_cons_zero, List.set_cons_succ]
          refine wpAnyH_ready (rs := [15]) (by kernel_rfl) (by simp) ?_
          refine AllReadyH.cons (i := 15) rfl (fun K hK => ?_) AllReadyH.nil
          go_simp
          refine hK.out _ _ (gtrans HK5.out ((Kept.refl w5).alloc _ _)) (fun hHelda => ?_)
          clear hK K
          try simp only [Act.put, List.setIfInBounds_toArray, List.set_cons_zero, List.set_cons_succ]
          obtain ⟨m5, z5, l5⟩ := newR_cell w5 .nilFunc 35
          refine wpAnyH_ready (rs := [16]) (by kernel_rfl) (by simp) ?_
          refine AllReadyH.cons (i := 16) rfl (fun K hK => ?_) AllReadyH.nil
          go_simp
          have hka : Kept w5 (w5.alloc (.cells #[(.func (.func 35) #[] #[.pointer (some ⟨rb, 0, none⟩)])] 35)) := (Kept.refl w5).alloc _ _
          refine hK.out _ _ (gtrans HK5.out hka) (fun hHeldb => ?_)
          clear hK K
          try simp only [Act.put, List.setIfInBounds_toArray, List.set_cons_zero, List.set_cons_succ]
          refine wpAnyH_done (by kernel_rfl) ?_ _
          refine ⟨rfl, ab, bb, pb, mb, n, rb, w5.heap.size, rM_of _ (by kernel_rfl), ?_⟩
          have hl5 := HP5.out.lt
          have hr5 := (Array.getElem?_eq_some_iff.1 HR5.out).1
          exact ⟨HP5.out.kx (B := 0) ⟨hka.size, fun k hk => hka.2.2.2.2 k (by rcases hk with h | rfl | rfl | rfl | rfl <;> omega)⟩, (hka.2.2.2.2 rb hr5).trans HR5.out, (newR_cell w5 _ _).1, gtrans HK5.out hka⟩
        · go_simp
          refine hK.out _ _ ((Kept.refl wz).alloc _ _) (fun hHelda => ?_)
          clear hK K
          try simp only [Act.put, List.setIfInBounds_toArray, List.set_cons_zero, List.set_cons_succ]
          obtain ⟨m5', z5', l5'⟩ := newR_cell wz .nilFunc 35
          obtain ⟨wa, hwa⟩ : ∃ wa, (wz.alloc (.cells #[.nilFunc] 35)).drew = wa := ⟨_, rfl⟩
          have HKa : Hid (Kept wz wa) := by rw [← hwa]; exact gtrans ((Kept.refl wz).alloc _ _) (drew_kept _)
          obtain ⟨sb, hsb⟩ : ∃ sb, wz.heap.size = sb := ⟨_, rfl⟩
          rw [hsb] at m5' z5' l5'
          have m5 : wa.cell? ⟨sb, 0, none⟩ = some (.nilFunc) := by rw [← hwa]; exact m5'
          have z5 : wa.frozen? ⟨sb, 0, none⟩ = false := by rw [← hwa]; exact z5'
          have l5 : sb < wa.heap.size := by rw [← hwa]; exact l5'
          have HSB := hide1 hsb
          rw [hwa, hsb]
          clear hwa hsb m5' z5' l5'
          refine wpAnyH_ready (rs := [14]) (by kernel_rfl) (by simp) ?_
          refine AllReadyH.cons (i := 14) rfl (fun K hK => ?_) AllReadyH.nil
          go_simp
          go_wp2_with (go_at_call 9; refine (HRA.out _ HKa.out).mono ?_; rintro e w5 ⟨ab, bb, pb, mb, n, rb, rfl, hP5, hR5, hk5, h51, h52, h53, h54, h55⟩; have HP5 := hide1 hP5; have HR5 := hide1 hR5; have HKc := hide1 hk5; have HK5 : Hid (Kept wz w5) := gtrans HKa.out hk5; have HL5 := hide1 (And.intro h51 (And.intro h52 (And.intro h53 (And.intro h54 h55)))); clear hP5 hR5 hk5 h51 h52 h53 h54 h55)
          have m6 := grown_cell HKc.out m5
          have z6 : w5.frozen? ⟨sb, 0, none⟩ = false := by rw [World.frozen?_of_block (HKc.out.2.2.2.2 sb l5)]; exact z5
          have l6 : sb < w5.heap.size := Nat.lt_of_lt_of_le l5 HKc.out.size
          refine hK.out _ _ HK5.out (fun hHeldc => ?_)
          clear hK K
          try simp only [Act.put, List.setIfInBounds_toArray, List.set_cons_zero, List.set_cons_succ]
          refine wpAnyH_ready (rs := [16]) (by kernel_rfl) (by simp) ?_
          refine AllReadyH.cons (i := 16) rfl (fun K hK => ?_) AllReadyH.nil
          go_simp
          have hkb := setCell_but w5 sb 0 (.func (.func 35) #[] #[.pointer (some ⟨rb, 0, none⟩)])
          have hkn : Kept wz (w5.setCell ⟨sb, 0, none⟩ (.func (.func 35) #[] #[.pointer (some ⟨rb, 0, none⟩)])) := KeptBut.new HK5.out hkb (by rw [HSB.out]; exact Nat.le_refl _)
          refine hK.out _ _ hkn (fun hHeldb => ?_)
          clear hK K
          try simp only [Act.put, List.setIfInBounds_toArray, List.set_cons_zero, List.set_cons_succ]
          refine wpAnyH_done (by kernel_rfl) ?_ _
          refine ⟨rfl, ab, bb, pb, mb, n, rb, sb, rM_of _ (by kernel_rfl), ?_⟩
          obtain ⟨q1, q2, q3, q4, q5⟩ := HL5.out
          have hl5 := HP5.out.lt
          have hr5 := (Array.getElem?_eq_some_iff.1 HR5.out).1
          exact ⟨HP5.out.kx (B := 0) ⟨hkb.2.2.2.1, fun k hk => hkb.2.2.2.2 k (by rcases hk with h | rfl | rfl | rfl | rfl <;> omega) (by rcases hk with h | rfl | rfl | rfl | rfl <;> omega)⟩, (hkb.2.2.2.2 rb hr5 (by omega)).trans HR5.out, World.cell?_setCell_same' _ _ _ (by rw [m6]; rfl), hkn⟩
      rintro e a' w6 ⟨rfl, ab, bb, pb, mb, n, rb, sb, ⟨T, rfl⟩, HS6⟩
      have HK6 : Hid (Kept wz w6) := HS6.out.2.2.2
      have q2 := kcell (k2 w6 HK6.out)
      have qC := kcell (kC w6 HK6.out)
      have qD := kcell (kD w6 HK6.out)
      clear k1 k2 kA kB kC kD HRA
      obtain ⟨L, hL⟩ : ∃ L, xs.length = L := ⟨_, rfl⟩
      have HL := hide1 hL
      clear hL
      go_upto_region 8 with fail
      refine Code.wp_mono (Q := fun e a' w' => e = .normal ∧ ∃ (ga : Option Addr) (gc wb : Nat), RW (some ⟨pg, po, none⟩) np pc lb rc gb i sb wb (marksR Ds) a' ∧ Hid (LO spE w' w6.heap.size (.slice ga L gc) xs ∧ w'.cell? ⟨wb, 0, none⟩ = some (.slice ga L gc) ∧ Kept w6 w')) ?_ ?_
      rotate_left
      · refine wp_region_held_drew (S := fun X => Kept w6 X) (by kernel_rfl) (drew_kept _) (fun hHeld => ?_)
        refine wpAnyH_take (i := 0) (v := (.pointer (some ⟨gb, 0, none⟩))) rfl (by kernel_rfl) (by kernel_rfl) (by kernel_rfl) (fun _ _ _ h => nomatch h.1) (Or.inl ⟨by rfl, fun w' hSw => ?_⟩) (by with_reducible assumption) ?_
        · clear hSw
          go_simp
        try simp only [Act.put, List.setIfInBounds_toArray, List.set_cons_zero, List.set_cons_succ]
        refine wpAnyH_take (i := 1) (v := (.pointer (some ⟨gb, 0, none⟩))) rfl (by kernel_rfl) (by kernel_rfl) (by kernel_rfl) (fun _ _ _ h => nomatch h.1) (Or.inl ⟨by rfl, fun w' hSw => ?_⟩) (by with_reducible assumption) ?_
        · clear hSw
          go_simp
        try simp only [Act.put, List.setIfInBounds_toArray, List.set_cons_zero, List.set_cons_succ]
        refine wpAnyH_take (i := 2) (v := .pointer (some ⟨gb, 2, none⟩)) rfl (by kernel_rfl) (by kernel_rfl) (by kernel_rfl) (fun _ _ _ h => nomatch h.1) (Or.inl ⟨by rfl, fun w' hSw => ?_⟩) (by with_reducible assumption) ?_
        · clear hSw
          go_simp
        try simp only [Act.put, List.setIfInBounds_toArray, List.set_cons_zero, List.set_cons_succ]
        refine wpAnyH_take (i := 3) (v := .slice (some ⟨gP, 0, none⟩) pn cP) rfl (by kernel_rfl) (by kernel_rfl) (by kernel_rfl) (fun _ _ _ h => nomatch h.1) (Or.inl ⟨by rfl, fun w' hSw => ?_⟩) (by with_reducible assumption) ?_
        · have t1 := q2 w' hSw
          go_simp
        try simp only [Act.put, List.setIfInBounds_toArray, List.set_cons_zero, List.set_cons_succ]
        refine wpAnyH_take (i := 4) (v := .int .i64 (ra : Int)) rfl (by kernel_rfl) (by kernel_rfl) (by kernel_rfl) (fun _ _ _ h => nomatch h.1) (Or.inl ⟨by rfl, fun w' hSw => ?_⟩) (by with_reducible assumption) ?_
        · clear hSw
          go_simp
        try simp only [Act.put, List.setIfInBounds_toArray, List.set_cons_zero, List.set_cons_succ]
        refine wpAnyH_take (i := 5) (v := .pointer (some ⟨gP, ra, none⟩)) rfl (by kernel_rfl) (by kernel_rfl) (by kernel_rfl) (fun _ _ _ h => nomatch h.1) (Or.inl ⟨by rfl, fun w' hSw => ?_⟩) (by with_reducible assumption) ?_
        · clear hSw
          go_simp
        try simp only [Act.put, List.setIfInBounds_toArray, List.set_cons_zero, List.set_cons_succ]
        refine wpAnyH_take (i := 6) (v := (.pointer (some ⟨da, 0, none⟩))) rfl (by kernel_rfl) (by kernel_rfl) (by kernel_rfl) (fun _ _ _ h => nomatch h.1) (Or.inl ⟨by rfl, fun w' hSw => ?_⟩) (by with_reducible assumption) ?_
        · have tA := qC w' hSw
          go_simp
        try simp only [Act.put, List.setIfInBounds_toArray, List.set_cons_zero, List.set_cons_succ]
        refine wpAnyH_take (i := 7) (v := (.pointer (some ⟨gb, 0, none⟩))) rfl (by kernel_rfl) (by kernel_rfl) (by kernel_rfl) (fun _ _ _ h => nomatch h.1) (Or.inl ⟨by rfl, fun w' hSw => ?_⟩) (by with_reducible assumption) ?_
        · clear hSw
          go_simp
        try simp only [Act.put, List.setIfInBounds_toArray, List.set_cons_zero, List.set_cons_succ]
        refine wpAnyH_take (i := 8) (v := (.pointer (some ⟨gb, 0, none⟩))) rfl (by kernel_rfl) (by kernel_rfl) (by kernel_rfl) (fun _ _ _ h => nomatch h.1) (Or.inl ⟨by rfl, fun w' hSw => ?_⟩) (by with_reducible assumption) ?_
        · clear hSw
          go_simp
        try simp only [Act.put, List.setIfInBounds_toArray, List.set_cons_zero, List.set_cons_succ]
        refine wpAnyH_take (i := 9) (v := .pointer (some ⟨gb, 2, none⟩)) rfl (by kernel_rfl) (by kernel_rfl) (by kernel_rfl) (fun _ _ _ h => nomatch h.1) (Or.inl ⟨by rfl, fun w' hSw => ?_⟩) (by with_reducible assumption) ?_
        · clear hSw
          go_simp
        try simp only [Act.put, List.setIfInBounds_toArray, List.set_cons_zero, List.set_cons_succ]
        refine wpAnyH_take (i := 10) (v := .slice (some ⟨gP, 0, none⟩) pn cP) rfl (by kernel_rfl) (by kernel_rfl) (by kernel_rfl) (fun _ _ _ h => nomatch h.1) (Or.inl ⟨by rfl, fun w' hSw => ?_⟩) (by with_reducible assumption) ?_
        · have t1 := q2 w' hSw
          go_simp
        try simp only [Act.put, List.setIfInBounds_toArray, List.set_cons_zero, List.set_cons_succ]
        refine wpAnyH_take (i := 11) (v := .int .i64 (r9 : Int)) rfl (by kernel_rfl) (by kernel_rfl) (by kernel_rfl) (fun _ _ _ h => nomatch h.1) (Or.inl ⟨by rfl, fun w' hSw => ?_⟩) (by with_reducible assumption) ?_
        · clear hSw
          go_simp
        try simp only [Act.put, List.setIfInBounds_toArray, List.set_cons_zero, List.set_cons_succ]
        refine wpAnyH_take (i := 12) (v := .pointer (some ⟨gP, r9, none⟩)) rfl (by kernel_rfl) (by kernel_rfl) (by kernel_rfl) (fun _ _ _ h => nomatch h.1) (Or.inl ⟨by rfl, fun w' hSw => ?_⟩) (by with_reducible assumption) ?_
        · clear hSw
          go_simp
        try simp only [Act.put, List.setIfInBounds_toArray, List.set_cons_zero, List.set_cons_succ]
        refine wpAnyH_take (i := 13) (v := (.pointer (some ⟨db, 0, none⟩))) rfl (by kernel_rfl) (by kernel_rfl) (by kernel_rfl) (fun _ _ _ h => nomatch h.1) (Or.inl ⟨by rfl, fun w' hSw => ?_⟩) (by with_reducible assumption) ?_
        · have tB := qD w' hSw
          go_simp
        try simp only [Act.put, List.setIfInBounds_toArray, List.set_cons_zero, List.set_cons_succ]
        refine wpAnyH_ready (rs := [14, 15]) (by kernel_rfl) (by simp) ?_
        refine AllReadyH.cons (i := 14) rfl (fun K hK => ?_) (AllReadyH.cons (i := 15) rfl (fun K hK => ?_) AllReadyH.nil)
        · go_simp
          go_wp2_with (go_at_call 10; refine (HRP.out _ (gtrans HK6.out (drew_kept _))).mono ?_; rintro e w5 ⟨v5, rfl, ho5, hk5⟩; obtain ⟨ga, gc, rfl⟩ := ho5.form; rw [HL.out] at ho5 ⊢; have HO5 := hide1 ho5; have HKc := hide1 hk5; have HK5 : Hid (Kept w6 w5) := gtrans (drew_kept w6) hk5; clear ho5 hk5)
          refine hK.out _ _ HK5.out (fun hHeldc => ?_)
          clear hK K
          try simp only [Act.put, List.setIfInBounds_toArray, List.set_cons_zero, List.set_cons_succ]
          refine wpAnyH_ready (rs := [15]) (by kernel_rfl) (by simp) ?_
          refine AllReadyH.cons (i := 15) rfl (fun K hK => ?_) AllReadyH.nil
          go_simp
          refine hK.out _ _ (gtrans HK5.out ((Kept.refl w5).alloc _ _)) (fun hHelda => ?_)
          clear hK K
          try simp only [Act.put, List.setIfInBounds_toArray, List.set_cons_zero, List.set_cons_succ]
          obtain ⟨m5, z5, l5⟩ := newR_cell w5 (.slice none 0 0) 38
          refine wpAnyH_ready (rs := [16]) (by kernel_rfl) (by simp) ?_
          refine AllReadyH.cons (i := 16) rfl (fun K hK => ?_) AllReadyH.nil
          go_simp
          have hka : Kept w5 (w5.alloc (.cells #[.slice ga L gc] 38)) := (Kept.refl w5).alloc _ _
          refine hK.out _ _ (gtrans HK5.out hka) (fun hHeldb => ?_)
          clear hK K
          try simp only [Act.put, List.setIfInBounds_toArray, List.set_cons_zero, List.set_cons_succ]
          refine wpAnyH_done (by kernel_rfl) ?_ _
          refine ⟨rfl, ga, gc, w5.heap.size, rW_of _ (by kernel_rfl), ?_⟩
          exact ⟨HO5.out.keep hka, (newR_cell w5 _ _).1, gtrans HK5.out hka⟩
        · go_simp
          refine hK.out _ _ ((Kept.refl w6).alloc _ _) (fun hHelda => ?_)
          clear hK K
          try simp only [Act.put, List.setIfInBounds_toArray, List.set_cons_zero, List.set_cons_succ]
          obtain ⟨m5', z5', l5'⟩ := newR_cell w6 (.slice none 0 0) 38
          obtain ⟨wa, hwa⟩ : ∃ wa, (w6.alloc (.cells #[.slice none 0 0] 38)).drew = wa := ⟨_, rfl⟩
          have HKa : Hid (Kept w6 wa) := by rw [← hwa]; exact gtrans ((Kept.refl w6).alloc _ _) (drew_kept _)
          obtain ⟨wb, hsb⟩ : ∃ sb, w6.heap.size = sb := ⟨_, rfl⟩
          rw [hsb] at m5' z5' l5'
          have m5 : wa.cell? ⟨wb, 0, none⟩ = some ((.slice none 0 0)) := by rw [← hwa]; exact m5'
          have z5 : wa.frozen? ⟨wb, 0, none⟩ = false := by rw [← hwa]; exact z5'
          have l5 : wb < wa.heap.size := by rw [← hwa]; exact l5'
          have HSB := hide1 hsb
          rw [hwa, hsb]
          clear hwa hsb m5' z5' l5'
          refine wpAnyH_ready (rs := [14]) (by kernel_rfl) (by simp) ?_
          refine AllReadyH.cons (i := 14) rfl (fun K hK => ?_) AllReadyH.nil
          go_simp
          go_wp2_with (go_at_call 10; refine (HRP.out _ (gtrans HK6.out HKa.out)).mono ?_; rintro e w5 ⟨v5, rfl, ho5, hk5⟩; obtain ⟨ga, gc, rfl⟩ := ho5.form; rw [HL.out] at ho5 ⊢; have HO5 := hide1 ho5; have HKc := hide1 hk5; have HK5 : Hid (Kept w6 w5) := gtrans HKa.out hk5; clear ho5 hk5)
          have m6 := grown_cell HKc.out m5
          have z6 : w5.frozen? ⟨wb, 0, none⟩ = false := by rw [World.frozen?_of_block (HKc.out.2.2.2.2 wb l5)]; exact z5
          have l6 : wb < w5.heap.size := Nat.lt_of_lt_of_le l5 HKc.out.size
          refine hK.out _ _ HK5.out (fun hHeldc => ?_)
          clear hK K
          try simp only [Act.put, List.setIfInBounds_toArray, List.set_cons_zero, List.set_cons_succ]
          refine wpAnyH_ready (rs := [16]) (by kernel_rfl) (by simp) ?_
          refine AllReadyH.cons (i := 16) rfl (fun K hK => ?_) AllReadyH.nil
          go_simp
          have hkb := setCell_but w5 wb 0 (.slice ga L gc)
          have hkn : Kept w6 (w5.setCell ⟨wb, 0, none⟩ (.slice ga L gc)) := KeptBut.new HK5.out hkb (by rw [HSB.out]; exact Nat.le_refl _)
          refine hK.out _ _ hkn (fun hHeldb => ?_)
          clear hK K
          try simp only [Act.put, List.setIfInBounds_toArray, List.set_cons_zero, List.set_cons_succ]
          refine wpAnyH_done (by kernel_rfl) ?_ _
          refine ⟨rfl, ga, gc, wb, rW_of _ (by kernel_rfl), ?_⟩
          refine ⟨(HO5.out.same (fun d hd => ?_)).low (by have h1 := HSB.out; have h2 := HKa.out.size; omega), World.cell?_setCell_same' _ _ _ (by rw [m6]; rfl), hkn⟩
          obtain ⟨h1, h2⟩ := HO5.out.lt' d hd
          exact hkb.2.2.2.2 d h2 (by omega)
      rintro e a' w8 ⟨rfl, ga, gc, wb, ⟨T, rfl⟩, HS8⟩
      have HK8 : Hid (Kept w6 w8) := HS8.out.2.2
      clear q2 qC qD HRP
      have HK18 : Hid (Kept w1 w8) := gtrans HKZ.out (gtrans HK6.out HK8.out)
      have HLL : Hid (w1.cell? ⟨lb, 0, none⟩ = some (.int .i64 lv)) := by show _ = _; simp [World.cell?, HLB.out.1]
      have HST : Hid (RSt (fun b => b ∈ P) N wz.heap.size a b ab bb pb mb n rb sb wb lb L gc ga lv xs w8) := by
        have hl6 := HS6.out.1.lt
        have hr6 := (Array.getElem?_eq_some_iff.1 HS6.out.2.1).1
        refine ⟨HFO.out.1.kb ((gtrans HK6.out HK8.out).kb (Nat.le_refl _)), (gtrans HK6.out HK8.out).size, HS6.out.1.kx (B := 0) ⟨HK8.out.size, fun k hk => HK8.out.2.2.2.2 k (by rcases hk with h | rfl | rfl | rfl | rfl <;> omega)⟩, (HK8.out.2.2.2.2 rb hr6).trans HS6.out.2.1, grown_cell HK8.out HS6.out.2.2.1, HS8.out.2.1, grown_cell HK18.out HLL.out, fun k x hx => ?_⟩
        obtain ⟨g, rfl⟩ := HS8.out.1.some (by intro e; rw [e] at hx; simp at hx)
        exact ⟨g, rfl, HS8.out.1.cell (i := k) (j := 0) hx rfl, HS8.out.1.cell (i := k) (j := 1) hx rfl⟩
      have HDS8 : Hid (Ds.Nodup ∧ ∀ D, D ∈ Ds → w1.heap.size ≤ D ∧ w8.heap[D]? = some (.deferred (some []))) := ⟨HDS.out.1, fun D hD => ⟨(HDS.out.2 D hD).1, by
        have hk : Kept wr w8 := gtrans HKrz.out (gtrans HK6.out HK8.out)
        exact (hk.2.2.2.2 D (Array.getElem?_eq_some_iff.1 (HDS.out.2 D hD).2).1).trans (HDS.out.2 D hD).2⟩⟩
      have HGW : Hid (L ≤ gc ∧ xs.length = L) := ⟨by have h := HS8.out.1.cap; rw [HL.out] at h; exact h, HL.out⟩
      have hLb : L ≤ 4194305 := by
        have h1 := HL.out
        rw [← HXS.out] at h1
        have h2 : (spansL N a b).length ≤ (hunksL N a b).length := by
          unfold spansL spF
          exact Nat.le_trans (List.length_filter_le _ _) (by simp)
        have h3 := hks_len (numL N (lvs N a)).length (numL N (lvs N b)).length (pairsL (numL N (lvs N a)) (numL N (lvs N b))) 0 0
        have h4 := cnt_len (numL N (lvs N a)) (numL N (lvs N b)) (numL N (lvs N a)) 0 0
        have h5 : (numL N (lvs N a)).length ≤ 4194304 := by unfold numL; rw [List.length_map]; exact lvs_len HFO.out.1 HFO.out.2.2.2.1
        unfold hunksL pairsL at *
        omega
      clear HKq HKrz HS6 HS8 HK6 HK8 HLL HV0 HV1 HDS HKZ
      have kfn := fun (ups : Array Value) (W : World) => fnil_R 35 ups W
      have sq8 := HST.out.sq
      have hLI : (L : Int) ≤ 4194305 := by omega
      have hLc : (L : Int) ≤ (gc : Int) := by have := HGW.out.1; omega
      obtain ⟨w7, hw7⟩ : ∃ w7, w8.alloc (.cells #[.int .i64 0] 3) = w7 := ⟨_, rfl⟩
      have hk7 : Kept w8 w7 := by rw [← hw7]; exact (Kept.refl w8).alloc _ _
      have sq7 := grown_cell hk7 sq8
      rw [← hw7] at sq7
      have HW7 := hide1 hw7
      have HK7 := hide1 hk7
      clear hw7 hk7
      go_wp2_with fail
      obtain ⟨nb, hnb⟩ : ∃ nb, w8.heap.size = nb := ⟨_, rfl⟩
      have HNB : Hid (w8.heap.size = nb ∧ w7.heap.size = nb + 1 ∧ w7.heap[nb]? = some (.cells #[.int .i64 0] 3 (0, 0))) := ⟨hnb, by rw [← HW7.out, World.size_alloc, hnb], by rw [← HW7.out, ← hnb]; exact World.alloc_heap_new w8 _⟩
      rw [HW7.out, hnb]
      have HST7 := hide1 (HST.out.keep HK7.out)
      have HXL : Hid (∀ k, rX wz.heap.size ab bb pb mb rb k → k < nb) := fun k hk => by
        have h1 := HST.out.hp.lt
        have h2 := (Array.getElem?_eq_some_iff.1 HST.out.hr).1
        have h3 := HST.out.hB
        rcases hk with (h | rfl | rfl | rfl | rfl) | rfl <;> omega
      have HSEQ : Hid (∀ m W, 4 ≤ m → Kept w8 W → SeqX Fence.wide m Try.prog 35 #[.pointer (some ⟨rb, 0, none⟩)] encS (KX (rX wz.heap.size ab bb pb mb rb)) xs W) := fun m W hm hW => by
        have st := HST.out.keep hW
        rw [← HXS.out]
        exact ranges_seq m hm (fun b => b ∈ P) N wz.heap.size a b ab bb pb mb n rb W st.fo HFO.out.2.1 HFO.out.2.2.1 HFO.out.2.2.2.1 HFO.out.2.2.2.2 st.hB st.hp st.hr
      have HI0 : Hid (RnI w7 nb (fun _ => False) [] w7) := ⟨fun _ h => h.elim, (Kept.refl w7).tbut nb, HNB.out.2.2⟩
      have hnb7 : nb < w7.heap.size := by have := HNB.out.2.1; omega
      have hnb8 : w8.heap.size ≤ nb := by omega
      clear sq8 sq7 hnb HW7 kfn
      refine Code.wp_mono (Q := fun e a' W => (e = .normal ∨ e = .exit 2) ∧ ∃ q : Nat, RN (some ⟨pg, po, none⟩) np pc lb rc gb i sb wb nb (marksR (w7.heap.size :: Ds)) a' ∧ Hid ((q = L ∨ (q : Int) = lv) ∧ KeptBut nb w7 W ∧ W.heap[nb]? = some (.cells #[.int .i64 (q : Int)] 3 (0, 0)) ∧ W.heap[w7.heap.size]? = some (.deferred (some [])))) ?_ ?_
      rotate_left
      · refine frameR (rG_of (va := some ⟨pg, po, none⟩) (np := np) (vc := pc) (lb := lb) (rc := rc) (gb := gb) (i := i) (sb := sb) (wb := wb) (nb := nb) (fv := (.func (.func 35) #[] #[.pointer (some ⟨rb, 0, none⟩)])) _ (by kernel_rfl)) ?_
        rintro a' ⟨T, rfl⟩
        refine (wpIn_wide (n := 9)).1 ?_
        refine range_A rfl (by omega) (gf := 35) (lb := #[.pointer (some ⟨rb, 0, none⟩)]) rfl trivial (enters_of Try.func35 (by kernel_rfl) rfl) (HSEQ.out 8 w7 (by omega) HK7.out) ?kp KX.trans (fun _ => rfl)
          (RnI w7 nb) (RnX w7 nb lv) (RnI.stable hnb7) (RnX.stable hnb7) HI0.out
          (fun x W => W.alloc (.cells #[.int .i64 (x.1 : Int), .int .i64 (x.2 : Int)] 42)) (fun x W => (Kept.refl W).alloc _ _)
          (fun x W9 => { tmps := List.toArray (T 0 :: (.slice (some ⟨pg, po, none⟩) np pc) :: T 2 :: T 3 :: T 4 :: (.pointer (some ⟨lb, 0, none⟩)) :: (.pointer (some ⟨rc, 0, none⟩)) :: (.pointer (some ⟨gb, 0, none⟩)) :: (.bool true) :: (.int .i64 (i : Int)) :: T 10 :: T 11 :: (.pointer (some ⟨sb, 0, none⟩)) :: (.pointer (some ⟨wb, 0, none⟩)) :: (.pointer (some ⟨nb, 0, none⟩)) :: (.pointer (some ⟨W9.heap.size, 0, none⟩)) :: T 16 :: T 17 :: T 18 :: T 19 :: T 20 :: T 21 :: T 22 :: T 23 :: T 24 :: T 25 :: T 26 :: T 27 :: T 28 :: T 29 :: T 30 :: T 31 :: T 32 :: T 33 :: T 34 :: T 35 :: T 36 :: T 37 :: T 38 :: T 39 :: T 40 :: T 41 :: T 42 :: T 43 :: T 44 :: T 45 :: T 46 :: T 47 :: T 48 :: T 49 :: T 50 :: T 51 :: T 52 :: T 53 :: T 54 :: T 55 :: T 56 :: T 57 :: T 58 :: T 59 :: T 60 :: T 61 :: T 62 :: T 63 :: T 64 :: T 65 :: T 66 :: T 67 :: T 68 :: T 69 :: T 70 :: T 71 :: T 72 :: T 73 :: T 74 :: T 75 :: T 76 :: T 77 :: T 78 :: T 79 :: T 80 :: T 81 :: T 82 :: T 83 :: T 84 :: T 85 :: T 86 :: T 87 :: T 88 :: T 89 :: T 90 :: T 91 :: (.func (.func 35) #[] #[.pointer (some ⟨rb, 0, none⟩)]) :: (.agg #[.int .i64 (x.1 : Int), .int .i64 (x.2 : Int)]) :: T 94 :: T 95 :: T 96 :: T 97 :: T 98 :: T 99 :: T 100 :: T 101 :: T 102 :: T 103 :: T 104 :: T 105 :: T 106 :: T 107 :: T 108 :: T 109 :: T 110 :: T 111 :: T 112 :: T 113 :: T 114 :: T 115 :: T 116 :: T 117 :: T 118 :: T 119 :: T 120 :: T 121 :: T 122 :: T 123 :: T 124 :: T 125 :: T 126 :: T 127 :: T 128 :: T 129 :: T 130 :: T 131 :: T 132 :: T 133 :: T 134 :: T 135 :: T 136 :: T 137 :: T 138 :: T 139 :: T 140 :: T 141 :: T 142 :: T 143 :: T 144 :: T 145 :: T 146 :: T 147 :: T 148 :: T 149 :: T 150 :: T 151 :: T 152 :: T 153 :: T 154 :: T 155 :: T 156 :: T 157 :: T 158 :: T 159 :: T 160 :: []), defers := [] })
          ?assign ?body ?done ?stop
        case kp => exact fun A A' h1 h2 h3 => ⟨h2, fun q hq => h3 q (by have := HXL.out q hq; have := HNB.out.2.1; omega)⟩
        case assign =>
          intro l x W K hK
          have HK := hide1 hK
          clear hK
          dsimp only [encS]
          gi_wp2
          exact HK.out
        case body =>
          rintro TT pre x W0 W hw0 hTl hbx hVs ⟨g1, g2, g3⟩ hpre hTb hT0 hT1 hsz hloop
          obtain ⟨x1, x2⟩ := x
          obtain ⟨pl, hpl⟩ : ∃ pl, pre.length = pl := ⟨_, rfl⟩
          rw [hpl] at g3
          have hat : xs[pl]? = some (x1, x2) := by
            obtain ⟨tt, ht⟩ := hpre
            rw [← ht, ← hpl]
            simp
          have hpn : pl < L := by
            have h1 := (List.getElem?_eq_some_iff.1 hat).1
            rw [HGW.out.2] at h1
            exact h1
          have hb0 : W.heap[W0.heap.size]? = some (.cells #[.int .i64 (x1 : Int), .int .i64 (x2 : Int)] 42 (0, 0)) := (hbx _ (Nat.le_refl _)).trans (World.alloc_heap_new W0 _)
          obtain ⟨xb, hxb⟩ : ∃ xb, W0.heap.size = xb := ⟨_, rfl⟩
          dsimp only
          rw [hxb] at hb0 ⊢
          have c0 : W.cell? ⟨xb, 0, none⟩ = some (.int .i64 (x1 : Int)) := by simp [World.cell?, hb0]
          have c1 : W.cell? ⟨xb, 1, none⟩ = some (.int .i64 (x2 : Int)) := by simp [World.cell?, hb0]
          have hKW : Kept w8 W := KeptBut.new HK7.out g2 hnb8
          have st := HST.out.keep hKW
          have s1 := st.hl
          have s2 := st.wt
          obtain ⟨g, e9, r1, r2⟩ := st.hx pl (x1, x2) hat
          dsimp only at r1 r2
          subst e9
          obtain ⟨kc, kz, kl⟩ := boxR_of g3
          have hplI : (pl : Int) < (L : Int) := by omega
          have hd1 : decide ((L : Int) ≤ (pl : Int)) = false := decide_eq_false (by omega)
          have hd2 : decide (L ≤ pl) = false := decide_eq_false (by omega)
          have HG1 := hide1 g1
          have HG2 := hide1 g2
          have HG3 := hide1 g3
          have HPL := hide1 hpl
          have HTB : Hid (∀ q, TT q → q < W.heap.size) := fun q hq => (hTb q hq).2
          have HKW := hide1 hKW
          clear g1 g2 g3 hpl hTb hKW hloop hat hpre hT0 hT1 hsz hbx hVs hw0 hTl hb0 hxb st
          by_cases hbrk : (pl : Int) = lv
          · have ep : ((pl : Int) == lv) = true := by rw [hbrk]; simp
            have HBK := hide1 hbrk
            clear hbrk
            gi_wp2_with fail
            exact ⟨Nat.le_refl _, fun _ _ => rfl, rfl, HG1.out, pl, HBK.out, HG2.out, HG3.out⟩
          · have ep : ((pl : Int) == lv) = false := by simpa using hbrk
            clear hbrk
            gi_wp2_with fail
            refine region_quiet_round (by kernel_rfl) (by kernel_rfl) (by kernel_rfl) ?_
            repeat (gi_big_quiet_step (fail))
            refine wpQuietIn_nil ?_
            intro _ hw'
            obtain ⟨nq, hw''⟩ := hw'
            subst hw''
            obtain ⟨wy, hwy⟩ : ∃ wy, W.drewN nq = wy := ⟨_, rfl⟩
            have HKy : Hid (Kept W wy) := by rw [← hwy]; exact drewN_kept _ _
            rw [hwy]
            obtain ⟨ky, kzy, kly⟩ := boxR_of ((HKy.out.2.2.2.2 nb kl).trans HG3.out)
            clear hwy kc kz r1 r2 s1 s2 c0 c1
            gi_wp2_with fail
            exact rn_fin (x := (x1, x2)) HG1.out HG2.out HG3.out HPL.out HTB.out hnb7 HXL.out HKy.out (Kept.refl _)
        case done =>
          rintro TT W ⟨g1, g2, g3⟩ hdef hTb hT0 hT1
          rw [HGW.out.2] at g3
          exact ⟨Or.inl rfl, L, rN_of _ (by kernel_rfl), Or.inl rfl, g2, g3, hdef⟩
        case stop =>
          rintro TT c pre W _ ⟨rfl, g1, q, hq, g2, g3⟩ hdef hTb hT0 hT1
          have HFI : Hid ((q = L ∨ (q : Int) = lv) ∧ KeptBut nb w7 W ∧ W.heap[nb]? = some (.cells #[.int .i64 (q : Int)] 3 (0, 0)) ∧ W.heap[w7.heap.size]? = some (.deferred (some []))) := ⟨Or.inr hq, g2, g3, hdef⟩
          clear g1 g2 g3 hq hdef hTb hT0 hT1
          dsimp only
          refine wpIn_wide.2 ?_
          go_wp2_with fail
          first | exact ⟨Or.inr rfl, q, rN_of _ (by kernel_rfl), HFI⟩ | exact ⟨q, rN_of _ (by kernel_rfl), HFI⟩ | exact ⟨rN_of _ (by kernel_rfl), q, HFI⟩
      rintro e a' wA ⟨he, q, ⟨T, rfl⟩, HQ⟩
      refine inBlock_two he ?_
      clear he HI0 HST7
      have hc : (((q : Int) != (L : Int)) = false) ∨ (((q : Int) != (L : Int)) = true ∧ ((q : Int) != lv) = false) := by
        by_cases h : q = L
        · exact Or.inl (by rw [h]; simp)
        · refine Or.inr ⟨by simpa using (by omega : ¬ (q : Int) = (L : Int)), ?_⟩
          rcases HQ.out.1 with h1 | h1
          · exact absurd h1 h
          · rw [h1]; simp
      have hkA : Kept w8 wA := KeptBut.new HK7.out HQ.out.2.1 hnb8
      have stA := HST.out.keep hkA
      have s1 := stA.hl
      have s2 := stA.wt
      obtain ⟨kc, kz, kl⟩ := boxR_of HQ.out.2.2.1
      obtain ⟨wB, hwB⟩ : ∃ wB, wA.setCell ⟨nb, 0, none⟩ (.int .i64 0) = wB := ⟨_, rfl⟩
      have hbB : KeptBut nb wA wB := by rw [← hwB]; exact setCell_but wA nb 0 (.int .i64 0)
      have HKB : Hid (Kept w8 wB) := KeptBut.new hkA hbB hnb8
      have HBB : Hid (wB.heap[nb]? = some (.cells #[.int .i64 0] 3 (0, 0))) := by
        show _ = _
        have h := HQ.out.2.2.1
        have hl := (Array.getElem?_eq_some_iff.1 h).1
        have he := Option.some.inj ((Array.getElem?_eq_getElem hl).symm.trans h)
        rw [← hwB]
        simp [World.setCell, Array.getElem_modify, hl, he]
      have HDB : Hid (wB.heap[w7.heap.size]? = some (.deferred (some [])) ∧ w7.heap.size < wB.heap.size) := by
        have h := (hbB.2.2.2.2 _ (Array.getElem?_eq_some_iff.1 HQ.out.2.2.2).1 (by omega)).trans HQ.out.2.2.2
        exact ⟨h, (Array.getElem?_eq_some_iff.1 h).1⟩
      have sqB := (HST.out.keep HKB.out).sq
      rw [← hwB] at sqB
      have HWB := hide1 hwB
      have hnbB : nb < wB.heap.size := (Array.getElem?_eq_some_iff.1 HBB.out).1
      have HIB : Hid (RnI wB nb (fun _ => False) [] wB) := ⟨fun _ h => h.elim, (Kept.refl wB).tbut nb, HBB.out⟩
      clear hwB hkA stA hbB
      rcases hc with en | ⟨en, el⟩
      all_goals
        go_wp2_with fail
        rw [HWB.out]
        refine frameR (rH_of (va := some ⟨pg, po, none⟩) (np := np) (vc := pc) (lb := lb) (rc := rc) (gb := gb) (i := i) (sb := sb) (wb := wb) (nb := nb) (fv := (.func (.func 35) #[] #[.pointer (some ⟨rb, 0, none⟩)])) _ (by kernel_rfl)) ?_
        rintro a' ⟨T, rfl⟩
        clear sqB s1 s2 kc kz kl en
        refine (wpIn_wide (n := 9)).1 ?_
        refine range_A rfl (by omega) (gf := 35) (lb := #[.pointer (some ⟨rb, 0, none⟩)]) rfl trivial (enters_of Try.func35 (by kernel_rfl) rfl) (HSEQ.out 8 wB (by omega) HKB.out) ?kp KX.trans (fun _ => rfl)
          (RnI wB nb) (fun _ _ _ _ => False) (RnI.stable hnbB) (fun _ _ _ _ _ _ h _ => h.elim) HIB.out
          (fun x W => W.alloc (.cells #[.int .i64 (x.1 : Int), .int .i64 (x.2 : Int)] 42)) (fun x W => (Kept.refl W).alloc _ _)
          (fun x W9 => { tmps := List.toArray (T 0 :: (.slice (some ⟨pg, po, none⟩) np pc) :: T 2 :: T 3 :: T 4 :: (.pointer (some ⟨lb, 0, none⟩)) :: (.pointer (some ⟨rc, 0, none⟩)) :: (.pointer (some ⟨gb, 0, none⟩)) :: (.bool true) :: (.int .i64 (i : Int)) :: T 10 :: T 11 :: (.pointer (some ⟨sb, 0, none⟩)) :: (.pointer (some ⟨wb, 0, none⟩)) :: (.pointer (some ⟨nb, 0, none⟩)) :: T 15 :: (.pointer (some ⟨W9.heap.size, 0, none⟩)) :: T 17 :: T 18 :: T 19 :: T 20 :: T 21 :: T 22 :: T 23 :: T 24 :: T 25 :: T 26 :: T 27 :: T 28 :: T 29 :: T 30 :: T 31 :: T 32 :: T 33 :: T 34 :: T 35 :: T 36 :: T 37 :: T 38 :: T 39 :: T 40 :: T 41 :: T 42 :: T 43 :: T 44 :: T 45 :: T 46 :: T 47 :: T 48 :: T 49 :: T 50 :: T 51 :: T 52 :: T 53 :: T 54 :: T 55 :: T 56 :: T 57 :: T 58 :: T 59 :: T 60 :: T 61 :: T 62 :: T 63 :: T 64 :: T 65 :: T 66 :: T 67 :: T 68 :: T 69 :: T 70 :: T 71 :: T 72 :: T 73 :: T 74 :: T 75 :: T 76 :: T 77 :: T 78 :: T 79 :: T 80 :: T 81 :: T 82 :: T 83 :: T 84 :: T 85 :: T 86 :: T 87 :: T 88 :: T 89 :: T 90 :: T 91 :: T 92 :: T 93 :: T 94 :: T 95 :: T 96 :: T 97 :: T 98 :: T 99 :: T 100 :: T 101 :: T 102 :: T 103 :: T 104 :: T 105 :: T 106 :: T 107 :: T 108 :: T 109 :: T 110 :: T 111 :: T 112 :: T 113 :: T 114 :: T 115 :: T 116 :: T 117 :: T 118 :: T 119 :: (.func (.func 35) #[] #[.pointer (some ⟨rb, 0, none⟩)]) :: (.agg #[.int .i64 (x.1 : Int), .int .i64 (x.2 : Int)]) :: T 122 :: T 123 :: T 124 :: T 125 :: T 126 :: T 127 :: T 128 :: T 129 :: T 130 :: T 131 :: T 132 :: T 133 :: T 134 :: T 135 :: T 136 :: T 137 :: T 138 :: T 139 :: T 140 :: T 141 :: T 142 :: T 143 :: T 144 :: T 145 :: T 146 :: T 147 :: T 148 :: T 149 :: T 150 :: T 151 :: T 152 :: T 153 :: T 154 :: T 155 :: T 156 :: T 157 :: T 158 :: T 159 :: T 160 :: []), defers := [] })
          ?assign ?body ?done ?stop
        case kp => exact fun A A' h1 h2 h3 => ⟨h2, fun q hq => h3 q (by have := HXL.out q hq; omega)⟩
        case assign =>
          intro l x W K hK
          have HK := hide1 hK
          clear hK
          dsimp only [encS]
          gi_wp2
          exact HK.out
        case stop => exact fun _ _ _ _ _ h => h.elim
        case body =>
          rintro TT pre x W0 W hw0 hTl hbx hVs ⟨g1, g2, g3⟩ hpre hTb hT0 hT1 hsz ⟨lr, hlr0, hlr⟩
          have HLR := hide1 hlr
          have hloop := hlr
          clear hlr
          obtain ⟨x1, x2⟩ := x
          obtain ⟨pl, hpl⟩ : ∃ pl, pre.length = pl := ⟨_, rfl⟩
          rw [hpl] at g3
          have hat : xs[pl]? = some (x1, x2) := by
            obtain ⟨tt, ht⟩ := hpre
            rw [← ht, ← hpl]
            simp
          have hpn : pl < L := by
            have h1 := (List.getElem?_eq_some_iff.1 hat).1
            rw [HGW.out.2] at h1
            exact h1
          have hb0 : W.heap[W0.heap.size]? = some (.cells #[.int .i64 (x1 : Int), .int .i64 (x2 : Int)] 42 (0, 0)) := (hbx _ (Nat.le_refl _)).trans (World.alloc_heap_new W0 _)
          obtain ⟨xb, hxb⟩ : ∃ xb, W0.heap.size = xb := ⟨_, rfl⟩
          dsimp only
          rw [hxb] at hb0 ⊢
          have c0 : W.cell? ⟨xb, 0, none⟩ = some (.int .i64 (x1 : Int)) := by simp [World.cell?, hb0]
          have c1 : W.cell? ⟨xb, 1, none⟩ = some (.int .i64 (x2 : Int)) := by simp [World.cell?, hb0]
          have hKW : Kept w8 W := KeptBut.new HKB.out g2 hnb8
          have st := HST.out.keep hKW
          have s1 := st.hl
          have s2 := st.wt
          obtain ⟨g, e9, r1, r2⟩ := st.hx pl (x1, x2) hat
          dsimp only at r1 r2
          subst e9
          obtain ⟨kc, kz, kl⟩ := boxR_of g3
          have hplI : (pl : Int) < (L : Int) := by omega
          have hd1 : decide ((L : Int) ≤ (pl : Int)) = false := decide_eq_false (by omega)
          have hd2 : decide (L ≤ pl) = false := decide_eq_false (by omega)
          have HG1 := hide1 g1
          have HG2 := hide1 g2
          have HG3 := hide1 g3
          have HPL := hide1 hpl
          have HTB : Hid (∀ q, TT q → q < W.heap.size) := fun q hq => (hTb q hq).2
          have HKW := hide1 hKW
          clear g1 g2 g3 hpl hTb hKW hloop hlr0 hat hpre hT0 hT1 hsz hbx hVs hw0 hTl hb0 hxb st
          gi_wp2_with fail
          refine region_quiet_round (by kernel_rfl) (by kernel_rfl) (by kernel_rfl) ?_
          repeat (gi_big_quiet_step (fail))
          refine wpQuietIn_nil ?_
          intro _ hw'
          obtain ⟨nq, hw''⟩ := hw'
          subst hw''
          obtain ⟨wy, hwy⟩ : ∃ wy, W.drewN nq = wy := ⟨_, rfl⟩
          have HKy : Hid (Kept W wy) := by rw [← hwy]; exact drewN_kept _ _
          rw [hwy]
          obtain ⟨ky, kzy, kly⟩ := boxR_of ((HKy.out.2.2.2.2 nb kl).trans HG3.out)
          clear hwy kc kz r1 r2 s1 s2 c0 c1
          obtain ⟨wk, hwk⟩ : ∃ wk, wy.alloc (.cells #[.int .i64 0] 3) = wk := ⟨_, rfl⟩
          have hkk : Kept wy wk := by rw [← hwk]; exact (Kept.refl wy).alloc _ _
          have HK8k : Hid (Kept w8 wk) := gtrans HKW.out (gtrans HKy.out hkk)
          have sqk := (HST.out.keep HK8k.out).sq
          rw [← hwk] at sqk
          have HWK := hide1 hwk
          have HKK := hide1 hkk
          obtain ⟨kb, hkb⟩ : ∃ kb, wy.heap.size = kb := ⟨_, rfl⟩
          have HKBK : Hid (wy.heap.size = kb ∧ wk.heap.size = kb + 1 ∧ wk.heap[kb]? = some (.cells #[.int .i64 0] 3 (0, 0))) := ⟨hkb, by rw [← hwk, World.size_alloc, hkb], by rw [← hwk, ← hkb]; exact World.alloc_heap_new wy _⟩
          clear hwk hkk hkb
          gi_wp2_with fail
          rw [HWK.out, HKBK.out.1]
          clear sqk ky kzy kly
          have HLK : Hid (wk.heap[wB.heap.size + 1]? = some (.loop lr)) := by
            have h1 := (Array.getElem?_eq_some_iff.1 HLR.out).1
            have hk := gtrans HKy.out HKK.out
            exact (hk.2.2.2.2 _ h1).trans HLR.out
          have HIK : Hid (RnI wk kb (fun _ => False) [] wk) := ⟨fun _ h => h.elim, (Kept.refl wk).tbut kb, HKBK.out.2.2⟩
          have hkbk : kb < wk.heap.size := by have := HKBK.out.2.1; omega
          have hkb8 : w8.heap.size ≤ kb := by have h1 := (gtrans HKW.out HKy.out).size; have h2 := HKBK.out.1; omega
          have HXK : Hid (∀ k, rX wz.heap.size ab bb pb mb rb k → k < kb) := fun k hk => by have h1 := HXL.out k hk; have h2 := HNB.out.1; omega
          refine frameRIn (rK_of (va := some ⟨pg, po, none⟩) (np := np) (vc := pc) (lb := lb) (rc := rc) (gb := gb) (i := i) (sb := sb) (wb := wb) (nb := nb) (kb := kb) (fv := (.func (.func 35) #[] #[.pointer (some ⟨rb, 0, none⟩)])) _ (by kernel_rfl)) ?_
          rintro a' ⟨T, rfl⟩
          refine range_AN (F := Fence.wide.inRound (wB.heap.size + 1)) rfl HLK.out (by omega) (gf := 35) (lb := #[.pointer (some ⟨rb, 0, none⟩)]) rfl trivial (enters_of Try.func35 (by kernel_rfl) rfl) (seqX_round (HSEQ.out (9 - 1 - 1 - 1) wk (by omega) HK8k.out)) ?kp3 KX.trans (fun _ => rfl)
            (RnI wk kb) (RnI.stable hkbk) HIK.out
            (fun x W => W.alloc (.cells #[.int .i64 (x.1 : Int), .int .i64 (x.2 : Int)] 42)) (fun x W => (Kept.refl W).alloc _ _)
            (fun x W9 => { tmps := List.toArray (T 0 :: (.slice (some ⟨pg, po, none⟩) np pc) :: T 2 :: T 3 :: T 4 :: (.pointer (some ⟨lb, 0, none⟩)) :: (.pointer (some ⟨rc, 0, none⟩)) :: (.pointer (some ⟨gb, 0, none⟩)) :: (.bool true) :: (.int .i64 (i : Int)) :: T 10 :: T 11 :: (.pointer (some ⟨sb, 0, none⟩)) :: (.pointer (some ⟨wb, 0, none⟩)) :: (.pointer (some ⟨nb, 0, none⟩)) :: T 15 :: T 16 :: (.pointer (some ⟨kb, 0, none⟩)) :: (.pointer (some ⟨W9.heap.size, 0, none⟩)) :: T 19 :: T 20 :: T 21 :: T 22 :: T 23 :: T 24 :: T 25 :: T 26 :: T 27 :: T 28 :: T 29 :: T 30 :: T 31 :: T 32 :: T 33 :: T 34 :: T 35 :: T 36 :: T 37 :: T 38 :: T 39 :: T 40 :: T 41 :: T 42 :: T 43 :: T 44 :: T 45 :: T 46 :: T 47 :: T 48 :: T 49 :: T 50 :: T 51 :: T 52 :: T 53 :: T 54 :: T 55 :: T 56 :: T 57 :: T 58 :: T 59 :: T 60 :: T 61 :: T 62 :: T 63 :: T 64 :: T 65 :: T 66 :: T 67 :: T 68 :: T 69 :: T 70 :: T 71 :: T 72 :: T 73 :: T 74 :: T 75 :: T 76 :: T 77 :: T 78 :: T 79 :: T 80 :: T 81 :: T 82 :: T 83 :: T 84 :: T 85 :: T 86 :: T 87 :: T 88 :: T 89 :: T 90 :: T 91 :: T 92 :: T 93 :: T 94 :: T 95 :: T 96 :: T 97 :: T 98 :: T 99 :: T 100 :: T 101 :: T 102 :: T 103 :: T 104 :: T 105 :: T 106 :: T 107 :: T 108 :: T 109 :: T 110 :: T 111 :: T 112 :: T 113 :: T 114 :: T 115 :: T 116 :: T 117 :: T 118 :: T 119 :: T 120 :: T 121 :: T 122 :: T 123 :: T 124 :: T 125 :: T 126 :: T 127 :: T 128 :: T 129 :: T 130 :: T 131 :: T 132 :: T 133 :: (.func (.func 35) #[] #[.pointer (some ⟨rb, 0, none⟩)]) :: (.agg #[.int .i64 (x.1 : Int), .int .i64 (x.2 : Int)]) :: T 136 :: T 137 :: T 138 :: T 139 :: T 140 :: T 141 :: T 142 :: T 143 :: T 144 :: T 145 :: T 146 :: T 147 :: T 148 :: T 149 :: T 150 :: T 151 :: T 152 :: T 153 :: T 154 :: T 155 :: T 156 :: T 157 :: T 158 :: T 159 :: T 160 :: []), defers := [] })
            ?as3 ?bo3 ?do3
          case kp3 => exact fun A A' h1 h2 h3 => ⟨h2, fun q hq => h3 q (by have := HXK.out q hq; omega)⟩
          case as3 =>
            intro l x W K hK
            have HK := hide1 hK
            clear hK
            dsimp only [encS]
            gi_wp2
            exact HK.out
          case bo3 =>
            rintro T3 pre3 x W30 W3 hw0 hTl hbx hVs ⟨g1, g2, g3⟩ hpre hTb hT0 hsz
            have hloop := hT0
            have hT1 := hT0
            obtain ⟨z1, z2⟩ := x
            obtain ⟨p3, hp3⟩ : ∃ p3, pre3.length = p3 := ⟨_, rfl⟩
            rw [hp3] at g3
            have hat : xs[p3]? = some (z1, z2) := by
              obtain ⟨tt, ht⟩ := hpre
              rw [← ht, ← hp3]
              simp
            have hpn3 : p3 < L := by
              have h1 := (List.getElem?_eq_some_iff.1 hat).1
              rw [HGW.out.2] at h1
              exact h1
            have hb0 : W3.heap[W30.heap.size]? = some (.cells #[.int .i64 (z1 : Int), .int .i64 (z2 : Int)] 42 (0, 0)) := (hbx _ (Nat.le_refl _)).trans (World.alloc_heap_new W30 _)
            obtain ⟨zb, hzb⟩ : ∃ zb, W30.heap.size = zb := ⟨_, rfl⟩
            dsimp only
            rw [hzb] at hb0 ⊢
            have c03 : W3.cell? ⟨zb, 0, none⟩ = some (.int .i64 (z1 : Int)) := by simp [World.cell?, hb0]
            have c13 : W3.cell? ⟨zb, 1, none⟩ = some (.int .i64 (z2 : Int)) := by simp [World.cell?, hb0]
            have hKW : Kept w8 W3 := KeptBut.new HK8k.out g2 hkb8
            have st := HST.out.keep hKW
            have s13 := st.hl
            have s23 := st.wt
            obtain ⟨g9, e9, r13, r23⟩ := st.hx p3 (z1, z2) hat
            dsimp only at r13 r23
            injection e9 with e9
            injection e9 with e9
            subst e9
            obtain ⟨jc, jz, jl⟩ := boxR_of g3
            have hp3I : (p3 : Int) < (L : Int) := by omega
            have hd13 : decide ((L : Int) ≤ (p3 : Int)) = false := decide_eq_false (by omega)
            have hd23 : decide (L ≤ p3) = false := decide_eq_false (by omega)
            have J1 := hide1 g1
            have J2 := hide1 g2
            have J3 := hide1 g3
            have JPL := hide1 hp3
            have JTB : Hid (∀ q, T3 q → q < W3.heap.size) := fun q hq => (hTb q hq).2
            have JKW := hide1 hKW
            clear g1 g2 g3 hp3 hTb hKW hloop hat hpre hT0 hT1 hsz hbx hVs hw0 hTl hb0 hzb st
            gi_wp2_with fail
            refine region_quiet_round (by kernel_rfl) (by kernel_rfl) (by kernel_rfl) ?_
            repeat (gi_big_quiet_step (fail))
            refine wpQuietIn_nil ?_
            intro _ hw'
            obtain ⟨nq3, hw''⟩ := hw'
            subst hw''
            obtain ⟨wy3, hwy3⟩ : ∃ wy3, W3.drewN nq3 = wy3 := ⟨_, rfl⟩
            have JKy : Hid (Kept W3 wy3) := by rw [← hwy3]; exact drewN_kept _ _
            rw [hwy3]
            obtain ⟨jy, jzy, jly⟩ := boxR_of ((JKy.out.2.2.2.2 kb jl).trans J3.out)
            clear hwy3 jc jz r13 r23 s13 s23 c03 c13
            gi_wp2_with fail
            exact rn_fin (x := (z1, z2)) J1.out J2.out J3.out JPL.out JTB.out hkbk HXK.out JKy.out (Kept.refl _)
          case do3 =>
            rintro T3 W3 ⟨j1, j2, j3⟩ hTb3
            rw [HGW.out.2] at j3
            obtain ⟨kc, kz, kl9⟩ := boxR_of j3
            have hyk : Kept wy W3 := KeptBut.new HKK.out j2 (by rw [HKBK.out.1]; exact Nat.le_refl _)
            have HW3 : Hid (Kept W W3) := gtrans HKy.out hyk
            have s2 := (HST.out.keep (gtrans HKW.out HW3.out)).wt
            obtain ⟨kn, knz, knl⟩ := boxR_of ((HW3.out.2.2.2.2 nb kl).trans HG3.out)
            clear j1 j2 j3 hTb3 hyk
            gi_wp2_with fail
            exact rn_fin (x := (x1, x2)) HG1.out HG2.out HG3.out HPL.out HTB.out hnbB HXL.out HW3.out (Kept.refl _)
        case done =>
          rintro TT W ⟨g1, g2, g3⟩ hdef hTb hT0 hT1
          rw [HGW.out.2] at g3
          obtain ⟨kc, kz, kl⟩ := boxR_of g3
          have hkW : Kept w8 W := KeptBut.new HKB.out g2 hnb8
          have s2 := (HST.out.keep hkW).wt
          have HFI : Hid (Kept w1 W ∧ (wB.heap.size :: w7.heap.size :: Ds).Nodup ∧ ∀ D, D ∈ wB.heap.size :: w7.heap.size :: Ds → w1.heap.size ≤ D ∧ W.heap[D]? = some (.deferred (some []))) := by
            have h18 := HK18.out.size
            have h87 := HK7.out.size
            have hlt : ∀ D ∈ Ds, D < w8.heap.size := fun D hm => (Array.getElem?_eq_some_iff.1 (HDS8.out.2 D hm).2).1
            have hDB := HDB.out
            refine ⟨gtrans HK18.out hkW, List.nodup_cons.2 ⟨fun hm => ?_, List.nodup_cons.2 ⟨fun hm => by have := hlt _ hm; omega, HDS8.out.1⟩⟩, fun D hD => ?_⟩
            · rcases List.mem_cons.1 hm with h | h
              · omega
              · have := hlt _ h; omega
            · rcases List.mem_cons.1 hD with rfl | hD
              · exact ⟨by omega, hdef⟩
              · rcases List.mem_cons.1 hD with rfl | hD
                · exact ⟨by omega, (g2.2.2.2.2 _ hDB.2 (by omega)).trans hDB.1⟩
                · exact ⟨(HDS8.out.2 D hD).1, (hkW.2.2.2.2 D (hlt D hD)).trans (HDS8.out.2 D hD).2⟩
          clear g1 g2 g3 hdef hTb hT0 hT1 hkW
          dsimp only
          go_wp2_with fail
          refine ⟨⟨i + 1, wB.heap.size :: w7.heap.size :: Ds, rF_of _ (by kernel_rfl), by omega, HFI.out.1, HFI.out.2⟩, ?_⟩
          show np - (intOf (.int .i64 ((i : Int) + 1))).toNat < np - (intOf (.int .i64 (i : Int))).toNat
          simp [intOf]
          omega
    · have HRW : Hid (wr.heap[rc]? = some (.cells #[.bool false] 4 (0, 0))) := (HKR.out.2.2.2.2 rc HLE.out.2.2).trans HLB.out.2
      have rr : wr.cell? ⟨rc, 0, none⟩ = some (.bool false) := by simp [World.cell?, HRW.out]
      have rz : wr.frozen? ⟨rc, 0, none⟩ = false := by simp [World.frozen?, HRW.out]
      have rl : rc < wr.heap.size := (Array.getElem?_eq_some_iff.1 HRW.out).1
      have hc : (i : Int) < (np : Int) ∧ ¬ (0 : Int) < (pn : Int) ∨ ¬ (i : Int) < (np : Int) := by omega
      clear hgo
      rcases hc with ⟨h4, h3⟩ | h4
      all_goals
        go_wp2_with fail
        obtain ⟨h1, h2⟩ := rc_end (gtrans HK01.out HKR.out) (show w.heap.size ≤ rc by have := HLE.out; omega) HRW.out
        have hne : ∀ D, D ∈ Ds → D ≠ rc := fun D hD => by have := (HDS.out.2 D hD).1; have := HLE.out; omega
        refine leaves_marksR Ds _ HDS.out.1 (fun D hD => (Below.heap_setCell _ _ _ _ (hne D hD)).trans (HDS.out.2 D hD).2) (fun W' e1 e2 e3 e4 e5 => ?_)
        have hr' : W'.heap[rc]? = some (.cells #[.bool true] 4 (0, 0)) := (e5 rc (fun h => hne rc h rfl)).trans h2
        refine ⟨_, results_bool rfl _ _ rc (.bool true) rfl (by simp [World.cell?, hr']), rfl, ?_⟩
        exact ⟨e1.trans h1.1, e2.trans h1.2.1, e3.trans h1.2.2.1, by rw [e4]; exact h1.size, fun q hq => (e5 q (fun h => by have := (HDS.out.2 q h).1; have := HK01.out.size; omega)).trans (h1.2.2.2.2 q hq)⟩

end Tr
end Ex
end Go.Proofs.Ytnjmbijebckncab
namespace Go.Proofs.Ytnjmbijebckncab
open Go.ChangeShapes Go.WideShapes Go.ChangeAt Go.RowKit
set_option linter.unusedVariables false
namespace Ex
namespace Tr
namespace Fn

set_option maxRecDepth 100000 in
theorem lifted (os : Os) (started : os.Started) (H : Type) (enc : TypeId × Value → H) :
    ReturnsInHanded {} Try.checked os 3 .any (Rows.deltaRangesSpec.pre6 enc Try.prog Try.f3 Rows.deltaRangesRow.domain false) (Rows.deltaRangesSpec.post enc Try.prog Try.f3 false true false false) := by
  refine returnsInHanded_of_change_sized (C := Try.checked) ownD started (by kernel_rfl) Try.func3
    (ChangeSpec.witness6 (enc := enc) (C := Try.checked) false ⟨#[], #[.slice none 0 0, .slice none 0 0, .int .i64 0], []⟩ 8 (by kernel_rfl) (by kernel_rfl) (by kernel_rfl) (by kernel_rfl)) ?_
  intro W base args ds gs before hval0 hW hcnd hsz _
  have hval : ∀ (j : Nat) t v, Try.f3.params[j]? = some t → args[j]? = some v → Value.okWide Try.prog W .any base t v := hval0
  have hW' := hW
  obtain ⟨p, q, hA0, hV, rfl, hfz, hnd⟩ := hW
  have hA : DataW.TrodAll enc Try.prog W 0 (fun _ => true) true Try.f3.params.toList args.toList ds p := hA0
  rw [Try.params3] at hA hval
  obtain ⟨v0, vs0, d0, ds0, p0, q0, hargs, rfl, rfl, h0, r0⟩ := trodAll_cons hA
  obtain ⟨v1, vs1, d1, ds1, p1, q1, rfl, rfl, rfl, h1, r1⟩ := trodAll_cons r0
  obtain ⟨v2, vs2, d2, ds2, p2, q2, rfl, rfl, rfl, h2, r2⟩ := trodAll_cons r1
  obtain ⟨rfl, rfl, rfl⟩ := trodAll_nil r2
  obtain rfl : args = #[v0, v1, v2] := by cases args; simp_all
  obtain ⟨rfl, rfl⟩ := trodVars_none hV
  have s0 := okWide_slice Try.underlying22 (hval 0 22 v0 rfl rfl)
  have s1 := okWide_slice Try.underlying23 (hval 1 23 v1 rfl rfl)
  have k0 := h0
  have k1 := h1
  have lt0 : ∀ x ∈ p0, x.block < W.heap.size := by obtain ⟨m, hm⟩ := k0; exact DataW.trod_lt m _ _ _ hm
  have lt1 : ∀ x ∈ p1, x.block < W.heap.size := by obtain ⟨m, hm⟩ := k1; exact DataW.trod_lt m _ _ _ hm
  have wt0 : ∀ n ∈ d0.weights Try.prog 22, n ≤ reachBytes := fun n hn => by
    have := List.all_eq_true.1 hsz n (DataW.weights_mem_each (j := 0) (by rfl) (by rfl) n hn)
    simpa using this
  have wt1 : ∀ n ∈ d1.weights Try.prog 23, n ≤ reachBytes := fun n hn => by
    have := List.all_eq_true.1 hsz n (DataW.weights_mem_each (j := 1) (by rfl) (by rfl) n hn)
    simpa using this
  obtain ⟨l0, x0⟩ := parts_arg s0 k0 wt0
  obtain ⟨ps, x1⟩ := pairs_arg s1 k1 wt1
  obtain ⟨a2, rfl, rfl, rfl, w2⟩ := open_int Try.underlying3 (hval 2 3 v2 rfl rfl) h2
  clear hA0 hval0
  refine Calls.mono (R := fun e w' => e = .returned (.bool true) ∧ Below W.heap.size W w') ((lawRanges v0 v1 a2 ps W (fun W' hW' => grove_is v0 l0 W' (x0.keep hW')) x1).mono fun _ _ h => ⟨h.1, h.2.below⟩) fun e W' ⟨he, bel⟩ => ?_
  subst he
  exact ⟨_, rfl, _, _, _, [], _, [], hW', trodAll_mk1 (shut_bool Try.underlying4 _), (trodAll_cons_mk (Below.trod laidOutD (by kernel_rfl) (of_decide_eq_true (by kernel_rfl)) k0 bel lt0) (trodAll_cons_mk (Below.trod laidOutD (by kernel_rfl) (of_decide_eq_true (by kernel_rfl)) k1 bel lt1) (trodAll_cons_mk (shut_int Try.underlying3 w2) trodAll_mk0))), rfl, bel.frame _, fun h => by cases h⟩

theorem over : Rows.deltaRangesRow.holds Try.pinned (OpenSpec.ofChange Rows.deltaRangesSpec) :=
  OpenClaim.holds_of_wide 3 Try.f3 rfl rfl rfl rfl rfl rfl rfl ⟨rfl, rfl, rfl, rfl, rfl⟩ rfl rfl rfl rfl rfl (by kernel_rfl) Try.func3 (by kernel_rfl)
    (of_decide_eq_true (by kernel_rfl)) (by unfold Func.isWrapper; first | (rw [if_pos (by decide +kernel)]; kernel_rfl) | (rw [if_neg (by decide +kernel)]; exact ⟨rfl, rfl⟩))
    (fun os started H enc _ => lifted os started H enc)

end Fn
end Tr
end Ex
theorem deltaRanges_holds : Rows.DeltaRangesSaid := Ex.Tr.Fn.over
#print axioms deltaRanges_holds
end Go.Proofs.Ytnjmbijebckncab
