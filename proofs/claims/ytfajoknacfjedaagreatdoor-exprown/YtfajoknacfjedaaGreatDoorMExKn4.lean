import Derived.Test.YtfajoknacfjedaaGreatDoorMExNn2
import Derived.Lib.SlBytesConst
import Derived.Test.YtfajoknacfjedaaGreatDoorMExTw2
import Derived.Test.YtfajoknacfjedaaGreatDoorMExX5
import Derived.Test.YtfajoknacfjedaaGreatDoorMExSe8
import Derived.Test.YtfajoknacfjedaaGreatDoorMExPw7
import Derived.Test.YtfajoknacfjedaaGreatDoorMExSm3
import Derived.Deep.DeepMust
import Derived.Deep.Cut
import Derived.Deep.RegionHeld3
import Derived.BigQuiet
import Derived.OwnWalk
namespace Go.Proofs.YtfajoknacfjedaaGreatDoor
open Go.RowKit
attribute [local go_sem] Oper.semAt_some
namespace Ex

theorem Kept.tr {a b c : World} (h : Kept a b) (k : Kept b c) : Kept a c := ⟨k.1.trans h.1, k.2.1.trans h.2.1, k.2.2.1.trans h.2.2.1, Nat.le_trans h.2.2.2.1 k.2.2.2.1, fun d hd => (k.2.2.2.2 d (Nat.lt_of_lt_of_le hd h.2.2.2.1)).trans (h.2.2.2.2 d hd)⟩
theorem kept_any (w : World) (o : Obj) : Kept w (w.alloc o) := ⟨rfl, rfl, rfl, by simp, fun _ hk => Below.heap_alloc _ _ _ hk⟩
theorem bytes4 (w : World) (a b c d : Int) : BytesIn (fun k => k < (w.alloc (.cells #[.int .u8 a, .int .u8 b, .int .u8 c, .int .u8 d] 5 (4, 5))).heap.size) (w.alloc (.cells #[.int .u8 a, .int .u8 b, .int .u8 c, .int .u8 d] 5 (4, 5))) (.slice (some ⟨w.heap.size, 0, none⟩) 4 4) [a, b, c, d] := by
  have h := World.alloc_heap_new w (.cells #[.int .u8 a, .int .u8 b, .int .u8 c, .int .u8 d] 5 (4, 5))
  refine ⟨_, 4, rfl, Nat.le_refl _, by simp, .inr ⟨w.heap.size, 0, rfl, by simp, fun i x hi => ?_⟩⟩
  generalize w.alloc (.cells #[.int .u8 a, .int .u8 b, .int .u8 c, .int .u8 d] 5 (4, 5)) = W at h ⊢
  have hi4 : i < 4 := (List.getElem?_eq_some_iff.1 hi).1
  match i, hi4 with
  | 0, _ => simp at hi; subst hi; simp [World.cell?, h]
  | 1, _ => simp at hi; subst hi; simp [World.cell?, h]
  | 2, _ => simp at hi; subst hi; simp [World.cell?, h]
  | 3, _ => simp at hi; subst hi; simp [World.cell?, h]
end Ex
end Go.Proofs.YtfajoknacfjedaaGreatDoor
namespace Go.Proofs.YtfajoknacfjedaaGreatDoor
open Go.RowKit
attribute [local go_sem] Oper.semAt_some
namespace Ex

theorem kidsAll {S : Nat → Prop} {w : World} {n : Nat} {l : List (PatN n)} {v : Value} (h : KidsAt S w n l v) : KidsAt (fun d => d < w.heap.size) w n l v :=
  KidsAt.mono (fun _ _ _ _ h => h) (fun _ h => h.2) _ _ _ (KidsAt.tight _ _ _ h)
theorem fourB (w : World) (a b c d : Int) (f : Nat × Nat) : BytesIn (fun q => q < (w.alloc (.cells #[.int .u8 a, .int .u8 b, .int .u8 c, .int .u8 d] 5 f)).heap.size) (w.alloc (.cells #[.int .u8 a, .int .u8 b, .int .u8 c, .int .u8 d] 5 f)) (.slice (some ⟨w.heap.size, 0, none⟩) 4 4) [a, b, c, d] := by
  refine ⟨_, 4, rfl, by simp, by simp, .inr ⟨w.heap.size, 0, rfl, by simp, fun i x hx => ?_⟩⟩
  have hg : (w.alloc (.cells #[.int .u8 a, .int .u8 b, .int .u8 c, .int .u8 d] 5 f)).heap[w.heap.size]? = some (.cells #[.int .u8 a, .int .u8 b, .int .u8 c, .int .u8 d] 5 f) := by
    show (w.heap.push _)[w.heap.size]? = _
    simp
  unfold World.cell?
  simp only [hg, Nat.zero_add]
  match i, hx with
  | 0, hx => simp at hx; subst hx; rfl
  | 1, hx => simp at hx; subst hx; rfl
  | 2, hx => simp at hx; subst hx; rfl
  | 3, hx => simp at hx; subst hx; rfl
theorem bytes_keep {S : Nat → Prop} {w w' : World} {v : Value} {bs : List Int} (h : BytesIn S w v bs) (hk : Kept w w') : BytesIn S w' v bs := by
  obtain ⟨a, c, e, h1, h2, h3⟩ := h
  refine ⟨a, c, e, h1, h2, ?_⟩
  rcases h3 with h3 | ⟨g, o, e, hs, h4⟩
  · exact .inl h3
  · exact .inr ⟨g, o, e, hs, fun i x hx => grown_cell hk (h4 i x hx)⟩
theorem bytes_all {S S' : Nat → Prop} {w : World} {v : Value} {bs : List Int} (h : BytesIn S w v bs) (hS : ∀ d, S d → S' d) : BytesIn S' w v bs := by
  obtain ⟨a, c, e, h1, h2, h3⟩ := h
  refine ⟨a, c, e, h1, h2, ?_⟩
  rcases h3 with h3 | ⟨g, o, e, hs, h4⟩
  · exact .inl h3
  · exact .inr ⟨g, o, e, hS g hs, h4⟩
theorem kept_allocF {w W : World} (h : Kept w W) (o : Obj) : Kept w (W.alloc o) := Kept.of (h.below.alloc h.size _)
/-- The pattern with its first part turned. -/
def turnP {m : Nat} (p : PatN (m + 1 + 1)) : PatN (m + 1 + 1) := (show Int × Int × Int × Int × Int × List (PatN (m + 1)) from (kind p, from_ p, to_ p, min_ p, max_ p, leafQ m 98 113 :: (kids p).tail))
theorem four_set {w W : World} {gb : Nat} {a b c d x : Int} {f : Nat × Nat} (hg : w.heap[gb]? = some (.cells #[.int .u8 a, .int .u8 b, .int .u8 c, .int .u8 d] 5 f)) (hf : f = (4, 5)) (hk : Kept w W) : W.cell? ⟨gb, 0, none⟩ = some (.int .u8 a) ∧ W.frozen? ⟨gb, 0, none⟩ = false ∧ BytesIn (fun q => q < (W.setCell ⟨gb, 0, none⟩ (.int .u8 x)).heap.size) (W.setCell ⟨gb, 0, none⟩ (.int .u8 x)) (.slice (some ⟨gb, 0, none⟩) 4 4) [x, b, c, d] := by
  have hl : gb < w.heap.size := (Array.getElem?_eq_some_iff.1 hg).1
  have hg2 : W.heap[gb]? = some (.cells #[.int .u8 a, .int .u8 b, .int .u8 c, .int .u8 d] 5 f) := (hk.2.2.2.2 gb hl).trans hg
  have hl2 : gb < W.heap.size := (Array.getElem?_eq_some_iff.1 hg2).1
  have he : W.heap[gb] = .cells #[.int .u8 a, .int .u8 b, .int .u8 c, .int .u8 d] 5 f := by rw [Array.getElem?_eq_getElem hl2] at hg2; exact Option.some.inj hg2
  have hg3 : (W.setCell ⟨gb, 0, none⟩ (.int .u8 x)).heap[gb]? = some (.cells #[.int .u8 x, .int .u8 b, .int .u8 c, .int .u8 d] 5 f) := by simp [World.setCell, Array.getElem_modify, hl2, he]
  refine ⟨by unfold World.cell?; simp only [hg2]; rfl, by unfold World.frozen?; simp only [hg2]; subst hf; rfl, _, 4, rfl, by simp, by simp, .inr ⟨gb, 0, rfl, (Array.getElem?_eq_some_iff.1 hg3).1, fun i y hy => ?_⟩⟩
  unfold World.cell?
  simp only [hg3, Nat.zero_add]
  match i, hy with
  | 0, hy => simp at hy; subst hy; rfl
  | 1, hy => simp at hy; subst hy; rfl
  | 2, hy => simp at hy; subst hy; rfl
  | 3, hy => simp at hy; subst hy; rfl

theorem put6_heap {W : World} {g d : Nat} {x0 x1 x2 x3 x4 x5 : Value} (hd : d ≠ g) : ((((((W.setCell ⟨g, 0, none⟩ x0).setCell ⟨g, 1, none⟩ x1).setCell ⟨g, 2, none⟩ x2).setCell ⟨g, 3, none⟩ x3).setCell ⟨g, 4, none⟩ x4).setCell ⟨g, 5, none⟩ x5).heap[d]? = W.heap[d]? :=
  (Below.heap_setCell _ _ _ _ hd).trans ((Below.heap_setCell _ _ _ _ hd).trans ((Below.heap_setCell _ _ _ _ hd).trans ((Below.heap_setCell _ _ _ _ hd).trans ((Below.heap_setCell _ _ _ _ hd).trans (Below.heap_setCell _ _ _ _ hd)))))
theorem row_first {w : World} {g M : Nat} (h : RowAt w g M) (hM : 0 < M) : ∃ y0 y1 y2 y3 y4 y5, (w.cell? ⟨g, 0, none⟩ = some y0 ∧ w.cell? ⟨g, 1, none⟩ = some y1 ∧ w.cell? ⟨g, 2, none⟩ = some y2 ∧ w.cell? ⟨g, 3, none⟩ = some y3 ∧ w.cell? ⟨g, 4, none⟩ = some y4 ∧ w.cell? ⟨g, 5, none⟩ = some y5) ∧ w.frozen? ⟨g, 0, none⟩ = false ∧ w.frozen? ⟨g, 1, none⟩ = false ∧ w.frozen? ⟨g, 2, none⟩ = false ∧ w.frozen? ⟨g, 3, none⟩ = false ∧ w.frozen? ⟨g, 4, none⟩ = false ∧ w.frozen? ⟨g, 5, none⟩ = false := by
  obtain ⟨⟨y0, h0⟩, z0⟩ := h.cell (k := 0) (by omega)
  obtain ⟨⟨y1, h1⟩, z1⟩ := h.cell (k := 1) (by omega)
  obtain ⟨⟨y2, h2⟩, z2⟩ := h.cell (k := 2) (by omega)
  obtain ⟨⟨y3, h3⟩, z3⟩ := h.cell (k := 3) (by omega)
  obtain ⟨⟨y4, h4⟩, z4⟩ := h.cell (k := 4) (by omega)
  obtain ⟨⟨y5, h5⟩, z5⟩ := h.cell (k := 5) (by omega)
  exact ⟨y0, y1, y2, y3, y4, y5, ⟨h0, h1, h2, h3, h4, h5⟩, z0, z1, z2, z3, z4, z5⟩

end Ex
end Go.Proofs.YtfajoknacfjedaaGreatDoor
