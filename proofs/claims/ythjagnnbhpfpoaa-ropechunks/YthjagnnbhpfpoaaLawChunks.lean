import Derived.Test.YthjagnnbhpfpoaaChAll
import Derived.RangeFuncLeaves
import Derived.OwnWalkIn
import Derived.Laws.EntriesVeiled
namespace Go.Proofs.Ythjagnnbhpfpoaa
open Go.RowKit
attribute [local go_sem] Oper.semAt_some
namespace Rope
attribute [local simp] wide_fn

theorem Script.mono {n0 n1 n : Nat} {w : World} {a : Option Addr} (h : Script w n0 a n) (hn : n0 ≤ n1) : Script w n1 a n := by
  intro i hi
  obtain ⟨c, o, kd, rr, aa, bb, d, ds, h1, h2, h3, h4, h5, h6, h7, h8, h9⟩ := h i hi
  exact ⟨c, o, kd, rr, aa, bb, d, ds, h1, by omega, h3, h4, h5, h6, h7, h8.mono (Same.refl _ _) (fun b hb => by omega), h9⟩
theorem built_kept (a : Option Addr) (n cap : Nat) (w0 w : World) (hk : Kept w0 w) (hs : Script w0 w0.heap.size a n) (hn : n ≤ 140737488351232) :
    Calls Try.prog 26 #[.slice a n cap] w fun e w' => ∃ bP bR xs, e = .returned (.tuple #[.pointer (some ⟨bP, 0, none⟩), .pointer (some ⟨bR, 0, none⟩), .bool true]) ∧ Hid (Kept w w') ∧ Hid (RopeAt All w' (.pointer (some ⟨bP, 0, none⟩)) xs) ∧ Hid (RefAt All w' (.pointer (some ⟨bR, 0, none⟩)) xs) := by
  refine (built_any w.heap.size a n cap w ((hs.low hk.below).mono hk.size) (Nat.le_refl _) hn).mono ?_
  rintro e w' ⟨bP, bR, xs, S, rfl, hb, _, hp, hr⟩
  exact ⟨bP, bR, xs, rfl, Kept.of hb.out, hp.out.mono (Same.refl _ _) (fun _ _ => trivial), hr.out.mono (Same.refl _ _) (fun _ _ => trivial)⟩
theorem leaves_marks {F : Fence} {n : Nat} {P : Program} {fn : Func} {tmps : Array Value} {R : Ending → World → Prop} (Ds : List Nat) : ∀ W : World, Ds.Nodup → (∀ D, D ∈ Ds → W.heap[D]? = some (.deferred (some []))) →
    (∀ W' : World, W'.os = W.os → W'.tape = W.tape → W'.output = W.output → W'.heap.size = W.heap.size → (∀ k, k ∉ Ds → W'.heap[k]? = W.heap[k]?) → LeavesIn F n P fn tmps R [] .returning W') →
    LeavesInM F n P fn tmps R (Ds.map fun D => ({ target := .collected D, args := #[] } : Deferred)) .returning W := by
  induction Ds with
  | nil => intro W _ _ h; exact h W rfl rfl rfl rfl (fun _ _ => rfl)
  | cons D Ds ih =>
    intro W hnd hd h
    obtain ⟨hn1, hn2⟩ := List.nodup_cons.1 hnd
    refine ⟨by simp, .inl ⟨D, _, rfl, run_takeDeferred (hd D (List.mem_cons_self)), ?_⟩⟩
    refine ih _ hn2 (fun D' hD' => ?_) (fun W' e1 e2 e3 e4 e5 => h W' (e1.trans rfl) (e2.trans rfl) (e3.trans rfl) (by rw [e4]; simp) (fun k hk => ?_))
    · rw [World.putObj_heap_other (show D' ≠ D from fun e => hn1 (e ▸ hD'))]; exact hd D' (List.mem_cons_of_mem _ hD')
    · rw [e5 k (fun hm => hk (List.mem_cons_of_mem _ hm))]
      exact World.putObj_heap_other (fun e => hk (by rw [e]; exact List.mem_cons_self))
def marks (Ds : List Nat) : List Deferred := Ds.map fun D => ({ target := .collected D, args := #[] } : Deferred)
def nth : List Value → Nat → Value
  | [], _ => undef
  | x :: _, 0 => x
  | _ :: t, k + 1 => nth t k
theorem frame_to {c : Code} {Q : Exit → Act → World → Prop} {a : Act} {w : World} {R : Act → Prop} (h : R a) (k : ∀ a', R a' → c.wp Try.prog Q a' w) : c.wp Try.prog Q a w := k a h
theorem low_sames {n0 : Nat} {w w' : World} (h : Below n0 w w') : Same (fun b => b < n0) w w' :=
  ⟨fun b o v hb hc => low_cell h hb hc, fun b v hb _ hp o => by rw [World.frozen?_of_block (w := w) (a := ⟨b, o, none⟩) (h.block b hb)]; exact hp o⟩
/-- RopeChunks' frame between two rounds. -/
def ChF (bf bs bq bP br bsq bn : Nat) (ds : List Deferred) (a' : Act) : Prop :=
  ∃ T : Nat → Value, a' = { tmps := #[T 0, T 1, T 2, T 3, Value.pointer (some { block := bf, off := 0 }), Value.pointer (some { block := bs, off := 0 }), Value.pointer (some { block := bq, off := 0 }), Value.pointer (some { block := bP, off := 0 }), Value.pointer (some { block := br, off := 0 }), T 9, Value.pointer (some { block := bsq, off := 0 }), T 11, Value.pointer (some { block := bn, off := 0 }), T 13, T 14, T 15, T 16, T 17, T 18, T 19, T 20, T 21, T 22, T 23, T 24, T 25, T 26, T 27, T 28, T 29, T 30, T 31, T 32, T 33, T 34, T 35, T 36, T 37, T 38, T 39, T 40, T 41, T 42, T 43, T 44, T 45, T 46, T 47, T 48, T 49, T 50, T 51, T 52, T 53, T 54, T 55, T 56, T 57, T 58, T 59, T 60, T 61, T 62, T 63, T 64, T 65, T 66, T 67, T 68, T 69, T 70, T 71, T 72, T 73, T 74, T 75, T 76, T 77, T 78, T 79, T 80, T 81, T 82, T 83, T 84, T 85, T 86, T 87, T 88, T 89, T 90, T 91, T 92, T 93, T 94, T 95, T 96, T 97, T 98, T 99, T 100, T 101, T 102, T 103, T 104, T 105, T 106, T 107, T 108, T 109, T 110, T 111, T 112, T 113, T 114, T 115, T 116, T 117, T 118, T 119, T 120, T 121, T 122, T 123, T 124, T 125, T 126, T 127, T 128, T 129, T 130, T 131, T 132, T 133, T 134, T 135, T 136, T 137, T 138, T 139, T 140, T 141, T 142, T 143, T 144, T 145, T 146, T 147, T 148, T 149, T 150, T 151, T 152, T 153, T 154, T 155, T 156, T 157, T 158, T 159, T 160, T 161, T 162, T 163, T 164, T 165, T 166, T 167, T 168, T 169, T 170, T 171, T 172, T 173, T 174, T 175, T 176, T 177, T 178, T 179, T 180, T 181, T 182, T 183, T 184, T 185, T 186, T 187, T 188, T 189, T 190, T 191, T 192, T 193, T 194, T 195, T 196, T 197, T 198, T 199, T 200, T 201, T 202, T 203, T 204, T 205, T 206, T 207, T 208, T 209], defers := ds }
theorem chF_of {bf bs bq bP br bsq bn : Nat} {ds : List Deferred} (l : List Value) (h : l = [nth l 0, nth l 1, nth l 2, nth l 3, Value.pointer (some { block := bf, off := 0 }), Value.pointer (some { block := bs, off := 0 }), Value.pointer (some { block := bq, off := 0 }), Value.pointer (some { block := bP, off := 0 }), Value.pointer (some { block := br, off := 0 }), nth l 9, Value.pointer (some { block := bsq, off := 0 }), nth l 11, Value.pointer (some { block := bn, off := 0 }), nth l 13, nth l 14, nth l 15, nth l 16, nth l 17, nth l 18, nth l 19, nth l 20, nth l 21, nth l 22, nth l 23, nth l 24, nth l 25, nth l 26, nth l 27, nth l 28, nth l 29, nth l 30, nth l 31, nth l 32, nth l 33, nth l 34, nth l 35, nth l 36, nth l 37, nth l 38, nth l 39, nth l 40, nth l 41, nth l 42, nth l 43, nth l 44, nth l 45, nth l 46, nth l 47, nth l 48, nth l 49, nth l 50, nth l 51, nth l 52, nth l 53, nth l 54, nth l 55, nth l 56, nth l 57, nth l 58, nth l 59, nth l 60, nth l 61, nth l 62, nth l 63, nth l 64, nth l 65, nth l 66, nth l 67, nth l 68, nth l 69, nth l 70, nth l 71, nth l 72, nth l 73, nth l 74, nth l 75, nth l 76, nth l 77, nth l 78, nth l 79, nth l 80, nth l 81, nth l 82, nth l 83, nth l 84, nth l 85, nth l 86, nth l 87, nth l 88, nth l 89, nth l 90, nth l 91, nth l 92, nth l 93, nth l 94, nth l 95, nth l 96, nth l 97, nth l 98, nth l 99, nth l 100, nth l 101, nth l 102, nth l 103, nth l 104, nth l 105, nth l 106, nth l 107, nth l 108, nth l 109, nth l 110, nth l 111, nth l 112, nth l 113, nth l 114, nth l 115, nth l 116, nth l 117, nth l 118, nth l 119, nth l 120, nth l 121, nth l 122, nth l 123, nth l 124, nth l 125, nth l 126, nth l 127, nth l 128, nth l 129, nth l 130, nth l 131, nth l 132, nth l 133, nth l 134, nth l 135, nth l 136, nth l 137, nth l 138, nth l 139, nth l 140, nth l 141, nth l 142, nth l 143, nth l 144, nth l 145, nth l 146, nth l 147, nth l 148, nth l 149, nth l 150, nth l 151, nth l 152, nth l 153, nth l 154, nth l 155, nth l 156, nth l 157, nth l 158, nth l 159, nth l 160, nth l 161, nth l 162, nth l 163, nth l 164, nth l 165, nth l 166, nth l 167, nth l 168, nth l 169, nth l 170, nth l 171, nth l 172, nth l 173, nth l 174, nth l 175, nth l 176, nth l 177, nth l 178, nth l 179, nth l 180, nth l 181, nth l 182, nth l 183, nth l 184, nth l 185, nth l 186, nth l 187, nth l 188, nth l 189, nth l 190, nth l 191, nth l 192, nth l 193, nth l 194, nth l 195, nth l 196, nth l 197, nth l 198, nth l 199, nth l 200, nth l 201, nth l 202, nth l 203, nth l 204, nth l 205, nth l 206, nth l 207, nth l 208, nth l 209]) :
    ChF bf bs bq bP br bsq bn ds { tmps := l.toArray, defers := ds } := ⟨nth l, by rw [← h]⟩
/-- .. ahead of a range. -/
def ChG (bf bs bq bP br bsq bn ba bp : Nat) (v65 : Value) (ds : List Deferred) (a' : Act) : Prop :=
  ∃ T : Nat → Value, a' = { tmps := #[T 0, T 1, T 2, T 3, Value.pointer (some { block := bf, off := 0 }), Value.pointer (some { block := bs, off := 0 }), Value.pointer (some { block := bq, off := 0 }), Value.pointer (some { block := bP, off := 0 }), Value.pointer (some { block := br, off := 0 }), T 9, Value.pointer (some { block := bsq, off := 0 }), T 11, Value.pointer (some { block := bn, off := 0 }), Value.pointer (some { block := ba, off := 0 }), Value.pointer (some { block := bp, off := 0 }), T 15, T 16, T 17, T 18, T 19, T 20, T 21, T 22, T 23, T 24, T 25, T 26, T 27, T 28, T 29, T 30, T 31, T 32, T 33, T 34, T 35, T 36, T 37, T 38, T 39, T 40, T 41, T 42, T 43, T 44, T 45, T 46, T 47, T 48, T 49, T 50, T 51, T 52, T 53, T 54, T 55, T 56, T 57, T 58, T 59, T 60, T 61, T 62, T 63, T 64, v65, T 66, T 67, T 68, T 69, T 70, T 71, T 72, T 73, T 74, T 75, T 76, T 77, T 78, T 79, T 80, T 81, T 82, T 83, T 84, T 85, T 86, T 87, T 88, T 89, T 90, T 91, T 92, T 93, T 94, T 95, T 96, T 97, T 98, T 99, T 100, T 101, T 102, T 103, T 104, T 105, T 106, T 107, T 108, T 109, T 110, T 111, T 112, T 113, T 114, T 115, T 116, T 117, T 118, T 119, T 120, T 121, T 122, T 123, T 124, T 125, T 126, T 127, T 128, T 129, T 130, T 131, T 132, T 133, T 134, T 135, T 136, T 137, T 138, T 139, T 140, T 141, T 142, T 143, T 144, T 145, T 146, T 147, T 148, T 149, T 150, T 151, T 152, T 153, T 154, T 155, T 156, T 157, T 158, T 159, T 160, T 161, T 162, T 163, T 164, T 165, T 166, T 167, T 168, T 169, T 170, T 171, T 172, T 173, T 174, T 175, T 176, T 177, T 178, T 179, T 180, T 181, T 182, T 183, T 184, T 185, T 186, T 187, T 188, T 189, T 190, T 191, T 192, T 193, T 194, T 195, T 196, T 197, T 198, T 199, T 200, T 201, T 202, T 203, T 204, T 205, T 206, T 207, T 208, T 209], defers := ds }
theorem chG_of {bf bs bq bP br bsq bn ba bp : Nat} {v65 : Value} {ds : List Deferred} (l : List Value) (h : l = [nth l 0, nth l 1, nth l 2, nth l 3, Value.pointer (some { block := bf, off := 0 }), Value.pointer (some { block := bs, off := 0 }), Value.pointer (some { block := bq, off := 0 }), Value.pointer (some { block := bP, off := 0 }), Value.pointer (some { block := br, off := 0 }), nth l 9, Value.pointer (some { block := bsq, off := 0 }), nth l 11, Value.pointer (some { block := bn, off := 0 }), Value.pointer (some { block := ba, off := 0 }), Value.pointer (some { block := bp, off := 0 }), nth l 15, nth l 16, nth l 17, nth l 18, nth l 19, nth l 20, nth l 21, nth l 22, nth l 23, nth l 24, nth l 25, nth l 26, nth l 27, nth l 28, nth l 29, nth l 30, nth l 31, nth l 32, nth l 33, nth l 34, nth l 35, nth l 36, nth l 37, nth l 38, nth l 39, nth l 40, nth l 41, nth l 42, nth l 43, nth l 44, nth l 45, nth l 46, nth l 47, nth l 48, nth l 49, nth l 50, nth l 51, nth l 52, nth l 53, nth l 54, nth l 55, nth l 56, nth l 57, nth l 58, nth l 59, nth l 60, nth l 61, nth l 62, nth l 63, nth l 64, v65, nth l 66, nth l 67, nth l 68, nth l 69, nth l 70, nth l 71, nth l 72, nth l 73, nth l 74, nth l 75, nth l 76, nth l 77, nth l 78, nth l 79, nth l 80, nth l 81, nth l 82, nth l 83, nth l 84, nth l 85, nth l 86, nth l 87, nth l 88, nth l 89, nth l 90, nth l 91, nth l 92, nth l 93, nth l 94, nth l 95, nth l 96, nth l 97, nth l 98, nth l 99, nth l 100, nth l 101, nth l 102, nth l 103, nth l 104, nth l 105, nth l 106, nth l 107, nth l 108, nth l 109, nth l 110, nth l 111, nth l 112, nth l 113, nth l 114, nth l 115, nth l 116, nth l 117, nth l 118, nth l 119, nth l 120, nth l 121, nth l 122, nth l 123, nth l 124, nth l 125, nth l 126, nth l 127, nth l 128, nth l 129, nth l 130, nth l 131, nth l 132, nth l 133, nth l 134, nth l 135, nth l 136, nth l 137, nth l 138, nth l 139, nth l 140, nth l 141, nth l 142, nth l 143, nth l 144, nth l 145, nth l 146, nth l 147, nth l 148, nth l 149, nth l 150, nth l 151, nth l 152, nth l 153, nth l 154, nth l 155, nth l 156, nth l 157, nth l 158, nth l 159, nth l 160, nth l 161, nth l 162, nth l 163, nth l 164, nth l 165, nth l 166, nth l 167, nth l 168, nth l 169, nth l 170, nth l 171, nth l 172, nth l 173, nth l 174, nth l 175, nth l 176, nth l 177, nth l 178, nth l 179, nth l 180, nth l 181, nth l 182, nth l 183, nth l 184, nth l 185, nth l 186, nth l 187, nth l 188, nth l 189, nth l 190, nth l 191, nth l 192, nth l 193, nth l 194, nth l 195, nth l 196, nth l 197, nth l 198, nth l 199, nth l 200, nth l 201, nth l 202, nth l 203, nth l 204, nth l 205, nth l 206, nth l 207, nth l 208, nth l 209]) :
    ChG bf bs bq bP br bsq bn ba bp v65 ds { tmps := l.toArray, defers := ds } := ⟨nth l, by rw [← h]⟩
/-- .. within a round. -/
def ChR (bf bs bq bP br bsq bn ba bp blk len bcap : Nat) (v17 : Value) (a' : Act) : Prop :=
  ∃ T : Nat → Value, a' = { tmps := #[T 0, T 1, T 2, T 3, Value.pointer (some { block := bf, off := 0 }), Value.pointer (some { block := bs, off := 0 }), Value.pointer (some { block := bq, off := 0 }), Value.pointer (some { block := bP, off := 0 }), Value.pointer (some { block := br, off := 0 }), T 9, Value.pointer (some { block := bsq, off := 0 }), T 11, Value.pointer (some { block := bn, off := 0 }), Value.pointer (some { block := ba, off := 0 }), Value.pointer (some { block := bp, off := 0 }), T 15, Value.slice (some { block := blk, off := 0 }) len bcap, v17, T 18, T 19, T 20, T 21, T 22, T 23, T 24, T 25, T 26, T 27, T 28, T 29, T 30, T 31, T 32, T 33, T 34, T 35, T 36, T 37, T 38, T 39, T 40, T 41, T 42, T 43, T 44, T 45, T 46, T 47, T 48, T 49, T 50, T 51, T 52, T 53, T 54, T 55, T 56, T 57, T 58, T 59, T 60, T 61, T 62, T 63, T 64, T 65, T 66, T 67, T 68, T 69, T 70, T 71, T 72, T 73, T 74, T 75, T 76, T 77, T 78, T 79, T 80, T 81, T 82, T 83, T 84, T 85, T 86, T 87, T 88, T 89, T 90, T 91, T 92, T 93, T 94, T 95, T 96, T 97, T 98, T 99, T 100, T 101, T 102, T 103, T 104, T 105, T 106, T 107, T 108, T 109, T 110, T 111, T 112, T 113, T 114, T 115, T 116, T 117, T 118, T 119, T 120, T 121, T 122, T 123, T 124, T 125, T 126, T 127, T 128, T 129, T 130, T 131, T 132, T 133, T 134, T 135, T 136, T 137, T 138, T 139, T 140, T 141, T 142, T 143, T 144, T 145, T 146, T 147, T 148, T 149, T 150, T 151, T 152, T 153, T 154, T 155, T 156, T 157, T 158, T 159, T 160, T 161, T 162, T 163, T 164, T 165, T 166, T 167, T 168, T 169, T 170, T 171, T 172, T 173, T 174, T 175, T 176, T 177, T 178, T 179, T 180, T 181, T 182, T 183, T 184, T 185, T 186, T 187, T 188, T 189, T 190, T 191, T 192, T 193, T 194, T 195, T 196, T 197, T 198, T 199, T 200, T 201, T 202, T 203, T 204, T 205, T 206, T 207, T 208, T 209], defers := [] }
theorem chR_of {bf bs bq bP br bsq bn ba bp blk len bcap : Nat} {v17 : Value} (l : List Value) (h : l = [nth l 0, nth l 1, nth l 2, nth l 3, Value.pointer (some { block := bf, off := 0 }), Value.pointer (some { block := bs, off := 0 }), Value.pointer (some { block := bq, off := 0 }), Value.pointer (some { block := bP, off := 0 }), Value.pointer (some { block := br, off := 0 }), nth l 9, Value.pointer (some { block := bsq, off := 0 }), nth l 11, Value.pointer (some { block := bn, off := 0 }), Value.pointer (some { block := ba, off := 0 }), Value.pointer (some { block := bp, off := 0 }), nth l 15, Value.slice (some { block := blk, off := 0 }) len bcap, v17, nth l 18, nth l 19, nth l 20, nth l 21, nth l 22, nth l 23, nth l 24, nth l 25, nth l 26, nth l 27, nth l 28, nth l 29, nth l 30, nth l 31, nth l 32, nth l 33, nth l 34, nth l 35, nth l 36, nth l 37, nth l 38, nth l 39, nth l 40, nth l 41, nth l 42, nth l 43, nth l 44, nth l 45, nth l 46, nth l 47, nth l 48, nth l 49, nth l 50, nth l 51, nth l 52, nth l 53, nth l 54, nth l 55, nth l 56, nth l 57, nth l 58, nth l 59, nth l 60, nth l 61, nth l 62, nth l 63, nth l 64, nth l 65, nth l 66, nth l 67, nth l 68, nth l 69, nth l 70, nth l 71, nth l 72, nth l 73, nth l 74, nth l 75, nth l 76, nth l 77, nth l 78, nth l 79, nth l 80, nth l 81, nth l 82, nth l 83, nth l 84, nth l 85, nth l 86, nth l 87, nth l 88, nth l 89, nth l 90, nth l 91, nth l 92, nth l 93, nth l 94, nth l 95, nth l 96, nth l 97, nth l 98, nth l 99, nth l 100, nth l 101, nth l 102, nth l 103, nth l 104, nth l 105, nth l 106, nth l 107, nth l 108, nth l 109, nth l 110, nth l 111, nth l 112, nth l 113, nth l 114, nth l 115, nth l 116, nth l 117, nth l 118, nth l 119, nth l 120, nth l 121, nth l 122, nth l 123, nth l 124, nth l 125, nth l 126, nth l 127, nth l 128, nth l 129, nth l 130, nth l 131, nth l 132, nth l 133, nth l 134, nth l 135, nth l 136, nth l 137, nth l 138, nth l 139, nth l 140, nth l 141, nth l 142, nth l 143, nth l 144, nth l 145, nth l 146, nth l 147, nth l 148, nth l 149, nth l 150, nth l 151, nth l 152, nth l 153, nth l 154, nth l 155, nth l 156, nth l 157, nth l 158, nth l 159, nth l 160, nth l 161, nth l 162, nth l 163, nth l 164, nth l 165, nth l 166, nth l 167, nth l 168, nth l 169, nth l 170, nth l 171, nth l 172, nth l 173, nth l 174, nth l 175, nth l 176, nth l 177, nth l 178, nth l 179, nth l 180, nth l 181, nth l 182, nth l 183, nth l 184, nth l 185, nth l 186, nth l 187, nth l 188, nth l 189, nth l 190, nth l 191, nth l 192, nth l 193, nth l 194, nth l 195, nth l 196, nth l 197, nth l 198, nth l 199, nth l 200, nth l 201, nth l 202, nth l 203, nth l 204, nth l 205, nth l 206, nth l 207, nth l 208, nth l 209]) :
    ChR bf bs bq bP br bsq bn ba bp blk len bcap v17 { tmps := l.toArray, defers := [] } := ⟨nth l, by rw [← h]⟩
/-- A piece is turned, byte by byte. -/
def Turned (W1 w' : World) (blk len bcap : Nat) : Prop := AllBut (fun k => k = blk) W1 w' ∧ ∃ G, RowOf w' blk G ∧ G.length = bcap ∧ ∀ i, i < len → ∃ y : Int, G[i]? = some (.int .u8 y)
def ChL (bf bs bq bP br bsq bn ba bp blk len bcap : Nat) (W1 : World) (a' : Act) (w' : World) : Prop :=
  ∃ j : Nat, ChR bf bs bq bP br bsq bn ba bp blk len bcap (.int .i64 (j : Int)) a' ∧ j ≤ len ∧ Hid (Turned W1 w' blk len bcap)
theorem Turned.set {W1 w' : World} {blk len bcap j : Nat} (h : Turned W1 w' blk len bcap) (y : Int) : Turned W1 (w'.setCell ⟨blk, j, none⟩ (.int .u8 y)) blk len bcap := by
  obtain ⟨h1, G, h2, h3, h4⟩ := h
  refine ⟨h1.trans (AllBut.set (X := fun k => k = blk) rfl _), G.set j (.int .u8 y), h2.set _, by rw [List.length_set]; exact h3, fun i hi => ?_⟩
  obtain ⟨z, hz⟩ := h4 i hi
  by_cases hij : j = i
  · subst hij
    exact ⟨y, by rw [List.getElem?_set_self ((List.getElem?_eq_some_iff.1 hz).1)]⟩
  · exact ⟨z, by rw [List.getElem?_set_ne hij]; exact hz⟩
theorem Turned.at {W1 w' : World} {blk len bcap j : Nat} (h : Turned W1 w' blk len bcap) (hj : j < len) : ∃ y : Int, w'.cell? ⟨blk, j, none⟩ = some (.int .u8 y) ∧ w'.frozen? ⟨blk, j, none⟩ = false := by
  obtain ⟨h1, G, h2, h3, h4⟩ := h
  obtain ⟨y, hy⟩ := h4 j hj
  obtain ⟨hl, he⟩ := List.getElem?_eq_some_iff.1 hy
  exact ⟨y, by rw [h2.cell hl, he], h2.frozen⟩
/-- .. ahead of the inner range. -/
def ChH (bf bs bq bP br bsq bn ba bp bi : Nat) (v137 : Value) (a' : Act) : Prop :=
  ∃ T : Nat → Value, a' = { tmps := #[T 0, T 1, T 2, T 3, Value.pointer (some { block := bf, off := 0 }), Value.pointer (some { block := bs, off := 0 }), Value.pointer (some { block := bq, off := 0 }), Value.pointer (some { block := bP, off := 0 }), Value.pointer (some { block := br, off := 0 }), T 9, Value.pointer (some { block := bsq, off := 0 }), T 11, Value.pointer (some { block := bn, off := 0 }), Value.pointer (some { block := ba, off := 0 }), Value.pointer (some { block := bp, off := 0 }), T 15, T 16, T 17, Value.pointer (some { block := bi, off := 0 }), T 19, T 20, T 21, T 22, T 23, T 24, T 25, T 26, T 27, T 28, T 29, T 30, T 31, T 32, T 33, T 34, T 35, T 36, T 37, T 38, T 39, T 40, T 41, T 42, T 43, T 44, T 45, T 46, T 47, T 48, T 49, T 50, T 51, T 52, T 53, T 54, T 55, T 56, T 57, T 58, T 59, T 60, T 61, T 62, T 63, T 64, T 65, T 66, T 67, T 68, T 69, T 70, T 71, T 72, T 73, T 74, T 75, T 76, T 77, T 78, T 79, T 80, T 81, T 82, T 83, T 84, T 85, T 86, T 87, T 88, T 89, T 90, T 91, T 92, T 93, T 94, T 95, T 96, T 97, T 98, T 99, T 100, T 101, T 102, T 103, T 104, T 105, T 106, T 107, T 108, T 109, T 110, T 111, T 112, T 113, T 114, T 115, T 116, T 117, T 118, T 119, T 120, T 121, T 122, T 123, T 124, T 125, T 126, T 127, T 128, T 129, T 130, T 131, T 132, T 133, T 134, T 135, T 136, v137, T 138, T 139, T 140, T 141, T 142, T 143, T 144, T 145, T 146, T 147, T 148, T 149, T 150, T 151, T 152, T 153, T 154, T 155, T 156, T 157, T 158, T 159, T 160, T 161, T 162, T 163, T 164, T 165, T 166, T 167, T 168, T 169, T 170, T 171, T 172, T 173, T 174, T 175, T 176, T 177, T 178, T 179, T 180, T 181, T 182, T 183, T 184, T 185, T 186, T 187, T 188, T 189, T 190, T 191, T 192, T 193, T 194, T 195, T 196, T 197, T 198, T 199, T 200, T 201, T 202, T 203, T 204, T 205, T 206, T 207, T 208, T 209], defers := [] }
theorem chH_of {bf bs bq bP br bsq bn ba bp bi : Nat} {v137 : Value} (l : List Value) (h : l = [nth l 0, nth l 1, nth l 2, nth l 3, Value.pointer (some { block := bf, off := 0 }), Value.pointer (some { block := bs, off := 0 }), Value.pointer (some { block := bq, off := 0 }), Value.pointer (some { block := bP, off := 0 }), Value.pointer (some { block := br, off := 0 }), nth l 9, Value.pointer (some { block := bsq, off := 0 }), nth l 11, Value.pointer (some { block := bn, off := 0 }), Value.pointer (some { block := ba, off := 0 }), Value.pointer (some { block := bp, off := 0 }), nth l 15, nth l 16, nth l 17, Value.pointer (some { block := bi, off := 0 }), nth l 19, nth l 20, nth l 21, nth l 22, nth l 23, nth l 24, nth l 25, nth l 26, nth l 27, nth l 28, nth l 29, nth l 30, nth l 31, nth l 32, nth l 33, nth l 34, nth l 35, nth l 36, nth l 37, nth l 38, nth l 39, nth l 40, nth l 41, nth l 42, nth l 43, nth l 44, nth l 45, nth l 46, nth l 47, nth l 48, nth l 49, nth l 50, nth l 51, nth l 52, nth l 53, nth l 54, nth l 55, nth l 56, nth l 57, nth l 58, nth l 59, nth l 60, nth l 61, nth l 62, nth l 63, nth l 64, nth l 65, nth l 66, nth l 67, nth l 68, nth l 69, nth l 70, nth l 71, nth l 72, nth l 73, nth l 74, nth l 75, nth l 76, nth l 77, nth l 78, nth l 79, nth l 80, nth l 81, nth l 82, nth l 83, nth l 84, nth l 85, nth l 86, nth l 87, nth l 88, nth l 89, nth l 90, nth l 91, nth l 92, nth l 93, nth l 94, nth l 95, nth l 96, nth l 97, nth l 98, nth l 99, nth l 100, nth l 101, nth l 102, nth l 103, nth l 104, nth l 105, nth l 106, nth l 107, nth l 108, nth l 109, nth l 110, nth l 111, nth l 112, nth l 113, nth l 114, nth l 115, nth l 116, nth l 117, nth l 118, nth l 119, nth l 120, nth l 121, nth l 122, nth l 123, nth l 124, nth l 125, nth l 126, nth l 127, nth l 128, nth l 129, nth l 130, nth l 131, nth l 132, nth l 133, nth l 134, nth l 135, nth l 136, v137, nth l 138, nth l 139, nth l 140, nth l 141, nth l 142, nth l 143, nth l 144, nth l 145, nth l 146, nth l 147, nth l 148, nth l 149, nth l 150, nth l 151, nth l 152, nth l 153, nth l 154, nth l 155, nth l 156, nth l 157, nth l 158, nth l 159, nth l 160, nth l 161, nth l 162, nth l 163, nth l 164, nth l 165, nth l 166, nth l 167, nth l 168, nth l 169, nth l 170, nth l 171, nth l 172, nth l 173, nth l 174, nth l 175, nth l 176, nth l 177, nth l 178, nth l 179, nth l 180, nth l 181, nth l 182, nth l 183, nth l 184, nth l 185, nth l 186, nth l 187, nth l 188, nth l 189, nth l 190, nth l 191, nth l 192, nth l 193, nth l 194, nth l 195, nth l 196, nth l 197, nth l 198, nth l 199, nth l 200, nth l 201, nth l 202, nth l 203, nth l 204, nth l 205, nth l 206, nth l 207, nth l 208, nth l 209]) :
    ChH bf bs bq bP br bsq bn ba bp bi v137 { tmps := l.toArray, defers := [] } := ⟨nth l, by rw [← h]⟩
theorem frame_toIn {F : Fence} {n : Nat} {c : Code} {Q : Exit → Act → World → Prop} {a : Act} {w : World} {R : Act → Prop} (h : R a) (k : ∀ a', R a' → c.wpIn F n Try.prog Q a' w) : c.wpIn F n Try.prog Q a w := k a h
/-- Between two rounds of the loop over n. -/
def ChO (bf bs bq bP br bsq : Nat) (w6 : World) (a' : Act) (w' : World) : Prop :=
  ∃ (k bn : Nat) (Ds : List Nat), ChF bf bs bq bP br bsq bn (marks Ds) a' ∧ k ≤ 3 ∧ Hid (Below w6.heap.size w6 w') ∧ w6.heap.size ≤ bn ∧ w'.cell? ⟨bn, 0, none⟩ = some (.int .i64 (k : Int)) ∧ w'.frozen? ⟨bn, 0, none⟩ = false ∧ Hid (Ds.Nodup ∧ ∀ D, D ∈ Ds → w6.heap.size ≤ D ∧ w'.heap[D]? = some (.deferred (some [])))
theorem ch_start {wr w7 : World} {f : Nat} (h : w7 = ((wr.alloc (.cells #[.int .i64 (f : Int)] 3)).alloc (.cells #[.int .i64 0] 3))) : ChI w7 wr.heap.size (wr.heap.size + 1) f [] w7 ∧ w7.heap.size = wr.heap.size + 2 ∧ Kept wr w7 := by
  obtain ⟨wa, hwa⟩ : ∃ wa, wr.alloc (.cells #[.int .i64 (f : Int)] 3) = wa := ⟨_, rfl⟩
  rw [hwa] at h
  have sa : wa.heap.size = wr.heap.size + 1 := by rw [← hwa]; simp
  have k1 : Kept wr wa := hwa ▸ (Kept.refl wr).alloc _ _
  have k2 : Kept wa w7 := h ▸ (Kept.refl wa).alloc _ _
  have c1 : wa.cell? ⟨wr.heap.size, 0, none⟩ = some (.int .i64 (f : Int)) := by rw [← hwa]; exact box_cell rfl 0 _ rfl
  refine ⟨⟨AllBut.refl _ _, grown_cell k2 c1, ?_, ?_, ?_, Nat.le_refl _⟩, by rw [h]; simp [sa], gtrans k1 k2⟩
  · rw [k2.below.frozen (p := ⟨wr.heap.size, 0, none⟩) (World.block_lt_of_cell? wa ⟨wr.heap.size, 0, none⟩ c1), ← hwa]; exact World.frozen?_alloc_new wr _ _ 0
  · rw [← sa, h]; exact box_cell rfl 0 _ rfl
  · rw [← sa, h]; exact World.frozen?_alloc_new wa _ _ 0
theorem seqT_round {α : Type} {blk : α → Nat} {n l0 : Nat} {P : Program} {g : Nat} {lb : Array Value} {encs : α → Array Value} {Hand : List α → α → World → Prop} {S Sp : List α → Prop} {T0 : Nat → Prop} {w : World}
    (h : SeqT blk Fence.wide n P g lb encs Hand S Sp T0 w) : SeqT blk (Fence.wide.inRound l0) n P g lb encs Hand S Sp T0 w := h
theorem ch_marks {w6 w7 wr W : World} {Ds : List Nat} {D : Nat} (h : Ds.Nodup ∧ ∀ D, D ∈ Ds → w6.heap.size ≤ D ∧ D < wr.heap.size ∧ w7.heap[D]? = some (.deferred (some []))) (hA : AllBut (fun k => k = wr.heap.size ∨ k = wr.heap.size + 1) w7 W) (hD : w7.heap.size ≤ D) (hdef : W.heap[D]? = some (.deferred (some []))) (hs7 : wr.heap.size + 2 ≤ w7.heap.size) (hs6 : w6.heap.size ≤ w7.heap.size) :
    (D :: Ds).Nodup ∧ ∀ D', D' ∈ D :: Ds → w6.heap.size ≤ D' ∧ W.heap[D']? = some (.deferred (some [])) := by
  refine ⟨List.nodup_cons.2 ⟨fun hm => by have := (h.2 D hm).2.1; omega, h.1⟩, fun D' hD' => ?_⟩
  rcases List.mem_cons.1 hD' with rfl | hD'
  · exact ⟨by omega, hdef⟩
  · obtain ⟨h1, h2, h3⟩ := h.2 D' hD'
    exact ⟨h1, by rw [hA.2.2.2.2 D' (by omega) (by omega)]; exact h3⟩
theorem ch_cnt {k : Nat} {W5 : World} : cnt (W5.alloc (.cells #[.int .i64 ((k : Int) + 1)] 3)) (.pointer (some ⟨W5.heap.size, 0, none⟩)) = k + 1 :=
  cnt_of (show (W5.alloc (.cells #[.int .i64 ((k : Int) + 1)] 3)).cell? ⟨W5.heap.size, 0, none⟩ = some (.int .i64 ((k + 1 : Nat) : Int)) from box_cell rfl 0 _ rfl)
theorem ch_again {bf bs bq bP br bsq k : Nat} {w6 W5 : World} {Ds : List Nat} {a' : Act} (hB : Below w6.heap.size w6 W5) (hD : Ds.Nodup ∧ ∀ D, D ∈ Ds → w6.heap.size ≤ D ∧ W5.heap[D]? = some (.deferred (some []))) (hk : k < 3) (hF : ChF bf bs bq bP br bsq W5.heap.size (marks Ds) a') :
    ChO bf bs bq bP br bsq w6 a' (W5.alloc (.cells #[.int .i64 ((k : Int) + 1)] 3)) := by
  have hc : (W5.alloc (.cells #[.int .i64 ((k : Int) + 1)] 3)).cell? ⟨W5.heap.size, 0, none⟩ = some (.int .i64 ((k + 1 : Nat) : Int)) := box_cell rfl 0 _ rfl
  have hk5 : Kept W5 (W5.alloc (.cells #[.int .i64 ((k : Int) + 1)] 3)) := (Kept.refl W5).alloc _ _
  refine ⟨k + 1, W5.heap.size, Ds, hF, by omega, hB.trans (hk5.below.mono hB.size), hB.size, hc, World.frozen?_alloc_new W5 _ _ 0, hD.1, fun D hD' => ⟨(hD.2 D hD').1, ?_⟩⟩
  rw [hk5.2.2.2.2 D (Array.getElem?_eq_some_iff.1 (hD.2 D hD').2).1]
  exact (hD.2 D hD').2
theorem ch_end {tmps : Array Value} {bq : Nat} {Ds : List Nat} {W : World} {R : Ending → World → Prop} (h6 : tmps[6]?.getD undef = .pointer (some ⟨bq, 0, none⟩)) (hc : W.cell? ⟨bq, 0, none⟩ = some (.bool true)) (hnd : Ds.Nodup) (hm : ∀ D, D ∈ Ds → W.heap[D]? = some (.deferred (some []))) (hne : bq ∉ Ds)
    (hR : ∀ W' : World, W'.os = W.os → W'.tape = W.tape → W'.output = W.output → W'.heap.size = W.heap.size → (∀ k, k ∉ Ds → W'.heap[k]? = W.heap[k]?) → R (.returned (.bool true)) W') : LeavesInM Fence.wide 5 Try.prog Try.f8 tmps R (marks Ds) .returning W := by
  refine leaves_marks Ds W hnd hm (fun W' e1 e2 e3 e4 e5 => ⟨.bool true, ?_, hR W' e1 e2 e3 e4 e5⟩)
  have hc' : W'.cell? ⟨bq, 0, none⟩ = some (.bool true) := by rw [World.cell?_of_block (w := W) (a := ⟨bq, 0, none⟩) (e5 bq hne)]; exact hc
  simp [results, Try.results8, go_sem, h6, hc']
theorem nil_nil (w : World) : (binOp .eql 66 .nilFunc .nilFunc).run Try.prog w = .ok (.bool true) w := by kernel_rfl
/-- How RopeChunks' body ends: by a return. -/
def chPost (R : Ending → World → Prop) : Exit → Act → World → Prop
  | .ret, a, w => LeavesInM Fence.wide 5 Try.prog Try.f8 a.tmps R a.defers .returning w
  | _, _, _ => False
theorem chPost_le {R : Ending → World → Prop} : ∀ (e : Exit) (a : Act) (w : World), chPost R e a w → bodyPostM Fence.wide 5 Try.prog Try.f8 R e a w
  | .ret, _, _, h => h
  | .normal, _, _, h => h.elim
  | .exit _, _, _, h => h.elim
  | .goto _, _, _, h => h.elim
  | .panic _, _, _, h => h.elim
  | .outgrown, _, _, h => h.elim

theorem chunks_boxes {w w0 : World} {fi si : Int} (h : w0 = (((w.alloc (.cells #[.int .i64 fi] 3)).alloc (.cells #[.int .i64 si] 3)).alloc (.cells #[.bool false] 4))) :
    w0.cell? ⟨w.heap.size, 0, none⟩ = some (.int .i64 fi) ∧ w0.cell? ⟨w.heap.size + 1, 0, none⟩ = some (.int .i64 si) ∧ w0.cell? ⟨w.heap.size + 1 + 1, 0, none⟩ = some (.bool false) ∧ w0.frozen? ⟨w.heap.size + 1 + 1, 0, none⟩ = false ∧ w0.heap.size = w.heap.size + 3 := by
  obtain ⟨wa, hwa⟩ : ∃ wa, w.alloc (.cells #[.int .i64 fi] 3) = wa := ⟨_, rfl⟩
  obtain ⟨wc, hwc⟩ : ∃ wc, wa.alloc (.cells #[.int .i64 si] 3) = wc := ⟨_, rfl⟩
  rw [hwa, hwc] at h
  have sa : wa.heap.size = w.heap.size + 1 := by rw [← hwa]; simp
  have sc : wc.heap.size = w.heap.size + 1 + 1 := by rw [← hwc]; simp [sa]
  have k1 : Kept wa wc := hwc ▸ (Kept.refl wa).alloc _ _
  have k2 : Kept wc w0 := h ▸ (Kept.refl wc).alloc _ _
  refine ⟨grown_cell (gtrans k1 k2) ?_, grown_cell k2 ?_, ?_, ?_, ?_⟩
  · rw [← hwa]; exact box_cell rfl 0 _ rfl
  · rw [← sa, ← hwc]; exact box_cell rfl 0 _ rfl
  · rw [← sc, h]; exact box_cell rfl 0 _ rfl
  · rw [← sc, h]; exact World.frozen?_alloc_new wc _ _ 0
  · rw [h]; simp [sc]

set_option maxRecDepth 100000 in
set_option maxHeartbeats 8000000 in
theorem chunks_law (a : Option Addr) (n cap : Nat) (fi si : Int) (w : World) (hs : Script w w.heap.size a n) (hn : n ≤ 140737488351232) :
    Calls Try.prog 8 #[.slice a n cap, .int .i64 fi, .int .i64 si] w fun e w' => e = .returned (.bool true) ∧ Below w.heap.size w w' := by
  have HS := hide1 hs
  clear hs
  refine (callsIn_wide (n := 5)).1 ?_
  refine callsIn_of_wp_marks Try.func8 rfl trivial ?_ rfl
  simp only [Try.ntmps8, List.size_toArray, List.length_cons, List.length_nil, Nat.reduceAdd, Nat.reduceSub, Array.replicate_succ, Array.replicate_zero, List.push_toArray, List.append_toArray, List.nil_append, List.cons_append]
  refine wpIn_wide.2 ?_
  refine Go.wp_mono ?_ chPost_le
  go_wp2_with fail
  obtain ⟨w0, hw0⟩ : ∃ w0, w0 = (((w.alloc (.cells #[.int .i64 fi] 3)).alloc (.cells #[.int .i64 si] 3)).alloc (.cells #[.bool false] 4)) := ⟨_, rfl⟩
  rw [← hw0]
  have hk0 : Kept w w0 := by rw [hw0]; exact (((Kept.refl w).alloc _ _).alloc _ _).alloc _ _
  obtain ⟨f0, s0, r0, z0, hs0⟩ : w0.cell? ⟨w.heap.size, 0, none⟩ = some (.int .i64 fi) ∧ w0.cell? ⟨w.heap.size + 1, 0, none⟩ = some (.int .i64 si) ∧ w0.cell? ⟨w.heap.size + 1 + 1, 0, none⟩ = some (.bool false) ∧ w0.frozen? ⟨w.heap.size + 1 + 1, 0, none⟩ = false ∧ w0.heap.size = w.heap.size + 3 := chunks_boxes hw0
  clear hw0
  refine (head_any _).mono ?_
  rintro e w1 ⟨rfl, hk1'⟩
  have hk1 := hide1 (gtrans hk0 hk1')
  have HK01 := hide1 hk1'
  clear hk1'
  go_wp2_with fail
  refine (built_kept _ n cap w _ hk1.out HS.out hn).mono ?_
  rintro e w2 ⟨bP, bR, xs, rfl, hk2', HP, HR⟩
  have HK02 := hide1 (gtrans HK01.out hk2'.out)
  have hs2 : w.heap.size + 3 ≤ w2.heap.size := by have := HK02.out.size; omega
  obtain ⟨aR, pR, cR, lR⟩ := HR.out.cell
  have hxl : (xs.length : Int) ≤ 16777216 := by have := HP.out.len; omega
  have HK2 := hide1 (gtrans hk0 HK02.out)
  have f2 := grown_cell HK02.out f0
  have s2 := grown_cell HK02.out s0
  have r2 := grown_cell HK02.out r0
  have z2 : w2.frozen? ⟨w.heap.size + 1 + 1, 0, none⟩ = false := by rw [HK02.out.below.frozen (p := ⟨w.heap.size + 1 + 1, 0, none⟩) (by show w.heap.size + 1 + 1 < w0.heap.size; omega)]; exact z0
  have hbR : bR < w2.heap.size := World.block_lt_of_cell? w2 ⟨bR, 0, none⟩ cR
  clear hk2' hk1 HK01 HK02 f0 s0 r0 z0 hk0
  have hk23 : Kept w2 (w2.alloc (.cells #[.pointer (some ⟨bR, 0, none⟩)] 56)) := (Kept.refl w2).alloc _ _
  have f3 := grown_cell hk23 f2
  have HK23 := hide1 hk23
  have hsz3 : (w2.alloc (.cells #[.pointer (some ⟨bR, 0, none⟩)] 56)).heap.size = w2.heap.size + 1 := by simp
  have HR3 := hide1 (show (w2.alloc (.cells #[.pointer (some ⟨bR, 0, none⟩)] 56)).cell? ⟨w2.heap.size, 0, none⟩ = some (.pointer (some ⟨bR, 0, none⟩)) from box_cell rfl 0 _ rfl)
  clear hk23
  by_cases hin : 0 ≤ fi ∧ fi ≤ (xs.length : Int)
  · obtain ⟨f, rfl⟩ : ∃ f : Nat, fi = f := ⟨fi.toNat, by omega⟩
    have hfl : f ≤ xs.length := by omega
    have e0 : decide ((f : Int) < 0) = false := decide_eq_false (by omega)
    have e1 : decide ((xs.length : Int) < (f : Int)) = false := decide_eq_false (by omega)
    clear hin
    go_wp2_with fail
    refine (Chunks_in _ _ xs f _ ((HP.out.tight.mono (Same.refl _ _) (fun b hb => hb.2)).kept HK23.out) hfl).mono ?_
    rintro e w4 ⟨rfl, hk4, b1, b2⟩
    have HK24 := hide1 (gtrans HK23.out hk4)
    have f4 := grown_cell HK24.out f2
    have cb4 := grown_cell hk4 HR3.out
    have cr4 := grown_cell HK24.out cR
    have kfn := fun (ups : Array Value) (W : World) => func_nil 49 ups W
    have hs4 : w2.heap.size + 3 ≤ w4.heap.size := by rw [hsz3] at b2; have := World.block_lt_of_cell? w4 ⟨w2.heap.size + 1 + 1, 0, none⟩ b2; change w2.heap.size + 1 + 1 < _ at this; omega
    have HB1 := hide1 b1
    have HB2 := hide1 b2
    rw [hsz3] at HB1 HB2 ⊢
    clear f3 HR3 HK23 b1 b2 hk4
    have hk45 : Kept w4 (w4.alloc (.cells #[.func (.func 49) #[] #[.pointer (some ⟨w2.heap.size + 1, 0, none⟩), .pointer (some ⟨w2.heap.size + 1 + 1, 0, none⟩)]] 66)) := (Kept.refl w4).alloc _ _
    have f5 := grown_cell hk45 f4
    have cb5 := grown_cell hk45 cb4
    have cr5 := grown_cell hk45 cr4
    have cs5 : (w4.alloc (.cells #[.func (.func 49) #[] #[.pointer (some ⟨w2.heap.size + 1, 0, none⟩), .pointer (some ⟨w2.heap.size + 1 + 1, 0, none⟩)]] 66)).cell? ⟨w4.heap.size, 0, none⟩ = some (.func (.func 49) #[] #[.pointer (some ⟨w2.heap.size + 1, 0, none⟩), .pointer (some ⟨w2.heap.size + 1 + 1, 0, none⟩)]) := box_cell rfl 0 _ rfl
    go_wp2_with fail
    generalize w4.alloc (.cells #[.func (.func 49) #[] #[.pointer (some ⟨w2.heap.size + 1, 0, none⟩), .pointer (some ⟨w2.heap.size + 1 + 1, 0, none⟩)]] 66) = w5 at hk45 f5 cb5 cr5 cs5 ⊢
    have HK25 := hide1 (gtrans HK24.out hk45)
    have HB1 := hide1 (grown_cell hk45 HB1.out)
    have HB2 := hide1 (grown_cell hk45 HB2.out)
    have hs5 : w4.heap.size < w5.heap.size := World.block_lt_of_cell? w5 ⟨w4.heap.size, 0, none⟩ cs5
    have s5 := grown_cell HK25.out s2
    have r5 := grown_cell HK25.out r2
    have z5 : w5.frozen? ⟨w.heap.size + 1 + 1, 0, none⟩ = false := by rw [HK25.out.below.frozen (p := ⟨w.heap.size + 1 + 1, 0, none⟩) (World.block_lt_of_cell? w2 ⟨w.heap.size + 1 + 1, 0, none⟩ r2)]; exact z2
    clear hk45 f4 cb4 cr4 f2 s2 r2 z2 cR HK24
    go_quiet (fail)
    have f6 : (w5.drewN nq).cell? ⟨w.heap.size, 0, none⟩ = some (.int .i64 (f : Int)) := f5
    have s6 : (w5.drewN nq).cell? ⟨w.heap.size + 1, 0, none⟩ = some (.int .i64 si) := s5
    have r6 : (w5.drewN nq).cell? ⟨w.heap.size + 1 + 1, 0, none⟩ = some (.bool false) := r5
    have z6 : (w5.drewN nq).frozen? ⟨w.heap.size + 1 + 1, 0, none⟩ = false := z5
    have cb6 : (w5.drewN nq).cell? ⟨w2.heap.size, 0, none⟩ = some (.pointer (some ⟨bR, 0, none⟩)) := cb5
    have cr6 : (w5.drewN nq).cell? ⟨bR, 0, none⟩ = some (.slice aR xs.length pR) := cr5
    have cs6 : (w5.drewN nq).cell? ⟨w4.heap.size, 0, none⟩ = some (.func (.func 49) #[] #[.pointer (some ⟨w2.heap.size + 1, 0, none⟩), .pointer (some ⟨w2.heap.size + 1 + 1, 0, none⟩)]) := cs5
    have HB1 : Hid ((w5.drewN nq).cell? ⟨w2.heap.size + 1, 0, none⟩ = some (.pointer (some ⟨bP, 0, none⟩))) := HB1
    have HB2 : Hid ((w5.drewN nq).cell? ⟨w2.heap.size + 1 + 1, 0, none⟩ = some (.int .i64 (f : Int))) := HB2
    have HK25 : Hid (Kept w2 (w5.drewN nq)) := HK25
    have hs6 : (w5.drewN nq).heap.size = w5.heap.size := rfl
    rw [← hs6] at hs5
    clear f5 s5 r5 z5 cb5 cr5 cs5 hs6
    generalize w5.drewN nq = w6 at f6 s6 r6 z6 cb6 cr6 cs6 HB1 HB2 HK25 hs5 ⊢
    have HLOW : Hid (∀ {W : World}, Below w6.heap.size w6 W → Below w2.heap.size w2 W) := fun {W} h => HK25.out.below.trans (h.mono HK25.out.size)
    have HROPE : Hid (∀ {W : World}, Below w6.heap.size w6 W → RopeAt (fun b => b < w2.heap.size) W (.pointer (some ⟨bP, 0, none⟩)) xs) := fun h => (HP.out.tight.mono (Same.refl _ _) (fun b hb => hb.2)).mono (low_sames (HLOW.out h)) (fun _ h => h)
    have HLIST : Hid (∀ {W : World}, Below w6.heap.size w6 W → ListAt (fun b => b < w2.heap.size) W (.slice aR xs.length pR) xs) := fun h => (lR.tight.mono (Same.refl _ _) (fun b hb => hb.2)).mono (low_sames (HLOW.out h)) (fun _ h => h)
    have HCELL : Hid (∀ {W : World} {b o : Nat} {v : Value}, Below w6.heap.size w6 W → w6.cell? ⟨b, o, none⟩ = some v → W.cell? ⟨b, o, none⟩ = some v) := fun {W b o v} h hc => low_cell h (World.block_lt_of_cell? w6 ⟨b, o, none⟩ hc) hc
    have HRES : Hid (∀ {W : World}, Below w6.heap.size w6 W → W.frozen? ⟨w.heap.size + 1 + 1, 0, none⟩ = false) := fun {W} h => by rw [World.frozen?_of_block (w := w6) (a := ⟨w.heap.size + 1 + 1, 0, none⟩) (h.block _ (World.block_lt_of_cell? w6 ⟨w.heap.size + 1 + 1, 0, none⟩ r6))]; exact z6
    have HF6 := hide1 f6
    have HS6 := hide1 s6
    have HR6 := hide1 r6
    have HCB6 := hide1 cb6
    have HCR6 := hide1 cr6
    have HCS6 := hide1 cs6
    have HBYT := hide1 HP.out.byt
    have hs26 : w2.heap.size + 3 ≤ w6.heap.size := by omega
    go_wp2_with fail
    refine wp_loop (ChO w.heap.size (w.heap.size + 1) (w.heap.size + 1 + 1) bP w2.heap.size w4.heap.size w6) (fun a' w' => 3 - cnt w' (a'.tmps.getD 12 undef)) ?_ ?_
    · exact ⟨0, w6.heap.size, [], chF_of _ (by kernel_rfl), by decide, (Kept.refl w6).alloc _ _ |>.below, Nat.le_refl _, box_cell rfl 0 _ rfl, World.frozen?_alloc_new w6 _ _ 0, List.nodup_nil, fun D hD => by simp at hD⟩
    · clear f6 s6 r6 z6 cb6 cr6 cs6 lR HP HR
      rintro a' wr ⟨k, bn, Ds, ⟨T, rfl⟩, hk3, HBr, hbn, cn, zn, HD⟩
      by_cases hlt : (k : Int) < 3
      · have hkr7 : Kept wr ((wr.alloc (.cells #[.int .i64 (f : Int)] 3)).alloc (.cells #[.int .i64 0] 3)) := ((Kept.refl wr).alloc _ _).alloc _ _
        have cfr := HCELL.out HBr.out HF6.out
        have hkr7a : Kept wr (wr.alloc (.cells #[.int .i64 (f : Int)] 3)) := (Kept.refl wr).alloc _ _
        have cs7 := grown_cell hkr7 (HCELL.out HBr.out HCS6.out)
        go_wp2_with fail
        obtain ⟨w7, hw7⟩ : ∃ w7, w7 = ((wr.alloc (.cells #[.int .i64 (f : Int)] 3)).alloc (.cells #[.int .i64 0] 3)) := ⟨_, rfl⟩
        rw [← hw7]
        obtain ⟨hI0, hs7e, hkr⟩ := ch_start hw7
        have hs7 : wr.heap.size + 2 ≤ w7.heap.size := Nat.le_of_eq hs7e.symm
        clear hs7e
        have HI0 := hide1 hI0
        have HB7 := hide1 (HBr.out.trans (hkr.below.mono HBr.out.size))
        have hszr := HBr.out.size
        have cn7 := grown_cell hkr cn
        have hbnr : bn < wr.heap.size := World.block_lt_of_cell? wr ⟨bn, 0, none⟩ cn
        have zn7 : w7.frozen? ⟨bn, 0, none⟩ = false := by rw [hkr.below.frozen (p := ⟨bn, 0, none⟩) hbnr]; exact zn
        have HSQ := hide1 (chunksT_seq (fun b => b < w2.heap.size) (5 - 1) (w2.heap.size + 1) (w2.heap.size + 1 + 1) f _ xs w7 (HROPE.out HB7.out) (HCELL.out HB7.out HB1.out) (HCELL.out HB7.out HB2.out) hfl)
        have HD7 : Hid (Ds.Nodup ∧ ∀ D, D ∈ Ds → w6.heap.size ≤ D ∧ D < wr.heap.size ∧ w7.heap[D]? = some (.deferred (some []))) := ⟨HD.out.1, fun D hD => ⟨(HD.out.2 D hD).1, (Array.getElem?_eq_some_iff.1 (HD.out.2 D hD).2).1, by rw [hkr.2.2.2.2 D (Array.getElem?_eq_some_iff.1 (HD.out.2 D hD).2).1]; exact (HD.out.2 D hD).2⟩⟩
        have HCN := hide1 cn
        clear hI0 hkr hkr7 hkr7a cs7 cfr hw7 cn zn HD
        refine frame_to (chG_of (bf := w.heap.size) (bs := w.heap.size + 1) (bq := w.heap.size + 1 + 1) (bP := bP) (br := w2.heap.size) (bsq := w4.heap.size) (bn := bn) (ba := wr.heap.size) (bp := wr.heap.size + 1) (v65 := .func (.func 49) #[] #[.pointer (some ⟨w2.heap.size + 1, 0, none⟩), .pointer (some ⟨w2.heap.size + 1 + 1, 0, none⟩)]) _ (by kernel_rfl)) ?_
        rintro a' ⟨T, rfl⟩
        refine (wpIn_wide (n := 5)).1 ?_
        refine range_T Item.blk rfl (by omega) (gf := 49) (lb := #[.pointer (some ⟨w2.heap.size + 1, 0, none⟩), .pointer (some ⟨w2.heap.size + 1 + 1, 0, none⟩)]) rfl trivial (enters_of Try.func49 (by kernel_rfl) rfl)
          HSQ.out (fun b hb => hb.2) (fun pre x W l o o' hl ho hh => hh.put o' hl ho) (Below.refl _ _) (fun _ => rfl)
          (fun _ => ChI w7 wr.heap.size (wr.heap.size + 1) f) (fun c pre W => c = .exit 2 ∧ k = 0 ∧ ∃ pre', (pre'.length : Int) = si ∧ ChI w7 wr.heap.size (wr.heap.size + 1) f pre' W) (chI_stable (by omega) (by omega)) (fun c T T' pre A A' h hs => ⟨h.1, h.2.1, by obtain ⟨_, _, p', h1, h2⟩ := h; exact ⟨p', h1, chI_stable (by omega) (by omega) T T' p' A A' h2 hs⟩⟩) HI0.out
          (fun x => { tmps := #[T 0, T 1, T 2, T 3, .pointer (some ⟨w.heap.size, 0, none⟩), .pointer (some ⟨w.heap.size + 1, 0, none⟩), .pointer (some ⟨w.heap.size + 1 + 1, 0, none⟩), .pointer (some ⟨bP, 0, none⟩), .pointer (some ⟨w2.heap.size, 0, none⟩), T 9, .pointer (some ⟨w4.heap.size, 0, none⟩), T 11, .pointer (some ⟨bn, 0, none⟩), .pointer (some ⟨wr.heap.size, 0, none⟩), .pointer (some ⟨wr.heap.size + 1, 0, none⟩), .int .i64 (x.place : Int), .slice (some ⟨x.blk, 0, none⟩) x.bytes.length x.cap, T 17, T 18, T 19, T 20, T 21, T 22, T 23, T 24, T 25, T 26, T 27, T 28, T 29, T 30, T 31, T 32, T 33, T 34, T 35, T 36, T 37, T 38, T 39, T 40, T 41, T 42, T 43, T 44, T 45, T 46, T 47, T 48, T 49, T 50, T 51, T 52, T 53, T 54, T 55, T 56, T 57, T 58, T 59, T 60, T 61, T 62, T 63, T 64, .func (.func 49) #[] #[.pointer (some ⟨w2.heap.size + 1, 0, none⟩), .pointer (some ⟨w2.heap.size + 1 + 1, 0, none⟩)], .int .i64 (x.place : Int), .slice (some ⟨x.blk, 0, none⟩) x.bytes.length x.cap, T 68, T 69, T 70, T 71, T 72, T 73, T 74, T 75, T 76, T 77, T 78, T 79, T 80, T 81, T 82, T 83, T 84, T 85, T 86, T 87, T 88, T 89, T 90, T 91, T 92, T 93, T 94, T 95, T 96, T 97, T 98, T 99, T 100, T 101, T 102, T 103, T 104, T 105, T 106, T 107, T 108, T 109, T 110, T 111, T 112, T 113, T 114, T 115, T 116, T 117, T 118, T 119, T 120, T 121, T 122, T 123, T 124, T 125, T 126, T 127, T 128, T 129, T 130, T 131, T 132, T 133, T 134, T 135, T 136, T 137, T 138, T 139, T 140, T 141, T 142, T 143, T 144, T 145, T 146, T 147, T 148, T 149, T 150, T 151, T 152, T 153, T 154, T 155, T 156, T 157, T 158, T 159, T 160, T 161, T 162, T 163, T 164, T 165, T 166, T 167, T 168, T 169, T 170, T 171, T 172, T 173, T 174, T 175, T 176, T 177, T 178, T 179, T 180, T 181, T 182, T 183, T 184, T 185, T 186, T 187, T 188, T 189, T 190, T 191, T 192, T 193, T 194, T 195, T 196, T 197, T 198, T 199, T 200, T 201, T 202, T 203, T 204, T 205, T 206, T 207, T 208, T 209], defers := [] }) ?assign ?body ?done ?stop
        case assign =>
          intro l x W K hK
          simp only [Item.encs]
          gi_wp2
          exact hK
        case body =>
          rintro T2 pre x W hI ⟨hx1, hx2, ⟨rest, hx3⟩, hx4, hx5⟩ hTx hT1 hT2 hblk hTl ⟨lr, _, hlr⟩
          obtain ⟨place, bytes, blk, bcap⟩ := x
          simp only at hx1 hx2 hx3 hx4 hx5 hTx hblk ⊢
          have hm : 0 < bytes.length := List.length_pos_iff.2 hx2
          have hlenx : (got pre).length + bytes.length + rest.length = xs.length - f := by have := congrArg List.length hx3; simp at this; omega
          obtain ⟨hA7, ca, za, cp, zp, hpl⟩ := id hI
          obtain ⟨m, hm1⟩ : ∃ m, m = f + (got pre).length := ⟨_, rfl⟩
          rw [← hm1] at ca hx1
          have gm : (m : Int) + (bytes.length : Int) ≤ (xs.length : Int) := by omega
          have gb : (0 : Int) < (bytes.length : Int) := by omega
          have hBW : Below w6.heap.size w6 W := HB7.out.trans (hA7.below (n0 := w6.heap.size) (by have := HB7.out.size; omega) (fun k hk => by omega))
          have cn := hA7.cell (b := bn) (by omega) cn7
          have cst := HCELL.out hBW HS6.out
          have cb := HCELL.out hBW HCB6.out
          have cr := HCELL.out hBW HCR6.out
          by_cases hbr : k = 0 ∧ (pre.length : Int) = si
          · have ek : ((k : Int) == 0) = true := by rw [hbr.1]; rfl
            have ep : ((pre.length : Int) == si) = true := by rw [hbr.2]; simp
            have HI := hide1 hI
            have HBR := hide1 hbr
            clear hI hbr hA7 ca za hx3 hx4
            gi_wp2_with fail
            exact ⟨KeepsFrom.refl _ _, rfl, HBR.out.1, pre, HBR.out.2, HI.out⟩
          · subst hx1
            obtain ⟨sb2, sc2, hsl2, hll2⟩ := slice_list (HLIST.out hBW) place (place + bytes.length) (by omega) (by omega)
            rw [piece_is hm1 hx3, Nat.add_sub_cancel_left] at hll2
            have hsl3 : ∀ w', (Instr.sliceAt 22 (.slice aR xs.length pR) (some (.int .i64 (place : Int))) (some (.int .i64 ((place : Int) + (bytes.length : Int)))) none).run Try.prog w' = .ok (.slice sb2 bytes.length sc2) w' := fun w' => by have := hsl2 w'; rw [Nat.add_sub_cancel_left] at this; exact this
            have HBYX : Hid (Byt bytes) := fun y hy => HBYT.out y (List.mem_of_mem_drop (show y ∈ xs.drop f by rw [hx3]; simp [hy]))
            have HLC := hide1 (hx4.list HBYX.out)
            have HLL := hide1 hll2
            have HI := hide1 hI
            have HOW := hide1 hx4
            have HT2 := hide1 hT2
            have HTL := hide1 hTl
            have HM1 := hide1 hm1
            have HBW := hide1 hBW
            have HLR := hide1 hlr
            have HA7 := hide1 hA7
            have hml : bytes.length ≤ 1000000000 := by omega
            have hpl2 : (pre.length : Int) ≤ 16777216 := by omega
            have ed : decide ((xs.length : Int) - (place : Int) < (bytes.length : Int)) = false := decide_eq_false (by omega)
            have en : ((bytes.length : Int) == 0) = false := by simp; omega
            have hnb : (((k : Int) == 0) = true ∧ ((pre.length : Int) == si) = false) ∨ ((k : Int) == 0) = false := by
              by_cases h0 : k = 0
              · exact Or.inl ⟨by rw [h0]; rfl, by simpa using fun h => hbr ⟨h0, h⟩⟩
              · exact Or.inr (by simp; omega)
            clear hsl2 hll2 hx4 hT2 hTl hT1 hx3 hm1 hI hBW hlr hA7 hbr hpl
            rcases hnb with ⟨ek, ep⟩ | ek
            all_goals
              gi_wp2_with fail
              refine region_quiet_round (by kernel_rfl) (by kernel_rfl) (by kernel_rfl) ?_
              repeat (gi_big_quiet_step ((gi_at_call 22; exact callsIn_wide.2 (sameq_at _ _ _ _ bytes _ _ HLC.out HLL.out hml))))
              refine wpQuietIn_nil ?_
              intro _ hw'
              obtain ⟨nq, hw''⟩ := hw'
              subst hw''
              have ca' : (W.drewN nq).cell? ⟨wr.heap.size, 0, none⟩ = some (.int .i64 (place : Int)) := ca
              have za' : (W.drewN nq).frozen? ⟨wr.heap.size, 0, none⟩ = false := za
              have cp' : (W.drewN nq).cell? ⟨wr.heap.size + 1, 0, none⟩ = some (.int .i64 (pre.length : Int)) := cp
              have zp' : (W.drewN nq).frozen? ⟨wr.heap.size + 1, 0, none⟩ = false := zp
              clear ca za cp zp cb cr
              gi_wp2_with fail
              obtain ⟨W1, hW1⟩ : ∃ W1, W1 = ((W.drewN nq).setCell ⟨wr.heap.size, 0, none⟩ (.int .i64 ((place : Int) + (bytes.length : Int)))).setCell ⟨wr.heap.size + 1, 0, none⟩ (.int .i64 ((pre.length : Int) + 1)) := ⟨_, rfl⟩
              rw [← hW1]
              have HW1 := hide1 hW1
              have hA1 : AllBut (fun k => k = wr.heap.size ∨ k = wr.heap.size + 1) W W1 := by rw [hW1]; exact (AllBut.kept (grown_drewN W nq)).trans ((AllBut.set (Or.inl rfl) _).trans (AllBut.set (Or.inr rfl) _))
              obtain ⟨G, g1, g2, g3, g4⟩ := own_rows HOW.out HBYX.out
              have HG1 := hide1 g1
              have hbl := g1.lt
              have HTU : Hid (Turned W1 W1 blk bytes.length bcap) := ⟨AllBut.refl _ _, G, by unfold RowOf; rw [hA1.2.2.2.2 blk hbl (by omega)]; exact g1, g2, fun i hi => by obtain ⟨y, _, _, h⟩ := g4 i hi; exact ⟨y, h⟩⟩
              have cn1 := hA1.cell (b := bn) (by omega) cn
              have cp1 : W1.cell? ⟨wr.heap.size + 1, 0, none⟩ = some (.int .i64 ((pre.length : Int) + 1)) := by rw [hW1]; exact set_same (u := .int .i64 (pre.length : Int)) _ (by rw [World.cell?_of_block (w := W.drewN nq) (a := ⟨wr.heap.size + 1, 0, none⟩) (Below.heap_setCell _ _ _ _ (show wr.heap.size + 1 ≠ wr.heap.size by omega))]; exact cp')
              have HA1 := hide1 hA1
              clear hA1 hW1 g1 g2 g4 ca' za' cp' zp' cn cst
              refine wpIn_loop (ChL w.heap.size (w.heap.size + 1) (w.heap.size + 1 + 1) bP w2.heap.size w4.heap.size bn wr.heap.size (wr.heap.size + 1) blk bytes.length bcap W1) (fun a' _ => bytes.length - (intOf (a'.tmps.getD 17 undef)).toNat) ?_ ?_
              · exact ⟨0, chR_of _ (by kernel_rfl), Nat.zero_le _, HTU⟩
              · clear HTU
                rintro a' w' ⟨j, ⟨T, rfl⟩, hj, HTU⟩
                by_cases hlj : (j : Int) < (bytes.length : Int)
                · obtain ⟨y, cy, zy⟩ := HTU.out.at (j := j) (by omega)
                  have gcap : (j : Int) < (bcap : Int) := by omega
                  gi_wp2_with fail
                  exact ⟨⟨j + 1, chR_of _ (by kernel_rfl), by omega, HTU.out.set _⟩, by simp [intOf]; omega⟩
                · have hjl : j = bytes.length := by omega
                  have cn2 := HTU.out.1.cell (b := bn) (by omega) cn1
                  have cp2 := HTU.out.1.cell (b := wr.heap.size + 1) (by omega) cp1
                  by_cases hin : k = 1 ∧ pre.length = 0
                  · have e1 : ((k : Int) == 1) = true := by rw [hin.1]; rfl
                    have e2 : ((pre.length : Int) + 1 == 1) = true := by rw [hin.2]; rfl
                    have hBw : Below w6.heap.size w6 w' := HBW.out.trans ((HA1.out.below (n0 := w6.heap.size) (by have := HBW.out.size; omega) (fun k hk => by omega)).trans (HTU.out.1.below (n0 := w6.heap.size) (by have := HBW.out.size; have := HA1.out.2.2.2.1; omega) (fun k hk => by omega)))
                    have cf2 := HCELL.out hBw HF6.out
                    have hkw8 : Kept w' (w'.alloc (.cells #[.int .i64 (f : Int)] 3)) := (Kept.refl w').alloc _ _
                    have cs8 := grown_cell hkw8 (HCELL.out hBw HCS6.out)
                    have HBw := hide1 hBw
                    clear hin hBw
                    gi_wp2_with fail
                    obtain ⟨w8, hw8⟩ : ∃ w8, w8 = w'.alloc (.cells #[.int .i64 (f : Int)] 3) := ⟨_, rfl⟩
                    rw [← hw8] at hkw8 cs8 ⊢
                    have HB8 := hide1 (HBw.out.trans (hkw8.below.mono HBw.out.size))
                    have ci8 : w8.cell? ⟨w'.heap.size, 0, none⟩ = some (.int .i64 (f : Int)) := by rw [hw8]; exact box_cell rfl 0 _ rfl
                    have zi8 : w8.frozen? ⟨w'.heap.size, 0, none⟩ = false := by rw [hw8]; exact World.frozen?_alloc_new w' _ _ 0
                    have hbi8 : w'.heap.size < w8.heap.size := World.block_lt_of_cell? w8 ⟨w'.heap.size, 0, none⟩ ci8
                    have hN0 : ChN w8 w'.heap.size f [] w8 := ⟨AllBut.refl _ _, ci8, zi8⟩
                    have hW0 := HBW.out.size
                    have hW1s := HA1.out.2.2.2.1
                    have hw's := HTU.out.1.2.2.2.1
                    have hlrW := (Array.getElem?_eq_some_iff.1 HLR.out).1
                    have HLR8 : w8.heap[w7.heap.size + 1]? = some (.loop lr) := by rw [hkw8.2.2.2.2 _ (by omega), HTU.out.1.2.2.2.2 _ (by omega) (by omega), HA1.out.2.2.2.2 _ hlrW (by omega)]; exact HLR.out
                    have HSQ8 := hide1 (chunksT_seq (fun b => b < w2.heap.size) (5 - 1 - 1 - 1) (w2.heap.size + 1) (w2.heap.size + 1 + 1) f _ xs w8 (HROPE.out HB8.out) (HCELL.out HB8.out HB1.out) (HCELL.out HB8.out HB2.out) hfl)
                    have HN0 := hide1 hN0
                    have HKW8 := hide1 hkw8
                    clear hw8 hN0 hkw8 ci8 zi8 cs8 cf2
                    refine frame_toIn (chH_of (bf := w.heap.size) (bs := w.heap.size + 1) (bq := w.heap.size + 1 + 1) (bP := bP) (br := w2.heap.size) (bsq := w4.heap.size) (bn := bn) (ba := wr.heap.size) (bp := wr.heap.size + 1) (bi := w'.heap.size) (v137 := .func (.func 49) #[] #[.pointer (some ⟨w2.heap.size + 1, 0, none⟩), .pointer (some ⟨w2.heap.size + 1 + 1, 0, none⟩)]) _ (by kernel_rfl)) ?_
                    rintro a' ⟨T, rfl⟩
                    refine range_N Item.blk (F := Fence.wide.inRound (w7.heap.size + 1)) rfl HLR8 (by omega) (gf := 49) (lb := #[.pointer (some ⟨w2.heap.size + 1, 0, none⟩), .pointer (some ⟨w2.heap.size + 1 + 1, 0, none⟩)]) rfl trivial (enters_of Try.func49 (by kernel_rfl) rfl)
                      (seqT_round HSQ8.out) (fun b hb => hb.2) (fun pre x W l o o' hl ho hh => hh.put o' hl ho) (Below.refl _ _) (fun _ => rfl)
                      (fun _ => ChN w8 w'.heap.size f) (chN_stable hbi8) HN0.out
                      (fun x => { tmps := #[T 0, T 1, T 2, T 3, .pointer (some ⟨w.heap.size, 0, none⟩), .pointer (some ⟨w.heap.size + 1, 0, none⟩), .pointer (some ⟨w.heap.size + 1 + 1, 0, none⟩), .pointer (some ⟨bP, 0, none⟩), .pointer (some ⟨w2.heap.size, 0, none⟩), T 9, .pointer (some ⟨w4.heap.size, 0, none⟩), T 11, .pointer (some ⟨bn, 0, none⟩), .pointer (some ⟨wr.heap.size, 0, none⟩), .pointer (some ⟨wr.heap.size + 1, 0, none⟩), T 15, T 16, T 17, .pointer (some ⟨w'.heap.size, 0, none⟩), .int .i64 (x.place : Int), .slice (some ⟨x.blk, 0, none⟩) x.bytes.length x.cap, T 21, T 22, T 23, T 24, T 25, T 26, T 27, T 28, T 29, T 30, T 31, T 32, T 33, T 34, T 35, T 36, T 37, T 38, T 39, T 40, T 41, T 42, T 43, T 44, T 45, T 46, T 47, T 48, T 49, T 50, T 51, T 52, T 53, T 54, T 55, T 56, T 57, T 58, T 59, T 60, T 61, T 62, T 63, T 64, T 65, T 66, T 67, T 68, T 69, T 70, T 71, T 72, T 73, T 74, T 75, T 76, T 77, T 78, T 79, T 80, T 81, T 82, T 83, T 84, T 85, T 86, T 87, T 88, T 89, T 90, T 91, T 92, T 93, T 94, T 95, T 96, T 97, T 98, T 99, T 100, T 101, T 102, T 103, T 104, T 105, T 106, T 107, T 108, T 109, T 110, T 111, T 112, T 113, T 114, T 115, T 116, T 117, T 118, T 119, T 120, T 121, T 122, T 123, T 124, T 125, T 126, T 127, T 128, T 129, T 130, T 131, T 132, T 133, T 134, T 135, T 136, .func (.func 49) #[] #[.pointer (some ⟨w2.heap.size + 1, 0, none⟩), .pointer (some ⟨w2.heap.size + 1 + 1, 0, none⟩)], .int .i64 (x.place : Int), .slice (some ⟨x.blk, 0, none⟩) x.bytes.length x.cap, T 140, T 141, T 142, T 143, T 144, T 145, T 146, T 147, T 148, T 149, T 150, T 151, T 152, T 153, T 154, T 155, T 156, T 157, T 158, T 159, T 160, T 161, T 162, T 163, T 164, T 165, T 166, T 167, T 168, T 169, T 170, T 171, T 172, T 173, T 174, T 175, T 176, T 177, T 178, T 179, T 180, T 181, T 182, T 183, T 184, T 185, T 186, T 187, T 188, T 189, T 190, T 191, T 192, T 193, T 194, T 195, T 196, T 197, T 198, T 199, T 200, T 201, T 202, T 203, T 204, T 205, T 206, T 207, T 208, T 209], defers := [] }) ?as3 ?bo3 ?do3
                    case as3 =>
                      intro l x W K hK
                      simp only [Item.encs]
                      gi_wp2
                      exact hK
                    case bo3 =>
                      rintro T3 pre3 x W3 hI3 ⟨hx1, hx2, ⟨rest3, hx3⟩, hx4, hx5⟩ hTx3 hT13 hT23 hblk3 hTl3
                      obtain ⟨place3, bytes3, blk3, bcap3⟩ := x
                      simp only at hx1 hx2 hx3 hx4 hx5 hTx3 hblk3 ⊢
                      have hm3 : 0 < bytes3.length := List.length_pos_iff.2 hx2
                      have hlenx3 : (got pre3).length + bytes3.length + rest3.length = xs.length - f := by have := congrArg List.length hx3; simp at this; omega
                      obtain ⟨hA3, ci, zi⟩ := id hI3
                      obtain ⟨m3, hm13⟩ : ∃ m, m = f + (got pre3).length := ⟨_, rfl⟩
                      rw [← hm13] at ci hx1
                      subst hx1
                      have hBW3 : Below w6.heap.size w6 W3 := HB8.out.trans (hA3.below (n0 := w6.heap.size) (by have := HB8.out.size; omega) (fun k hk => by omega))
                      have cb3 := HCELL.out hBW3 HCB6.out
                      have cr3 := HCELL.out hBW3 HCR6.out
                      obtain ⟨sb3, sc3, hsl2, hll2⟩ := slice_list (HLIST.out hBW3) place3 (place3 + bytes3.length) (by omega) (by omega)
                      rw [piece_is hm13 hx3, Nat.add_sub_cancel_left] at hll2
                      have hsl3' : ∀ w', (Instr.sliceAt 22 (.slice aR xs.length pR) (some (.int .i64 (place3 : Int))) (some (.int .i64 ((place3 : Int) + (bytes3.length : Int)))) none).run Try.prog w' = .ok (.slice sb3 bytes3.length sc3) w' := fun w' => by have := hsl2 w'; rw [Nat.add_sub_cancel_left] at this; exact this
                      have HBYX3 : Hid (Byt bytes3) := fun y hy => HBYT.out y (List.mem_of_mem_drop (show y ∈ xs.drop f by rw [hx3]; simp [hy]))
                      have HLC3 := hide1 (hx4.list HBYX3.out)
                      have HLL3 := hide1 hll2
                      have HI3 := hide1 hI3
                      have HT23 := hide1 hT23
                      have HM13 := hide1 hm13
                      have hml3 : bytes3.length ≤ 1000000000 := by omega
                      have ed3 : decide ((xs.length : Int) - (place3 : Int) < (bytes3.length : Int)) = false := decide_eq_false (by omega)
                      have en3 : ((bytes3.length : Int) == 0) = false := by simp; omega
                      have gm3 : (place3 : Int) + (bytes3.length : Int) ≤ (xs.length : Int) := by omega
                      clear hsl2 hll2 hx4 hT23 hT13 hx3 hm13 hI3 hBW3 hA3 hTl3
                      gi_wp2_with fail
                      refine region_quiet_round (l0 := w8.heap.size) (by kernel_rfl) (by kernel_rfl) (by kernel_rfl) ?_
                      repeat (gi_big_quiet_step ((gi_at_call 22; exact callsIn_wide.2 (sameq_at _ _ _ _ bytes3 _ _ HLC3.out HLL3.out hml3))))
                      refine wpQuietIn_nil ?_
                      intro _ hw'
                      obtain ⟨nq3, hw''⟩ := hw'
                      subst hw''
                      have ci' : (W3.drewN nq3).cell? ⟨w'.heap.size, 0, none⟩ = some (.int .i64 (place3 : Int)) := ci
                      have zi' : (W3.drewN nq3).frozen? ⟨w'.heap.size, 0, none⟩ = false := zi
                      clear ci zi cb3 cr3
                      gi_wp2_with fail
                      obtain ⟨⟨k1, k2⟩, k3, k4⟩ := chN_next (place := place3) (blk := blk3) (bcap := bcap3) (bytes := bytes3) (T := T3) (W := W3.drewN nq3) (v1 := .int .i64 ((place3 : Int) + (bytes3.length : Int))) (chN_stable hbi8 T3 T3 pre3 W3 (W3.drewN nq3) HI3.out ⟨rfl, rfl, rfl, Nat.le_refl _, fun _ _ _ => rfl, fun _ h => Or.inl h⟩) hbi8 (by rw [← HM13.out]; rfl) rfl (fun b hb => by rcases HT23.out b hb with h | h <;> omega)
                      exact ⟨⟨k1, k2⟩, k3, k4⟩
                    case do3 =>
                      rintro T3 ys W3 hS ⟨hA3, ci, zi⟩
                      have hgl : f + (got ys).length = xs.length := by rw [hS]; simp; omega
                      rw [hgl] at ci
                      have hBW3 : Below w6.heap.size w6 W3 := HB8.out.trans (hA3.below (n0 := w6.heap.size) (by have := HB8.out.size; omega) (fun k hk => by omega))
                      have cb3 := HCELL.out hBW3 HCB6.out
                      have cr3 := HCELL.out hBW3 HCR6.out
                      have HA13 : Hid (AllBut (fun k => k = blk) W1 W3) := ⟨(hA3.1.trans HKW8.out.1).trans HTU.out.1.1, (hA3.2.1.trans HKW8.out.2.1).trans HTU.out.1.2.1, (hA3.2.2.1.trans HKW8.out.2.2.1).trans HTU.out.1.2.2.1, Nat.le_trans hw's (Nat.le_trans HKW8.out.size hA3.2.2.2.1), fun k hk hx => by rw [hA3.2.2.2.2 k (by have := HKW8.out.size; omega) (by omega), HKW8.out.2.2.2.2 k (by omega)]; exact HTU.out.1.2.2.2.2 k hk hx⟩
                      clear hS hgl hA3 hBW3 zi
                      gi_wp2_with fail
                      refine region_quiet_round (l0 := w7.heap.size + 1) (by kernel_rfl) (by kernel_rfl) (by kernel_rfl) ?_
                      repeat (gi_big_quiet_step (fail))
                      refine wpQuietIn_nil ?_
                      intro _ hw'
                      obtain ⟨nq3, hw''⟩ := hw'
                      subst hw''
                      gi_wp2_with fail
                      obtain ⟨⟨k1, k2⟩, k3, k4⟩ := ch_next (place := place) (blk := blk) (bcap := bcap) (T := T2) (hrow := HG1.out) (v1 := .int .i64 ((place : Int) + (bytes.length : Int))) (v2 := .int .i64 ((pre.length : Int) + 1)) (W := W.drewN nq) (W' := W3.drewN nq3) (chI_stable (by omega) (by omega) T2 T2 pre W (W.drewN nq) HI.out ⟨rfl, rfl, rfl, Nat.le_refl _, fun _ _ _ => rfl, fun _ h => Or.inl h⟩) (by omega) (by omega) (by omega) (by omega) hm (by rw [← HM1.out]; rfl) rfl (by rw [← HW1.out]; exact HA13.out.trans (AllBut.kept (grown_drewN W3 nq3))) (fun b hb => by rcases HT2.out b hb with h | h <;> omega) HTL.out
                      exact ⟨⟨k1, k2⟩, k3, k4⟩
                  · have hnin : ((k : Int) == 1) = false ∨ (((k : Int) == 1) = true ∧ ((pre.length : Int) + 1 == 1) = false) := by
                      by_cases h1 : k = 1
                      · exact Or.inr ⟨by rw [h1]; rfl, by simp; omega⟩
                      · exact Or.inl (by simp; omega)
                    rcases hnin with e1 | ⟨e1, e2⟩
                    all_goals
                      gi_wp2_with fail
                      obtain ⟨⟨k1, k2⟩, k3, k4⟩ := ch_next (place := place) (blk := blk) (bcap := bcap) (T := T2) (hrow := HG1.out) (v1 := .int .i64 ((place : Int) + (bytes.length : Int))) (v2 := .int .i64 ((pre.length : Int) + 1)) (W := W.drewN nq) (W' := w') (chI_stable (by omega) (by omega) T2 T2 pre W (W.drewN nq) HI.out ⟨rfl, rfl, rfl, Nat.le_refl _, fun _ _ _ => rfl, fun _ h => Or.inl h⟩) (by omega) (by omega) (by omega) (by omega) hm (by rw [← HM1.out]; rfl) rfl (by rw [← HW1.out]; exact HTU.out.1) (fun b hb => by rcases HT2.out b hb with h | h <;> omega) HTL.out
                      exact ⟨⟨k1, k2⟩, k3, k4⟩
        case done =>
          rintro D T3 ys W hD hS hI hdef
          obtain ⟨hA7, ca, za, cp, zp, hpl⟩ := id hI
          have hgl : f + (got ys).length = xs.length := by rw [hS]; simp; omega
          rw [hgl] at ca
          have hBW : Below w6.heap.size w6 W := HB7.out.trans (hA7.below (n0 := w6.heap.size) (by have := HB7.out.size; omega) (fun k hk => by omega))
          have cn := hA7.cell (b := bn) (by omega) cn7
          have cst := HCELL.out hBW HS6.out
          have cb := HCELL.out hBW HCB6.out
          have cr := HCELL.out hBW HCR6.out
          have HBW := hide1 hBW
          have HDW : Hid ((D :: Ds).Nodup ∧ ∀ D', D' ∈ D :: Ds → w6.heap.size ≤ D' ∧ W.heap[D']? = some (.deferred (some []))) := ch_marks HD7.out hA7 hD hdef hs7 (by have := HB7.out.size; omega)
          clear hS hgl hI hA7 hBW hdef
          go_wp2_with fail
          go_quiet (fail)
          have cn' : (W.drewN nq).cell? ⟨bn, 0, none⟩ = some (.int .i64 (k : Int)) := cn
          have HBW5 : Hid (Below w6.heap.size w6 (W.drewN nq)) := HBW.out.trans ((grown_drewN W nq).below.mono HBW.out.size)
          have HDW5 : Hid ((D :: Ds).Nodup ∧ ∀ D', D' ∈ D :: Ds → w6.heap.size ≤ D' ∧ (W.drewN nq).heap[D']? = some (.deferred (some []))) := HDW
          clear cn cst cb cr ca za cp zp HBW HDW
          generalize W.drewN nq = W5 at cn' HBW5 HDW5 ⊢
          go_wp2_with fail
          refine ⟨ch_again (k := k) HBW5.out HDW5.out (by omega) (chF_of _ (by kernel_rfl)), ?_⟩
          show 3 - cnt _ (.pointer (some ⟨W5.heap.size, 0, none⟩)) < 3 - cnt wr (.pointer (some ⟨bn, 0, none⟩))
          rw [ch_cnt, cnt_of HCN.out]
          omega
        case stop =>
          rintro D c pre0 W hD _ ⟨rfl, hk0, pre', hsi, hI⟩ hdef
          obtain ⟨hA7, ca, za, cp, zp, hpl⟩ := id hI
          obtain ⟨m, hm1⟩ : ∃ m, m = f + (got pre').length := ⟨_, rfl⟩
          rw [← hm1] at ca
          have hBW : Below w6.heap.size w6 W := HB7.out.trans (hA7.below (n0 := w6.heap.size) (by have := HB7.out.size; omega) (fun k hk => by omega))
          have cn := hA7.cell (b := bn) (by omega) cn7
          have cst := HCELL.out hBW HS6.out
          have cb := HCELL.out hBW HCB6.out
          have cr := HCELL.out hBW HCR6.out
          have HBW := hide1 hBW
          have HDW : Hid ((D :: Ds).Nodup ∧ ∀ D', D' ∈ D :: Ds → w6.heap.size ≤ D' ∧ W.heap[D']? = some (.deferred (some []))) := ch_marks HD7.out hA7 hD hdef hs7 (by have := HB7.out.size; omega)
          have ek : decide (0 < k) = false := decide_eq_false (by omega)
          have ep : ((pre'.length : Int) != si) = false := by rw [hsi]; simp
          clear hm1 hI hA7 hBW hdef hsi hk0
          refine wpIn_wide.2 ?_
          by_cases hml : (m : Int) = (xs.length : Int)
          · have em : ((m : Int) != (xs.length : Int)) = false := by rw [hml]; simp
            clear hml
            go_wp2_with fail
            go_quiet (fail)
            have cn' : (W.drewN nq).cell? ⟨bn, 0, none⟩ = some (.int .i64 (k : Int)) := cn
            have HBW5 : Hid (Below w6.heap.size w6 (W.drewN nq)) := HBW.out.trans ((grown_drewN W nq).below.mono HBW.out.size)
            have HDW5 : Hid ((D :: Ds).Nodup ∧ ∀ D', D' ∈ D :: Ds → w6.heap.size ≤ D' ∧ (W.drewN nq).heap[D']? = some (.deferred (some []))) := HDW
            clear cn cst cb cr ca za cp zp HBW HDW
            generalize W.drewN nq = W5 at cn' HBW5 HDW5 ⊢
            go_wp2_with fail
            refine ⟨ch_again (k := k) HBW5.out HDW5.out (by omega) (chF_of _ (by kernel_rfl)), ?_⟩
            show 3 - cnt _ (.pointer (some ⟨W5.heap.size, 0, none⟩)) < 3 - cnt wr (.pointer (some ⟨bn, 0, none⟩))
            rw [ch_cnt, cnt_of HCN.out]
            omega
          · have em : ((m : Int) != (xs.length : Int)) = true := by simpa using hml
            clear hml
            go_wp2_with fail
            go_quiet (fail)
            have cn' : (W.drewN nq).cell? ⟨bn, 0, none⟩ = some (.int .i64 (k : Int)) := cn
            have HBW5 : Hid (Below w6.heap.size w6 (W.drewN nq)) := HBW.out.trans ((grown_drewN W nq).below.mono HBW.out.size)
            have HDW5 : Hid ((D :: Ds).Nodup ∧ ∀ D', D' ∈ D :: Ds → w6.heap.size ≤ D' ∧ (W.drewN nq).heap[D']? = some (.deferred (some []))) := HDW
            clear cn cst cb cr ca za cp zp HBW HDW
            generalize W.drewN nq = W5 at cn' HBW5 HDW5 ⊢
            go_wp2_with fail
            refine ⟨ch_again (k := k) HBW5.out HDW5.out (by omega) (chF_of _ (by kernel_rfl)), ?_⟩
            show 3 - cnt _ (.pointer (some ⟨W5.heap.size, 0, none⟩)) < 3 - cnt wr (.pointer (some ⟨bn, 0, none⟩))
            rw [ch_cnt, cnt_of HCN.out]
            omega
      · have cb := HCELL.out HBr.out HCB6.out
        have cr := HCELL.out HBr.out HCR6.out
        have res9 := HCELL.out HBr.out HR6.out
        have zres9 := HRES.out HBr.out
        have q1 := keeps cb
        have q2 := keeps cr
        have q3 := keeps res9
        have q4 : ∀ W, Kept wr W → W.frozen? ⟨w.heap.size + 1 + 1, 0, none⟩ = false := fun W hk => by rw [hk.below.frozen (p := ⟨w.heap.size + 1 + 1, 0, none⟩) (World.block_lt_of_cell? wr ⟨w.heap.size + 1 + 1, 0, none⟩ res9)]; exact zres9
        go_wp2_with fail
        go_region_with (first
          | (go_at_call 31; refine (Bytes_any _ _ xs _ ((HROPE.out HBr.out).kept (drew_kept _))).mono ?_; rintro e wB ⟨gB, pB, rfl, hkB, hgB, hoB⟩; have hkB' : Kept wr wB := gtrans (drew_kept wr) hkB; have cbB := q1 wB hkB'; have crB := q2 wB hkB')
          | (go_at_call 22; refine (same_true _ _ _ _ xs _ (hoB.list HBYT.out) ((HLIST.out HBr.out).mono (Kept.same hkB' _) (fun _ h => h)) (by omega)).mono ?_; rintro e wS ⟨rfl, hkS⟩; have hkS' : Kept wr wS := gtrans hkB' hkS; have rS := q3 wS hkS'; have zS := q4 wS hkS'))
        all_goals
          have HKS := hide1 hkS'
          clear q1 q2 q3 q4
          go_wp2_with fail
          have hqs : w.heap.size + 1 + 1 < wS.heap.size := World.block_lt_of_cell? wS ⟨w.heap.size + 1 + 1, 0, none⟩ rS
          refine ch_end rfl (set_same _ rS) HD.out.1 (fun D hD => ?_) (fun h => ?_) (fun W' e1 e2 e3 e4 e5 => ⟨rfl, ?_⟩)
          · obtain ⟨h1, h2⟩ := HD.out.2 D hD
            rw [Below.heap_setCell _ _ _ _ (show D ≠ w.heap.size + 1 + 1 by omega), HKS.out.2.2.2.2 D (Array.getElem?_eq_some_iff.1 h2).1]
            exact h2
          · have := (HD.out.2 _ h).1; omega
          · have hk := HK2.out
            have hlow := HLOW.out (HBr.out.trans (HKS.out.below.mono HBr.out.size))
            refine ⟨(e1.trans hlow.os).trans hk.1, (e2.trans hlow.tape).trans hk.2.1, (e3.trans hlow.output).trans hk.2.2.1, ?_, fun k hk1 => ?_⟩
            · rw [e4]; simp [World.setCell]; omega
            · rw [e5 k (fun h => by have := (HD.out.2 _ h).1; omega), Below.heap_setCell _ _ _ _ (show k ≠ w.heap.size + 1 + 1 by omega), hlow.block k (by omega), hk.2.2.2.2 k hk1]
  · have HP3 := hide1 ((HP.out.tight.mono (Same.refl _ _) (fun b hb => hb.2)).kept HK23.out)
    go_wp2_with fail
    refine (Chunks_out _ _ xs fi _ HP3.out hin).mono ?_
    rintro e w4 ⟨rfl, hk4⟩
    have HK24 := hide1 (gtrans HK23.out hk4)
    have f4 := grown_cell HK24.out f2
    have cb4 := grown_cell hk4 HR3.out
    have cr4 := grown_cell HK24.out cR
    have r4 := grown_cell HK24.out r2
    have z4 : w4.frozen? ⟨w.heap.size + 1 + 1, 0, none⟩ = false := by rw [HK24.out.below.frozen (p := ⟨w.heap.size + 1 + 1, 0, none⟩) (World.block_lt_of_cell? w2 ⟨w.heap.size + 1 + 1, 0, none⟩ r2)]; exact z2
    have hk45 : Kept w4 (w4.alloc (.cells #[.nilFunc] 66)) := (Kept.refl w4).alloc _ _
    have f5 := grown_cell hk45 f4
    have cb5 := grown_cell hk45 cb4
    have cr5 := grown_cell hk45 cr4
    have r5 := grown_cell hk45 r4
    have z5 : (w4.alloc (.cells #[.nilFunc] 66)).frozen? ⟨w.heap.size + 1 + 1, 0, none⟩ = false := by rw [hk45.below.frozen (p := ⟨w.heap.size + 1 + 1, 0, none⟩) (World.block_lt_of_cell? w4 ⟨w.heap.size + 1 + 1, 0, none⟩ r4)]; exact z4
    have cs5 : (w4.alloc (.cells #[.nilFunc] 66)).cell? ⟨w4.heap.size, 0, none⟩ = some .nilFunc := box_cell rfl 0 _ rfl
    have HK25 := hide1 (gtrans HK24.out hk45)
    have knn := fun (W : World) => nil_nil W
    have hout : fi < 0 ∨ (decide (fi < 0) = false ∧ (xs.length : Int) < fi) := by
      by_cases h0 : fi < 0
      · exact Or.inl h0
      · exact Or.inr ⟨decide_eq_false h0, by omega⟩
    clear f3 HR3 HK23 hk4 f4 cb4 cr4 r4 z4 f2 s2 r2 z2 cR HK24 hk45 hin
    go_wp2_with fail
    generalize w4.alloc (.cells #[.nilFunc] 66) = w5 at f5 cb5 cr5 r5 z5 cs5 HK25 ⊢
    rcases hout with h0 | ⟨e0, h0⟩
    all_goals
      go_quiet (fail)
      have cs6 : (w5.drewN nq).cell? ⟨w4.heap.size, 0, none⟩ = some .nilFunc := cs5
      have r6 : (w5.drewN nq).cell? ⟨w.heap.size + 1 + 1, 0, none⟩ = some (.bool false) := r5
      have z6 : (w5.drewN nq).frozen? ⟨w.heap.size + 1 + 1, 0, none⟩ = false := z5
      have HK26 : Hid (Kept w2 (w5.drewN nq)) := HK25
      clear f5 cb5 cr5 r5 z5 cs5
      generalize w5.drewN nq = w6 at cs6 r6 z6 HK26 ⊢
      go_wp2_with fail
      refine ch_end (Ds := []) rfl (set_same _ r6) List.nodup_nil (fun D hD => by simp at hD) (by simp) (fun W' e1 e2 e3 e4 e5 => ⟨rfl, ?_⟩)
      have hk := HK2.out
      have hk6 := HK26.out
      refine ⟨(e1.trans hk6.1).trans hk.1, (e2.trans hk6.2.1).trans hk.2.1, (e3.trans hk6.2.2.1).trans hk.2.2.1, ?_, fun k hk1 => ?_⟩
      · have h1 := hk.size
        have h2 := hk6.size
        rw [e4]; simp [World.setCell]; omega
      · rw [e5 k (by simp), Below.heap_setCell _ _ _ _ (show k ≠ w.heap.size + 1 + 1 by omega), hk6.2.2.2.2 k (by omega), hk.2.2.2.2 k hk1]

end Rope
end Go.Proofs.Ythjagnnbhpfpoaa
