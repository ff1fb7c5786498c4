import Derived.Test.YtenhifihbhbicabRopeChunk
import Derived.Test.YtenhifihbhbicabRopeMake
import Derived.Test.YtenhifihbhbicabTabInts
namespace Go.Proofs.Ytenhifihbhbicab
open Go.RowKit
attribute [local go_sem] Oper.semAt_some
namespace Rope

set_option maxRecDepth 100000 in
set_option maxHeartbeats 2000000 in
theorem read_in (X : Nat → Prop) (r : Value) (xs : List Int) (f : Nat) (w : World) (h : RopeAt X w r xs) (hf : f ≤ xs.length) :
    Calls Try.prog 14 #[r, .int .i64 f] w fun e w' => ∃ D pc rs, e = .returned (.tuple #[.pointer (some ⟨D, 0, none⟩), .int .i64 0]) ∧ Kept w w' ∧ w.heap.size ≤ D ∧ D < w'.heap.size ∧
      ReaderAt (fun b => (X b ∧ b < w.heap.size) ∨ (w.heap.size ≤ b ∧ b ≠ D)) w' D f pc rs ∧ pc ++ rs = xs.drop f := by
  have HE := hide1 h
  obtain ⟨b, p, rfl, _⟩ := h
  have hl := HE.out.len
  go_enter Try.func14, Try.ntmps14
  go_wp2_with fail
  refine (len_any X _ xs _ HE.out).mono ?_
  rintro e w1 ⟨rfl, hk1⟩
  go_wp2_with fail
  refine (spans_yes X _ xs f xs.length _ (HE.out.kept hk1) (by omega) (by omega) (by omega)).mono ?_
  rintro e w2 ⟨rfl, hk2'⟩
  have hk2 := gtrans hk1 hk2'
  have hsz := hk2.size
  go_wp2_with fail
  refine (reader_rope (fun b => (X b ∧ b < w.heap.size) ∨ (w.heap.size ≤ b ∧ b ≠ w2.heap.size)) _ f xs _ ((HE.out.tight.mono (Kept.same hk2 _) (fun _ h => .inl h))) (fun c hc => .inr ⟨by omega, by omega⟩) (fun h => by rcases h with ⟨_, h⟩ | ⟨_, h⟩ <;> omega) hf).mono ?_
  rintro e w3 ⟨rfl, hk3, pc, rs, hr, he⟩
  have HR := hide1 hr
  have HE2 := hide1 he
  have hlt : w2.heap.size < w3.heap.size := by
    obtain ⟨_, _, v, u, d0, _⟩ := hr
    exact World.block_lt_of_cell? w3 ⟨w2.heap.size, 0, none⟩ d0
  clear hr he
  go_wp2
  go_ret2
  exact ⟨w2.heap.size, pc, rs, rfl, gtrans hk2 hk3, hsz, hlt, HR.out, HE2.out⟩

set_option maxHeartbeats 1000000 in
theorem read_out (X : Nat → Prop) (r : Value) (xs : List Int) (f : Int) (w : World) (h : RopeAt X w r xs) (hf : f < 0 ∨ xs.length < f) :
    Calls Try.prog 14 #[r, .int .i64 f] w fun e w' => e = .returned (.tuple #[.pointer none, .int .i64 3]) ∧ Kept w w' := by
  have HE := hide1 h
  clear h
  go_enter Try.func14, Try.ntmps14
  go_wp2_with fail
  refine (len_any X _ xs _ HE.out).mono ?_
  rintro e w1 ⟨rfl, hk1⟩
  go_wp2_with fail
  refine (spans_no X _ xs f xs.length _ (HE.out.kept hk1) (by omega)).mono ?_
  rintro e w2 ⟨rfl, hk2⟩
  go_wp2
  go_ret2
  exact ⟨rfl, gtrans hk1 hk2⟩

set_option maxRecDepth 100000 in
set_option maxHeartbeats 2000000 in
theorem next_some (S : Nat → Prop) (D i : Nat) (pc rs ys : List Int) (y : Int) (w : World) (hS : Open S w) (h : ReaderAt S w D i pc rs) (he : pc ++ rs = y :: ys) (hi : i + 1 ≤ 1000000000) :
    Calls Try.prog 15 #[.pointer (some ⟨D, 0, none⟩)] w fun e w' => e = .returned (.tuple #[.int .u8 y, .bool true]) ∧ KeptBut D w w' ∧ ∃ pc' rs', ReaderAt S w' D (i + 1) pc' rs' ∧ pc' ++ rs' = ys := by
  have HE := hide1 h
  have hb : (!(pc ++ rs).isEmpty) = true := by rw [he]; rfl
  have HEQ := hide1 he
  clear h he
  go_enter Try.func15, Try.ntmps15
  go_wp2_with fail
  refine (more_any S D i pc rs _ hS HE.out).mono ?_
  rintro e w1 ⟨rfl, hk1, pc1, rs1, hr1, hne1, he1⟩
  rw [hb]
  have hne : pc1 ≠ [] := hne1 (by rw [HEQ.out]; simp)
  obtain ⟨z, zs, rfl⟩ := List.exists_cons_of_ne_nil hne
  rw [HEQ.out, List.cons_append] at he1
  injection he1 with e1 e2
  subst e1
  have HR1 := hide1 hr1
  have HK1 := hide1 hk1
  have HE2 := hide1 e2
  clear hr1 hk1 e2 hne hne1
  go_wp2_with fail
  refine (take_any S D i 1 (z :: zs) rs1 _ HR1.out (by simp) (by decide) hi).mono ?_
  rintro e w2 ⟨v, rfl, hk2, hs2, hr2⟩
  have HK2 := hide1 (HK1.out.trans hk2)
  have HR2 := hide1 hr2
  obtain ⟨c, o, cap, rfl, _, _, hcell, _⟩ := hs2
  have hc0 := hcell 0 z (by simp)
  rw [Nat.add_zero] at hc0
  clear hk2 hr2 hcell
  go_wp2
  go_ret2
  exact ⟨rfl, HK2.out, zs, rs1, HR2.out, HE2.out⟩

set_option maxRecDepth 100000 in
set_option maxHeartbeats 2000000 in
theorem next_none (S : Nat → Prop) (D i : Nat) (pc rs : List Int) (w : World) (hS : Open S w) (h : ReaderAt S w D i pc rs) (he : pc ++ rs = []) :
    Calls Try.prog 15 #[.pointer (some ⟨D, 0, none⟩)] w fun e w' => e = .returned (.tuple #[.int .u8 0, .bool false]) ∧ KeptBut D w w' ∧ ∃ pc' rs', ReaderAt S w' D i pc' rs' ∧ pc' ++ rs' = [] := by
  have HE := hide1 h
  have hb : (!(pc ++ rs).isEmpty) = false := by rw [he]; rfl
  have HEQ := hide1 he
  clear h he
  go_enter Try.func15, Try.ntmps15
  go_wp2_with fail
  refine (more_any S D i pc rs _ hS HE.out).mono ?_
  rintro e w1 ⟨rfl, hk1, pc1, rs1, hr1, hne1, he1⟩
  rw [hb]
  have HR1 := hide1 hr1
  have HK1 := hide1 hk1
  have HE1 := hide1 (he1.trans HEQ.out)
  clear hr1 hk1 he1 hne1
  go_wp2
  go_ret2
  exact ⟨rfl, HK1.out, pc1, rs1, HR1.out, HE1.out⟩

set_option maxHeartbeats 1000000 in
theorem rat_is (D i : Nat) (w : World) (h : w.cell? ⟨D, 0, none⟩ = some (.int .i64 i)) :
    Calls Try.prog 16 #[.pointer (some ⟨D, 0, none⟩)] w fun e w' => e = .returned (.int .i64 i) ∧ Kept w w' := by
  go_enter Try.func16, Try.ntmps16
  go_wp2
  go_ret
  exact ⟨rfl, Kept.refl _⟩


/-- A reader, or none where the place is none. -/
def Rd (S : Nat → Prop) (w : World) (v : Value) (x : Int) (xs : List Int) : Prop :=
  (v = .pointer none ∧ (x < 0 ∨ xs.length < x)) ∨ ∃ (D i : Nat) (pc rs : List Int), v = .pointer (some ⟨D, 0, none⟩) ∧ x = (i : Int) ∧ i ≤ xs.length ∧ ReaderAt S w D i pc rs ∧ pc ++ rs = xs.drop i

theorem ReaderAt.move {S S' : Nat → Prop} {w w' : World} {D i : Nat} {pc rs : List Int} (h : ReaderAt S w D i pc rs) (hS : ∀ b, S b → b < w.heap.size → S' b ∧ w'.heap[b]? = w.heap[b]?) (hD : w'.heap[D]? = w.heap[D]?) (hn : ¬ S' D) : ReaderAt S' w' D i pc rs := by
  obtain ⟨h1, h2, v, u, h3, h4, h5, h6, h7⟩ := h
  have hs : Same (fun b => S b ∧ b < w.heap.size) w w' := ⟨fun b o v hb hc => by rw [World.cell?_of_block (w := w) (a := ⟨b, o, none⟩) (hS b hb.1 hb.2).2]; exact hc, fun b v hb _ hp o => by rw [World.frozen?_of_block (w := w) (a := ⟨b, o, none⟩) (hS b hb.1 hb.2).2]; exact hp o⟩
  refine ⟨hn, fun o => by rw [World.frozen?_of_block (w := w) (a := ⟨D, o, none⟩) hD]; exact h2 o, v, u, ?_, ?_, ?_, h6.tight.mono hs (fun b hb => (hS b hb.1 hb.2).1), (h7.tight.mono hs).wide (fun b hb => (hS b hb.1 hb.2).1)⟩
  · rw [World.cell?_of_block (w := w) (a := ⟨D, 0, none⟩) hD]; exact h3
  · rw [World.cell?_of_block (w := w) (a := ⟨D, 1, none⟩) hD]; exact h4
  · rw [World.cell?_of_block (w := w) (a := ⟨D, 2, none⟩) hD]; exact h5
theorem ReaderAt.lt {S : Nat → Prop} {w : World} {D i : Nat} {pc rs : List Int} (h : ReaderAt S w D i pc rs) : D < w.heap.size := by
  obtain ⟨_, _, v, u, d0, _⟩ := h
  exact World.block_lt_of_cell? w ⟨D, 0, none⟩ d0
theorem ReaderAt.place {S : Nat → Prop} {w : World} {D i : Nat} {pc rs : List Int} (h : ReaderAt S w D i pc rs) : w.cell? ⟨D, 0, none⟩ = some (.int .i64 i) := by
  obtain ⟨_, _, v, u, d0, _⟩ := h
  exact d0

/-- The readers in the row vL, and their places in block ab. -/
def Rds (S : Nat → Prop) (w : World) (ab : Nat) (vL : Value) (vs : List Value) (ats : List Int) (txs : List (List Int)) : Prop :=
  Open S w ∧ ¬ S ab ∧ (∀ b, b < ab → S b) ∧ ab < w.heap.size ∧ (∀ g, vL.ownBlock = some g → ¬ S g ∧ ab < g ∧ g < w.heap.size) ∧
  (∀ (t : Nat) (v : Value) (x : Int) (xs : List Int), vs[t]? = some v → ats[t]? = some x → txs[t]? = some xs → Rd S w v x xs) ∧
  (∀ (t t' D : Nat), vs[t]? = some (.pointer (some ⟨D, 0, none⟩)) → vs[t']? = some (.pointer (some ⟨D, 0, none⟩)) → t = t') ∧
  (∀ (t D : Nat), vs[t]? = some (.pointer (some ⟨D, 0, none⟩)) → ¬ S D ∧ ab < D ∧ vL.ownBlock ≠ some D ∧ D < w.heap.size)

section
variable {S : Nat → Prop} {w w' : World} {ab : Nat} {vL : Value} {vs : List Value} {ats : List Int} {txs : List (List Int)}

/-- Another world, in which all that the readers read is as it was. -/
theorem Rds.move (h : Rds S w ab vL vs ats txs) {S' : Nat → Prop} {vL' : Value} (hsz : w.heap.size ≤ w'.heap.size) (hO : Open S' w') (hlow : ∀ b, b < ab → S' b) (hin : ∀ b, S' b → b < w.heap.size → S b) (hS : ∀ b, S b → b < w.heap.size → S' b ∧ w'.heap[b]? = w.heap[b]?)
    (hD : ∀ (t D : Nat), vs[t]? = some (.pointer (some ⟨D, 0, none⟩)) → w'.heap[D]? = w.heap[D]?) (hL : ∀ g, vL'.ownBlock = some g → ¬ S' g ∧ ab < g ∧ g < w'.heap.size) (hLD : ∀ (t D : Nat), vs[t]? = some (.pointer (some ⟨D, 0, none⟩)) → vL'.ownBlock ≠ some D) : Rds S' w' ab vL' vs ats txs := by
  obtain ⟨h1, h2, h3, h4, h5, h6, h7, h8⟩ := h
  refine ⟨hO, fun h => h2 (hin ab h h4), hlow, by omega, hL, fun t v x xs hv hx hxs => ?_, h7, fun t D hv => ⟨fun h => (h8 t D hv).1 (hin D h (h8 t D hv).2.2.2), (h8 t D hv).2.1, hLD t D hv, by have := (h8 t D hv).2.2.2; omega⟩⟩
  rcases h6 t v x xs hv hx hxs with h | ⟨D, i, pc, rs, rfl, e1, e2, e3, e4⟩
  · exact .inl h
  · exact .inr ⟨D, i, pc, rs, rfl, e1, e2, e3.move hS (hD t D hv) (fun h => (h8 t D hv).1 (hin D h (h8 t D hv).2.2.2)), e4⟩

theorem Rds.kept (h : Rds S w ab vL vs ats txs) (hk : Kept w w') : Rds S w' ab vL vs ats txs := by
  have hh := h
  obtain ⟨h1, h2, h3, h4, h5, h6, h7, h8⟩ := h
  exact hh.move hk.size (h1.grown hk) h3 (fun _ h _ => h) (fun b hb hl => ⟨hb, hk.2.2.2.2 b hl⟩) (fun t D hv => hk.2.2.2.2 D (h8 t D hv).2.2.2) (fun g hg => ⟨(h5 g hg).1, (h5 g hg).2.1, by have := (h5 g hg).2.2; have := hk.size; omega⟩) (fun t D hv => (h8 t D hv).2.2.1)

/-- A new reader is read. -/
theorem Rds.read (h : Rds S w ab vL vs ats txs) (hk : Kept w w') {D i : Nat} {pc rs : List Int} (hD : w.heap.size ≤ D) (hD' : D < w'.heap.size) (hr : ReaderAt (fun b => (b < ab ∧ b < w.heap.size) ∨ (w.heap.size ≤ b ∧ b ≠ D)) w' D i pc rs) :
    Rds (fun b => S b ∧ b ≠ D) w' ab vL vs ats txs ∧ ReaderAt (fun b => S b ∧ b ≠ D) w' D i pc rs := by
  have hh := h
  obtain ⟨h1, h2, h3, h4, h5, h6, h7, h8⟩ := h
  refine ⟨hh.move hk.size (fun c hc => ⟨h1 c (Nat.le_trans hk.size hc), by omega⟩) (fun b hb => ⟨h3 b hb, by omega⟩) (fun _ h _ => h.1) (fun b hb hl => ⟨⟨hb, by omega⟩, hk.2.2.2.2 b hl⟩) (fun t D' hv => hk.2.2.2.2 D' (h8 t D' hv).2.2.2) (fun g hg => ⟨fun h => (h5 g hg).1 h.1, (h5 g hg).2.1, by have := (h5 g hg).2.2; have := hk.size; omega⟩) (fun t D' hv => (h8 t D' hv).2.2.1), ?_⟩
  refine hr.turn (fun b hb _ => ?_) (fun h => h.2 rfl)
  rcases hb with ⟨hb, _⟩ | ⟨hb, hne⟩
  · exact ⟨h3 b hb, by omega⟩
  · exact ⟨h1 b hb, hne⟩

/-- A reader, or none, goes onto the row. -/
theorem Rds.add (h : Rds S w ab vL vs ats txs) {W w2 : World} (hk : Kept w W) {g n cap : Nat} (hg : W.grownBy w2 vL.ownBlock) (hgg : vL.ownBlock = some g ∨ g = W.heap.size) (hlt : g < w2.heap.size) {v : Value} {x : Int} {xs : List Int} (hx : ats[vs.length]? = some x) (hxs : txs[vs.length]? = some xs)
    (hv : Rd S w v x xs) (hnew : ∀ D, v = .pointer (some ⟨D, 0, none⟩) → ¬ S D ∧ ab < D ∧ vL.ownBlock ≠ some D ∧ D < w.heap.size ∧ ∀ (t : Nat), vs[t]? ≠ some (.pointer (some ⟨D, 0, none⟩))) :
    Rds (fun b => S b ∧ b ≠ g) w2 ab (.slice (some ⟨g, 0, none⟩) n cap) (vs ++ [v]) ats txs := by
  obtain ⟨h1, h2, h3, h4, h5, h6, h7, h8⟩ := h
  have hszW := hk.size
  have hsz2 := hg.size
  have hblk : ∀ b, b < w.heap.size → vL.ownBlock ≠ some b → w2.heap[b]? = w.heap[b]? := fun b hb hne => by rw [hg.block b (by omega) (fun e => hne e.symm), hk.2.2.2.2 b hb]
  have hgab : ab < g := by rcases hgg with e | e; exact (h5 g e).2.1; omega
  have hS : ∀ b, S b → b < w.heap.size → (S b ∧ b ≠ g) ∧ w2.heap[b]? = w.heap[b]? := fun b hb hl => ⟨⟨hb, fun e => by subst e; rcases hgg with e | e; exact (h5 b e).1 hb; omega⟩, hblk b hl (fun e => (h5 b e).1 hb)⟩
  have hDD : ∀ D, D < w.heap.size → vL.ownBlock ≠ some D → g ≠ D := fun D h1 h2 e => by subst e; rcases hgg with e | e; exact h2 e; omega
  have tr : ∀ {u : Value} {y : Int} {ys : List Int}, (∀ D, u = .pointer (some ⟨D, 0, none⟩) → ¬ S D ∧ ab < D ∧ vL.ownBlock ≠ some D ∧ D < w.heap.size) → Rd S w u y ys → Rd (fun b => S b ∧ b ≠ g) w2 u y ys := by
    intro u y ys hu hr
    rcases hr with h | ⟨D, i, pc, rs, rfl, e1, e2, e3, e4⟩
    · exact .inl h
    · obtain ⟨b1, b2, b3, b4⟩ := hu D rfl
      exact .inr ⟨D, i, pc, rs, rfl, e1, e2, e3.move hS (hblk D b4 b3) (fun h => b1 h.1), e4⟩
  refine ⟨fun c hc => ⟨h1 c (by omega), by omega⟩, fun h => h2 h.1, fun b hb => ⟨h3 b hb, by omega⟩, by omega, fun g' hg' => ?_, fun t u y ys hu hy hys => ?_, fun t t' D hu hu' => ?_, fun t D hu => ?_⟩
  · simp only [Value.ownBlock, Option.some.injEq] at hg'
    subst hg'
    exact ⟨fun h => h.2 rfl, hgab, hlt⟩
  · rcases snoc_some hu with hu | ⟨rfl, rfl⟩
    · exact tr (fun D e => h8 t D (e ▸ hu)) (h6 t u y ys hu hy hys)
    · rw [hx] at hy
      rw [hxs] at hys
      injection hy with hy
      injection hys with hys
      subst hy hys
      exact tr (fun D e => by obtain ⟨b1, b2, b3, b4, _⟩ := hnew D e; exact ⟨b1, b2, b3, b4⟩) hv
  · rcases snoc_some hu with hu | ⟨rfl, e⟩
    · rcases snoc_some hu' with hu' | ⟨rfl, e⟩
      · exact h7 t t' D hu hu'
      · exact absurd hu ((hnew D e.symm).2.2.2.2 t)
    · rcases snoc_some hu' with hu' | ⟨rfl, _⟩
      · exact absurd hu' ((hnew D e.symm).2.2.2.2 t')
      · rfl
  · have hh : ¬ S D ∧ ab < D ∧ vL.ownBlock ≠ some D ∧ D < w.heap.size := by
      rcases snoc_some hu with hu | ⟨rfl, e⟩
      · exact h8 t D hu
      · obtain ⟨b1, b2, b3, b4, _⟩ := hnew D e.symm
        exact ⟨b1, b2, b3, b4⟩
    refine ⟨fun h => hh.1 h.1, hh.2.1, fun e => ?_, by have := hh.2.2.2; omega⟩
    simp only [Value.ownBlock, Option.some.injEq] at e
    exact hDD D hh.2.2.2 hh.2.2.1 e

/-- A row of ints in a block. -/
def IRow (w : World) (b : Nat) (zs : List Int) : Prop := w.heap[b]? = some (.cells (intsV zs).toArray 3 (0, 0))
theorem IRow.cell {b k : Nat} {zs : List Int} {x : Int} (h : IRow w b zs) (hx : zs[k]? = some x) : w.cell? ⟨b, k, none⟩ = some (.int .i64 x) := by
  unfold IRow at h
  simp only [World.cell?]
  rw [h]
  simp [intsV, hx]
theorem IRow.frozen {b k : Nat} {zs : List Int} (h : IRow w b zs) : w.frozen? ⟨b, k, none⟩ = false := by
  unfold IRow at h; simp [World.frozen?, h]
theorem IRow.set {b k : Nat} {zs : List Int} (h : IRow w b zs) (x : Int) : IRow (w.setCell ⟨b, k, none⟩ (.int .i64 x)) b (zs.set k x) := by
  unfold IRow at h ⊢
  rw [setCell_eq_setRow w b k _ _ _ _ h, setRow_heap w b _ _ _ _ h]
  simp [intsV]

/-- Reader k goes on, to place x'. -/
theorem Rds.next (h : Rds S w ab vL vs ats txs) {k D i' : Nat} {pc rs xs : List Int} (hv : vs[k]? = some (.pointer (some ⟨D, 0, none⟩))) (hk : KeptBut D w w') (hr : ReaderAt S w' D i' pc rs) (hi : i' ≤ xs.length) (he : pc ++ rs = xs.drop i') (hxs : txs[k]? = some xs) (hl : k < ats.length) :
    Rds S w' ab vL vs (ats.set k (i' : Int)) txs := by
  obtain ⟨h1, h2, h3, h4, h5, h6, h7, h8⟩ := h
  have hsz := hk.size
  refine ⟨h1.but hk, h2, h3, by omega, fun g hg => ⟨(h5 g hg).1, (h5 g hg).2.1, by have := (h5 g hg).2.2; omega⟩, fun t u y ys hu hy hys => ?_, h7, fun t D' hu => ⟨(h8 t D' hu).1, (h8 t D' hu).2.1, (h8 t D' hu).2.2.1, by have := (h8 t D' hu).2.2.2; omega⟩⟩
  by_cases htk : t = k
  · subst htk
    rw [hv] at hu
    rw [hxs] at hys
    rw [List.getElem?_set_self hl] at hy
    injection hu with hu
    injection hy with hy
    injection hys with hys
    subst hu hy hys
    exact .inr ⟨D, i', pc, rs, rfl, rfl, hi, hr, he⟩
  · rw [List.getElem?_set_ne (fun e => htk e.symm)] at hy
    rcases h6 t u y ys hu hy hys with h | ⟨D', i, pc', rs', rfl, e1, e2, e3, e4⟩
    · exact .inl h
    · have hne : D' ≠ D := fun e => htk (h7 t k D' hu (e ▸ hv))
      exact .inr ⟨D', i, pc', rs', rfl, e1, e2, e3.move (fun b hb hl => ⟨hb, hk.2.2.2.2 b hl (fun e => (h8 k D hv).1 (e ▸ hb))⟩) (hk.2.2.2.2 D' (h8 t D' hu).2.2.2 hne) e3.1, e4⟩

/-- A place is written. -/
theorem Rds.mark (h : Rds S w ab vL vs ats txs) (k : Nat) (u : Value) : Rds S (w.setCell ⟨ab, k, none⟩ u) ab vL vs ats txs := by
  have hh := h
  obtain ⟨h1, h2, h3, h4, h5, h6, h7, h8⟩ := h
  have hsz : (w.setCell ⟨ab, k, none⟩ u).heap.size = w.heap.size := by simp [World.setCell]
  have hset : ∀ b, b ≠ ab → (w.setCell ⟨ab, k, none⟩ u).heap[b]? = w.heap[b]? := fun b hne => Below.heap_setCell _ _ _ _ hne
  exact hh.move (by omega) (fun c hc => h1 c (by omega)) h3 (fun _ h _ => h) (fun b hb _ => ⟨hb, hset b (fun e => h2 (e ▸ hb))⟩) (fun t D hv => hset D (by have := (h8 t D hv).2.1; omega)) (fun g hg => ⟨(h5 g hg).1, (h5 g hg).2.1, by have := (h5 g hg).2.2; omega⟩) (fun t D hv => (h8 t D hv).2.2.1)
end

theorem preader_info : (Try.prog.info? 47).map (fun i => (i.zero, i.size, i.bytes)) = some (some (.pointer none), 1, 8) := by kernel_rfl
theorem wpl_add_reader {ops : Array Oper} {rest : List Oper} {o : Oper} {a : Act} {Q : Exit → Act → World → Prop} (hgd : o.guard = none) (s x : Operand)
    (ho : o.op = .call { callee := .builtin .append, args := #[s, x], argTypes := #[46, 46] }) (w W : World) (hW : Kept w W) (n0 : Nat) (vP : Value) (n : Nat) (ps : List Value) (hs : a.eval s = vP) (hown : w.ownsRow n0 47 1 vP n ps)
    (q : Option Addr) (lb : Nat) (hx : a.eval x = .slice (some ⟨lb, 0, none⟩) 1 1) (hc : W.cell? ⟨lb, 0, none⟩ = some (.pointer q)) (hn : n ≤ 1000) (hb : n0 ≤ w.heap.size)
    (h : ∀ g cap w', w'.ownsRow n0 47 1 (.slice (some ⟨g, 0, none⟩) (n + 1) cap) (n + 1) (ps ++ [.pointer q]) → W.grownBy w' vP.ownBlock → (vP.ownBlock = some g ∨ g = W.heap.size) → g < w'.heap.size → wpList Try.prog ops Q rest (a.put o.dst (.slice (some ⟨g, 0, none⟩) (n + 1) cap)) w') : wpList Try.prog ops Q (o :: rest) a W := by
  obtain ⟨i0, hi, hz0, hz1, hz2⟩ := info_parts preader_info
  have hown' : W.ownsRow n0 47 1 vP n ps := owns_same hown (fun g hg => hW.2.2.2.2 g (owns_lt hown g hg))
  exact wpList_append_lies W hgd s x 46 ho n0 47 i0 (.pointer none) 1 8 Try.underlying46 hi hz0 hz1 hz2 rfl (by decide) vP n ps hs hown' ⟨lb, 0, none⟩ 1 1 [.pointer q] hx rfl (one_news hc) (by intro u hu; simp at hu; subst hu; rfl) (by decide) (by unfold maxLen; omega) (by omega) (Nat.le_trans hb hW.size) W.heap.size rfl
    (fun g cap w' h1 h2 h3 h4 => h g cap w' h1 h2 h3 h4)

/-- The row of readers so far. -/
def Lst (S : Nat → Prop) (Wd : World) (ab : Nat) (ats : List Int) (txs : List (List Int)) (w : World) (j : Nat) (vs : List Value) (aL : Option Addr) (cL : Nat) : Prop :=
  Rds S w ab (.slice aL j cL) vs ats txs ∧ vs.length = j ∧ w.ownsRow (ab + 1) 47 1 (.slice aL j cL) j vs ∧ IRow w ab ats ∧ Below ab Wd w

section
variable {S : Nat → Prop} {Wd w w' : World} {ab j cL : Nat} {vs : List Value} {ats : List Int} {txs : List (List Int)} {aL : Option Addr}
theorem Lst.lt (h : Lst S Wd ab ats txs w j vs aL cL) : ab < w.heap.size := by obtain ⟨⟨_, _, _, h, _⟩, _⟩ := h; exact h
theorem IRow.same {b : Nat} {zs : List Int} (h : IRow w b zs) (hh : w'.heap[b]? = w.heap[b]?) : IRow w' b zs := by unfold IRow at h ⊢; rw [hh]; exact h
theorem Lst.kept (h : Lst S Wd ab ats txs w j vs aL cL) (hk : Kept w w') : Lst S Wd ab ats txs w' j vs aL cL := by
  have hlt := h.lt
  obtain ⟨h1, h2, h3, h4, h5⟩ := h
  exact ⟨h1.kept hk, h2, owns_same h3 (fun g hg => hk.2.2.2.2 g (owns_lt h3 g hg)), h4.same (hk.2.2.2.2 ab hlt), h5.trans (hk.below.mono (by omega))⟩
theorem Lst.read (h : Lst S Wd ab ats txs w j vs aL cL) (hk : Kept w w') {D i : Nat} {pc rs xs : List Int} (hD : w.heap.size ≤ D) (hD' : D < w'.heap.size) (hr : ReaderAt (fun b => (b < ab ∧ b < w.heap.size) ∨ (w.heap.size ≤ b ∧ b ≠ D)) w' D i pc rs) (he : pc ++ rs = xs.drop i) (hi : i ≤ xs.length) :
    Lst (fun b => S b ∧ b ≠ D) Wd ab ats txs w' j vs aL cL ∧ Rd (fun b => S b ∧ b ≠ D) w' (.pointer (some ⟨D, 0, none⟩)) (i : Int) xs ∧
      ∀ D', (.pointer (some ⟨D, 0, none⟩) : Value) = .pointer (some ⟨D', 0, none⟩) → ¬ (S D' ∧ D' ≠ D) ∧ ab < D' ∧ (Value.slice aL j cL).ownBlock ≠ some D' ∧ D' < w'.heap.size ∧ ∀ (t : Nat), vs[t]? ≠ some (.pointer (some ⟨D', 0, none⟩)) := by
  have hlt := h.lt
  have hall := h.kept hk
  obtain ⟨h1, h2, h3, h4, h5⟩ := h
  obtain ⟨g1, g2⟩ := h1.read hk hD hD' hr
  obtain ⟨_, k2, k3, k4, k5⟩ := hall
  refine ⟨⟨g1, k2, k3, k4, k5⟩, .inr ⟨D, i, pc, rs, rfl, rfl, hi, g2, he⟩, fun D' e => ?_⟩
  injection e with e
  injection e with e
  injection e with e
  subst e
  obtain ⟨_, _, _, _, h5', _, _, h8⟩ := h1
  exact ⟨fun h => h.2 rfl, by omega, fun e => by have := (h5' D e).2.2; omega, hD', fun t ht => by have := (h8 t D ht).2.2.2; omega⟩
theorem Lst.add (h : Lst S Wd ab ats txs w j vs aL cL) {W w2 : World} (hk : Kept w W) {g cap : Nat} (hg : W.grownBy w2 (Value.slice aL j cL).ownBlock) (hgg : (Value.slice aL j cL).ownBlock = some g ∨ g = W.heap.size) (hlt : g < w2.heap.size) {v : Value} {x : Int} {xs : List Int}
    (ho : w2.ownsRow (ab + 1) 47 1 (.slice (some ⟨g, 0, none⟩) (j + 1) cap) (j + 1) (vs ++ [v])) (hx : ats[j]? = some x) (hxs : txs[j]? = some xs)
    (hv : Rd S w v x xs) (hnew : ∀ D, v = .pointer (some ⟨D, 0, none⟩) → ¬ S D ∧ ab < D ∧ (Value.slice aL j cL).ownBlock ≠ some D ∧ D < w.heap.size ∧ ∀ (t : Nat), vs[t]? ≠ some (.pointer (some ⟨D, 0, none⟩))) :
    Lst (fun b => S b ∧ b ≠ g) Wd ab ats txs w2 (j + 1) (vs ++ [v]) (some ⟨g, 0, none⟩) cap := by
  have habl := h.lt
  obtain ⟨h1, h2, h3, h4, h5⟩ := h
  have hsz := hk.size
  have hne : ∀ b, b ≤ ab → some b ≠ (Value.slice aL j cL).ownBlock := fun b hb e => by have := owns_base h3 b e.symm; omega
  subst h2
  refine ⟨h1.add hk hg hgg hlt hx hxs hv hnew, by simp, ho, ?_, ?_⟩
  · refine h4.same ?_
    rw [hg.block ab (by omega) (hne ab (Nat.le_refl _)), hk.2.2.2.2 ab habl]
  · exact h5.trans ((hk.below.mono (by omega)).grown hg (by omega) (fun k hk' => by have := owns_base h3 k hk'; omega))
theorem rd_kept {v : Value} {x : Int} {xs : List Int} (h : Rd S w v x xs) (hk : Kept w w') : Rd S w' v x xs := by
  rcases h with h | ⟨D, i, pc, rs, e0, e1, e2, e3, e4⟩
  · exact .inl h
  · exact .inr ⟨D, i, pc, rs, e0, e1, e2, e3.kept hk, e4⟩
/-- Between a reader's step and its mark. -/
def Mid (S : Nat → Prop) (Wd : World) (ab : Nat) (ats ats' : List Int) (txs : List (List Int)) (w : World) (j : Nat) (vs : List Value) (aL : Option Addr) (cL : Nat) : Prop :=
  Rds S w ab (.slice aL j cL) vs ats' txs ∧ vs.length = j ∧ w.ownsRow (ab + 1) 47 1 (.slice aL j cL) j vs ∧ IRow w ab ats ∧ Below ab Wd w
theorem Mid.kept {ats' : List Int} (h : Mid S Wd ab ats ats' txs w j vs aL cL) (hk : Kept w w') : Mid S Wd ab ats ats' txs w' j vs aL cL := by
  have hlt : ab < w.heap.size := by obtain ⟨⟨_, _, _, h, _⟩, _⟩ := h; exact h
  obtain ⟨h1, h2, h3, h4, h5⟩ := h
  exact ⟨h1.kept hk, h2, owns_same h3 (fun g hg => hk.2.2.2.2 g (owns_lt h3 g hg)), h4.same (hk.2.2.2.2 ab hlt), h5.trans (hk.below.mono (by omega))⟩
theorem Lst.next (h : Lst S Wd ab ats txs w j vs aL cL) {k D i' : Nat} {pc rs xs : List Int} (hv : vs[k]? = some (.pointer (some ⟨D, 0, none⟩))) (hk : KeptBut D w w') (hr : ReaderAt S w' D i' pc rs) (hi : i' ≤ xs.length) (he : pc ++ rs = xs.drop i') (hxs : txs[k]? = some xs) (hl : k < ats.length) :
    Mid S Wd ab ats (ats.set k (i' : Int)) txs w' j vs aL cL := by
  have hlt := h.lt
  obtain ⟨h1, h2, h3, h4, h5⟩ := h
  have hD : ab < D ∧ (Value.slice aL j cL).ownBlock ≠ some D := by obtain ⟨_, _, _, _, _, _, _, h8⟩ := h1; exact ⟨(h8 k D hv).2.1, (h8 k D hv).2.2.1⟩
  refine ⟨h1.next hv hk hr hi he hxs hl, h2, owns_same h3 (fun g hg => hk.2.2.2.2 g (owns_lt h3 g hg) (fun e => hD.2 (e ▸ hg))), h4.same (hk.2.2.2.2 ab hlt (by omega)), h5.trans ⟨hk.1, hk.2.1, hk.2.2.1, hk.2.2.2.1, fun b hb => hk.2.2.2.2 b (by omega) (by omega)⟩⟩
theorem Mid.mark {ats' : List Int} (h : Mid S Wd ab ats ats' txs w j vs aL cL) (k : Nat) (x : Int) (he : ats.set k x = ats') : Lst S Wd ab ats' txs (w.setCell ⟨ab, k, none⟩ (.int .i64 x)) j vs aL cL := by
  obtain ⟨h1, h2, h3, h4, h5⟩ := h
  subst he
  exact ⟨h1.mark k _, h2, owns_same h3 (fun g hg => Below.heap_setCell _ _ _ _ (by have := owns_base h3 g hg; show g ≠ ab; omega)), h4.set x, h5.setCell (Nat.le_refl _) _⟩
theorem Lst.row (h : Lst S Wd ab ats txs w j vs aL cL) : w.ownsRow (ab + 1) 47 1 (.slice aL j cL) j vs := h.2.2.1
theorem Lst.big (h : Lst S Wd ab ats txs w j vs aL cL) : ab + 1 ≤ w.heap.size := h.lt
end

end Rope
end Go.Proofs.Ytenhifihbhbicab
