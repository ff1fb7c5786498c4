import Derived.Test.YtggodknnfpegmaaDoorMSpSz2
import Derived.Test.YtggodknnfpegmaaDoorMSpDl
import Derived.Test.YtggodknnfpegmaaDoorMExTw0
import Derived.Laws.CopyRow
import Derived.Deep.RegionHeld3
import Derived.Test.YtggodknnfpegmaaDoorMSpHs
namespace Go.Proofs.YtggodknnfpegmaaDoor
open Go.RowKit
attribute [local go_sem] Oper.semAt_some
namespace Ex

/-- A row of n cells in a block of its own. -/
def RowG (w : World) (g n : Nat) (t : TypeId) : Prop := ∃ cur : Array Value, w.heap[g]? = some (.cells cur t (0, 0)) ∧ cur.size = n
section
variable {w w' : World} {g n : Nat} {t : TypeId}
theorem RowG.lt (h : RowG w g n t) : g < w.heap.size := by obtain ⟨_, h, _⟩ := h; exact (Array.getElem?_eq_some_iff.1 h).1
theorem RowG.keep (h : RowG w g n t) (hk : Kept w w') : RowG w' g n t := by
  obtain ⟨cur, h1, h2⟩ := h
  exact ⟨cur, (hk.2.2.2.2 g (Array.getElem?_eq_some_iff.1 h1).1).trans h1, h2⟩
theorem RowG.set (h : RowG w g n t) (o : Nat) (x : Value) : RowG (w.setCell ⟨g, o, none⟩ x) g n t := by
  obtain ⟨cur, h1, h2⟩ := h
  have hl : g < w.heap.size := (Array.getElem?_eq_some_iff.1 h1).1
  have he : w.heap[g] = Obj.cells cur t (0, 0) := by rw [Array.getElem?_eq_getElem hl] at h1; exact Option.some.inj h1
  refine ⟨cur.set! o x, ?_, by simpa using h2⟩
  simp [World.setCell, Array.getElem_modify, hl, he]
theorem RowG.cell (h : RowG w g n t) {k : Nat} (hk : k < n) : (∃ x, w.cell? ⟨g, k, none⟩ = some x) ∧ w.frozen? ⟨g, k, none⟩ = false := by
  obtain ⟨cur, h1, h2⟩ := h
  refine ⟨⟨cur[k]'(by omega), ?_⟩, ?_⟩
  · simp [World.cell?, h1, h2, hk]
  · simp [World.frozen?, h1]
theorem RowG.same (h : RowG w g n t) {o : Nat} {x : Value} (ho : o < n) : (w.setCell ⟨g, o, none⟩ x).cell? ⟨g, o, none⟩ = some x := by
  obtain ⟨⟨y, hy⟩, _⟩ := h.cell ho
  exact World.cell?_setCell_same w _ _ hy
end
theorem row_alloc (w : World) (cur : Array Value) (t : TypeId) : RowG (w.alloc (.cells cur t)) w.heap.size cur.size t := ⟨cur, heap_alloc_new w _, rfl⟩
/-- make of n + 1 elements. -/
theorem run_rowG {t e : TypeId} (ht : Tryd.prog.underlying t = some (.slice e)) (sz byt : Nat) (hinfo : (Tryd.prog.info? e).map (fun i => (i.zero.isSome, i.size, i.bytes)) = some (true, sz, byt)) (n : Nat) (hn : (byt : Int) * ((n : Int) + 1) ≤ 281474976710656) (h63 : (n : Int) + 1 ≤ 9223372036854775807) (w : World) :
    ∃ cur : Array Value, cur.size = (n + 1) * sz ∧ (Instr.makeSlice t (.int .i64 ((n : Int) + 1)) (.int .i64 ((n : Int) + 1))).run Tryd.prog w = .ok (.slice (some ⟨w.heap.size, 0, none⟩) (n + 1) (n + 1)) (w.alloc (.cells cur e)) := by
  obtain ⟨i, hi, h2⟩ := Option.map_eq_some_iff.1 hinfo
  simp only [Prod.mk.injEq] at h2
  obtain ⟨z, hz⟩ := Option.isSome_iff_exists.1 h2.1
  refine ⟨madeCells z.cells (((n : Int) + 1).toNat * i.size), ?_, ?_⟩
  · rw [size_madeCells, h2.2.1]
    congr 1
  · rw [run_make (P := Tryd.prog) w t e i z ht hi hz .i64 .i64 ((n : Int) + 1) ((n : Int) + 1) (by omega) (Int.le_refl _) (by rw [h2.2.2]; exact hn) h63]
    congr 1
theorem run_copy_n {P : Program} (w : World) (dT sT ty elem : TypeId) (sz g n dLen dCap : Nat) (a : Addr) (sCap : Nat) (cur : Array Value) (t : TypeId) (cs : List Value) (hle : n ≤ dLen)
    (hu : P.underlying dT = some (.slice elem)) (hs : (P.info? elem).map (·.size) = some sz)
    (hg : w.heap[g]? = some (.cells cur t (0, 0))) (hn : cs.length = n * sz)
    (hsrc : ∀ j v, cs[j]? = some v → w.cell? (a.add j) = some v) (hfit : cs.length ≤ cur.size) (h1 : ∀ v ∈ cs, v.oneCell' = true) :
    (Builtin.copy_ #[dT, sT] ty #[.slice (some ⟨g, 0, none⟩) dLen dCap, .slice (some a) n sCap]).run P w =
      .ok (goInt n) (w.setRow g (cs ++ cur.toList.drop cs.length).toArray) := by
  have hl := run_loadCells_list (P := P) w a cs hsrc
  have hst := run_storeCells_at P g 0 t cs 0 cur w hg (by simpa using hfit) h1
  have hmin : Nat.min n dLen = n := Nat.min_eq_left hle
  cases hq : P.info? elem with
  | none => simp [hq] at hs
  | some i =>
    have hi : i.size = sz := by simpa [hq] using hs
    simp [Builtin.copy_, run_underlying hu, Builtin.lenOf, Builtin.firstCells, sizeOf, typeInfo, hq, hi, hmin, ← hn, hl, hst]
theorem run_copy_0 {P : Program} (w : World) (dT sT ty elem : TypeId) (sz : Nat) (d a : Option Addr) (dLen dCap sCap : Nat) (hu : P.underlying dT = some (.slice elem)) (hs : (P.info? elem).map (·.size) = some sz) :
    (Builtin.copy_ #[dT, sT] ty #[.slice d dLen dCap, .slice a 0 sCap]).run P w = .ok (goInt (0 : Nat)) w := by
  cases hq : P.info? elem with
  | none => simp [hq] at hs
  | some i =>
    have hl : ∀ (x : Addr), (loadCells x 0).run P w = .ok #[] w := fun x => by simpa using run_loadCells_list (P := P) w x [] (by simp)
    cases d <;> cases a <;> simp [Builtin.copy_, run_underlying hu, Builtin.lenOf, Builtin.firstCells, sizeOf, typeInfo, hq, storeCells, hl]
/-- Elements in a row from its head on. -/
def ElsAt {α : Type} (w : World) (sz : Nat) (El : List Value → α → Prop) (g : Nat) (xs : List α) : Prop := ∀ (i : Nat) (x : α), xs[i]? = some x → ∃ cs : List Value, cs.length = sz ∧ (∀ (j : Nat) (u : Value), cs[j]? = some u → w.cell? ⟨g, i * sz + j, none⟩ = some u) ∧ El cs x
theorem but_row (w : World) (g : Nat) (cs : Array Value) : KeptBut g w (w.setRow g cs) := ⟨rfl, rfl, rfl, by simp [World.setRow], fun k _ hne => setRow_other w g k cs hne⟩
set_option maxRecDepth 100000 in
/-- copy of a list into a row that is longer. -/
theorem copy_is {α : Type} {w : World} {sz : Nat} {El : List Value → α → Prop} {sp : Option Addr} {sCap : Nat} {xs : List α} {n : Nat} (hxs : xs.length = n) (h : SliceOf w sz El (.slice sp n sCap) xs) (hpos : 0 < sz) (one : ∀ cs x, El cs x → ∀ u ∈ cs, u.oneCell' = true) {dT elem : TypeId} (hu : Tryd.prog.underlying dT = some (.slice elem)) (hs : (Tryd.prog.info? elem).map (·.size) = some sz) {g : Nat} {t : TypeId} (hg : RowG w g ((n + 1) * sz) t) (ty : TypeId) :
    ∃ w', (Builtin.copy_ #[dT, dT] ty #[.slice (some ⟨g, 0, none⟩) (n + 1) (n + 1), .slice sp n sCap]).run Tryd.prog w = .ok (goInt n) w' ∧ RowG w' g ((n + 1) * sz) t ∧ ElsAt w' sz El g xs ∧ KeptBut g w w' := by
  obtain ⟨cur, hc1, hc2⟩ := hg
  by_cases h0 : n = 0
  · subst h0
    obtain rfl : xs = [] := List.length_eq_zero_iff.1 hxs
    exact ⟨w, run_copy_0 w dT dT ty elem sz _ _ _ _ _ hu hs, ⟨cur, hc1, hc2⟩, fun i x hi => by simp at hi, but_refl g w⟩
  · obtain ⟨c, o, hsp, hall⟩ : ∃ c o, sp = some ⟨c, o, none⟩ ∧ ∀ (i : Nat) (x : α), xs[i]? = some x → ∃ cs : List Value, cs.length = sz ∧ (∀ (j : Nat) (u : Value), cs[j]? = some u → w.cell? ⟨c, o + i * sz + j, none⟩ = some u) ∧ El cs x := by
      obtain ⟨a, cap, e, _, _, h4⟩ := h
      injection e with e1 e2 e3
      subst e1
      rcases h4 with h4 | ⟨c, o, h5, _, h7⟩
      · subst h4; simp at hxs; omega
      · exact ⟨c, o, h5, h7⟩
    subst hsp
    have hcell : ∀ q, q < n * sz → ∃ v, w.cell? ⟨c, o + q, none⟩ = some v ∧ v.oneCell' = true := by
      intro q hq
      have hi : q / sz < n := Nat.div_lt_of_lt_mul (by rw [Nat.mul_comm]; exact hq)
      obtain ⟨x, hx⟩ : ∃ x, xs[q / sz]? = some x := ⟨_, List.getElem?_eq_getElem (by omega)⟩
      obtain ⟨cs, g1, g2, g3⟩ := hall _ x hx
      obtain ⟨u, hu2⟩ : ∃ u, cs[q % sz]? = some u := ⟨_, List.getElem?_eq_getElem (by rw [g1]; exact Nat.mod_lt _ hpos)⟩
      have := g2 _ u hu2
      rw [Nat.add_assoc, Nat.div_add_mod' q sz] at this
      exact ⟨u, this, one cs x g3 u (List.mem_of_getElem? hu2)⟩
    obtain ⟨cs, hcs⟩ : ∃ cs : List Value, cs = (List.range (n * sz)).map (fun q => (w.cell? ⟨c, o + q, none⟩).getD (.bool false)) := ⟨_, rfl⟩
    have hlen : cs.length = n * sz := by rw [hcs, List.length_map, List.length_range]
    have hat : ∀ q, q < n * sz → ∃ v, cs[q]? = some v ∧ w.cell? ⟨c, o + q, none⟩ = some v ∧ v.oneCell' = true := by
      intro q hq
      obtain ⟨v, h1, h2⟩ := hcell q hq
      refine ⟨v, ?_, h1, h2⟩
      rw [hcs, List.getElem?_map, List.getElem?_range hq]
      simp [h1]
    have hsize : n * sz ≤ cur.size := by rw [hc2, Nat.succ_mul]; omega
    refine ⟨_, run_copy_n w dT dT ty elem sz g n (n + 1) (n + 1) ⟨c, o, none⟩ sCap cur t cs (by omega) hu hs hc1 hlen (fun j v hj => ?_) (by omega) (fun v hv => ?_), ⟨_, setRow_heap w g cur _ t _ hc1, ?_⟩, ?_, but_row w g _⟩
    · have hj2 := (List.getElem?_eq_some_iff.1 hj).1
      obtain ⟨v2, e1, e2, _⟩ := hat j (by omega)
      rw [hj] at e1
      injection e1 with e1
      subst e1
      rw [Addr.add_lit]
      exact e2
    · obtain ⟨j, hj⟩ := List.getElem?_of_mem hv
      have hj2 := (List.getElem?_eq_some_iff.1 hj).1
      obtain ⟨v2, e1, _, e3⟩ := hat j (by omega)
      rw [hj] at e1
      injection e1 with e1
      subst e1
      exact e3
    · simp [hlen, hc2]
      omega
    · intro i x hi
      obtain ⟨ds, g1, g2, g3⟩ := hall i x hi
      refine ⟨ds, g1, fun j u hj => ?_, g3⟩
      have hj2 := (List.getElem?_eq_some_iff.1 hj).1
      have hi2 := (List.getElem?_eq_some_iff.1 hi).1
      have hq : i * sz + j < n * sz := by
        have : (i + 1) * sz ≤ n * sz := Nat.mul_le_mul_right _ (by omega)
        rw [Nat.succ_mul] at this
        omega
      obtain ⟨v2, e1, e2, _⟩ := hat _ hq
      have h3 := g2 j u hj
      rw [Nat.add_assoc, e2] at h3
      injection h3 with h3
      subst h3
      simp only [World.cell?, setRow_heap w g cur _ t _ hc1]
      rw [List.getElem?_toArray, List.getElem?_append_left (by omega)]
      simpa using e1
theorem ElsAt.keep {α : Type} {w w' : World} {sz g : Nat} {El : List Value → α → Prop} {xs : List α} (h : ElsAt w sz El g xs) (hk : Kept w w') : ElsAt w' sz El g xs := fun i x hi => by
  obtain ⟨cs, h1, h2, h3⟩ := h i x hi
  exact ⟨cs, h1, fun j u hj => grown_cell hk (h2 j u hj), h3⟩
theorem ElsAt.set {α : Type} {w : World} {sz g o : Nat} {v : Value} {El : List Value → α → Prop} {xs : List α} (h : ElsAt w sz El g xs) (ho : xs.length * sz ≤ o) : ElsAt (w.setCell ⟨g, o, none⟩ v) sz El g xs := fun i x hi => by
  obtain ⟨cs, h1, h2, h3⟩ := h i x hi
  refine ⟨cs, h1, fun j u hj => ?_, h3⟩
  have hj2 := (List.getElem?_eq_some_iff.1 hj).1
  have hi2 := (List.getElem?_eq_some_iff.1 hi).1
  have : (i + 1) * sz ≤ xs.length * sz := Nat.mul_le_mul_right _ (by omega)
  rw [Nat.succ_mul] at this
  rw [set_other (by omega)]
  exact h2 j u hj
/-- What lies in memory lies in the heap. -/
theorem kids_in {S : Nat → Prop} {w : World} : ∀ (n : Nat) (l : List (PatN n)) (v : Value), KidsAt S w n l v → KidsAt (fun d => S d ∧ d < w.heap.size) w n l v
  | 0, _, _, h => h
  | n + 1, l, v, ⟨a, cap, h1, h2, h3, h4⟩ => by
    refine ⟨a, cap, h1, h2, h3, ?_⟩
    rcases h4 with h4 | ⟨c, o, h5, h6, h7⟩
    · exact .inl h4
    · by_cases h0 : l = []
      · exact .inl h0
      · have hc : c < w.heap.size := by
          obtain ⟨q, hq⟩ : ∃ q, l[0]? = some q := ⟨_, List.getElem?_eq_getElem (List.length_pos_iff.2 h0)⟩
          obtain ⟨v', g0, _⟩ := h7 0 q hq
          exact World.block_lt_of_cell? w _ g0
        refine .inr ⟨c, o, h5, ⟨h6, hc⟩, fun i q hq => ?_⟩
        obtain ⟨v', g0, g1, g2, g3, g4, g5, g6⟩ := h7 i q hq
        exact ⟨v', g0, g1, g2, g3, g4, g5, kids_in n _ _ g6⟩

end Ex
end Go.Proofs.YtggodknnfpegmaaDoor
namespace Go.Proofs.YtggodknnfpegmaaDoor
open Go.RowKit
attribute [local go_sem] Oper.semAt_some
namespace Ex

theorem mark_in {S : Nat → Prop} {w : World} : ∀ (n : Nat) (l : List (PatN n)) (v : Value), MarkAt S w n l v → MarkAt (fun d => S d ∧ d < w.heap.size) w n l v
  | 0, _, _, h => h
  | n + 1, l, v, h => by
    rcases h with h | ⟨h0, c, h1, h2, h3, h4, h5⟩
    · exact .inl h
    · refine .inr ⟨h0, c, h1, h2, ⟨h3, World.block_lt_of_cell? w _ h4⟩, h4, fun i q hq => ?_⟩
      obtain ⟨v', g0, g1, g2, g3, g4, g5, g6⟩ := h5 i q hq
      exact ⟨v', g0, g1, g2, g3, g4, g5, mark_in n _ _ g6⟩
/-- A pattern in memory apart from the blocks g and e; with marks, if it is flat. -/
def PatL (g e : Nat) {k : Nat} (p : PatN (k + 1)) (v : Value) (w : World) : Prop := KidsAt (fun d => (d ≠ g ∧ d ≠ e) ∧ d < w.heap.size) w k (kids p) v ∧ (boundsP p = 0 → MarkAt (fun d => (d ≠ g ∧ d ≠ e) ∧ d < w.heap.size) w k (kids p) v)
theorem PatL.keep {g e : Nat} {k : Nat} {p : PatN (k + 1)} {v : Value} {w w' : World} (h : PatL g e p v w) (hk : Kept w w') : PatL g e p v w' := ⟨KidsAt.mono (hk.holds _) (fun _ hd => ⟨hd.1, Nat.lt_of_lt_of_le hd.2 hk.size⟩) _ _ _ h.1, fun hb => MarkAt.mono (hk.holds _) (fun _ hd => ⟨hd.1, Nat.lt_of_lt_of_le hd.2 hk.size⟩) _ _ _ (h.2 hb)⟩
theorem holds_set {S : Nat → Prop} {w : World} {g o : Nat} {x : Value} (hS : ∀ d, S d → d ≠ g) : Holds S w (w.setCell ⟨g, o, none⟩ x) := fun b k v hb hv => by rw [set_other (.inl (hS b hb))]; exact hv
theorem PatL.set {g e c o : Nat} {k : Nat} {p : PatN (k + 1)} {v x : Value} {w : World} (h : PatL g e p v w) (hc : c = g ∨ c = e) : PatL g e p v (w.setCell ⟨c, o, none⟩ x) := ⟨KidsAt.mono (holds_set (fun _ hd => by rcases hc with rfl | rfl; exact hd.1.1; exact hd.1.2)) (fun _ hd => ⟨hd.1, by rw [World.size_setCell]; exact hd.2⟩) _ _ _ h.1, fun hb => MarkAt.mono (holds_set (fun _ hd => by rcases hc with rfl | rfl; exact hd.1.1; exact hd.1.2)) (fun _ hd => ⟨hd.1, by rw [World.size_setCell]; exact hd.2⟩) _ _ _ (h.2 hb)⟩
theorem PatL.weak {g e : Nat} {k : Nat} {p : PatN (k + 1)} {v : Value} {w : World} (h : PatL g e p v w) : PatL g g p v w := ⟨KidsAt.mono (fun _ _ _ _ hv => hv) (fun _ hd => ⟨⟨hd.1.1, hd.1.1⟩, hd.2⟩) _ _ _ h.1, fun hb => MarkAt.mono (fun _ _ _ _ hv => hv) (fun _ hd => ⟨⟨hd.1.1, hd.1.1⟩, hd.2⟩) _ _ _ (h.2 hb)⟩
theorem pat_twin {g e0 k : Nat} {p : PatN (k + 1)} {v : Value} {w0 w : World} (h : KidsAt (fun d => d < w0.heap.size) w0 k (kids p) v) (hk : Kept w0 w) (hg : w0.heap.size ≤ g) (hgw : g < w.heap.size) (he : w0.heap.size ≤ e0) (hew : e0 < w.heap.size) :
    Calls Tryd.prog 41 #[.agg #[.int .i64 (kind p), .int .i64 (from_ p), .int .i64 (to_ p), .int .i64 (min_ p), .int .i64 (max_ p), v]] w fun e w' => ∃ v2, e = .returned (.agg #[.int .i64 (kind p), .int .i64 (from_ p), .int .i64 (to_ p), .int .i64 (min_ p), .int .i64 (max_ p), v2]) ∧ PatL g e0 p v2 w' ∧ Kept w w' := by
  refine Calls.mono (TwinExpr_is (fun d => d ≠ g ∧ d ≠ e0) k p v w (KidsAt.mono (hk.holds _) (fun d hd => ⟨by omega, by omega⟩) _ _ _ h)) ?_
  rintro e w' ⟨h1, h2⟩
  obtain ⟨v2, e1, k1, m1⟩ := (show ∃ v2, e = .returned (valOf p v2) ∧ KidsAt (fun d => (d ≠ g ∧ d ≠ e0) ∨ w.heap.size ≤ d) w' k (kids p) v2 ∧ (boundsP p = 0 → MarkAt (fun d => w.heap.size ≤ d) w' k (kids p) v2) from h1)
  refine ⟨v2, e1, ⟨?_, fun hb => ?_⟩, h2⟩
  · exact KidsAt.mono (fun _ _ _ _ hv => hv) (fun d hd => ⟨⟨by rcases hd.1 with h | h <;> omega, by rcases hd.1 with h | h <;> omega⟩, hd.2⟩) _ _ _ (kids_in _ _ _ k1)
  · exact MarkAt.mono (fun _ _ _ _ hv => hv) (fun d hd => ⟨⟨by have := hd.1; omega, by have := hd.1; omega⟩, hd.2⟩) _ _ _ (mark_in _ _ _ (m1 hb))
/-- The rules that are laid. -/
def LexIt (w : World) (g e : Nat) {k : Nat} (lex : List (LexM k)) (j : Nat) : Prop := ∀ (i : Nat) (l : LexM k), i < j → lex[i]? = some l → ∃ v', w.cell? ⟨g, i * 8, none⟩ = some (.string l.1) ∧ w.cell? ⟨g, i * 8 + 1, none⟩ = some (.bool l.2.1) ∧ w.cell? ⟨g, i * 8 + 2, none⟩ = some (.int .i64 (kind l.2.2)) ∧ w.cell? ⟨g, i * 8 + 3, none⟩ = some (.int .i64 (from_ l.2.2)) ∧ w.cell? ⟨g, i * 8 + 4, none⟩ = some (.int .i64 (to_ l.2.2)) ∧ w.cell? ⟨g, i * 8 + 5, none⟩ = some (.int .i64 (min_ l.2.2)) ∧ w.cell? ⟨g, i * 8 + 6, none⟩ = some (.int .i64 (max_ l.2.2)) ∧ w.cell? ⟨g, i * 8 + 7, none⟩ = some v' ∧ PatL g e l.2.2 v' w
theorem LexIt.keep {w w' : World} {g e k j : Nat} {lex : List (LexM k)} (h : LexIt w g e lex j) (hk : Kept w w') : LexIt w' g e lex j := fun i l hi hl => by
  obtain ⟨v', h0, h1, h2, h3, h4, h5, h6, h7, h8⟩ := h i l hi hl
  exact ⟨v', grown_cell hk h0, grown_cell hk h1, grown_cell hk h2, grown_cell hk h3, grown_cell hk h4, grown_cell hk h5, grown_cell hk h6, grown_cell hk h7, h8.keep hk⟩
theorem LexIt.set {w : World} {g e k j o : Nat} {x : Value} {lex : List (LexM k)} (h : LexIt w g e lex j) (ho : j * 8 ≤ o) : LexIt (w.setCell ⟨g, o, none⟩ x) g e lex j := fun i l hi hl => by
  obtain ⟨v', h0, h1, h2, h3, h4, h5, h6, h7, h8⟩ := h i l hi hl
  refine ⟨v', ?_, ?_, ?_, ?_, ?_, ?_, ?_, ?_, h8.set (.inl rfl)⟩ <;> rw [set_other (by omega)] <;> assumption
theorem LexIt.setE {w : World} {g e k j o : Nat} {x : Value} {lex : List (LexM k)} (h : LexIt w g e lex j) (hg : g ≠ e) : LexIt (w.setCell ⟨e, o, none⟩ x) g e lex j := fun i l hi hl => by
  obtain ⟨v', h0, h1, h2, h3, h4, h5, h6, h7, h8⟩ := h i l hi hl
  refine ⟨v', ?_, ?_, ?_, ?_, ?_, ?_, ?_, ?_, h8.set (.inr rfl)⟩ <;> rw [set_other (.inl hg)] <;> assumption
theorem LexIt.weak {w : World} {g e k j : Nat} {lex : List (LexM k)} (h : LexIt w g e lex j) : LexIt w g g lex j := fun i l hi hl => by
  obtain ⟨v', h0, h1, h2, h3, h4, h5, h6, h7, h8⟩ := h i l hi hl
  exact ⟨v', h0, h1, h2, h3, h4, h5, h6, h7, h8.weak⟩
/-- Eight cells that are written one behind the other. -/
def put8 (w : World) (g o : Nat) (x0 x1 x2 x3 x4 x5 x6 x7 : Value) : World := (((((((w.setCell ⟨g, o, none⟩ x0).setCell ⟨g, o + 1, none⟩ x1).setCell ⟨g, o + 2, none⟩ x2).setCell ⟨g, o + 3, none⟩ x3).setCell ⟨g, o + 4, none⟩ x4).setCell ⟨g, o + 5, none⟩ x5).setCell ⟨g, o + 6, none⟩ x6).setCell ⟨g, o + 7, none⟩ x7
section
variable {w : World} {g o n : Nat} {t : TypeId} {x0 x1 x2 x3 x4 x5 x6 x7 : Value}
theorem put8_row (h : RowG w g n t) : RowG (put8 w g o x0 x1 x2 x3 x4 x5 x6 x7) g n t := (((((((h.set _ _).set _ _).set _ _).set _ _).set _ _).set _ _).set _ _).set _ _
theorem put8_kept {w1 : World} (h : Kept w1 w) (hg : w1.heap.size ≤ g) : Kept w1 (put8 w g o x0 x1 x2 x3 x4 x5 x6 x7) := keep_set (keep_set (keep_set (keep_set (keep_set (keep_set (keep_set (keep_set h hg) hg) hg) hg) hg) hg) hg) hg
theorem put8_pat {k e : Nat} {p : PatN (k + 1)} {v : Value} (h : PatL g e p v w) : PatL g e p v (put8 w g o x0 x1 x2 x3 x4 x5 x6 x7) := (((((((h.set (.inl rfl)).set (.inl rfl)).set (.inl rfl)).set (.inl rfl)).set (.inl rfl)).set (.inl rfl)).set (.inl rfl)).set (.inl rfl)
theorem put8_cells (h : RowG w g n t) (ho : o + 8 ≤ n) : (put8 w g o x0 x1 x2 x3 x4 x5 x6 x7).cell? ⟨g, o, none⟩ = some x0 ∧ (put8 w g o x0 x1 x2 x3 x4 x5 x6 x7).cell? ⟨g, o + 1, none⟩ = some x1 ∧ (put8 w g o x0 x1 x2 x3 x4 x5 x6 x7).cell? ⟨g, o + 2, none⟩ = some x2 ∧ (put8 w g o x0 x1 x2 x3 x4 x5 x6 x7).cell? ⟨g, o + 3, none⟩ = some x3 ∧ (put8 w g o x0 x1 x2 x3 x4 x5 x6 x7).cell? ⟨g, o + 4, none⟩ = some x4 ∧ (put8 w g o x0 x1 x2 x3 x4 x5 x6 x7).cell? ⟨g, o + 5, none⟩ = some x5 ∧ (put8 w g o x0 x1 x2 x3 x4 x5 x6 x7).cell? ⟨g, o + 6, none⟩ = some x6 ∧ (put8 w g o x0 x1 x2 x3 x4 x5 x6 x7).cell? ⟨g, o + 7, none⟩ = some x7 := by
  unfold put8
  refine ⟨?_, ?_, ?_, ?_, ?_, ?_, ?_, ?_⟩
  · rw [set_other (by omega), set_other (by omega), set_other (by omega), set_other (by omega), set_other (by omega), set_other (by omega), set_other (by omega)]; exact h.same (by omega)
  · rw [set_other (by omega), set_other (by omega), set_other (by omega), set_other (by omega), set_other (by omega), set_other (by omega)]; exact (h.set _ _).same (by omega)
  · rw [set_other (by omega), set_other (by omega), set_other (by omega), set_other (by omega), set_other (by omega)]; exact ((h.set _ _).set _ _).same (by omega)
  · rw [set_other (by omega), set_other (by omega), set_other (by omega), set_other (by omega)]; exact (((h.set _ _).set _ _).set _ _).same (by omega)
  · rw [set_other (by omega), set_other (by omega), set_other (by omega)]; exact ((((h.set _ _).set _ _).set _ _).set _ _).same (by omega)
  · rw [set_other (by omega), set_other (by omega)]; exact (((((h.set _ _).set _ _).set _ _).set _ _).set _ _).same (by omega)
  · rw [set_other (by omega)]; exact ((((((h.set _ _).set _ _).set _ _).set _ _).set _ _).set _ _).same (by omega)
  · exact (((((((h.set _ _).set _ _).set _ _).set _ _).set _ _).set _ _).set _ _).same (by omega)
end
theorem LexIt.put {w : World} {g e k j n : Nat} {t : TypeId} {lex : List (LexM k)} {l : LexM k} {v : Value} (h : LexIt w g e lex j) (hr : RowG w g n t) (hj : j * 8 + 8 ≤ n) (hl : lex[j]? = some l) (hp : PatL g e l.2.2 v w) : LexIt (put8 w g (j * 8) (.string l.1) (.bool l.2.1) (.int .i64 (kind l.2.2)) (.int .i64 (from_ l.2.2)) (.int .i64 (to_ l.2.2)) (.int .i64 (min_ l.2.2)) (.int .i64 (max_ l.2.2)) v) g e lex (j + 1) := by
  intro i l' hi hl'
  rcases Nat.lt_or_ge i j with hij | hij
  · have h2 : LexIt (put8 w g (j * 8) (.string l.1) (.bool l.2.1) (.int .i64 (kind l.2.2)) (.int .i64 (from_ l.2.2)) (.int .i64 (to_ l.2.2)) (.int .i64 (min_ l.2.2)) (.int .i64 (max_ l.2.2)) v) g e lex j := (((((((h.set (by omega)).set (by omega)).set (by omega)).set (by omega)).set (by omega)).set (by omega)).set (by omega)).set (by omega)
    exact h2 i l' hij hl'
  · have ei : i = j := by omega
    subst ei
    rw [hl] at hl'
    injection hl' with hl'
    subst hl'
    obtain ⟨c0, c1, c2, c3, c4, c5, c6, c7⟩ := put8_cells (x0 := .string l.1) (x1 := .bool l.2.1) (x2 := .int .i64 (kind l.2.2)) (x3 := .int .i64 (from_ l.2.2)) (x4 := .int .i64 (to_ l.2.2)) (x5 := .int .i64 (min_ l.2.2)) (x6 := .int .i64 (max_ l.2.2)) (x7 := v) hr hj
    exact ⟨v, c0, c1, c2, c3, c4, c5, c6, c7, put8_pat hp⟩
theorem put8_but {w w0 : World} {g o : Nat} {x0 x1 x2 x3 x4 x5 x6 x7 : Value} (h : KeptBut g w0 w) : KeptBut g w0 (put8 w g o x0 x1 x2 x3 x4 x5 x6 x7) := but_set (but_set (but_set (but_set (but_set (but_set (but_set (but_set h _ _) _ _) _ _) _ _) _ _) _ _) _ _) _ _
theorem but_cellS {w w' : World} {g c o : Nat} {v : Value} (hk : KeptBut g w w') (hc : w.cell? ⟨c, o, none⟩ = some v) (h : c ≠ g) : w'.cell? ⟨c, o, none⟩ = some v := by
  have e := hk.2.2.2.2 c (World.block_lt_of_cell? w _ hc) h
  rw [← hc]
  simp only [World.cell?, e]
theorem kcellS {w : World} {a o : Nat} {v : Value} (h : w.cell? ⟨a, o, none⟩ = some v) : ∀ w', Kept w w' → w'.cell? ⟨a, o, none⟩ = some v := fun _ hk => grown_cell hk h
theorem kfreeS {w : World} {g n o : Nat} {t : TypeId} (h : RowG w g n t) (ho : o < n) : ∀ w', Kept w w' → w'.frozen? ⟨g, o, none⟩ = false := fun _ hk => ((h.keep hk).cell ho).2
/-- The first loop of Lend. -/
def LdI {k : Nat} (lex : List (LexM k)) (g e n : Nat) (W : World) (vi : Value) (wr : World) : Prop := ∃ j : Nat, vi = .int .i64 (j : Int) ∧ j ≤ lex.length ∧ Hid (LexIt wr g e lex j) ∧ Hid (RowG wr g n 99) ∧ Hid (Kept W wr)

end Ex
end Go.Proofs.YtggodknnfpegmaaDoor
namespace Go.Proofs.YtggodknnfpegmaaDoor
open Go.RowKit
attribute [local go_sem] Oper.semAt_some
namespace Ex

/-- What a cell holds. -/
def valAt (w : World) (g k : Nat) : Value := (w.cell? ⟨g, k, none⟩).getD (.bool false)
theorem RowG.got {w : World} {g n k : Nat} {t : TypeId} (h : RowG w g n t) (hk : k < n) : w.cell? ⟨g, k, none⟩ = some (valAt w g k) := by
  obtain ⟨⟨x, hx⟩, _⟩ := h.cell hk
  unfold valAt
  rw [hx]
  rfl
theorem RowG.soft {w : World} {g n k : Nat} {t : TypeId} (h : RowG w g n t) (hk : k < n) : w.frozen? ⟨g, k, none⟩ = false := (h.cell hk).2
/-- The text of a mark. -/
abbrev markB : ByteArray := ⟨#[109, 97, 114, 107]⟩
theorem LexIt.past {w : World} {g e k j o : Nat} {x0 x1 x2 x3 x4 x5 x6 x7 : Value} {lex : List (LexM k)} (h : LexIt w g e lex j) (ho : j * 8 ≤ o) : LexIt (put8 w g o x0 x1 x2 x3 x4 x5 x6 x7) g e lex j := (((((((h.set (by omega)).set (by omega)).set (by omega)).set (by omega)).set (by omega)).set (by omega)).set (by omega)).set (by omega)
/-- The productions that are laid. -/
def PrIt (w : World) (g : Nat) (ps : List ProdM) (j : Nat) : Prop := ∀ (i : Nat) (p : ProdM), i < j → ps[i]? = some p → ∃ r, w.cell? ⟨g, i * 2, none⟩ = some (.int .i64 p.1) ∧ w.cell? ⟨g, i * 2 + 1, none⟩ = some (.slice (some ⟨r, 0, none⟩) p.2.length (p.2.length + 1)) ∧ g < r ∧ r < w.heap.size ∧ ElsAt w 2 SymEl r p.2 ∧ w.cell? ⟨r, p.2.length * 2, none⟩ = some (.int .i64 77)
theorem PrIt.keep {w w' : World} {g j : Nat} {ps : List ProdM} (h : PrIt w g ps j) (hk : Kept w w') : PrIt w' g ps j := fun i p hi hp => by
  obtain ⟨r, h0, h1, h2, h3, h4, h5⟩ := h i p hi hp
  exact ⟨r, grown_cell hk h0, grown_cell hk h1, h2, Nat.lt_of_lt_of_le h3 hk.size, h4.keep hk, grown_cell hk h5⟩
theorem ElsAt.other {α : Type} {w : World} {sz g d o : Nat} {v : Value} {El : List Value → α → Prop} {xs : List α} (h : ElsAt w sz El g xs) (hd : g ≠ d) : ElsAt (w.setCell ⟨d, o, none⟩ v) sz El g xs := fun i x hi => by
  obtain ⟨cs, h1, h2, h3⟩ := h i x hi
  exact ⟨cs, h1, fun j u hj => by rw [set_other (.inl hd)]; exact h2 j u hj, h3⟩
theorem PrIt.set {w : World} {g j o : Nat} {x : Value} {ps : List ProdM} (h : PrIt w g ps j) (ho : j * 2 ≤ o) : PrIt (w.setCell ⟨g, o, none⟩ x) g ps j := fun i p hi hp => by
  obtain ⟨r, h0, h1, h2, h3, h4, h5⟩ := h i p hi hp
  refine ⟨r, ?_, ?_, h2, by rw [World.size_setCell]; exact h3, h4.other (by omega), ?_⟩
  · rw [set_other (by omega)]; exact h0
  · rw [set_other (by omega)]; exact h1
  · rw [set_other (.inl (by omega))]; exact h5
theorem PrIt.setE {w : World} {g e j o : Nat} {x : Value} {ps : List ProdM} (h : PrIt w g ps j) (he : e < g) : PrIt (w.setCell ⟨e, o, none⟩ x) g ps j := fun i p hi hp => by
  obtain ⟨r, h0, h1, h2, h3, h4, h5⟩ := h i p hi hp
  refine ⟨r, ?_, ?_, h2, by rw [World.size_setCell]; exact h3, h4.other (by omega), ?_⟩
  · rw [set_other (.inl (by omega))]; exact h0
  · rw [set_other (.inl (by omega))]; exact h1
  · rw [set_other (.inl (by omega))]; exact h5
theorem PrIt.put {w : World} {g j n r nr : Nat} {t : TypeId} {l : Int} {ps : List ProdM} {p : ProdM} (h : PrIt w g ps j) (hr : RowG w g n t) (hj : j * 2 + 2 ≤ n) (hp : ps[j]? = some p) (hl : p.1 = l) (hnr : p.2.length = nr) (hrg : g < r) (hrs : r < w.heap.size) (he : ElsAt w 2 SymEl r p.2) (hm : w.cell? ⟨r, nr * 2, none⟩ = some (.int .i64 77)) : PrIt ((w.setCell ⟨g, j * 2, none⟩ (.int .i64 l)).setCell ⟨g, j * 2 + 1, none⟩ (.slice (some ⟨r, 0, none⟩) nr (nr + 1))) g ps (j + 1) := by
  subst hl hnr
  intro i q hi hq
  rcases Nat.lt_or_ge i j with hij | hij
  · exact ((h.set (by omega)).set (by omega)) i q hij hq
  · have e : i = j := by omega
    subst e
    rw [hp] at hq
    injection hq with hq
    subst hq
    refine ⟨r, ?_, (hr.set _ _).same (by omega), hrg, by rw [World.size_setCell, World.size_setCell]; exact hrs, (he.other (by omega)).other (by omega), ?_⟩
    · rw [set_other (by omega)]; exact hr.same (by omega)
    · rw [set_other (.inl (by omega)), set_other (.inl (by omega))]; exact hm
/-- A spec that was lent. -/
structure LentAt (w : World) {k : Nat} (lex : List (LexM k)) (names : List ByteArray) (ps : List ProdM) (g gn gp : Nat) : Prop where
  rules : LexIt w g g lex lex.length
  lmark : w.cell? ⟨g, lex.length * 8, none⟩ = some (.string markB)
  nam : ElsAt w 1 StrEl gn names
  nmark : w.cell? ⟨gn, names.length, none⟩ = some (.string markB)
  prd : PrIt w gp ps ps.length
  pmark : w.cell? ⟨gp, ps.length * 2, none⟩ = some (.int .i64 (-77))
theorem LentAt.keep {w w' : World} {k : Nat} {lex : List (LexM k)} {names : List ByteArray} {ps : List ProdM} {g gn gp : Nat} (h : LentAt w lex names ps g gn gp) (hk : Kept w w') : LentAt w' lex names ps g gn gp := ⟨h.rules.keep hk, grown_cell hk h.lmark, h.nam.keep hk, grown_cell hk h.nmark, h.prd.keep hk, grown_cell hk h.pmark⟩
theorem LentAt.lexAt {w : World} {k : Nat} {lex : List (LexM k)} {names : List ByteArray} {ps : List ProdM} {g gn gp nl : Nat} (h : LentAt w lex names ps g gn gp) (hnl : lex.length = nl) (h44 : nl ≤ 17592186044416) (hs : ∀ l ∈ lex, l.1.size ≤ 200000000000000) : LexAt w k (.slice (some ⟨g, 0, none⟩) nl (nl + 1)) lex := by
  subst hnl
  refine ⟨some ⟨g, 0, none⟩, lex.length + 1, rfl, by omega, h44, .inr ⟨g, 0, rfl, World.block_lt_of_cell? w _ h.lmark, fun i l hi => ?_⟩⟩
  obtain ⟨v', h0, h1, h2, h3, h4, h5, h6, h7, h8⟩ := h.rules i l (List.getElem?_eq_some_iff.1 hi).1 hi
  refine ⟨[.string l.1, .bool l.2.1, .int .i64 (kind l.2.2), .int .i64 (from_ l.2.2), .int .i64 (to_ l.2.2), .int .i64 (min_ l.2.2), .int .i64 (max_ l.2.2), v'], rfl, fun j u hj => ?_, v', rfl, hs l (List.mem_of_getElem? hi), KidsAt.mono (fun _ _ _ _ hv => hv) (fun _ hd => hd.2) _ _ _ h8.1⟩
  rw [Nat.zero_add]
  match j, hj with
  | 0, hj => simp only [List.getElem?_cons_zero, Option.some.injEq] at hj; subst hj; exact h0
  | 1, hj => simp only [List.getElem?_cons_succ, List.getElem?_cons_zero, Option.some.injEq] at hj; subst hj; exact h1
  | 2, hj => simp only [List.getElem?_cons_succ, List.getElem?_cons_zero, Option.some.injEq] at hj; subst hj; exact h2
  | 3, hj => simp only [List.getElem?_cons_succ, List.getElem?_cons_zero, Option.some.injEq] at hj; subst hj; exact h3
  | 4, hj => simp only [List.getElem?_cons_succ, List.getElem?_cons_zero, Option.some.injEq] at hj; subst hj; exact h4
  | 5, hj => simp only [List.getElem?_cons_succ, List.getElem?_cons_zero, Option.some.injEq] at hj; subst hj; exact h5
  | 6, hj => simp only [List.getElem?_cons_succ, List.getElem?_cons_zero, Option.some.injEq] at hj; subst hj; exact h6
  | 7, hj => simp only [List.getElem?_cons_succ, List.getElem?_cons_zero, Option.some.injEq] at hj; subst hj; exact h7
  | _ + 8, hj => simp at hj
theorem els_slice {α : Type} {w : World} {sz g n cap : Nat} {El : List Value → α → Prop} {xs : List α} (h : ElsAt w sz El g xs) (hn : xs.length = n) (hc : n ≤ cap) (h44 : n ≤ 17592186044416) (hg : g < w.heap.size) : SliceOf w sz El (.slice (some ⟨g, 0, none⟩) n cap) xs := by
  subst hn
  refine ⟨some ⟨g, 0, none⟩, cap, rfl, hc, h44, .inr ⟨g, 0, rfl, hg, fun i x hi => ?_⟩⟩
  obtain ⟨cs, h1, h2, h3⟩ := h i x hi
  exact ⟨cs, h1, fun j u hj => by rw [Nat.zero_add]; exact h2 j u hj, h3⟩
theorem LentAt.prodsAt {w : World} {k : Nat} {lex : List (LexM k)} {names : List ByteArray} {ps : List ProdM} {g gn gp np : Nat} (h : LentAt w lex names ps g gn gp) (hnp : ps.length = np) (h44 : np ≤ 17592186044416) (hs : ∀ p ∈ ps, p.2.length ≤ 17592186044416) : ProdsAt w (.slice (some ⟨gp, 0, none⟩) np (np + 1)) ps := by
  subst hnp
  refine ⟨some ⟨gp, 0, none⟩, ps.length + 1, rfl, by omega, h44, .inr ⟨gp, 0, rfl, World.block_lt_of_cell? w _ h.pmark, fun i p hi => ?_⟩⟩
  obtain ⟨r, h0, h1, _, h3, h4, _⟩ := h.prd i p (List.getElem?_eq_some_iff.1 hi).1 hi
  refine ⟨[.int .i64 p.1, .slice (some ⟨r, 0, none⟩) p.2.length (p.2.length + 1)], rfl, fun j u hj => ?_, _, rfl, els_slice h4 rfl (by omega) (hs p (List.mem_of_getElem? hi)) h3⟩
  rw [Nat.zero_add]
  match j, hj with
  | 0, hj => simp only [List.getElem?_cons_zero, Option.some.injEq] at hj; subst hj; exact h0
  | 1, hj => simp only [List.getElem?_cons_succ, List.getElem?_cons_zero, Option.some.injEq] at hj; subst hj; exact h1
  | _ + 2, hj => simp at hj
/-- What Lend answers. -/
def LentR {k : Nat} (lex : List (LexM k)) (names : List ByteArray) (ps : List ProdM) (nl nn np : Nat) (st : Int) (w : World) (e : Ending) (w' : World) : Prop := ∃ g gn gp, e = .returned (.agg #[.slice (some ⟨g, 0, none⟩) nl (nl + 1), .slice (some ⟨gn, 0, none⟩) nn (nn + 1), .int .i64 st, .slice (some ⟨gp, 0, none⟩) np (np + 1)]) ∧ LentAt w' lex names ps g gn gp ∧ Kept w w'
/-- The second loop of Lend. -/
def LdJ (ps : List ProdM) (g n : Nat) (W : World) (vi : Value) (wr : World) : Prop := ∃ j : Nat, vi = .int .i64 (j : Int) ∧ j ≤ ps.length ∧ Hid (PrIt wr g ps j) ∧ Hid (RowG wr g n 40) ∧ Hid (Kept W wr)
theorem lent_one {w : World} {k : Nat} {lex : List (LexM k)} {names : List ByteArray} {ps : List ProdM} {g e gn gp o : Nat} {x : Value} (h : LexIt w g e lex lex.length ∧ w.cell? ⟨g, lex.length * 8, none⟩ = some (.string markB) ∧ ElsAt w 1 StrEl gn names ∧ w.cell? ⟨gn, names.length, none⟩ = some (.string markB) ∧ PrIt w gp ps ps.length ∧ w.cell? ⟨gp, ps.length * 2, none⟩ = some (.int .i64 (-77))) (h1 : e < g) (h2 : e < gn) (h3 : e < gp) : LexIt (w.setCell ⟨e, o, none⟩ x) g e lex lex.length ∧ (w.setCell ⟨e, o, none⟩ x).cell? ⟨g, lex.length * 8, none⟩ = some (.string markB) ∧ ElsAt (w.setCell ⟨e, o, none⟩ x) 1 StrEl gn names ∧ (w.setCell ⟨e, o, none⟩ x).cell? ⟨gn, names.length, none⟩ = some (.string markB) ∧ PrIt (w.setCell ⟨e, o, none⟩ x) gp ps ps.length ∧ (w.setCell ⟨e, o, none⟩ x).cell? ⟨gp, ps.length * 2, none⟩ = some (.int .i64 (-77)) :=
  ⟨h.1.setE (by omega), by rw [set_other (.inl (by omega))]; exact h.2.1, h.2.2.1.other (by omega), by rw [set_other (.inl (by omega))]; exact h.2.2.2.1, h.2.2.2.2.1.setE h3, by rw [set_other (.inl (by omega))]; exact h.2.2.2.2.2⟩
theorem lent_box {w D : World} {k : Nat} {lex : List (LexM k)} {names : List ByteArray} {ps : List ProdM} {g e gn gp : Nat} {x0 x1 x2 x3 : Value} (hk : Kept w D) (a1 : LexIt w g e lex lex.length) (a2 : w.cell? ⟨g, lex.length * 8, none⟩ = some (.string markB)) (a3 : ElsAt w 1 StrEl gn names) (a4 : w.cell? ⟨gn, names.length, none⟩ = some (.string markB)) (a5 : PrIt w gp ps ps.length) (a6 : w.cell? ⟨gp, ps.length * 2, none⟩ = some (.int .i64 (-77))) (h1 : e < g) (h2 : e < gn) (h3 : e < gp) : LentAt ((((D.setCell ⟨e, 0, none⟩ x0).setCell ⟨e, 1, none⟩ x1).setCell ⟨e, 2, none⟩ x2).setCell ⟨e, 3, none⟩ x3) lex names ps g gn gp := by
  obtain ⟨b1, b2, b3, b4, b5, b6⟩ := lent_one (o := 3) (x := x3) (lent_one (o := 2) (x := x2) (lent_one (o := 1) (x := x1) (lent_one (o := 0) (x := x0) ⟨a1.keep hk, grown_cell hk a2, a3.keep hk, grown_cell hk a4, a5.keep hk, grown_cell hk a6⟩ h1 h2 h3) h1 h2 h3) h1 h2 h3) h1 h2 h3
  exact ⟨b1.weak, b2, b3, b4, b5, b6⟩
theorem kept_ofBut {g : Nat} {w w1 w2 : World} (h : Kept w w1) (hb : KeptBut g w1 w2) (hg : w.heap.size ≤ g) : Kept w w2 := KeptBut.up h hg hb
theorem sbox_free {w : World} {b : Nat} {x0 x1 x2 x3 : Value} (h : SBox w b x0 x1 x2 x3) (i : Nat) : w.frozen? ⟨b, i, none⟩ = false := by simp [World.frozen?, show w.heap[b]? = _ from h]
theorem str_one : ∀ cs x, StrEl cs x → ∀ u ∈ cs, u.oneCell' = true := fun cs x h u hu => by
  obtain ⟨rfl, _⟩ := h
  simp only [List.mem_singleton] at hu
  subst hu
  rfl
theorem sym_one : ∀ cs x, SymEl cs x → ∀ u ∈ cs, u.oneCell' = true := fun cs x h u hu => by
  have h : cs = [.int .i64 x.1, .int .i64 x.2] := h
  subst h
  simp only [List.mem_cons, List.not_mem_nil, or_false] at hu
  rcases hu with rfl | rfl <;> rfl

end Ex
end Go.Proofs.YtggodknnfpegmaaDoor
