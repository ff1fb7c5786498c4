import Derived.Test.YthnbmkapmnpkoaaDoorMExRd6
import Derived.Deep.DeepMust
import Derived.OwnWalk
import Derived.Lib.AppendStr
import Derived.Lib.AppendZeros
import Derived.Deep.RegionHeld3
namespace Go.Proofs.YthnbmkapmnpkoaaDoor
open Go.RowKit
attribute [local go_sem] Oper.semAt_some
namespace Ex

def byteV (xs : List Int) : List Value := xs.map (Value.int .u8)
theorem byteV_len (xs : List Int) : (byteV xs).length = xs.length := List.length_map ..
theorem byteV_app (xs ys : List Int) : byteV (xs ++ ys) = byteV xs ++ byteV ys := List.map_append
theorem byteV_one (xs : List Int) : ∀ u ∈ byteV xs, u.oneCell' = true := by
  intro u hu
  simp only [byteV, List.mem_map] at hu
  obtain ⟨x, _, rfl⟩ := hu
  rfl
/-- Bytes of the call's own. -/
def OutAt (w : World) (base : Nat) (v : Value) (xs : List Int) : Prop := w.ownsRow base 5 1 v xs.length (byteV xs)
/-- The row's block is the one that it was, or new. -/
def Own1 (w : World) (v v' : Value) : Prop := v'.ownBlock = v.ownBlock ∨ ∃ g, v'.ownBlock = some g ∧ w.heap.size ≤ g
/-- What a writer does: the row has more bytes; all but its block is as it was. -/
def WGives (base : Nat) (w : World) (v : Value) (ys : List Int) (r : Ending) (w' : World) : Prop := ∃ v', r = .returned v' ∧ OutAt w' base v' ys ∧ w.grownBy w' v.ownBlock ∧ Own1 w v v'
theorem grown_trans {w w1 w2 : World} {v v1 : Value} (h1 : w.grownBy w1 v.ownBlock) (ho : Own1 w v v1) (h2 : w1.grownBy w2 v1.ownBlock) : w.grownBy w2 v.ownBlock :=
  ⟨h2.os.trans h1.os, h2.tape.trans h1.tape, h2.output.trans h1.output, Nat.le_trans h1.size h2.size, fun k hk hn => (h2.block k (Nat.lt_of_lt_of_le hk h1.size) (fun e => by
    rcases ho with ho | ⟨g, hg, hl⟩
    · exact hn (e.trans ho)
    · rw [hg, Option.some.injEq] at e; omega)).trans (h1.block k hk hn)⟩
theorem grown_kept {w w1 : World} (h : Kept w w1) (row : Option Nat) : w.grownBy w1 row := ⟨h.1, h.2.1, h.2.2.1, h.2.2.2.1, fun k hk _ => h.2.2.2.2 k hk⟩
theorem grown_pre {w w1 w2 : World} {row : Option Nat} (h1 : Kept w w1) (h2 : w1.grownBy w2 row) : w.grownBy w2 row :=
  ⟨h2.os.trans h1.1, h2.tape.trans h1.2.1, h2.output.trans h1.2.2.1, Nat.le_trans h1.size h2.size, fun k hk hn => (h2.block k (Nat.lt_of_lt_of_le hk h1.size) hn).trans (h1.2.2.2.2 k hk)⟩
theorem Own1.refl (w : World) (v : Value) : Own1 w v v := .inl rfl
theorem Own1.trans {w w1 : World} {v v1 v2 : Value} (h1 : Own1 w v v1) (h2 : Own1 w1 v1 v2) (hs : w.heap.size ≤ w1.heap.size) : Own1 w v v2 := by
  rcases h2 with h2 | ⟨g, hg, hl⟩
  · rcases h1 with h1 | ⟨g, hg, hl⟩
    · exact .inl (h2.trans h1)
    · exact .inr ⟨g, h2.trans hg, hl⟩
  · exact .inr ⟨g, hg, by omega⟩
theorem Own1.pre {w w1 : World} {v v1 : Value} (h : Own1 w1 v v1) (hs : w.heap.size ≤ w1.heap.size) : Own1 w v v1 := (Own1.refl w v).trans h hs
theorem OutAt.keep {w w' : World} {base : Nat} {v : Value} {xs : List Int} (h : OutAt w base v xs) (hk : Kept w w') : OutAt w' base v xs := owns_same h (fun g hg => hk.2.2.2.2 g (h.lt g hg).2)
theorem OutAt.form {w : World} {base : Nat} {v : Value} {xs : List Int} (h : OutAt w base v xs) : ∃ a c, v = .slice a xs.length c := by
  rcases h.2 with ⟨rfl, h0⟩ | ⟨g, cap, cur, rfl, _⟩
  · exact ⟨none, 0, by rw [h0]⟩
  · exact ⟨_, _, rfl⟩
theorem OutAt.nil (w : World) (base : Nat) : OutAt w base (.slice none 0 0) [] := World.ownsRow_nil _ _ _ _
theorem u8_info : (Tryd.prog.info? 5).map (fun i => (i.zero, i.size, i.bytes)) = some (some (.int .u8 0), 1, 1) := by kernel_rfl

/-- append of some bytes. -/
theorem wpl_out_bytes {ops : Array Oper} {rest : List Oper} {o : Oper} {a : Act} {Q : Exit → Act → World → Prop} (hgd : o.guard = none) (s x : Operand)
    (ho : o.op = .call { callee := .builtin .append, args := #[s, x], argTypes := #[167, 167] }) (W : World) (base : Nat) (v : Value) (xs : List Int) (n : Nat) (hn : xs.length = n) (hs : a.eval s = v) (hown : OutAt W base v xs)
    (lb : Nat) (ys : List Int) (m : Nat) (hm : ys.length = m) (hx : a.eval x = .slice (some ⟨lb, 0, none⟩) m m) (hc : ∀ (j : Nat) (y : Int), ys[j]? = some y → W.cell? ⟨lb, j, none⟩ = some (.int .u8 y)) (hpos : 0 < m) (hl : n + m ≤ 1000000000) (hbase : base ≤ W.heap.size)
    (h : ∀ g cap w', OutAt w' base (.slice (some ⟨g, 0, none⟩) (n + m) cap) (xs ++ ys) → W.grownBy w' v.ownBlock → Own1 W v (.slice (some ⟨g, 0, none⟩) (n + m) cap) → wpList Tryd.prog ops Q rest (a.put o.dst (.slice (some ⟨g, 0, none⟩) (n + m) cap)) w') : wpList Tryd.prog ops Q (o :: rest) a W := by
  obtain ⟨i0, hi, hz0, hz1, hz2⟩ := info_parts u8_info
  subst hn hm
  refine wpList_append_lies W hgd s x 167 ho base 5 i0 _ 1 1 Tryd.underlying167 hi hz0 hz1 hz2 rfl (by decide) v xs.length (byteV xs) hs hown ⟨lb, 0, none⟩ ys.length ys.length (byteV ys) hx (by rw [byteV_len]; omega) ?_ (byteV_one ys) hpos (by unfold maxLen; omega) (by omega) hbase W.heap.size rfl ?_
  · intro j u hj
    simp only [byteV, List.getElem?_map] at hj
    obtain ⟨y, hy, rfl⟩ := Option.map_eq_some_iff.1 hj
    rw [Addr.add_lit, Nat.zero_add]
    exact hc j y hy
  · intro g cap w' h3 h4 h5 _
    refine h g cap w' ?_ h4 ?_
    · show w'.ownsRow base 5 1 _ (xs ++ ys).length (byteV (xs ++ ys))
      rw [List.length_append, byteV_app]
      exact h3
    · rcases h5 with h5 | h5
      · exact .inl h5.symm
      · exact .inr ⟨g, rfl, by omega⟩
/-- A string's bytes as numbers. -/
def strI (s : ByteArray) : List Int := s.data.toList.map fun b => (b.toNat : Int)
theorem strI_cells (s : ByteArray) : Lib.strCells s = byteV (strI s) := by simp [Lib.strCells, byteV, strI]
theorem strI_len (s : ByteArray) : (strI s).length = s.size := by rw [strI, List.length_map, Array.length_toList]; rfl
/-- append of a string. -/
theorem wpl_out_str {ops : Array Oper} {rest : List Oper} {o : Oper} {a : Act} {Q : Exit → Act → World → Prop} (hgd : o.guard = none) (sl x : Operand)
    (ho : o.op = .call { callee := .builtin .append, args := #[sl, x], argTypes := #[167, 9] }) (W : World) (base : Nat) (v : Value) (xs : List Int) (n : Nat) (hn : xs.length = n) (hs : a.eval sl = v) (hown : OutAt W base v xs)
    (s : ByteArray) (hx : a.eval x = .string s) (hpos : 0 < s.size) (hl : n + s.size ≤ 1000000000) (hbase : base ≤ W.heap.size)
    (h : ∀ v' w', OutAt w' base v' (xs ++ strI s) → W.grownBy w' v.ownBlock → Own1 W v v' → wpList Tryd.prog ops Q rest (a.put o.dst v') w') : wpList Tryd.prog ops Q (o :: rest) a W := by
  obtain ⟨i0, hi, hz0, hz1, hz2⟩ := info_parts u8_info
  subst hn
  have ht : Tryd.prog.underlying 167 = some (.slice 5) := Tryd.underlying167
  have hu : Tryd.prog.underlying 9 = some .string := Tryd.underlying9
  obtain ⟨v', w', hr, h2, h3, _⟩ := Lib.run_append_own_string (P := Tryd.prog) W base 167 9 o.type 5 i0 ht hu hi hz0 hz1 hz2 v xs.length (byteV xs) hown s (by unfold maxLen; omega) (by omega) hbase
  have ho1 : Own1 W v v' := by
    rcases hown.2 with ⟨rfl, h0⟩ | ⟨g, cap, cur, rfl, _, hg, hnc, hcm, hcs, htk⟩
    · have hr2 := run_append_nil_string (P := Tryd.prog) W 167 9 o.type 5 i0 (.int .u8 0) ht hu hi hz0 s hpos (by omega) (by rw [hz2]; omega)
      rw [hr2] at hr
      simp only [Result.ok.injEq] at hr
      rw [← hr.1]
      exact .inr ⟨_, rfl, Nat.le_refl _⟩
    · by_cases hroom : xs.length + s.size ≤ cap
      · have hr2 := Lib.run_append_room_string (P := Tryd.prog) W 167 9 o.type 5 i0 ht hu hi hz1 g xs.length cap cur hg s hroom (by omega)
        rw [hr2] at hr
        simp only [Result.ok.injEq] at hr
        rw [← hr.1]
        exact .inl rfl
      · have holds := hown.cells (g := g) rfl
        have hr2 := Lib.run_append_grow_string (P := Tryd.prog) W 167 9 o.type 5 i0 (.int .u8 0) ht hu hi hz0 ⟨g, 0, none⟩ xs.length cap (byteV xs) (by rw [hz1, byteV_len]; omega) holds s (by omega) (by omega) (by rw [hz2]; exact growslice_fits (by omega) (by omega))
        rw [hr2] at hr
        simp only [Result.ok.injEq] at hr
        rw [← hr.1]
        exact .inr ⟨_, rfl, Nat.le_refl _⟩
  refine Lib.wpList_append_run W hgd sl x _ _ ho _ _ hs hx _ w' hr (h v' w' ?_ h3 ho1)
  show w'.ownsRow base 5 1 v' (xs ++ strI s).length (byteV (xs ++ strI s))
  rw [List.length_append, strI_len, byteV_app, ← strI_cells]
  exact h2

end Ex
end Go.Proofs.YthnbmkapmnpkoaaDoor
namespace Go.Proofs.YthnbmkapmnpkoaaDoor
open Go.RowKit
attribute [local go_sem] Oper.semAt_some
namespace Ex

def hexd (d : Int) : Int := if d < 10 then 48 + d else 87 + d
/-- A byte as it is written. -/
def byteW (s : ByteArray) (c : Int) : List Int :=
  if c = 10 then [92, 110] else if c = 13 then [92, 114] else if c = 9 then [92, 116]
  else if printedP c = false then [92, 120, hexd (c / 16), hexd (c % 16)] else if inS s c then [92, c] else [c]
theorem one_lit (w : World) (x : Int) (t : TypeId) : ∀ (j : Nat) (y : Int), [x][j]? = some y → (w.alloc (.cells #[.int .u8 x] t)).cell? ⟨w.heap.size, j, none⟩ = some (.int .u8 y) := by
  intro j y h
  match j with
  | 0 => simp at h; subst h; simp
  | j + 1 => simp at h
theorem two_lit (w : World) (x z : Int) (t : TypeId) : ∀ (j : Nat) (y : Int), [x, z][j]? = some y → (w.alloc (.cells #[.int .u8 x, .int .u8 z] t)).cell? ⟨w.heap.size, j, none⟩ = some (.int .u8 y) := by
  intro j y h
  match j with
  | 0 => simp at h; subst h; simp
  | 1 => simp at h; subst h; simp
  | j + 2 => simp at h
end Ex
end Go.Proofs.YthnbmkapmnpkoaaDoor
namespace Go.Proofs.YthnbmkapmnpkoaaDoor
open Go.RowKit
attribute [local go_sem] Oper.semAt_some
namespace Ex

def escS : ByteArray := ⟨#[93, 92, 45, 47, 94]⟩
def memW {n : Nat} (q : PatN (n + 1)) : List Int := byteW escS (from_ q) ++ if from_ q < to_ q then 45 :: byteW escS (to_ q) else []
def classW {n : Nat} (L : List (PatN (n + 1))) : List Int := 91 :: (L.flatMap memW ++ [93])
theorem byteW_len (s : ByteArray) (c : Int) : (byteW s c).length ≤ 4 := by unfold byteW; (repeat' split) <;> simp
theorem memW_len {n : Nat} (q : PatN (n + 1)) : (memW q).length ≤ 9 := by
  unfold memW
  have h1 := byteW_len escS (from_ q)
  have h2 := byteW_len escS (to_ q)
  rw [List.length_append]
  split <;> simp <;> omega
theorem flat_len {α : Type} (f : α → List Int) (k : Nat) (hf : ∀ x, (f x).length ≤ k) : ∀ L : List α, (L.flatMap f).length ≤ k * L.length
  | [] => by simp
  | x :: L => by rw [List.flatMap_cons, List.length_append, List.length_cons, Nat.mul_succ]; have := flat_len f k hf L; have := hf x; omega
theorem flat_snoc {α : Type} {f : α → List Int} {L : List α} {j : Nat} {q : α} (hq : L[j]? = some q) : (L.take (j + 1)).flatMap f = (L.take j).flatMap f ++ f q := by
  obtain ⟨hj, rfl⟩ := List.getElem?_eq_some_iff.1 hq
  rw [List.take_succ_eq_append_getElem hj, List.flatMap_append]
  simp
/-- What is not the row's own stays. -/
theorem grown_holds {S : Nat → Prop} {w w' : World} {v : Value} (hg : w.grownBy w' v.ownBlock) (hS : ∀ d, S d → v.ownBlock ≠ some d) : Holds S w w' := fun d _ _ hd hc => hg.cell hc (fun e => hS d hd e.symm)
def Fine {n : Nat} (L : List (PatN (n + 1))) : Prop := ∀ q ∈ L, printedP (from_ q) = true ∧ printedP (to_ q) = true

theorem step_out_bytes {ops : Array Oper} {o : Oper} {a : Act} {K : Act → World → Prop} {Q : Exit → Act → World → Prop} {E : Prop} (hgd : o.guard = none) (s x : Operand)
    (ho : o.op = .call { callee := .builtin .append, args := #[s, x], argTypes := #[167, 167] }) (W : World) (base : Nat) (v : Value) (xs : List Int) (n : Nat) (hn : xs.length = n) (hs : a.eval s = v) (hown : OutAt W base v xs)
    (lb : Nat) (ys : List Int) (m : Nat) (hm : ys.length = m) (hx : a.eval x = .slice (some ⟨lb, 0, none⟩) m m) (hc : ∀ (j : Nat) (y : Int), ys[j]? = some y → W.cell? ⟨lb, j, none⟩ = some (.int .u8 y)) (hpos : 0 < m) (hl : n + m ≤ 1000000000) (hbase : base ≤ W.heap.size)
    (h : ∀ g cap w', OutAt w' base (.slice (some ⟨g, 0, none⟩) (n + m) cap) (xs ++ ys) → W.grownBy w' v.ownBlock → Own1 W v (.slice (some ⟨g, 0, none⟩) (n + m) cap) → K (a.put o.dst (.slice (some ⟨g, 0, none⟩) (n + m) cap)) w') :
    if Region.wanted o (yielded ops a.tmps) = true then Oper.wp Tryd.prog o a W K Q else E := by
  obtain ⟨i0, hi, hz0, hz1, hz2⟩ := info_parts u8_info
  subst hn hm
  refine step_append_lies W hgd s x 167 ho base 5 i0 _ 1 1 Tryd.underlying167 hi hz0 hz1 hz2 rfl (by decide) v xs.length (byteV xs) hs hown ⟨lb, 0, none⟩ ys.length ys.length (byteV ys) hx (by rw [byteV_len]; omega) ?_ (byteV_one ys) hpos (by unfold maxLen; omega) (by omega) hbase W.heap.size rfl ?_
  · intro j u hj
    simp only [byteV, List.getElem?_map] at hj
    obtain ⟨y, hy, rfl⟩ := Option.map_eq_some_iff.1 hj
    rw [Addr.add_lit, Nat.zero_add]
    exact hc j y hy
  · intro g cap w' h3 h4 h5 _
    refine h g cap w' ?_ h4 ?_
    · show w'.ownsRow base 5 1 _ (xs ++ ys).length (byteV (xs ++ ys))
      rw [List.length_append, byteV_app]
      exact h3
    · rcases h5 with h5 | h5
      · exact .inl h5.symm
      · exact .inr ⟨g, rfl, by omega⟩
theorem own_far {w : World} {o : Obj} {v v' : Value} (h : Own1 (w.alloc o) v v') (hv : ∀ d, v.ownBlock = some d → d < w.heap.size) : some w.heap.size ≠ v'.ownBlock := by
  intro e
  rcases h with h | ⟨g, hg, hl⟩
  · have := hv _ (h.symm.trans e.symm); omega
  · rw [hg, Option.some.injEq] at e; simp at hl; omega
theorem own_far2 {W : World} {v v' : Value} {x : Nat} (h : Own1 W v v') (hx : x < W.heap.size) (hv : some x ≠ v.ownBlock) : some x ≠ v'.ownBlock := by
  intro e
  rcases h with h | ⟨g, hg, hl⟩
  · exact hv (e.trans h)
  · rw [hg, Option.some.injEq] at e; omega
def ClassWR {n : Nat} (_S : Nat → Prop) (L : List (PatN (n + 1))) (base : Nat) (w : World) (v : Value) (xs : List Int) (vo i : Value) (wr : World) : Prop :=
  ∃ j : Nat, i = .int .i64 (j : Int) ∧ j ≤ L.length ∧ OutAt wr base vo (xs ++ 91 :: (L.take j).flatMap memW) ∧ w.grownBy wr v.ownBlock ∧ Own1 w v vo
end Ex
end Go.Proofs.YthnbmkapmnpkoaaDoor
