import Derived.Test.YtggodknnfpegmaaDoorMExRd3
import Derived.Deep.DeepMust
import Derived.OwnWalk
import Derived.Lib.AppendStr
import Derived.Lib.AppendZeros
import Derived.Deep.RegionHeld3
import Derived.Laws.BytesString
namespace Go.Proofs.YtggodknnfpegmaaDoor
open Go.RowKit
attribute [local go_sem] Oper.semAt_some
namespace Ex

def byteV (xs : List Int) : List Value := xs.map (Value.int .u8)
theorem byteV_len (xs : List Int) : (byteV xs).length = xs.length := List.length_map ..
theorem byteV_app (xs ys : List Int) : byteV (xs ++ ys) = byteV xs ++ byteV ys := List.map_append
theorem byteV_one (xs : List Int) : ∀ u ∈ byteV xs, u.oneCell' = true := by
  intro u hu
  simp only [byteV, List.mem_map] at hu
  obtain ⟨x, _, rfl⟩ := hu
  rfl
/-- Bytes of the call's own. -/
def OutAt (w : World) (base : Nat) (v : Value) (xs : List Int) : Prop := w.ownsRow base 5 1 v xs.length (byteV xs)
/-- The row's block is the one that it was, or new. -/
def Own1 (w : World) (v v' : Value) : Prop := v'.ownBlock = v.ownBlock ∨ ∃ g, v'.ownBlock = some g ∧ w.heap.size ≤ g
/-- What a writer does: the row has more bytes; all but its block is as it was. -/
def WGives (base : Nat) (w : World) (v : Value) (ys : List Int) (r : Ending) (w' : World) : Prop := ∃ v', r = .returned v' ∧ OutAt w' base v' ys ∧ w.grownBy w' v.ownBlock ∧ Own1 w v v'
theorem grown_trans {w w1 w2 : World} {v v1 : Value} (h1 : w.grownBy w1 v.ownBlock) (ho : Own1 w v v1) (h2 : w1.grownBy w2 v1.ownBlock) : w.grownBy w2 v.ownBlock :=
  ⟨h2.os.trans h1.os, h2.tape.trans h1.tape, h2.output.trans h1.output, Nat.le_trans h1.size h2.size, fun k hk hn => (h2.block k (Nat.lt_of_lt_of_le hk h1.size) (fun e => by
    rcases ho with ho | ⟨g, hg, hl⟩
    · exact hn (e.trans ho)
    · rw [hg, Option.some.injEq] at e; omega)).trans (h1.block k hk hn)⟩
theorem grown_kept {w w1 : World} (h : Kept w w1) (row : Option Nat) : w.grownBy w1 row := ⟨h.1, h.2.1, h.2.2.1, h.2.2.2.1, fun k hk _ => h.2.2.2.2 k hk⟩
theorem grown_pre {w w1 w2 : World} {row : Option Nat} (h1 : Kept w w1) (h2 : w1.grownBy w2 row) : w.grownBy w2 row :=
  ⟨h2.os.trans h1.1, h2.tape.trans h1.2.1, h2.output.trans h1.2.2.1, Nat.le_trans h1.size h2.size, fun k hk hn => (h2.block k (Nat.lt_of_lt_of_le hk h1.size) hn).trans (h1.2.2.2.2 k hk)⟩
theorem Own1.refl (w : World) (v : Value) : Own1 w v v := .inl rfl
theorem Own1.trans {w w1 : World} {v v1 v2 : Value} (h1 : Own1 w v v1) (h2 : Own1 w1 v1 v2) (hs : w.heap.size ≤ w1.heap.size) : Own1 w v v2 := by
  rcases h2 with h2 | ⟨g, hg, hl⟩
  · rcases h1 with h1 | ⟨g, hg, hl⟩
    · exact .inl (h2.trans h1)
    · exact .inr ⟨g, h2.trans hg, hl⟩
  · exact .inr ⟨g, hg, by omega⟩
theorem Own1.pre {w w1 : World} {v v1 : Value} (h : Own1 w1 v v1) (hs : w.heap.size ≤ w1.heap.size) : Own1 w v v1 := (Own1.refl w v).trans h hs
theorem OutAt.keep {w w' : World} {base : Nat} {v : Value} {xs : List Int} (h : OutAt w base v xs) (hk : Kept w w') : OutAt w' base v xs := owns_same h (fun g hg => hk.2.2.2.2 g (h.lt g hg).2)
theorem OutAt.form {w : World} {base : Nat} {v : Value} {xs : List Int} (h : OutAt w base v xs) : ∃ a c, v = .slice a xs.length c := by
  rcases h.2 with ⟨rfl, h0⟩ | ⟨g, cap, cur, rfl, _⟩
  · exact ⟨none, 0, by rw [h0]⟩
  · exact ⟨_, _, rfl⟩
theorem OutAt.nil (w : World) (base : Nat) : OutAt w base (.slice none 0 0) [] := World.ownsRow_nil _ _ _ _
theorem u8_info : (Tryd.prog.info? 5).map (fun i => (i.zero, i.size, i.bytes)) = some (some (.int .u8 0), 1, 1) := by kernel_rfl

/-- append of some bytes. -/
theorem wpl_out_bytes {ops : Array Oper} {rest : List Oper} {o : Oper} {a : Act} {Q : Exit → Act → World → Prop} (hgd : o.guard = none) (s x : Operand)
    (ho : o.op = .call { callee := .builtin .append, args := #[s, x], argTypes := #[169, 169] }) (W : World) (base : Nat) (v : Value) (xs : List Int) (n : Nat) (hn : xs.length = n) (hs : a.eval s = v) (hown : OutAt W base v xs)
    (lb : Nat) (ys : List Int) (m : Nat) (hm : ys.length = m) (hx : a.eval x = .slice (some ⟨lb, 0, none⟩) m m) (hc : ∀ (j : Nat) (y : Int), ys[j]? = some y → W.cell? ⟨lb, j, none⟩ = some (.int .u8 y)) (hpos : 0 < m) (hl : n + m ≤ 1000000000) (hbase : base ≤ W.heap.size)
    (h : ∀ g cap w', OutAt w' base (.slice (some ⟨g, 0, none⟩) (n + m) cap) (xs ++ ys) → W.grownBy w' v.ownBlock → Own1 W v (.slice (some ⟨g, 0, none⟩) (n + m) cap) → wpList Tryd.prog ops Q rest (a.put o.dst (.slice (some ⟨g, 0, none⟩) (n + m) cap)) w') : wpList Tryd.prog ops Q (o :: rest) a W := by
  obtain ⟨i0, hi, hz0, hz1, hz2⟩ := info_parts u8_info
  subst hn hm
  refine wpList_append_lies W hgd s x 169 ho base 5 i0 _ 1 1 Tryd.underlying169 hi hz0 hz1 hz2 rfl (by decide) v xs.length (byteV xs) hs hown ⟨lb, 0, none⟩ ys.length ys.length (byteV ys) hx (by rw [byteV_len]; omega) ?_ (byteV_one ys) hpos (by unfold maxLen; omega) (by omega) hbase W.heap.size rfl ?_
  · intro j u hj
    simp only [byteV, List.getElem?_map] at hj
    obtain ⟨y, hy, rfl⟩ := Option.map_eq_some_iff.1 hj
    rw [Addr.add_lit, Nat.zero_add]
    exact hc j y hy
  · intro g cap w' h3 h4 h5 _
    refine h g cap w' ?_ h4 ?_
    · show w'.ownsRow base 5 1 _ (xs ++ ys).length (byteV (xs ++ ys))
      rw [List.length_append, byteV_app]
      exact h3
    · rcases h5 with h5 | h5
      · exact .inl h5.symm
      · exact .inr ⟨g, rfl, by omega⟩
/-- A string's bytes as numbers. -/
def strI (s : ByteArray) : List Int := s.data.toList.map fun b => (b.toNat : Int)
theorem strI_cells (s : ByteArray) : Lib.strCells s = byteV (strI s) := by simp [Lib.strCells, byteV, strI]
theorem strI_len (s : ByteArray) : (strI s).length = s.size := by rw [strI, List.length_map, Array.length_toList]; rfl
/-- append of a string. -/
theorem wpl_out_str {ops : Array Oper} {rest : List Oper} {o : Oper} {a : Act} {Q : Exit → Act → World → Prop} (hgd : o.guard = none) (sl x : Operand)
    (ho : o.op = .call { callee := .builtin .append, args := #[sl, x], argTypes := #[169, 9] }) (W : World) (base : Nat) (v : Value) (xs : List Int) (n : Nat) (hn : xs.length = n) (hs : a.eval sl = v) (hown : OutAt W base v xs)
    (s : ByteArray) (hx : a.eval x = .string s) (hpos : 0 < s.size) (hl : n + s.size ≤ 1000000000) (hbase : base ≤ W.heap.size)
    (h : ∀ v' w', OutAt w' base v' (xs ++ strI s) → W.grownBy w' v.ownBlock → Own1 W v v' → wpList Tryd.prog ops Q rest (a.put o.dst v') w') : wpList Tryd.prog ops Q (o :: rest) a W := by
  obtain ⟨i0, hi, hz0, hz1, hz2⟩ := info_parts u8_info
  subst hn
  have ht : Tryd.prog.underlying 169 = some (.slice 5) := Tryd.underlying169
  have hu : Tryd.prog.underlying 9 = some .string := Tryd.underlying9
  obtain ⟨v', w', hr, h2, h3, _⟩ := Lib.run_append_own_string (P := Tryd.prog) W base 169 9 o.type 5 i0 ht hu hi hz0 hz1 hz2 v xs.length (byteV xs) hown s (by unfold maxLen; omega) (by omega) hbase
  have ho1 : Own1 W v v' := by
    rcases hown.2 with ⟨rfl, h0⟩ | ⟨g, cap, cur, rfl, _, hg, hnc, hcm, hcs, htk⟩
    · have hr2 := run_append_nil_string (P := Tryd.prog) W 169 9 o.type 5 i0 (.int .u8 0) ht hu hi hz0 s hpos (by omega) (by rw [hz2]; omega)
      rw [hr2] at hr
      simp only [Result.ok.injEq] at hr
      rw [← hr.1]
      exact .inr ⟨_, rfl, Nat.le_refl _⟩
    · by_cases hroom : xs.length + s.size ≤ cap
      · have hr2 := Lib.run_append_room_string (P := Tryd.prog) W 169 9 o.type 5 i0 ht hu hi hz1 g xs.length cap cur hg s hroom (by omega)
        rw [hr2] at hr
        simp only [Result.ok.injEq] at hr
        rw [← hr.1]
        exact .inl rfl
      · have holds := hown.cells (g := g) rfl
        have hr2 := Lib.run_append_grow_string (P := Tryd.prog) W 169 9 o.type 5 i0 (.int .u8 0) ht hu hi hz0 ⟨g, 0, none⟩ xs.length cap (byteV xs) (by rw [hz1, byteV_len]; omega) holds s (by omega) (by omega) (by rw [hz2]; exact growslice_fits (by omega) (by omega))
        rw [hr2] at hr
        simp only [Result.ok.injEq] at hr
        rw [← hr.1]
        exact .inr ⟨_, rfl, Nat.le_refl _⟩
  refine Lib.wpList_append_run W hgd sl x _ _ ho _ _ hs hx _ w' hr (h v' w' ?_ h3 ho1)
  show w'.ownsRow base 5 1 v' (xs ++ strI s).length (byteV (xs ++ strI s))
  rw [List.length_append, strI_len, byteV_app, ← strI_cells]
  exact h2

end Ex
end Go.Proofs.YtggodknnfpegmaaDoor
namespace Go.Proofs.YtggodknnfpegmaaDoor
open Go.RowKit
attribute [local go_sem] Oper.semAt_some
namespace Ex

def hexd (d : Int) : Int := if d < 10 then 48 + d else 87 + d
/-- A byte as it is written. -/
def byteW (s : ByteArray) (c : Int) : List Int :=
  if c = 10 then [92, 110] else if c = 13 then [92, 114] else if c = 9 then [92, 116]
  else if printedP c = false then [92, 120, hexd (c / 16), hexd (c % 16)] else if inS s c then [92, c] else [c]
theorem one_lit (w : World) (x : Int) (t : TypeId) : ∀ (j : Nat) (y : Int), [x][j]? = some y → (w.alloc (.cells #[.int .u8 x] t)).cell? ⟨w.heap.size, j, none⟩ = some (.int .u8 y) := by
  intro j y h
  match j with
  | 0 => simp at h; subst h; simp
  | j + 1 => simp at h
theorem two_lit (w : World) (x z : Int) (t : TypeId) : ∀ (j : Nat) (y : Int), [x, z][j]? = some y → (w.alloc (.cells #[.int .u8 x, .int .u8 z] t)).cell? ⟨w.heap.size, j, none⟩ = some (.int .u8 y) := by
  intro j y h
  match j with
  | 0 => simp at h; subst h; simp
  | 1 => simp at h; subst h; simp
  | j + 2 => simp at h
end Ex
end Go.Proofs.YtggodknnfpegmaaDoor
namespace Go.Proofs.YtggodknnfpegmaaDoor
open Go.RowKit
attribute [local go_sem] Oper.semAt_some
namespace Ex

def escS : ByteArray := ⟨#[93, 92, 45, 47, 94]⟩
def memW {n : Nat} (q : PatN (n + 1)) : List Int := byteW escS (from_ q) ++ if from_ q < to_ q then 45 :: byteW escS (to_ q) else []
def classW {n : Nat} (L : List (PatN (n + 1))) : List Int := 91 :: (L.flatMap memW ++ [93])
theorem byteW_len (s : ByteArray) (c : Int) : (byteW s c).length ≤ 4 := by unfold byteW; (repeat' split) <;> simp
theorem memW_len {n : Nat} (q : PatN (n + 1)) : (memW q).length ≤ 9 := by
  unfold memW
  have h1 := byteW_len escS (from_ q)
  have h2 := byteW_len escS (to_ q)
  rw [List.length_append]
  split <;> simp <;> omega
theorem flat_len {α : Type} (f : α → List Int) (k : Nat) (hf : ∀ x, (f x).length ≤ k) : ∀ L : List α, (L.flatMap f).length ≤ k * L.length
  | [] => by simp
  | x :: L => by rw [List.flatMap_cons, List.length_append, List.length_cons, Nat.mul_succ]; have := flat_len f k hf L; have := hf x; omega
theorem flat_snoc {α : Type} {f : α → List Int} {L : List α} {j : Nat} {q : α} (hq : L[j]? = some q) : (L.take (j + 1)).flatMap f = (L.take j).flatMap f ++ f q := by
  obtain ⟨hj, rfl⟩ := List.getElem?_eq_some_iff.1 hq
  rw [List.take_succ_eq_append_getElem hj, List.flatMap_append]
  simp
/-- What is not the row's own stays. -/
theorem grown_holds {S : Nat → Prop} {w w' : World} {v : Value} (hg : w.grownBy w' v.ownBlock) (hS : ∀ d, S d → v.ownBlock ≠ some d) : Holds S w w' := fun d _ _ hd hc => hg.cell hc (fun e => hS d hd e.symm)
def Fine {n : Nat} (L : List (PatN (n + 1))) : Prop := ∀ q ∈ L, printedP (from_ q) = true ∧ printedP (to_ q) = true

theorem step_out_bytes {ops : Array Oper} {o : Oper} {a : Act} {K : Act → World → Prop} {Q : Exit → Act → World → Prop} {E : Prop} (hgd : o.guard = none) (s x : Operand)
    (ho : o.op = .call { callee := .builtin .append, args := #[s, x], argTypes := #[169, 169] }) (W : World) (base : Nat) (v : Value) (xs : List Int) (n : Nat) (hn : xs.length = n) (hs : a.eval s = v) (hown : OutAt W base v xs)
    (lb : Nat) (ys : List Int) (m : Nat) (hm : ys.length = m) (hx : a.eval x = .slice (some ⟨lb, 0, none⟩) m m) (hc : ∀ (j : Nat) (y : Int), ys[j]? = some y → W.cell? ⟨lb, j, none⟩ = some (.int .u8 y)) (hpos : 0 < m) (hl : n + m ≤ 1000000000) (hbase : base ≤ W.heap.size)
    (h : ∀ g cap w', OutAt w' base (.slice (some ⟨g, 0, none⟩) (n + m) cap) (xs ++ ys) → W.grownBy w' v.ownBlock → Own1 W v (.slice (some ⟨g, 0, none⟩) (n + m) cap) → K (a.put o.dst (.slice (some ⟨g, 0, none⟩) (n + m) cap)) w') :
    if Region.wanted o (yielded ops a.tmps) = true then Oper.wp Tryd.prog o a W K Q else E := by
  obtain ⟨i0, hi, hz0, hz1, hz2⟩ := info_parts u8_info
  subst hn hm
  refine step_append_lies W hgd s x 169 ho base 5 i0 _ 1 1 Tryd.underlying169 hi hz0 hz1 hz2 rfl (by decide) v xs.length (byteV xs) hs hown ⟨lb, 0, none⟩ ys.length ys.length (byteV ys) hx (by rw [byteV_len]; omega) ?_ (byteV_one ys) hpos (by unfold maxLen; omega) (by omega) hbase W.heap.size rfl ?_
  · intro j u hj
    simp only [byteV, List.getElem?_map] at hj
    obtain ⟨y, hy, rfl⟩ := Option.map_eq_some_iff.1 hj
    rw [Addr.add_lit, Nat.zero_add]
    exact hc j y hy
  · intro g cap w' h3 h4 h5 _
    refine h g cap w' ?_ h4 ?_
    · show w'.ownsRow base 5 1 _ (xs ++ ys).length (byteV (xs ++ ys))
      rw [List.length_append, byteV_app]
      exact h3
    · rcases h5 with h5 | h5
      · exact .inl h5.symm
      · exact .inr ⟨g, rfl, by omega⟩
theorem own_far {w : World} {o : Obj} {v v' : Value} (h : Own1 (w.alloc o) v v') (hv : ∀ d, v.ownBlock = some d → d < w.heap.size) : some w.heap.size ≠ v'.ownBlock := by
  intro e
  rcases h with h | ⟨g, hg, hl⟩
  · have := hv _ (h.symm.trans e.symm); omega
  · rw [hg, Option.some.injEq] at e; simp at hl; omega
theorem own_far2 {W : World} {v v' : Value} {x : Nat} (h : Own1 W v v') (hx : x < W.heap.size) (hv : some x ≠ v.ownBlock) : some x ≠ v'.ownBlock := by
  intro e
  rcases h with h | ⟨g, hg, hl⟩
  · exact hv (e.trans h)
  · rw [hg, Option.some.injEq] at e; omega
def ClassWR {n : Nat} (_S : Nat → Prop) (L : List (PatN (n + 1))) (base : Nat) (w : World) (v : Value) (xs : List Int) (vo i : Value) (wr : World) : Prop :=
  ∃ j : Nat, i = .int .i64 (j : Int) ∧ j ≤ L.length ∧ OutAt wr base vo (xs ++ 91 :: (L.take j).flatMap memW) ∧ w.grownBy wr v.ownBlock ∧ Own1 w v vo
end Ex
end Go.Proofs.YtggodknnfpegmaaDoor
namespace Go.Proofs.YtggodknnfpegmaaDoor
open Go.RowKit
attribute [local go_sem] Oper.semAt_some
namespace Ex

def kindN : (n : Nat) → PatN n → Int
  | 0, _ => 0
  | _ + 1, p => kind p
def isClassP {n : Nat} (p : PatN (n + 1)) : Bool := kind p == 3 && (kids p).all (fun q => kindN n q == 1)

/-- Is a part put in brackets? -/
def bracketP {n : Nat} (q : PatN (n + 1)) (k : Int) : Bool := if kind q = 3 then !isClassP q else if kind q = 2 then k != 3 || (kids q).length == 0 else false
end Ex
end Go.Proofs.YtggodknnfpegmaaDoor
namespace Go.Proofs.YtggodknnfpegmaaDoor
open Go.RowKit
attribute [local go_sem] Oper.semAt_some
namespace Ex

theorem kids_single {S : Nat → Prop} {W : World} {n g : Nat} {p : PatN (n + 1)} {u : Value} (h : BoxAt W g (.int .i64 (kind p)) (.int .i64 (from_ p)) (.int .i64 (to_ p)) (.int .i64 (min_ p)) (.int .i64 (max_ p)) u) (hk : KidsAt S W n (kids p) u) (hg : S g) : KidsAt S W (n + 1) [p] (.slice (some ⟨g, 0, none⟩) 1 1) := by
  obtain ⟨⟨c0, c1, c2, c3, c4, c5⟩, _⟩ := h.facts
  refine ⟨_, 1, rfl, Nat.le_refl _, by simp, Or.inr ⟨g, 0, rfl, hg, fun i q hq => ?_⟩⟩
  match i with
  | 0 =>
    rw [List.getElem?_cons_zero, Option.some.injEq] at hq
    subst hq
    exact ⟨u, c0, c1, c2, c3, c4, c5, hk⟩
  | i + 1 => simp at hq
theorem box_two {w : World} {n : Nat} {p : PatN (n + 1)} {fr to : Int} {u : Value} {o : Obj} (hf : from_ p = fr) (ht : to_ p = to) : BoxAt ((w.alloc o).alloc (.cells #[.int .i64 (kind p), .int .i64 fr, .int .i64 to, .int .i64 (min_ p), .int .i64 (max_ p), u] 97)) (w.heap.size + 1) (.int .i64 (kind p)) (.int .i64 (from_ p)) (.int .i64 (to_ p)) (.int .i64 (min_ p)) (.int .i64 (max_ p)) u := by
  subst hf ht
  exact heap_alloc2_new w _ _
def rangeW {n : Nat} (p : PatN (n + 1)) : List Int := if from_ p = to_ p then byteW signsS (from_ p) else if from_ p = 0 ∧ to_ p = 255 then [46] else classW [p]
end Ex
end Go.Proofs.YtggodknnfpegmaaDoor
namespace Go.Proofs.YtggodknnfpegmaaDoor
open Go.RowKit
attribute [local go_sem] Oper.semAt_some
namespace Ex

def timesW (mn mx : Int) : List Int :=
  if mn = 0 ∧ mx = -1 then [42] else if mn = 1 ∧ mx = -1 then [43] else if mn = 0 ∧ mx = 1 then [63]
  else 123 :: (48 + mn) :: ((if mx = mn then [] else 44 :: (if mx = -1 then [] else [48 + mx])) ++ [125])
/-- One byte more. -/
theorem wpl_out_one {ops : Array Oper} {rest : List Oper} {o : Oper} {a : Act} {Q : Exit → Act → World → Prop} (hgd : o.guard = none) (s x : Operand)
    (ho : o.op = .call { callee := .builtin .append, args := #[s, x], argTypes := #[169, 169] }) (w W : World) (base : Nat) (v0 v : Value) (cs : List Int) (n : Nat) (hn : cs.length = n) (b : Int) (t : TypeId) (hs : a.eval s = v) (hown : OutAt W base v cs) (hg : w.grownBy W v0.ownBlock) (hw : Own1 w v0 v)
    (hx : a.eval x = .slice (some ⟨W.heap.size, 0, none⟩) 1 1) (hl : n ≤ 900000000) (hbase : base ≤ w.heap.size)
    (h : ∀ g cap w' l, l = cs ++ [b] → l.length = n + 1 → OutAt w' base (.slice (some ⟨g, 0, none⟩) (n + 1) cap) l → w.grownBy w' v0.ownBlock → Own1 w v0 (.slice (some ⟨g, 0, none⟩) (n + 1) cap) → wpList Tryd.prog ops Q rest (a.put o.dst (.slice (some ⟨g, 0, none⟩) (n + 1) cap)) w') : wpList Tryd.prog ops Q (o :: rest) a (W.alloc (.cells #[.int .u8 b] t)) := by
  refine wpl_out_bytes hgd s x ho _ base v cs n hn hs (hown.keep ((Kept.refl _).alloc _ _)) W.heap.size [b] 1 rfl hx (one_lit _ _ _) (by decide) (by omega) (by have := hg.size; simp; omega) ?_
  intro g cap w' h1 h2 h3
  exact h g cap w' _ rfl (by rw [List.length_append, hn]; rfl) h1 (grown_trans hg hw (grown_pre ((Kept.refl _).alloc _ _) h2)) (hw.trans (h3.pre ((Kept.refl W).alloc _ _).size) hg.size)

end Ex
end Go.Proofs.YtggodknnfpegmaaDoor
namespace Go.Proofs.YtggodknnfpegmaaDoor
open Go.RowKit
attribute [local go_sem] Oper.semAt_some
namespace Ex

theorem box_far {w w' : World} {v : Value} {g : Nat} {x0 x1 x2 x3 x4 x5 : Value} (hg : w.grownBy w' v.ownBlock) (h : w.cell? ⟨g, 0, none⟩ = some x0 ∧ w.cell? ⟨g, 1, none⟩ = some x1 ∧ w.cell? ⟨g, 2, none⟩ = some x2 ∧ w.cell? ⟨g, 3, none⟩ = some x3 ∧ w.cell? ⟨g, 4, none⟩ = some x4 ∧ w.cell? ⟨g, 5, none⟩ = some x5) (hn : some g ≠ v.ownBlock) :
    w'.cell? ⟨g, 0, none⟩ = some x0 ∧ w'.cell? ⟨g, 1, none⟩ = some x1 ∧ w'.cell? ⟨g, 2, none⟩ = some x2 ∧ w'.cell? ⟨g, 3, none⟩ = some x3 ∧ w'.cell? ⟨g, 4, none⟩ = some x4 ∧ w'.cell? ⟨g, 5, none⟩ = some x5 :=
  ⟨hg.cell h.1 hn, hg.cell h.2.1 hn, hg.cell h.2.2.1 hn, hg.cell h.2.2.2.1 hn, hg.cell h.2.2.2.2.1 hn, hg.cell h.2.2.2.2.2 hn⟩
/-- A part, in brackets or not. -/
def partW {n : Nat} (q : PatN (n + 1)) (k : Int) (ys : List Int) : List Int := if bracketP q k then 40 :: (ys ++ [41]) else ys
end Ex
end Go.Proofs.YtggodknnfpegmaaDoor
namespace Go.Proofs.YtggodknnfpegmaaDoor
open Go.RowKit
attribute [local go_sem] Oper.semAt_some
namespace Ex

def partN : (n : Nat) → PatN n → Int → List Int → List Int
  | 0, _, _, _ => []
  | _ + 1, q, k, ys => partW q k ys
def classN : (n : Nat) → List (PatN n) → List Int
  | 0, _ => [91, 93]
  | _ + 1, L => classW L
/-- A pattern as it is written. -/
def writeW : (n : Nat) → PatN n → List Int
  | 0, _ => []
  | n + 1, p =>
    if kind p = 1 then rangeW p
    else if kind p = 4 then ((kids p).take 1).flatMap (fun q => partN n q 4 (writeW n q)) ++ timesW (min_ p) (max_ p)
    else if isClassP p then classN n (kids p)
    else (kids p).zipIdx.flatMap fun x => (if 0 < x.2 ∧ kind p = 3 then [124] else []) ++ partN n x.1 (kind p) (writeW n x.1)
/-- Bytes that are seen, and repetitions without end that begin below ten. -/
def NiceP : (n : Nat) → PatN n → Prop
  | 0, _ => True
  | n + 1, p => (kind p = 1 → printedP (from_ p) = true ∧ printedP (to_ p) = true) ∧ (kind p = 4 → (kids p).length = 1 ∧ 0 ≤ min_ p ∧ min_ p < 10 ∧ max_ p = -1) ∧ (kind p = 3 → kids p ≠ []) ∧ (kids p).length ≤ 1000000 ∧ ∀ q ∈ kids p, NiceP n q
theorem take_len {α : Type} (f : α → List Int) (L : List α) (j : Nat) : ((L.take j).flatMap f).length ≤ (L.flatMap f).length := by
  have e : L.flatMap f = (L.take j).flatMap f ++ (L.drop j).flatMap f := by rw [← List.flatMap_append, List.take_append_drop]
  rw [e, List.length_append]
  omega

def writeF (n : Nat) (kd : Int) (x : PatN n × Nat) : List Int := (if 0 < x.2 ∧ kd = 3 then [124] else []) ++ partN n x.1 kd (writeW n x.1)
theorem hzi {α : Type} {L : List α} {j : Nat} {q : α} (h : L[j]? = some q) : L.zipIdx[j]? = some (q, j) := by simp [h]
theorem wpl_out_at {ops : Array Oper} {rest : List Oper} {o : Oper} {a : Act} {Q : Exit → Act → World → Prop} (hgd : o.guard = none) (s x : Operand)
    (ho : o.op = .call { callee := .builtin .append, args := #[s, x], argTypes := #[169, 169] }) (lb : Nat) (w W : World) (base : Nat) (v0 v : Value) (cs : List Int) (n : Nat) (hn : cs.length = n) (b : Int) (t : TypeId) (hs : a.eval s = v) (hown : OutAt W base v cs) (hg : w.grownBy W v0.ownBlock) (hw : Own1 w v0 v)
    (hx : a.eval x = .slice (some ⟨lb, 0, none⟩) 1 1) (hlb : W.heap.size = lb) (hl : n ≤ 900000000) (hbase : base ≤ w.heap.size)
    (h : ∀ g cap w' l, l = cs ++ [b] → l.length = n + 1 → OutAt w' base (.slice (some ⟨g, 0, none⟩) (n + 1) cap) l → w.grownBy w' v0.ownBlock → Own1 w v0 (.slice (some ⟨g, 0, none⟩) (n + 1) cap) → wpList Tryd.prog ops Q rest (a.put o.dst (.slice (some ⟨g, 0, none⟩) (n + 1) cap)) w') : wpList Tryd.prog ops Q (o :: rest) a (W.alloc (.cells #[.int .u8 b] t)) := by
  subst hlb
  exact wpl_out_one hgd s x ho w W base v0 v cs n hn b t hs hown hg hw hx hl hbase h
/-- The loop of write. -/
def WriteR (n : Nat) (L : List (PatN n)) (kd : Int) (base : Nat) (w w6 : World) (v : Value) (xs : List Int) (x1 x2 x3 x4 x5 vo i : Value) (wr : World) : Prop :=
  ∃ j : Nat, i = .int .i64 (j : Int) ∧ j ≤ L.length ∧ w6.heap.size ≤ wr.heap.size ∧ OutAt wr base vo (xs ++ (L.zipIdx.take j).flatMap (writeF n kd)) ∧ w.grownBy wr v.ownBlock ∧ Own1 w6 v vo ∧ BoxAt wr w.heap.size (.int .i64 kd) x1 x2 x3 x4 x5
end Ex
end Go.Proofs.YtggodknnfpegmaaDoor
namespace Go.Proofs.YtggodknnfpegmaaDoor
open Go.RowKit
attribute [local go_sem] Oper.semAt_some
namespace Ex

theorem kept_grown {w w' : World} (h : w.grownBy w' none) : Kept w w' := ⟨h.os, h.tape, h.output, h.size, fun k hk => h.block k hk (by simp)⟩
/-- Bytes as a string. -/
def strOf (zs : List Int) : ByteArray := zs.foldl (fun r n => r.push (UInt8.ofNat n.toNat)) ByteArray.empty
theorem strI_push (s : ByteArray) (b : UInt8) : strI (s.push b) = strI s ++ [(b.toNat : Int)] := by
  unfold strI
  show ((s.data.push b).toList.map _) = _
  rw [Array.toList_push, List.map_append]
  rfl
theorem strI_fold : ∀ (zs : List Int) (s : ByteArray), (∀ z ∈ zs, IsB z) → strI (zs.foldl (fun r n => r.push (UInt8.ofNat n.toNat)) s) = strI s ++ zs
  | [], s, _ => by simp
  | z :: zs, s, h => by
    rw [List.foldl_cons, strI_fold zs _ (fun y hy => h y (List.mem_cons_of_mem _ hy)), strI_push]
    have hz := h z List.mem_cons_self
    unfold IsB at hz
    have e : ((UInt8.ofNat z.toNat).toNat : Int) = z := by
      have e2 : (UInt8.ofNat z.toNat).toNat = z.toNat % 256 := by first | rfl | simp
      rw [e2]
      omega
    rw [e]
    simp
theorem strI_of {zs : List Int} (h : ∀ z ∈ zs, IsB z) : strI (strOf zs) = zs := by
  unfold strOf
  rw [strI_fold zs _ h]
  rfl
theorem conv_out {w : World} {base c : Nat} {a : Option Addr} {zs : List Int} (h : OutAt w base (.slice a zs.length c) zs) (hne : zs ≠ []) : (convert 169 9 (.slice a zs.length c)).run Tryd.prog w = .ok (.string (strOf zs)) w := by
  rw [run_convert_bytes_string w 169 9 5 a zs.length c Tryd.underlying169 Tryd.underlying5 Tryd.underlying9]
  rcases h.2 with ⟨_, h0⟩ | ⟨g, cap, cur, e, _, _⟩
  · exact absurd (List.length_eq_zero_iff.1 h0) hne
  · simp only [Value.slice.injEq] at e
    obtain ⟨rfl, _, rfl⟩ := e
    refine run_bytesToString w ⟨g, 0, none⟩ zs.length c zs ?_
    have hc := h.cells (g := g) rfl
    have := run_loadCells_list (P := Tryd.prog) w ⟨g, 0, none⟩ (byteV zs) hc
    rw [byteV_len] at this
    exact this

end Ex
end Go.Proofs.YtggodknnfpegmaaDoor
namespace Go.Proofs.YtggodknnfpegmaaDoor
open Go.RowKit
namespace Ex

/-- The text that known reads, and its pattern. -/
def T0 : ByteArray := ⟨#[40, 97, 98, 41, 42, 124, 91, 99, 45, 101, 93, 123, 50, 44, 125]⟩
def P0 : Pat := mkP 3 0 0 0 0 [mkP 4 0 0 0 (-1) [mkP 2 0 0 0 0 [rangeP 97 97, rangeP 98 98]], mkP 4 0 0 2 (-1) [rangeP 99 101]]
set_option maxRecDepth 100000 in
theorem whole0 : wholeS T0 (0, 0, 0) = (P0, 15, 0, 0) := by kernel_rfl
theorem size0 : T0.size = 15 := rfl
theorem plain0 : Plain T0 := by
  intro k
  unfold peekP
  split
  · rename_i h
    rw [size0] at h
    have hd : ∀ i : Fin 15, ((T0[i.1]'(by rw [size0]; exact i.2)).toNat : Int) ≠ 92 ∧ ((T0[i.1]'(by rw [size0]; exact i.2)).toNat : Int) ≠ 94 := by decide
    exact hd ⟨k.toNat, by omega⟩
  · decide
theorem check0 : checkP P0.2 = 0 := by kernel_rfl
theorem write0 : writeW (P0.1 + 1) P0.2 = [40, 97, 98, 41, 42, 124, 91, 99, 45, 101, 93, 123, 50, 44, 125] := by kernel_rfl
theorem strT0 : strOf (writeW (P0.1 + 1) P0.2) = T0 := by rw [write0]; rfl

def niceB : (n : Nat) → PatN n → Bool
  | 0, _ => true
  | n + 1, p => (kind p != 1 || printedP (from_ p) && printedP (to_ p)) && (kind p != 4 || ((kids p).length == 1 && decide (0 ≤ min_ p) && decide (min_ p < 10) && max_ p == -1)) && (kind p != 3 || (kids p).length != 0) && decide ((kids p).length ≤ 1000000) && (kids p).all (niceB n)
theorem nice_of : ∀ (n : Nat) (p : PatN n), niceB n p = true → NiceP n p
  | 0, _, _ => trivial
  | n + 1, p, h => by
    unfold niceB at h
    simp only [Bool.and_eq_true, Bool.or_eq_true, bne_iff_ne, ne_eq, beq_iff_eq, decide_eq_true_eq, List.all_eq_true] at h
    obtain ⟨⟨⟨⟨h1, h4⟩, h3⟩, hl⟩, hk⟩ := h
    refine ⟨fun e => ?_, fun e => ?_, fun e => ?_, hl, fun q hq => nice_of n q (hk q hq)⟩
    · rcases h1 with h1 | h1
      · exact absurd e h1
      · exact h1
    · rcases h4 with h4 | ⟨⟨⟨a, b⟩, c⟩, d⟩
      · exact absurd e h4
      · exact ⟨a, b, c, d⟩
    · rcases h3 with h3 | h3
      · exact absurd e h3
      · exact fun e2 => h3 (by rw [e2]; rfl)
theorem nice0 : NiceP (P0.1 + 1) P0.2 := nice_of _ _ (by kernel_rfl)
theorem len0 : (writeW (P0.1 + 1) P0.2).length ≤ 4096 := by rw [write0]; decide
theorem ne0 : writeW (P0.1 + 1) P0.2 ≠ [] := by rw [write0]; simp
end Ex
end Go.Proofs.YtggodknnfpegmaaDoor
namespace Go.Proofs.YtggodknnfpegmaaDoor
open Go.RowKit
attribute [local go_sem] Oper.semAt_some
namespace Ex

/-- Has a lean pattern no positions? -/
def hollowP (p : Pat) : Bool := kind p.2 == 2 && (kids p.2).length == 0
/-- Which of the lean parts stay: a hollow one as long as keep is not used up. -/
def thinG : List Pat → Int → List Pat
  | [], _ => []
  | p :: l, k => if hollowP p then (if k - 1 < 0 then thinG l (k - 1) else p :: thinG l (k - 1)) else p :: thinG l k
/-- The pattern without parts that have no positions. -/
def thinW : (n : Nat) → PatN (n + 1) → Pat
  | 0, p => if kind p = 2 then mkP 2 0 0 0 0 [] else if kind p = 3 then oneOf 3 [] else if kind p = 4 then mkP 2 0 0 0 0 [] else ⟨0, p⟩
  | n + 1, p =>
    if kind p = 2 then mkP 2 0 0 0 0 (thinG ((kids p).map (thinW n)) 0)
    else if kind p = 3 then oneOf 3 (thinG ((kids p).map (thinW n)) 1)
    else if kind p = 4 then (match (kids p).map (thinW n) with | q :: _ => if max_ p = 0 ∨ hollowP q = true then mkP 2 0 0 0 0 [] else mkP 4 0 0 (min_ p) (max_ p) [q] | [] => mkP 2 0 0 0 0 [])
    else ⟨n + 1, p⟩
theorem kept6 {w W : World} {g : Nat} {x0 x1 x2 x3 x4 x5 : Value} (h : Kept w W) (hg : w.heap.size ≤ g) : Kept w ((((((W.setCell ⟨g, 0, none⟩ x0).setCell ⟨g, 1, none⟩ x1).setCell ⟨g, 2, none⟩ x2).setCell ⟨g, 3, none⟩ x3).setCell ⟨g, 4, none⟩ x4).setCell ⟨g, 5, none⟩ x5) := (((((h.set hg).set hg).set hg).set hg).set hg).set hg
theorem kept_app {w W w' : World} {base : Nat} {S : Nat → Prop} {v : Value} {l : List Pat} (h : Kept w W) (ho : PatsOwn W base S v l) (hb : w.heap.size ≤ base) (hg : W.grownBy w' v.ownBlock) : Kept w w' :=
  ⟨hg.os.trans h.1, hg.tape.trans h.2.1, hg.output.trans h.2.2.1, Nat.le_trans h.size hg.size, fun k hk => (hg.block k (Nat.lt_of_lt_of_le hk h.size) (fun e => by have := (ho.lt k e.symm).1; omega)).trans (h.2.2.2.2 k hk)⟩
/-- The loop of leanParts. -/
def ThinR (S : Nat → Prop) (n : Nat) (L : List (PatN (n + 1))) (k : Int) (w : World) (vk vo vi : Value) (wr : World) : Prop :=
  ∃ (j : Nat) (k1 : Int) (acc : List Pat), vi = .int .i64 (j : Int) ∧ vk = .int .i64 k1 ∧ j ≤ L.length ∧ acc.length ≤ j ∧ k1 ≤ 10 ∧ k1 + (j : Int) ≥ k ∧ Kept w wr ∧ PatsOwn wr w.heap.size (fun d => S d ∨ w.heap.size ≤ d) vo acc ∧ thinG (L.map (thinW n)) k = acc ++ thinG ((L.drop j).map (thinW n)) k1
end Ex
end Go.Proofs.YtggodknnfpegmaaDoor
namespace Go.Proofs.YtggodknnfpegmaaDoor
open Go.RowKit
attribute [local go_sem] Oper.semAt_some
namespace Ex

theorem thin_box {w w7 : World} {o : Obj} (h : Kept ((w.alloc o).alloc (.cells #[.int .i64 0, .int .i64 0, .int .i64 0, .int .i64 0, .int .i64 0, .slice none 0 0] 97)) w7) : BoxAt w7 (w.heap.size + 1) (.int .i64 0) (.int .i64 0) (.int .i64 0) (.int .i64 0) (.int .i64 0) (.slice none 0 0) := by
  have h1 : BoxAt ((w.alloc o).alloc (.cells #[.int .i64 0, .int .i64 0, .int .i64 0, .int .i64 0, .int .i64 0, .slice none 0 0] 97)) (w.heap.size + 1) (.int .i64 0) (.int .i64 0) (.int .i64 0) (.int .i64 0) (.int .i64 0) (.slice none 0 0) := heap_alloc2_new w _ _
  exact h1.keep h
theorem thin_own {w w7 : World} {o o2 : Obj} {S : Nat → Prop} {v : Value} {l : List Pat} (h : PatsOwn w7 ((w.alloc o).alloc o2).heap.size (fun d => S d ∨ ((w.alloc o).alloc o2).heap.size ≤ d) v l) (_hS : ∀ d, S d → d < w.heap.size) : PatsOwn w7 (w.heap.size + 2) (fun d => S d ∨ w.heap.size + 2 ≤ d) v l := by
  have e : ((w.alloc o).alloc o2).heap.size = w.heap.size + 2 := by simp
  rw [e] at h
  exact h
/-- The end with a list. -/
theorem thin_list {w wr : World} {S : Nat → Prop} {l : List Pat} {v : Value} {kd : Int} (ho : PatsOwn wr (w.heap.size + 2) (fun d => S d ∨ w.heap.size + 2 ≤ d) v l) (hS : ∀ d, S d → d < w.heap.size) (hb : l.length ≤ 100000) :
    PGives (fun d => S d ∨ w.heap.size ≤ d) (mkP kd 0 0 0 0 l) (.returned (.agg #[.int .i64 kd, .int .i64 0, .int .i64 0, .int .i64 0, .int .i64 0, v])) ((((((wr.setCell ⟨w.heap.size + 1, 0, none⟩ (.int .i64 kd)).setCell ⟨w.heap.size + 1, 1, none⟩ (.int .i64 0)).setCell ⟨w.heap.size + 1, 2, none⟩ (.int .i64 0)).setCell ⟨w.heap.size + 1, 3, none⟩ (.int .i64 0)).setCell ⟨w.heap.size + 1, 4, none⟩ (.int .i64 0)).setCell ⟨w.heap.size + 1, 5, none⟩ v) :=
  ⟨_, rfl, v, rfl, KidsAt.mono (set6_holds (S := fun d => S d ∨ w.heap.size + 2 ≤ d) (fun h => by rcases h with h | h; (have := hS _ h; omega); omega)) (fun d h => by rcases h with h | h; exact Or.inl h; exact Or.inr (by omega)) _ _ _ (ho.kids (fun d h => Or.inr h) (Nat.le_refl _) (by omega))⟩
theorem thin_one {w wr : World} {S : Nat → Prop} {p : Pat} {u : Value} {x0 x1 x2 x3 x4 x5 : Value} (hk : KidsAt (fun d => S d ∨ w.heap.size + 2 ≤ d) wr p.1 (kids p.2) u) (hS : ∀ d, S d → d < w.heap.size) :
    PGives (fun d => S d ∨ w.heap.size ≤ d) p (.returned (.agg #[.int .i64 (kind p.2), .int .i64 (from_ p.2), .int .i64 (to_ p.2), .int .i64 (min_ p.2), .int .i64 (max_ p.2), u])) ((((((wr.setCell ⟨w.heap.size + 1, 0, none⟩ x0).setCell ⟨w.heap.size + 1, 1, none⟩ x1).setCell ⟨w.heap.size + 1, 2, none⟩ x2).setCell ⟨w.heap.size + 1, 3, none⟩ x3).setCell ⟨w.heap.size + 1, 4, none⟩ x4).setCell ⟨w.heap.size + 1, 5, none⟩ x5) :=
  ⟨_, rfl, u, rfl, KidsAt.mono (set6_holds (S := fun d => S d ∨ w.heap.size + 2 ≤ d) (fun h => by rcases h with h | h; (have := hS _ h; omega); omega)) (fun d h => by rcases h with h | h; exact Or.inl h; exact Or.inr (by omega)) _ _ _ hk⟩

end Ex
end Go.Proofs.YtggodknnfpegmaaDoor
