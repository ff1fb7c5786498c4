import Derived.Test.YtjomglclefbffaaDoorMSpPm
import Derived.Test.YtjomglclefbffaaDoorMSpLe
namespace Go.Proofs.YtjomglclefbffaaDoor
open Go.RowKit
namespace Ex

theorem heads_empty {nl : Nat} {E : Nat → Prop} {F : Nat × Nat → Prop} {nx : Nat → Prop} {u : Nat} (hu : nx u) : ∀ {ys : List SymM}, (∀ x ∈ ys, SymOk false E x) → HeadS nl E F nx ys u
  | [], _ => hu
  | x :: xs, h => by
    have hx := h x List.mem_cons_self
    have h3 : x.1 = 3 := by
      by_cases e : x.1 = 3
      · exact e
      · exact absurd (hx.2 e) (by decide)
    exact .inl ⟨h3, .inr ⟨hx.1 h3, heads_empty hu (fun y hy => h y (List.mem_cons_of_mem _ hy))⟩⟩
/-- With what a row and what stands behind it begin. -/
theorem row_heads {nl : Nat} {ps : List ProdM} {nx : Nat → Prop} {ys : List SymM} {r : List Int} (hr : RowOf nl (Sen nl ps) ys r) {u : Nat} (d : List Int) (hu : nx u) : ∃ (v : Nat) (d' : List Int), r ++ (u : Int) :: d = (v : Int) :: d' ∧ HeadS nl (Mk false ps) (Fi nl (Mk false ps) ps) nx ys v := by
  obtain ⟨h1, h2⟩ := row_begins (fun _ h => sen_begins h) hr
  cases r with
  | nil => exact ⟨u, d, rfl, heads_empty hu (h1 rfl)⟩
  | cons t r =>
    obtain ⟨v, rfl, hv⟩ := h2 t r rfl
    exact ⟨v, r ++ (u : Int) :: d, rfl, hv.mono (fun _ h => h) (fun _ h => h.elim)⟩
abbrev FoP (nl st : Nat) (ps : List ProdM) : Nat × Nat → Prop := Fo nl st (Mk false ps) (Fi nl (Mk false ps) ps) ps
/-- What is noted of a symbol that makes c from the place q on: behind each name stands one of its Follow, if that is so behind the symbol. -/
def NoteR (nl st : Nat) (ps : List ProdM) (q : Nat) (y : SymM) (c : List Int) (ms : List (Nat × Nat)) : Prop := ∀ (u : Nat) (d : List Int), (y.1 = 3 → FoP nl st ps (y.2.toNat, u)) → ∀ m ∈ ms, q ≤ m.2 ∧ m.2 ≤ q + c.length ∧ ∃ v : Nat, (c ++ (u : Int) :: d)[m.2 - q]? = some (v : Int) ∧ FoP nl st ps (m.1, v)
/-- The same of the first i symbols of a right side. -/
def NotesR (nl st : Nat) (ps : List ProdM) (q : Nat) (p : ProdM) (i : Nat) (a : List Int) (ms : List (Nat × Nat)) : Prop := ∀ (r : List Int), RowOf nl (Sen nl ps) (p.2.drop i) r → ∀ (u : Nat) (d : List Int), FoP nl st ps (p.1.toNat, u) → ∀ m ∈ ms, q ≤ m.2 ∧ m.2 ≤ q + a.length ∧ ∃ v : Nat, (a ++ (r ++ (u : Int) :: d))[m.2 - q]? = some (v : Int) ∧ FoP nl st ps (m.1, v)
theorem NotesR.start (nl st : Nat) (ps : List ProdM) (q : Nat) (p : ProdM) : NotesR nl st ps q p 0 [] [] := fun _ _ _ _ _ m hm => by cases hm
theorem NotesR.step {nl st : Nat} {ps : List ProdM} {q : Nat} {p : ProdM} {i j : Nat} {a c : List Int} {ms mc : List (Nat × Nat)} {y : SymM} (hj : ps[j]? = some p) (hy : p.2[i]? = some y) (h : NotesR nl st ps q p i a ms) (hs : SymR nl ps y c) (hc : NoteR nl st ps (q + a.length) y c mc) : NotesR nl st ps q p (i + 1) (a ++ c) (ms ++ mc) := by
  intro r hr u d hu m hm
  have hd : p.2.drop i = y :: p.2.drop (i + 1) := by
    obtain ⟨h1, h2⟩ := List.getElem?_eq_some_iff.1 hy
    rw [List.drop_eq_getElem_cons h1, h2]
  rcases List.mem_append.1 hm with hm | hm
  · obtain ⟨h1, h2, v, h3, h4⟩ := h (c ++ r) (by rw [hd]; exact ⟨c, r, rfl, hs, hr⟩) u d hu m hm
    refine ⟨h1, by rw [List.length_append]; omega, v, ?_, h4⟩
    rw [← h3]
    simp [List.append_assoc]
  · obtain ⟨w, d', e1, hw⟩ := row_heads hr d hu (nx := fun t => FoP nl st ps (p.1.toNat, t))
    obtain ⟨h1, h2, v, h3, h4⟩ := hc w d' (fun h3 => (lf_closed (fo_up nl (Mk false ps) (Fi nl (Mk false ps) ps) ps)).2 (j, i) ⟨p, hj, (List.getElem?_eq_some_iff.1 hy).1⟩ _ ⟨p, y, hj, hy, h3, rfl, hw⟩) m hm
    refine ⟨by omega, by rw [List.length_append]; omega, v, ?_, h4⟩
    rw [e1, List.append_assoc, List.getElem?_append_right (by omega), ← h3]
    congr 1
    omega
/-- The name itself is noted at the end. -/
theorem NotesR.done {nl st : Nat} {ps : List ProdM} {q : Nat} {p : ProdM} {a : List Int} {ms : List (Nat × Nat)} {y : SymM} (h : NotesR nl st ps q p p.2.length a ms) (h3 : y.1 = 3) (hp : p.1 = y.2) : NoteR nl st ps q y a (ms ++ [(y.2.toNat, q + a.length)]) := by
  intro u d hu m hm
  rcases List.mem_append.1 hm with hm | hm
  · obtain ⟨h1, h2, v, h4, h5⟩ := h [] (by rw [List.drop_length]; rfl) u d (by rw [hp]; exact hu h3) m hm
    exact ⟨h1, h2, v, by simpa using h4, h5⟩
  · have e : m = (y.2.toNat, q + a.length) := List.mem_singleton.1 hm
    subst e
    refine ⟨by show q ≤ q + a.length; omega, Nat.le_refl _, u, ?_, hu h3⟩
    show (a ++ (u : Int) :: d)[q + a.length - q]? = some (u : Int)
    rw [show q + a.length - q = a.length by omega, List.getElem?_append_right (Nat.le_refl _), Nat.sub_self]
    rfl
theorem NoteR.term (nl st : Nat) (ps : List ProdM) (q : Nat) (y : SymM) (c : List Int) : NoteR nl st ps q y c [] := fun _ _ _ m hm => by cases hm
/-- Of a whole row from Start, end behind it. -/
theorem NoteR.whole {nl st : Nat} {ps : List ProdM} {c : List Int} {ms : List (Nat × Nat)} (h : NoteR nl st ps 0 (3, (st : Int)) c ms) : ∀ m ∈ ms, ∃ v : Nat, (c ++ [((nl + 1 : Nat) : Int)])[m.2]? = some (v : Int) ∧ FoP nl st ps (m.1, v) := fun m hm => by
  obtain ⟨_, _, v, h1, h2⟩ := h (nl + 1) [] (fun _ => (lf_closed (fo_up nl (Mk false ps) (Fi nl (Mk false ps) ps) ps)).1 _ rfl) m hm
  exact ⟨v, h1, h2⟩

end Ex
end Go.Proofs.YtjomglclefbffaaDoor
namespace Go.Proofs.YtjomglclefbffaaDoor
open Go.RowKit
attribute [local go_sem] Oper.semAt_some
namespace Ex

theorem made_info : (Tryd.prog.info? 52).map (fun i => (i.zero, i.size, i.bytes)) = some (some (.agg #[.int .i64 0, .int .i64 0]), 2, 16) := by kernel_rfl
/-- What is noted, of the call's own: names, and where what they made ends. -/
def flatM (l : List (Nat × Nat)) : List Value := (l.map fun m => [Value.int .i64 (m.1 : Int), Value.int .i64 (m.2 : Int)]).flatten
theorem flatM_app (l : List (Nat × Nat)) (m : Nat × Nat) : flatM (l ++ [m]) = flatM l ++ [.int .i64 (m.1 : Int), .int .i64 (m.2 : Int)] := by
  unfold flatM
  rw [List.map_append, List.flatten_append]
  rfl
def MdO (w : World) (base : Nat) (v : Value) (l : List (Nat × Nat)) : Prop := w.ownsRow base 52 2 v l.length (flatM l)
theorem MdO.lt {w : World} {base : Nat} {v : Value} {l : List (Nat × Nat)} (h : MdO w base v l) : ∀ g, v.ownBlock = some g → base ≤ g ∧ g < w.heap.size := World.ownsRow.lt h
theorem MdO.same {w w' : World} {base : Nat} {v : Value} {l : List (Nat × Nat)} (h : MdO w base v l) (hh : ∀ g, v.ownBlock = some g → w'.heap[g]? = w.heap[g]?) : MdO w' base v l := owns_same h hh
theorem MdO.keep {w w' : World} {base : Nat} {v : Value} {l : List (Nat × Nat)} (h : MdO w base v l) (hk : Kept w w') : MdO w' base v l := h.same (fun g hg => hk.2.2.2.2 g (h.lt g hg).2)
theorem MdO.nil (w : World) (base : Nat) : MdO w base (.slice none 0 0) [] := World.ownsRow_nil _ _ _ _
theorem MdO.form {w : World} {base : Nat} {v : Value} {l : List (Nat × Nat)} (h : MdO w base v l) : ∃ a c, v = .slice a l.length c := by
  have h2 : w.ownsRow base 52 2 v l.length (flatM l) := h
  rcases h2.2 with ⟨rfl, h0⟩ | ⟨g, cap, cur, rfl, _⟩
  · exact ⟨none, 0, by rw [h0]⟩
  · exact ⟨_, _, rfl⟩
/-- append of one note, at a step of a region that draws its order. -/
theorem step_made {ops : Array Oper} {o : Oper} {a : Act} {K : Act → World → Prop} {Q : Exit → Act → World → Prop} {E : Prop} (hgd : o.guard = none) (s x : Operand) (ho : o.op = .call { callee := .builtin .append, args := #[s, x], argTypes := #[48, 48] }) (W : World)
    (base : Nat) (v : Value) (l : List (Nat × Nat)) (m : Nat) (hm : l.length = m) (hs : a.eval s = v) (hown : MdO W base v l) (lb : Nat) (q : Nat × Nat) (hx : a.eval x = .slice (some ⟨lb, 0, none⟩) 1 1) (hbx : W.heap[lb]? = some (.cells #[.int .i64 (q.1 : Int), .int .i64 (q.2 : Int)] 52 (0, 0))) (hl : m ≤ 8388608) (hbase : base ≤ W.heap.size)
    (h : ∀ g cap w', MdO w' base (.slice (some ⟨g, 0, none⟩) (m + 1) cap) (l ++ [q]) → W.grownBy w' v.ownBlock → (v.ownBlock = some g ∨ g = W.heap.size) → K (a.put o.dst (.slice (some ⟨g, 0, none⟩) (m + 1) cap)) w') :
    if Region.wanted o (yielded ops a.tmps) = true then Oper.wp Tryd.prog o a W K Q else E := by
  obtain ⟨i0, hi, hz0, hz1, hz2⟩ := info_parts made_info
  subst hm
  refine step_append_lies W hgd s x 48 ho base 52 i0 _ 2 16 Tryd.underlying48 hi hz0 hz1 hz2 rfl (by decide) v l.length (flatM l) hs hown ⟨lb, 0, none⟩ 1 1 [.int .i64 (q.1 : Int), .int .i64 (q.2 : Int)] hx rfl ?_ ?_ (by decide) (by unfold maxLen; omega) (by omega) hbase W.heap.size rfl ?_
  · intro j y hj
    have hj2 : j < 2 := (List.getElem?_eq_some_iff.1 hj).1
    match j, hj2 with
    | 0, _ => rw [← hj]; simp [World.cell?, Addr.add, hbx]
    | 1, _ => rw [← hj]; simp [World.cell?, Addr.add, hbx]
  · intro y hy
    simp only [List.mem_cons, List.not_mem_nil, or_false] at hy
    rcases hy with rfl | rfl <;> rfl
  · intro g cap w' h1 h2 h3 _
    refine h g cap w' ?_ h2 h3
    unfold MdO
    rw [flatM_app, List.length_append]
    exact h1

end Ex
end Go.Proofs.YtjomglclefbffaaDoor
namespace Go.Proofs.YtjomglclefbffaaDoor
open Go.RowKit
attribute [local go_sem] Oper.semAt_some
namespace Ex

/-- All that was there stays, but b, lb and the blocks g, h. -/
def Tk2 (b lb : Nat) (g h : Option Nat) (w w' : World) : Prop := w'.os = w.os ∧ w'.tape = w.tape ∧ w'.output = w.output ∧ w.heap.size ≤ w'.heap.size ∧ ∀ d, d < w.heap.size → d ≠ b → d ≠ lb → some d ≠ g → some d ≠ h → w'.heap[d]? = w.heap[d]?
theorem Tk2.refl (b lb : Nat) (g h : Option Nat) (w : World) : Tk2 b lb g h w w := ⟨rfl, rfl, rfl, Nat.le_refl _, fun _ _ _ _ _ _ => rfl⟩
theorem Tk2.of_one {b lb : Nat} {g h : Option Nat} {w w' : World} (k : TkS b g w w') : Tk2 b lb g h w w' := ⟨k.1, k.2.1, k.2.2.1, k.2.2.2.1, fun d hd hb _ hg _ => k.2.2.2.2 d hd hb hg⟩
theorem Tk2.of_kept {b lb : Nat} {g h : Option Nat} {w w' : World} (k : Kept w w') : Tk2 b lb g h w w' := Tk2.of_one (TkS.of_kept k)
theorem Tk2.of_but {b lb : Nat} {g h : Option Nat} {w w' : World} (k : KeptBut b w w') : Tk2 b lb g h w w' := Tk2.of_one (TkS.of_but k)
theorem Tk2.and {b lb : Nat} {g h : Option Nat} {w w1 w2 : World} (h1 : Tk2 b lb g h w w1) (h2 : Tk2 b lb g h w1 w2) : Tk2 b lb g h w w2 :=
  ⟨h2.1.trans h1.1, h2.2.1.trans h1.2.1, h2.2.2.1.trans h1.2.2.1, Nat.le_trans h1.2.2.2.1 h2.2.2.2.1, fun d hd hb hl hg hh => (h2.2.2.2.2 d (Nat.lt_of_lt_of_le hd h1.2.2.2.1) hb hl hg hh).trans (h1.2.2.2.2 d hd hb hl hg hh)⟩
theorem ows_ne {g : Option Nat} {H d : Nat} {v : Value} (h : OwS g H v) (hd : d < H) (hg : some d ≠ g) : some d ≠ v.ownBlock := by
  rcases h with h | h
  · rw [h]; exact hg
  · intro e
    have := h d e.symm
    omega
theorem Tk2.trans {b lb : Nat} {g h : Option Nat} {o v : Value} {w w1 w2 : World} (h1 : Tk2 b lb g h w w1) (ho : OwS g w.heap.size o) (hv : OwS h w.heap.size v) (h2 : Tk2 b lb o.ownBlock v.ownBlock w1 w2) : Tk2 b lb g h w w2 :=
  ⟨h2.1.trans h1.1, h2.2.1.trans h1.2.1, h2.2.2.1.trans h1.2.2.1, Nat.le_trans h1.2.2.2.1 h2.2.2.2.1, fun d hd hb hl hg hh => (h2.2.2.2.2 d (Nat.lt_of_lt_of_le hd h1.2.2.2.1) hb hl (ows_ne ho hd hg) (ows_ne hv hd hh)).trans (h1.2.2.2.2 d hd hb hl hg hh)⟩
/-- A trip under way that notes its names: the variable of the list is lb. -/
def NtS (W0 : World) (b : Nat) (x0 x1 x2 x3 pk : Value) (ps : List ProdM) (lb at_ : Nat) (out : List Int) (st : Nat) (o : Value) (ms : List (Nat × Nat)) (v : Value) (w : World) : Prop :=
  Tp W0 b x0 x1 x2 x3 pk at_ out st o w ∧ (∃ a c, v = .slice a ms.length c) ∧ OneB w lb v 48 ∧ MdO w (lb + 1) v ms ∧ b < lb ∧ some lb ≠ o.ownBlock ∧ (∀ d, v.ownBlock = some d → some d ≠ o.ownBlock) ∧ ms.length ≤ st ∧ ∀ m ∈ ms, ∃ p ∈ ps, p.1 = (m.1 : Int)
/-- What notes answers. -/
def NotR (W0 : World) (b : Nat) (x0 x1 x2 x3 pk : Value) (nl s0 : Nat) (ps : List ProdM) (lb : Nat) (y : SymM) (out : List Int) (st : Nat) (o : Value) (ms : List (Nat × Nat)) (v : Value) (w : World) (e : Ending) (w' : World) : Prop := ∃ (r : Bool) (at_ : Nat) (out' : List Int) (st' : Nat) (o' : Value) (ms' : List (Nat × Nat)) (v' : Value), e = .returned (.bool r) ∧ NtS W0 b x0 x1 x2 x3 pk ps lb at_ out' st' o' ms' v' w' ∧ st ≤ st' ∧ st' ≤ 401 ∧ ms'.length + st ≤ ms.length + st' ∧ (r = true → st' ≤ 400 ∧ ∃ c mc, out' = out ++ c ∧ ms' = ms ++ mc ∧ SymR nl ps y c ∧ NoteR nl s0 ps out.length y c mc) ∧ Tk2 b lb o.ownBlock v.ownBlock w w' ∧ OwS o.ownBlock w.heap.size o' ∧ OwS v.ownBlock w.heap.size v'
/-- The contract of notes, with so many steps left. -/
def NotC (W0 : World) (b : Nat) (x0 x1 x2 x3 pk : Value) (nl s0 : Nat) (ps : List ProdM) (lb N : Nat) : Prop := ∀ (y : SymM) (at_ st : Nat) (out : List Int) (o : Value) (ms : List (Nat × Nat)) (v : Value) (w : World), 401 ≤ st + N → st ≤ 400 → SymIn ps y → NtS W0 b x0 x1 x2 x3 pk ps lb at_ out st o ms v w → Calls Tryd.prog 15 #[.pointer (some ⟨b, 0, none⟩), .agg #[.int .i64 y.1, .int .i64 y.2], .pointer (some ⟨lb, 0, none⟩)] w (NotR W0 b x0 x1 x2 x3 pk nl s0 ps lb y out st o ms v w)
section
variable {W0 : World} {b : Nat} {x0 x1 x2 x3 pk : Value} {ps : List ProdM} {lb at_ : Nat} {out : List Int} {st : Nat} {o : Value} {ms : List (Nat × Nat)} {v : Value} {w : World}
/-- Over a call that changes the trip alone. -/
theorem NtS.trip (h : NtS W0 b x0 x1 x2 x3 pk ps lb at_ out st o ms v w) {at' st' : Nat} {out' : List Int} {o' : Value} {w' : World} (hT : Tp W0 b x0 x1 x2 x3 pk at' out' st' o' w') (hs : st ≤ st') (hk : TkS b o.ownBlock w w') (ho : OwS o.ownBlock w.heap.size o') : NtS W0 b x0 x1 x2 x3 pk ps lb at' out' st' o' ms v w' := by
  obtain ⟨_, h2, h3, h4, h5, h6, h7, h8, h9⟩ := h
  refine ⟨hT, h2, (hk.2.2.2.2 lb h3.lt (by omega) h6).trans h3, h4.same (fun d hd => hk.2.2.2.2 d (h4.lt d hd).2 (by have := (h4.lt d hd).1; omega) (h7 d hd)), h5, ows_ne ho h3.lt h6, fun d hd => ows_ne ho (h4.lt d hd).2 (h7 d hd), by omega, h9⟩
theorem Tp.keep (h : Tp W0 b x0 x1 x2 x3 pk at_ out st o w) {w' : World} (hk : Kept w w') : Tp W0 b x0 x1 x2 x3 pk at_ out st o w' := ⟨h.1, h.2.1.keep hk, h.2.2.1.keep hk, gtrans h.2.2.2.1 hk, h.2.2.2.2⟩
theorem NtS.keep (h : NtS W0 b x0 x1 x2 x3 pk ps lb at_ out st o ms v w) {w' : World} (hk : Kept w w') : NtS W0 b x0 x1 x2 x3 pk ps lb at_ out st o ms v w' := h.trip (h.1.keep hk) (Nat.le_refl _) (TkS.of_kept hk) (.inl rfl)
/-- A name is noted. -/
theorem not_put (hW0 : W0.heap.size = b) (h : NtS W0 b x0 x1 x2 x3 pk ps lb at_ out st o ms v w) {X w9 : World} {g9 c9 n : Nat} {q : Nat × Nat} (hn : ms.length = n) (hl : n + 1 ≤ st) (hq : ∃ p ∈ ps, p.1 = (q.1 : Int)) (hX : Kept w X) (hg : X.grownBy w9 v.ownBlock)
    (hm : MdO w9 (lb + 1) (.slice (some ⟨g9, 0, none⟩) (n + 1) c9) (ms ++ [q])) (hor : v.ownBlock = some g9 ∨ g9 = X.heap.size) :
    OneB w9 lb v 48 ∧ NtS W0 b x0 x1 x2 x3 pk ps lb at_ out st o (ms ++ [q]) (.slice (some ⟨g9, 0, none⟩) (n + 1) c9) (w9.setCell ⟨lb, 0, none⟩ (.slice (some ⟨g9, 0, none⟩) (n + 1) c9)) ∧ Tk2 b lb o.ownBlock v.ownBlock w (w9.setCell ⟨lb, 0, none⟩ (.slice (some ⟨g9, 0, none⟩) (n + 1) c9)) ∧ OwS v.ownBlock w.heap.size (.slice (some ⟨g9, 0, none⟩) (n + 1) c9) := by
  obtain ⟨h1, h2, h3, h4, h5, h6, h7, h8, h9⟩ := h
  obtain ⟨hB, hO, hK⟩ : TpB w b x0 x1 x2 x3 pk at_ o (st : Int) ∧ IntsO w (b + 1) o out ∧ Kept W0 w := ⟨h1.2.1, h1.2.2.1, h1.2.2.2.1⟩
  have nl_ : ∀ d, d ≤ lb → some d ≠ v.ownBlock := fun d hd e => by have := (h4.lt d e.symm).1; omega
  have hgl : lb < g9 := by have := (hm.lt g9 rfl).1; omega
  have go : ∀ d, d < w.heap.size → some d ≠ v.ownBlock → w9.heap[d]? = w.heap[d]? := fun d hd hne => (hg.block d (Nat.lt_of_lt_of_le hd hX.size) hne).trans (hX.2.2.2.2 d hd)
  have hL9 : OneB w9 lb v 48 := (go lb h3.lt (nl_ lb (Nat.le_refl _))).trans h3
  have hlen : (ms ++ [q]).length = n + 1 := by rw [List.length_append, hn]; rfl
  have hw9 : OneB (w9.setCell ⟨lb, 0, none⟩ (.slice (some ⟨g9, 0, none⟩) (n + 1) c9)) lb (.slice (some ⟨g9, 0, none⟩) (n + 1) c9) 48 := by
    unfold OneB at hL9 ⊢
    have hl : lb < w9.heap.size := (Array.getElem?_eq_some_iff.1 hL9).1
    have he : w9.heap[lb] = Obj.cells #[v] 48 (0, 0) := by rw [Array.getElem?_eq_getElem hl] at hL9; exact Option.some.inj hL9
    simp [World.setCell, Array.getElem_modify, hl, he]
  have hOd : ∀ d, o.ownBlock = some d → d ≠ lb ∧ some d ≠ v.ownBlock := fun d hd => ⟨fun e => h6 (by rw [hd, e]), fun e => h7 d e.symm hd.symm⟩
  have hor2 : OwS v.ownBlock w.heap.size (.slice (some ⟨g9, 0, none⟩) (n + 1) c9) := by
    rcases hor with h | h
    · exact .inl h.symm
    · refine .inr (fun d hd => ?_)
      have e : g9 = d := by simpa [Value.ownBlock] using hd
      rw [← e, h]
      exact hX.size
  refine ⟨hL9, ⟨⟨h1.1, ?_, ?_, ?_, h1.2.2.2.2⟩, ⟨_, _, by rw [hlen]⟩, hw9, ?_, h5, h6, ?_, by rw [hlen]; exact hl, ?_⟩, ?_, hor2⟩
  · exact (heap_set_ne (by omega)).trans ((go b hB.lt (nl_ b (by omega))).trans hB)
  · exact owns_same hO (fun d hd => (heap_set_ne (hOd d hd).1).trans (go d (hO.lt d hd).2 (hOd d hd).2))
  · refine ⟨hg.os.trans ((gtrans hK hX).1), hg.tape.trans ((gtrans hK hX).2.1), hg.output.trans ((gtrans hK hX).2.2.1), ?_, fun d hd => ?_⟩
    · have h1 := (gtrans hK hX).size
      have h2 := hg.size
      simp
      omega
    · exact (heap_set_ne (by omega)).trans ((go d (Nat.lt_of_lt_of_le hd hK.size) (nl_ d (by omega))).trans (hK.2.2.2.2 d hd))
  · exact hm.same (fun d hd => heap_set_ne (by have := (hm.lt d hd).1; omega))
  · intro d hd
    have e : g9 = d := by simpa [Value.ownBlock] using hd
    subst e
    rcases hor with h | h
    · exact h7 g9 h
    · intro e
      have := (hO.lt g9 e.symm).2
      have := hX.size
      omega
  · intro m hm2
    rcases List.mem_append.1 hm2 with h | h
    · exact h9 m h
    · rw [List.mem_singleton.1 h]
      exact hq
  · refine ⟨hg.os.trans hX.1, hg.tape.trans hX.2.1, hg.output.trans hX.2.2.1, ?_, fun d hd _ hl _ hh => (heap_set_ne hl).trans (go d hd hh)⟩
    have h1 := hX.size
    have h2 := hg.size
    simp
    omega
end

end Ex
end Go.Proofs.YtjomglclefbffaaDoor
