import Derived.Test.YtooelfjceehmmaaDoorMSpLd2
import Derived.Test.YtooelfjceehmmaaDoorMSpDc
import Derived.Test.YtooelfjceehmmaaDoorMSpQf
import Derived.Test.YtooelfjceehmmaaDoorMSpYz
import Derived.Test.YtooelfjceehmmaaDoorMSpHc
import Derived.Deep.QuietTactic
import Derived.BigQuiet
import Derived.Test.YtooelfjceehmmaaDoorMSpLs
import Derived.Test.YtooelfjceehmmaaDoorMSpHa
import Derived.Test.YtooelfjceehmmaaDoorMSpLd1
import Derived.Test.YtooelfjceehmmaaDoorMSpYt
import Derived.OwnWalk
import Derived.Deep.RegionHeld3
import Derived.Test.YtooelfjceehmmaaDoorMShM
import Derived.Test.YtooelfjceehmmaaDoorMSpSp
namespace Go.Proofs.YtooelfjceehmmaaDoor
open Go.RowKit
attribute [local go_sem] Oper.semAt_some
namespace Ex

section
variable {k : Nat} {lex : List (LexM k)} {ps : List ProdM} {nn nl : Nat} {st xe xa : Int} {e : Ending} {w w' : World}
end
theorem lex_sizes {k : Nat} {w : World} {v : Value} {lex : List (LexM k)} (h : LexAt w k v lex) : ∀ l ∈ lex, l.1.size ≤ 200000000000000 := by
  obtain ⟨a, cap, h1, h2, h3, h4⟩ := h
  intro l hl
  rcases h4 with h4 | ⟨c, o, h5, h6, h7⟩
  · subst h4; cases hl
  · obtain ⟨i, hi⟩ := List.getElem?_of_mem hl
    obtain ⟨cs, g1, g2, v2, g3, g4, g5⟩ := h7 i l hi
    exact g4
theorem fl_new (w : World) (xe xa : Int) : FlBox (w.alloc (.cells #[.int .i64 xe, .int .i64 xa, .string ⟨#[]⟩] 44)) w.heap.size xe xa ∧ Kept w (w.alloc (.cells #[.int .i64 xe, .int .i64 xa, .string ⟨#[]⟩] 44)) := ⟨heap_alloc_new w _, (Kept.refl w).alloc _ _⟩

end Ex
end Go.Proofs.YtooelfjceehmmaaDoor
namespace Go.Proofs.YtooelfjceehmmaaDoor
open Go.RowKit
attribute [local go_sem] Oper.semAt_some
namespace Ex

theorem intsO_low {w : World} {base b : Nat} {v : Value} {l : List Int} (h : IntsO w base v l) (hb : b ≤ base) : IntsO w b v l := by
  have h2 : w.ownsRow base 3 1 v l.length (flatS l) := h
  refine ⟨h2.1, ?_⟩
  rcases h2.2 with ⟨e, h0⟩ | ⟨g, cap, cur, e, hg0, rest⟩
  · exact .inl ⟨e, h0⟩
  · exact .inr ⟨g, cap, cur, e, Nat.le_trans hb hg0, rest⟩
theorem restQ_zero2 {k : Nat} {lex : List (LexM k)} {ps : List ProdM} {nn nl : Nat} {st : Int} : ∀ (m j : Nat) (x : Int × Int), restQ lex ps nn nl st m j x → x.1 = 0 → x = (0, 0)
  | 0, _, _, h, _ => h
  | m + 1, j, x, ⟨a, _, h⟩, hx => by
    rcases h with ⟨hn, rfl⟩ | ⟨_, h⟩
    · exact absurd hx hn
    · exact restQ_zero2 m (j + 1) x h hx
theorem checkQ_zero2 {k : Nat} {lex : List (LexM k)} {ps : List ProdM} {nn nl : Nat} {st : Int} {x : Int × Int} (h : CheckQ lex ps nn nl st x) (hx : x.1 = 0) : x = (0, 0) := restQ_zero2 5 0 x h hx
/-- What is known of a spec in order. -/
theorem check_facts {k : Nat} {lex : List (LexM k)} {ps : List ProdM} {nn nl : Nat} {st : Int} (hlex : lex.length = nl) (hq : CheckQ lex ps nn nl st (0, 0)) : (nl ≤ 64 ∧ nn ≤ 128 ∧ 0 < nn) ∧ ∀ p ∈ ps, (0 ≤ p.1 ∧ p.1 < (nn : Int)) ∧ ∀ x ∈ p.2, symErr lex nn x = 0 := by
  obtain ⟨a, h0, h1⟩ := hq
  rcases h1 with ⟨hn, e⟩ | ⟨z0, h1⟩
  · rw [← e] at hn; exact absurd rfl hn
  have p1 := (passed_zero lex ps nn nl st).next (by omega) h0 z0
  obtain ⟨a2, h2, h3⟩ := h1
  rcases h3 with ⟨hn, e⟩ | ⟨z1, _⟩
  · rw [← e] at hn; exact absurd rfl hn
  have p2 := p1.next (by omega) h2 z1
  obtain ⟨h1, _, _⟩ := p2.facts hlex (Nat.le_refl _)
  exact ⟨⟨h1.1, h1.2.1, by omega⟩, p2.exact hlex (Nat.le_refl _)⟩
end Ex
end Go.Proofs.YtooelfjceehmmaaDoor
namespace Go.Proofs.YtooelfjceehmmaaDoor
open Go.RowKit
namespace Ex
open Sh

def encSy (s : SymM) : List Value := [.int .i64 s.1, .int .i64 s.2]
theorem encSy_one (s : SymM) : ∀ u ∈ encSy s, u.oneCell' = true := fun u hu => by
  unfold encSy at hu
  simp only [List.mem_cons, List.not_mem_nil, or_false] at hu
  rcases hu with rfl | rfl <;> rfl
/-- Lists of symbols, lists of numbers, as kinds of lists. -/
def syE : ElK SymM := { T := 58, TT := 38, sz := 2, by_ := 16, z := .agg #[.int .i64 0, .int .i64 0], enc := encSy, pos := by decide, info := by kernel_rfl, zs := rfl, und := Tryd.underlying38, len := fun _ => rfl, one := encSy_one }
def encIn (y : Int) : List Value := [.int .i64 y]
theorem encIn_one (y : Int) : ∀ u ∈ encIn y, u.oneCell' = true := fun u hu => by
  unfold encIn at hu
  simp only [List.mem_cons, List.not_mem_nil, or_false] at hu
  subst hu
  rfl
def inE : ElK Int := { T := 3, TT := 41, sz := 1, by_ := 8, z := .int .i64 0, enc := encIn, pos := by decide, info := by kernel_rfl, zs := rfl, und := Tryd.underlying41, len := fun _ => rfl, one := encIn_one }
theorem grown_belowH {w0 w w' : World} {base : Nat} {row : Option Nat} (h : Below base w0 w) (hg : w.grownBy w' row) (hr : ∀ g, row = some g → base ≤ g) (hb : base ≤ w.heap.size) : Below base w0 w' :=
  h.trans ⟨hg.os, hg.tape, hg.output, hg.size, fun k hk => hg.block k (by omega) (fun e => by have := hr k e.symm; omega)⟩
section
variable {α : Type} {E : ElK α} {w w' : World}
theorem kept_loH {w0 : World} {v : Value} {l : List α} (h : Kept w0 w) (hl : LO E w w0.heap.size v l) (hg : w.grownBy w' v.ownBlock) : Kept w0 w' :=
  Kept.of (grown_belowH h.below hg (fun g hg => (hl.lt' g hg).1) h.size)
theorem flat_atH : ∀ (l : List α) (j : Nat) (u : Value), (flatE E l)[j]? = some u → ∃ x, l[j / E.sz]? = some x ∧ (E.enc x)[j % E.sz]? = some u
  | [], j, u, h => by simp [flatE] at h
  | x :: l, j, u, h => by
    have e : flatE E (x :: l) = E.enc x ++ flatE E l := by unfold flatE; simp
    rw [e] at h
    have hp := E.pos
    have hl := E.len x
    by_cases hj : j < E.sz
    · rw [List.getElem?_append_left (by rw [hl]; exact hj)] at h
      exact ⟨x, by rw [Nat.div_eq_of_lt hj]; rfl, by rw [Nat.mod_eq_of_lt hj]; exact h⟩
    · rw [List.getElem?_append_right (by rw [hl]; omega), hl] at h
      obtain ⟨y, h1, h2⟩ := flat_atH l (j - E.sz) u h
      have hd : j / E.sz = (j - E.sz) / E.sz + 1 := by rw [← Nat.add_div_right _ hp]; congr 1; omega
      have hm : j % E.sz = (j - E.sz) % E.sz := by rw [← Nat.add_mod_right (j - E.sz)]; congr 1; omega
      exact ⟨y, by rw [hd, List.getElem?_cons_succ]; exact h1, by rw [hm]; exact h2⟩
/-- A list to be read, as a source of an append. -/
theorem src_sl {a : Option Addr} {n c : Nat} {xs : List α} (h : SliceOf w E.sz (fun cs x => cs = E.enc x) (.slice a n c) xs) : Src E w a xs := by
  obtain ⟨a', cap, e, h2, h3, h4⟩ := h
  injection e with e1 e2 e3
  subst e1
  rcases h4 with h4 | ⟨g, o, rfl, _, h7⟩
  · exact .inl h4
  · refine .inr ⟨g, o, rfl, fun j u hj => ?_⟩
    obtain ⟨x, h5, h6⟩ := flat_atH xs j u hj
    obtain ⟨cs, g1, g2, g3⟩ := h7 _ x h5
    subst g3
    have := g2 _ u h6
    rw [Nat.add_assoc, Nat.mul_comm, Nat.div_add_mod] at this
    exact this
/-- The front of a list of the call's own, to be read. -/
theorem lo_sl {base g n c k : Nat} {l m : List α} (h : LO E w base (.slice (some ⟨g, 0, none⟩) n c) (l ++ m)) (hk : l.length = k) (h44 : k ≤ 17592186044416) : SliceOf w E.sz (fun cs x => cs = E.enc x) (.slice (some ⟨g, 0, none⟩) k c) l := by
  subst hk
  have hc : l.length ≤ c := by
    rcases h.2 with ⟨h0, _⟩ | ⟨g', cap', cur, he, _, _, hc, _, _, _⟩
    · cases h0
    · injection he with _ e2 e3
      rw [← e3] at hc
      rw [List.length_append] at hc
      omega
  refine ⟨some ⟨g, 0, none⟩, c, rfl, hc, h44, .inr ⟨g, 0, rfl, (h.lt' g rfl).2, fun i x hx => ⟨E.enc x, E.len x, fun j u hu => ?_, rfl⟩⟩⟩
  rw [Nat.zero_add]
  exact h.cell (by rw [List.getElem?_append_left (List.getElem?_eq_some_iff.1 hx).1]; exact hx) hu
/-- x[:k]. -/
theorem cut_run (E : ElK α) {a : Option Addr} (n : Nat) {c k : Nat} (ha : a = none ∨ ∃ g o, a = some ⟨g, o, none⟩) (hk : k ≤ c) (w' : World) : (Instr.sliceAt E.TT (.slice a n c) none (some (.int .i64 (k : Int))) none).run Tryd.prog w' = .ok (.slice a k c) w' := by
  obtain ⟨i0, hi, hz0, hz1, hz2⟩ := info_parts E.info
  have hsz : (sizeOf E.T).run Tryd.prog w' = .ok E.sz w' := by
    rw [run_sizeOf w' hi]
    simp [Program.cellsOf, hi, hz1]
  have he : Tryd.prog.elem E.TT = E.T := by
    have hu := E.und
    unfold Program.elem
    rw [hu]
  have ht : Tryd.prog.underlying E.TT = some (.slice (Tryd.prog.elem E.TT)) := by rw [he]; exact E.und
  rw [run_sliceAt_slice (P := Tryd.prog) (h := ht), run_slice_h (P := Tryd.prog) (ht := ht) (h0 := by omega) (h2 := by omega), he, hsz]
  rcases ha with rfl | ⟨g, o, rfl⟩
  · simp [Result.andThen, sliced]
  · simp [Result.andThen, sliced, Addr.add_mid]
theorem ne_own {α β : Type} {E : ElK α} {F : ElK β} {w : World} {b1 b2 : Nat} {v1 v2 : Value} {l1 : List α} {l2 : List β} (h1 : LO E w b1 v1 l1) (h2 : LO F w b2 v2 l2) (hT : E.T ≠ F.T) {d : Nat} (h3 : v1.ownBlock = some d) : v2.ownBlock ≠ some d := by
  rcases h1.2 with ⟨rfl, _⟩ | ⟨g1, c1, cur1, rfl, _, hg1, _⟩
  · cases h3
  · rcases h2.2 with ⟨rfl, _⟩ | ⟨g2, c2, cur2, rfl, _, hg2, _⟩
    · intro h; cases h
    · intro h4
      injection h3 with h3
      injection h4 with h4
      have h3 : g1 = d := h3
      have h4 : g2 = d := h4
      subst h3
      subst h4
      rw [hg1] at hg2
      injection hg2 with hg2
      injection hg2 with _ hg2
      exact hT hg2
end
theorem lo_othH {α β : Type} {E : ElK α} {F : ElK β} {w w' : World} {b1 b2 : Nat} {v1 v2 : Value} {l1 : List α} {l2 : List β} (h1 : LO E w b1 v1 l1) (h2 : LO F w b2 v2 l2) (hT : E.T ≠ F.T) (hg : w.grownBy w' v2.ownBlock) : LO E w' b1 v1 l1 :=
  h1.same (fun d hd => hg.block d (h1.lt' d hd).2 (fun e => ne_own h1 h2 hT hd e.symm))

theorem termH_sym {k : Nat} {lex : List (LexM k)} {nn nl : Nat} {x : SymM} (hlex : lex.length = nl) (h : symErr lex nn x = 0) (h3 : x.1 ≠ 3) : TermOk lex nl ((termN nl x : Nat) : Int) := by
  rcases sym_ok hlex h with e | e | e
  · have e2 : termN nl x = x.2.toNat := by unfold termN; rw [if_neg (by omega)]
    rw [e2]
    refine ⟨by omega, by omega, fun ⟨_, ht⟩ => ?_⟩
    have ht : (lex[((x.2.toNat : Nat) : Int).toNat]?.map (·.2.1)).getD false = true := ht
    rw [Int.toNat_natCast] at ht
    unfold symErr at h
    rw [hlex, if_pos e, if_pos ht] at h
    exact absurd h (by decide)
  · have e2 : termN nl x = nl := by unfold termN; rw [if_pos e]
    rw [e2]
    exact ⟨by omega, by omega, fun ⟨h, _⟩ => by omega⟩
  · exact absurd e.1 h3
theorem termH_heads {k : Nat} {lex : List (LexM k)} {nn nl : Nat} {E : Nat → Prop} {F : Nat × Nat → Prop} {nx : Nat → Prop} (hlex : lex.length = nl) (hF : ∀ x, F x → TermOk lex nl (x.2 : Int)) (hn : ∀ t, nx t → TermOk lex nl (t : Int)) : ∀ {row : List SymM} {t : Nat}, (∀ x ∈ row, symErr lex nn x = 0) → HeadS nl E F nx row t → TermOk lex nl (t : Int)
  | [], _, _, h => hn _ h
  | _ :: _, _, _, .inl ⟨_, .inl h⟩ => hF _ h
  | _ :: _, _, hs, .inl ⟨_, .inr ⟨_, h⟩⟩ => termH_heads hlex hF hn (fun y hy => hs y (List.mem_cons_of_mem _ hy)) h
  | x :: _, _, hs, .inr ⟨h3, h⟩ => by
    rw [h]
    exact termH_sym hlex (hs x List.mem_cons_self) h3
theorem termH_first {k : Nat} {lex : List (LexM k)} {ps : List ProdM} {nn nl : Nat} (hlex : lex.length = nl) (hs : ∀ p ∈ ps, ∀ x ∈ p.2, symErr lex nn x = 0) {x : Nat × Nat} (h : Fi nl (Mk false ps) ps x) : TermOk lex nl (x.2 : Int) :=
  h (fun x => TermOk lex nl (x.2 : Int)) ⟨fun _ h => h.elim, fun _ _ _ ⟨p, hp, _, hh⟩ => termH_heads hlex (fun _ h => h) (fun _ h => h.elim) (hs p (List.mem_of_getElem? hp)) hh⟩
/-- What Heads answers: a fault or none, and the list. -/
def HdB {k : Nat} (lex : List (LexM k)) (ps : List ProdM) (nn nl : Nat) (row : List SymM) (next : List Int) (x : Int × Int) (l : List Int) : Prop :=
  ((rowQ lex nn row).1 ≠ 0 ∧ x = rowQ lex nn row ∧ l = []) ∨
  ((rowQ lex nn row).1 = 0 ∧ ∃ (i : Nat) (z : Int), next[i]? = some z ∧ ¬ TermOk lex nl z ∧ (∀ x ∈ next.take i, TermOk lex nl x) ∧ x = (74, (i : Int)) ∧ l = []) ∨
  ((rowQ lex nn row).1 = 0 ∧ (∀ z ∈ next, TermOk lex nl z) ∧ x = (0, 0) ∧ ∃ A : Nat, (∀ t, A.testBit t = true ↔ HeadS nl (Mk false ps) (Fi nl (Mk false ps) ps) (fun t => (bitsL next).testBit t = true) row t) ∧ l = bitsTo A (nl + 2) ∧ nl ≤ 64)
def HdA {k : Nat} (lex : List (LexM k)) (ps : List ProdM) (nn nl : Nat) (st : Int) (row : List SymM) (next : List Int) (x : Int × Int) (l : List Int) : Prop := ∃ y : Int × Int, CheckQ lex ps nn nl st y ∧ ((y.1 ≠ 0 ∧ x = y ∧ l = []) ∨ (y.1 = 0 ∧ HdB lex ps nn nl row next x l))
section
variable {k : Nat} {lex : List (LexM k)} {ps : List ProdM} {nn nl : Nat} {st : Int} {row : List SymM} {next : List Int} {x x' : Int × Int} {l l' : List Int}
theorem HdB.one (h : HdB lex ps nn nl row next x l) (h' : HdB lex ps nn nl row next x' l') : x = x' ∧ l = l' := by
  rcases h with ⟨a1, a2, a3⟩ | ⟨a1, i, z, a2, a3, a4, a5, a6⟩ | ⟨a1, a2, a3, A, a4, a5, _⟩
  · rcases h' with ⟨_, b2, b3⟩ | ⟨b1, _⟩ | ⟨b1, _⟩
    · exact ⟨a2.trans b2.symm, a3.trans b3.symm⟩
    · exact absurd b1 a1
    · exact absurd b1 a1
  · rcases h' with ⟨b1, _⟩ | ⟨_, i', z', b2, b3, b4, b5, b6⟩ | ⟨_, b2, _⟩
    · exact absurd a1 b1
    · have ei : i = i' := by
        rcases Nat.lt_trichotomy i i' with h | h | h
        · exact absurd (b4 z (List.mem_of_getElem? (i := i) (by rw [List.getElem?_take, if_pos h]; exact a2))) a3
        · exact h
        · exact absurd (a4 z' (List.mem_of_getElem? (i := i') (by rw [List.getElem?_take, if_pos h]; exact b2))) b3
      subst ei
      exact ⟨a5.trans b5.symm, a6.trans b6.symm⟩
    · exact absurd (b2 z (List.mem_of_getElem? a2)) a3
  · rcases h' with ⟨b1, _⟩ | ⟨_, i', z', b2, b3, _⟩ | ⟨_, _, b3, B, b4, b5, _⟩
    · exact absurd a1 b1
    · exact absurd (a2 z' (List.mem_of_getElem? b2)) b3
    · have e : A = B := Nat.eq_of_testBit_eq fun t => by
        have := (a4 t).trans (b4 t).symm
        rw [Bool.eq_iff_iff]
        exact this
      subst e
      exact ⟨a3.trans b3.symm, a5.trans b5.symm⟩
theorem HdA.one (h : HdA lex ps nn nl st row next x l) (h' : HdA lex ps nn nl st row next x' l') : x = x' ∧ l = l' := by
  obtain ⟨y, h1, h2⟩ := h
  obtain ⟨y', h1', h2'⟩ := h'
  have e := checkQ_one h1 h1'
  subst e
  rcases h2 with ⟨a1, a2, a3⟩ | ⟨a1, h2⟩
  · rcases h2' with ⟨_, b2, b3⟩ | ⟨b1, _⟩
    · exact ⟨a2.trans b2.symm, a3.trans b3.symm⟩
    · exact absurd b1 a1
  · rcases h2' with ⟨b1, _⟩ | ⟨_, h2'⟩
    · exact absurd a1 b1
    · exact h2.one h2'
theorem HdA.len (h : HdA lex ps nn nl st row next x l) : l.length ≤ 66 ∧ (x.1 = 0 → x.2 = 0) := by
  obtain ⟨y, _, h2⟩ := h
  rcases h2 with ⟨a1, rfl, rfl⟩ | ⟨_, h2⟩
  · exact ⟨Nat.zero_le _, fun h => absurd h a1⟩
  · rcases h2 with ⟨a1, rfl, rfl⟩ | ⟨_, i, z, _, _, _, rfl, rfl⟩ | ⟨_, _, rfl, A, _, rfl, h64⟩
    · exact ⟨Nat.zero_le _, fun h => absurd h a1⟩
    · exact ⟨Nat.zero_le _, fun h => absurd (show (74 : Int) = 0 from h) (by decide)⟩
    · exact ⟨Nat.le_trans (bitsTo_len _ _) (by omega), fun _ => rfl⟩
end
/-- The bits of the heads, as a set. -/
theorem bits_heads {nl E X : Nat} {F : Nat → Nat} {ps : List ProdM} {row : List SymM} (h1 : ∀ n, E.testBit n = true ↔ Mk false ps n) (h3 : ∀ x, famS F x ↔ Fi nl (Mk false ps) ps x) (t : Nat) : (headsM nl E F X row 0).testBit t = true ↔ HeadS nl (Mk false ps) (Fi nl (Mk false ps) ps) (fun t => X.testBit t = true) row t := by
  have e1 : (fun n => E.testBit n = true) = Mk false ps := funext fun n => propext (h1 n)
  have e2 : famS F = Fi nl (Mk false ps) ps := funext fun x => propext (h3 x)
  rw [heads_bit, e1, e2]
  exact ⟨fun h => h.elim (fun h => by simp at h) id, .inr⟩
/-- What the program's Heads answers, what the document's. -/
theorem prog_ans {k : Nat} {lex : List (LexM k)} {ps : List ProdM} {nn nl : Nat} {st : Int} {row : List SymM} {next : List Int} {w w' : World} {e : Ending} (hlex : lex.length = nl) (h : HeadsR lex ps nn nl st row next w e w') : ∃ (v : Value) (x : Int × Int) (l : List Int), e = .returned (.tuple #[v, .agg #[.int .i64 x.1, .int .i64 x.2, .string ⟨#[]⟩]]) ∧ HdA lex ps nn nl st row next x l ∧ IntsO w' w.heap.size v l ∧ Kept w w' := by
  obtain ⟨x, hx, hk, h⟩ := h
  rcases h with ⟨h0, rfl⟩ | ⟨h0, h⟩
  · exact ⟨_, x, [], rfl, ⟨x, hx, .inl ⟨h0, rfl, rfl⟩⟩, World.ownsRow_nil _ _ _ _, hk⟩
  · rcases h with ⟨h1, rfl⟩ | ⟨h1, i, z, h2, h3, h4, rfl⟩ | ⟨h1, h2, v, E, F, rfl, h3, h4, h5, h6⟩
    · exact ⟨_, _, [], rfl, ⟨x, hx, .inr ⟨h0, .inl ⟨h1, rfl, rfl⟩⟩⟩, World.ownsRow_nil _ _ _ _, hk⟩
    · exact ⟨_, _, [], rfl, ⟨x, hx, .inr ⟨h0, .inr (.inl ⟨h1, i, z, h2, h3, h4, rfl, rfl⟩)⟩⟩, World.ownsRow_nil _ _ _ _, hk⟩
    · have hq : CheckQ lex ps nn nl st (0, 0) := by rw [checkQ_zero2 hx h0] at hx; exact hx
      obtain ⟨⟨hnl, _, _⟩, hs⟩ := check_facts hlex hq
      have hb : bitsTo (headsM nl E F (bitsL next) row 0) 128 = bitsTo (headsM nl E F (bitsL next) row 0) (nl + 2) := by
        obtain ⟨m, hm⟩ : ∃ m, 128 = nl + 2 + m := ⟨128 - (nl + 2), by omega⟩
        rw [hm]
        refine bitsTo_none _ (nl + 2) m (fun i hi _ => ?_)
        cases hb : (headsM nl E F (bitsL next) row 0).testBit i with
        | false => rfl
        | true =>
          have h7 := (bits_heads h3 h5 i).1 hb
          have h8 := termH_heads hlex (fun x hx => termH_first hlex (fun p hp => (hs p hp).2) hx) (fun t ht => h2 _ ((bitsL_bit next (fun z hz => (h2 z hz).1) t).1 ht)) (row_oks h1).2 h7
          have := h8.2.1
          omega
      rw [hb] at h6
      exact ⟨v, (0, 0), _, rfl, ⟨x, hx, .inr ⟨h0, .inr (.inr ⟨h1, h2, rfl, _, bits_heads h3 h5, rfl, hnl⟩)⟩⟩, h6, hk⟩
end Ex
end Go.Proofs.YtooelfjceehmmaaDoor
