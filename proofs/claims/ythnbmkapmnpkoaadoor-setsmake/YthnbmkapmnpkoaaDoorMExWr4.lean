import Derived.Test.YthnbmkapmnpkoaaDoorMExWr1
namespace Go.Proofs.YthnbmkapmnpkoaaDoor
open Go.RowKit
attribute [local go_sem] Oper.semAt_some
namespace Ex

def kindN : (n : Nat) → PatN n → Int
  | 0, _ => 0
  | _ + 1, p => kind p
def isClassP {n : Nat} (p : PatN (n + 1)) : Bool := kind p == 3 && (kids p).all (fun q => kindN n q == 1)

/-- Is a part put in brackets? -/
def bracketP {n : Nat} (q : PatN (n + 1)) (k : Int) : Bool := if kind q = 3 then !isClassP q else if kind q = 2 then k != 3 || (kids q).length == 0 else false
end Ex
end Go.Proofs.YthnbmkapmnpkoaaDoor
namespace Go.Proofs.YthnbmkapmnpkoaaDoor
open Go.RowKit
attribute [local go_sem] Oper.semAt_some
namespace Ex

theorem kids_single {S : Nat → Prop} {W : World} {n g : Nat} {p : PatN (n + 1)} {u : Value} (h : BoxAt W g (.int .i64 (kind p)) (.int .i64 (from_ p)) (.int .i64 (to_ p)) (.int .i64 (min_ p)) (.int .i64 (max_ p)) u) (hk : KidsAt S W n (kids p) u) (hg : S g) : KidsAt S W (n + 1) [p] (.slice (some ⟨g, 0, none⟩) 1 1) := by
  obtain ⟨⟨c0, c1, c2, c3, c4, c5⟩, _⟩ := h.facts
  refine ⟨_, 1, rfl, Nat.le_refl _, by simp, Or.inr ⟨g, 0, rfl, hg, fun i q hq => ?_⟩⟩
  match i with
  | 0 =>
    rw [List.getElem?_cons_zero, Option.some.injEq] at hq
    subst hq
    exact ⟨u, c0, c1, c2, c3, c4, c5, hk⟩
  | i + 1 => simp at hq
theorem box_two {w : World} {n : Nat} {p : PatN (n + 1)} {fr to : Int} {u : Value} {o : Obj} (hf : from_ p = fr) (ht : to_ p = to) : BoxAt ((w.alloc o).alloc (.cells #[.int .i64 (kind p), .int .i64 fr, .int .i64 to, .int .i64 (min_ p), .int .i64 (max_ p), u] 102)) (w.heap.size + 1) (.int .i64 (kind p)) (.int .i64 (from_ p)) (.int .i64 (to_ p)) (.int .i64 (min_ p)) (.int .i64 (max_ p)) u := by
  subst hf ht
  exact heap_alloc2_new w _ _
def rangeW {n : Nat} (p : PatN (n + 1)) : List Int := if from_ p = to_ p then byteW signsS (from_ p) else if from_ p = 0 ∧ to_ p = 255 then [46] else classW [p]
end Ex
end Go.Proofs.YthnbmkapmnpkoaaDoor
namespace Go.Proofs.YthnbmkapmnpkoaaDoor
open Go.RowKit
attribute [local go_sem] Oper.semAt_some
namespace Ex

def timesW (mn mx : Int) : List Int :=
  if mn = 0 ∧ mx = -1 then [42] else if mn = 1 ∧ mx = -1 then [43] else if mn = 0 ∧ mx = 1 then [63]
  else 123 :: (48 + mn) :: ((if mx = mn then [] else 44 :: (if mx = -1 then [] else [48 + mx])) ++ [125])
/-- One byte more. -/
theorem wpl_out_one {ops : Array Oper} {rest : List Oper} {o : Oper} {a : Act} {Q : Exit → Act → World → Prop} (hgd : o.guard = none) (s x : Operand)
    (ho : o.op = .call { callee := .builtin .append, args := #[s, x], argTypes := #[167, 167] }) (w W : World) (base : Nat) (v0 v : Value) (cs : List Int) (n : Nat) (hn : cs.length = n) (b : Int) (t : TypeId) (hs : a.eval s = v) (hown : OutAt W base v cs) (hg : w.grownBy W v0.ownBlock) (hw : Own1 w v0 v)
    (hx : a.eval x = .slice (some ⟨W.heap.size, 0, none⟩) 1 1) (hl : n ≤ 900000000) (hbase : base ≤ w.heap.size)
    (h : ∀ g cap w' l, l = cs ++ [b] → l.length = n + 1 → OutAt w' base (.slice (some ⟨g, 0, none⟩) (n + 1) cap) l → w.grownBy w' v0.ownBlock → Own1 w v0 (.slice (some ⟨g, 0, none⟩) (n + 1) cap) → wpList Tryd.prog ops Q rest (a.put o.dst (.slice (some ⟨g, 0, none⟩) (n + 1) cap)) w') : wpList Tryd.prog ops Q (o :: rest) a (W.alloc (.cells #[.int .u8 b] t)) := by
  refine wpl_out_bytes hgd s x ho _ base v cs n hn hs (hown.keep ((Kept.refl _).alloc _ _)) W.heap.size [b] 1 rfl hx (one_lit _ _ _) (by decide) (by omega) (by have := hg.size; simp; omega) ?_
  intro g cap w' h1 h2 h3
  exact h g cap w' _ rfl (by rw [List.length_append, hn]; rfl) h1 (grown_trans hg hw (grown_pre ((Kept.refl _).alloc _ _) h2)) (hw.trans (h3.pre ((Kept.refl W).alloc _ _).size) hg.size)

end Ex
end Go.Proofs.YthnbmkapmnpkoaaDoor
