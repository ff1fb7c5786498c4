import Derived.Test.YthnbmkapmnpkoaaDoorMExWr4
namespace Go.Proofs.YthnbmkapmnpkoaaDoor
open Go.RowKit
attribute [local go_sem] Oper.semAt_some
namespace Ex

theorem box_far {w w' : World} {v : Value} {g : Nat} {x0 x1 x2 x3 x4 x5 : Value} (hg : w.grownBy w' v.ownBlock) (h : w.cell? ⟨g, 0, none⟩ = some x0 ∧ w.cell? ⟨g, 1, none⟩ = some x1 ∧ w.cell? ⟨g, 2, none⟩ = some x2 ∧ w.cell? ⟨g, 3, none⟩ = some x3 ∧ w.cell? ⟨g, 4, none⟩ = some x4 ∧ w.cell? ⟨g, 5, none⟩ = some x5) (hn : some g ≠ v.ownBlock) :
    w'.cell? ⟨g, 0, none⟩ = some x0 ∧ w'.cell? ⟨g, 1, none⟩ = some x1 ∧ w'.cell? ⟨g, 2, none⟩ = some x2 ∧ w'.cell? ⟨g, 3, none⟩ = some x3 ∧ w'.cell? ⟨g, 4, none⟩ = some x4 ∧ w'.cell? ⟨g, 5, none⟩ = some x5 :=
  ⟨hg.cell h.1 hn, hg.cell h.2.1 hn, hg.cell h.2.2.1 hn, hg.cell h.2.2.2.1 hn, hg.cell h.2.2.2.2.1 hn, hg.cell h.2.2.2.2.2 hn⟩
/-- A part, in brackets or not. -/
def partW {n : Nat} (q : PatN (n + 1)) (k : Int) (ys : List Int) : List Int := if bracketP q k then 40 :: (ys ++ [41]) else ys
end Ex
end Go.Proofs.YthnbmkapmnpkoaaDoor
namespace Go.Proofs.YthnbmkapmnpkoaaDoor
open Go.RowKit
attribute [local go_sem] Oper.semAt_some
namespace Ex

def partN : (n : Nat) → PatN n → Int → List Int → List Int
  | 0, _, _, _ => []
  | _ + 1, q, k, ys => partW q k ys
def classN : (n : Nat) → List (PatN n) → List Int
  | 0, _ => [91, 93]
  | _ + 1, L => classW L
/-- A pattern as it is written. -/
def writeW : (n : Nat) → PatN n → List Int
  | 0, _ => []
  | n + 1, p =>
    if kind p = 1 then rangeW p
    else if kind p = 4 then ((kids p).take 1).flatMap (fun q => partN n q 4 (writeW n q)) ++ timesW (min_ p) (max_ p)
    else if isClassP p then classN n (kids p)
    else (kids p).zipIdx.flatMap fun x => (if 0 < x.2 ∧ kind p = 3 then [124] else []) ++ partN n x.1 (kind p) (writeW n x.1)
/-- Bytes that are seen, and repetitions without end that begin below ten. -/
def NiceP : (n : Nat) → PatN n → Prop
  | 0, _ => True
  | n + 1, p => (kind p = 1 → printedP (from_ p) = true ∧ printedP (to_ p) = true) ∧ (kind p = 4 → (kids p).length = 1 ∧ 0 ≤ min_ p ∧ min_ p < 10 ∧ max_ p = -1) ∧ (kind p = 3 → kids p ≠ []) ∧ (kids p).length ≤ 1000000 ∧ ∀ q ∈ kids p, NiceP n q
theorem take_len {α : Type} (f : α → List Int) (L : List α) (j : Nat) : ((L.take j).flatMap f).length ≤ (L.flatMap f).length := by
  have e : L.flatMap f = (L.take j).flatMap f ++ (L.drop j).flatMap f := by rw [← List.flatMap_append, List.take_append_drop]
  rw [e, List.length_append]
  omega

def writeF (n : Nat) (kd : Int) (x : PatN n × Nat) : List Int := (if 0 < x.2 ∧ kd = 3 then [124] else []) ++ partN n x.1 kd (writeW n x.1)
theorem hzi {α : Type} {L : List α} {j : Nat} {q : α} (h : L[j]? = some q) : L.zipIdx[j]? = some (q, j) := by simp [h]
theorem wpl_out_at {ops : Array Oper} {rest : List Oper} {o : Oper} {a : Act} {Q : Exit → Act → World → Prop} (hgd : o.guard = none) (s x : Operand)
    (ho : o.op = .call { callee := .builtin .append, args := #[s, x], argTypes := #[167, 167] }) (lb : Nat) (w W : World) (base : Nat) (v0 v : Value) (cs : List Int) (n : Nat) (hn : cs.length = n) (b : Int) (t : TypeId) (hs : a.eval s = v) (hown : OutAt W base v cs) (hg : w.grownBy W v0.ownBlock) (hw : Own1 w v0 v)
    (hx : a.eval x = .slice (some ⟨lb, 0, none⟩) 1 1) (hlb : W.heap.size = lb) (hl : n ≤ 900000000) (hbase : base ≤ w.heap.size)
    (h : ∀ g cap w' l, l = cs ++ [b] → l.length = n + 1 → OutAt w' base (.slice (some ⟨g, 0, none⟩) (n + 1) cap) l → w.grownBy w' v0.ownBlock → Own1 w v0 (.slice (some ⟨g, 0, none⟩) (n + 1) cap) → wpList Tryd.prog ops Q rest (a.put o.dst (.slice (some ⟨g, 0, none⟩) (n + 1) cap)) w') : wpList Tryd.prog ops Q (o :: rest) a (W.alloc (.cells #[.int .u8 b] t)) := by
  subst hlb
  exact wpl_out_one hgd s x ho w W base v0 v cs n hn b t hs hown hg hw hx hl hbase h
/-- The loop of write. -/
def WriteR (n : Nat) (L : List (PatN n)) (kd : Int) (base : Nat) (w w6 : World) (v : Value) (xs : List Int) (x1 x2 x3 x4 x5 vo i : Value) (wr : World) : Prop :=
  ∃ j : Nat, i = .int .i64 (j : Int) ∧ j ≤ L.length ∧ w6.heap.size ≤ wr.heap.size ∧ OutAt wr base vo (xs ++ (L.zipIdx.take j).flatMap (writeF n kd)) ∧ w.grownBy wr v.ownBlock ∧ Own1 w6 v vo ∧ BoxAt wr w.heap.size (.int .i64 kd) x1 x2 x3 x4 x5
end Ex
end Go.Proofs.YthnbmkapmnpkoaaDoor
