import Derived.Test.YteckbpmliahhhaaMTrH6
namespace Go.Proofs.Yteckbpmliahhhaa
open Go.RowKit
attribute [local go_sem] Oper.semAt_some
namespace Ex
namespace Tr

/-- A step of a script. -/
structure StepM where
  st : Int
  isl : Bool
  l0 : Int
  l1 : Int
  l2 : Int
  l3 : Int
  kd : Int
  nn : Int
  kids : List Int
def stepC (x : StepM) (kv : Value) : List Value := [.int .i64 x.st, .bool x.isl, .int .i64 x.l0, .int .i64 x.l1, .int .i64 x.l2, .int .i64 x.l3, .int .i64 x.kd, .int .i64 x.nn, kv]
/-- A script that came in, below A. -/
def ScriptA (A : Nat) (w : World) (v : Value) (l : List StepM) : Prop := ∃ a cap, v = .slice a l.length cap ∧ l.length ≤ cap ∧ l.length ≤ 1048576 ∧ (l = [] ∨ ∃ c o, a = some ⟨c, o, none⟩ ∧ c < A ∧ ∀ (i : Nat) (x : StepM), l[i]? = some x → ∃ kv, IntsA A w kv x.kids ∧ ∀ (j : Nat) (u : Value), (stepC x kv)[j]? = some u → w.cell? ⟨c, o + i * 9 + j, none⟩ = some u)
theorem ScriptA.ka {A : Nat} {w w' : World} {v : Value} {l : List StepM} (h : ScriptA A w v l) (hk : KA A w w') : ScriptA A w' v l := by
  obtain ⟨a, cap, h1, h2, h3, h4⟩ := h
  refine ⟨a, cap, h1, h2, h3, ?_⟩
  rcases h4 with h4 | ⟨c, o, h5, h6, h7⟩
  · exact Or.inl h4
  · refine Or.inr ⟨c, o, h5, h6, fun i x hx => ?_⟩
    obtain ⟨kv, h8, h9⟩ := h7 i x hx
    exact ⟨kv, h8.ka hk, fun j u hu => (World.cell?_of_block (w := w) (a := ⟨c, o + i * 9 + j, none⟩) (hk.2.2.2.2 c h6)).trans (h9 j u hu)⟩
end Tr
end Ex
end Go.Proofs.Yteckbpmliahhhaa
