import Derived.Test.YthnbmkapmnpkoaaDoorMExRd6
import Derived.Deep.DeepMust
import Derived.OwnWalk
namespace Go.Proofs.YthnbmkapmnpkoaaDoor
open Go.RowKit
attribute [local go_sem] Oper.semAt_some
namespace Ex

/-- One pattern by itself, or a list of that kind. -/
def oneOf (k : Int) : List Pat → Pat
  | [p] => p
  | l => mkP k 0 0 0 0 l
/-- The members of a class behind the first one. -/
def classG (T : ByteArray) (y : Int) : Nat → List Pat → Int × Int × Int → List Pat × Int × Int × Int
  | 0, l, s => (l, s)
  | m + 1, l, s => if s.2.1 = 0 then (if peekP T s.1 = 93 then (l, s.1 + 1, s.2) else classG T y m (l ++ [(memberS T s y).1]) (memberS T s y).2) else (l, s)
def classL (T : ByteArray) (s : Int × Int × Int) : List Pat × Int × Int × Int := classG T s.1 4098 [(memberS T (s.1 + 1, s.2) s.1).1] (memberS T (s.1 + 1, s.2) s.1).2
def classS (T : ByteArray) (s : Int × Int × Int) : Pat × Int × Int × Int := (oneOf 3 (classL T s).1, (classL T s).2)

theorem failE_ne {e x : Int} (hx : x ≠ 0) : failE e x ≠ 0 := by unfold failE; split <;> assumption
theorem wrongC_ne (T : ByteArray) (k : Int) : wrongC T k ≠ 0 := by unfold wrongC; split <;> decide
theorem one_go {T : ByteArray} {s : Int × Int × Int} : s.1 < (oneS T s).2.1 ∨ (oneS T s).2.2.1 ≠ 0 := by
  unfold oneS
  split
  · left; show s.1 < s.1 + 1; omega
  · right; exact failE_ne (wrongC_ne _ _)
theorem one_err {T : ByteArray} {s : Int × Int × Int} (h : s.2.1 ≠ 0) : (oneS T s).2.2.1 ≠ 0 := by
  unfold oneS
  split
  · exact h
  · exact failE_ne (wrongC_ne _ _)
theorem memberE_ok {T : ByteArray} {s : Int × Int × Int} (h : OkS T s) : OkS T (memberE T s).2 ∧ s.1 ≤ (memberE T s).2.1 ∧ (s.1 < (memberE T s).2.1 ∨ (memberE T s).2.2.1 ≠ 0) := by
  have h1 := one_ok h
  have h2 := one_go (T := T) (s := s)
  unfold memberE
  split
  · rename_i hc
    have h3 := one_ok (take_ok (T := T) (s := (oneS T s).2) (c := 45) (by decide) hc)
    have h4 := h1.2
    have h5 := h3.2
    dsimp only at h5
    exact ⟨h3.1, by omega, Or.inl (by omega)⟩
  · exact ⟨h1.1, h1.2, h2⟩
theorem member_ok {T : ByteArray} {s : Int × Int × Int} {y : Int} (h : OkS T s) : OkS T (memberS T s y).2 ∧ s.1 ≤ (memberS T s y).2.1 ∧ (s.1 < (memberS T s y).2.1 ∨ (memberS T s y).2.2.1 ≠ 0) := by
  have h1 := memberE_ok h
  have e : (memberS T s y).2 = if (memberE T s).1 < (oneS T s).1 then failS T (memberE T s).2 22 y else (memberE T s).2 := rfl
  rw [e]
  split
  · exact ⟨fail_ok _ _ _ _, h.2, Or.inr (failE_ne (by decide))⟩
  · exact h1

theorem rangeP_inj {a b x y : Int} (h : rangeP a b = rangeP x y) : a = x ∧ b = y := ⟨congrArg (fun p : Pat => from_ p.2) h, congrArg (fun p : Pat => to_ p.2) h⟩
theorem box_moved {b o : Nat} {w w' : World} {v : Value} (h : KeptBut b ((w.setCell ⟨b, o, none⟩ v).alloc (.cells #[.int .i64 0, .int .i64 0, .int .i64 0, .int .i64 0, .int .i64 0, .slice none 0 0] 102)) w') (hb : b < w.heap.size) : BoxAt w' w.heap.size (.int .i64 0) (.int .i64 0) (.int .i64 0) (.int .i64 0) (.int .i64 0) (.slice none 0 0) := by
  have e : (w.setCell ⟨b, o, none⟩ v).heap.size = w.heap.size := by simp [World.setCell]
  have := box_kept h (by rw [e]; exact hb)
  rw [e] at this
  exact this

theorem PatsOwn.nonnil {base n cap : Nat} {w : World} {S : Nat → Prop} {a : Option Addr} {q : Pat} {l : List Pat} (h : PatsOwn w base S (.slice a n cap) (q :: l)) : ∃ g, a = some ⟨g, 0, none⟩ ∧ 1 ≤ cap := by
  obtain ⟨g, c, u, e, hc, _⟩ := h.first
  simp only [Value.slice.injEq] at e
  exact ⟨g, e.1, by omega⟩
theorem PatsOwn.one_facts {base n cap g : Nat} {w : World} {S : Nat → Prop} {q : Pat} {l : List Pat} (h : PatsOwn w base S (.slice (some ⟨g, 0, none⟩) n cap) (q :: l)) : ∃ u, (w.cell? ⟨g, 0, none⟩ = some (.int .i64 (kind q.2)) ∧ w.cell? ⟨g, 1, none⟩ = some (.int .i64 (from_ q.2)) ∧ w.cell? ⟨g, 2, none⟩ = some (.int .i64 (to_ q.2)) ∧ w.cell? ⟨g, 3, none⟩ = some (.int .i64 (min_ q.2)) ∧ w.cell? ⟨g, 4, none⟩ = some (.int .i64 (max_ q.2)) ∧ w.cell? ⟨g, 5, none⟩ = some u) ∧ KidsAt S w q.1 (Ex.kids q.2) u := by
  obtain ⟨g', c, u, e, _, hc, hk⟩ := h.first
  simp only [Value.slice.injEq, Option.some.injEq, Addr.mk.injEq] at e
  obtain ⟨⟨rfl, _⟩, _⟩ := e
  exact ⟨u, hc, hk⟩
def errOf (b : Nat) (w : World) : Int := intOf ((w.cell? ⟨b, 2, none⟩).getD (.int .i64 0))
def classB (k1 : Int) (j : Nat) (k2 e2 : Int) : Prop := k1 + (j : Int) ≤ k2 + (if e2 ≠ 0 then 1 else 0)
theorem oneOf_more {k : Int} {l : List Pat} (h : l.length ≠ 1) : oneOf k l = mkP k 0 0 0 0 l := by
  match l, h with
  | [], _ => rfl
  | [_], h => exact absurd rfl h
  | _ :: _ :: _, _ => rfl
theorem list_more {l : List Pat} {g : Pat} : (l ++ [g]).length = l.length + 1 := by simp
theorem list_one {l : List Pat} (h : l.length = 1) : ∃ p, l = [p] := List.length_eq_one_iff.1 h
/-- The list as the kids of a pattern that is answered. -/
theorem end_list {w wr : World} {l : List Pat} {v : Value} {kd : Int} (ho : PatsOwn wr (w.heap.size + 1) (fun d => w.heap.size < d) v l) (hl : l.length ≠ 1) (hb : l.length ≤ 100000) :
    PGives (fun d => w.heap.size ≤ d) (oneOf kd l) (.returned (.agg #[.int .i64 kd, .int .i64 0, .int .i64 0, .int .i64 0, .int .i64 0, v])) ((((((wr.setCell ⟨w.heap.size, 0, none⟩ (.int .i64 kd)).setCell ⟨w.heap.size, 1, none⟩ (.int .i64 0)).setCell ⟨w.heap.size, 2, none⟩ (.int .i64 0)).setCell ⟨w.heap.size, 3, none⟩ (.int .i64 0)).setCell ⟨w.heap.size, 4, none⟩ (.int .i64 0)).setCell ⟨w.heap.size, 5, none⟩ v) := by
  rw [oneOf_more hl]
  exact ⟨_, rfl, v, rfl, KidsAt.mono (set6_holds (S := fun d => w.heap.size < d) (fun h => absurd h (by omega))) (fun d h => by omega) _ _ _ (ho.kids (fun d h => by omega) (Nat.le_refl _) (by omega))⟩
theorem end_one {w wr : World} {p : Pat} {u : Value} {kd : Int} {x0 x1 x2 x3 x4 x5 : Value} (hk : KidsAt (fun d => w.heap.size < d) wr p.1 (kids p.2) u) :
    PGives (fun d => w.heap.size ≤ d) (oneOf kd [p]) (.returned (.agg #[.int .i64 (kind p.2), .int .i64 (from_ p.2), .int .i64 (to_ p.2), .int .i64 (min_ p.2), .int .i64 (max_ p.2), u])) ((((((wr.setCell ⟨w.heap.size, 0, none⟩ x0).setCell ⟨w.heap.size, 1, none⟩ x1).setCell ⟨w.heap.size, 2, none⟩ x2).setCell ⟨w.heap.size, 3, none⟩ x3).setCell ⟨w.heap.size, 4, none⟩ x4).setCell ⟨w.heap.size, 5, none⟩ x5) :=
  ⟨_, rfl, u, rfl, KidsAt.mono (set6_holds (S := fun d => w.heap.size < d) (fun h => absurd h (by omega))) (fun d h => by omega) _ _ _ hk⟩

end Ex
end Go.Proofs.YthnbmkapmnpkoaaDoor
