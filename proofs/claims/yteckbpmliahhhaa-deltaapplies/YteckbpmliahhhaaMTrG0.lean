import Derived.Test.YteckbpmliahhhaaTrOwn
import Derived.Test.YteckbpmliahhhaaTrMake
import Derived.Test.YteckbpmliahhhaaTrHead
import Derived.Deep.DeepMust
namespace Go.Proofs.Yteckbpmliahhhaa
open Go.RowKit
attribute [local go_sem] Oper.semAt_some
namespace Ex
namespace Tr

/-- A node of the document's trees. -/
structure Rd where
  st : Int
  place : Int
  kind : Int
  n : Int
  l0 : Int
  l1 : Int
  l2 : Int
  l3 : Int
  kids : List Nat
  size : Nat
def cellsR (x : Rd) (kv : Value) : Array Value := #[.int .i64 x.st, .int .i64 x.place, .int .i64 x.kind, .int .i64 x.n, .int .i64 x.l0, .int .i64 x.l1, .int .i64 x.l2, .int .i64 x.l3, kv, .int .i64 (x.size : Int)]
/-- Its children: a list of pointers below B. -/
def RKids (A B : Nat) (w : World) (kv : Value) (ks : List Nat) : Prop := ∃ a cap, kv = .slice a ks.length cap ∧ ks.length ≤ 4194304 ∧ (ks = [] ∨ ∃ g, a = some ⟨g, 0, none⟩ ∧ A ≤ g ∧ g < B ∧ g < w.heap.size ∧ ∀ (i b : Nat), ks[i]? = some b → w.cell? ⟨g, i, none⟩ = some (.pointer (some ⟨b, 0, none⟩)))
theorem RKids.keep {A B : Nat} {w w' : World} {kv : Value} {ks : List Nat} (h : RKids A B w kv ks) (hk : Kept w w') : RKids A B w' kv ks := by
  obtain ⟨a, cap, h1, h2, h3⟩ := h
  refine ⟨a, cap, h1, h2, ?_⟩
  rcases h3 with h3 | ⟨g, g1, g0, g2, g3, g4⟩
  · exact Or.inl h3
  · exact Or.inr ⟨g, g1, g0, g2, Nat.lt_of_lt_of_le g3 hk.size, fun i b hb => grown_cell hk (g4 i b hb)⟩
def leafR (st l0 l1 l2 l3 : Int) : Rd := ⟨st, 0, 1, l0, l0, l1, l2, l3, [], 1⟩

end Tr
end Ex
end Go.Proofs.Yteckbpmliahhhaa
namespace Go.Proofs.Yteckbpmliahhhaa
open Go.RowKit
attribute [local go_sem] Oper.semAt_some
namespace Ex
namespace Tr

theorem may_cases {kd n : Int} (h : mayP kd n = true) : kd = 2 ∧ 0 ≤ n ∨ (kd = 3 ∨ kd = 4 ∨ kd = 5) ∧ n = 0 := by
  unfold mayP at h
  simp only [Bool.or_eq_true, Bool.and_eq_true, beq_iff_eq, decide_eq_true_eq] at h
  rcases h with h | ⟨(h | h) | h, h0⟩ <;> simp_all
theorem may_not {kd n : Int} (h : mayP kd n = false) : (kd ≠ 2 ∧ kd ≠ 3 ∧ kd ≠ 4 ∧ kd ≠ 5) ∨ n < 0 ∨ n ≠ 0 ∧ kd ≠ 2 := by
  unfold mayP at h
  simp only [Bool.or_eq_false_iff, Bool.and_eq_false_iff, beq_eq_false_iff_ne, decide_eq_false_iff_not, ne_eq] at h
  omega

def sizeR (X : Nat → Rd) (ks : List Nat) : Nat := (ks.map fun b => (X b).size).sum
theorem sizeR_take {X : Nat → Rd} {ks : List Nat} {j b : Nat} (h : ks[j]? = some b) : sizeR X (ks.take (j + 1)) = sizeR X (ks.take j) + (X b).size := by
  unfold sizeR
  rw [List.take_add_one, h]
  simp
theorem sizeR_part (X : Nat → Rd) : ∀ (ks : List Nat) (j : Nat), sizeR X (ks.take j) ≤ sizeR X ks
  | [], j => by simp [sizeR]
  | b :: ks, 0 => by simp [sizeR]
  | b :: ks, j + 1 => by
    have := sizeR_part X ks j
    simp only [sizeR, List.take_succ_cons, List.map_cons, List.sum_cons] at this ⊢
    omega
/-- What the document's Make answers where kind and n are good: whether all children are of the store, whether there is room. -/
def rErr (X : Nat → Rd) (st : Int) (ks : List Nat) : Int := if ks.all (fun b => (X b).st == st) = true then (if 4194304 < 1 + sizeR X ks then 6 else 0) else 100
theorem rErr_other {X : Nat → Rd} {st : Int} {ks : List Nat} {b : Nat} (hb : b ∈ ks) (h : (X b).st ≠ st) : rErr X st ks = 100 := by
  unfold rErr
  rw [if_neg]
  intro hh
  rw [List.all_eq_true] at hh
  exact h (by simpa using hh b hb)
theorem rErr_full {X : Nat → Rd} {st : Int} {ks : List Nat} (h1 : ∀ b ∈ ks, (X b).st = st) (h2 : 4194304 < 1 + sizeR X ks) : rErr X st ks = 6 := by
  unfold rErr
  rw [if_pos (by rw [List.all_eq_true]; intro b hb; simp [h1 b hb]), if_pos h2]
theorem rErr_ok {X : Nat → Rd} {st : Int} {ks : List Nat} (h1 : ∀ b ∈ ks, (X b).st = st) (h2 : ¬ 4194304 < 1 + sizeR X ks) : rErr X st ks = 0 := by
  unfold rErr
  rw [if_pos (by rw [List.all_eq_true]; intro b hb; simp [h1 b hb]), if_neg h2]

end Tr
end Ex
end Go.Proofs.Yteckbpmliahhhaa
namespace Go.Proofs.Yteckbpmliahhhaa
open Go.RowKit
attribute [local go_sem] Oper.semAt_some
namespace Ex
namespace Tr

def makeR (X : Nat → Rd) (st kd n : Int) (ks : List Nat) : Rd := ⟨st, 0, kd, n, 0, 0, 0, 0, ks, 1 + sizeR X ks⟩

def flatPt (l : List Nat) : List Value := l.map fun (b : Nat) => .pointer (some ⟨b, 0, none⟩)
theorem flatPt_at {l : List Nat} {i b : Nat} (h : l[i]? = some b) : (flatPt l)[i]? = some (.pointer (some ⟨b, 0, none⟩)) := by simp [flatPt, h]
end Tr
end Ex
end Go.Proofs.Yteckbpmliahhhaa
namespace Go.Proofs.Yteckbpmliahhhaa
open Go.RowKit
attribute [local go_sem] Oper.semAt_some
namespace Ex
namespace Tr

/-- A node whose blocks lie in the set V. -/
def KidRowV (V : Nat → Prop) (w : World) (kv : Value) (l : List (Nat × Nat)) : Prop := ∃ a cap, kv = .slice a l.length cap ∧ l.length ≤ cap ∧ l.length ≤ 4194304 ∧ (l = [] ∨ ∃ g, a = some ⟨g, 0, none⟩ ∧ V g ∧ ∀ (i : Nat) (q : Nat × Nat), l[i]? = some q → w.cell? ⟨g, i * 2, none⟩ = some (.pointer (some ⟨q.1, 0, none⟩)) ∧ w.cell? ⟨g, i * 2 + 1, none⟩ = some (.int .i64 (q.2 : Int)))
def NodeV (V : Nat → Prop) (w : World) (b : Nat) (x : Nd) : Prop := V b ∧ ∃ kv, w.heap[b]? = some (.cells (cellsN x kv) 88 (0, 0)) ∧ KidRowV V w kv x.kids
def RKidsV (V : Nat → Prop) (w : World) (kv : Value) (ks : List Nat) : Prop := ∃ a cap, kv = .slice a ks.length cap ∧ ks.length ≤ 4194304 ∧ (ks = [] ∨ ∃ g, a = some ⟨g, 0, none⟩ ∧ V g ∧ ∀ (i b : Nat), ks[i]? = some b → w.cell? ⟨g, i, none⟩ = some (.pointer (some ⟨b, 0, none⟩)))
theorem KX.cell {V : Nat → Prop} {w w' : World} (h : KX V w w') {d o : Nat} {v : Value} (hd : V d) (hc : w.cell? ⟨d, o, none⟩ = some v) : w'.cell? ⟨d, o, none⟩ = some v := (World.cell?_of_block (w := w) (a := ⟨d, o, none⟩) (h.2 d hd)).trans hc
theorem KX.less {V V' : Nat → Prop} {w w' : World} (h : KX V w w') (hV : ∀ k, V' k → V k) : KX V' w w' := ⟨h.1, fun k hk => h.2 k (hV k hk)⟩
theorem NodeV.kx {V : Nat → Prop} {w w' : World} {b : Nat} {x : Nd} (h : NodeV V w b x) (hk : KX V w w') : NodeV V w' b x := by
  obtain ⟨h0, kv, h1, a, cap, h2, h3, h4, h5⟩ := h
  refine ⟨h0, kv, (hk.2 b h0).trans h1, a, cap, h2, h3, h4, ?_⟩
  rcases h5 with h5 | ⟨g, h6, h7, h8⟩
  · exact Or.inl h5
  · exact Or.inr ⟨g, h6, h7, fun i q hq => ⟨hk.cell h7 (h8 i q hq).1, hk.cell h7 (h8 i q hq).2⟩⟩
theorem NodeV.more {V V' : Nat → Prop} {w : World} {b : Nat} {x : Nd} (h : NodeV V w b x) (hV : ∀ k, V k → V' k) : NodeV V' w b x := by
  obtain ⟨h0, kv, h1, a, cap, h2, h3, h4, h5⟩ := h
  refine ⟨hV _ h0, kv, h1, a, cap, h2, h3, h4, ?_⟩
  rcases h5 with h5 | ⟨g, h6, h7, h8⟩
  · exact Or.inl h5
  · exact Or.inr ⟨g, h6, hV _ h7, h8⟩
theorem NodeV.at {V : Nat → Prop} {B : Nat} {w : World} {b : Nat} {x : Nd} (h : NodeV V w b x) (hB : ∀ k, V k → k < B) : NodeAt B w b x := by
  obtain ⟨h0, kv, h1, a, cap, h2, h3, h4, h5⟩ := h
  refine ⟨hB _ h0, kv, h1, a, cap, h2, h3, h4, ?_⟩
  rcases h5 with h5 | ⟨g, h6, h7, h8⟩
  · exact Or.inl h5
  · exact Or.inr ⟨g, h6, hB _ h7, h8⟩
theorem nodeV_of {A B b : Nat} {w : World} {x : Nd} (h : NodeAt B w b x) (hA : A ≤ b) (hl : RowLow A w b ∨ x.kids = []) : NodeV (fun k => A ≤ k ∧ k < B) w b x := by
  obtain ⟨h0, kv, h1, a, cap, h2, h3, h4, h5⟩ := h
  refine ⟨⟨hA, h0⟩, kv, h1, a, cap, h2, h3, h4, ?_⟩
  rcases h5 with h5 | ⟨g, h6, h7, h8⟩
  · exact Or.inl h5
  · rcases hl with hl | hl
    · refine Or.inr ⟨g, h6, ⟨hl kv (by simp [World.cell?, h1, cellsN]) g (by rw [h2, h6]; rfl), h7⟩, h8⟩
    · exact Or.inl hl
def rplace (x : Rd) (i : Nat) : Rd := { x with place := (i : Int) }
/-- The lists of a forest. -/
def POwn (w : World) (base : Nat) (v : Value) (P : List Nat) : Prop := w.ownsRow base 43 1 v P.length (flatPt P)
/-- The room for children. -/
def BufAt (w : World) (base : Nat) (v : Value) : Prop := v = .slice none 0 0 ∨ ∃ (g : Nat) (cur : Array Value), v = .slice (some ⟨g, 0, none⟩) cur.size cur.size ∧ base ≤ g ∧ cur.size ≤ 4194304 ∧ w.heap[g]? = some (.cells cur 43 (0, 0))
def at_ (P : List Nat) (j : Nat) : Nat := (P[j]?).getD 0
theorem at_some {P : List Nat} {j b : Nat} (h : P[j]? = some b) : at_ P j = b := by simp [at_, h]
theorem at_mem {P : List Nat} {j : Nat} (h : j < P.length) : at_ P j ∈ P := by
  unfold at_
  rw [List.getElem?_eq_getElem h]
  exact List.getElem_mem h
theorem at_app {P : List Nat} {j b : Nat} (h : j < P.length) : at_ (P ++ [b]) j = at_ P j := by
  unfold at_
  rw [List.getElem?_append_left h]
/-- What the two nodes of a place are. -/
def PairIs (s0 s1 m0 m1 : Nat) (P Q : List Nat) (N : Nat → Nd) (X : Nat → Rd) (i b d : Nat) : Prop :=
  NdOk (N b) ∧ (N b).size = (X d).size ∧ ∃ (st : Int) (s m : Nat), (st = 0 ∧ s = s0 ∧ m < m0 ∨ st = 1 ∧ s = s1 ∧ m < m1) ∧
    ((∃ l0 l1 l2 l3 : Int, N b = leafN s m l0 l1 l2 l3 ∧ X d = rplace (leafR st l0 l1 l2 l3) i) ∨
     (∃ (kd n : Int) (js : List Nat), mayP kd n = true ∧ (∀ j ∈ js, j < i) ∧ N b = makeN N s m kd n (js.map (at_ P)) ∧ X d = rplace (makeR X st kd n (js.map (at_ Q))) i))
def TwinOk (s0 s1 m0 m1 : Nat) (P Q : List Nat) (N : Nat → Nd) (X : Nat → Rd) : Prop :=
  P.length = Q.length ∧ m0 ≤ P.length ∧ m1 ≤ P.length ∧ (∀ i b d : Nat, P[i]? = some b → Q[i]? = some d → PairIs s0 s1 m0 m1 P Q N X i b d) ∧
  (∀ i i' b b' : Nat, i < i' → P[i]? = some b → P[i']? = some b' → (N b).st = (N b').st → (N b).num < (N b').num)
theorem makeN_congr {N N' : Nat → Nd} {s m : Nat} {kd n : Int} {ks : List Nat} (h : ∀ b ∈ ks, N' b = N b) : makeN N' s m kd n ks = makeN N s m kd n ks := by
  have h1 : ∀ (ks : List Nat), (∀ b ∈ ks, N' b = N b) → sizeS N' ks = sizeS N ks ∧ widthS N' ks = widthS N ks ∧ leafS N' ks = leafS N ks ∧ (∀ fl, failS N' fl ks = failS N fl ks) ∧ ∀ a, kidG N' a ks = kidG N a ks := by
    intro ks
    induction ks with
    | nil => intro _; exact ⟨rfl, rfl, rfl, fun _ => rfl, fun _ => rfl⟩
    | cons b ks ih =>
      intro h
      obtain ⟨g1, g2, g3, g4, g5⟩ := ih (fun d hd => h d (List.mem_cons_of_mem _ hd))
      have hb := h b List.mem_cons_self
      refine ⟨?_, ?_, ?_, fun fl => ?_, fun a => ?_⟩
      · simp only [sizeS, List.map_cons, List.sum_cons, hb] at g1 ⊢; omega
      · simp only [widthS, List.map_cons, List.sum_cons, hb] at g2 ⊢; omega
      · simp only [leafS, List.map_cons, List.sum_cons, hb] at g3 ⊢; omega
      · have := g4 false
        simp only [failS, List.any_cons, hb, Bool.false_or] at this ⊢
        rw [this]
      · simp only [kidG, hb, g5]
  obtain ⟨g1, g2, g3, g4, g5⟩ := h1 ks h
  simp only [makeN, g1, g2, g3, g4, g5]
theorem sizeR_congr {X X' : Nat → Rd} : ∀ (ks : List Nat), (∀ b ∈ ks, X' b = X b) → sizeR X' ks = sizeR X ks
  | [], _ => rfl
  | b :: ks, h => by
    have h1 := sizeR_congr (X := X) (X' := X') ks (fun d hd => h d (List.mem_cons_of_mem _ hd))
    simp only [sizeR, List.map_cons, List.sum_cons, h b List.mem_cons_self] at h1 ⊢
    omega
theorem makeR_congr {X X' : Nat → Rd} {st kd n : Int} {ks : List Nat} (h : ∀ b ∈ ks, X' b = X b) : makeR X' st kd n ks = makeR X st kd n ks := by
  simp only [makeR, sizeR_congr ks h]
/-- One pair more. -/
theorem TwinOk.add {s0 s1 m0 m1 m0' m1' : Nat} {P Q : List Nat} {N : Nat → Nd} {X : Nat → Rd} {b d : Nat} {Y : Nd} {Z : Rd} (h : TwinOk s0 s1 m0 m1 P Q N X) (hb : b ∉ P) (hd : d ∉ Q) (h0 : m0 ≤ m0') (h1 : m1 ≤ m1') (h2 : m0' ≤ P.length + 1) (h3 : m1' ≤ P.length + 1)
    (hY : NdOk Y) (hs : Y.size = Z.size) (hp : ∃ (st : Int) (s m : Nat), (st = 0 ∧ s = s0 ∧ m = m0 ∧ m < m0' ∨ st = 1 ∧ s = s1 ∧ m = m1 ∧ m < m1') ∧
      ((∃ l0 l1 l2 l3 : Int, Y = leafN s m l0 l1 l2 l3 ∧ Z = rplace (leafR st l0 l1 l2 l3) P.length) ∨
       (∃ (kd n : Int) (js : List Nat), mayP kd n = true ∧ (∀ j ∈ js, j < P.length) ∧ Y = makeN N s m kd n (js.map (at_ P)) ∧ Z = rplace (makeR X st kd n (js.map (at_ Q))) P.length))) (hne : s0 ≠ s1) :
    TwinOk s0 s1 m0' m1' (P ++ [b]) (Q ++ [d]) (fun k => if k = b then Y else N k) (fun k => if k = d then Z else X k) := by
  obtain ⟨t1, t2, t3, t4, t5⟩ := h
  have hNP : ∀ c ∈ P, (if c = b then Y else N c) = N c := fun c hc => if_neg (fun (e : c = b) => hb (by rw [← e]; exact hc))
  have hXQ : ∀ c ∈ Q, (if c = d then Z else X c) = X c := fun c hc => if_neg (fun (e : c = d) => hd (by rw [← e]; exact hc))
  have hmk : ∀ s m kd n (js : List Nat), (∀ j ∈ js, j < P.length) → makeN (fun k => if k = b then Y else N k) s m kd n (js.map (at_ (P ++ [b]))) = makeN N s m kd n (js.map (at_ P)) := by
    intro s m kd n js hj
    have e : js.map (at_ (P ++ [b])) = js.map (at_ P) := List.map_congr_left (fun j hj' => at_app (hj j hj'))
    rw [e]
    refine makeN_congr fun c hc => ?_
    obtain ⟨j, hj1, rfl⟩ := List.mem_map.1 hc
    exact hNP _ (at_mem (hj j hj1))
  have hmr : ∀ st kd n (js : List Nat), (∀ j ∈ js, j < P.length) → makeR (fun k => if k = d then Z else X k) st kd n (js.map (at_ (Q ++ [d]))) = makeR X st kd n (js.map (at_ Q)) := by
    intro st kd n js hj
    have e : js.map (at_ (Q ++ [d])) = js.map (at_ Q) := List.map_congr_left (fun j hj' => at_app (by rw [← t1]; exact hj j hj'))
    rw [e]
    refine makeR_congr fun c hc => ?_
    obtain ⟨j, hj1, rfl⟩ := List.mem_map.1 hc
    exact hXQ _ (at_mem (by rw [← t1]; exact hj j hj1))
  have hY' : (if b = b then Y else N b) = Y := if_pos rfl
  have hZ' : (if d = d then Z else X d) = Z := if_pos rfl
  have hstn : ∀ i c : Nat, P[i]? = some c → ((N c).st = s0 ∧ (N c).num ≤ m0 ∨ (N c).st = s1 ∧ (N c).num ≤ m1) := by
    intro i c hc
    obtain ⟨d', hd'⟩ : ∃ d', Q[i]? = some d' := ⟨_, List.getElem?_eq_getElem (by rw [← t1]; exact (List.getElem?_eq_some_iff.1 hc).1)⟩
    obtain ⟨_, _, st, s, m, hsm, hh⟩ := t4 i c d' hc hd'
    have e : (N c).st = s ∧ (N c).num = m + 1 := by
      rcases hh with ⟨_, _, _, _, e, _⟩ | ⟨_, _, _, _, _, e, _⟩ <;> rw [e] <;> exact ⟨rfl, rfl⟩
    rcases hsm with ⟨_, rfl, hm⟩ | ⟨_, rfl, hm⟩
    · exact Or.inl ⟨e.1, by omega⟩
    · exact Or.inr ⟨e.1, by omega⟩
  refine ⟨by simp [t1], by simpa using h2, by simpa using h3, fun i c e hc he => ?_, fun i i' c c' hi hc hc' hst => ?_⟩
  · by_cases hi : i < P.length
    · rw [List.getElem?_append_left hi] at hc
      rw [List.getElem?_append_left (by rw [← t1]; exact hi)] at he
      obtain ⟨p1, p2, st, s, m, hsm, hh⟩ := t4 i c e hc he
      have e1 := hNP c (List.mem_of_getElem? hc)
      have e2 := hXQ e (List.mem_of_getElem? he)
      refine ⟨by show NdOk (if c = b then Y else N c); rw [e1]; exact p1, by show (if c = b then Y else N c).size = (if e = d then Z else X e).size; rw [e1, e2]; exact p2, st, s, m, by omega, ?_⟩
      rcases hh with ⟨l0, l1, l2, l3, q1, q2⟩ | ⟨kd, n, js, q0, qj, q1, q2⟩
      · exact Or.inl ⟨l0, l1, l2, l3, e1.trans q1, e2.trans q2⟩
      · refine Or.inr ⟨kd, n, js, q0, qj, ?_, ?_⟩
        · rw [hmk _ _ _ _ js (fun j hj => Nat.lt_trans (qj j hj) hi)]
          exact e1.trans q1
        · rw [hmr _ _ _ js (fun j hj => Nat.lt_trans (qj j hj) hi)]
          exact e2.trans q2
    · have hi' : i = P.length := by
        have := (List.getElem?_eq_some_iff.1 hc).1
        simp at this
        omega
      subst hi'
      have ec : c = b := by simpa using hc.symm
      have ee : e = d := by
        rw [t1] at he
        simpa using he.symm
      subst ec ee
      obtain ⟨st, s, m, hsm, hh⟩ := hp
      refine ⟨by show NdOk (if c = c then Y else N c); rw [hY']; exact hY, by show (if c = c then Y else N c).size = (if e = e then Z else X e).size; rw [hY', hZ']; exact hs, st, s, m, by omega, ?_⟩
      rcases hh with ⟨l0, l1, l2, l3, q1, q2⟩ | ⟨kd, n, js, q0, qj, q1, q2⟩
      · exact Or.inl ⟨l0, l1, l2, l3, hY'.trans q1, hZ'.trans q2⟩
      · refine Or.inr ⟨kd, n, js, q0, qj, ?_, ?_⟩
        · rw [hmk _ _ _ _ js qj]
          exact hY'.trans q1
        · rw [hmr _ _ _ js qj]
          exact hZ'.trans q2
  · have hlt : i < P.length := by
      have := (List.getElem?_eq_some_iff.1 hc').1
      simp at this
      omega
    rw [List.getElem?_append_left hlt] at hc
    have e1 := hNP c (List.mem_of_getElem? hc)
    simp only [e1] at hst ⊢
    by_cases hi2 : i' < P.length
    · rw [List.getElem?_append_left hi2] at hc'
      have e2 := hNP c' (List.mem_of_getElem? hc')
      simp only [e2] at hst ⊢
      exact t5 i i' c c' hi hc hc' hst
    · have hi' : i' = P.length := by
        have := (List.getElem?_eq_some_iff.1 hc').1
        simp at this
        omega
      subst hi'
      have ec : c' = b := by simpa using hc'.symm
      subst ec
      simp only [if_true] at hst ⊢
      obtain ⟨st, s, m, hsm, hh⟩ := hp
      have e : Y.st = s ∧ Y.num = m + 1 := by
        rcases hh with ⟨_, _, _, _, e, _⟩ | ⟨_, _, _, _, _, e, _⟩ <;> rw [e] <;> exact ⟨rfl, rfl⟩
      have h9 := hstn i c hc
      rcases hsm with ⟨_, rfl, rfl, _⟩ | ⟨_, rfl, rfl, _⟩ <;> rcases h9 with ⟨h9, h10⟩ | ⟨h9, h10⟩ <;> omega
/-- The children that both make are of one store and of one size. -/
theorem TwinOk.size {s0 s1 m0 m1 : Nat} {P Q : List Nat} {N : Nat → Nd} {X : Nat → Rd} (h : TwinOk s0 s1 m0 m1 P Q N X) : ∀ (js : List Nat), (∀ j ∈ js, j < P.length) → sizeS N (js.map (at_ P)) = sizeR X (js.map (at_ Q))
  | [], _ => rfl
  | j :: js, hj => by
    have h1 := TwinOk.size h js (fun k hk => hj k (List.mem_cons_of_mem _ hk))
    have hl := hj j List.mem_cons_self
    obtain ⟨b, hb⟩ : ∃ b, P[j]? = some b := ⟨_, List.getElem?_eq_getElem hl⟩
    obtain ⟨d, hd⟩ : ∃ d, Q[j]? = some d := ⟨_, List.getElem?_eq_getElem (by rw [← h.1]; exact hl)⟩
    have h2 := (h.2.2.2.1 j b d hb hd).2.1
    simp only [sizeS, sizeR, List.map_cons, List.sum_cons, at_some hb, at_some hd, h2] at h1 ⊢
    omega
theorem TwinOk.pair {s0 s1 m0 m1 : Nat} {P Q : List Nat} {N : Nat → Nd} {X : Nat → Rd} (h : TwinOk s0 s1 m0 m1 P Q N X) {j : Nat} (hj : j < P.length) : PairIs s0 s1 m0 m1 P Q N X j (at_ P j) (at_ Q j) := by
  obtain ⟨b, hb⟩ : ∃ b, P[j]? = some b := ⟨_, List.getElem?_eq_getElem hj⟩
  obtain ⟨d, hd⟩ : ∃ d, Q[j]? = some d := ⟨_, List.getElem?_eq_getElem (by rw [← h.1]; exact hj)⟩
  rw [at_some hb, at_some hd]
  exact h.2.2.2.1 j b d hb hd
theorem PairIs.st {s0 s1 m0 m1 : Nat} {P Q : List Nat} {N : Nat → Nd} {X : Nat → Rd} {i b d : Nat} (h : PairIs s0 s1 m0 m1 P Q N X i b d) : (X d).place = (i : Int) ∧ ((X d).st = 0 ∧ (N b).st = s0 ∨ (X d).st = 1 ∧ (N b).st = s1) ∧ (X d).kind = (N b).kind ∧ (X d).n = (N b).n := by
  obtain ⟨_, _, st, s, m, hsm, hh⟩ := h
  have e : (N b).st = s ∧ (X d).st = st ∧ (X d).place = (i : Int) ∧ (X d).kind = (N b).kind ∧ (X d).n = (N b).n := by
    rcases hh with ⟨_, _, _, _, e1, e2⟩ | ⟨_, _, _, _, _, e1, e2⟩ <;> rw [e1, e2] <;> exact ⟨rfl, rfl, rfl, rfl, rfl⟩
  obtain ⟨e1, e2, e3, e4, e5⟩ := e
  refine ⟨e3, ?_, e4, e5⟩
  rw [e1, e2]
  rcases hsm with ⟨h1, h2, _⟩ | ⟨h1, h2, _⟩
  · exact Or.inl ⟨h1, h2⟩
  · exact Or.inr ⟨h1, h2⟩
/-- Both sides refuse alike. -/
theorem TwinOk.err {s0 s1 m0 m1 : Nat} {P Q : List Nat} {N : Nat → Nd} {X : Nat → Rd} (h : TwinOk s0 s1 m0 m1 P Q N X) (hne : s0 ≠ s1) {st : Int} {s : Nat} (hs : st = 0 ∧ s = s0 ∨ st = 1 ∧ s = s1) (kd n : Int) (js : List Nat) (hj : ∀ j ∈ js, j < P.length) :
    mkErr N s kd n (js.map (at_ P)) = if mayP kd n = true then rErr X st (js.map (at_ Q)) else 101 := by
  have hown : ownP N s (js.map (at_ P)) = (js.map (at_ Q)).all (fun b => (X b).st == st) := by
    unfold ownP
    rw [List.all_map, List.all_map]
    clear kd n
    induction js with
    | nil => rfl
    | cons j js ih =>
      rw [List.all_cons, List.all_cons, ih (fun k hk => hj k (List.mem_cons_of_mem _ hk))]
      congr 1
      have h1 := (h.pair (hj j List.mem_cons_self)).st.2.1
      simp only [Function.comp_apply]
      rw [Bool.eq_iff_iff]
      simp only [beq_iff_eq]
      omega
  have hsz := h.size js hj
  unfold mkErr rErr
  rw [hown, hsz]
  cases mayP kd n <;> cases (js.map (at_ Q)).all (fun b => (X b).st == st) <;> simp

end Tr
end Ex
end Go.Proofs.Yteckbpmliahhhaa
