import Derived.Test.YteckbpmliahhhaaTrTake
namespace Go.Proofs.Yteckbpmliahhhaa
open Go.RowKit
attribute [local go_sem] Oper.semAt_some
namespace Ex
namespace Tr

def mayP (kd n : Int) : Bool := (kd == 2 && decide (0 ≤ n)) || ((kd == 3 || kd == 4 || kd == 5) && n == 0)
set_option linter.unusedSimpArgs false in
set_option maxRecDepth 100000 in
set_option maxHeartbeats 2000000 in
theorem may_q (kd n : Int) (w : World) : Calls Try.prog 31 #[.int .i64 kd, .int .i64 n] w fun e w' => e = .returned (.bool (mayP kd n)) ∧ w' = w := by
  go_enter Try.func31, Try.ntmps31
  by_cases h2 : kd = 2
  · subst h2
    go_wp2_with fail
    go_ret
    exact ⟨by simp [mayP], rfl⟩
  · by_cases h3 : kd = 3
    · subst h3
      go_wp2_with fail
      go_ret
      exact ⟨by simp [mayP], rfl⟩
    · by_cases h4 : kd = 4
      · subst h4
        go_wp2_with fail
        go_ret
        exact ⟨by simp [mayP], rfl⟩
      · by_cases h5 : kd = 5
        · subst h5
          go_wp2_with fail
          go_ret
          exact ⟨by simp [mayP], rfl⟩
        · go_wp2_with fail
          go_ret
          exact ⟨by simp [mayP, h2, h3, h4, h5], rfl⟩

/-- The children with their places. -/
def kidG (N : Nat → Nd) : Nat → List Nat → List (Nat × Nat)
  | _, [] => []
  | a, b :: bs => (b, a) :: kidG N (a + (N b).width) bs
theorem kidG_snoc (N : Nat → Nd) (b : Nat) : ∀ (l : List Nat) (a : Nat), kidG N a (l ++ [b]) = kidG N a l ++ [(b, a + widthS N l)]
  | [], a => by simp [kidG, widthS]
  | c :: l, a => by
    simp only [List.cons_append, kidG, kidG_snoc N b l, widthS, List.map_cons, List.sum_cons]
    rw [Nat.add_assoc]
theorem kidG_len (N : Nat → Nd) : ∀ (l : List Nat) (a : Nat), (kidG N a l).length = l.length
  | [], _ => rfl
  | b :: l, a => by simp [kidG, kidG_len N l]
theorem kidG_fst (N : Nat → Nd) : ∀ (l : List Nat) (a : Nat), (kidG N a l).map Prod.fst = l
  | [], _ => rfl
  | b :: l, a => by simp [kidG, kidG_fst N l]
def failS (N : Nat → Nd) (fl : Bool) (ks : List Nat) : Bool := fl || ks.any fun b => (N b).failed
/-- A node over children. -/
def makeN (N : Nat → Nd) (s m : Nat) (kd n : Int) (ks : List Nat) : Nd :=
  { st := s, num := m + 1, kind := kd, n := n, l0 := 0, l1 := 0, l2 := 0, l3 := 0, kids := kidG N 0 ks, width := widthS N ks, leafs := leafS N ks, size := 1 + sizeS N ks, failed := failS N (kd == 3 || kd == 5) ks }
/-- What the sums of a node are within. -/
def NdOk (x : Nd) : Prop := 1 ≤ x.size ∧ x.size ≤ 4194304 ∧ x.width ≤ x.size * 524288 ∧ x.leafs ≤ x.size
theorem sums_le {N : Nat → Nd} : ∀ (ks : List Nat), (∀ b ∈ ks, NdOk (N b)) → ks.length ≤ sizeS N ks ∧ widthS N ks ≤ sizeS N ks * 524288 ∧ leafS N ks ≤ sizeS N ks
  | [], _ => by simp [sizeS, widthS, leafS]
  | b :: ks, h => by
    have h1 := sums_le ks (fun d hd => h d (List.mem_cons_of_mem _ hd))
    have h2 := h b List.mem_cons_self
    unfold NdOk at h2
    unfold sizeS widthS leafS at h1 ⊢
    simp only [List.map_cons, List.sum_cons, List.length_cons, Nat.add_mul]
    omega
theorem sizeS_mono {N : Nat → Nd} (ks : List Nat) (j : Nat) : sizeS N (ks.take j) ≤ sizeS N ks := by
  have e : sizeS N ks = sizeS N (ks.take j) + sizeS N (ks.drop j) := by
    unfold sizeS
    rw [← List.sum_append, ← List.map_append, List.take_append_drop]
  omega
theorem makeN_ok {N : Nat → Nd} {s m : Nat} {kd n : Int} {ks : List Nat} (h : ∀ b ∈ ks, NdOk (N b)) (hz : 1 + sizeS N ks ≤ 4194304) : NdOk (makeN N s m kd n ks) := by
  have := sums_le ks h
  refine ⟨by simp [makeN], hz, ?_, ?_⟩
  · show widthS N ks ≤ (1 + sizeS N ks) * 524288
    omega
  · show leafS N ks ≤ 1 + sizeS N ks
    omega
/-- While the children are taken. -/
def MkI (N : Nat → Nd) (w : World) (b base : Nat) (kd n : Int) (ks : List Nat) (wr : World) : Prop :=
  Kept w wr ∧ base ≤ wr.heap.size ∧ ∃ kv, RawAt wr b kd n kv (widthS N ks) (leafS N ks) (1 + sizeS N ks) (failS N (kd == 3 || kd == 5) ks) ∧ KOwn wr base kv (kidG N 0 ks)
theorem MkI.step {N : Nat → Nd} {w wr w' : World} {b base k : Nat} {kd n : Int} {ks : List Nat} {kv : Value} (h : Kept w wr) (hb0 : w.heap.size ≤ b) (hbb : b < base) (hbs : base ≤ wr.heap.size) (ho : KOwn wr base kv (kidG N 0 ks))
    (he : TakeE w' base b kd n (widthS N ks + (N k).width) (leafS N ks + (N k).leafs) (1 + sizeS N ks + (N k).size) (failS N (kd == 3 || kd == 5) ks || (N k).failed) (kidG N 0 ks ++ [(k, widthS N ks)]) kv.ownBlock wr.heap.size) (ht : TK b kv.ownBlock wr w') : MkI N w b base kd n (ks ++ [k]) w' := by
  refine ⟨⟨ht.1.trans h.1, ht.2.1.trans h.2.1, ht.2.2.1.trans h.2.2.1, Nat.le_trans h.2.2.2.1 ht.2.2.2.1, fun d hd => (ht.2.2.2.2 d (Nat.lt_of_lt_of_le hd h.2.2.2.1) (by omega) (fun e => by have := (ho.lt d e.symm).1; omega)).trans (h.2.2.2.2 d hd)⟩, Nat.le_trans hbs ht.2.2.2.1, ?_⟩
  obtain ⟨kv', h1, h2, _⟩ := he
  refine ⟨kv', ?_, ?_⟩
  · have e1 : widthS N (ks ++ [k]) = widthS N ks + (N k).width := by simp [widthS]
    have e2 : leafS N (ks ++ [k]) = leafS N ks + (N k).leafs := by simp [leafS]
    have e3 : 1 + sizeS N (ks ++ [k]) = 1 + sizeS N ks + (N k).size := by simp [sizeS]; omega
    have e4 : failS N (kd == 3 || kd == 5) (ks ++ [k]) = (failS N (kd == 3 || kd == 5) ks || (N k).failed) := by simp [failS, Bool.or_assoc]
    rw [e1, e2, e3, e4]
    exact h1
  · rw [kidG_snoc, Nat.zero_add]
    exact h2

end Tr
end Ex
end Go.Proofs.Yteckbpmliahhhaa
