import Derived.Test.YteckbpmliahhhaaTrLeav
import Derived.Test.YteckbpmliahhhaaMTrSeN
import Derived.Maps.OwnSet
import Derived.Maps.OwnIn
import Derived.Maps.RangeWalk
import Derived.Sort.MapsRangeIn
import Derived.Test.YteckbpmliahhhaaExBase
namespace Go.Proofs.Yteckbpmliahhhaa
open Go.RowKit Go.Maps
attribute [local go_sem] Oper.semAt_some
namespace Ex
namespace Tr

theorem i_key : Keyed Try.prog 3 := int_keyed Try.underlying3
theorem i_zero (w : World) : (zeroValue 3).run Try.prog w = .ok (.int .i64 0) w := by kernel_rfl
/-- Numbers that an int holds. -/
def fits (x : Int) : Prop := -9223372036854775808 ≤ x ∧ x ≤ 9223372036854775807
theorem fits_wf {x : Int} (h : fits x) : (Lit.int .i64 x).wf = true := by
  unfold fits at h
  simp [Lit.wf, IntKind.min, IntKind.max, IntKind.signed, IntKind.bits]
  omega
theorem wf_fits {x : Int} (h : (Lit.int .i64 x).wf = true) : fits x := by
  simp [Lit.wf, IntKind.min, IntKind.max, IntKind.signed, IntKind.bits] at h
  unfold fits
  omega
theorem fits_key {x : Int} (h : fits x) : keyOf Try.prog 3 (.int .i64 x) = some (.int .i64 x) := keyOf_int_mk Try.underlying3 (fits_wf h)
theorem kI_ne {x y : Int} (h : y ≠ x) : (Lit.int .i64 y) ≠ (Lit.int .i64 x) := fun e => h (by injection e)
/-- A map whose keys are ints, in block b, by what it holds. -/
def MapG (R : Value → Option (DataW Unit × List MemPlace)) (w : World) (b n : Nat) (f : Int → Option (DataW Unit)) : Prop :=
  ∃ D : DataW Unit, w.ownsMap Try.prog 3 R b n D ∧ ∀ x, fits x → Maps.has D (.int .i64 x) = (f x).isSome ∧ ∀ zd, D.atKey (.int .i64 x) zd = (f x).getD zd
theorem MapG.lt {R : Value → Option (DataW Unit × List MemPlace)} {w : World} {b n : Nat} {f : Int → Option (DataW Unit)} (h : MapG R w b n f) : b < w.heap.size := h.choose_spec.1.lt
theorem MapG.same {R : Value → Option (DataW Unit × List MemPlace)} {w w' : World} {b n : Nat} {f : Int → Option (DataW Unit)} (h : MapG R w b n f) (he : w'.heap[b]? = w.heap[b]?) : MapG R w' b n f := by
  obtain ⟨D, ⟨es, clock, hb, F, hs, hD⟩, h2⟩ := h
  exact ⟨D, ⟨es, clock, he.trans hb, F, hs, hD⟩, h2⟩
theorem MapG.up {R : Value → Option (DataW Unit × List MemPlace)} {w : World} {b n m : Nat} {f : Int → Option (DataW Unit)} (h : MapG R w b n f) (hm : n ≤ m) : MapG R w b m f := by
  obtain ⟨D, h1, h2⟩ := h
  exact ⟨D, World.ownsMap.mono h1 hm, h2⟩
theorem MapG.ext {R : Value → Option (DataW Unit × List MemPlace)} {w : World} {b n : Nat} {f g : Int → Option (DataW Unit)} (h : MapG R w b n f) (he : ∀ x, fits x → f x = g x) : MapG R w b n g := by
  obtain ⟨D, h1, h2⟩ := h
  exact ⟨D, h1, fun x hx => by rw [← he x hx]; exact h2 x hx⟩
theorem MapG.made {R : Value → Option (DataW Unit × List MemPlace)} {w : World} {b n : Nat} (h : w.ownsMap Try.prog 3 R b n (.map [])) : MapG R w b n (fun _ => none) := ⟨_, h, fun _ _ => ⟨rfl, fun _ => rfl⟩⟩
theorem MapG.puts {R : Value → Option (DataW Unit × List MemPlace)} {w w' : World} {b n m : Nat} {f : Int → Option (DataW Unit)} {D : DataW Unit} {x : Int} {d : DataW Unit} (hx : fits x) (h1 : w.ownsMap Try.prog 3 R b n D)
    (h2 : ∀ x, fits x → Maps.has D (.int .i64 x) = (f x).isSome ∧ ∀ zd, D.atKey (.int .i64 x) zd = (f x).getD zd) (h3 : w'.ownsMap Try.prog 3 R b m (D.put (.int .i64 x) d)) : MapG R w' b m (fun y => if y = x then some d else f y) := by
  refine ⟨_, h3, fun y hy => ?_⟩
  by_cases e : y = x
  · subst e
    simp only [if_true]
    exact ⟨has_put_same h1.isMap (show WideAt.IsKeyLit (.int .i64 y) from trivial) d, fun zd => atKey_put_same h1.isMap (show WideAt.IsKeyLit (.int .i64 y) from trivial) d zd⟩
  · simp only [e, if_false]
    exact ⟨by rw [has_put_other (kI_ne e)]; exact (h2 y hy).1, fun zd => by rw [atKey_put_other (kI_ne e)]; exact (h2 y hy).2 zd⟩
theorem MapG.dels {R : Value → Option (DataW Unit × List MemPlace)} {w' : World} {b m : Nat} {f : Int → Option (DataW Unit)} {D : DataW Unit} {x : Int} (h2 : ∀ x, fits x → Maps.has D (.int .i64 x) = (f x).isSome ∧ ∀ zd, D.atKey (.int .i64 x) zd = (f x).getD zd) (h3 : w'.ownsMap Try.prog 3 R b m (D.del (.int .i64 x))) : MapG R w' b m (fun y => if y = x then none else f y) := by
  refine ⟨_, h3, fun y hy => ?_⟩
  by_cases e : y = x
  · subst e
    simp only [if_true]
    exact ⟨has_del_same, fun zd => atKey_del_same zd⟩
  · simp only [e, if_false]
    exact ⟨by rw [has_del_other (kI_ne e)]; exact (h2 y hy).1, fun zd => by rw [atKey_del_other (kI_ne e)]; exact (h2 y hy).2 zd⟩
theorem but_grownT {w w' : World} {b : Nat} (h : w.grownBy w' (some b)) : KeptBut b w w' := ⟨h.os, h.tape, h.output, h.size, fun k hk hne => h.block k hk (fun e => hne (Option.some.inj e))⟩

section
variable {F : Fence} {nF : Nat} {w : World} {ops : Array Oper} {rest : List Oper} {o : Oper} {a : Act} {Q : Exit → Act → World → Prop} {R : Value → Option (DataW Unit × List MemPlace)}
/-- m[k] = v. -/
theorem wplIn_put (hg : o.guard = none) (m x v : Operand) (t e : TypeId) (hop : o.op = Op.mapUpdate t m x v) (ht : Try.prog.underlying t = some (.map 3 e)) (b n : Nat) (f : Int → Option (DataW Unit)) (hm : a.eval m = .map (some b)) (h : MapG R w b n f) (hn : n < maxLen)
    (k : Int) (hx : a.eval x = .int .i64 k) (hk : fits k) (val : Value) (hv : a.eval v = val) (d : DataW Unit) (ps : List MemPlace) (hval : R val = some (d, ps))
    (hK : ∀ w', MapG R w' b (n + 1) (fun y => if y = k then some d else f y) → KeptBut b w w' → w'.heap.size = w.heap.size → wpListIn F nF Try.prog ops Q rest (a.put o.dst undef) w') : wpListIn F nF Try.prog ops Q (o :: rest) a w := by
  obtain ⟨D, h1, h2⟩ := h
  refine wpListIn_mapUpdate_in w hg m x v t hop 3 e i_key ht R b n D hm h1 hn (.int .i64 k) val (.int .i64 k) hx hv (fits_key hk) d ps hval (fun w' ho hT => hK w' (MapG.puts hk h1 h2 ho) (but_grownT hT.grown) ?_)
  obtain ⟨es, clock, es', clock', hb, rfl⟩ := hT
  simp [ChangeMaps.setBlock]
/-- v, ok := m[k]. -/
theorem wplIn_look (hg : o.guard = none) (m x : Operand) (t e : TypeId) (hop : o.op = Op.lookup t m x true) (ht : Try.prog.underlying t = some (.map 3 e)) {z : Value} (hz : (zeroValue e).run Try.prog w = .ok z w) (zd : DataW Unit) (zp : List MemPlace) (hzd : R z = some (zd, zp)) (b n : Nat) (f : Int → Option (DataW Unit)) (hm : a.eval m = .map (some b)) (h : MapG R w b n f)
    (k : Int) (hx : a.eval x = .int .i64 k) (hk : fits k) (bo : Bool) (hbo : (f k).isSome = bo)
    (hK : ∀ v ps, R v = some ((f k).getD zd, ps) → wpListIn F nF Try.prog ops Q rest (a.put o.dst (.tuple #[v, .bool bo])) w) : wpListIn F nF Try.prog ops Q (o :: rest) a w := by
  obtain ⟨D, h1, h2⟩ := h
  refine wpListIn_lookup_own_ok w hg m x t hop 3 e i_key ht R hz zd zp hzd b n D hm h1 (.int .i64 k) (.int .i64 k) hx (fits_key hk) (fun v ps hv => ?_)
  rw [(h2 k hk).1, hbo]
  rw [(h2 k hk).2] at hv
  exact hK v ps hv
/-- delete(m, k). -/
theorem wplIn_del (hg : o.guard = none) (m x : Operand) (t e : TypeId) (hop : o.op = Op.call { callee := Callee.builtin Builtin.delete, args := #[m, x], argTypes := #[t, 3] }) (ht : Try.prog.underlying t = some (.map 3 e)) (b n : Nat) (f : Int → Option (DataW Unit)) (hm : a.eval m = .map (some b)) (h : MapG R w b n f)
    (k : Int) (hx : a.eval x = .int .i64 k) (hk : fits k)
    (hK : ∀ w', MapG R w' b n (fun y => if y = k then none else f y) → KeptBut b w w' → w'.heap.size = w.heap.size → wpListIn F nF Try.prog ops Q rest (a.put o.dst (.tuple #[])) w') : wpListIn F nF Try.prog ops Q (o :: rest) a w := by
  obtain ⟨D, h1, h2⟩ := h
  refine wpListIn_delete_own w hg m x t 3 hop e i_key ht R b n D hm h1 (.int .i64 k) (.int .i64 k) hx (fits_key hk) (fun w' ho hT => hK w' (MapG.dels h2 ho) (but_grownT hT.grown) ?_)
  obtain ⟨es, clock, es', clock', hb, rfl⟩ := hT
  simp [ChangeMaps.setBlock]
end

/-- A map from ints to ints. -/
def liI (c : Int) : DataW Unit := .lit (.int .i64 c)
def IMap (w : World) (b n : Nat) (f : Int → Option Int) : Prop := MapG (plainElem Try.prog 3) w b n (fun x => (f x).map liI)
theorem IMap.lt {w : World} {b n : Nat} {f : Int → Option Int} (h : IMap w b n f) : b < w.heap.size := MapG.lt h
theorem IMap.same {w w' : World} {b n : Nat} {f : Int → Option Int} (h : IMap w b n f) (he : w'.heap[b]? = w.heap[b]?) : IMap w' b n f := MapG.same h he
theorem IMap.up {w : World} {b n m : Nat} {f : Int → Option Int} (h : IMap w b n f) (hm : n ≤ m) : IMap w b m f := MapG.up h hm
theorem IMap.ext {w : World} {b n : Nat} {f g : Int → Option Int} (h : IMap w b n f) (he : ∀ x, fits x → f x = g x) : IMap w b n g := MapG.ext h (fun x hx => by rw [he x hx])
section
variable {F : Fence} {nF : Nat} {w : World} {ops : Array Oper} {rest : List Oper} {o : Oper} {a : Act} {Q : Exit → Act → World → Prop}
theorem iIn_put (hg : o.guard = none) (m x v : Operand) (hop : o.op = Op.mapUpdate 114 m x v) (b n : Nat) (f : Int → Option Int) (hm : a.eval m = .map (some b)) (h : IMap w b n f) (hn : n < maxLen)
    (k : Int) (hx : a.eval x = .int .i64 k) (hk : fits k) (c : Int) (hv : a.eval v = .int .i64 c) (hc : fits c)
    (hK : ∀ w', IMap w' b (n + 1) (fun y => if y = k then some c else f y) → KeptBut b w w' → w'.heap.size = w.heap.size → wpListIn F nF Try.prog ops Q rest (a.put o.dst undef) w') : wpListIn F nF Try.prog ops Q (o :: rest) a w :=
  wplIn_put hg m x v 114 3 hop Try.underlying114 b n _ hm h hn k hx hk (.int .i64 c) hv (liI c) [] (plainElem_int Try.underlying3 (fits_wf hc)) (fun w' h1 => hK w' (MapG.ext h1 (fun y _ => by by_cases e : y = k <;> simp [e])))
theorem iIn_look (hg : o.guard = none) (m x : Operand) (hop : o.op = Op.lookup 114 m x true) (b n : Nat) (f : Int → Option Int) (hm : a.eval m = .map (some b)) (h : IMap w b n f)
    (k : Int) (hx : a.eval x = .int .i64 k) (hk : fits k) (bo : Bool) (hbo : (f k).isSome = bo) (c : Int) (hc : (f k).getD 0 = c)
    (hK : wpListIn F nF Try.prog ops Q rest (a.put o.dst (.tuple #[.int .i64 c, .bool bo])) w) : wpListIn F nF Try.prog ops Q (o :: rest) a w :=
  wplIn_look hg m x 114 3 hop Try.underlying114 (i_zero w) (liI 0) [] (plainElem_int Try.underlying3 (by decide)) b n _ hm h k hx hk bo (by simp [hbo]) (fun v ps hv => by
    have e : ((f k).map liI).getD (liI 0) = liI c := by rw [← hc]; cases f k <;> rfl
    rw [e] at hv
    obtain ⟨c', rfl, hc', _⟩ := plainElem_int_inv Try.underlying3 hv
    simp only [liI, Prod.mk.injEq, DataW.lit.injEq, Lit.int.injEq, true_and] at hc'
    rw [← hc'.1]
    exact hK)
theorem iIn_del (hg : o.guard = none) (m x : Operand) (hop : o.op = Op.call { callee := Callee.builtin Builtin.delete, args := #[m, x], argTypes := #[114, 3] }) (b n : Nat) (f : Int → Option Int) (hm : a.eval m = .map (some b)) (h : IMap w b n f)
    (k : Int) (hx : a.eval x = .int .i64 k) (hk : fits k)
    (hK : ∀ w', IMap w' b n (fun y => if y = k then none else f y) → KeptBut b w w' → w'.heap.size = w.heap.size → wpListIn F nF Try.prog ops Q rest (a.put o.dst (.tuple #[])) w') : wpListIn F nF Try.prog ops Q (o :: rest) a w :=
  wplIn_del hg m x 114 3 hop Try.underlying114 b n _ hm h k hx hk (fun w' h1 => hK w' (MapG.ext h1 (fun y _ => by by_cases e : y = k <;> simp [e])))
end

end Tr
end Ex
end Go.Proofs.Yteckbpmliahhhaa
namespace Go.Proofs.Yteckbpmliahhhaa
namespace Ex
namespace Tr

/-- What the first loop of 'once' has noted of the numbers l. -/
def accF (l : List Int) (y : Int) : Option Int := if l.count y = 0 then none else if l.count y = 1 then some ((l.idxOf y : Nat) : Int) else some (-1)
/-- The place of a number that stands in l just once. -/
def onceN (l : List Int) (y : Int) : Option Nat := if l.count y = 1 then some (l.idxOf y) else none
def onceF (l : List Int) (y : Int) : Option Int := (onceN l y).map fun p => (p : Int)
theorem acc_nil (y : Int) : accF [] y = none := rfl
theorem acc_some {l : List Int} {x : Int} : (accF l x).isSome = decide (x ∈ l) := by
  unfold accF
  by_cases h : x ∈ l
  · have := List.count_pos_iff.2 h
    rw [if_neg (by omega)]
    split <;> simp [h]
  · rw [if_pos (List.count_eq_zero.2 h)]
    simp [h]
theorem acc_snoc (l : List Int) (x y : Int) : accF (l ++ [x]) y = if y = x then (if x ∈ l then some (-1 : Int) else some ((l.length : Nat) : Int)) else accF l y := by
  unfold accF
  by_cases e : y = x
  · subst e
    rw [if_pos rfl, List.count_append, List.count_singleton_self]
    rw [if_neg (by omega)]
    by_cases h : y ∈ l
    · have := List.count_pos_iff.2 h
      rw [if_pos h, if_neg (by omega)]
    · have := List.count_eq_zero.2 h
      rw [if_neg h, if_pos (by omega), List.idxOf_append, if_neg h]
      simp
  · have hs : List.count y [x] = 0 := List.count_eq_zero.2 (by simpa using e)
    rw [if_neg e, List.count_append, hs, Nat.add_zero]
    by_cases h : y ∈ l
    · rw [List.idxOf_append, if_pos h]
    · have := List.count_eq_zero.2 h
      rw [if_pos this, if_pos this]
theorem once_of_acc (l : List Int) (y : Int) : onceF l y = if accF l y = some (-1) then none else accF l y := by
  unfold onceF onceN accF
  by_cases h0 : l.count y = 0
  · simp [h0]
  · by_cases h1 : l.count y = 1
    · simp [h1]
    · simp [h0, h1]
theorem onceN_at {l : List Int} {y : Int} {p : Nat} (h : onceN l y = some p) : l[p]? = some y ∧ l.count y = 1 := by
  unfold onceN at h
  split at h
  · rename_i h1
    simp only [Option.some.injEq] at h
    subst h
    have hm : y ∈ l := List.count_pos_iff.1 (by omega)
    exact ⟨by rw [List.getElem?_eq_getElem (List.idxOf_lt_length_of_mem hm), List.getElem_idxOf], h1⟩
  · cases h
theorem count_two {l : List Int} {y : Int} {i j : Nat} (hij : i < j) (hi : l[i]? = some y) (hj : l[j]? = some y) : 2 ≤ l.count y := by
  have hl := (List.getElem?_eq_some_iff.1 hi)
  have e : l = l.take (i + 1) ++ l.drop (i + 1) := (List.take_append_drop _ _).symm
  have h1 : y ∈ l.take (i + 1) := List.mem_of_getElem? (i := i) (by rw [List.getElem?_take]; simp [hi])
  have h2 : y ∈ l.drop (i + 1) := List.mem_of_getElem? (i := j - (i + 1)) (by rw [List.getElem?_drop, show i + 1 + (j - (i + 1)) = j by omega]; exact hj)
  have := List.count_pos_iff.2 h1
  have := List.count_pos_iff.2 h2
  rw [e, List.count_append]
  omega
theorem once_at_one {l : List Int} {y : Int} {i j : Nat} (h : l.count y = 1) (hi : l[i]? = some y) (hj : l[j]? = some y) : i = j := by
  rcases Nat.lt_trichotomy i j with h1 | h1 | h1
  · have := count_two h1 hi hj; omega
  · exact h1
  · have := count_two h1 hj hi; omega
theorem onceN_mk {l : List Int} {y : Int} {i : Nat} (h : l.count y = 1) (hi : l[i]? = some y) : onceN l y = some i := by
  have h2 : onceN l y = some (l.idxOf y) := by unfold onceN; rw [if_pos h]
  rw [h2]
  exact congrArg some (once_at_one h (onceN_at h2).1 hi)

/-- The leaves that count: their places in both; rest: what is still to come, from place i on; nx: behind the last one that counts. -/
def cnt (l m : List Int) : List Int → Nat → Nat → List (Nat × Nat)
  | [], _, _ => []
  | x :: r, i, nx => if (onceN l x).isSome ∧ (onceN m x).isSome ∧ nx ≤ (onceN m x).getD 0 then (i, (onceN m x).getD 0) :: cnt l m r (i + 1) ((onceN m x).getD 0 + 1) else cnt l m r (i + 1) nx
/-- What is known of the pairs that count. -/
def CntOk (l m : List Int) (P : List (Nat × Nat)) (i nx : Nat) : Prop :=
  (∀ q ∈ P, i ≤ q.1 ∧ nx ≤ q.2 ∧ ∃ y, onceN l y = some q.1 ∧ onceN m y = some q.2) ∧ P.Pairwise (fun a b => a.1 < b.1 ∧ a.2 < b.2)
theorem cnt_ok (l m : List Int) : ∀ (r : List Int) (pre : List Int) (nx : Nat), pre ++ r = l → CntOk l m (cnt l m r pre.length nx) pre.length nx
  | [], _, _, _ => ⟨fun _ h => absurd h (by simp [cnt]), List.Pairwise.nil⟩
  | x :: r, pre, nx, h => by
    have h' : (pre ++ [x]) ++ r = l := by rw [List.append_assoc]; exact h
    have hlen : (pre ++ [x]).length = pre.length + 1 := by simp
    unfold cnt
    split
    · rename_i hc
      obtain ⟨h1, h2, h3⟩ := hc
      obtain ⟨j, hj⟩ := Option.isSome_iff_exists.1 h1
      obtain ⟨p, hp⟩ := Option.isSome_iff_exists.1 h2
      rw [hp, Option.getD_some] at h3 ⊢
      have ih := cnt_ok l m r (pre ++ [x]) (p + 1) h'
      rw [hlen] at ih
      have hx : l[pre.length]? = some x := by rw [← h]; simp
      have hji : onceN l x = some pre.length := onceN_mk (onceN_at hj).2 hx
      refine ⟨fun q hq => ?_, List.pairwise_cons.2 ⟨fun q hq => ?_, ih.2⟩⟩
      · rcases List.mem_cons.1 hq with rfl | hq
        · exact ⟨Nat.le_refl _, h3, x, hji, hp⟩
        · obtain ⟨a, b, c⟩ := ih.1 q hq
          exact ⟨by omega, by omega, c⟩
      · obtain ⟨a, b, _⟩ := ih.1 q hq
        exact ⟨a, b⟩
    · have ih := cnt_ok l m r (pre ++ [x]) nx h'
      rw [hlen] at ih
      exact ⟨fun q hq => by obtain ⟨a, b, c⟩ := ih.1 q hq; exact ⟨by omega, b, c⟩, ih.2⟩
/-- The pairs that count, of all. -/
def pairsL (l m : List Int) : List (Nat × Nat) := cnt l m l 0 0
theorem pairs_ok (l m : List Int) : CntOk l m (pairsL l m) 0 0 := cnt_ok l m l [] 0 rfl
/-- What 'counting' has in its map when it has gone through pre, of which P count. -/
def cntF (l : List Int) (pre : List Int) (P : List (Nat × Nat)) (y : Int) : Option Int := if y ∈ pre then (P.find? fun q => l[q.1]? == some y).map fun q => (q.1 : Int) else onceF l y
/-- While 'counting' goes on. -/
def CntI (l m : List Int) (pre : List Int) (nx : Nat) (P : List (Nat × Nat)) : Prop :=
  pre <+: l ∧ pairsL l m = P ++ cnt l m (l.drop pre.length) pre.length nx ∧ ∀ q ∈ P, q.1 < pre.length ∧ ∃ y, l[q.1]? = some y ∧ l.count y = 1
theorem cntI_start (l m : List Int) : CntI l m [] 0 [] := ⟨List.nil_prefix, rfl, fun _ h => absurd h (by simp)⟩
theorem drop_at {l pre : List Int} {x : Int} (h : (pre ++ [x]) <+: l) : l.drop pre.length = x :: l.drop (pre.length + 1) ∧ l[pre.length]? = some x := by
  obtain ⟨t, ht⟩ := h
  have h1 : l[pre.length]? = some x := by rw [← ht]; simp
  have h2 := List.getElem?_eq_some_iff.1 h1
  exact ⟨by rw [List.drop_eq_getElem_cons h2.1, h2.2], h1⟩
theorem find_old {l : List Int} {x y : Int} {i : Nat} {P : List (Nat × Nat)} (hx : l[i]? = some x) (he : y ≠ x) (p : Nat) : (P ++ [(i, p)]).find? (fun q => l[q.1]? == some y) = P.find? (fun q => l[q.1]? == some y) := by
  rw [List.find?_append]
  have h2 : List.find? (fun q : Nat × Nat => l[q.1]? == some y) [(i, p)] = none := by
    rw [List.find?_eq_none]
    intro q hq
    rw [List.mem_singleton.1 hq, hx]
    simpa using fun e => he e.symm
  rw [h2, Option.or_none]
theorem cntI_yes {l m pre : List Int} {nx : Nat} {P : List (Nat × Nat)} {x : Int} {j p : Nat} (h : CntI l m pre nx P) (hx : (pre ++ [x]) <+: l) (h1 : onceN l x = some j) (h2 : onceN m x = some p) (h3 : nx ≤ p) :
    CntI l m (pre ++ [x]) (p + 1) (P ++ [(pre.length, p)]) ∧ ∀ y, cntF l (pre ++ [x]) (P ++ [(pre.length, p)]) y = cntF l pre P y := by
  obtain ⟨hd, hat⟩ := drop_at hx
  obtain ⟨g1, g2, g3⟩ := h
  have hc1 := (onceN_at h1).2
  refine ⟨⟨hx, ?_, fun q hq => ?_⟩, fun y => ?_⟩
  · rw [g2, hd, List.append_assoc]
    congr 1
    rw [cnt, if_pos ⟨by rw [h1]; rfl, by rw [h2]; rfl, by rw [h2]; exact h3⟩, h2]
    simp
  · rcases List.mem_append.1 hq with hq | hq
    · obtain ⟨a, b⟩ := g3 q hq
      exact ⟨by simp; omega, b⟩
    · rw [List.mem_singleton.1 hq]
      exact ⟨by simp, x, hat, hc1⟩
  · have hnp : x ∉ pre := fun hm => by
      obtain ⟨k, hk, hk2⟩ := List.getElem_of_mem hm
      have hk3 : l[k]? = some x := by
        obtain ⟨t, ht⟩ := g1
        rw [← ht, List.getElem?_append_left hk, List.getElem?_eq_getElem hk, hk2]
      have := once_at_one hc1 hk3 hat
      omega
    unfold cntF
    by_cases e : y = x
    · subst e
      rw [if_pos (by simp), if_neg hnp]
      have hf : P.find? (fun q => l[q.1]? == some y) = none := by
        rw [List.find?_eq_none]
        intro q hq hq2
        obtain ⟨a, _⟩ := g3 q hq
        have := once_at_one hc1 (by simpa using hq2) hat
        omega
      rw [List.find?_append, hf, Option.none_or]
      unfold onceF
      rw [onceN_mk hc1 hat]
      simp [hat]
    · have hm : y ∈ pre ++ [x] ↔ y ∈ pre := by simp [e]
      by_cases hy : y ∈ pre
      · rw [if_pos (hm.2 hy), if_pos hy, find_old hat e]
      · rw [if_neg (fun c => hy (hm.1 c)), if_neg hy]
theorem cntI_no {l m pre : List Int} {nx : Nat} {P : List (Nat × Nat)} {x : Int} (h : CntI l m pre nx P) (hx : (pre ++ [x]) <+: l) (hn : ¬ ((onceN l x).isSome ∧ (onceN m x).isSome ∧ nx ≤ (onceN m x).getD 0)) :
    CntI l m (pre ++ [x]) nx P ∧ ∀ y, cntF l (pre ++ [x]) P y = if y = x then none else cntF l pre P y := by
  obtain ⟨hd, hat⟩ := drop_at hx
  obtain ⟨g1, g2, g3⟩ := h
  refine ⟨⟨hx, ?_, fun q hq => ?_⟩, fun y => ?_⟩
  · rw [g2, hd, cnt, if_neg hn]
    simp
  · obtain ⟨a, b⟩ := g3 q hq
    exact ⟨by simp; omega, b⟩
  · unfold cntF
    by_cases e : y = x
    · subst e
      have hf : P.find? (fun q => l[q.1]? == some y) = none := by
        rw [List.find?_eq_none]
        intro q hq hq2
        obtain ⟨a, z, hz, hz1⟩ := g3 q hq
        have hq3 : l[q.1]? = some y := by simpa using hq2
        rw [hz, Option.some.injEq] at hq3
        subst hq3
        have := once_at_one hz1 hz hat
        omega
      rw [if_pos (by simp), if_pos rfl, hf]
      rfl
    · have hm : y ∈ pre ++ [x] ↔ y ∈ pre := by simp [e]
      rw [if_neg e]
      by_cases hy : y ∈ pre
      · rw [if_pos (hm.2 hy), if_pos hy]
      · rw [if_neg (fun c => hy (hm.1 c)), if_neg hy]
/-- What 'counting' says of a number, looked up. -/
theorem cntF_at {l m pre : List Int} {nx : Nat} {P : List (Nat × Nat)} {x : Int} (h : CntI l m pre nx P) (hx : (pre ++ [x]) <+: l) : (cntF l pre P x).isSome = (onceN l x).isSome := by
  obtain ⟨hd, hat⟩ := drop_at hx
  obtain ⟨g1, g2, g3⟩ := h
  unfold cntF
  by_cases hy : x ∈ pre
  · obtain ⟨k, hk, hk2⟩ := List.getElem_of_mem hy
    have hk3 : l[k]? = some x := by
      obtain ⟨t, ht⟩ := g1
      rw [← ht, List.getElem?_append_left hk, List.getElem?_eq_getElem hk, hk2]
    have h2 := count_two hk hk3 hat
    have hf : P.find? (fun q => l[q.1]? == some x) = none := by
      rw [List.find?_eq_none]
      intro q hq hq2
      obtain ⟨a, z, hz, hz1⟩ := g3 q hq
      have hq3 : l[q.1]? = some x := by simpa using hq2
      rw [hz, Option.some.injEq] at hq3
      subst hq3
      omega
    rw [if_pos hy, hf]
    unfold onceN
    rw [if_neg (by omega)]
    rfl
  · rw [if_neg hy]
    unfold onceF
    cases onceN l x <;> rfl
/-- The map that 'counting' answers. -/
def pairF (l m : List Int) (y : Int) : Option Int := ((pairsL l m).find? fun q => l[q.1]? == some y).map fun q => (q.1 : Int)
theorem cntF_end {l m : List Int} {nx : Nat} {P : List (Nat × Nat)} (h : CntI l m l nx P) : P = pairsL l m ∧ ∀ y, cntF l l P y = pairF l m y := by
  obtain ⟨g1, g2, g3⟩ := h
  have e : P = pairsL l m := by rw [g2, List.drop_length]; simp [cnt]
  refine ⟨e, fun y => ?_⟩
  unfold cntF pairF
  rw [← e]
  by_cases hy : y ∈ l
  · rw [if_pos hy]
  · rw [if_neg hy]
    have hf : P.find? (fun q => l[q.1]? == some y) = none := by
      rw [List.find?_eq_none]
      intro q hq hq2
      exact hy (List.mem_of_getElem? (by simpa using hq2))
    rw [hf]
    unfold onceF onceN
    rw [if_neg (by rw [List.count_eq_zero.2 hy]; omega)]
    rfl

/-- A hunk. -/
structure Hk where
  fr : Nat
  to_ : Nat
  into : Nat
  upto : Nat
/-- The hunks between the pairs. -/
def hks (L M : Nat) : List (Nat × Nat) → Nat → Nat → List Hk
  | [], f, i => if f < L ∨ i < M then [⟨f, L, i, M⟩] else []
  | (a, p) :: r, f, i => (if f < a ∨ i < p then [⟨f, a, i, p⟩] else []) ++ hks L M r (a + 1) (p + 1)
/-- While the second tree's leaves are gone through: j of them; Q: the pairs to come; done: the hunks that were told. -/
def PartI (l m : List Int) (j f i : Nat) (Q : List (Nat × Nat)) (done : List Hk) : Prop :=
  j ≤ m.length ∧ i ≤ j ∧ f ≤ l.length ∧ (∃ D, pairsL l m = D ++ Q ∧ ∀ q ∈ D, q.2 < j) ∧ (∀ q ∈ Q, j ≤ q.2) ∧ hks l.length m.length (pairsL l m) 0 0 = done ++ hks l.length m.length Q f i
theorem partI_start (l m : List Int) : PartI l m 0 0 0 (pairsL l m) [] := ⟨Nat.zero_le _, Nat.le_refl _, Nat.zero_le _, ⟨[], rfl, fun _ h => absurd h (by simp)⟩, fun _ _ => Nat.zero_le _, rfl⟩
theorem pairF_none {l m : List Int} {y : Int} (h : pairF l m y = none) {q : Nat × Nat} (hq : q ∈ pairsL l m) : l[q.1]? ≠ some y := fun e => by
  unfold pairF at h
  rw [Option.map_eq_none_iff, List.find?_eq_none] at h
  exact h q hq (by simpa using e)
theorem partI_skip {l m : List Int} {j f i : Nat} {Q : List (Nat × Nat)} {done : List Hk} {y : Int} (h : PartI l m j f i Q done) (hy : m[j]? = some y) (hn : pairF l m y = none) : PartI l m (j + 1) f i Q done := by
  obtain ⟨g1, g2, g3, ⟨D, g4, g5⟩, g6, g7⟩ := h
  have hj := (List.getElem?_eq_some_iff.1 hy).1
  refine ⟨by omega, by omega, g3, ⟨D, g4, fun q hq => by have := g5 q hq; omega⟩, fun q hq => ?_, g7⟩
  have h6 := g6 q hq
  have hqm : q ∈ pairsL l m := by rw [g4]; exact List.mem_append_right _ hq
  obtain ⟨_, _, z, hz1, hz2⟩ := (pairs_ok l m).1 q hqm
  rcases Nat.lt_or_ge j q.2 with h7 | h7
  · exact h7
  · have e : q.2 = j := by omega
    have hz3 := (onceN_at hz2).1
    rw [e, hy, Option.some.injEq] at hz3
    subst hz3
    exact absurd (onceN_at hz1).1 (pairF_none hn hqm)
theorem partI_take {l m : List Int} {j f i : Nat} {Q : List (Nat × Nat)} {done : List Hk} {y c : Int} (h : PartI l m j f i Q done) (hy : m[j]? = some y) (hc : pairF l m y = some c) :
    ∃ (a : Nat) (Q' : List (Nat × Nat)), c = (a : Int) ∧ a < l.length ∧ Q = (a, j) :: Q' ∧ PartI l m (j + 1) (a + 1) (j + 1) Q' (done ++ if f < a ∨ i < j then [⟨f, a, i, j⟩] else []) := by
  obtain ⟨g1, g2, g3, ⟨D, g4, g5⟩, g6, g7⟩ := h
  have hj := (List.getElem?_eq_some_iff.1 hy).1
  unfold pairF at hc
  rw [Option.map_eq_some_iff] at hc
  obtain ⟨q, hq, rfl⟩ := hc
  have hqm := List.mem_of_find?_eq_some hq
  have hq2 : l[q.1]? = some y := by simpa using List.find?_some hq
  obtain ⟨_, _, z, hz1, hz2⟩ := (pairs_ok l m).1 q hqm
  obtain rfl : z = y := by have := (onceN_at hz1).1; rw [hq2] at this; exact (Option.some.inj this).symm
  have hqj : q.2 = j := once_at_one (onceN_at hz2).2 (onceN_at hz2).1 hy
  have hal := (List.getElem?_eq_some_iff.1 hq2).1
  have hqQ : q ∈ Q := by
    rw [g4] at hqm
    rcases List.mem_append.1 hqm with h1 | h1
    · have := g5 q h1; omega
    · exact h1
  have hpw := (pairs_ok l m).2
  rw [g4] at hpw
  have hpq := (List.pairwise_append.1 hpw).2.1
  cases Q with
  | nil => cases hqQ
  | cons r Q' =>
    have hrq : r = q := by
      rcases List.mem_cons.1 hqQ with h1 | h1
      · exact h1.symm
      · have h2 := (List.pairwise_cons.1 hpq).1 q h1
        have h3 := g6 r List.mem_cons_self
        omega
    subst hrq
    obtain ⟨a, p⟩ := r
    dsimp only at hqj hal hq2
    subst hqj
    refine ⟨a, Q', rfl, hal, rfl, by omega, Nat.le_refl _, by omega, ⟨D ++ [(a, p)], by rw [g4, List.append_assoc]; rfl, fun q hq => ?_⟩, fun q hq => ?_, ?_⟩
    · rcases List.mem_append.1 hq with h1 | h1
      · have := g5 q h1; omega
      · rw [List.mem_singleton.1 h1]; exact Nat.lt_succ_self _
    · exact ((List.pairwise_cons.1 hpq).1 q hq).2
    · rw [g7, List.append_assoc]
      rfl
theorem partI_end {l m : List Int} {f i : Nat} {Q : List (Nat × Nat)} {done : List Hk} (h : PartI l m m.length f i Q done) : hks l.length m.length (pairsL l m) 0 0 = done ++ if f < l.length ∨ i < m.length then [⟨f, l.length, i, m.length⟩] else [] := by
  obtain ⟨g1, g2, g3, ⟨D, g4, g5⟩, g6, g7⟩ := h
  cases Q with
  | nil => exact g7
  | cons q Q' =>
    exfalso
    have hqm : q ∈ pairsL l m := by rw [g4]; exact List.mem_append_right _ List.mem_cons_self
    obtain ⟨_, _, z, hz1, hz2⟩ := (pairs_ok l m).1 q hqm
    have := (List.getElem?_eq_some_iff.1 (onceN_at hz2).1).1
    have := g6 q List.mem_cons_self
    omega

end Tr
end Ex
end Go.Proofs.Yteckbpmliahhhaa
