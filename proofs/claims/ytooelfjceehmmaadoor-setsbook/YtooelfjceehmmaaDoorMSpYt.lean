import Derived.Test.YtooelfjceehmmaaDoorMSpLd1
import Derived.Test.YtooelfjceehmmaaDoorMSpCl
import Derived.Test.YtooelfjceehmmaaDoorMSpLf
import Derived.Deep.MidRow
namespace Go.Proofs.YtooelfjceehmmaaDoor
open Go.RowKit
namespace Ex

/-- A row of terminals that a right side makes, where S are the rows that names make. -/
def RowOf (nl : Nat) (S : Nat × List Int → Prop) : List SymM → List Int → Prop
  | [], r => r = []
  | y :: ys, r => ∃ a c, r = a ++ c ∧ ((y.1 = 3 ∧ S (y.2.toNat, a)) ∨ (y.1 ≠ 3 ∧ a = [((termN nl y : Nat) : Int)])) ∧ RowOf nl S ys c
theorem RowOf.mono {nl : Nat} {S S' : Nat × List Int → Prop} (h : ∀ x, S x → S' x) : ∀ {ys : List SymM} {r : List Int}, RowOf nl S ys r → RowOf nl S' ys r
  | [], _, hr => hr
  | _ :: _, _, ⟨a, c, h1, h2, h3⟩ => ⟨a, c, h1, h2.imp (fun h2 => ⟨h2.1, h _ h2.2⟩) id, h3.mono h⟩
def SnG (nl : Nat) (ps : List ProdM) (i : Nat) (S : Nat × List Int → Prop) (x : Nat × List Int) : Prop := ∃ p, ps[i]? = some p ∧ x.1 = p.1.toNat ∧ RowOf nl S p.2 x.2
/-- The sentences of a name. -/
def Sen (nl : Nat) (ps : List ProdM) : Nat × List Int → Prop := Lf (fun _ => False) (fun i => i < ps.length) (SnG nl ps)
theorem sn_up (nl : Nat) (ps : List ProdM) : Up (SnG nl ps) := fun _ _ _ h _ ⟨p, h1, h2, h3⟩ => ⟨p, h1, h2, h3.mono h⟩
theorem sen_rule {nl : Nat} {ps : List ProdM} {p : ProdM} {i : Nat} (hp : ps[i]? = some p) {r : List Int} (hr : RowOf nl (Sen nl ps) p.2 r) : Sen nl ps (p.1.toNat, r) :=
  (lf_closed (sn_up nl ps)).2 i (List.getElem?_eq_some_iff.1 hp).1 _ ⟨p, hp, rfl, hr⟩
/-- What a symbol stands for, as far as it is known. -/
def symY (nl : Nat) (L : Nat → Option (List Int)) (y : SymM) : Option (List Int) := if y.1 = 3 then L y.2.toNat else some [((termN nl y : Nat) : Int)]
/-- The best rows of a right side's symbols, one behind the other. -/
def joinM (nl : Nat) (L : Nat → Option (List Int)) : List SymM → List Int → Option (List Int)
  | [], row => some row
  | y :: ys, row => match symY nl L y with
    | none => none
    | some a => if 4096 < (row ++ a).length then none else joinM nl L ys (row ++ a)
/-- Wherever L knows a row, L' knows one that is no worse. -/
def BeY (L' L : Nat → Option (List Int)) : Prop := ∀ n r, L n = some r → ∃ r', L' n = some r' ∧ LeY r' r
theorem BeY.refl (L : Nat → Option (List Int)) : BeY L L := fun _ r h => ⟨r, h, LeY.refl r⟩
theorem BeY.trans {L1 L2 L3 : Nat → Option (List Int)} (h1 : BeY L1 L2) (h2 : BeY L2 L3) : BeY L1 L3 := fun n r h => by
  obtain ⟨r2, h3, h4⟩ := h2 n r h
  obtain ⟨r1, h5, h6⟩ := h1 n r2 h3
  exact ⟨r1, h5, h6.trans h4⟩
theorem symY_mono {nl : Nat} {L' L : Nat → Option (List Int)} (h : BeY L' L) {y : SymM} {a : List Int} (hy : symY nl L y = some a) : ∃ a', symY nl L' y = some a' ∧ LeY a' a := by
  unfold symY at hy ⊢
  by_cases h3 : y.1 = 3
  · rw [if_pos h3] at hy ⊢
    exact h _ _ hy
  · rw [if_neg h3] at hy ⊢
    exact ⟨a, hy, LeY.refl a⟩
theorem join_mono {nl : Nat} {L' L : Nat → Option (List Int)} (h : BeY L' L) : ∀ (ys : List SymM) (row row' x : List Int), LeY row' row → joinM nl L ys row = some x → ∃ x', joinM nl L' ys row' = some x' ∧ LeY x' x
  | [], row, row', x, hr, hx => by
    have hx : some row = some x := hx
    injection hx with hx
    subst hx
    exact ⟨row', rfl, hr⟩
  | y :: ys, row, row', x, hr, hx => by
    unfold joinM at hx ⊢
    cases hs : symY nl L y with
    | none => rw [hs] at hx; exact absurd hx (by simp)
    | some a =>
      rw [hs] at hx
      obtain ⟨a', ha, hle⟩ := symY_mono h hs
      rw [ha]
      have hx : (if 4096 < (row ++ a).length then none else joinM nl L ys (row ++ a)) = some x := hx
      show ∃ x', (if 4096 < (row' ++ a').length then none else joinM nl L' ys (row' ++ a')) = some x' ∧ _
      by_cases hl : 4096 < (row ++ a).length
      · rw [if_pos hl] at hx; exact absurd hx (by simp)
      · rw [if_neg hl] at hx
        have hap := hr.app hle
        have := hap.len
        rw [if_neg (by omega)]
        exact join_mono h ys _ _ x hap hx
theorem join_len {nl : Nat} {L : Nat → Option (List Int)} : ∀ (ys : List SymM) (row x : List Int), row.length ≤ 4096 → joinM nl L ys row = some x → x.length ≤ 4096
  | [], row, x, hr, hx => by
    have hx : some row = some x := hx
    injection hx with hx
    subst hx
    exact hr
  | y :: ys, row, x, _, hx => by
    unfold joinM at hx
    cases hs : symY nl L y with
    | none => rw [hs] at hx; exact absurd hx (by simp)
    | some a =>
      rw [hs] at hx
      have hx : (if 4096 < (row ++ a).length then none else joinM nl L ys (row ++ a)) = some x := hx
      by_cases hl : 4096 < (row ++ a).length
      · rw [if_pos hl] at hx; exact absurd hx (by simp)
      · rw [if_neg hl] at hx
        exact join_len ys _ x (by omega) hx
theorem join_row {nl : Nat} {ps : List ProdM} {L : Nat → Option (List Int)} (h : ∀ n r, L n = some r → Sen nl ps (n, r)) : ∀ (ys : List SymM) (row x : List Int), joinM nl L ys row = some x → ∃ c, x = row ++ c ∧ RowOf nl (Sen nl ps) ys c
  | [], row, x, hx => by
    have hx : some row = some x := hx
    injection hx with hx
    exact ⟨[], by rw [hx, List.append_nil], rfl⟩
  | y :: ys, row, x, hx => by
    unfold joinM at hx
    cases hs : symY nl L y with
    | none => rw [hs] at hx; exact absurd hx (by simp)
    | some a =>
      rw [hs] at hx
      have hx : (if 4096 < (row ++ a).length then none else joinM nl L ys (row ++ a)) = some x := hx
      by_cases hl : 4096 < (row ++ a).length
      · rw [if_pos hl] at hx; exact absurd hx (by simp)
      · rw [if_neg hl] at hx
        obtain ⟨c, h1, h2⟩ := join_row h ys _ x hx
        refine ⟨a ++ c, by rw [h1, List.append_assoc], a, c, rfl, ?_, h2⟩
        unfold symY at hs
        by_cases h3 : y.1 = 3
        · rw [if_pos h3] at hs
          exact .inl ⟨h3, h _ _ hs⟩
        · rw [if_neg h3] at hs
          injection hs with hs
          exact .inr ⟨h3, hs.symm⟩
def betterM (x t : Option (List Int)) : Bool := match x, t with
  | none, _ => false
  | some _, none => true
  | some r, some r' => shorter r r'
def putL (L : Nat → Option (List Int)) (l : Nat) (x : Option (List Int)) : Nat → Option (List Int) := fun i => if i = l then x else L i
/-- What is told of a name is right. -/
def SndY (nl : Nat) (ps : List ProdM) (L : Nat → Option (List Int)) : Prop := ∀ n r, L n = some r → Sen nl ps (n, r) ∧ r.length ≤ 4096
/-- A step over the first j productions, from old to L. -/
structure YStep (nl : Nat) (ps : List ProdM) (old L : Nat → Option (List Int)) (j : Nat) : Prop where
  down : BeY L old
  sound : SndY nl ps old → SndY nl ps L
  closed : ∀ i p, i < j → ps[i]? = some p → ∀ x, joinM nl old p.2 [] = some x → ∃ r, L p.1.toNat = some r ∧ LeY r x
theorem YStep.start (nl : Nat) (ps : List ProdM) (old : Nat → Option (List Int)) : YStep nl ps old old 0 := ⟨BeY.refl old, fun h => h, fun i p h => by omega⟩
section
variable {nl : Nat} {ps : List ProdM} {old L : Nat → Option (List Int)} {j : Nat} {p : ProdM}
theorem YStep.put (h : YStep nl ps old L j) (hp : ps[j]? = some p) {l : Nat} (hl : p.1.toNat = l) {x : List Int} (hx : joinM nl L p.2 [] = some x) (hb : betterM (some x) (L l) = true) : YStep nl ps old (putL L l (some x)) (j + 1) := by
  have hbe : BeY (putL L l (some x)) L := fun n r hr => by
    unfold putL
    by_cases e : n = l
    · rw [if_pos e]
      rw [e] at hr
      rw [hr] at hb
      exact ⟨x, rfl, ley_of hb⟩
    · rw [if_neg e]
      exact ⟨r, hr, LeY.refl r⟩
  refine ⟨hbe.trans h.down, fun ho n r hr => ?_, fun i q hi hq y hy => ?_⟩
  · unfold putL at hr
    by_cases e : n = l
    · rw [if_pos e] at hr
      injection hr with hr
      subst hr
      obtain ⟨c, h1, h2⟩ := join_row (fun n r hr => (h.sound ho n r hr).1) p.2 [] x hx
      rw [List.nil_append] at h1
      rw [e, ← hl, h1]
      exact ⟨sen_rule hp h2, h1 ▸ join_len p.2 [] x (by simp) hx⟩
    · rw [if_neg e] at hr
      exact h.sound ho n r hr
  · by_cases e : i < j
    · obtain ⟨r, h1, h2⟩ := h.closed i q e hq y hy
      obtain ⟨r', h3, h4⟩ := hbe _ r h1
      exact ⟨r', h3, h4.trans h2⟩
    · have e : i = j := by omega
      subst e
      rw [hp] at hq
      injection hq with hq
      subst hq
      obtain ⟨x', h1, h2⟩ := join_mono h.down p.2 [] [] y (LeY.refl _) hy
      rw [hx] at h1
      injection h1 with h1
      subst h1
      exact ⟨x, by unfold putL; rw [if_pos hl], h2⟩
theorem YStep.skip (h : YStep nl ps old L j) (hp : ps[j]? = some p) (hb : betterM (joinM nl L p.2 []) (L p.1.toNat) = false) : YStep nl ps old L (j + 1) := by
  refine ⟨h.down, h.sound, fun i q hi hq y hy => ?_⟩
  by_cases e : i < j
  · exact h.closed i q e hq y hy
  · have e : i = j := by omega
    subst e
    rw [hp] at hq
    injection hq with hq
    subst hq
    obtain ⟨x', h1, h2⟩ := join_mono h.down p.2 [] [] y (LeY.refl _) hy
    rw [h1] at hb
    cases hL : L p.1.toNat with
    | none => rw [hL] at hb; exact absurd hb (by simp [betterM])
    | some r =>
      rw [hL] at hb
      exact ⟨r, rfl, LeY.trans (show LeY r x' from hb) h2⟩
end
/-- The least of the shortest sentences, of at most 4096. -/
def YIs (nl : Nat) (ps : List ProdM) (L : Nat → Option (List Int)) : Prop := SndY nl ps L ∧ ∀ n r, Sen nl ps (n, r) → r.length ≤ 4096 → ∃ r', L n = some r' ∧ LeY r' r
theorem join_of {nl : Nat} {L : Nat → Option (List Int)} : ∀ (ys : List SymM) (c row row0 : List Int), RowOf nl (fun x => x.2.length ≤ 4096 → ∃ r', L x.1 = some r' ∧ LeY r' x.2) ys c → LeY row row0 → (row0 ++ c).length ≤ 4096 → ∃ x, joinM nl L ys row = some x ∧ LeY x (row0 ++ c)
  | [], c, row, row0, hc, hr, _ => by
    have hc : c = [] := hc
    rw [hc, List.append_nil]
    exact ⟨row, rfl, hr⟩
  | y :: ys, c, row, row0, ⟨a, d, h1, h2, h3⟩, hr, hl => by
    rw [h1] at hl ⊢
    rw [← List.append_assoc] at hl ⊢
    have hl2 : a.length ≤ 4096 ∧ (row0 ++ a).length ≤ 4096 := by
      rw [List.length_append] at hl
      rw [List.length_append] at hl ⊢
      omega
    obtain ⟨a', ha, hle⟩ : ∃ a', symY nl L y = some a' ∧ LeY a' a := by
      unfold symY
      rcases h2 with ⟨h4, h5⟩ | ⟨h4, h5⟩
      · rw [if_pos h4]
        exact h5 hl2.1
      · rw [if_neg h4, h5]
        exact ⟨_, rfl, LeY.refl _⟩
    have hap := hr.app hle
    have hlen := hap.len
    obtain ⟨x, hx, hxl⟩ := join_of ys d (row ++ a') (row0 ++ a) h3 hap hl
    refine ⟨x, ?_, hxl⟩
    unfold joinM
    rw [ha]
    show (if 4096 < (row ++ a').length then none else joinM nl L ys (row ++ a')) = some x
    rw [if_neg (by omega)]
    exact hx
theorem YStep.done {nl : Nat} {ps : List ProdM} {L : Nat → Option (List Int)} (h : YStep nl ps L L ps.length) (hs : SndY nl ps L) : YIs nl ps L := by
  refine ⟨hs, fun n r hr => ?_⟩
  exact hr (fun x => x.2.length ≤ 4096 → ∃ r', L x.1 = some r' ∧ LeY r' x.2) ⟨fun _ h => h.elim, fun i hi x ⟨p, hp, hx1, hx2⟩ hl => by
    obtain ⟨y, hy, hyl⟩ := join_of p.2 x.2 [] [] hx2 (LeY.refl _) (by rw [List.nil_append]; exact hl)
    rw [List.nil_append] at hyl
    obtain ⟨r', h1, h2⟩ := h.closed i p hi hp y hy
    exact ⟨r', by rw [hx1]; exact h1, h2.trans hyl⟩⟩
theorem YIs.one {nl : Nat} {ps : List ProdM} {L L' : Nat → Option (List Int)} (h : YIs nl ps L) (h' : YIs nl ps L') (n : Nat) : L n = L' n := by
  cases hn : L n with
  | none =>
    cases hn' : L' n with
    | none => rfl
    | some r =>
      obtain ⟨h1, h2⟩ := h'.1 n r hn'
      obtain ⟨r', h3, _⟩ := h.2 n r h1 h2
      rw [hn] at h3
      cases h3
  | some r =>
    obtain ⟨h1, h2⟩ := h.1 n r hn
    obtain ⟨r', h3, h4⟩ := h'.2 n r h1 h2
    obtain ⟨h5, h6⟩ := h'.1 n r' h3
    obtain ⟨r2, h7, h8⟩ := h.2 n r' h5 h6
    rw [hn] at h7
    injection h7 with h7
    subst h7
    rw [h3, h4.anti h8]
/-- Rows of bytes. -/
def BytY (L : Nat → Option (List Int)) : Prop := ∀ n r, L n = some r → ∀ z ∈ r, IsB z
def bigE : Nat := 4098
def bigY : Nat := 256 ^ bigE
def valO : Option (List Int) → Nat
  | none => bigY
  | some r => valY r
theorem valY_big {r : List Int} (hb : ∀ z ∈ r, IsB z) (hl : r.length ≤ 4096) : valY r < bigY := by
  have h := (valY_bound r hb).1
  have he : r.length + 1 ≤ bigE := by unfold bigE; omega
  have hp : 256 ^ (r.length + 1) ≤ 256 ^ bigE := Nat.pow_le_pow_right (by decide) he
  unfold bigY
  omega
theorem val_le {L' L : Nat → Option (List Int)} (h : BeY L' L) (hb : BytY L) (hb' : BytY L') (hl' : ∀ n r, L' n = some r → r.length ≤ 4096) (n : Nat) : valO (L' n) ≤ valO (L n) ∧ (L' n ≠ L n → valO (L' n) < valO (L n)) := by
  cases hn : L n with
  | none =>
    cases hn' : L' n with
    | none => exact ⟨Nat.le_refl _, fun h => absurd rfl h⟩
    | some r =>
      have := valY_big (hb' n r hn') (hl' n r hn')
      exact ⟨Nat.le_of_lt this, fun _ => this⟩
  | some r =>
    obtain ⟨r', h1, h2⟩ := h n r hn
    rw [h1]
    by_cases e : r' = r
    · subst e
      exact ⟨Nat.le_refl _, fun h => absurd rfl h⟩
    · have := valY_shorter (hb' n r' h1) (hb n r hn) (ley_not h2 e)
      exact ⟨Nat.le_of_lt this, fun _ => this⟩

end Ex
end Go.Proofs.YtooelfjceehmmaaDoor
namespace Go.Proofs.YtooelfjceehmmaaDoor
open Go.RowKit
namespace Ex

/-- A family of sets: 256 words. -/
def famL (F : Nat → Nat) : List Value := (List.range 256).map fun i => Value.int .u64 ((wordAt (F (i / 2)) (i % 2) : Nat) : Int)
theorem famL_len (F : Nat → Nat) : (famL F).length = 256 := by simp [famL]
theorem famL_at (F : Nat → Nat) {i : Nat} (h : i < 256) : (famL F)[i]? = some (.int .u64 (wordAt (F (i / 2)) (i % 2) : Nat)) := by simp [famL, h]
theorem famL_word (F : Nat → Nat) {n i : Nat} (hn : n < 128) (hi : i < 2) : (famL F)[n * 2 + i]? = some (.int .u64 (wordAt (F n) i : Nat)) := by
  rw [famL_at F (by omega), show (n * 2 + i) / 2 = n by omega, show (n * 2 + i) % 2 = i by omega]
theorem famL_set (F : Nat → Nat) (n A : Nat) : ((famL F).set (n * 2) (.int .u64 (wordAt A 0 : Nat))).set (n * 2 + 1) (.int .u64 (wordAt A 1 : Nat)) = famL (putV F n A) := by
  apply List.ext_getElem?
  intro i
  by_cases hi : i < 256
  · rw [famL_at _ hi]
    unfold putV
    by_cases e1 : i = n * 2 + 1
    · subst e1
      rw [List.getElem?_set_self (by rw [List.length_set, famL_len]; omega), if_pos (by omega), show (n * 2 + 1) % 2 = 1 by omega]
    · rw [List.getElem?_set_ne (by omega)]
      by_cases e0 : i = n * 2
      · subst e0
        rw [List.getElem?_set_self (by rw [famL_len]; omega), if_pos (by omega), show (n * 2) % 2 = 0 by omega]
      · rw [List.getElem?_set_ne (by omega), famL_at _ hi, if_neg (by omega)]
  · rw [List.getElem?_eq_none_iff.2 (by rw [List.length_set, List.length_set, famL_len]; omega), List.getElem?_eq_none_iff.2 (by rw [famL_len]; omega)]
theorem famL_one (F : Nat → Nat) : ∀ v ∈ famL F, v.oneCell' = true := by
  intro x hx
  obtain ⟨i, _, rfl⟩ := List.mem_map.1 hx
  rfl
theorem famL_all (F : Nat → Nat) : (famL F).toArray.all (·.oneCell') = true := by
  rw [Array.all_eq_true_iff_forall_mem]
  intro x hx
  exact famL_one F x (by simpa using hx)
/-- A block of cells. -/
def Blk (w : World) (b : Nat) (L : List Value) (t : TypeId) : Prop := w.heap[b]? = some (.cells L.toArray t (0, 0))
section
variable {w w' : World} {b c : Nat} {L : List Value} {t : TypeId}
theorem Blk.lt (h : Blk w b L t) : b < w.heap.size := (Array.getElem?_eq_some_iff.1 h).1
theorem Blk.keep (h : Blk w b L t) (hk : Kept w w') : Blk w' b L t := (hk.2.2.2.2 b h.lt).trans h
theorem Blk.but (h : Blk w b L t) (hk : KeptBut c w w') (hc : b ≠ c) : Blk w' b L t := (hk.2.2.2.2 b h.lt hc).trans h
theorem Blk.new (w : World) (L : List Value) (t : TypeId) : Blk (w.alloc (.cells L.toArray t)) w.heap.size L t := heap_alloc_new w _
theorem Blk.cell (h : Blk w b L t) {i : Nat} {v : Value} (hi : L[i]? = some v) : w.cell? ⟨b, i, none⟩ = some v := by
  unfold Blk at h
  simp only [World.cell?, h]
  simpa using hi
theorem Blk.free (h : Blk w b L t) (i : Nat) : w.frozen? ⟨b, i, none⟩ = false := by
  unfold Blk at h
  simp [World.frozen?, h]
theorem Blk.set (h : Blk w b L t) (k : Nat) (v : Value) : Blk (w.setCell ⟨b, k, none⟩ v) b (L.set k v) t := by
  unfold Blk at h ⊢
  have hl : b < w.heap.size := (Array.getElem?_eq_some_iff.1 h).1
  have he : w.heap[b] = Obj.cells L.toArray t (0, 0) := by rw [Array.getElem?_eq_getElem hl] at h; exact Option.some.inj h
  simp [World.setCell, Array.getElem_modify, hl, he]
theorem Blk.range (h : Blk w b L t) (o : Nat) (cs : List Value) (hc : ∀ j v, cs[j]? = some v → L[o + j]? = some v) : w.rangeAt b o cs := fun j v hv => h.cell (hc j v hv)
end
/-- A family in a block, alone. -/
def FaB (w : World) (b : Nat) (F : Nat → Nat) : Prop := Blk w b (famL F) 79
theorem FaB.set {w : World} {b : Nat} {F : Nat → Nat} (h : FaB w b F) (n A : Nat) : FaB ((w.setCell ⟨b, n * 2, none⟩ (.int .u64 (wordAt A 0 : Nat))).setCell ⟨b, n * 2 + 1, none⟩ (.int .u64 (wordAt A 1 : Nat))) b (putV F n A) := by
  unfold FaB
  rw [← famL_set F n A]
  exact (Blk.set h _ _).set _ _
theorem FaB.cells {w : World} {b n : Nat} {F : Nat → Nat} (h : FaB w b F) (hn : n < 128) : w.cell? ⟨b, n * 2, none⟩ = some (.int .u64 (wordAt (F n) 0 : Nat)) ∧ w.cell? ⟨b, n * 2 + 1, none⟩ = some (.int .u64 (wordAt (F n) 1 : Nat)) := ⟨Blk.cell h (famL_word F (i := 0) hn (by omega)), Blk.cell h (famL_word F (i := 1) hn (by omega))⟩
/-- A grammar: its spec, its empty names, its family. -/
def grL (x0 x1 x2 x3 : Value) (E : Nat) (F : Nat → Nat) : List Value := [x0, x1, x2, x3, .int .u64 (wordAt E 0 : Nat), .int .u64 (wordAt E 1 : Nat)] ++ famL F
theorem grL_len (x0 x1 x2 x3 : Value) (E : Nat) (F : Nat → Nat) : (grL x0 x1 x2 x3 E F).length = 262 := by simp [grL, famL_len]
theorem grL_fam (x0 x1 x2 x3 : Value) (E : Nat) (F : Nat → Nat) (i : Nat) : (grL x0 x1 x2 x3 E F)[6 + i]? = (famL F)[i]? := by
  unfold grL
  rw [List.getElem?_append_right (by simp)]
  simp
theorem grL_set (x0 x1 x2 x3 : Value) (E : Nat) (F : Nat → Nat) (n A : Nat) : ((grL x0 x1 x2 x3 E F).set (6 + n * 2) (.int .u64 (wordAt A 0 : Nat))).set (6 + n * 2 + 1) (.int .u64 (wordAt A 1 : Nat)) = grL x0 x1 x2 x3 E (putV F n A) := by
  unfold grL
  rw [← famL_set F n A, List.set_append_right _ _ (by simp only [List.length_cons, List.length_nil]; omega), List.set_append_right _ _ (by simp only [List.length_cons, List.length_nil]; omega)]
  simp only [List.length_cons, List.length_nil]
  rw [show 6 + n * 2 - (0 + 1 + 1 + 1 + 1 + 1 + 1) = n * 2 by omega, show 6 + n * 2 + 1 - (0 + 1 + 1 + 1 + 1 + 1 + 1) = n * 2 + 1 by omega]
def GrB (w : World) (b : Nat) (x0 x1 x2 x3 : Value) (E : Nat) (F : Nat → Nat) : Prop := Blk w b (grL x0 x1 x2 x3 E F) 81
section
variable {w w' : World} {b c : Nat} {x0 x1 x2 x3 : Value} {E : Nat} {F : Nat → Nat}
theorem GrB.spec (h : GrB w b x0 x1 x2 x3 E F) : w.cell? ⟨b, 0, none⟩ = some x0 ∧ w.cell? ⟨b, 1, none⟩ = some x1 ∧ w.cell? ⟨b, 2, none⟩ = some x2 ∧ w.cell? ⟨b, 3, none⟩ = some x3 := ⟨Blk.cell h rfl, Blk.cell h rfl, Blk.cell h rfl, Blk.cell h rfl⟩
theorem GrB.empty (h : GrB w b x0 x1 x2 x3 E F) : w.cell? ⟨b, 4, none⟩ = some (.int .u64 (wordAt E 0 : Nat)) ∧ w.cell? ⟨b, 5, none⟩ = some (.int .u64 (wordAt E 1 : Nat)) := ⟨Blk.cell h rfl, Blk.cell h rfl⟩
theorem GrB.fam (h : GrB w b x0 x1 x2 x3 E F) {n : Nat} (hn : n < 128) : w.cell? ⟨b, 6 + n * 2, none⟩ = some (.int .u64 (wordAt (F n) 0 : Nat)) ∧ w.cell? ⟨b, 6 + n * 2 + 1, none⟩ = some (.int .u64 (wordAt (F n) 1 : Nat)) := ⟨Blk.cell h ((grL_fam x0 x1 x2 x3 E F (n * 2)).trans (famL_word F (i := 0) hn (by omega))), Blk.cell h ((grL_fam x0 x1 x2 x3 E F (n * 2 + 1)).trans (famL_word F (i := 1) hn (by omega)))⟩
theorem GrB.set (h : GrB w b x0 x1 x2 x3 E F) (n A : Nat) : GrB ((w.setCell ⟨b, 6 + n * 2, none⟩ (.int .u64 (wordAt A 0 : Nat))).setCell ⟨b, 6 + n * 2 + 1, none⟩ (.int .u64 (wordAt A 1 : Nat))) b x0 x1 x2 x3 E (putV F n A) := by
  unfold GrB
  rw [← grL_set x0 x1 x2 x3 E F n A]
  exact (Blk.set h _ _).set _ _
theorem GrB.range (h : GrB w b x0 x1 x2 x3 E F) : w.rangeAt b 6 (famL F) := Blk.range h 6 (famL F) (fun j _ hv => (grL_fam x0 x1 x2 x3 E F j).trans hv)
end
theorem fam_size (F : Nat → Nat) : (Tryd.prog.info? 79).map (·.size) = some (famL F).length := by rw [famL_len]; kernel_rfl
theorem fam_sizeA (F : Nat → Nat) : (Tryd.prog.info? 79).map (·.size) = some (famL F).toArray.size := by rw [List.size_toArray, famL_len]; kernel_rfl
theorem gr_size (x0 x1 x2 x3 : Value) (E : Nat) (F : Nat → Nat) : (Tryd.prog.info? 81).map (·.size) = some (grL x0 x1 x2 x3 E F).toArray.size := by rw [List.size_toArray, grL_len]; kernel_rfl
/-- Two families compared. -/
theorem part_set (xs : Array Value) (k : Nat) (w : World) : (part 75 xs k).run Tryd.prog w = .ok (.agg (xs.extract k (k + 2))) w := by
  have hu : Tryd.prog.underlying 75 = some (.array 2 73) := by kernel_rfl
  have hs : (Tryd.prog.info? 75).map (·.size) = some 2 := by kernel_rfl
  obtain ⟨i0, h0, h1⟩ := Option.map_eq_some_iff.1 hs
  simp [part, isAgg, run_underlying hu, sizeOf, typeInfo, h0, h1]
theorem fam_part (F : Nat → Nat) {n : Nat} (hn : n < 128) : (famL F).toArray.extract (n * 2) (n * 2 + 2) = #[.int .u64 (wordAt (F n) 0 : Nat), .int .u64 (wordAt (F n) 1 : Nat)] := by
  apply Array.ext_getElem?
  intro i
  rw [Array.getElem?_extract]
  have h0 := famL_word F (i := 0) hn (by omega)
  have h1 := famL_word F (i := 1) hn (by omega)
  have hl : (famL F).toArray.size = 256 := by rw [List.size_toArray, famL_len]
  match i with
  | 0 => rw [if_pos (by rw [hl]; omega)]; simpa using h0
  | 1 => rw [if_pos (by rw [hl]; omega)]; simpa using h1
  | i + 2 => rw [if_neg (by rw [hl]; omega)]; rfl
theorem eqItems_fam (d : Nat) {F F0 : Nat → Nat} (hF : ∀ n, F n < 2 ^ 128) (h0 : ∀ n, F0 n < 2 ^ 128) (w : World) : ∀ is : List Nat, (∀ i ∈ is, i < 128) → (Op.eqItems (d + 2) 75 2 (famL F).toArray (famL F0).toArray is).run Tryd.prog w = .ok (is.all fun i => F i == F0 i) w
  | [], _ => by simp [Op.eqItems]
  | i :: is, h => by
    have hi := h i List.mem_cons_self
    simp only [Op.eqItems, Sem.run_bind]
    rw [part_set, fam_part F hi]
    simp only [Result.andThen_ok]
    rw [part_set, fam_part F0 hi]
    simp only [Result.andThen_ok]
    rw [eq_words w d, words_b (hF i) (h0 i)]
    simp only [Result.andThen_ok, List.all_cons]
    cases hb : (F i == F0 i) with
    | false => simp
    | true =>
      simp only [Bool.not_true, Bool.false_eq_true, if_false, Bool.true_and]
      exact eqItems_fam d hF h0 w is (fun j hj => h j (List.mem_cons_of_mem _ hj))
theorem neq_fam {F F0 : Nat → Nat} (hF : ∀ n, F n < 2 ^ 128) (h0 : ∀ n, F0 n < 2 ^ 128) (w : World) : (binOp .neq 79 (.agg (famL F).toArray) (.agg (famL F0).toArray)).run Tryd.prog w = .ok (.bool (!eqV F F0)) w := by
  have hu : Tryd.prog.underlying 79 = some (.array 128 75) := by kernel_rfl
  have hi0 : (Tryd.prog.info? 75).isSome = true := by kernel_rfl
  obtain ⟨i, hi⟩ := Option.isSome_iff_exists.1 hi0
  have hc : Tryd.prog.cellsOf 75 = 2 := by kernel_rfl
  rw [run_neq_struct, run_equalIn_array w 9999 _ _ hu hi, hc, eqItems_fam 9997 hF h0 w _ (fun i hi => List.mem_range.1 hi)]
  rfl
theorem zero_fam : Tryd.zeroCells79 = (famL fun _ => 0).toArray := by kernel_rfl
theorem fam_zero (w : World) : FaB (w.alloc (.cells Tryd.zeroCells79 79)) w.heap.size (fun _ => 0) := by
  rw [zero_fam]
  exact Blk.new w _ _
/-- How much of a family is left out. -/
def leftF (F : Nat → Nat) : Nat := sumV (fun n => leftS (F n)) 128
theorem leftF_lt {F F' : Nat → Nat} (hF : ∀ n, F n < 2 ^ 128) (hF' : ∀ n, F' n < 2 ^ 128) (h : ∀ x, famS F x → famS F' x) (hn : eqV F' F = false) : leftF F' < leftF F := by
  obtain ⟨i, hi, hne⟩ := eqV_not hn
  exact sumV_lt (fun n => leftS_le (A := F n) (B := F' n) (fun t ht => h (n, t) ht) (hF n) (hF' n)) hi (leftS_lt (A := F i) (B := F' i) (fun t ht => h (i, t) ht) (hF i) (hF' i) (fun e => hne e.symm))

end Ex
end Go.Proofs.YtooelfjceehmmaaDoor
