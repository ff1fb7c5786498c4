import Derived.Test.YtjomglclefbffaaDoorMSpNt
import Derived.Test.YtjomglclefbffaaDoorMSpLe
import Derived.BigQuiet
namespace Go.Proofs.YtjomglclefbffaaDoor
open Go.RowKit
namespace Ex

/-- With what a row begins, as a list: Fl what a name begins with, E the names that make nothing. -/
def headsL (nl : Nat) (E : Nat → Bool) (Fl : Nat → List Int) (nx : List Int) : List SymM → List Int
  | [] => nx
  | x :: xs => if x.1 = 3 then Fl x.2.toNat ++ (if E x.2.toNat = true then headsL nl E Fl nx xs else []) else [((termN nl x : Nat) : Int)]
/-- A list of ints that are the numbers of a set. -/
def LisS (l : List Int) (S : Nat → Prop) : Prop := ∀ z, z ∈ l ↔ ∃ t : Nat, z = (t : Int) ∧ S t
theorem headsL_is {nl : Nat} {E : Nat → Bool} {Fl : Nat → List Int} {nx : List Int} {E' : Nat → Prop} {F : Nat × Nat → Prop} {S : Nat → Prop} : ∀ {row : List SymM}, (∀ x ∈ row, x.1 = 3 → (E x.2.toNat = true ↔ E' x.2.toNat) ∧ LisS (Fl x.2.toNat) (fun t => F (x.2.toNat, t))) → LisS nx S → LisS (headsL nl E Fl nx row) (HeadS nl E' F S row)
  | [], _, h => h
  | x :: xs, hx, h => by
    intro z
    have ih := headsL_is (nl := nl) (fun y hy => hx y (List.mem_cons_of_mem _ hy)) h z
    unfold headsL
    by_cases h3 : x.1 = 3
    · obtain ⟨h1, h2⟩ := hx x List.mem_cons_self h3
      rw [if_pos h3, List.mem_append, h2 z]
      constructor
      · rintro (⟨t, rfl, ht⟩ | hz)
        · exact ⟨t, rfl, .inl ⟨h3, .inl ht⟩⟩
        · by_cases e : E x.2.toNat = true
          · rw [if_pos e] at hz
            obtain ⟨t, rfl, ht⟩ := ih.1 hz
            exact ⟨t, rfl, .inl ⟨h3, .inr ⟨h1.1 e, ht⟩⟩⟩
          · rw [if_neg e] at hz
            cases hz
      · rintro ⟨t, rfl, ⟨_, ht | ⟨he, ht⟩⟩ | ⟨hn, _⟩⟩
        · exact .inl ⟨t, rfl, ht⟩
        · right
          rw [if_pos (h1.2 he)]
          exact ih.2 ⟨t, rfl, ht⟩
        · exact absurd h3 hn
    · rw [if_neg h3, List.mem_singleton]
      constructor
      · rintro rfl
        exact ⟨_, rfl, .inr ⟨h3, rfl⟩⟩
      · rintro ⟨t, rfl, ⟨h, _⟩ | ⟨_, rfl⟩⟩
        · exact absurd h h3
        · rfl
theorem LisS.congr {l : List Int} {S S' : Nat → Prop} (h : LisS l S) (hs : ∀ t, S t ↔ S' t) : LisS l S' := fun z => (h z).trans ⟨fun ⟨t, h1, h2⟩ => ⟨t, h1, (hs t).1 h2⟩, fun ⟨t, h1, h2⟩ => ⟨t, h1, (hs t).2 h2⟩⟩
theorem LisS.nil : LisS [] (fun _ => False) := fun z => ⟨fun h => (by cases h), fun ⟨_, _, h⟩ => h.elim⟩
theorem LisS.sub {l l' : List Int} {S S' : Nat → Prop} (h : LisS l S) (h' : LisS l' S') (hs : ∀ t, S t → S' t) : ∀ z ∈ l, z ∈ l' := fun z hz => by
  obtain ⟨t, h1, h2⟩ := (h z).1 hz
  exact (h' z).2 ⟨t, h1, hs t h2⟩
theorem bits_lis {A : Nat} (hA : A < 2 ^ 128) : LisS (bitsTo A 128) (fun t => A.testBit t = true) := fun z => by
  constructor
  · intro hz
    unfold bitsTo at hz
    obtain ⟨t, ht, rfl⟩ := List.mem_map.1 hz
    exact ⟨t, rfl, by simpa using (List.mem_filter.1 ht).2⟩
  · rintro ⟨t, rfl, ht⟩
    exact bits_mem ht (bit_lt ht hA)
/-- Rising lists. -/
def RisL (l : List Int) : Prop := l.Pairwise (· < ·)
theorem bits_rising (A n : Nat) : RisL (bitsTo A n) := by
  unfold RisL bitsTo
  rw [List.pairwise_map]
  refine (List.Pairwise.filter _ List.pairwise_lt_range).imp ?_
  intro a b h
  exact Int.ofNat_lt.2 h
theorem RisL.lt {l : List Int} (h : RisL l) {i : Nat} {x y : Int} (hx : l[i]? = some x) (hy : l[i + 1]? = some y) : x < y := by
  obtain ⟨h1, rfl⟩ := List.getElem?_eq_some_iff.1 hx
  obtain ⟨h2, rfl⟩ := List.getElem?_eq_some_iff.1 hy
  exact (List.pairwise_iff_getElem.1 h) i (i + 1) h1 h2 (by omega)
/-- The rows of a right side's symbols, one behind the other, without a bound. -/
def yieldL (nl : Nat) (Y : Nat → List Int) : List SymM → List Int
  | [] => []
  | x :: xs => (if x.1 = 3 then Y x.2.toNat else [((termN nl x : Nat) : Int)]) ++ yieldL nl Y xs
theorem yieldL_snoc (nl : Nat) (Y : Nat → List Int) : ∀ (ys : List SymM) (x : SymM), yieldL nl Y (ys ++ [x]) = yieldL nl Y ys ++ (if x.1 = 3 then Y x.2.toNat else [((termN nl x : Nat) : Int)])
  | [], x => by simp [yieldL]
  | y :: ys, x => by
    rw [List.cons_append]
    unfold yieldL
    rw [yieldL_snoc nl Y ys x, List.append_assoc]
theorem yieldL_row {nl : Nat} {ps : List ProdM} {Y : Nat → List Int} : ∀ {ys : List SymM}, (∀ x ∈ ys, x.1 = 3 → Sen nl ps (x.2.toNat, Y x.2.toNat)) → RowOf nl (Sen nl ps) ys (yieldL nl Y ys)
  | [], _ => rfl
  | x :: xs, h => by
    refine ⟨_, _, rfl, ?_, yieldL_row (fun y hy => h y (List.mem_cons_of_mem _ hy))⟩
    by_cases h3 : x.1 = 3
    · rw [if_pos h3]
      exact .inl ⟨h3, h x List.mem_cons_self h3⟩
    · rw [if_neg h3]
      exact .inr ⟨h3, rfl⟩
theorem yieldL_len {nl : Nat} {Y : Nat → List Int} (hY : ∀ n, (Y n).length ≤ 4096) : ∀ (ys : List SymM), (yieldL nl Y ys).length ≤ 4096 * ys.length
  | [] => Nat.le_refl _
  | x :: xs => by
    have h := yieldL_len hY xs (nl := nl)
    unfold yieldL
    rw [List.length_append, List.length_cons]
    split
    · have := hY x.2.toNat
      omega
    · simp
      omega
theorem join_yield {nl : Nat} {L : Nat → Option (List Int)} : ∀ (ys : List SymM) (row x : List Int), joinM nl L ys row = some x → x = row ++ yieldL nl (fun n => (L n).getD []) ys
  | [], row, x, h => by
    have h : some row = some x := h
    injection h with h
    rw [h]
    simp [yieldL]
  | y :: ys, row, x, h => by
    unfold joinM at h
    unfold yieldL
    cases hs : symY nl L y with
    | none => rw [hs] at h; cases h
    | some a =>
      rw [hs] at h
      dsimp only at h
      split at h
      · cases h
      · rw [join_yield ys (row ++ a) x h, List.append_assoc]
        congr 2
        unfold symY at hs
        split at hs
        · next e => rw [if_pos e, hs]; rfl
        · next e => rw [if_neg e]; injection hs with hs; exact hs.symm
/-- No production makes a better row of the best ones. -/
theorem yield_not {nl : Nat} {ps : List ProdM} {L : Nat → Option (List Int)} (h : YIs nl ps L) {j : Nat} {p : ProdM} (hp : ps[j]? = some p) (hk : ∀ x ∈ p.2, x.1 = 3 → (L x.2.toNat).isSome = true) {r : List Int} (hr : L p.1.toNat = some r) : shorter (yieldL nl (fun n => (L n).getD []) p.2) r = false := by
  have hrow : RowOf nl (Sen nl ps) p.2 (yieldL nl (fun n => (L n).getD []) p.2) := yieldL_row (fun x hx h3 => by
    obtain ⟨r', hr'⟩ := Option.isSome_iff_exists.1 (hk x hx h3)
    show Sen nl ps (x.2.toNat, (L x.2.toNat).getD [])
    rw [hr']
    exact (h.1 _ _ hr').1)
  have hs := sen_rule hp hrow
  by_cases hl : (yieldL nl (fun n => (L n).getD []) p.2).length ≤ 4096
  · obtain ⟨r', h1, h2⟩ := h.2 _ _ hs hl
    rw [hr] at h1
    injection h1 with h1
    rw [h1]
    exact h2
  · have h2 : LeY r (yieldL nl (fun n => (L n).getD []) p.2) := by
      rw [ley_iff]
      left
      have := (h.1 _ _ hr).2
      omega
    exact h2
/-- Each best row is made by a production of best rows. -/
theorem yield_made {nl : Nat} {ps : List ProdM} {L : Nat → Option (List Int)} (h : YIs nl ps L) {n : Nat} {r : List Int} (hr : L n = some r) : ∃ (j : Nat) (p : ProdM), ps[j]? = some p ∧ p.1.toNat = n ∧ yieldL nl (fun n => (L n).getD []) p.2 = r := by
  have key : ∀ x, Sen nl ps x → Sen nl ps x ∧ (x.2.length ≤ 4096 → ∃ (j : Nat) (p : ProdM) (r' : List Int), ps[j]? = some p ∧ p.1.toNat = x.1 ∧ yieldL nl (fun n => (L n).getD []) p.2 = r' ∧ LeY r' x.2 ∧ Sen nl ps (x.1, r')) := fun x hx => by
    refine hx (fun x => Sen nl ps x ∧ (x.2.length ≤ 4096 → ∃ (j : Nat) (p : ProdM) (r' : List Int), ps[j]? = some p ∧ p.1.toNat = x.1 ∧ yieldL nl (fun n => (L n).getD []) p.2 = r' ∧ LeY r' x.2 ∧ Sen nl ps (x.1, r'))) ⟨fun _ h => h.elim, fun i hi x ⟨p, hp, hx1, hx2⟩ => ?_⟩
    refine ⟨?_, fun hl => ?_⟩
    · have := sen_rule hp (hx2.mono (fun _ h => h.1))
      rw [← hx1] at this
      exact this
    · obtain ⟨y, hy, hle⟩ := join_of (nl := nl) (L := L) p.2 x.2 [] [] (hx2.mono (fun z hz hl => h.2 z.1 z.2 hz.1 hl)) (LeY.refl []) (by simpa using hl)
      have e := join_yield p.2 [] y hy
      obtain ⟨c, hc, hrow⟩ := join_row (nl := nl) (ps := ps) (L := L) (fun n r hn => (h.1 n r hn).1) p.2 [] y hy
      rw [List.nil_append] at e hc hle
      subst hc
      refine ⟨i, p, y, hp, hx1.symm, e.symm, hle, ?_⟩
      rw [hx1]
      exact sen_rule hp hrow
  obtain ⟨hs, hl⟩ := h.1 n r hr
  obtain ⟨j, p, r', h1, h2, h3, h4, h5⟩ := (key (n, r) hs).2 hl
  refine ⟨j, p, h1, h2, ?_⟩
  obtain ⟨r2, e2, h6⟩ := h.2 n r' h5 (Nat.le_trans h4.len hl)
  rw [hr] at e2
  injection e2 with e2
  subst e2
  rw [h3]
  exact LeY.anti h4 h6
/-- A name that may make nothing makes the empty row. -/
theorem mk_sen {nl : Nat} {ps : List ProdM} {n : Nat} (h : Mk false ps n) : Sen nl ps (n, []) := h (fun n => Sen nl ps (n, [])) (fun p hp hx => by
  obtain ⟨i, hi⟩ := List.getElem?_of_mem hp
  have key : ∀ ys : List SymM, (∀ x ∈ ys, SymOk false (fun n => Sen nl ps (n, [])) x) → RowOf nl (Sen nl ps) ys [] := by
    intro ys
    induction ys with
    | nil => intro _; rfl
    | cons x xs ih =>
      intro h
      have hx := h x List.mem_cons_self
      have h3 : x.1 = 3 := by
        by_cases e : x.1 = 3
        · exact e
        · exact absurd (hx.2 e) (by decide)
      exact ⟨[], [], rfl, .inl ⟨h3, hx.1 h3⟩, ih (fun y hy => h y (List.mem_cons_of_mem _ hy))⟩
  exact sen_rule hi (key p.2 hx))
theorem yield_empty {nl : Nat} {ps : List ProdM} {L : Nat → Option (List Int)} (h : YIs nl ps L) {n : Nat} {r : List Int} (hr : L n = some r) : r = [] ↔ Mk false ps n := by
  constructor
  · intro e
    exact (sen_begins (h.1 n r hr).1).1 e
  · intro hm
    obtain ⟨r', h1, h2⟩ := h.2 n [] (mk_sen hm) (by simp)
    rw [hr] at h1
    injection h1 with h1
    subst h1
    have := h2.len
    exact List.length_eq_zero_iff.1 (by simpa using this)
theorem yield_first {nl : Nat} {ps : List ProdM} {L : Nat → Option (List Int)} (h : YIs nl ps L) {n : Nat} {t : Int} {r : List Int} (hr : L n = some (t :: r)) : ∃ u : Nat, t = (u : Int) ∧ Fi nl (Mk false ps) ps (n, u) := (sen_begins (h.1 n _ hr).1).2 t r rfl

end Ex
end Go.Proofs.YtjomglclefbffaaDoor
namespace Go.Proofs.YtjomglclefbffaaDoor
open Go.RowKit
attribute [local go_sem] Oper.semAt_some
namespace Ex

theorem ints_zero {w : World} {base : Nat} {v : Value} {l : List Int} (hown : IntsO w base v l) (a : Option Addr) (cap : Nat) (ty : TypeId) :
    (Builtin.append_ #[27, 27] ty #[v, .slice a 0 cap]).run Tryd.prog w = .ok v w := by
  obtain ⟨i0, hi, hz0, hz1, hz2⟩ := info_parts sint_info
  have ht : Tryd.prog.underlying 27 = some (.slice 3) := Tryd.underlying27
  have h2 : w.ownsRow base 3 1 v l.length (flatS l) := hown
  rcases h2.2 with ⟨rfl, h0⟩ | ⟨g, c, cur, rfl, _, _, hnc, _⟩
  · cases a <;> simp [Builtin.append_, run_underlying ht, sizeOf, typeInfo, hi, Builtin.lenOf, Builtin.firstCells, loadCells, loadCellsFrom, Result.andThen]
  · cases a <;> simp [Builtin.append_, run_underlying ht, sizeOf, typeInfo, hi, Builtin.lenOf, Builtin.firstCells, hnc, storeCells, loadCells, loadCellsFrom, Result.andThen]
set_option maxRecDepth 100000 in
/-- append of a list of ints that can be read, to one of the call's own. -/
theorem wpl_intsL {ops : Array Oper} {rest : List Oper} {o : Oper} {a : Act} {Q : Exit → Act → World → Prop} (hgd : o.guard = none) (s x : Operand)
    (ho : o.op = .call { callee := .builtin .append, args := #[s, x], argTypes := #[27, 27] }) (w0 W : World) (base : Nat) (v : Value) (l : List Int) (hs : a.eval s = v) (hb : w0.heap.size ≤ base) (hB : base ≤ W.heap.size) (hk : Kept w0 W) (hown : IntsO W base v l)
    (xv : Value) (ys zs : List Int) (n : Nat) (hz : l ++ ys = zs) (hn : zs.length = n) (hx : a.eval x = xv) (hv : IntsR W xv ys) (hl : n ≤ 8388608)
    (h : ∀ b' c' w', IntsO w' base (.slice b' n c') zs → Kept w0 w' → W.grownBy w' v.ownBlock → wpList Tryd.prog ops Q rest (a.put o.dst (.slice b' n c')) w') : wpList Tryd.prog ops Q (o :: rest) a W := by
  subst hz
  rw [List.length_append] at hn
  obtain ⟨av, cv, rfl, hcl, _⟩ := SliceOf.len hv
  by_cases hy : ys = []
  · subst hy
    obtain ⟨b', c', rfl⟩ := hown.form
    rw [List.append_nil] at h
    have hr := ints_zero hown av cv o.type
    obtain rfl : l.length = n := by simpa using hn
    exact Lib.wpList_append_run W hgd s x _ _ ho _ _ hs hx _ W hr (h b' c' W hown hk ⟨rfl, rfl, rfl, Nat.le_refl _, fun _ _ _ => rfl⟩)
  · obtain ⟨y, ys', rfl⟩ : ∃ y ys', ys = y :: ys' := by
      cases ys with
      | nil => exact absurd rfl hy
      | cons y ys' => exact ⟨y, ys', rfl⟩
    obtain ⟨g, o', rfl, _⟩ := hv.at_ (i := 0) (x := y) rfl
    obtain ⟨i0, hi, hz0, hz1, hz2⟩ := info_parts sint_info
    refine wpList_append_lies W hgd s x 27 ho base 3 i0 _ 1 8 Tryd.underlying27 hi hz0 hz1 hz2 rfl (by decide) v l.length (flatS l) hs hown ⟨g, o', none⟩ (y :: ys').length cv (flatS (y :: ys')) hx (by unfold flatS; rw [List.length_map]; omega) ?_ ?_ (by simp) (by unfold maxLen; omega) (by omega) hB W.heap.size rfl ?_
    · intro j u hj
      unfold flatS at hj
      rw [List.getElem?_map] at hj
      obtain ⟨z, hz, rfl⟩ := Option.map_eq_some_iff.1 hj
      obtain ⟨g2, o2, e, k⟩ := hv.at_ hz
      injection e with e
      injection e with e1 e2 _
      subst e1 e2
      rw [Addr.add_mid]
      exact k
    · intro u hu
      unfold flatS at hu
      obtain ⟨z, _, rfl⟩ := List.mem_map.1 hu
      rfl
    · intro g' cap w' h1 h2 _ _
      refine (hn ▸ h (some ⟨g', 0, none⟩) cap w' ?_ ?_ h2)
      · rw [← hn]
        show w'.ownsRow base 3 1 _ (l ++ (y :: ys')).length (flatS (l ++ (y :: ys')))
        unfold flatS
        rw [List.length_append, List.map_append]
        exact h1
      · exact ⟨h2.os.trans hk.1, h2.tape.trans hk.2.1, h2.output.trans hk.2.2.1, Nat.le_trans hk.size h2.size, fun d hd => (h2.block d (Nat.lt_of_lt_of_le hd hk.size) (fun e => by have := (hown.lt d e.symm).1; omega)).trans (hk.2.2.2.2 d hd)⟩
def WiI (m : Nat) (w : World) (vi : Value) (wr : World) : Prop := ∃ j : Nat, vi = .int .i64 (j : Int) ∧ j ≤ m ∧ wr = w
set_option linter.unusedSimpArgs false in
set_option maxRecDepth 100000 in
set_option maxHeartbeats 4000000 in
/-- Every number of the one in the other. -/
theorem lWithin_yes (a b : Option Addr) (m c n d : Nat) (l r : List Int) (w : World) (e1 : l.length = m) (e2 : r.length = n) (h1 : IntsR w (.slice a m c) l) (h2 : IntsR w (.slice b n d) r) (hin : ∀ z ∈ l, z ∈ r) :
    Calls Tryd.prog 16 #[.slice a m c, .slice b n d] w fun e w' => e = .returned (.bool true) ∧ w' = w := by
  obtain ⟨_, _, q1, hc1, hn1⟩ := SliceOf.len h1
  simp only [Value.slice.injEq] at q1
  obtain ⟨rfl, en1, rfl⟩ := q1
  clear en1
  rw [e1] at hc1 hn1
  have g1 : (m : Int) ≤ 17592186044416 := by omega
  have H1 := hide1 h1
  have H2 := hide1 h2
  have E1 := hide1 e1
  have E2 := hide1 e2
  have HI := hide1 hin
  clear h1 h2 e1 e2 hin
  go_enter Tryd.func16, Tryd.ntmps16
  go_wp2_with fail
  go_loopw [5] (WiI m w) (fun i _ => m - (intOf i).toNat)
  case atStart => exact ⟨0, rfl, Nat.zero_le _, rfl⟩
  case round =>
    obtain ⟨j, rfl, hj, rfl⟩ := hrel
    by_cases hlt : (j : Int) < (m : Int)
    · obtain ⟨x, hx⟩ : ∃ x, l[j]? = some x := ⟨_, List.getElem?_eq_getElem (by have := E1.out; omega)⟩
      obtain ⟨b1, o1, ea1, k1⟩ := H1.out.at_ hx
      subst ea1
      have gj1 : (j : Int) < (c : Int) := by omega
      have HM := hide1 (HI.out x (List.mem_of_getElem? hx))
      clear hx
      go_wp2_with (go_at_call 13; refine (lHas_yes b n d r x _ E2.out H2.out HM.out).mono ?_; rintro e w9 ⟨rfl, rfl⟩)
      go_roundw
      case rel => exact ⟨j + 1, by go_num, by omega, rfl⟩
      case measure => simp [intOf]; omega
    · go_wp2_with fail
      go_ret
      exact ⟨rfl, rfl⟩
def RiI (m : Nat) (w : World) (vi : Value) (wr : World) : Prop := ∃ j q : Nat, vi = .int .i64 (j : Int) ∧ 1 ≤ j ∧ j ≤ m + 1 ∧ Hid (wr = w.drewN q)
/-- A list that rises, to be read. -/
def RisAt (w : World) (v : Value) : Prop := ∃ l, IntsR w v l ∧ RisL l
theorem RisAt.keep {w w' : World} {v : Value} (h : RisAt w v) (hk : Kept w w') : RisAt w' v := by
  obtain ⟨l, h1, h2⟩ := h
  exact ⟨l, h1.keep hk, h2⟩
set_option linter.unusedSimpArgs false in
set_option maxRecDepth 100000 in
set_option maxHeartbeats 4000000 in
theorem rising_q (a : Option Addr) (m c : Nat) (w : World) (h : RisAt w (.slice a m c)) :
    Calls Tryd.prog 19 #[.slice a m c] w fun e w' => e = .returned (.bool true) ∧ ∃ q, w' = w.drewN q := by
  obtain ⟨l, h1, hr⟩ := h
  obtain ⟨_, _, q1, hc1, hn1⟩ := SliceOf.len h1
  simp only [Value.slice.injEq] at q1
  obtain ⟨rfl, en1, rfl⟩ := q1
  have g1 : (m : Int) ≤ 17592186044416 := by omega
  have hcm : m ≤ c := by omega
  have H1 := hide1 h1
  have E1 := hide1 en1.symm
  have HR := hide1 hr
  clear h1 en1 hr hc1 hn1
  go_enter Tryd.func19, Tryd.ntmps19
  go_wp2_with fail
  go_loopw [3] (RiI m w) (fun i _ => m - (intOf i).toNat)
  case atStart => exact ⟨1, 0, rfl, Nat.le_refl _, by omega, rfl⟩
  case round =>
    obtain ⟨j, q, rfl, hj1, hj, HQ⟩ := hrel
    have HK : Hid (Kept w wr) := hide1 (by rw [HQ.out]; exact drewN_kept w q)
    by_cases hlt : (j : Int) < (m : Int)
    · obtain ⟨i, rfl⟩ : ∃ i, j = i + 1 := ⟨j - 1, by omega⟩
      obtain ⟨x, hx⟩ : ∃ x, l[i]? = some x := ⟨_, List.getElem?_eq_getElem (by have := E1.out; omega)⟩
      obtain ⟨y, hy⟩ : ∃ y, l[i + 1]? = some y := ⟨_, List.getElem?_eq_getElem (by have := E1.out; omega)⟩
      obtain ⟨b1, o1, ea1, k1⟩ := (H1.out.keep HK.out).at_ hx
      obtain ⟨b2, o2, ea2, k2⟩ := (H1.out.keep HK.out).at_ hy
      subst ea1
      injection ea2 with ea2
      injection ea2 with ea2 ea3 _
      subst ea2 ea3
      have hxy : x < y := HR.out.lt hx hy
      have hd : decide (y ≤ x) = false := by simp; omega
      rw [show ((i + 1 : Nat) : Int) = (i : Int) + 1 by omega] at hlt ⊢
      have gj1 : (i : Int) + 1 < (c : Int) := by omega
      have gj2 : (i : Int) < (c : Int) := by omega
      have gj3 : (i : Int) < (m : Int) := by omega
      have gs : IntKind.i64.wrap ((i : Int) + 1 - 1) = (i : Int) := by rw [show (i : Int) + 1 - 1 = (i : Int) by omega, IntKind.wrap_i64]; omega
      have gt : ((i : Int) + 1).toNat = i + 1 := by omega
      clear hx hy
      go_upto_region 4 with fail
      go_quiet (fail)
      have HQn : Hid (wr.drewN nq = w.drewN (q + nq)) := hide1 (by rw [HQ.out, World.drewN_drewN])
      clear k1 k2
      generalize wr.drewN nq = wq at HQn ⊢
      go_wp2_with fail
      go_roundw
      case rel => exact ⟨i + 2, q + nq, by go_num, by omega, by omega, HQn⟩
      case measure => simp [intOf]; omega
    · go_wp2_with fail
      go_ret
      exact ⟨rfl, q, HQ.out⟩

end Ex
end Go.Proofs.YtjomglclefbffaaDoor
namespace Go.Proofs.YtjomglclefbffaaDoor
open Go.RowKit
attribute [local go_sem] Oper.semAt_some
namespace Ex

/-- What a Told tells of the names, to be read. -/
def TdRd (w : World) (g1 g2 nn : Nat) (E : Nat → Bool) (Fl : Nat → List Int) : Prop := ∀ x, x < nn → w.cell? ⟨g1, x, none⟩ = some (.bool (E x)) ∧ (Fl x).length ≤ 128 ∧ ∃ a c, w.cell? ⟨g2, x, none⟩ = some (.slice a (Fl x).length c) ∧ IntsR w (.slice a (Fl x).length c) (Fl x)
theorem TdRd.keep {w w' : World} {g1 g2 nn : Nat} {E : Nat → Bool} {Fl : Nat → List Int} (h : TdRd w g1 g2 nn E Fl) (hk : Kept w w') : TdRd w' g1 g2 nn E Fl := fun x hx => by
  obtain ⟨h1, h2, a, c, h3, h4⟩ := h x hx
  exact ⟨grown_cell hk h1, h2, a, c, grown_cell hk h3, h4.keep hk⟩
/-- A symbol of a spec in order. -/
def SymS (nn : Nat) (x : SymM) : Prop := (x.1 = 1 ∧ 0 ≤ x.2) ∨ x.1 = 2 ∨ (x.1 = 3 ∧ 0 ≤ x.2 ∧ x.2 < (nn : Int))
def HtI (nl : Nat) (E : Nat → Bool) (Fl : Nat → List Int) (nx : List Int) (row : List SymM) (W : World) (v9 vi : Value) (wr : World) : Prop := ∃ (j n : Nat) (out : List Int), vi = .int .i64 (j : Int) ∧ j ≤ row.length ∧ (∃ a c, v9 = .slice a n c) ∧ n ≤ 128 * j ∧ Hid (out.length = n) ∧ Hid (IntsO wr W.heap.size v9 out) ∧ Hid (headsL nl E Fl nx row = out ++ headsL nl E Fl nx (row.drop j)) ∧ Hid (Kept W wr)
theorem headsL_term {nl : Nat} {E : Nat → Bool} {Fl : Nat → List Int} {nx : List Int} {kd n : Int} {xs : List SymM} (h : kd ≠ 3) {t : Int} (ht : ((termN nl (kd, n) : Nat) : Int) = t) : headsL nl E Fl nx ((kd, n) :: xs) = [t] := by
  unfold headsL
  rw [if_neg h, ht]
theorem headsL_name {nl : Nat} {E : Nat → Bool} {Fl : Nat → List Int} {nx : List Int} {p : Nat} {xs : List SymM} : headsL nl E Fl nx ((3, (p : Int)) :: xs) = Fl p ++ (if E p = true then headsL nl E Fl nx xs else []) := rfl
set_option linter.unusedSimpArgs false in
set_option maxRecDepth 100000 in
set_option maxHeartbeats 8000000 in
/-- With what a row begins, by what is told. -/
theorem tHeads_is (g1 g2 nn nl : Nat) (x2 x3 : Value) (fl : Bool) (E : Nat → Bool) (Fl : Nat → List Int) (al : Option Addr) (cl : Nat) (y1 y2 y3 : Value) (ar : Option Addr) (nr cr : Nat) (row : List SymM) (ax : Option Addr) (m cx : Nat) (nx : List Int) (w : World) (hnl : nl ≤ 64) (h16 : nr ≤ 16) (hrow : row.length = nr) (hr : RightAt w (.slice ar nr cr) row) (hsym : ∀ x ∈ row, SymS nn x) (hT : TdRd w g1 g2 nn E Fl) (hnx : nx.length = m) (hx : IntsR w (.slice ax m cx) nx) (hm : m ≤ 128) :
    Calls Tryd.prog 17 #[.agg #[.slice (some ⟨g1, 0, none⟩) nn nn, .slice (some ⟨g2, 0, none⟩) nn nn, x2, x3, .bool fl], .agg #[.slice al nl cl, y1, y2, y3], .slice ar nr cr, .slice ax m cx] w fun e w' => (∃ v, e = .returned v ∧ IntsO w' w.heap.size v (headsL nl E Fl nx row)) ∧ Kept w w' := by
  obtain ⟨_, _, e1, hc, hn⟩ := hr.len
  simp only [Value.slice.injEq] at e1
  obtain ⟨rfl, en, rfl⟩ := e1
  clear en
  rw [hrow] at hc hn
  have gn : (nr : Int) ≤ 16 := by omega
  have gnl : (nl : Int) ≤ 64 := by omega
  have HTD : Hid (TdBox (w.alloc (.cells #[.slice (some ⟨g1, 0, none⟩) nn nn, .slice (some ⟨g2, 0, none⟩) nn nn, x2, x3, .bool fl] 31)) w.heap.size (.slice (some ⟨g1, 0, none⟩) nn nn) (.slice (some ⟨g2, 0, none⟩) nn nn) x2 x3 fl) := heap_alloc_new w _
  have HK1 : Hid (Kept w (w.alloc (.cells #[.slice (some ⟨g1, 0, none⟩) nn nn, .slice (some ⟨g2, 0, none⟩) nn nn, x2, x3, .bool fl] 31))) := (Kept.refl w).alloc _ _
  have HROW := hide1 hrow
  have HR := hide1 hr
  have HSY := hide1 hsym
  have HT := hide1 hT
  have HNX := hide1 hnx
  have HX := hide1 hx
  clear hrow hr hsym hT hnx hx
  go_enter Tryd.func17, Tryd.ntmps17
  go_upto_region 1 with fail
  obtain ⟨W1, hW1⟩ : ∃ W1, w.alloc (.cells #[.slice (some ⟨g1, 0, none⟩) nn nn, .slice (some ⟨g2, 0, none⟩) nn nn, x2, x3, .bool fl] 31) = W1 := ⟨_, rfl⟩
  rw [hW1] at HTD HK1 ⊢
  have hs1 : W1.heap.size = w.heap.size + 1 := by rw [← hW1]; simp
  clear hW1
  have HB := hide1 (SBox.new W1 (.slice al nl cl) y1 y2 y3)
  have HK2 : Hid (Kept W1 (W1.alloc (.cells #[.slice al nl cl, y1, y2, y3] 26))) := (Kept.refl W1).alloc _ _
  obtain ⟨W, hW⟩ : ∃ W, W1.alloc (.cells #[.slice al nl cl, y1, y2, y3] 26) = W := ⟨_, rfl⟩
  rw [hW] at HB HK2 ⊢
  clear hW
  rw [hs1] at HB
  clear hs1
  obtain ⟨tb, htb⟩ : ∃ tb, w.heap.size = tb := ⟨_, rfl⟩
  have HTB : Hid (w.heap.size ≤ W.heap.size) := hide1 (Nat.le_trans HK1.out.size HK2.out.size)
  rw [htb] at HTD HB ⊢
  have HTZ := hide1 htb
  clear htb
  have HTD2 := hide1 (TdBox.keep HTD.out HK2.out)
  have HKW := hide1 (gtrans HK1.out HK2.out)
  clear HTD HK1 HK2
  go_wp2_with fail
  go_loopw [9, 10] (HtI nl E Fl nx row W) (fun _ i _ => nr - (intOf i).toNat)
  case atStart => exact ⟨0, 0, [], rfl, Nat.zero_le _, ⟨none, 0, rfl⟩, Nat.le_refl _, rfl, IntsO.nil _ _, rfl, Kept.refl _⟩
  case round =>
    obtain ⟨j, n, out, rfl, hj, ⟨oa, oc, rfl⟩, hnj, HN, HO, HE, HKr⟩ := hrel
    rw [HROW.out] at hj
    by_cases hlt : (j : Int) < (nr : Int)
    · obtain ⟨x, hx⟩ : ∃ x, row[j]? = some x := ⟨_, List.getElem?_eq_getElem (by have := HROW.out; omega)⟩
      obtain ⟨cb, ob, cs, ea, hcb, hlen, hcell, hcs⟩ := SliceOf.el (HR.out.keep (gtrans HKW.out HKr.out)) hx
      have hcs : cs = [.int .i64 x.1, .int .i64 x.2] := hcs
      subst ea hcs
      have k0 : wr.cell? ⟨cb, ob + j * 2, none⟩ = some (.int .i64 x.1) := hcell 0 _ rfl
      have k1 := hcell 1 _ rfl
      have HGX := hide1 (HSY.out x (List.mem_of_getElem? hx))
      have gjc : (j : Int) < (cr : Int) := by omega
      have HDR : Hid (row.drop j = x :: row.drop (j + 1)) := by
        obtain ⟨hj2, e⟩ := List.getElem?_eq_some_iff.1 hx
        show _ = _
        rw [List.drop_eq_getElem_cons hj2, e]
      obtain ⟨kd, nm⟩ := x
      clear hx hcell hlen
      have HX4 := hide1 (XBox.new wr kd nm)
      have HK4 : Hid (Kept wr (wr.alloc (.cells #[.int .i64 kd, .int .i64 nm] 45))) := (Kept.refl wr).alloc _ _
      go_upto_region 6 with fail
      clear k0 k1
      obtain ⟨W4, hW4⟩ : ∃ W4, wr.alloc (.cells #[.int .i64 kd, .int .i64 nm] 45) = W4 := ⟨_, rfl⟩
      rw [hW4] at HX4 HK4 ⊢
      clear hW4
      obtain ⟨xb, hxb⟩ : ∃ xb, wr.heap.size = xb := ⟨_, rfl⟩
      have HNX2 : Hid (some xb ≠ (Value.slice oa n oc).ownBlock) := hide1 (fun e => by have h := (HO.out.lt xb e.symm).2; omega)
      rw [hxb] at HX4 ⊢
      clear hxb
      have HK4w := hide1 (gtrans HKr.out HK4.out)
      have HO4 := hide1 (HO.out.keep HK4.out)
      obtain ⟨t0, t1⟩ := HX4.out.cells
      by_cases h1 : kd = 1
      · subst h1
        have HEE : Hid (headsL nl E Fl nx row = out ++ [nm]) := hide1 (by
          rw [HE.out, HDR.out, headsL_term (by decide)]
          rcases HGX.out with h | h | h
          · show ((nm.toNat : Nat) : Int) = nm
            exact Int.toNat_of_nonneg h.2
          · exact absurd h (by show ¬ (1 : Int) = 2; decide)
          · exact absurd h.1 (by show ¬ (1 : Int) = 3; decide))
        have HLE : Hid (out.length ≤ 8388608) := hide1 (by rw [HN.out]; omega)
        clear HE HDR HGX
        go_wp2_with (at_builtin; go_must (refine wpl_ints rfl _ _ rfl _ W.heap.size _ _ n HN.out (by rfl) (HO4.out.keep (w' := W4.alloc (.cells #[.int .i64 nm] 3)) ((Kept.refl W4).alloc _ _)) W4.heap.size nm (by rfl) (heap_alloc_new W4 _) HLE.out (by exact Nat.le_trans HK4w.out.size (allocS_le W4 _)) ?_; intro g9 c9 w9 ho9 hg9 hor9 hl9; have HO9 := hide1 ho9; have HK9 := hide1 (grown_own HK4w.out (Nat.le_refl _) HO4.out hg9); clear ho9 hg9 hor9 hl9))
        go_ret
        exact ⟨⟨_, rfl, by rw [HEE.out]; exact IntsO.low HO9.out HTB.out⟩, gtrans HKW.out HK9.out⟩
      · have hb1 : (kd == 1) = false := by simpa using h1
        by_cases h2 : kd = 2
        · subst h2
          have HEE : Hid (headsL nl E Fl nx row = out ++ [(nl : Int)]) := hide1 (by
            rw [HE.out, HDR.out, headsL_term (t := (nl : Int)) (by decide) rfl])
          have HLE : Hid (out.length ≤ 8388608) := hide1 (by rw [HN.out]; omega)
          obtain ⟨s0, s1, s2, s3⟩ := (HB.out.keep HK4w.out).facts
          clear HE HDR HGX
          go_wp2_with (at_builtin; go_must (refine wpl_ints rfl _ _ rfl _ W.heap.size _ _ n HN.out (by rfl) (HO4.out.keep (w' := W4.alloc (.cells #[.int .i64 (nl : Int)] 3)) ((Kept.refl W4).alloc _ _)) W4.heap.size (nl : Int) (by rfl) (heap_alloc_new W4 _) HLE.out (by exact Nat.le_trans HK4w.out.size (allocS_le W4 _)) ?_; intro g9 c9 w9 ho9 hg9 hor9 hl9; have HO9 := hide1 ho9; have HK9 := hide1 (grown_own HK4w.out (Nat.le_refl _) HO4.out hg9); clear ho9 hg9 hor9 hl9))
          go_ret
          exact ⟨⟨_, rfl, by rw [HEE.out]; exact IntsO.low HO9.out HTB.out⟩, gtrans HKW.out HK9.out⟩
        · have hb2 : (kd == 2) = false := by simpa using h2
          obtain ⟨rfl, hn0, hn1⟩ : kd = 3 ∧ 0 ≤ nm ∧ nm < (nn : Int) := by
            rcases HGX.out with h | h | h
            · exact absurd h.1 h1
            · exact absurd h h2
            · exact h
          clear h1 h2 hb1 hb2
          obtain ⟨p, rfl⟩ : ∃ p : Nat, nm = (p : Int) := ⟨nm.toNat, by omega⟩
          have hp : p < nn := by omega
          obtain ⟨q1, q2, fa, fc, q3, q4⟩ := (HT.out.keep (gtrans HKW.out HK4w.out)) p hp
          obtain ⟨fn, hfn⟩ : ∃ fn, (Fl p).length = fn := ⟨_, rfl⟩
          rw [hfn] at q2 q3 q4
          have HFR := hide1 q4
          obtain ⟨zs, hzs⟩ : ∃ zs, out ++ Fl p = zs := ⟨_, rfl⟩
          have HZL : Hid (zs.length = n + fn) := hide1 (by rw [← hzs, List.length_append, HN.out, hfn])
          have HZS := hide1 hzs
          obtain ⟨ep, hep⟩ : ∃ ep, E p = ep := ⟨_, rfl⟩
          rw [hep] at q1
          have HEE : Hid (headsL nl E Fl nx row = zs ++ (if ep = true then headsL nl E Fl nx (row.drop (j + 1)) else [])) := hide1 (by
            rw [HE.out, HDR.out, headsL_name, hep, ← hzs, List.append_assoc])
          have HEP := hide1 hep
          obtain ⟨f0, f1, f2, f3, f4⟩ := (TdBox.cells (TdBox.keep HTD2.out HK4w.out)).1
          have gpn : (p : Int) < (nn : Int) := by omega
          have gfn : (n : Int) + (fn : Int) ≤ 4096 := by omega
          have HWB : Hid (W.heap.size ≤ W4.heap.size) := hide1 HK4w.out.size
          clear HE HDR HGX hfn hzs hep q4 hn0 hn1
          go_upto_region 11 with (at_builtin; go_must (refine wpl_intsL rfl _ _ rfl W _ W.heap.size _ out (by rfl) (Nat.le_refl _) HWB.out HK4w.out HO4.out (.slice fa fn fc) (Fl p) zs (n + fn) HZS.out HZL.out (by rfl) HFR.out (by omega) ?_; intro b9 c9 w9 ho9 hk9 hg9; have HO9 := hide1 ho9; have HK9 := hide1 hk9; have HX9 : Hid (XBox w9 xb 3 (p : Int)) := hide1 ((hg9.block xb HX4.out.lt HNX2.out).trans HX4.out); clear ho9 hk9 hg9))
          clear q1 q3 t0 t1 f0 f1 f2 f3 f4
          obtain ⟨f0, f1, f2, f3, f4⟩ := (TdBox.cells (TdBox.keep HTD2.out HK9.out)).1
          obtain ⟨t0, t1⟩ := HX9.out.cells
          have q1 := ((HT.out.keep (gtrans HKW.out HK9.out)) p hp).1
          rw [HEP.out] at q1
          cases ep with
          | false =>
            have HEF : Hid (headsL nl E Fl nx row = zs) := hide1 (by rw [HEE.out]; simp)
            go_wp2_with fail
            go_ret
            exact ⟨⟨_, rfl, by rw [HEF.out]; exact IntsO.low HO9.out HTB.out⟩, gtrans HKW.out HK9.out⟩
          | true =>
            have HEF : Hid (headsL nl E Fl nx row = zs ++ headsL nl E Fl nx (row.drop (j + 1))) := hide1 (by rw [HEE.out]; simp)
            go_wp2_with fail
            go_roundw
            case rel => exact ⟨j + 1, n + fn, zs, by go_num, by rw [HROW.out]; omega, ⟨_, _, rfl⟩, by omega, HZL, HO9, HEF, HK9⟩
            case measure => simp [intOf]; omega
    · have HEE : Hid (headsL nl E Fl nx row = out ++ nx) := hide1 (by
        rw [HE.out, List.drop_of_length_le (by have := HROW.out; omega)]
        rfl)
      obtain ⟨zs, hzs⟩ : ∃ zs, out ++ nx = zs := ⟨_, rfl⟩
      have HZL : Hid (zs.length = n + m) := hide1 (by rw [← hzs, List.length_append, HN.out, HNX.out])
      have HZS := hide1 hzs
      rw [hzs] at HEE
      clear hzs
      have gfn : (n : Int) + (m : Int) ≤ 4096 := by omega
      have HXR := hide1 (HX.out.keep (gtrans HKW.out HKr.out))
      have HWB : Hid (W.heap.size ≤ wr.heap.size) := hide1 HKr.out.size
      go_wp2_with (at_builtin; go_must (refine wpl_intsL rfl _ _ rfl W _ W.heap.size _ out (by rfl) (Nat.le_refl _) HWB.out HKr.out HO.out (.slice ax m cx) nx zs (n + m) HZS.out HZL.out (by rfl) HXR.out (by omega) ?_; intro b9 c9 w9 ho9 hk9 hg9; have HO9 := hide1 ho9; have HK9 := hide1 hk9; clear ho9 hk9 hg9))
      go_ret
      exact ⟨⟨_, rfl, by rw [HEE.out]; exact IntsO.low HO9.out HTB.out⟩, gtrans HKW.out HK9.out⟩

end Ex
end Go.Proofs.YtjomglclefbffaaDoor
namespace Go.Proofs.YtjomglclefbffaaDoor
open Go.RowKit
attribute [local go_sem] Oper.semAt_some
namespace Ex

/-- What a Told tells of the yields, to be read. -/
def YlRd (w : World) (yb yo nn : Nat) (Y : Nat → List Int) : Prop := ∀ x, x < nn → (Y x).length ≤ 4096 ∧ ∃ a c, w.cell? ⟨yb, yo + x, none⟩ = some (.slice a (Y x).length c) ∧ IntsR w (.slice a (Y x).length c) (Y x)
theorem YlRd.keep {w w' : World} {yb yo nn : Nat} {Y : Nat → List Int} (h : YlRd w yb yo nn Y) (hk : Kept w w') : YlRd w' yb yo nn Y := fun x hx => by
  obtain ⟨h2, a, c, h3, h4⟩ := h x hx
  exact ⟨h2, a, c, grown_cell hk h3, h4.keep hk⟩
def YtI (nl : Nat) (Y : Nat → List Int) (row : List SymM) (W : World) (v7 vi : Value) (wr : World) : Prop := ∃ (j n : Nat) (out : List Int), vi = .int .i64 (j : Int) ∧ j ≤ row.length ∧ (∃ a c, v7 = .slice a n c) ∧ n ≤ 4096 * j ∧ Hid (out.length = n) ∧ Hid (IntsO wr W.heap.size v7 out) ∧ Hid (yieldL nl Y (row.take j) = out) ∧ Hid (Kept W wr)
theorem yield_take {nl : Nat} {Y : Nat → List Int} {row : List SymM} {j : Nat} {x : SymM} {out zs : List Int} (h : yieldL nl Y (row.take j) = out) (hx : row[j]? = some x) (hz : out ++ (if x.1 = 3 then Y x.2.toNat else [((termN nl x : Nat) : Int)]) = zs) : yieldL nl Y (row.take (j + 1)) = zs := by
  rw [List.take_add_one, hx]
  show yieldL nl Y (row.take j ++ [x]) = zs
  rw [yieldL_snoc, h, hz]
theorem PBox.new2 (w : World) (l v : Value) : PBox (w.alloc (.cells #[l, v] 37)) w.heap.size l v := PBox.new w l v
set_option linter.unusedSimpArgs false in
set_option maxRecDepth 100000 in
set_option maxHeartbeats 8000000 in
/-- What a production makes of the yields. -/
theorem tYield_is (yb yo nn nl m cm : Nat) (x0 x1 x2 : Value) (fl : Bool) (Y : Nat → List Int) (al : Option Addr) (cl : Nat) (y1 y2 y3 : Value) (left : Int) (ar : Option Addr) (nr cr : Nat) (row : List SymM) (w : World) (hnl : nl ≤ 64) (hm : nn ≤ m) (hcm : m ≤ cm) (h16 : nr ≤ 16) (hrow : row.length = nr) (hr : RightAt w (.slice ar nr cr) row) (hsym : ∀ x ∈ row, SymS nn x) (hT : YlRd w yb yo nn Y) :
    Calls Tryd.prog 20 #[.agg #[x0, x1, x2, .slice (some ⟨yb, yo, none⟩) m cm, .bool fl], .agg #[.slice al nl cl, y1, y2, y3], .agg #[.int .i64 left, .slice ar nr cr]] w fun e w' => (∃ v, e = .returned v ∧ IntsO w' w.heap.size v (yieldL nl Y row)) ∧ Kept w w' := by
  obtain ⟨_, _, e1, hc, hn⟩ := hr.len
  simp only [Value.slice.injEq] at e1
  obtain ⟨rfl, en, rfl⟩ := e1
  clear en
  rw [hrow] at hc hn
  have gn : (nr : Int) ≤ 16 := by omega
  have gnl : (nl : Int) ≤ 64 := by omega
  have HTD : Hid (TdBox (w.alloc (.cells #[x0, x1, x2, .slice (some ⟨yb, yo, none⟩) m cm, .bool fl] 31)) w.heap.size x0 x1 x2 (.slice (some ⟨yb, yo, none⟩) m cm) fl) := heap_alloc_new w _
  have HK1 : Hid (Kept w (w.alloc (.cells #[x0, x1, x2, .slice (some ⟨yb, yo, none⟩) m cm, .bool fl] 31))) := (Kept.refl w).alloc _ _
  have HROW := hide1 hrow
  have HR := hide1 hr
  have HSY := hide1 hsym
  have HT := hide1 hT
  clear hrow hr hsym hT
  go_enter Tryd.func20, Tryd.ntmps20
  go_upto_region 1 with fail
  obtain ⟨W1, hW1⟩ : ∃ W1, w.alloc (.cells #[x0, x1, x2, .slice (some ⟨yb, yo, none⟩) m cm, .bool fl] 31) = W1 := ⟨_, rfl⟩
  rw [hW1] at HTD HK1 ⊢
  have hs1 : W1.heap.size = w.heap.size + 1 := by rw [← hW1]; simp
  clear hW1
  have HB := hide1 (SBox.new W1 (.slice al nl cl) y1 y2 y3)
  have HK2 : Hid (Kept W1 (W1.alloc (.cells #[.slice al nl cl, y1, y2, y3] 26))) := (Kept.refl W1).alloc _ _
  obtain ⟨W2, hW2⟩ : ∃ W2, W1.alloc (.cells #[.slice al nl cl, y1, y2, y3] 26) = W2 := ⟨_, rfl⟩
  rw [hW2] at HB HK2 ⊢
  have hs2 : W2.heap.size = w.heap.size + 1 + 1 := by rw [← hW2, ← hs1]; simp
  clear hW2
  have HPB := hide1 (PBox.new W2 (.int .i64 left) (.slice ar nr cr))
  have HK3 : Hid (Kept W2 (W2.alloc (.cells #[.int .i64 left, .slice ar nr cr] 37))) := (Kept.refl W2).alloc _ _
  obtain ⟨W, hW⟩ : ∃ W, W2.alloc (.cells #[.int .i64 left, .slice ar nr cr] 37) = W := ⟨_, rfl⟩
  rw [hW] at HPB HK3 ⊢
  clear hW
  rw [hs1] at HB
  rw [hs2] at HPB
  clear hs1 hs2
  have HTB : Hid (w.heap.size ≤ W.heap.size) := hide1 (Nat.le_trans HK1.out.size (Nat.le_trans HK2.out.size HK3.out.size))
  obtain ⟨tb, htb⟩ : ∃ tb, w.heap.size = tb := ⟨_, rfl⟩
  rw [htb] at HTD HB HPB ⊢
  have HTZ := hide1 htb
  clear htb
  have HTD2 := hide1 (TdBox.keep HTD.out (gtrans HK2.out HK3.out))
  have HB2 := hide1 (HB.out.keep HK3.out)
  have HKW := hide1 (gtrans HK1.out (gtrans HK2.out HK3.out))
  clear HTD HK1 HK2 HK3 HB
  go_wp2_with fail
  go_loopw [7, 8] (YtI nl Y row W) (fun _ i _ => nr - (intOf i).toNat)
  case atStart => exact ⟨0, 0, [], rfl, Nat.zero_le _, ⟨none, 0, rfl⟩, Nat.le_refl _, rfl, IntsO.nil _ _, rfl, Kept.refl _⟩
  case round =>
    obtain ⟨j, n, out, rfl, hj, ⟨oa, oc, rfl⟩, hnj, HN, HO, HE, HKr⟩ := hrel
    rw [HROW.out] at hj
    obtain ⟨p0, p1⟩ := (HPB.out.keep HKr.out).cells
    by_cases hlt : (j : Int) < (nr : Int)
    · obtain ⟨x, hx⟩ : ∃ x, row[j]? = some x := ⟨_, List.getElem?_eq_getElem (by have := HROW.out; omega)⟩
      obtain ⟨cb, ob, cs, ea, hcb, hlen, hcell, hcs⟩ := SliceOf.el (HR.out.keep (gtrans HKW.out HKr.out)) hx
      have hcs : cs = [.int .i64 x.1, .int .i64 x.2] := hcs
      subst ea hcs
      have k0 : wr.cell? ⟨cb, ob + j * 2, none⟩ = some (.int .i64 x.1) := hcell 0 _ rfl
      have k1 := hcell 1 _ rfl
      have HGX := hide1 (HSY.out x (List.mem_of_getElem? hx))
      have HXX := hide1 hx
      have gjc : (j : Int) < (cr : Int) := by omega
      obtain ⟨kd, nm⟩ := x
      clear hx hcell hlen
      have HX4 := hide1 (XBox.new wr kd nm)
      have HK4 : Hid (Kept wr (wr.alloc (.cells #[.int .i64 kd, .int .i64 nm] 45))) := (Kept.refl wr).alloc _ _
      go_upto_region 6 with fail
      clear k0 k1 p0 p1
      obtain ⟨W4, hW4⟩ : ∃ W4, wr.alloc (.cells #[.int .i64 kd, .int .i64 nm] 45) = W4 := ⟨_, rfl⟩
      rw [hW4] at HX4 HK4 ⊢
      clear hW4
      obtain ⟨xb, hxb⟩ : ∃ xb, wr.heap.size = xb := ⟨_, rfl⟩
      rw [hxb] at HX4 ⊢
      clear hxb
      have HK4w := hide1 (gtrans HKr.out HK4.out)
      have HO4 := hide1 (HO.out.keep HK4.out)
      obtain ⟨t0, t1⟩ := HX4.out.cells
      by_cases h1 : kd = 1
      · subst h1
        have HLE : Hid (out.length ≤ 8388608) := hide1 (by rw [HN.out]; omega)
        have HYE : Hid (yieldL nl Y (row.take (j + 1)) = out ++ [nm]) := hide1 (yield_take HE.out HXX.out (by
          have e : ((termN nl ((1 : Int), nm) : Nat) : Int) = nm := by
            rcases HGX.out with h | h | h
            · show ((nm.toNat : Nat) : Int) = nm
              exact Int.toNat_of_nonneg h.2
            · exact absurd h (by show ¬ (1 : Int) = 2; decide)
            · exact absurd h.1 (by show ¬ (1 : Int) = 3; decide)
          rw [if_neg (by show ¬ (1 : Int) = 3; decide), e]))
        have HLL : Hid ((out ++ [nm]).length = n + 1) := hide1 (by rw [List.length_append, HN.out]; rfl)
        clear HE HXX HGX
        go_wp2_with (at_builtin; go_must (refine wpl_ints rfl _ _ rfl _ W.heap.size _ _ n HN.out (by rfl) (HO4.out.keep (w' := W4.alloc (.cells #[.int .i64 nm] 3)) ((Kept.refl W4).alloc _ _)) W4.heap.size nm (by rfl) (heap_alloc_new W4 _) HLE.out (by exact Nat.le_trans HK4w.out.size (allocS_le W4 _)) ?_; intro g9 c9 w9 ho9 hg9 hor9 hl9; have HO9 := hide1 ho9; have HK9 := hide1 (grown_own HK4w.out (Nat.le_refl _) HO4.out hg9); clear ho9 hg9 hor9 hl9))
        go_roundw
        case rel => exact ⟨j + 1, n + 1, out ++ [nm], by go_num, by rw [HROW.out]; omega, ⟨_, _, rfl⟩, by omega, HLL, HO9, HYE, HK9⟩
        case measure => simp [intOf]; omega
      · have hb1 : (kd == 1) = false := by simpa using h1
        by_cases h2 : kd = 2
        · subst h2
          have HLE : Hid (out.length ≤ 8388608) := hide1 (by rw [HN.out]; omega)
          have HYE : Hid (yieldL nl Y (row.take (j + 1)) = out ++ [(nl : Int)]) := hide1 (yield_take HE.out HXX.out (by rw [if_neg (by show ¬ (2 : Int) = 3; decide)]; rfl))
          have HLL : Hid ((out ++ [(nl : Int)]).length = n + 1) := hide1 (by rw [List.length_append, HN.out]; rfl)
          obtain ⟨s0, s1, s2, s3⟩ := (HB2.out.keep HK4w.out).facts
          clear HE HXX HGX
          go_wp2_with (at_builtin; go_must (refine wpl_ints rfl _ _ rfl _ W.heap.size _ _ n HN.out (by rfl) (HO4.out.keep (w' := W4.alloc (.cells #[.int .i64 (nl : Int)] 3)) ((Kept.refl W4).alloc _ _)) W4.heap.size (nl : Int) (by rfl) (heap_alloc_new W4 _) HLE.out (by exact Nat.le_trans HK4w.out.size (allocS_le W4 _)) ?_; intro g9 c9 w9 ho9 hg9 hor9 hl9; have HO9 := hide1 ho9; have HK9 := hide1 (grown_own HK4w.out (Nat.le_refl _) HO4.out hg9); clear ho9 hg9 hor9 hl9))
          go_roundw
          case rel => exact ⟨j + 1, n + 1, out ++ [(nl : Int)], by go_num, by rw [HROW.out]; omega, ⟨_, _, rfl⟩, by omega, HLL, HO9, HYE, HK9⟩
          case measure => simp [intOf]; omega
        · have hb2 : (kd == 2) = false := by simpa using h2
          obtain ⟨rfl, hn0, hn1⟩ : kd = 3 ∧ 0 ≤ nm ∧ nm < (nn : Int) := by
            rcases HGX.out with h | h | h
            · exact absurd h.1 h1
            · exact absurd h h2
            · exact h
          clear h1 h2 hb1 hb2
          obtain ⟨p, rfl⟩ : ∃ p : Nat, nm = (p : Int) := ⟨nm.toNat, by omega⟩
          have hp : p < nn := by omega
          obtain ⟨q2, fa, fc, q3, q4⟩ := (HT.out.keep (gtrans HKW.out HK4w.out)) p hp
          obtain ⟨fn, hfn⟩ : ∃ fn, (Y p).length = fn := ⟨_, rfl⟩
          rw [hfn] at q2 q3 q4
          have HFR := hide1 q4
          obtain ⟨zs, hzs⟩ : ∃ zs, out ++ Y p = zs := ⟨_, rfl⟩
          have HZL : Hid (zs.length = n + fn) := hide1 (by rw [← hzs, List.length_append, HN.out, hfn])
          have HZS := hide1 hzs
          have HYE : Hid (yieldL nl Y (row.take (j + 1)) = zs) := hide1 (yield_take HE.out HXX.out (by rw [if_pos rfl]; exact hzs))
          obtain ⟨f0, f1, f2, f3, f4⟩ := (TdBox.cells (TdBox.keep HTD2.out HK4w.out)).1
          have gpm : (p : Int) < (m : Int) := by omega
          have gpc : (p : Int) < (cm : Int) := by omega
          have gfn : (n : Int) + (fn : Int) ≤ 69632 := by omega
          have HWB : Hid (W.heap.size ≤ W4.heap.size) := hide1 HK4w.out.size
          clear HE HXX HGX hfn hzs q4 hn0 hn1
          go_wp2_with (at_builtin; go_must (refine wpl_intsL rfl _ _ rfl W _ W.heap.size _ out (by rfl) (Nat.le_refl _) HWB.out HK4w.out HO4.out (.slice fa fn fc) (Y p) zs (n + fn) HZS.out HZL.out (by rfl) HFR.out (by omega) ?_; intro b9 c9 w9 ho9 hk9 hg9; have HO9 := hide1 ho9; have HK9 := hide1 hk9; clear ho9 hk9 hg9))
          go_roundw
          case rel => exact ⟨j + 1, n + fn, zs, by go_num, by rw [HROW.out]; omega, ⟨_, _, rfl⟩, by omega, HZL, HO9, HYE, HK9⟩
          case measure => simp [intOf]; omega
    · have HEE : Hid (yieldL nl Y row = out) := hide1 (by
        have h := HE.out
        rw [List.take_of_length_le (by have := HROW.out; omega)] at h
        exact h)
      go_wp2_with fail
      go_ret
      exact ⟨⟨_, rfl, by rw [HEE.out]; exact IntsO.low HO.out HTB.out⟩, gtrans HKW.out HKr.out⟩

end Ex
end Go.Proofs.YtjomglclefbffaaDoor
