import Derived.Test.YtbnchnlogikecaaGreatDoorMExFr0
import Derived.Deep.AppendLies
import Derived.Test.YtbnchnlogikecaaGreatDoorMExRd2
import Derived.Handy
namespace Go.Proofs.YtbnchnlogikecaaGreatDoor
open Go.RowKit
namespace Ex

/-- Patterns of n levels as patterns of m levels (what lies deeper falls away). -/
def fitL : (m n : Nat) → List (PatN n) → List (PatN m)
  | 0, _, _ => []
  | _ + 1, 0, _ => []
  | m + 1, n + 1, l => l.map fun p => (show PatN (m + 1) from (kind p, from_ p, to_ p, min_ p, max_ p, fitL m n (kids p)))
theorem KidsAt.fit {S : Nat → Prop} {w : World} : ∀ (n m : Nat), n ≤ m → ∀ (l : List (PatN n)) (v : Value), KidsAt S w n l v → KidsAt S w m (fitL m n l) v
  | 0, 0, _, _, _, h => h
  | 0, m + 1, _, _, v, h => by
    obtain ⟨a, cap, h⟩ := h
    exact ⟨a, cap, h, Nat.zero_le _, Nat.zero_le _, Or.inl rfl⟩
  | n + 1, 0, hm, _, _, _ => absurd hm (by omega)
  | n + 1, m + 1, hm, l, v, ⟨a, cap, h1, h2, h3, h4⟩ => by
    have e : (fitL (m + 1) (n + 1) l).length = l.length := List.length_map ..
    refine ⟨a, cap, by rw [e]; exact h1, by rw [e]; exact h2, by rw [e]; exact h3, ?_⟩
    rcases h4 with h4 | ⟨c, o, h5, h6, h7⟩
    · left; rw [h4]; rfl
    · refine Or.inr ⟨c, o, h5, h6, fun i q hq => ?_⟩
      have hq' : (l.map fun p => (show PatN (m + 1) from (kind p, from_ p, to_ p, min_ p, max_ p, fitL m n (kids p))))[i]? = some q := hq
      rw [List.getElem?_map] at hq'
      obtain ⟨p, hp, rfl⟩ := Option.map_eq_some_iff.1 hq'
      obtain ⟨v', g0, g1, g2, g3, g4, g5, g6⟩ := h7 i p hp
      exact ⟨v', g0, g1, g2, g3, g4, g5, KidsAt.fit n m (by omega) (kids p) v' g6⟩
theorem KidsAt.tight {S : Nat → Prop} {w : World} : ∀ (n : Nat) (l : List (PatN n)) (v : Value), KidsAt S w n l v → KidsAt (fun d => S d ∧ d < w.heap.size) w n l v
  | 0, _, _, h => h
  | n + 1, l, v, ⟨a, cap, h1, h2, h3, h4⟩ => by
    refine ⟨a, cap, h1, h2, h3, ?_⟩
    rcases h4 with h4 | ⟨c, o, h5, h6, h7⟩
    · exact Or.inl h4
    · by_cases hl : l = []
      · exact Or.inl hl
      · have hlt : c < w.heap.size := by
          obtain ⟨q, l', rfl⟩ := List.exists_cons_of_ne_nil hl
          obtain ⟨v', g0, _⟩ := h7 0 q rfl
          exact World.block_lt_of_cell? w _ g0
        refine Or.inr ⟨c, o, h5, ⟨h6, hlt⟩, fun i q hq => ?_⟩
        obtain ⟨v', g0, g1, g2, g3, g4, g5, g6⟩ := h7 i q hq
        exact ⟨v', g0, g1, g2, g3, g4, g5, KidsAt.tight n (kids q) v' g6⟩

/-- Patterns of any depth. -/
def Pat : Type := (n : Nat) × PatN (n + 1)
def topL : List Pat → Nat
  | [] => 0
  | p :: l => max (p.1 + 1) (topL l)
def kidsOf (m : Nat) (l : List Pat) : List (PatN m) := l.flatMap fun p => fitL m (p.1 + 1) [p.2]
def mkP (k f t mn mx : Int) (l : List Pat) : Pat := ⟨topL l, (show PatN (topL l + 1) from (k, f, t, mn, mx, kidsOf (topL l) l))⟩
/-- A list of patterns, six cells each. -/
def FlatAt (S : Nat → Prop) (w : World) : List Pat → List Value → Prop
  | [], xs => xs = []
  | p :: l, xs => ∃ v' ys, xs = .int .i64 (kind p.2) :: .int .i64 (from_ p.2) :: .int .i64 (to_ p.2) :: .int .i64 (min_ p.2) :: .int .i64 (max_ p.2) :: v' :: ys ∧ KidsAt S w p.1 (kids p.2) v' ∧ FlatAt S w l ys
theorem FlatAt.len {S : Nat → Prop} {w : World} : ∀ {l : List Pat} {xs : List Value}, FlatAt S w l xs → xs.length = l.length * 6
  | [], _, h => by rw [h]; rfl
  | _ :: l, _, ⟨v', ys, h1, _, h3⟩ => by rw [h1]; have := FlatAt.len h3; simp only [List.length_cons]; omega
theorem FlatAt.mono {S S' : Nat → Prop} {w w' : World} (hs : Holds S w w') (hS : ∀ b, S b → S' b) : ∀ {l : List Pat} {xs : List Value}, FlatAt S w l xs → FlatAt S' w' l xs
  | [], _, h => h
  | _ :: _, _, ⟨v', ys, h1, h2, h3⟩ => ⟨v', ys, h1, KidsAt.mono hs hS _ _ _ h2, FlatAt.mono hs hS h3⟩
theorem FlatAt.tight {S : Nat → Prop} {w : World} : ∀ {l : List Pat} {xs : List Value}, FlatAt S w l xs → FlatAt (fun d => S d ∧ d < w.heap.size) w l xs
  | [], _, h => h
  | _ :: _, _, ⟨v', ys, h1, h2, h3⟩ => ⟨v', ys, h1, KidsAt.tight _ _ _ h2, FlatAt.tight h3⟩
/-- The six cells of a pattern. -/
def cellsP (p : Pat) (v' : Value) : List Value := [.int .i64 (kind p.2), .int .i64 (from_ p.2), .int .i64 (to_ p.2), .int .i64 (min_ p.2), .int .i64 (max_ p.2), v']
theorem FlatAt.snoc {S : Nat → Prop} {w : World} : ∀ {l : List Pat} {xs : List Value} {p : Pat} {v' : Value}, FlatAt S w l xs → KidsAt S w p.1 (kids p.2) v' → FlatAt S w (l ++ [p]) (xs ++ cellsP p v')
  | [], xs, p, v', h, hk => by
    rw [show xs = [] from h]
    exact ⟨v', [], rfl, hk, rfl⟩
  | q :: l, xs, p, v', ⟨u', ys, h1, h2, h3⟩, hk => by
    rw [h1]
    exact ⟨u', ys ++ cellsP p v', rfl, h2, FlatAt.snoc h3 hk⟩
theorem FlatAt.at {S : Nat → Prop} {w : World} : ∀ {l : List Pat} {xs : List Value} {i : Nat} {p : Pat}, FlatAt S w l xs → l[i]? = some p →
    ∃ v', xs[i * 6]? = some (.int .i64 (kind p.2)) ∧ xs[i * 6 + 1]? = some (.int .i64 (from_ p.2)) ∧ xs[i * 6 + 2]? = some (.int .i64 (to_ p.2)) ∧ xs[i * 6 + 3]? = some (.int .i64 (min_ p.2)) ∧ xs[i * 6 + 4]? = some (.int .i64 (max_ p.2)) ∧ xs[i * 6 + 5]? = some v' ∧ KidsAt S w p.1 (kids p.2) v'
  | [], _, i, p, _, hi => by simp at hi
  | q :: l, _, 0, p, ⟨v', ys, h1, h2, h3⟩, hi => by
    rw [List.getElem?_cons_zero, Option.some.injEq] at hi
    subst hi
    rw [h1]
    exact ⟨v', rfl, rfl, rfl, rfl, rfl, rfl, h2⟩
  | q :: l, _, i + 1, p, ⟨v', ys, h1, h2, h3⟩, hi => by
    rw [List.getElem?_cons_succ] at hi
    obtain ⟨u', g⟩ := FlatAt.at h3 hi
    have e : ∀ j, (i + 1) * 6 + j = i * 6 + j + 6 := fun j => by omega
    have e0 : (i + 1) * 6 = i * 6 + 6 := by omega
    rw [h1]
    refine ⟨u', ?_⟩
    rw [e0, show i * 6 + 6 + 1 = i * 6 + 1 + 6 by omega, show i * 6 + 6 + 2 = i * 6 + 2 + 6 by omega, show i * 6 + 6 + 3 = i * 6 + 3 + 6 by omega, show i * 6 + 6 + 4 = i * 6 + 4 + 6 by omega, show i * 6 + 6 + 5 = i * 6 + 5 + 6 by omega]
    simp only [List.getElem?_cons_succ]
    exact g
theorem kidsOf_succ (m : Nat) : ∀ (l : List Pat), kidsOf (m + 1) l = l.map fun p => (show PatN (m + 1) from (kind p.2, from_ p.2, to_ p.2, min_ p.2, max_ p.2, fitL m p.1 (kids p.2)))
  | [] => rfl
  | p :: l => by
    have := kidsOf_succ m l
    unfold kidsOf at this ⊢
    rw [List.flatMap_cons, this]
    rfl
theorem top_le {l : List Pat} {p : Pat} (h : p ∈ l) : p.1 + 1 ≤ topL l := by
  induction l with
  | nil => cases h
  | cons q l ih =>
    unfold topL
    rcases List.mem_cons.1 h with h | h
    · subst h; omega
    · have := ih h; omega
theorem FlatAt.kids {S : Nat → Prop} {w : World} {l : List Pat} {xs : List Value} {m c o cap : Nat} (h : FlatAt S w l xs) (hx : ∀ j u, xs[j]? = some u → w.cell? ⟨c, o + j, none⟩ = some u) (hS : S c) (hm : topL l ≤ m) (hl : l.length ≤ 17592186044416) (hc : l.length ≤ cap) :
    KidsAt S w m (kidsOf m l) (.slice (some ⟨c, o, none⟩) l.length cap) := by
  cases m with
  | zero =>
    have : l = [] := by
      cases l with
      | nil => rfl
      | cons p l => have := top_le (List.mem_cons_self (a := p) (l := l)); omega
    subst this
    exact ⟨_, _, rfl⟩
  | succ m =>
    rw [kidsOf_succ]
    have e : ∀ F : Pat → PatN (m + 1), (l.map F).length = l.length := fun F => List.length_map ..
    refine ⟨_, cap, by rw [e], by rw [e]; exact hc, by rw [e]; exact hl, Or.inr ⟨c, o, rfl, hS, fun i q hq => ?_⟩⟩
    rw [List.getElem?_map] at hq
    obtain ⟨p, hp, rfl⟩ := Option.map_eq_some_iff.1 hq
    obtain ⟨v', g0, g1, g2, g3, g4, g5, g6⟩ := h.at hp
    have hp1 := top_le (List.mem_of_getElem? hp)
    refine ⟨v', hx _ _ g0, ?_, ?_, ?_, ?_, ?_, KidsAt.fit _ _ (by omega) _ _ g6⟩
    · rw [Nat.add_assoc]; exact hx _ _ g1
    · rw [Nat.add_assoc]; exact hx _ _ g2
    · rw [Nat.add_assoc]; exact hx _ _ g3
    · rw [Nat.add_assoc]; exact hx _ _ g4
    · rw [Nat.add_assoc]; exact hx _ _ g5
/-- No list at all. -/
theorem kids_nil (S : Nat → Prop) (w : World) (m cap : Nat) (a : Option Addr) (l : List (PatN m)) (h : l = []) : KidsAt S w m l (.slice a 0 cap) := by
  subst h
  cases m with
  | zero => exact ⟨_, _, rfl⟩
  | succ m => exact ⟨_, _, rfl, Nat.zero_le _, Nat.zero_le _, Or.inl rfl⟩

/-- A value that is a pattern. -/
def PatV (S : Nat → Prop) (w : World) (p : Pat) (v : Value) : Prop := ∃ v', v = valOf p.2 v' ∧ KidsAt S w p.1 (kids p.2) v'
theorem PatV.mono {S S' : Nat → Prop} {w w' : World} (hs : Holds S w w') (hS : ∀ b, S b → S' b) {p : Pat} {v : Value} (h : PatV S w p v) : PatV S' w' p v := by
  obtain ⟨v', h1, h2⟩ := h
  exact ⟨v', h1, KidsAt.mono hs hS _ _ _ h2⟩

end Ex
end Go.Proofs.YtbnchnlogikecaaGreatDoor
namespace Go.Proofs.YtbnchnlogikecaaGreatDoor
open Go.RowKit
attribute [local go_sem] Oper.semAt_some
namespace Ex

def rangeV (f t : Int) : Value := .agg #[.int .i64 1, .int .i64 f, .int .i64 t, .int .i64 0, .int .i64 0, .slice none 0 0]
def rangeP (f t : Int) : Pat := mkP 1 f t 0 0 []
theorem rangeV_pat (S : Nat → Prop) (w : World) (f t : Int) : PatV S w (rangeP f t) (rangeV f t) := ⟨.slice none 0 0, rfl, kids_nil _ _ _ _ _ _ rfl⟩

set_option linter.unusedSimpArgs false in
set_option maxRecDepth 100000 in
set_option maxHeartbeats 2000000 in
theorem single_is (c : Int) (w : World) : Calls Tryz.prog 140 #[.int .i64 c] w fun e w' => e = .returned (rangeV c c) ∧ Kept w w' := by
  unfold rangeV
  go_enter Tryz.func140, Tryz.ntmps140
  go_wp2
  all_goals
    go_returns
    exact ⟨rfl, (Kept.refl w).alloc _ _⟩

theorem one_flat {S : Nat → Prop} {w : World} {p : Pat} {v' : Value} (h : KidsAt S w p.1 (kids p.2) v') : FlatAt S w [p] (cellsP p v') := FlatAt.snoc (l := []) (xs := []) rfl h
theorem box_cells (w : World) (p : Pat) (v' : Value) (t : TypeId) : ∀ j u, (cellsP p v')[j]? = some u → (w.alloc (.cells #[.int .i64 (kind p.2), .int .i64 (from_ p.2), .int .i64 (to_ p.2), .int .i64 (min_ p.2), .int .i64 (max_ p.2), v'] t)).cell? ⟨w.heap.size, 0 + j, none⟩ = some u := by
  intro j u h
  have hb := box_at w (.int .i64 (kind p.2)) (.int .i64 (from_ p.2)) (.int .i64 (to_ p.2)) (.int .i64 (min_ p.2)) (.int .i64 (max_ p.2)) v' t
  have hj : j < 6 := (List.getElem?_eq_some_iff.1 h).1
  rw [Nat.zero_add]
  match j, hj with
  | 0, _ => rw [hb.1]; exact h
  | 1, _ => rw [hb.2.1]; exact h
  | 2, _ => rw [hb.2.2.1]; exact h
  | 3, _ => rw [hb.2.2.2.1]; exact h
  | 4, _ => rw [hb.2.2.2.2.1]; exact h
  | 5, _ => rw [hb.2.2.2.2.2]; exact h
def PGives (S : Nat → Prop) (p : Pat) (e : Ending) (w' : World) : Prop := ∃ v, e = .returned v ∧ PatV S w' p v

set_option linter.unusedSimpArgs false in
set_option maxRecDepth 100000 in
set_option maxHeartbeats 2000000 in
theorem repeat_is (S : Nat → Prop) (p : Pat) (v : Value) (w : World) (mn mx : Int) (h : PatV S w p v) (hN : ∀ b, w.heap.size ≤ b → S b) :
    Calls Tryz.prog 138 #[v, .int .i64 mn, .int .i64 mx] w fun e w' => PGives S (mkP 4 0 0 mn mx [p]) e w' ∧ Kept w w' := by
  obtain ⟨v', rfl, hk⟩ := h
  have HK := hide1 hk
  have HN := hide1 hN
  obtain ⟨a, cap, rfl⟩ := hk.form
  rw [valOf_eq]
  clear hk hN
  go_enter Tryz.func138, Tryz.ntmps138
  go_wp2
  all_goals
    go_returns
    have hkept := (((Kept.refl w).alloc #[.int .i64 (kind p.2), .int .i64 (from_ p.2), .int .i64 (to_ p.2), .int .i64 (min_ p.2), .int .i64 (max_ p.2), .slice a (kids p.2).length cap] 70).alloc #[.int .i64 4, .int .i64 0, .int .i64 0, .int .i64 mn, .int .i64 mx, .slice (some ⟨w.heap.size + 1 + 1, 0, none⟩) 1 1] 70).alloc #[.int .i64 (kind p.2), .int .i64 (from_ p.2), .int .i64 (to_ p.2), .int .i64 (min_ p.2), .int .i64 (max_ p.2), .slice a (kids p.2).length cap] 70
    refine ⟨⟨_, rfl, _, rfl, ?_⟩, hkept⟩
    have hflat := one_flat (p := p) (HK.out.kept hkept)
    have hb := box_cells ((w.alloc (.cells #[.int .i64 (kind p.2), .int .i64 (from_ p.2), .int .i64 (to_ p.2), .int .i64 (min_ p.2), .int .i64 (max_ p.2), .slice a (kids p.2).length cap] 70)).alloc (.cells #[.int .i64 4, .int .i64 0, .int .i64 0, .int .i64 mn, .int .i64 mx, .slice (some ⟨w.heap.size + 1 + 1, 0, none⟩) 1 1] 70)) p (.slice a (kids p.2).length cap) 70
    have hsz : ((w.alloc (.cells #[.int .i64 (kind p.2), .int .i64 (from_ p.2), .int .i64 (to_ p.2), .int .i64 (min_ p.2), .int .i64 (max_ p.2), .slice a (kids p.2).length cap] 70)).alloc (.cells #[.int .i64 4, .int .i64 0, .int .i64 0, .int .i64 mn, .int .i64 mx, .slice (some ⟨w.heap.size + 1 + 1, 0, none⟩) 1 1] 70)).heap.size = w.heap.size + 1 + 1 := by simp
    rw [hsz] at hb
    exact hflat.kids (cap := 1) hb (HN.out _ (by omega)) (Nat.le_refl _) (by simp) (by simp)

/-- What a call of the reader leaves: the state s, all else as it was. -/
def RGave (b : Nat) (w : World) (T : ByteArray) (s : Int × Int × Int) (w' : World) : Prop := (0 ≤ s.1 ∧ s.1 ≤ T.size) ∧ KeptBut b w w' ∧ RAt w' b T s.1 s.2.1 s.2.2
def failS (T : ByteArray) (s : Int × Int × Int) (x y : Int) : Int × Int × Int := (T.size, failE s.2.1 x, failF s.2.1 s.2.2 y)
def wrongS (T : ByteArray) (s : Int × Int × Int) : Int × Int × Int := failS T s (wrongC T s.1) s.1

/-- The reader's place. -/
def placeOf (b : Nat) (w : World) : Nat := (intOf ((w.cell? ⟨b, 1, none⟩).getD (.int .i64 0))).toNat
theorem RAt.place {w : World} {b : Nat} {T : ByteArray} {k e f : Int} (h : RAt w b T k e f) : placeOf b w = k.toNat := by
  unfold placeOf; rw [h.cells.2.1]; rfl
/-- Up to m digits. -/
def numG (T : ByteArray) : Nat → Int → Int → Int × Int
  | 0, k, n => (n, k)
  | m + 1, k, n => if digitP (peekP T k) then numG T m (k + 1) (n * 10 + (peekP T k - 48)) else (n, k)
def numberS (T : ByteArray) (s : Int × Int × Int) : Int × Int × Int × Int := if (numG T 4 s.1 0).2 = s.1 then ((numG T 4 s.1 0).1, wrongS T s) else ((numG T 4 s.1 0).1, (numG T 4 s.1 0).2, s.2)
theorem peek_lt {T : ByteArray} {k : Int} (h : peekP T k ≠ 0) : 0 ≤ k ∧ k < T.size := by
  unfold peekP at h
  split at h
  · assumption
  · exact absurd rfl h
theorem numG_end {T : ByteArray} {N : Nat} {k n : Int} (h : N = 0 ∨ digitP (peekP T k) = false) : numG T N k n = (n, k) := by
  cases N with
  | zero => rfl
  | succ N =>
    rcases h with h | h
    · omega
    · rw [numG, h]; rfl

set_option linter.unusedSimpArgs false in
set_option maxRecDepth 100000 in
set_option maxHeartbeats 2000000 in
theorem number_is (T : ByteArray) (k e f : Int) (b : Nat) (w : World) (h : RAt w b T k e f) (h0 : 0 ≤ k) (h1 : k ≤ T.size) (hT : T.size ≤ 4096) :
    Calls Tryz.prog 144 #[.pointer (some ⟨b, 0, none⟩)] w fun r w' => r = .returned (.int .i64 (numberS T (k, e, f)).1) ∧ RGave b w T (numberS T (k, e, f)).2 w' := by
  have HR := hide1 h
  obtain ⟨c0, c1, c2, c3, c4⟩ := h.cells
  have hb := h.lt
  have gT : (T.size : Int) ≤ 4096 := by omega
  clear h
  go_enter Tryz.func144, Tryz.ntmps144
  go_wp2_with (go_quiet (fail))
  clear c1
  go_loopw [3] (fun n wr => ∃ (j : Nat) (k1 n1 : Int), n = .int .i64 n1 ∧ k1 = k + (j : Int) ∧ j ≤ 4 ∧ k1 ≤ (T.size : Int) ∧ 0 ≤ n1 ∧ Hid (n1 < 10 ^ j) ∧ Hid (KeptBut b w wr) ∧ Hid (RAt wr b T k1 e f) ∧ Hid (∀ N, numG T (j + N) k 0 = numG T N k1 n1)) (fun _ wr => T.size - placeOf b wr)
  case atStart => exact ⟨0, k, 0, rfl, by omega, by omega, h1, by omega, by show (0 : Int) < 10 ^ 0; omega, (drewN_kept _ _).but b, HR.out.drew _, fun N => by rw [Nat.zero_add]⟩
  case round =>
    obtain ⟨j, k1, n1, rfl, hk1, hj, hk2, hn0, HN, HKr, HRr, HM⟩ := hrel
    obtain ⟨c0, c1, c2, c3, c4⟩ := HRr.out.cells
    obtain ⟨z0, z1, z2, z3, z4⟩ := HRr.out.free
    have hbr := HRr.out.lt
    have hc := peek_byte T k1
    unfold IsB at hc
    obtain ⟨c, hcc⟩ : ∃ c, peekP T k1 = c := ⟨_, rfl⟩
    have HC := hide1 hcc
    rw [hcc] at hc
    by_cases hlt : k1 < k + 4
    · by_cases hd : digitP c = true
      · have hd2 : 48 ≤ c ∧ c ≤ 57 := by unfold digitP at hd; simpa using hd
        have hlt2 := peek_lt (T := T) (k := k1) (by rw [hcc]; omega)
        have hn9 : n1 ≤ 999 := by
          have h1 := HN.out
          have h2 : (10 : Int) ^ j ≤ 1000 := by
            have : j = 0 ∨ j = 1 ∨ j = 2 ∨ j = 3 := by omega
            rcases this with rfl | rfl | rfl | rfl <;> decide
          omega
        clear hcc
        go_wp2_with (first
          | (go_at_call 135; refine (peek_is T k1 e f b _ (by exact HRr.out) (by omega) hk2 hT).mono ?_; rintro e w6 ⟨rfl, m, rfl⟩; rw [HC.out])
          | (go_at_call 147; refine (digit_is _ _).mono ?_; rintro e w6 ⟨rfl, rfl⟩; rw [hd]))
        go_roundw
        case rel =>
          refine ⟨j + 1, k + (j : Int) + 1, n1 * 10 + (c - 48), by go_num, by omega, by omega, by omega, by omega, ?_, ?_, ?_, ?_⟩
          · have h1 := HN.out
            show _ < _
            rw [Int.pow_succ]
            omega
          · exact but_set (but_drew HKr.out _) _ _
          · exact (HRr.out.drew _).move _
          · intro N
            rw [show j + 1 + N = j + (N + 1) by omega, HM.out, numG, HC.out, hd, hk1]
            rfl
        case measure => rw [((HRr.out.drew _).move _).place, HRr.out.place]; omega
      · have hd' : digitP c = false := by simpa using hd
        have HE : Hid (numG T 4 k 0 = (n1, k1)) := by
          show _ = _
          rw [show 4 = j + (4 - j) by omega, HM.out, numG_end (Or.inr (by rw [hcc]; exact hd'))]
        clear hcc
        by_cases hk : k1 = k
        · go_wp2_with (first
            | (go_at_call 135; refine (peek_is T k1 e f b _ (by exact HRr.out) (by omega) hk2 hT).mono ?_; rintro e w6 ⟨rfl, m, rfl⟩; rw [HC.out])
            | (go_at_call 147; refine (digit_is _ _).mono ?_; rintro e w6 ⟨rfl, rfl⟩; rw [hd'])
            | (go_at_call 131; refine (wrong_is T k1 e f b _ (by exact HRr.out) hT).mono ?_; rintro e w6 ⟨rfl, hk6, hw6⟩; have HK6 := hide1 (HKr.out.trans (but_undrew hk6)); have HW6 := hide1 hw6; clear hk6 hw6))
          go_ret
          have e1 : numberS T (k, e, f) = (n1, wrongS T (k, e, f)) := by unfold numberS; rw [HE.out, if_pos (by exact hk)]
          rw [e1]
          subst hk
          exact ⟨rfl, ⟨Int.natCast_nonneg _, Int.le_refl _⟩, HK6.out, HW6.out⟩
        · go_wp2_with (first
            | (go_at_call 135; refine (peek_is T k1 e f b _ (by exact HRr.out) (by omega) hk2 hT).mono ?_; rintro e w6 ⟨rfl, m, rfl⟩; rw [HC.out])
            | (go_at_call 147; refine (digit_is _ _).mono ?_; rintro e w6 ⟨rfl, rfl⟩; rw [hd']))
          go_ret
          have e1 : numberS T (k, e, f) = (n1, k1, e, f) := by unfold numberS; rw [HE.out, if_neg (by exact hk)]
          rw [e1]
          exact ⟨rfl, ⟨by show 0 ≤ k1; omega, hk2⟩, but_drew HKr.out _, HRr.out.drew _⟩
    · have HE : Hid (numG T 4 k 0 = (n1, k1)) := by
        show _ = _
        rw [show 4 = j + (4 - j) by omega, HM.out, numG_end (Or.inl (by omega))]
      have hk : ¬ k1 = k := by omega
      go_wp2_with fail
      go_ret
      have e1 : numberS T (k, e, f) = (n1, k1, e, f) := by unfold numberS; rw [HE.out, if_neg (by exact hk)]
      rw [e1]
      exact ⟨rfl, ⟨by show 0 ≤ k1; omega, hk2⟩, HKr.out, HRr.out⟩

/-- Texts without \\ and ^ alone. -/
def Plain (T : ByteArray) : Prop := ∀ k, peekP T k ≠ 92 ∧ peekP T k ≠ 94
def classSignsS : ByteArray := ⟨#[93, 92, 45, 47]⟩
def oneS (T : ByteArray) (s : Int × Int × Int) : Int × Int × Int × Int := if printedP (peekP T s.1) && !inS classSignsS (peekP T s.1) then (peekP T s.1, s.1 + 1, s.2) else (0, wrongS T s)
set_option linter.unusedSimpArgs false in
set_option maxRecDepth 100000 in
set_option maxHeartbeats 2000000 in
theorem one_is (T : ByteArray) (k e f : Int) (b : Nat) (w : World) (h : RAt w b T k e f) (h0 : 0 ≤ k) (h1 : k ≤ T.size) (hT : T.size ≤ 4096) (hP : Plain T) :
    Calls Tryz.prog 150 #[.pointer (some ⟨b, 0, none⟩)] w fun r w' => r = .returned (.int .i64 (oneS T (k, e, f)).1) ∧ RGave b w T (oneS T (k, e, f)).2 w' := by
  have HR := hide1 h
  obtain ⟨c0, c1, c2, c3, c4⟩ := h.cells
  obtain ⟨z0, z1, z2, z3, z4⟩ := h.free
  have hb := h.lt
  have gT : (T.size : Int) ≤ 4096 := by omega
  clear h
  have hc := peek_byte T k
  unfold IsB at hc
  have hne := (hP k).1
  have HE : Hid (oneS T (k, e, f) = if printedP (peekP T k) && !inS classSignsS (peekP T k) then (peekP T k, k + 1, e, f) else (0, wrongS T (k, e, f))) := rfl
  have HLT : Hid (peekP T k ≠ 0 → 0 ≤ k ∧ k < T.size) := fun h => peek_lt h
  obtain ⟨c, hcc⟩ : ∃ c, peekP T k = c := ⟨_, rfl⟩
  rw [hcc] at hc hne HE HLT
  have HC := hide1 hcc
  clear hcc hP
  go_enter Tryz.func150, Tryz.ntmps150
  by_cases hpr : printedP c = true
  · have hlt : 0 ≤ k ∧ k < T.size := HLT.out (by unfold printedP at hpr; simp at hpr; omega)
    obtain ⟨x, hx⟩ : ∃ x, firstIdx { data := #[93, 92, 45, 47] } c.toNat.toUInt8 = x := ⟨_, rfl⟩
    have HX := hide1 hx
    by_cases hin : x < 0
    · have hin2 : inS classSignsS c = false := by unfold inS classSignsS; rw [hx]; simpa using hin
      clear hx
      go_wp2_with (first
        | (go_at_call 135; refine (peek_is T k e f b _ (by exact HR.out) h0 h1 hT).mono ?_; rintro e w6 ⟨rfl, m, rfl⟩; rw [HC.out])
        | (go_at_call 98; refine (printed_is _ _).mono ?_; rintro e w6 ⟨rfl, rfl⟩; rw [hpr])
        | (go_at_call 99; refine (index_is _ _ _).mono ?_; rintro e w6 ⟨rfl, rfl⟩; rw [HX.out]))
      all_goals
        go_ret
        rw [HE.out, hpr, hin2]
        exact ⟨rfl, ⟨by show 0 ≤ k + 1; omega, by show k + 1 ≤ _; omega⟩, but_set (but_drew (but_refl _ _) _) _ _, (HR.out.drew _).move _⟩
    · have hin2 : inS classSignsS c = true := by unfold inS classSignsS; rw [hx]; simpa using hin
      clear hx
      go_wp2_with (first
        | (go_at_call 135; refine (peek_is T k e f b _ (by exact HR.out) h0 h1 hT).mono ?_; rintro e w6 ⟨rfl, m, rfl⟩; rw [HC.out])
        | (go_at_call 98; refine (printed_is _ _).mono ?_; rintro e w6 ⟨rfl, rfl⟩; rw [hpr])
        | (go_at_call 99; refine (index_is _ _ _).mono ?_; rintro e w6 ⟨rfl, rfl⟩; rw [HX.out])
        | (go_at_call 131; refine (wrong_is T k e f b _ (by exact HR.out) hT).mono ?_; rintro e w6 ⟨rfl, hk6, hw6⟩; have HK6 := hide1 (but_undrew hk6); have HW6 := hide1 hw6; clear hk6 hw6))
      all_goals
        go_ret
        rw [HE.out, hpr, hin2]
        exact ⟨rfl, ⟨Int.natCast_nonneg _, Int.le_refl _⟩, HK6.out, HW6.out⟩
  · have hpr2 : printedP c = false := by simpa using hpr
    go_wp2_with (first
      | (go_at_call 135; refine (peek_is T k e f b _ (by exact HR.out) h0 h1 hT).mono ?_; rintro e w6 ⟨rfl, m, rfl⟩; rw [HC.out])
      | (go_at_call 98; refine (printed_is _ _).mono ?_; rintro e w6 ⟨rfl, rfl⟩; rw [hpr2])
      | (go_at_call 131; refine (wrong_is T k e f b _ (by exact HR.out) hT).mono ?_; rintro e w6 ⟨rfl, hk6, hw6⟩; have HK6 := hide1 (but_undrew hk6); have HW6 := hide1 hw6; clear hk6 hw6))
    all_goals
      go_ret
      rw [HE.out, hpr2]
      exact ⟨rfl, ⟨Int.natCast_nonneg _, Int.le_refl _⟩, HK6.out, HW6.out⟩

end Ex
end Go.Proofs.YtbnchnlogikecaaGreatDoor
namespace Go.Proofs.YtbnchnlogikecaaGreatDoor
open Go.RowKit
attribute [local go_sem] Oper.semAt_some
namespace Ex

def OkS (T : ByteArray) (s : Int × Int × Int) : Prop := 0 ≤ s.1 ∧ s.1 ≤ T.size
theorem wrong_ok (T : ByteArray) (s : Int × Int × Int) : OkS T (wrongS T s) := ⟨Int.natCast_nonneg _, Int.le_refl _⟩
theorem fail_ok (T : ByteArray) (s : Int × Int × Int) (x y : Int) : OkS T (failS T s x y) := ⟨Int.natCast_nonneg _, Int.le_refl _⟩
theorem one_ok {T : ByteArray} {s : Int × Int × Int} (h : OkS T s) : OkS T (oneS T s).2 ∧ s.1 ≤ (oneS T s).2.1 := by
  unfold oneS
  split
  · rename_i hp
    simp only [Bool.and_eq_true] at hp
    have h1 : peekP T s.1 ≠ 0 := by have := hp.1; unfold printedP at this; simp at this; omega
    have h2 := peek_lt h1
    exact ⟨⟨by show 0 ≤ s.1 + 1; omega, by show s.1 + 1 ≤ _; omega⟩, by show s.1 ≤ s.1 + 1; omega⟩
  · exact ⟨wrong_ok T s, h.2⟩
theorem numG_ok {T : ByteArray} : ∀ (N : Nat) (k n : Int), 0 ≤ k → k ≤ T.size → k ≤ (numG T N k n).2 ∧ (numG T N k n).2 ≤ T.size
  | 0, k, n, h0, h1 => ⟨Int.le_refl _, h1⟩
  | N + 1, k, n, h0, h1 => by
    rw [numG]
    split
    · rename_i hd
      have h2 : peekP T k ≠ 0 := by unfold digitP at hd; simp at hd; omega
      have h3 := peek_lt h2
      have := numG_ok (T := T) N (k + 1) (n * 10 + (peekP T k - 48)) (by omega) (by omega)
      omega
    · exact ⟨Int.le_refl _, h1⟩
theorem number_ok {T : ByteArray} {s : Int × Int × Int} (h : OkS T s) : OkS T (numberS T s).2 ∧ s.1 ≤ (numberS T s).2.1 := by
  have h1 := numG_ok (T := T) 4 s.1 0 h.1 h.2
  have h0 := h.1
  unfold numberS
  split
  · exact ⟨wrong_ok T s, h.2⟩
  · exact ⟨⟨by show 0 ≤ (numG T 4 s.1 0).2; omega, h1.2⟩, h1.1⟩
theorem take_ok {T : ByteArray} {s : Int × Int × Int} {c : Int} (hc : c ≠ 0) (h : peekP T s.1 = c) : OkS T (s.1 + 1, s.2) := by
  have := peek_lt (T := T) (k := s.1) (by rw [h]; exact hc)
  exact ⟨by show 0 ≤ s.1 + 1; omega, by show s.1 + 1 ≤ _; omega⟩

theorem but_allocd {b : Nat} {w w' : World} {c : Array Value} {t : TypeId} (h : KeptBut b (w.alloc (.cells c t)) w') : KeptBut b w w' := (((Kept.refl w).alloc c t).but b).trans h
theorem but_new {b g o : Nat} {w w' : World} {v : Value} (h : KeptBut b w w') (hg : w.heap.size ≤ g) : KeptBut b w (w'.setCell ⟨g, o, none⟩ v) :=
  ⟨h.1, h.2.1, h.2.2.1, by simpa [World.setCell] using h.2.2.2.1, fun k hk hn => (Below.heap_setCell _ _ _ _ (show k ≠ g by omega)).trans (h.2.2.2.2 k hk hn)⟩
theorem RAt.other {w : World} {b g o : Nat} {v : Value} {T : ByteArray} {k e f : Int} (h : RAt w b T k e f) (hg : b ≠ g) : RAt (w.setCell ⟨g, o, none⟩ v) b T k e f := by
  unfold RAt at h ⊢
  rw [← h]
  exact Below.heap_setCell _ _ _ _ hg
theorem box_end {b : Nat} {w w' : World} (h : KeptBut b (w.alloc (.cells #[.int .i64 0, .int .i64 0, .int .i64 0, .int .i64 0, .int .i64 0, .slice none 0 0] 70)) w') (hb : b < w.heap.size) :
    (w'.cell? ⟨w.heap.size, 0, none⟩ = some (.int .i64 0) ∧ w'.cell? ⟨w.heap.size, 1, none⟩ = some (.int .i64 0) ∧ w'.cell? ⟨w.heap.size, 2, none⟩ = some (.int .i64 0) ∧ w'.cell? ⟨w.heap.size, 3, none⟩ = some (.int .i64 0) ∧ w'.cell? ⟨w.heap.size, 4, none⟩ = some (.int .i64 0) ∧ w'.cell? ⟨w.heap.size, 5, none⟩ = some (.slice none 0 0)) ∧
    w'.frozen? ⟨w.heap.size, 0, none⟩ = false ∧ w'.frozen? ⟨w.heap.size, 1, none⟩ = false ∧ w'.frozen? ⟨w.heap.size, 2, none⟩ = false ∧ w'.frozen? ⟨w.heap.size, 3, none⟩ = false ∧ w'.frozen? ⟨w.heap.size, 4, none⟩ = false ∧ w'.frozen? ⟨w.heap.size, 5, none⟩ = false := by
  have e : w'.heap[w.heap.size]? = some (.cells #[.int .i64 0, .int .i64 0, .int .i64 0, .int .i64 0, .int .i64 0, .slice none 0 0] 70 (0, 0)) := by
    rw [h.2.2.2.2 w.heap.size (by simp) (by omega)]
    exact heap_alloc_new w _
  refine ⟨⟨?_, ?_, ?_, ?_, ?_, ?_⟩, ?_, ?_, ?_, ?_, ?_, ?_⟩ <;> simp [World.cell?, World.frozen?, e]
theorem box_kept {b : Nat} {w w' : World} (h : KeptBut b (w.alloc (.cells #[.int .i64 0, .int .i64 0, .int .i64 0, .int .i64 0, .int .i64 0, .slice none 0 0] 70)) w') (hb : b < w.heap.size) : w'.heap[w.heap.size]? = some (.cells #[.int .i64 0, .int .i64 0, .int .i64 0, .int .i64 0, .int .i64 0, .slice none 0 0] 70 (0, 0)) := by
  rw [h.2.2.2.2 w.heap.size (by simp) (by omega)]
  exact heap_alloc_new w _
theorem box_full {w : World} {g : Nat} {y0 y1 y2 y3 y4 y5 x0 x1 x2 x3 x4 x5 : Value} (h : w.heap[g]? = some (.cells #[y0, y1, y2, y3, y4, y5] 70 (0, 0))) :
    ((((((w.setCell ⟨g, 0, none⟩ x0).setCell ⟨g, 1, none⟩ x1).setCell ⟨g, 2, none⟩ x2).setCell ⟨g, 3, none⟩ x3).setCell ⟨g, 4, none⟩ x4).setCell ⟨g, 5, none⟩ x5).heap[g]? = some (.cells #[x0, x1, x2, x3, x4, x5] 70 (0, 0)) := by
  have hl : g < w.heap.size := (Array.getElem?_eq_some_iff.1 h).1
  have he : w.heap[g] = Obj.cells #[y0, y1, y2, y3, y4, y5] 70 (0, 0) := by rw [Array.getElem?_eq_getElem hl] at h; exact Option.some.inj h
  simp [World.setCell, Array.getElem_modify, hl, he]
theorem box_returns {fn : Func} {p : Tmp} (h : fn.results = #[.cell p 70]) (tmps : Array Value) (w : World) (g : Nat) (x0 x1 x2 x3 x4 x5 : Value) (hp : tmps.getD p undef = .pointer (some ⟨g, 0, none⟩)) (hg : w.heap[g]? = some (.cells #[x0, x1, x2, x3, x4, x5] 70 (0, 0))) :
    (results fn tmps).run Tryz.prog w = .ok (.agg #[x0, x1, x2, x3, x4, x5]) w :=
  results_cell_row h tmps w g 70 _ (0, 0) _ hp hg Tryz.underlying70 rfl (by kernel_rfl)
theorem fin_but {b g : Nat} {w w' : World} {x0 x1 x2 x3 x4 x5 : Value} (h : KeptBut b w w') (hg : w.heap.size ≤ g) : KeptBut b w ((((((w'.setCell ⟨g, 0, none⟩ x0).setCell ⟨g, 1, none⟩ x1).setCell ⟨g, 2, none⟩ x2).setCell ⟨g, 3, none⟩ x3).setCell ⟨g, 4, none⟩ x4).setCell ⟨g, 5, none⟩ x5) :=
  but_new (but_new (but_new (but_new (but_new (but_new h hg) hg) hg) hg) hg) hg
theorem RAt.fin {w : World} {b g : Nat} {x0 x1 x2 x3 x4 x5 : Value} {T : ByteArray} {k e f : Int} (h : RAt w b T k e f) (hg : b ≠ g) : RAt ((((((w.setCell ⟨g, 0, none⟩ x0).setCell ⟨g, 1, none⟩ x1).setCell ⟨g, 2, none⟩ x2).setCell ⟨g, 3, none⟩ x3).setCell ⟨g, 4, none⟩ x4).setCell ⟨g, 5, none⟩ x5) b T k e f :=
  (((((h.other hg).other hg).other hg).other hg).other hg).other hg
/-- A member's first byte, its last, the state behind. -/
def memberE (T : ByteArray) (s : Int × Int × Int) : Int × Int × Int × Int := if peekP T (oneS T s).2.1 = 45 then oneS T ((oneS T s).2.1 + 1, (oneS T s).2.2) else oneS T s
def memberS (T : ByteArray) (s : Int × Int × Int) (y : Int) : Pat × Int × Int × Int := (rangeP (oneS T s).1 (memberE T s).1, if (memberE T s).1 < (oneS T s).1 then failS T (memberE T s).2 22 y else (memberE T s).2)

set_option linter.unusedSimpArgs false in
set_option maxRecDepth 100000 in
set_option maxHeartbeats 2000000 in
theorem member_is (T : ByteArray) (k e f y : Int) (b : Nat) (w : World) (h : RAt w b T k e f) (h0 : 0 ≤ k) (h1 : k ≤ T.size) (hT : T.size ≤ 4096) (hP : Plain T) :
    Calls Tryz.prog 148 #[.pointer (some ⟨b, 0, none⟩), .int .i64 y] w fun r w' => r = .returned (rangeV (oneS T (k, e, f)).1 (memberE T (k, e, f)).1) ∧ RGave b w T (memberS T (k, e, f) y).2 w' := by
  have HR := hide1 h
  have HP := hide1 hP
  have hb := h.lt
  have gT : (T.size : Int) ≤ 4096 := by omega
  have hok := one_ok (T := T) (s := (k, e, f)) ⟨h0, h1⟩
  have HF : Hid ((memberS T (k, e, f) y).2 = if (memberE T (k, e, f)).1 < (oneS T (k, e, f)).1 then failS T (memberE T (k, e, f)).2 22 y else (memberE T (k, e, f)).2) := rfl
  have HE : Hid (memberE T (k, e, f) = if peekP T (oneS T (k, e, f)).2.1 = 45 then oneS T ((oneS T (k, e, f)).2.1 + 1, (oneS T (k, e, f)).2.2) else oneS T (k, e, f)) := rfl
  unfold rangeV
  obtain ⟨⟨a, k1, e1, f1⟩, hA⟩ : ∃ x, oneS T (k, e, f) = x := ⟨_, rfl⟩
  rw [hA] at hok HE HF ⊢
  have HA := hide1 hA
  obtain ⟨ok1, hk1⟩ := hok
  unfold OkS at ok1
  dsimp only at ok1 hk1
  clear hA h hP
  by_cases hc : peekP T k1 = 45
  · have ok2 := take_ok (T := T) (s := (k1, e1, f1)) (c := 45) (by decide) hc
    have ok3 := one_ok ok2
    have HE2 : Hid (memberE T (k, e, f) = oneS T (k1 + 1, e1, f1)) := by have := HE.out; rw [if_pos hc] at this; exact this
    have HTK : Hid (takeK T k1 45 = k1 + 1) := by show _ = _; rw [takeK, if_pos hc]
    have HTB : Hid ((peekP T k1 == 45) = true) := by show _ = _; rw [hc]; rfl
    obtain ⟨⟨z, k2, e2, f2⟩, hB⟩ : ∃ x, oneS T (k1 + 1, e1, f1) = x := ⟨_, rfl⟩
    have HE3 := HE2.out
    rw [hB] at ok3 HE3
    rw [HE3] at HF ⊢
    have HB := hide1 hB
    obtain ⟨ok3, _⟩ := ok3
    unfold OkS at ok2 ok3
    dsimp only at ok2 ok3 HF ⊢
    clear hB HE HE2 HE3 hc
    go_enter Tryz.func148, Tryz.ntmps148
    by_cases hz : z < a
    · rw [HF.out, if_pos hz]
      go_wp2_with (first
        | (go_at_call 150; have _g := HW2; clear _g; refine (one_is T (k1 + 1) e1 f1 b _ (by exact HW2.out) ok2.1 ok2.2 hT HP.out).mono ?_; rintro r w8 ⟨rfl, hg⟩; rw [HB.out] at hg ⊢; obtain ⟨_, hk8, hw8⟩ := hg; have HK3 := hide1 (HK2.out.trans hk8); have HW3 := hide1 hw8; clear hk8 hw8)
        | (go_at_call 150; refine (one_is T k e f b _ (HR.out.keep ((Kept.refl _).alloc _ _)) h0 h1 hT HP.out).mono ?_; rintro r w6 ⟨rfl, hg⟩; rw [HA.out] at hg ⊢; obtain ⟨_, hk6, hw6⟩ := hg; have HK1 := hide1 hk6; have HW1 := hide1 hw6; clear hk6 hw6)
        | (go_at_call 133; refine (take_is T k1 e1 f1 45 b _ (by exact HW1.out) ok1.1 ok1.2 hT).mono ?_; rintro r w7 ⟨rfl, hk7, hw7⟩; rw [HTK.out] at hw7; rw [HTB.out]; have HK2 := hide1 (HK1.out.trans hk7); have HW2 := hide1 hw7; clear hk7 hw7)
        | (go_at_call 134; refine (fail_is T k2 e2 f2 _ _ b _ (by exact HW3.out)).mono ?_; rintro r w9 ⟨rfl, hk9, hw9⟩; have HK4 := hide1 (HK3.out.trans hk9); have HW4 := hide1 hw9; obtain ⟨⟨q0, q1, q2, q3, q4, q5⟩, y0, y1, y2, y3, y4, y5⟩ := box_end HK4.out hb; clear hk9 hw9))
      (try simp only [Exit.inBlock, Exit.then])
      refine bodyPost_ret (box_returns rfl _ _ w.heap.size _ _ _ _ _ _ rfl (box_full (box_kept HK4.out hb))) rfl ?_
      exact ⟨rfl, fail_ok _ _ _ _, fin_but (but_allocd HK4.out) (Nat.le_refl _), HW4.out.fin (by omega)⟩
    · rw [HF.out, if_neg hz]
      go_wp2_with (first
        | (go_at_call 150; have _g := HW2; clear _g; refine (one_is T (k1 + 1) e1 f1 b _ (by exact HW2.out) ok2.1 ok2.2 hT HP.out).mono ?_; rintro r w8 ⟨rfl, hg⟩; rw [HB.out] at hg ⊢; obtain ⟨_, hk8, hw8⟩ := hg; have HK3 := hide1 (HK2.out.trans hk8); have HW3 := hide1 hw8; obtain ⟨⟨q0, q1, q2, q3, q4, q5⟩, y0, y1, y2, y3, y4, y5⟩ := box_end HK3.out hb; clear hk8 hw8)
        | (go_at_call 150; refine (one_is T k e f b _ (HR.out.keep ((Kept.refl _).alloc _ _)) h0 h1 hT HP.out).mono ?_; rintro r w6 ⟨rfl, hg⟩; rw [HA.out] at hg ⊢; obtain ⟨_, hk6, hw6⟩ := hg; have HK1 := hide1 hk6; have HW1 := hide1 hw6; clear hk6 hw6)
        | (go_at_call 133; refine (take_is T k1 e1 f1 45 b _ (by exact HW1.out) ok1.1 ok1.2 hT).mono ?_; rintro r w7 ⟨rfl, hk7, hw7⟩; rw [HTK.out] at hw7; rw [HTB.out]; have HK2 := hide1 (HK1.out.trans hk7); have HW2 := hide1 hw7; clear hk7 hw7))
      (try simp only [Exit.inBlock, Exit.then])
      refine bodyPost_ret (box_returns rfl _ _ w.heap.size _ _ _ _ _ _ rfl (box_full (box_kept HK3.out hb))) rfl ?_
      exact ⟨rfl, ok3, fin_but (but_allocd HK3.out) (Nat.le_refl _), HW3.out.fin (by omega)⟩
  · have HTK : Hid (takeK T k1 45 = k1) := by show _ = _; rw [takeK, if_neg hc]
    have HTB : Hid ((peekP T k1 == 45) = false) := by show _ = _; simpa using hc
    have HE3 := HE.out
    rw [if_neg hc] at HE3
    rw [HE3] at HF ⊢
    have hz : ¬ a < a := by omega
    dsimp only at HF ⊢
    clear HE HE3 hc
    go_enter Tryz.func148, Tryz.ntmps148
    rw [HF.out, if_neg hz]
    go_wp2_with (first
      | (go_at_call 150; refine (one_is T k e f b _ (HR.out.keep ((Kept.refl _).alloc _ _)) h0 h1 hT HP.out).mono ?_; rintro r w6 ⟨rfl, hg⟩; rw [HA.out] at hg ⊢; obtain ⟨_, hk6, hw6⟩ := hg; have HK1 := hide1 hk6; have HW1 := hide1 hw6; clear hk6 hw6)
      | (go_at_call 133; refine (take_is T k1 e1 f1 45 b _ (by exact HW1.out) ok1.1 ok1.2 hT).mono ?_; rintro r w7 ⟨rfl, hk7, hw7⟩; rw [HTK.out] at hw7; rw [HTB.out]; have HK2 := hide1 (HK1.out.trans hk7); have HW2 := hide1 hw7; obtain ⟨⟨q0, q1, q2, q3, q4, q5⟩, y0, y1, y2, y3, y4, y5⟩ := box_end HK2.out hb; clear hk7 hw7))
    (try simp only [Exit.inBlock, Exit.then])
    refine bodyPost_ret (box_returns rfl _ _ w.heap.size _ _ _ _ _ _ rfl (box_full (box_kept HK2.out hb))) rfl ?_
    exact ⟨rfl, ok1, fin_but (but_allocd HK2.out) (Nat.le_refl _), HW2.out.fin (by omega)⟩

end Ex
end Go.Proofs.YtbnchnlogikecaaGreatDoor
