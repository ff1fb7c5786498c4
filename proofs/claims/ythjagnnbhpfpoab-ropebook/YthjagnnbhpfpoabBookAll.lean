import Derived.Test.YthjagnnbhpfpoabTabInts
import Derived.OwnWalk
import Derived.ArgAppend
import Derived.Deep.RegionWith
import Derived.Deep.QuietTactic
import Derived.BigQuiet
import Derived.Test.YthjagnnbhpfpoabRopePart
import Derived.Test.YthjagnnbhpfpoabRopeEqual
import Derived.Test.YthjagnnbhpfpoabRopeSame
import Derived.Test.YthjagnnbhpfpoabRopeLevel
import Derived.Sort.QuietIn
import Derived.RangeFuncCalls
import Derived.Test.YthjagnnbhpfpoabTabScript
import Derived.RangeFuncLeaves
import Derived.OwnWalkIn
namespace Go.Proofs.Ythjagnnbhpfpoab
open Go.RowKit
attribute [local go_sem] Oper.semAt_some
namespace Rope

set_option maxRecDepth 100000 in
set_option maxHeartbeats 2000000 in
theorem mark_some (i j : Nat) : ∃ x : Int, 0 ≤ x ∧ x ≤ 255 ∧ ∀ w : World, Calls Try.prog 33 #[.int .i64 i, .int .i64 j] w fun e w' => e = .returned (.int .u8 x) ∧ w' = w := by
  have hm : j % 3 = 0 ∨ j % 3 = 1 ∨ j % 3 = 2 := by omega
  rcases hm with hm | hm | hm
  · refine ⟨(i : Int) % 256, by omega, by omega, fun w => ?_⟩
    have hm' : (j : Int) % 3 = 0 := by omega
    go_enter Try.func33, Try.ntmps33
    go_wp2
    go_ret
    exact ⟨rfl, rfl⟩
  · have hm' : (j : Int) % 3 = 1 := by omega
    refine ⟨(i : Int) / 256 % 256, by omega, by omega, fun w => ?_⟩
    go_enter Try.func33, Try.ntmps33
    go_wp2
    go_ret
    exact ⟨rfl, rfl⟩
  · have hm' : (j : Int) % 3 = 2 := by omega
    refine ⟨(j : Int) % 256, by omega, by omega, fun w => ?_⟩
    go_enter Try.func33, Try.ntmps33
    go_wp2
    go_ret
    exact ⟨rfl, rfl⟩

/-- The marks: one number for each place; mark answers it, and the world stays. -/
theorem marks_are : ∃ mk : Nat → Nat → Int, (∀ i j, 0 ≤ mk i j ∧ mk i j ≤ 255 ∧ ∀ w : World, Calls Try.prog 33 #[.int .i64 i, .int .i64 j] w fun e w' => e = .returned (.int .u8 (mk i j)) ∧ Kept w w') ∧ ∀ (i j : Nat) (w : World), Calls Try.prog 33 #[.int .i64 i, .int .i64 j] w fun e w' => e = .returned (.int .u8 (mk i j)) ∧ w' = w :=
  ⟨fun i j => Classical.choose (mark_some i j), fun i j => ⟨(Classical.choose_spec (mark_some i j)).1, (Classical.choose_spec (mark_some i j)).2.1, fun w => ((Classical.choose_spec (mark_some i j)).2.2 w).mono (fun _ _ h => ⟨h.1, by rw [h.2]; exact Kept.refl _⟩)⟩, fun i j w => (Classical.choose_spec (mark_some i j)).2.2 w⟩

end Rope
end Go.Proofs.Ythjagnnbhpfpoab
namespace Go.Proofs.Ythjagnnbhpfpoab
open Go.RowKit
attribute [local go_sem] Oper.semAt_some
namespace Rope

/-- Lists that were handed out: block, length, capacity; C: what their rows hold. -/
abbrev Its : Type := List (Nat × Nat × Nat)
def Bag (w : World) (its : Its) (C : Nat → List Value) : Prop := ∀ (t b n c : Nat), its[t]? = some (b, n, c) → RowOf w b (C t) ∧ (C t).length = c ∧ n ≤ c ∧ n ≤ 1000000000 ∧ c ≤ maxLen
def Lone (its : Its) : Prop := ∀ (t t' b n c n' c' : Nat), its[t]? = some (b, n, c) → its[t']? = some (b, n', c') → t = t'
def Heads (w : World) (g0 : Nat) (its : Its) : Prop := ∀ (t b n c : Nat), its[t]? = some (b, n, c) → w.cell? ⟨g0, t, none⟩ = some (.slice (some ⟨b, 0, none⟩) n c) ∧ b ≠ g0
/-- All but the lists' rows is as it was. -/
def KeptBag (its : Its) (w w' : World) : Prop :=
  w'.os = w.os ∧ w'.tape = w.tape ∧ w'.output = w.output ∧ w.heap.size ≤ w'.heap.size ∧ ∀ k, k < w.heap.size → (∀ (t b n c : Nat), its[t]? = some (b, n, c) → k ≠ b) → w'.heap[k]? = w.heap[k]?
theorem KeptBag.refl (its : Its) (w : World) : KeptBag its w w := ⟨rfl, rfl, rfl, Nat.le_refl _, fun _ _ _ => rfl⟩
theorem KeptBag.trans {its : Its} {a b c : World} (h1 : KeptBag its a b) (h2 : KeptBag its b c) : KeptBag its a c :=
  ⟨h2.1.trans h1.1, h2.2.1.trans h1.2.1, h2.2.2.1.trans h1.2.2.1, Nat.le_trans h1.2.2.2.1 h2.2.2.2.1, fun k hk hn => (h2.2.2.2.2 k (Nat.lt_of_lt_of_le hk h1.2.2.2.1) hn).trans (h1.2.2.2.2 k hk hn)⟩
theorem KeptBag.kept {its : Its} {w w' : World} (h : Kept w w') : KeptBag its w w' := ⟨h.1, h.2.1, h.2.2.1, h.2.2.2.1, fun k hk _ => h.2.2.2.2 k hk⟩

def upd (C : Nat → List Value) (i : Nat) (l : List Value) : Nat → List Value := fun t => if t = i then l else C t
theorem upd_same (C : Nat → List Value) (i : Nat) (l : List Value) : upd C i l i = l := if_pos rfl
theorem upd_other {C : Nat → List Value} {i t : Nat} {l : List Value} (h : ¬ t = i) : upd C i l t = C t := if_neg h
/-- The lists are written as far as (i, j). -/
def Full (mk : Nat → Nat → Int) (its : Its) (C : Nat → List Value) (i j : Nat) : Prop := ∀ (t b n c : Nat), its[t]? = some (b, n, c) → ∀ s, s < n → (t < i ∨ (t = i ∧ s < j)) → (C t)[s]? = some (.int .u8 (mk t s))

section
variable {mk : Nat → Nat → Int} {its : Its} {C : Nat → List Value} {w w' : World} {g0 : Nat}
theorem Bag.kept (h : Bag w its C) (hk : Kept w w') : Bag w' its C := fun t b n c ht => ⟨(h t b n c ht).1.kept hk, (h t b n c ht).2⟩
theorem Heads.bag (h : Heads w g0 its) (hk : KeptBag its w w') : Heads w' g0 its := by
  intro t b n c ht
  obtain ⟨h1, h2⟩ := h t b n c ht
  refine ⟨?_, h2⟩
  rw [World.cell?_of_block (w := w) (a := ⟨g0, t, none⟩) (hk.2.2.2.2 g0 (World.block_lt_of_cell? w ⟨g0, t, none⟩ h1) (fun t' b' n' c' ht' e => (h t' b' n' c' ht').2 e.symm))]
  exact h1
theorem Bag.put (h : Bag w its C) (hl : Lone its) {i j b n c : Nat} (hi : its[i]? = some (b, n, c)) (u : Value) : Bag (w.setCell ⟨b, j, none⟩ u) its (upd C i ((C i).set j u)) := by
  intro t b' n' c' ht
  obtain ⟨h1, h2, h3, h4⟩ := h t b' n' c' ht
  by_cases hti : t = i
  · subst hti
    rw [hi] at ht
    simp only [Option.some.injEq, Prod.mk.injEq] at ht
    obtain ⟨rfl, rfl, rfl⟩ := ht
    rw [upd_same]
    exact ⟨h1.set u, by rw [List.length_set]; exact h2, h3, h4⟩
  · rw [upd_other hti]
    refine ⟨?_, h2, h3, h4⟩
    unfold RowOf at h1 ⊢
    rw [Below.heap_setCell _ _ _ _ (show b' ≠ b from fun e => hti (hl t i b n' c' n c (e ▸ ht) hi))]
    exact h1
theorem KeptBag.put {i j b n c : Nat} (hi : its[i]? = some (b, n, c)) (u : Value) : KeptBag its w (w.setCell ⟨b, j, none⟩ u) :=
  ⟨rfl, rfl, rfl, by simp [World.setCell], fun k _ hn => Below.heap_setCell _ _ _ _ (hn i b n c hi)⟩
theorem Full.put {i j b n c : Nat} (h : Full mk its C i j) (hb : Bag w its C) (hi : its[i]? = some (b, n, c)) (hj : j < n) : Full mk its (upd C i ((C i).set j (.int .u8 (mk i j)))) i (j + 1) := by
  intro t b' n' c' ht s hs hh
  by_cases hti : t = i
  · subst hti
    rw [hi] at ht
    simp only [Option.some.injEq, Prod.mk.injEq] at ht
    obtain ⟨rfl, rfl, rfl⟩ := ht
    rw [upd_same]
    obtain ⟨_, h2, h3, _⟩ := hb t b n c hi
    by_cases hsj : s = j
    · subst hsj
      rw [List.getElem?_set_self (by omega)]
    · rw [List.getElem?_set_ne (fun e => hsj e.symm)]
      exact h t b n c hi s hs (by omega)
  · rw [upd_other hti]
    exact h t b' n' c' ht s hs (by omega)
theorem Full.next {i : Nat} {n : Nat} (h : Full mk its C i n) (hn : ∀ b n' c, its[i]? = some (b, n', c) → n' ≤ n) : Full mk its C (i + 1) 0 := by
  intro t b n' c ht s hs hh
  refine h t b n' c ht s hs ?_
  by_cases hti : t = i
  · subst hti; have := hn b n' c ht; omega
  · omega
end

/-- A list that was grown from list u: its row holds the marks and 96 more. -/
def Grown1 (mk : Nat → Nat → Int) (u n j : Nat) (G : List Value) : Prop := (∀ s, s < n → G[s]? = some (.int .u8 (mk u s))) ∧ ∀ s, s < j → G[n + s]? = some (.int .u8 (255 - mk u s))
/-- The grown lists so far: block and capacity; their rows. -/
def Mores (mk : Nat → Nat → Int) (its : Its) (m0 : Nat) (w : World) (its2 : List (Nat × Nat)) (E : Nat → List Value) : Prop :=
  (∀ (u b' c' : Nat), its2[u]? = some (b', c') → RowOf w b' (E u) ∧ (E u).length = c' ∧ ∀ (b n c : Nat), its[u]? = some (b, n, c) → n + 96 ≤ c' ∧ Grown1 mk u n 96 (E u) ∧ (b' = b ∨ m0 ≤ b')) ∧
  ∀ (u u' b' c' c'' : Nat), its2[u]? = some (b', c') → its2[u']? = some (b', c'') → u = u'
def moreV (its : Its) (its2 : List (Nat × Nat)) : List Value := (List.range its2.length).map fun u => .slice (some ⟨((its2[u]?).getD (0, 0)).1, 0, none⟩) (((its[u]?).getD (0, 0, 0)).2.1 + 96) ((its2[u]?).getD (0, 0)).2

theorem bytes_row_info : (Try.prog.info? 31).map (fun i => (i.zero, i.size, i.bytes)) = some (some (.slice none 0 0), 1, 24) := by kernel_rfl

theorem owns_row {w : World} {base g n cap : Nat} {xs : List Value} (h : w.ownsRow base 5 1 (.slice (some ⟨g, 0, none⟩) n cap) n xs) : ∃ G, RowOf w g G ∧ G.length = cap ∧ G.take n = xs ∧ n ≤ cap := by
  rcases h.2 with ⟨h, _⟩ | ⟨g', c', cur, e, _, h2, h3, _, h5, h6⟩
  · cases h
  · simp only [Value.slice.injEq, Option.some.injEq, Addr.mk.injEq] at e
    obtain ⟨⟨rfl, _⟩, _, rfl⟩ := e
    exact ⟨cur.toList, by unfold RowOf; simpa using h2, by simpa using h5, by simpa using h6, h3⟩
theorem row_owns {w : World} {base g n : Nat} {G : List Value} (h : RowOf w g G) (hb : base ≤ g) (hn : n ≤ G.length) (hm : G.length ≤ maxLen) : w.ownsRow base 5 1 (.slice (some ⟨g, 0, none⟩) n G.length) n (G.take n) :=
  ⟨by simp; omega, .inr ⟨g, G.length, G.toArray, rfl, hb, h, hn, hm, by simp, by simp⟩⟩
set_option maxRecDepth 100000 in
theorem wpl_grow_byte {ops : Array Oper} {rest : List Oper} {o : Oper} {a : Act} {Q : Exit → Act → World → Prop} (hgd : o.guard = none) (s x : Operand)
    (ho : o.op = .call { callee := .builtin .append, args := #[s, x], argTypes := #[31, 31] }) (W : World) (gb k cg : Nat) (G : List Value) (hs : a.eval s = .slice (some ⟨gb, 0, none⟩) k cg) (hrow : RowOf W gb G) (hl : G.length = cg) (hk : k ≤ cg) (hm : cg ≤ maxLen)
    (y : Int) (lb : Nat) (hx : a.eval x = .slice (some ⟨lb, 0, none⟩) 1 1) (hc : W.cell? ⟨lb, 0, none⟩ = some (.int .u8 y)) (hkb : k + 1 ≤ 2000000000)
    (h : ∀ gb' cg' G' w', RowOf w' gb' G' → G'.length = cg' → cg' ≤ maxLen → k + 1 ≤ cg' → G'.take (k + 1) = G.take k ++ [.int .u8 y] → ((gb' = gb ∧ cg' = cg ∧ W.grownBy w' (some gb)) ∨ (W.heap.size ≤ gb' ∧ gb' < w'.heap.size ∧ Kept W w')) → wpList Try.prog ops Q rest (a.put o.dst (.slice (some ⟨gb', 0, none⟩) (k + 1) cg')) w') : wpList Try.prog ops Q (o :: rest) a W := by
  obtain ⟨i0, hi, hz0, hz1, hz2⟩ := info_parts u8_info
  subst hl
  have hown := row_owns (base := 0) (n := k) hrow (Nat.zero_le _) hk hm
  have htl : (G.take k).length = k := by rw [List.length_take]; omega
  by_cases hroom : k + 1 ≤ G.length
  · refine wpList_append_fits W hgd s x 31 ho 0 5 i0 1 Try.underlying31 hi hz1 gb k G.length (G.take k) hs hown ⟨lb, 0, none⟩ 1 1 [.int .u8 y] hx rfl (one_news hc) (by intro u hu; simp at hu; subst hu; rfl) hroom ?_
    intro w' ho' hg'
    obtain ⟨G', h1, h2, h3, h4⟩ := owns_row ho'
    exact h gb G.length G' w' h1 h2 hm h4 h3 (.inl ⟨rfl, rfl, hg'⟩)
  · refine wpList_append_grows W hgd s x 31 ho 5 i0 (.int .u8 0) 1 1 Try.underlying31 hi hz0 hz1 hz2 rfl (by decide) (some ⟨gb, 0, none⟩) k G.length (G.take k) hs (by intro h; cases h) (by rw [htl]; omega) (fun b hb j u hu => ?_) ⟨lb, 0, none⟩ 1 1 [.int .u8 y] hx rfl (one_news hc) (by intro u hu; simp at hu; subst hu; rfl) (by omega) (by unfold maxLen; omega) (by omega) ?_
    · injection hb with hb
      subst hb
      rw [Addr.add_mid, Nat.zero_add]
      have hj : j < k := by have := (List.getElem?_eq_some_iff.1 hu).1; omega
      rw [List.getElem?_take, if_pos hj] at hu
      obtain ⟨hj2, he⟩ := List.getElem?_eq_some_iff.1 hu
      rw [hrow.cell hj2, he]
    · intro v' w' ho' hg'
      rcases ho'.2 with ⟨_, h0⟩ | ⟨g', c', cur, rfl, hge, h2, h3, h4, h5, h6⟩
      · omega
      · have hr' : RowOf w' g' cur.toList := by unfold RowOf; simpa using h2
        exact h g' c' cur.toList w' hr' (by simpa using h5) h4 h3 (by simpa using h6) (.inr ⟨hge, hr'.lt, (Kept.refl W).grown hg' (by intro k hk; cases hk)⟩)
theorem Grown1.snoc {mk : Nat → Nat → Int} {u n j : Nat} {G G' : List Value} (h : Grown1 mk u n j G) (hl : n + j ≤ G.length) (ht : G'.take (n + j + 1) = G.take (n + j) ++ [.int .u8 (255 - mk u j)]) : Grown1 mk u n (j + 1) G' := by
  have key : ∀ s, s < n + j + 1 → G'[s]? = (G.take (n + j) ++ [Value.int .u8 (255 - mk u j)])[s]? := fun s hs => by rw [← ht, List.getElem?_take, if_pos hs]
  have hlen : (G.take (n + j)).length = n + j := by rw [List.length_take]; omega
  refine ⟨fun s hs => ?_, fun s hs => ?_⟩
  · rw [key s (by omega), List.getElem?_append_left (by omega), List.getElem?_take, if_pos (by omega)]
    exact h.1 s hs
  · rw [key (n + s) (by omega)]
    by_cases hsj : s = j
    · subst hsj
      rw [List.getElem?_append_right (by omega), hlen, Nat.sub_self]
      rfl
    · rw [List.getElem?_append_left (by omega), List.getElem?_take, if_pos (by omega)]
      exact h.2 s (by omega)

def St2 (mk : Nat → Nat → Int) (its : Its) (w0 : World) (N : Nat) (w : World) (u : Nat) (its2 : List (Nat × Nat)) (E C : Nat → List Value) (aM : Option Addr) (cM : Nat) : Prop :=
  Bag w its C ∧ Full mk its C N 0 ∧ KeptBag its w0 w ∧ Mores mk its w0.heap.size w its2 E ∧ its2.length = u ∧ w.ownsRow w0.heap.size 31 1 (.slice aM u cM) u (moreV its its2) ∧ ∀ (v b' c' : Nat), its2[v]? = some (b', c') → (Value.slice aM u cM).ownBlock ≠ some b'
/-- The list that is growing. -/
def Cur (mk : Nat → Nat → Int) (w0 : World) (its : Its) (its2 : List (Nat × Nat)) (aM : Option Addr) (u n j : Nat) (w : World) (gb cg : Nat) (G : List Value) : Prop :=
  RowOf w gb G ∧ G.length = cg ∧ n + j ≤ cg ∧ cg ≤ maxLen ∧ Grown1 mk u n j G ∧ ((∃ n' c', its[u]? = some (gb, n', c')) ∨ (w0.heap.size ≤ gb ∧ (∀ (v b' c' : Nat), its2[v]? = some (b', c') → b' ≠ gb) ∧ ∀ x, aM = some x → x.block ≠ gb))
theorem RowOf.one {w : World} {g : Nat} {G G' : List Value} (h : RowOf w g G) (h' : RowOf w g G') : G = G' := by
  unfold RowOf at h h'
  rw [h] at h'
  simp only [Option.some.injEq, Obj.cells.injEq] at h'
  have := congrArg Array.toList h'.1
  simpa using this
theorem RowOf.same {w w' : World} {g : Nat} {G : List Value} (h : RowOf w g G) (hh : w'.heap[g]? = w.heap[g]?) : RowOf w' g G := by unfold RowOf at h ⊢; rw [hh]; exact h
theorem St2.kept {mk : Nat → Nat → Int} {its : Its} {w0 w w' : World} {N u cM : Nat} {its2 : List (Nat × Nat)} {E C : Nat → List Value} {aM : Option Addr} (h : St2 mk its w0 N w u its2 E C aM cM) (hk : Kept w w') : St2 mk its w0 N w' u its2 E C aM cM := by
  obtain ⟨h1, h2, h3, ⟨h4, h4'⟩, h5, h6, h7⟩ := h
  exact ⟨h1.kept hk, h2, h3.trans (KeptBag.kept hk), ⟨fun v b' c' hv => ⟨(h4 v b' c' hv).1.kept hk, (h4 v b' c' hv).2⟩, h4'⟩, h5, owns_same h6 (fun g hg => hk.2.2.2.2 g (owns_lt h6 g hg)), h7⟩
/-- The lists lay there at the start. -/
def Old (its : Its) (w0 : World) : Prop := ∀ (v b n c : Nat), its[v]? = some (b, n, c) → b < w0.heap.size
theorem step2 {mk : Nat → Nat → Int} {its : Its} {w0 w W w6 : World} {N u n c b j cM gb cg gb' cg' : Nat} {its2 : List (Nat × Nat)} {E C : Nat → List Value} {aM : Option Addr} {G G' : List Value} (hS : St2 mk its w0 N w u its2 E C aM cM) (hC : Cur mk w0 its its2 aM u n j w gb cg G) (hit : its[u]? = some (b, n, c)) (hl : Lone its) (hold : Old its w0) (hk : Kept w W)
    (r1 : RowOf w6 gb' G') (r2 : G'.length = cg') (r3 : cg' ≤ maxLen) (r4 : n + j + 1 ≤ cg') (r5 : G'.take (n + j + 1) = G.take (n + j) ++ [.int .u8 (255 - mk u j)]) (r6 : (gb' = gb ∧ cg' = cg ∧ W.grownBy w6 (some gb)) ∨ (W.heap.size ≤ gb' ∧ gb' < w6.heap.size ∧ Kept W w6)) :
    ∃ C', St2 mk its w0 N w6 u its2 E C' aM cM ∧ Cur mk w0 its its2 aM u n (j + 1) w6 gb' cg' G' := by
  obtain ⟨c1, c2, c3, c4, c5, c6⟩ := hC
  have hg1 : Grown1 mk u n (j + 1) G' := c5.snoc (by omega) r5
  rcases r6 with ⟨rfl, rfl, hg⟩ | ⟨hn1, hn2, hk6⟩
  · have hsz := hk.size
    have hblk : ∀ k, k < w.heap.size → k ≠ gb' → w6.heap[k]? = w.heap[k]? := fun k hk1 hne => by rw [hg.block k (by omega) (fun e => hne (by injection e)), hk.2.2.2.2 k hk1]
    have hsz6 : w.heap.size ≤ w6.heap.size := Nat.le_trans hsz hg.size
    obtain ⟨h1, h2, h3, ⟨h4, h4'⟩, h5, h6, h7⟩ := hS
    have hlow : ∀ v bv nv cv, its[v]? = some (bv, nv, cv) → bv < w.heap.size := fun v bv nv cv hv => (h1 v bv nv cv hv).1.lt
    rcases c6 with ⟨n', c', hit'⟩ | ⟨d1, d2, d3⟩
    · rw [hit] at hit'
      simp only [Option.some.injEq, Prod.mk.injEq] at hit'
      obtain ⟨hbe, hne', hce'⟩ := hit'
      subst hbe hne' hce'
      have hGC : G = C u := c1.one (h1 u b n c hit).1
      have hcc : cg' = c := by rw [← c2, hGC]; exact (h1 u b n c hit).2.1
      have hbm : b < w0.heap.size := hold u b n c hit
      refine ⟨upd C u G', ⟨?_, ?_, ?_, ⟨?_, h4'⟩, h5, ?_, h7⟩, r1, r2, r4, r3, hg1, .inl ⟨n, c, hit⟩⟩
      · intro v bv nv cv hv
        by_cases hvu : v = u
        · subst hvu
          rw [hit] at hv
          simp only [Option.some.injEq, Prod.mk.injEq] at hv
          obtain ⟨rfl, rfl, rfl⟩ := hv
          rw [upd_same]
          exact ⟨r1, by rw [r2, hcc], (h1 v b n c hit).2.2⟩
        · rw [upd_other hvu]
          obtain ⟨g1, g2⟩ := h1 v bv nv cv hv
          exact ⟨g1.same (hblk bv g1.lt (fun e => hvu (hl v u b nv cv n c (e ▸ hv) hit))), g2⟩
      · intro v bv nv cv hv s hs hh
        by_cases hvu : v = u
        · subst hvu
          rw [hit] at hv
          simp only [Option.some.injEq, Prod.mk.injEq] at hv
          obtain ⟨rfl, rfl, rfl⟩ := hv
          rw [upd_same]
          exact hg1.1 s hs
        · rw [upd_other hvu]
          exact h2 v bv nv cv hv s hs hh
      · exact h3.trans ⟨by rw [hg.os, hk.1], by rw [hg.tape, hk.2.1], by rw [hg.output, hk.2.2.1], hsz6, fun k hk1 hn => hblk k hk1 (hn u b n c hit)⟩
      · intro v b' c' hv
        obtain ⟨g1, g2, g3⟩ := h4 v b' c' hv
        have hvl : v < u := by have := (List.getElem?_eq_some_iff.1 hv).1; omega
        refine ⟨g1.same (hblk b' g1.lt (fun e => ?_)), g2, g3⟩
        obtain ⟨⟨bv, nv, cv⟩, hiv⟩ : ∃ it, its[v]? = some it := ⟨_, List.getElem?_eq_getElem (by have := (List.getElem?_eq_some_iff.1 hit).1; omega)⟩
        rcases (g3 bv nv cv hiv).2.2 with e2 | e2
        · have hbv : bv = b := e2.symm.trans e
          rw [hbv] at hiv
          have := hl v u b nv cv n c hiv hit
          omega
        · omega
      · exact owns_same h6 (fun g hg' => hblk g (owns_lt h6 g hg') (fun e => by have := owns_base h6 g hg'; omega))
    · refine ⟨C, ⟨?_, h2, ?_, ⟨?_, h4'⟩, h5, ?_, h7⟩, r1, r2, r4, r3, hg1, .inr ⟨d1, d2, d3⟩⟩
      · intro v bv nv cv hv
        obtain ⟨g1, g2⟩ := h1 v bv nv cv hv
        refine ⟨g1.same (hblk bv g1.lt (fun e => ?_)), g2⟩
        have := hold v bv nv cv hv
        omega
      · exact ⟨by rw [hg.os, hk.1]; exact h3.1, by rw [hg.tape, hk.2.1]; exact h3.2.1, by rw [hg.output, hk.2.2.1]; exact h3.2.2.1, Nat.le_trans h3.2.2.2.1 hsz6, fun k hk1 hn => by rw [hblk k (by have := h3.2.2.2.1; omega) (by omega)]; exact h3.2.2.2.2 k hk1 hn⟩
      · intro v b' c' hv
        obtain ⟨g1, g2⟩ := h4 v b' c' hv
        exact ⟨g1.same (hblk b' g1.lt (d2 v b' c' hv)), g2⟩
      · refine owns_same h6 (fun g hg' => hblk g (owns_lt h6 g hg') (fun e => ?_))
        cases aM with
        | none => cases hg'
        | some x => simp only [Value.ownBlock, Option.some.injEq] at hg'; exact d3 x rfl (hg'.trans e)
  · have hkk := gtrans hk hk6
    have hs6 := hS.kept hkk
    refine ⟨C, hs6, r1, r2, r4, r3, hg1, .inr ⟨?_, fun v b' c' hv => ?_, fun x hx => ?_⟩⟩
    · have := hS.2.2.1.2.2.2.1; have := hk.size; omega
    · have := (hS.2.2.2.1.1 v b' c' hv).1.lt; have := hk.size; omega
    · subst hx
      have := owns_lt hS.2.2.2.2.2.1 x.block rfl
      have := hk.size
      omega

theorem wpl_add_slice {ops : Array Oper} {rest : List Oper} {o : Oper} {a : Act} {Q : Exit → Act → World → Prop} (hgd : o.guard = none) (s x : Operand)
    (ho : o.op = .call { callee := .builtin .append, args := #[s, x], argTypes := #[29, 29] }) (w W : World) (hW : Kept w W) (n0 : Nat) (vP : Value) (n : Nat) (ps : List Value) (hs : a.eval s = vP) (hown : w.ownsRow n0 31 1 vP n ps)
    (q : Option Addr) (k cq : Nat) (lb : Nat) (hx : a.eval x = .slice (some ⟨lb, 0, none⟩) 1 1) (hc : W.cell? ⟨lb, 0, none⟩ = some (.slice q k cq)) (hn : n ≤ 2000000000) (hb : n0 ≤ w.heap.size)
    (h : ∀ g cap w', w'.ownsRow n0 31 1 (.slice (some ⟨g, 0, none⟩) (n + 1) cap) (n + 1) (ps ++ [.slice q k cq]) → W.grownBy w' vP.ownBlock → (vP.ownBlock = some g ∨ g = W.heap.size) → g < w'.heap.size → wpList Try.prog ops Q rest (a.put o.dst (.slice (some ⟨g, 0, none⟩) (n + 1) cap)) w') : wpList Try.prog ops Q (o :: rest) a W := by
  obtain ⟨i0, hi, hz0, hz1, hz2⟩ := info_parts bytes_row_info
  have hown' : W.ownsRow n0 31 1 vP n ps := owns_same hown (fun g hg => hW.2.2.2.2 g (owns_lt hown g hg))
  exact wpList_append_lies W hgd s x 29 ho n0 31 i0 (.slice none 0 0) 1 24 Try.underlying29 hi hz0 hz1 hz2 rfl (by decide) vP n ps hs hown' ⟨lb, 0, none⟩ 1 1 [.slice q k cq] hx rfl (one_news hc) (by intro u hu; simp at hu; subst hu; rfl) (by decide) (by unfold maxLen; omega) (by omega) (Nat.le_trans hb hW.size) W.heap.size rfl
    (fun g cap w' h1 h2 h3 h4 => h g cap w' h1 h2 h3 h4)

theorem two_news {W : World} {lb : Nat} {p q : Value} (hc : W.cell? ⟨lb, 0, none⟩ = some p) (hd : W.cell? ⟨lb, 1, none⟩ = some q) : ∀ (j : Nat) u, [p, q][j]? = some u → W.cell? ((⟨lb, 0, none⟩ : Addr).add j) = some u := by
  intro j u hu
  match j, hu with
  | 0, hu => simp at hu; subst hu; exact hc
  | 1, hu => simp at hu; subst hu; exact hd
  | j + 2, hu => simp at hu
/-- Two slices are appended at once. -/
theorem wpl_add_two {ops : Array Oper} {rest : List Oper} {o : Oper} {a : Act} {Q : Exit → Act → World → Prop} (hgd : o.guard = none) (s x : Operand)
    (ho : o.op = .call { callee := .builtin .append, args := #[s, x], argTypes := #[29, 29] }) (w W : World) (hW : Kept w W) (n0 : Nat) (vP : Value) (n : Nat) (ps : List Value) (hs : a.eval s = vP) (hown : w.ownsRow n0 31 1 vP n ps)
    (q q' : Option Addr) (k cq k' cq' : Nat) (lb : Nat) (hx : a.eval x = .slice (some ⟨lb, 0, none⟩) 2 2) (hc : W.cell? ⟨lb, 0, none⟩ = some (.slice q k cq)) (hd : W.cell? ⟨lb, 1, none⟩ = some (.slice q' k' cq')) (hn : n ≤ 2000000000) (hb : n0 ≤ w.heap.size)
    (h : ∀ g cap w', w'.ownsRow n0 31 1 (.slice (some ⟨g, 0, none⟩) (n + 2) cap) (n + 2) (ps ++ [.slice q k cq, .slice q' k' cq']) → W.grownBy w' vP.ownBlock → (vP.ownBlock = some g ∨ g = W.heap.size) → g < w'.heap.size → wpList Try.prog ops Q rest (a.put o.dst (.slice (some ⟨g, 0, none⟩) (n + 2) cap)) w') : wpList Try.prog ops Q (o :: rest) a W := by
  obtain ⟨i0, hi, hz0, hz1, hz2⟩ := info_parts bytes_row_info
  have hown' : W.ownsRow n0 31 1 vP n ps := owns_same hown (fun g hg => hW.2.2.2.2 g (owns_lt hown g hg))
  exact wpList_append_lies W hgd s x 29 ho n0 31 i0 (.slice none 0 0) 1 24 Try.underlying29 hi hz0 hz1 hz2 rfl (by decide) vP n ps hs hown' ⟨lb, 0, none⟩ 2 2 [.slice q k cq, .slice q' k' cq'] hx rfl (two_news hc hd) (by intro u hu; simp at hu; rcases hu with rfl | rfl <;> rfl) (by decide) (by unfold maxLen; omega) (by omega) (Nat.le_trans hb hW.size) W.heap.size rfl
    (fun g cap w' h1 h2 h3 h4 => h g cap w' h1 h2 h3 h4)

theorem moreV_snoc (its : Its) (its2 : List (Nat × Nat)) (b n c gb cg : Nat) (hit : its[its2.length]? = some (b, n, c)) : moreV its (its2 ++ [(gb, cg)]) = moreV its its2 ++ [.slice (some ⟨gb, 0, none⟩) (n + 96) cg] := by
  unfold moreV
  rw [List.length_append, List.length_singleton, List.range_succ, List.map_append]
  congr 1
  · apply List.map_congr_left
    intro v hv
    rw [List.getElem?_append_left (List.mem_range.1 hv)]
  · simp [hit]

theorem step3 {mk : Nat → Nat → Int} {its : Its} {w0 w W w7 : World} {N u n c b cM gb cg g7 c7 : Nat} {its2 : List (Nat × Nat)} {E C : Nat → List Value} {aM : Option Addr} {G : List Value} (hS : St2 mk its w0 N w u its2 E C aM cM) (hC : Cur mk w0 its its2 aM u n 96 w gb cg G) (hit : its[u]? = some (b, n, c)) (hl : Lone its) (hold : Old its w0) (hk : Kept w W)
    (ho : w7.ownsRow w0.heap.size 31 1 (.slice (some ⟨g7, 0, none⟩) (u + 1) c7) (u + 1) (moreV its its2 ++ [.slice (some ⟨gb, 0, none⟩) (n + 96) cg])) (hg : W.grownBy w7 (Value.slice aM u cM).ownBlock) (hgg : (Value.slice aM u cM).ownBlock = some g7 ∨ g7 = W.heap.size) :
    St2 mk its w0 N w7 (u + 1) (its2 ++ [(gb, cg)]) (upd E u G) C (some ⟨g7, 0, none⟩) c7 := by
  obtain ⟨c1, c2, c3, c4, c5, c6⟩ := hC
  obtain ⟨h1, h2, h3, ⟨h4, h4'⟩, h5, h6, h7⟩ := hS
  have hsz := hk.size
  have hblk : ∀ k, k < w.heap.size → (Value.slice aM u cM).ownBlock ≠ some k → w7.heap[k]? = w.heap[k]? := fun k hk1 hne => by rw [hg.block k (by omega) (fun e => hne e.symm), hk.2.2.2.2 k hk1]
  have hrow : ∀ k, (Value.slice aM u cM).ownBlock = some k → w0.heap.size ≤ k ∧ k < w.heap.size := fun k hk1 => ⟨owns_base h6 k hk1, owns_lt h6 k hk1⟩
  have hw0 := h3.2.2.2.1
  have hgbrow : (Value.slice aM u cM).ownBlock ≠ some gb := by
    intro e
    rcases c6 with ⟨n', c', hit'⟩ | ⟨_, _, d3⟩
    · have := hold u gb n' c' hit'
      have := (hrow gb e).1
      omega
    · cases aM with
      | none => cases e
      | some x => simp only [Value.ownBlock, Option.some.injEq] at e; exact d3 x rfl e
  have hgbne : ∀ (v b' c' : Nat), its2[v]? = some (b', c') → b' ≠ gb := by
    intro v b' c' hv
    rcases c6 with ⟨n', c'', hit'⟩ | ⟨_, d2, _⟩
    · intro e
      have hvl : v < u := by have := (List.getElem?_eq_some_iff.1 hv).1; omega
      obtain ⟨⟨bv, nv, cv⟩, hiv⟩ : ∃ it, its[v]? = some it := ⟨_, List.getElem?_eq_getElem (by have := (List.getElem?_eq_some_iff.1 hit).1; omega)⟩
      rcases ((h4 v b' c' hv).2.2 bv nv cv hiv).2.2 with e2 | e2
      · have hbv : bv = gb := e2.symm.trans e
        rw [hbv] at hiv
        have := hl v u gb nv cv n' c'' hiv hit'
        omega
      · have := hold u gb n' c'' hit'
        omega
    · exact d2 v b' c' hv
  have hgbw : gb < w.heap.size := c1.lt
  refine ⟨fun v bv nv cv hv => ⟨(h1 v bv nv cv hv).1.same (hblk bv (h1 v bv nv cv hv).1.lt (fun e => by have := (hrow bv e).1; have := hold v bv nv cv hv; omega)), (h1 v bv nv cv hv).2⟩, h2, ⟨by rw [hg.os, hk.1]; exact h3.1, by rw [hg.tape, hk.2.1]; exact h3.2.1, by rw [hg.output, hk.2.2.1]; exact h3.2.2.1, Nat.le_trans hw0 (Nat.le_trans hsz hg.size), fun k hk1 hn => by rw [hblk k (by omega) (fun e => by have := (hrow k e).1; omega)]; exact h3.2.2.2.2 k hk1 hn⟩, ⟨?_, ?_⟩, by simp [h5], ?_, ?_⟩
  · intro v b' c' hv
    rcases snoc_some hv with hv | ⟨rfl, e⟩
    · have hvl : v < u := by have := (List.getElem?_eq_some_iff.1 hv).1; omega
      rw [upd_other (by omega)]
      obtain ⟨g1, g2, g3⟩ := h4 v b' c' hv
      exact ⟨g1.same (hblk b' g1.lt (h7 v b' c' hv)), g2, g3⟩
    · simp only [Prod.mk.injEq] at e
      obtain ⟨rfl, rfl⟩ := e
      rw [h5, upd_same]
      refine ⟨c1.same (hblk b' hgbw hgbrow), c2, fun bv nv cv hv' => ?_⟩
      rw [hit] at hv'
      simp only [Option.some.injEq, Prod.mk.injEq] at hv'
      obtain ⟨rfl, rfl, rfl⟩ := hv'
      refine ⟨c3, c5, ?_⟩
      rcases c6 with ⟨n', c'', hit'⟩ | ⟨d1, _, _⟩
      · rw [hit] at hit'
        simp only [Option.some.injEq, Prod.mk.injEq] at hit'
        exact .inl hit'.1.symm
      · exact .inr d1
  · intro v v' b' c' c'' hv hv'
    rcases snoc_some hv with hv | ⟨e1, e2⟩
    · rcases snoc_some hv' with hv' | ⟨e1, e2⟩
      · exact h4' v v' b' c' c'' hv hv'
      · simp only [Prod.mk.injEq] at e2
        exact absurd e2.1 (hgbne v b' c' hv)
    · simp only [Prod.mk.injEq] at e2
      rcases snoc_some hv' with hv' | ⟨e3, _⟩
      · exact absurd e2.1 (hgbne v' b' c'' hv')
      · omega
  · rw [moreV_snoc its its2 b n c gb cg (by rw [h5]; exact hit)]
    exact ho
  · intro v b' c' hv e
    simp only [Value.ownBlock, Option.some.injEq] at e
    have hbw : b' < w.heap.size ∧ (Value.slice aM u cM).ownBlock ≠ some b' := by
      rcases snoc_some hv with hv | ⟨_, e2⟩
      · exact ⟨(h4 v b' c' hv).1.lt, h7 v b' c' hv⟩
      · simp only [Prod.mk.injEq] at e2
        obtain ⟨rfl, _⟩ := e2
        exact ⟨hgbw, hgbrow⟩
    rcases hgg with e2 | e2
    · exact hbw.2 (by rw [e2, e])
    · omega

theorem St2.start {mk : Nat → Nat → Int} {its : Its} {w0 w : World} {N : Nat} {C : Nat → List Value} (h1 : Bag w its C) (h2 : Full mk its C N 0) (h3 : KeptBag its w0 w) : St2 mk its w0 N w 0 [] (fun _ => []) C none 0 := by
  refine ⟨h1, h2, h3, ⟨?_, ?_⟩, rfl, World.ownsRow_nil _ _ _ _, ?_⟩
  · intro v b' c' hv; simp at hv
  · intro v v' b' c' c'' hv; simp at hv
  · intro v b' c' hv; simp at hv
theorem RowOf.cellOf {w : World} {g i : Nat} {G : List Value} {x : Value} (hr : RowOf w g G) (hx : G[i]? = some x) : w.cell? ⟨g, i, none⟩ = some x := by
  obtain ⟨hl, he⟩ := List.getElem?_eq_some_iff.1 hx
  rw [hr.cell hl, he]
theorem phase3 {mk : Nat → Nat → Int} {its : Its} {w0 w : World} {N cM g0 : Nat} {its2 : List (Nat × Nat)} {E C : Nat → List Value} {aM : Option Addr} (hS : St2 mk its w0 N w N its2 E C aM cM) (hh : Heads w g0 its) (hN : its.length = N) (v : Nat) (hv : v < N) :
    ∃ b n c gb cg gM, n ≤ 1000000000 ∧ aM = some ⟨gM, 0, none⟩ ∧ w.cell? ⟨g0, v, none⟩ = some (.slice (some ⟨b, 0, none⟩) n c) ∧ w.cell? ⟨gM, v, none⟩ = some (.slice (some ⟨gb, 0, none⟩) (n + 96) cg) ∧
      (∀ s, s < n → w.cell? ⟨b, s, none⟩ = some (.int .u8 (mk v s))) ∧ (∀ s, s < n → w.cell? ⟨gb, s, none⟩ = some (.int .u8 (mk v s))) ∧ ∀ s, s < 96 → w.cell? ⟨gb, n + s, none⟩ = some (.int .u8 (255 - mk v s)) := by
  obtain ⟨⟨b, n, c⟩, hit⟩ : ∃ it, its[v]? = some it := ⟨_, List.getElem?_eq_getElem (by omega)⟩
  obtain ⟨h1, h2, h3, ⟨h4, h4'⟩, h5, h6, h7⟩ := hS
  obtain ⟨⟨gb, cg⟩, hit2⟩ : ∃ it, its2[v]? = some it := ⟨_, List.getElem?_eq_getElem (by omega)⟩
  obtain ⟨r1, r2, r3, r4⟩ := h1 v b n c hit
  obtain ⟨e1, e2, e3⟩ := h4 v gb cg hit2
  obtain ⟨f1, f2, f3⟩ := e3 b n c hit
  have hm : (moreV its its2)[v]? = some (.slice (some ⟨gb, 0, none⟩) (n + 96) cg) := by
    unfold moreV; rw [List.getElem?_map, List.getElem?_range (by omega)]; simp [hit, hit2]
  obtain ⟨g', c', e, _, _, hc⟩ := owns_at h6 hm
  simp only [Value.slice.injEq] at e
  obtain ⟨rfl, _, _⟩ := e
  exact ⟨b, n, c, gb, cg, g', by omega, rfl, (hh v b n c hit).1, hc, fun s hs => r1.cellOf (h2 v b n c hit s hs (.inl hv)), fun s hs => e1.cellOf (f2.1 s hs), fun s hs => e1.cellOf (f2.2 s hs)⟩

end Rope
end Go.Proofs.Ythjagnnbhpfpoab
namespace Go.Proofs.Ythjagnnbhpfpoab
open Go.RowKit
attribute [local go_sem] Oper.semAt_some
namespace Rope

set_option maxRecDepth 100000 in
set_option maxHeartbeats 8000000 in
theorem grown_law (its : Its) (g0 N cap : Nat) (C0 : Nat → List Value) (w : World) (hN : its.length = N) (hNb : N ≤ 2000000000) (hb : Bag w its C0) (hl : Lone its) (hh : Heads w g0 its) :
    Calls Try.prog 13 #[.slice (some ⟨g0, 0, none⟩) N cap] w fun e w' => e = .returned (.bool true) ∧ KeptBag its w w' := by
  obtain ⟨mk, hmk, hms⟩ := marks_are
  have HMS := hide1 hms
  clear hms
  have HMK := hide1 hmk
  have HL := hide1 hl
  have HH := hide1 hh
  have HB := hide1 hb
  have HNN := hide1 hN
  have HOLD : Hid (Old its w) := fun v b n c hv => (hb v b n c hv).1.lt
  have gN : (N : Int) ≤ 2000000000 := by omega
  clear hmk hl hh hb hN hNb
  go_enter Try.func13, Try.ntmps13
  go_wp2_with fail
  go_loopw [3] (fun i wr => ∃ (t : Nat) (C : Nat → List Value), i = .int .i64 (t : Int) ∧ t ≤ N ∧ Hid (Bag wr its C) ∧ Hid (Full mk its C t 0) ∧ Hid (KeptBag its w wr)) (fun i _ => N - (intOf i).toNat)
  case atStart => exact ⟨0, C0, rfl, by omega, HB, fun t b n c ht s hs h => by omega, KeptBag.refl _ _⟩
  case round =>
    obtain ⟨t, C, rfl, ht, hB, hF, hK⟩ := hrel
    clear HB
    by_cases hlt : (t : Int) < (N : Int)
    · obtain ⟨⟨b, n, c⟩, hit⟩ : ∃ it, its[t]? = some it := ⟨_, List.getElem?_eq_getElem (by have := HNN.out; omega)⟩
      have HIT := hide1 hit
      obtain ⟨_, hcl, hnc, hc9⟩ := hB.out t b n c hit
      have gn : (n : Int) ≤ 1000000000 := by omega
      clear hit hcl
      go_wp2_with fail
      go_loopw [4] (fun i wr => ∃ (j : Nat) (C : Nat → List Value), i = .int .i64 (j : Int) ∧ j ≤ n ∧ Hid (Bag wr its C) ∧ Hid (Full mk its C t j) ∧ Hid (KeptBag its w wr)) (fun i _ => n - (intOf i).toNat)
      case atStart => exact ⟨0, C, rfl, by omega, hB, hF, hK⟩
      case round =>
        clear hB hF hK
        obtain ⟨j, C, rfl, hj, hB, hF, hK⟩ := hrel
        obtain ⟨hcell, hbg⟩ := (HH.out.bag hK.out) t b n c HIT.out
        by_cases hlt2 : (j : Int) < (n : Int)
        · have hkr : Kept wr wr := Kept.refl wr
          have q1 := keeps hcell
          obtain ⟨hrow, hcl, _, _⟩ := hB.out t b n c HIT.out
          have hc1 := hrow.cell (i := j) (by omega)
          have hz1 := hrow.frozen (i := j)
          have q2 := keeps hc1
          have q3 : ∀ W, Kept wr W → W.frozen? ⟨b, j, none⟩ = false := fun W hk => (hrow.kept hk).frozen
          go_wp2_with fail
          go_region_with (go_at_call 33; refine ((HMK.out t j).2.2 _).mono ?_; rintro e w5 ⟨rfl, hk5⟩; have c5 := q1 w5 hk5; have d5 := q2 w5 hk5; have z5 := q3 w5 hk5)
          all_goals
            have hk05 : Kept wr w5 := gtrans (drew_kept wr) hk5
            have hB5 := hide1 ((hB.out.kept hk05).put HL.out HIT.out (j := j) (.int .u8 (mk t j)))
            have hF5 := hide1 (hF.out.put hB.out HIT.out (by omega))
            have hK5 := hide1 (hK.out.trans ((KeptBag.kept hk05).trans (KeptBag.put HIT.out (j := j) (.int .u8 (mk t j)))))
            clear hk5 hk05 c5 d5 z5 q1 q2 q3 hrow hcl hc1 hz1 hkr
            go_wp2
            go_roundw
            case rel => exact ⟨j + 1, _, by go_num, by omega, hB5, hF5, hK5⟩
            case measure => simp [intOf]; omega
        · go_wp2
          go_roundw
          case rel => exact ⟨t + 1, C, by go_num, by omega, hB, (hF.out.next (fun b' n' c' h' => by have := HIT.out; rw [h'] at this; simp only [Option.some.injEq, Prod.mk.injEq] at this; omega)), hK⟩
          case measure => simp [intOf]; omega
    · obtain rfl : t = N := by omega
      clear hlt ht
      go_wp2_with fail
      go_loopw [5, 6] (fun m i wr => ∃ (u : Nat) (its2 : List (Nat × Nat)) (E C : Nat → List Value) (aM : Option Addr) (cM : Nat), m = .slice aM u cM ∧ i = .int .i64 (u : Int) ∧ u ≤ t ∧ Hid (St2 mk its w t wr u its2 E C aM cM)) (fun _ i _ => t - (intOf i).toNat)
      case atStart => exact ⟨0, [], fun _ => [], C, none, 0, rfl, rfl, by omega, St2.start hB.out hF.out hK.out⟩
      case round =>
        obtain ⟨u, its2, E, C, aM, cM, rfl, rfl, hu, hS⟩ := hrel
        clear hB hF hK
        by_cases hlt : (u : Int) < (t : Int)
        · obtain ⟨⟨b, n, c⟩, hit⟩ : ∃ it, its[u]? = some it := ⟨_, List.getElem?_eq_getElem (by have := HNN.out; omega)⟩
          have HIT := hide1 hit
          obtain ⟨hcell, hbg⟩ := (HH.out.bag hS.out.2.2.1) u b n c hit
          obtain ⟨hrow, hcl, hnc, hc9⟩ := hS.out.1 u b n c hit
          have gn : (n : Int) ≤ 1000000000 := by omega
          have HROW := hide1 hrow
          have HCL := hide1 hcl
          clear hit hrow hcl
          go_wp2_with fail
          go_loopw [7, 8] (fun g i wr => ∃ (j : Nat) (C : Nat → List Value) (gb cg : Nat) (G : List Value), g = .slice (some ⟨gb, 0, none⟩) (n + j) cg ∧ i = .int .i64 (j : Int) ∧ j ≤ 96 ∧ Hid (St2 mk its w t wr u its2 E C aM cM) ∧ Hid (Cur mk w its its2 aM u n j wr gb cg G)) (fun _ i _ => 96 - (intOf i).toNat)
          case atStart => exact ⟨0, C, b, c, C u, rfl, rfl, by omega, hS, HROW.out, HCL.out, by omega, hc9.2, ⟨fun s hs => hS.out.2.1 u b n c HIT.out s hs (by omega), fun s hs => by omega⟩, .inl ⟨n, c, HIT.out⟩⟩
          case round =>
            clear hS
            obtain ⟨j, C, gb, cg, G, rfl, rfl, hj, hS, hC⟩ := hrel
            by_cases hlt3 : (j : Int) < 96
            · obtain ⟨hm0, hm1, hmc⟩ := HMK.out u j
              have hgb := hC.out.1
              go_wp2_with (first
                | (go_at_call 33; go_must (refine (hmc _).mono ?_; rintro e w5 ⟨rfl, hk5'⟩; have hk5 := hide1 hk5'; clear hk5'))
                | (at_builtin; go_must (refine wpl_grow_byte rfl _ _ rfl _ gb (n + j) cg G (by rfl) ((hC.out.1.kept hk5.out).kept ((Kept.refl w5).alloc _ _)) hC.out.2.1 hC.out.2.2.1 hC.out.2.2.2.1 (255 - mk u j) w5.heap.size (by rfl) (lit_one _ _ _) (by omega) ?_; intro gb' cg' G' w6 r1 r2 r3 r4 r5 r6; have hstep := hide1 (step2 hS.out hC.out HIT.out HL.out HOLD.out (gtrans hk5.out ((Kept.refl w5).alloc _ _)) r1 r2 r3 r4 r5 r6); clear r1 r2 r3 r4 r5 r6)))
              obtain ⟨C', hs', hc'⟩ := hstep.out
              have HS' := hide1 hs'
              have HC' := hide1 hc'
              clear hs' hc' hstep
              go_roundw
              case rel => exact ⟨j + 1, C', gb', cg', G', rfl, by go_num, by omega, HS', HC'⟩
              case measure => simp [intOf]; omega
            · obtain rfl : j = 96 := by omega
              clear hj hlt3
              have hsz0 := hS.out.2.2.1.2.2.2.1
              go_wp2_with (at_builtin; go_must (refine wpl_add_slice rfl _ _ rfl wr _ ((Kept.refl wr).alloc _ _) w.heap.size (.slice aM u cM) u (moreV its its2) (by rfl) hS.out.2.2.2.2.2.1 (some ⟨gb, 0, none⟩) (n + 96) cg wr.heap.size (by rfl) (lit_one _ _ _) (by omega) hsz0 ?_; intro g7 c7 w7 ho7 hg7 hgg7 hlt7; have hstep := hide1 (step3 hS.out hC.out HIT.out HL.out HOLD.out ((Kept.refl wr).alloc _ _) ho7 hg7 hgg7); clear hg7 hgg7 hlt7 ho7))
              go_roundw
              case rel => exact ⟨u + 1, its2 ++ [(gb, cg)], _, C, some ⟨g7, 0, none⟩, c7, rfl, by go_num, by omega, hstep⟩
              case measure => simp [intOf]; omega
        · obtain rfl : u = t := by omega
          clear hlt hu
          have HP := hide1 (fun v hv => phase3 hS.out (HH.out.bag hS.out.2.2.1) HNN.out v hv)
          have HK := hide1 hS.out.2.2.1
          clear hS
          obtain ⟨wb, rfl⟩ : ∃ x, x = wr := ⟨_, rfl⟩
          go_wp2_with fail
          go_loopw [9] (fun i wx => ∃ v : Nat, i = .int .i64 (v : Int) ∧ v ≤ u ∧ Hid (Kept wb wx)) (fun i _ => u - (intOf i).toNat)
          case atStart => exact ⟨0, rfl, by omega, Kept.refl _⟩
          case round =>
            obtain ⟨v, rfl, hv, hk⟩ := hrel
            by_cases hlt : (v : Int) < (u : Int)
            · obtain ⟨b, n, c, gb, cg, gM, hn9, rfl, c1, c2, c3, c4, c5⟩ := HP.out v (by omega)
              have q1 := keeps c1
              have q2 := keeps c2
              have HC3 := hide1 c3
              have HC4 := hide1 c4
              have HC5 := hide1 c5
              have gn : (n : Int) ≤ 1000000000 := by omega
              clear c1 c2 c3 c4 c5
              have d1 := q1 _ hk.out
              go_wp2_with fail
              clear d1
              go_loopw [11] (fun i wx => ∃ s : Nat, i = .int .i64 (s : Int) ∧ s ≤ n ∧ Hid (Kept wb wx)) (fun i _ => n - (intOf i).toNat)
              case atStart => exact ⟨0, rfl, by omega, hk⟩
              case round =>
                clear hk
                obtain ⟨s, rfl, hs, hk⟩ := hrel
                by_cases hlt2 : (s : Int) < (n : Int)
                · obtain ⟨hm0, hm1, hmc⟩ := HMK.out v s
                  have q3 := keeps (HC3.out s (by omega))
                  have q4 := keeps (HC4.out s (by omega))
                  have d1 := q1 _ hk.out
                  have d2 := q2 _ hk.out
                  have d3 := q3 _ hk.out
                  have d4 := q4 _ hk.out
                  go_wp2_with fail
                  go_quiet ((go_at_call 33; exact Calls.quiet_of_same (HMS.out v s _)))
                  go_wp2
                  go_roundw
                  case rel => exact ⟨s + 1, by go_num, by omega, gtrans hk.out ⟨rfl, rfl, rfl, Nat.le_refl _, fun _ _ => rfl⟩⟩
                  case measure => simp [intOf]; omega
                · clear hs
                  go_wp2_with fail
                  go_loopw [12] (fun i wx => ∃ s : Nat, i = .int .i64 (s : Int) ∧ s ≤ 96 ∧ Hid (Kept wb wx)) (fun i _ => 96 - (intOf i).toNat)
                  case atStart => exact ⟨0, rfl, by omega, hk⟩
                  case round =>
                    clear hk
                    obtain ⟨s, rfl, hs, hk⟩ := hrel
                    by_cases hlt3 : (s : Int) < 96
                    · obtain ⟨hm0, hm1, hmc⟩ := HMK.out v s
                      have q5 := keeps (HC5.out s (by omega))
                      have d2 := q2 _ hk.out
                      have d5 := q5 _ hk.out
                      go_wp2_with fail
                      go_quiet ((go_at_call 33; exact Calls.quiet_of_same (HMS.out v s _)))
                      go_wp2
                      go_roundw
                      case rel => exact ⟨s + 1, by go_num, by omega, gtrans hk.out ⟨rfl, rfl, rfl, Nat.le_refl _, fun _ _ => rfl⟩⟩
                      case measure => simp [intOf]; omega
                    · go_wp2_with fail
                      go_roundw
                      case rel => exact ⟨v + 1, by go_num, by omega, hk⟩
                      case measure => simp [intOf]; omega
            · go_wp2_with fail
              go_ret
              exact ⟨rfl, HK.out.trans (KeptBag.kept hk.out)⟩

set_option maxRecDepth 100000 in
set_option maxHeartbeats 2000000 in
/-- No list was handed out. -/
theorem grown_nil (w : World) : Calls Try.prog 13 #[.slice none 0 0] w fun e w' => e = .returned (.bool true) ∧ w' = w := by
  go_enter Try.func13, Try.ntmps13
  go_wp2_with fail
  go_loopw [3] (fun i wr => i = .int .i64 0 ∧ wr = w) (fun _ _ => 0)
  case atStart => exact ⟨rfl, rfl⟩
  case round =>
    obtain ⟨rfl, rfl⟩ := hrel
    go_wp2_with fail
    go_loopw [5, 6] (fun m i wx => m = .slice none 0 0 ∧ i = .int .i64 0 ∧ wx = wr) (fun _ _ _ => 0)
    case atStart => exact ⟨rfl, rfl, rfl⟩
    case round =>
      obtain ⟨rfl, rfl, rfl⟩ := hrel
      go_wp2_with fail
      go_loopw [9] (fun i wx => i = .int .i64 0 ∧ wx = wr) (fun _ _ => 0)
      case atStart => exact ⟨rfl, rfl⟩
      case round =>
        obtain ⟨rfl, rfl⟩ := hrel
        go_wp2_with fail
        go_ret
        exact ⟨rfl, rfl⟩

end Rope
end Go.Proofs.Ythjagnnbhpfpoab
namespace Go.Proofs.Ythjagnnbhpfpoab
open Go.RowKit
attribute [local go_sem] Oper.semAt_some
namespace Rope

theorem ReaderAt.moves {S S' : Nat → Prop} {w w' : World} {D i : Nat} {pc rs : List Int} (h : ReaderAt S w D i pc rs) (hS : ∀ b, S b → b < w.heap.size → S' b ∧ w'.heap[b]? = w.heap[b]?) (hD : w'.heap[D]? = w.heap[D]?) (hn : ¬ S' D) : ReaderAt S' w' D i pc rs := by
  obtain ⟨h1, h2, v, u, h3, h4, h5, h6, h7⟩ := h
  have hs : Same (fun b => S b ∧ b < w.heap.size) w w' := ⟨fun b o v hb hc => by rw [World.cell?_of_block (w := w) (a := ⟨b, o, none⟩) (hS b hb.1 hb.2).2]; exact hc, fun b v hb _ hp o => by rw [World.frozen?_of_block (w := w) (a := ⟨b, o, none⟩) (hS b hb.1 hb.2).2]; exact hp o⟩
  refine ⟨hn, fun o => by rw [World.frozen?_of_block (w := w) (a := ⟨D, o, none⟩) hD]; exact h2 o, v, u, ?_, ?_, ?_, h6.tight.mono hs (fun b hb => (hS b hb.1 hb.2).1), (h7.tight.mono hs).wide (fun b hb => (hS b hb.1 hb.2).1)⟩
  · rw [World.cell?_of_block (w := w) (a := ⟨D, 0, none⟩) hD]; exact h3
  · rw [World.cell?_of_block (w := w) (a := ⟨D, 1, none⟩) hD]; exact h4
  · rw [World.cell?_of_block (w := w) (a := ⟨D, 2, none⟩) hD]; exact h5
theorem ReaderAt.below {S : Nat → Prop} {w : World} {D i : Nat} {pc rs : List Int} (h : ReaderAt S w D i pc rs) : D < w.heap.size := by
  obtain ⟨_, _, v, u, d0, _⟩ := h
  exact World.block_lt_of_cell? w ⟨D, 0, none⟩ d0

/-- A step that turns the blocks R alone; the iterator's ground grows by new blocks alone. -/
def Step (R T T' : Nat → Prop) (A A' : World) : Prop :=
  A'.os = A.os ∧ A'.tape = A.tape ∧ A'.output = A.output ∧ A.heap.size ≤ A'.heap.size ∧ (∀ k, k < A.heap.size → ¬ R k → A'.heap[k]? = A.heap[k]?) ∧ ∀ b, T' b → T b ∨ A.heap.size ≤ b
def Stable {β : Type} (R : Nat → Prop) (J : (Nat → Prop) → β → World → Prop) : Prop := ∀ T T' s A A', J T s A → Step R T T' A A' → J T' s A'
theorem Step.but {R T : Nat → Prop} {D : Nat} {A A' : World} (h : KeptBut D A A') (hD : R D) : Step R T (fun b => T b ∨ (A.heap.size ≤ b ∧ b < A'.heap.size)) A A' :=
  ⟨h.1, h.2.1, h.2.2.1, h.2.2.2.1, fun k hk hr => h.2.2.2.2 k hk (fun e => hr (e ▸ hD)), fun _ hb => hb.imp id And.left⟩
theorem Step.kept {R T : Nat → Prop} {A A' : World} (h : Kept A A') : Step R T (fun b => T b ∨ (A.heap.size ≤ b ∧ b < A'.heap.size)) A A' :=
  ⟨h.1, h.2.1, h.2.2.1, h.2.2.2.1, fun k hk _ => h.2.2.2.2 k hk, fun _ hb => hb.imp id And.left⟩
theorem Step.put {R T : Nat → Prop} {A : World} {l : Nat} (o : Obj) (hl : R l) : Step R T T A (A.putObj l o) :=
  ⟨rfl, rfl, rfl, by simp, fun k _ hr => World.putObj_heap_other (fun e => hr (e ▸ hl)), fun _ h => Or.inl h⟩

/-- An iterator that may write what it has made itself, and gives what it hands over away: T: its own ground. -/
def SeqT {α : Type} (blk : α → Nat) (F : Fence) (n : Nat) (P : Program) (g : Nat) (lb : Array Value) (encs : α → Array Value) (Hand : List α → α → World → Prop) (S Sp : List α → Prop) (T0 : Nat → Prop) (w : World) : Prop :=
  ∀ (l : Nat) (J : (Nat → Prop) → List α → World → Prop) (Jx : List α → World → Prop) (W : World), Below w.heap.size w W → Stable (fun b => b = W.heap.size) J →
    (∀ T pre x W1, J T pre W1 → Hand pre x W1 → T (blk x) → (∀ b, T0 b → T b) → (∀ b, T b → T0 b ∨ W.heap.size ≤ b) → W.heap.size < blk x → (∀ b, T b → b < W1.heap.size) → YieldAt F (n - 1) P l (encs x) W1 fun e W' =>
      (e = .returned (.bool true) ∧ J (fun b => T b ∧ b ≠ blk x) (pre ++ [x]) W' ∧ W1.heap.size ≤ W'.heap.size ∧ ∀ b, T b → b ≠ blk x → W'.heap[b]? = W1.heap[b]?) ∨ (e = .returned (.bool false) ∧ Jx (pre ++ [x]) W')) →
    J T0 [] W →
    CallsIn F n P g (#[.func (.yield l) #[] #[]] ++ lb) W fun e W' => (∃ v, e = .returned v) ∧ ((∃ T xs, S xs ∧ J T xs W') ∨ (∃ pre, Sp pre ∧ Jx pre W'))

/-- How the body of a round may be left. -/
def ownPostT {α : Type} (B : Nat) (T' : Nat → Prop) (I : (Nat → Prop) → List α → World → Prop) (Ix : Code → List α → World → Prop) (xs : List α) (W : World) : Exit → Act → World → Prop
  | .normal, _, W' => KeepsFrom B W W' ∧ (∀ b, T' b → W'.heap[b]? = W.heap[b]?) ∧ I T' xs W'
  | .ret, _, W' => KeepsFrom B W W' ∧ Ix .ret xs W'
  | .exit id, _, W' => KeepsFrom B W W' ∧ Ix (.exit id) xs W'
  | .goto t, _, W' => KeepsFrom B W W' ∧ Ix (.goto t) xs W'
  | .panic _, _, _ => False
  | .outgrown, _, _ => False

/-- The statement 'range' over such an iterator. -/
theorem range_T {F : Fence} {n : Nat} {P : Program} {α : Type} (blk : α → Nat) {g : Operand} {ps : Array Tmp} {assign body : Code} {Q : Exit → Act → World → Prop} {a : Act} {w : World}
    (hro : F.round = none) (h1 : 1 ≤ n) {gf : Nat} {lb : Array Value} (hg : a.eval g = .func (.func gf) #[] lb) (hFg : F.fn gf) (eg : ∀ args w, (callFunc gf args).run P w = .ok (.enter gf args) w)
    {encs : α → Array Value} {Hand : List α → α → World → Prop} {S Sp : List α → Prop} {T0 : Nat → Prop} {w0 : World} (hseq : SeqT blk F (n - 1) P gf lb encs Hand S Sp T0 w0) (hT0 : ∀ b, T0 b → b < w.heap.size)
    (hHb : ∀ pre x (W : World) (l : Nat) (o o' : Obj), W.heap[l]? = some o → o.isCells = false → Hand pre x W → Hand pre x (W.putObj l o'))
    (hb0 : Below w0.heap.size w0 w) (hps : ∀ x, (encs x).size = ps.size)
    (I : (Nat → Prop) → List α → World → Prop) (Ix : Code → List α → World → Prop) (hI : Stable (fun b => w.heap.size ≤ b ∧ b < w.heap.size + 3) I) (hIx : ∀ c, Stable (fun b => w.heap.size ≤ b ∧ b < w.heap.size + 3) (fun _ => Ix c)) (h0 : I T0 [] w) (a₁ : α → Act)
    (hassign : ∀ (l : Nat) (x : α) (W : World) (K : Act → World → Prop), K (a₁ x) W →
      assign.wpIn (F.inRound l) (n - 1 - 1) P (Exit.then K (fun _ _ _ => False)) { tmps := (ps.zip (encs x)).foldl (fun t (p, v) => t.setIfInBounds p v) a.tmps, defers := [] } W)
    (hbody : ∀ (T : Nat → Prop) (pre : List α) (x : α) (W : World), I T pre W → Hand pre x W → T (blk x) → (∀ b, T0 b → T b) → (∀ b, T b → T0 b ∨ w.heap.size + 2 ≤ b) → w.heap.size + 2 < blk x → (∀ b, T b → b < W.heap.size) → (∃ r : Loop, r.defers = w.heap.size ∧ W.heap[w.heap.size + 1]? = some (.loop r)) →
      body.wpIn (F.inRound (w.heap.size + 1)) (n - 1 - 1) P (ownPostT w.heap.size (fun b => T b ∧ b ≠ blk x) I Ix (pre ++ [x]) W) (a₁ x) W)
    (hdone : ∀ (D : Nat) (T : Nat → Prop) (xs : List α) (W : World), w.heap.size ≤ D → S xs → I T xs W → W.heap[D]? = some (.deferred (some [])) → Q .normal { a with defers := { target := .collected D, args := #[] } :: a.defers } W)
    (hstop : ∀ (D : Nat) (c : Code) (pre : List α) (W : World), w.heap.size ≤ D → Sp pre → Ix c pre W → W.heap[D]? = some (.deferred (some [])) → c.wpIn F n P Q { a with defers := { target := .collected D, args := #[] } :: a.defers } W) :
    (Code.rangeFunc g ps assign body).wpIn F n P Q a w := by
  refine wpIn_rangeFunc ?_
  intro fn hfn
  rw [hro]
  obtain ⟨rec, hrec⟩ : ∃ rec : LoopState → Option Code → Loop, rec = fun st pe => { state := st, pending := pe, fn, tmps := a.tmps, params := ps, assign, body, defers := w.heap.size } := ⟨_, rfl⟩
  obtain ⟨W1, hW1⟩ : ∃ W1, (w.alloc (.deferred (some []))).alloc (.loop (rec .ready none)) = W1 := ⟨_, rfl⟩
  have hsz : W1.heap.size = w.heap.size + 2 := by rw [← hW1]; simp
  have hbw : Below w.heap.size w W1 := by rw [← hW1]; exact ((Below.refl _ w).alloc (Nat.le_refl _) _).alloc (by simp) _
  have hL1 : W1.heap[w.heap.size + 1]? = some (.loop (rec .ready none)) := by
    have := World.alloc_heap_new (w.alloc (.deferred (some []))) (.loop (rec .ready none))
    rw [← hW1]; rwa [World.size_alloc] at this
  have hD1 : W1.heap[w.heap.size]? = some (.deferred (some [])) := by
    rw [← hW1]; exact (Below.heap_alloc _ _ _ (by simp)).trans (World.alloc_heap_new w _)
  have hR : ∀ b, b = W1.heap.size → w.heap.size ≤ b ∧ b < w.heap.size + 3 := fun b e => by omega
  have hstep1 : Step (fun b => w.heap.size ≤ b ∧ b < w.heap.size + 3) T0 T0 w W1 := ⟨hbw.os, hbw.tape, hbw.output, hbw.size, fun k hk _ => hbw.block k hk, fun _ h => Or.inl h⟩
  refine ⟨w.heap.size + 1, [{ target := .collected w.heap.size, args := #[] }], W1, { target := .fn (.func gf) lb, args := #[.func (.yield (w.heap.size + 1)) #[] #[]] }, W1, gf,
    #[.func (.yield (w.heap.size + 1)) #[] #[]] ++ lb, W1, ?_, ?_, ?_, ?_, fun _ => h1, ?_⟩
  · rw [← hW1, hrec]; exact run_enterLoop_outer _ _ _ _ _
  · simp only [resolve, hg]
    simp [go_sem]
  · intro f' hf'; simp [Target.leads] at hf'; subst hf'; exact hFg
  · simp [invoke, go_sem, eg]
  refine (hseq (w.heap.size + 1)
    (fun T pre W => I T pre W ∧ W.heap[w.heap.size + 1]? = some (.loop (rec .ready none)) ∧ W.heap[w.heap.size]? = some (.deferred (some [])))
    (fun pre W => ∃ c, Ix c pre W ∧ W.heap[w.heap.size + 1]? = some (.loop (rec .done (some c))) ∧ W.heap[w.heap.size]? = some (.deferred (some [])))
    W1 (hb0.trans (hbw.mono hb0.size)) ?_ ?_ ⟨hI _ _ _ _ _ h0 hstep1, hL1, hD1⟩).mono ?_
  · rintro T T' s A A' ⟨g1, g2, g3⟩ hs
    refine ⟨hI T T' s A A' g1 ⟨hs.1, hs.2.1, hs.2.2.1, hs.2.2.2.1, fun k hk hr => hs.2.2.2.2.1 k hk (fun e => hr (hR k e)), hs.2.2.2.2.2⟩, ?_, ?_⟩
    · rw [hs.2.2.2.2.1 _ (Array.getElem?_eq_some_iff.1 g2).1 (by omega)]; exact g2
    · rw [hs.2.2.2.2.1 _ (Array.getElem?_eq_some_iff.1 g3).1 (by omega)]; exact g3
  · rintro T pre x W ⟨hi, hl, hk⟩ hhand hTx hT1 hT2 hblk hTl
    have hlt : w.heap.size + 1 < W.heap.size := (Array.getElem?_eq_some_iff.1 hl).1
    have hTb : ∀ b, T b → b < w.heap.size ∨ w.heap.size + 2 ≤ b := fun b hb => by
      rcases hT2 b hb with h | h
      · exact Or.inl (hT0 b h)
      · right; omega
    have hy := run_yield (P := P) (args := encs x) hl (by rw [hrec]; exact hps x)
    rw [hrec] at hy
    refine ⟨fn, _, assign, body, hy, roundIn_of_wpIn hfn (hassign _ x W _ ⟨_, run_beginRound hl (by rw [hrec]), ?_⟩)⟩
    obtain ⟨W2, hW2⟩ : ∃ W2, W.putObj (w.heap.size + 1) (.loop { rec .ready none with state := .busy }) = W2 := ⟨_, rfl⟩
    have hs2 : Step (fun b => w.heap.size ≤ b ∧ b < w.heap.size + 3) T T W W2 := by rw [← hW2]; exact Step.put _ (by omega)
    have hl2 : W2.heap[w.heap.size + 1]? = some (.loop { rec .ready none with state := .busy }) := by rw [← hW2]; exact World.putObj_heap_same hlt
    have hk2 : W2.heap[w.heap.size]? = some (.deferred (some [])) := by rw [← hW2]; exact (World.putObj_heap_other (by omega)).trans hk
    have hT2' : ∀ b, T b → W2.heap[b]? = W.heap[b]? := fun b hb => by rw [← hW2]; exact World.putObj_heap_other (by have := hTb b hb; omega)
    have hh2 : Hand pre x W2 := by rw [← hW2]; exact hHb _ _ _ _ _ _ hl rfl hhand
    have hlt2 : ∀ b, T b → b < W2.heap.size := fun b hb => Nat.lt_of_lt_of_le (hTl b hb) hs2.2.2.2.1
    have hbd := hbody T pre x W2 (hI _ _ _ _ _ hi hs2) hh2 hTx hT1 (fun b hb => (hT2 b hb).imp id (fun h => by omega)) (by omega) hlt2 ⟨_, by rw [hrec], hl2⟩
    have fin : ∀ (jump : Option Code) (W3 : World), KeepsFrom w.heap.size W2 W3 →
        (Instr.endRound (w.heap.size + 1) jump).run P W3 = .ok (.bool jump.isNone) (W3.putObj (w.heap.size + 1) (.loop (rec (if jump.isNone then .ready else .done) jump))) ∧
        W3.heap[w.heap.size + 1]? = some (.loop { rec .ready none with state := .busy }) ∧
        (W3.putObj (w.heap.size + 1) (.loop (rec (if jump.isNone then .ready else .done) jump))).heap[w.heap.size + 1]? = some (.loop (rec (if jump.isNone then .ready else .done) jump)) ∧
        (W3.putObj (w.heap.size + 1) (.loop (rec (if jump.isNone then .ready else .done) jump))).heap[w.heap.size]? = some (.deferred (some [])) := by
      intro jump W3 hk3
      have hl3 := hk3.same _ _ (by omega) hl2 rfl
      have hr := run_endRound (P := P) jump hl3
      rw [hrec] at hr ⊢
      exact ⟨hr, by rw [hrec] at hl3; exact hl3, World.putObj_heap_same (Array.getElem?_eq_some_iff.1 hl3).1, (World.putObj_heap_other (by omega)).trans (hk3.same _ _ (Nat.le_refl _) hk2 rfl)⟩
    rw [hW2]
    refine wpIn_mono hbd ?_
    rintro e a3 W3 hp
    cases e with
    | normal =>
      obtain ⟨hk3, hkp3, hi3⟩ := hp
      obtain ⟨hr, hl3, hl4, hk4⟩ := fin none W3 hk3
      refine ⟨_, _, hr, .inl ⟨rfl, ⟨hI _ _ _ _ _ hi3 (Step.put _ (by omega)), hl4, hk4⟩, ?_, fun b hb hne => ?_⟩⟩
      · have := hk3.size; have h2 := hs2.2.2.2.1; simp; omega
      · rw [World.putObj_heap_other (by have := hTb b hb; omega), hkp3 b ⟨hb, hne⟩, hT2' b hb]
    | ret =>
      obtain ⟨hk3, hi3⟩ := hp
      obtain ⟨hr, hl3, hl4, hk4⟩ := fin (some .ret) W3 hk3
      exact ⟨_, _, hr, .inr ⟨rfl, .ret, hIx _ T T _ _ _ hi3 (Step.put _ (by omega)), hl4, hk4⟩⟩
    | exit id =>
      obtain ⟨hk3, hi3⟩ := hp
      obtain ⟨hr, hl3, hl4, hk4⟩ := fin (some (.exit id)) W3 hk3
      exact ⟨_, _, hr, .inr ⟨rfl, .exit id, hIx _ T T _ _ _ hi3 (Step.put _ (by omega)), hl4, hk4⟩⟩
    | goto t =>
      obtain ⟨hk3, hi3⟩ := hp
      obtain ⟨hr, hl3, hl4, hk4⟩ := fin (some (.goto t)) W3 hk3
      exact ⟨_, _, hr, .inr ⟨rfl, .goto t, hIx _ T T _ _ _ hi3 (Step.put _ (by omega)), hl4, hk4⟩⟩
    | panic ch => exact hp.elim
    | outgrown => exact hp.elim
  · rintro e W2 ⟨⟨v, rfl⟩, (⟨T, xs, hS, hi, hl, hk⟩ | ⟨pre, hSp, c, hi, hl, hk⟩)⟩
    · exact ⟨none, _, by have := run_endLoop (P := P) hl (by rw [hrec]; simp); rw [hrec] at this; exact this, hdone _ T xs _ (Nat.le_refl _) hS (hI _ _ _ _ _ hi (Step.put _ (by omega))) ((World.putObj_heap_other (by omega)).trans hk)⟩
    · exact ⟨some c, _, by have := run_endLoop (P := P) hl (by rw [hrec]; simp); rw [hrec] at this; exact this, hstop _ c pre _ (Nat.le_refl _) hSp (hIx c T0 T0 _ _ _ hi (Step.put _ (by omega))) ((World.putObj_heap_other (by omega)).trans hk)⟩

set_option maxRecDepth 100000 in
set_option maxHeartbeats 4000000 in
theorem chunksT_seq (S0 : Nat → Prop) (n br bf f : Nat) (rv : Option Addr) (xs : List Int) (w : World) (hr : RopeAt S0 w (.pointer rv) xs) (cr : w.cell? ⟨br, 0, none⟩ = some (.pointer rv)) (cf : w.cell? ⟨bf, 0, none⟩ = some (.int .i64 f)) (hf : f ≤ xs.length) :
    SeqT Item.blk Fence.wide n Try.prog 28 #[.pointer (some ⟨br, 0, none⟩), .pointer (some ⟨bf, 0, none⟩)] Item.encs (Hands w.heap.size f xs) (fun ys => got ys = xs.drop f) (fun _ => True) (fun b => S0 b ∧ b < w.heap.size) w := by
  intro l J Jx W hb hJ hY h0
  have hlen := hr.len
  obtain ⟨D, hD⟩ : ∃ D, W.heap.size = D := ⟨_, rfl⟩
  have hwD : w.heap.size ≤ D := by rw [← hD]; exact hb.size
  have hkW : Kept w W := Kept.of hb
  have hrW : RopeAt (fun b => (S0 b ∧ b < w.heap.size) ∨ D < b) W (.pointer rv) xs := (hr.tight.kept hkW).mono (Same.refl _ _) (fun b h => Or.inl h)
  have crW := grown_cell hkW cr
  have cfW := grown_cell hkW cf
  have HR : Hid (Calls Try.prog 29 #[.pointer rv, .int .i64 f] W fun e w' => e = .returned (.pointer (some ⟨D, 0, none⟩)) ∧ Kept W w' ∧ ∃ pc rs, ReaderAt (fun b => (S0 b ∧ b < w.heap.size) ∨ D < b) w' D f pc rs ∧ pc ++ rs = xs.drop f) := by
    have := reader_rope (fun b => (S0 b ∧ b < w.heap.size) ∨ D < b) (.pointer rv) f xs W hrW (by rw [hD]; exact fun c h => Or.inr h) (by rw [hD]; rintro (h | h) <;> omega) hf
    rw [hD] at this; exact this
  rw [hD] at hJ hY
  have HD := hide1 hD
  have HJ := hide1 hJ
  have HY := hide1 hY
  have H0 := hide1 h0
  clear hr cr cf hb hD hJ hrW hY h0
  refine callsIn_of_wp Try.func28 rfl trivial ?_ rfl
  simp only [Try.ntmps28, List.size_toArray, List.length_cons, List.length_nil, Nat.reduceAdd, Nat.reduceSub, Array.replicate_succ, Array.replicate_zero, List.push_toArray, List.append_toArray, List.nil_append, List.cons_append]
  gi_wp2_with fail
  refine ⟨trivial, fun h => (by cases h), ?_⟩
  refine (callsIn_wide.2 HR.out).mono ?_
  rintro e W0 ⟨rfl, hk0, pc0, rs0, hR0, hall0⟩
  have hDW : D < W0.heap.size := hR0.below
  have hj0 : J (fun b => (S0 b ∧ b < w.heap.size) ∨ (D ≤ b ∧ b < W0.heap.size)) [] W0 := by
    have := HJ.out _ _ _ _ _ H0.out (Step.kept (T := fun b => S0 b ∧ b < w.heap.size) hk0)
    rw [HD.out] at this
    exact this
  have hR0' : ReaderAt (fun b => ((S0 b ∧ b < w.heap.size) ∨ (D ≤ b ∧ b < W0.heap.size)) ∧ b ≠ D) W0 D f pc0 rs0 :=
    hR0.moves (fun b hb hlt => ⟨⟨hb.imp id (fun h => ⟨by omega, hlt⟩), by rcases hb with h | h <;> omega⟩, rfl⟩) rfl (fun h => h.2 rfl)
  have HT0 : Hid ((∀ b, (S0 b ∧ b < w.heap.size) → ((S0 b ∧ b < w.heap.size) ∨ (D ≤ b ∧ b < W0.heap.size))) ∧ (∀ b, ((S0 b ∧ b < w.heap.size) ∨ (D ≤ b ∧ b < W0.heap.size)) → (S0 b ∧ b < w.heap.size) ∨ D ≤ b) ∧ ((S0 D ∧ D < w.heap.size) ∨ (D ≤ D ∧ D < W0.heap.size)) ∧ ∀ b, ((S0 b ∧ b < w.heap.size) ∨ (D ≤ b ∧ b < W0.heap.size)) → b < W0.heap.size) :=
    ⟨fun b h => Or.inl h, fun b h => h.imp id And.left, Or.inr ⟨Nat.le_refl _, hDW⟩, fun b h => by rcases h with h | h <;> omega⟩
  have HJ0 := hide1 hj0
  have HR0 := hide1 hR0'
  have HA0 := hide1 hall0
  clear hj0 hR0 hR0' hall0 HR H0 hk0
  gi_wp2_with fail
  gi_loopw [5] (fun _ wr => ∃ (T : Nat → Prop) (pre : List Item) (pc rs : List Int), Hid (J T pre wr) ∧ Hid (ReaderAt (fun b => T b ∧ b ≠ D) wr D (f + (got pre).length) pc rs) ∧ Hid (xs.drop f = got pre ++ (pc ++ rs)) ∧ D < wr.heap.size ∧ Hid ((∀ b, (S0 b ∧ b < w.heap.size) → T b) ∧ (∀ b, T b → (S0 b ∧ b < w.heap.size) ∨ D ≤ b) ∧ T D ∧ ∀ b, T b → b < wr.heap.size)) (fun _ wr => ahead xs.length D wr)
  case atStart => exact ⟨_, [], pc0, rs0, HJ0, HR0, HA0.out.symm, hDW, HT0⟩
  case round =>
    obtain ⟨T, pre, pc, rs, HJ1, HR1, HA1, hlt, HT1⟩ := hrel
    clear HJ0 HR0 HA0 hDW HT0
    gi_wp2_with fail
    refine ⟨trivial, fun h => (by cases h), ?_⟩
    have hRw : ReaderAt (fun b => (T b ∧ b ≠ D) ∨ wr.heap.size ≤ b) wr D (f + (got pre).length) pc rs := HR1.out.moves (fun b hb _ => ⟨Or.inl hb, rfl⟩) rfl (by rintro (h | h); exact h.2 rfl; omega)
    refine (callsIn_wide.2 (more_any (fun b => (T b ∧ b ≠ D) ∨ wr.heap.size ≤ b) D _ pc rs wr (fun c hc => Or.inr hc) hRw)).mono ?_
    rintro e W1 ⟨rfl, hk1, pc1, rs1, hR1, hne1, hall1⟩
    clear hRw
    have hj1 : J (fun b => T b ∨ (wr.heap.size ≤ b ∧ b < W1.heap.size)) pre W1 := HJ.out _ _ _ _ _ HJ1.out (Step.but hk1 rfl)
    have hD1 : D < W1.heap.size := Nat.lt_of_lt_of_le hlt hk1.size
    by_cases hend : pc ++ rs = []
    · have HFIN : Hid (got pre = xs.drop f) := by have := HA1.out; rw [hend, List.append_nil] at this; exact this.symm
      have hemp : (!(pc ++ rs).isEmpty) = false := by rw [hend]; rfl
      have HJ2 := hide1 hj1
      clear hj1 hne1 hall1 hR1 hk1 hend
      rw [hemp]
      gi_wp2
      go_end0
      exact ⟨⟨_, rfl⟩, .inl ⟨_, pre, HFIN.out, HJ2.out⟩⟩
    · have hemp : (!(pc ++ rs).isEmpty) = true := by cases h : pc ++ rs with | nil => exact absurd h hend | cons => rfl
      rw [hemp]
      have hne2 := hne1 hend
      have hR1' := hR1
      obtain ⟨_, _, v1, u1, d0, d1, d2, hv1, ht1⟩ := hR1'
      obtain ⟨va, vcap, rfl⟩ := hv1.form
      have hpos : 0 < pc1.length := List.length_pos_iff.2 hne2
      have hlen2 : (got pre).length + (pc1 ++ rs1).length = (xs.drop f).length := by rw [HA1.out, ← hall1]; simp
      have hlen3 : f + (got pre).length + pc1.length + rs1.length ≤ xs.length := by
        simp only [List.length_append, List.length_drop] at hlen2; omega
      have HJ2 := hide1 hj1
      have HR2 := hide1 hR1
      have HA2 := hide1 hall1
      have HK1 := hide1 hk1
      clear hj1 hne1 hall1 hR1 hv1 ht1 hend hlen2 hk1
      gi_wp2_with fail
      refine ⟨trivial, fun h => (by cases h), ?_⟩
      refine (callsIn_wide.2 (take_any _ D _ pc1.length pc1 rs1 W1 HR2.out (Nat.le_refl _) hpos (by omega))).mono ?_
      rintro e W2 ⟨v2, rfl, hk2, hs2, hR2⟩
      rw [List.take_of_length_le (Nat.le_refl _)] at hs2
      rw [List.drop_eq_nil_of_le (Nat.le_refl _)] at hR2
      have hj2 := HJ.out _ _ _ _ _ HJ2.out (Step.but hk2 rfl)
      have hD2 : D < W2.heap.size := Nat.lt_of_lt_of_le hD1 hk2.size
      have HS2 := hide1 hs2
      have HJ3 := hide1 hj2
      have HR3 := hide1 hR2
      have HK2 := hide1 hk2
      clear hs2 hj2 hR2 HJ2 HR2 d0 d1 d2 hk2
      gi_wp2_with fail
      refine ⟨trivial, fun h => (by cases h), ?_⟩
      refine (callsIn_wide.2 (clone_any _ _ pc1 W2 HS2.out hne2 (by omega))).mono ?_
      rintro e W3 ⟨g3, cap3, rfl, hk3, how3, hg3⟩
      have hj3 := HJ.out _ _ _ _ _ HJ3.out (Step.kept hk3)
      have hD3 : D < W3.heap.size := Nat.lt_of_lt_of_le hD2 hk3.size
      have hg3' : g3 < W3.heap.size := by
        rcases how3.2 with ⟨h, _⟩ | ⟨g', c', cur, e, _, h2, _⟩
        · cases h
        · simp only [Value.slice.injEq, Option.some.injEq, Addr.mk.injEq] at e
          obtain ⟨⟨rfl, _⟩, _⟩ := e
          exact (Array.getElem?_eq_some_iff.1 h2).1
      have s1 := HK1.out.size
      have s2 := HK2.out.size
      have s3 := hk3.size
      have HK3 := hide1 hk3
      have hhand : Hands w.heap.size f xs pre ⟨f + (got pre).length, pc1, g3, cap3⟩ W3 := by
        refine ⟨rfl, hne2, ⟨rs1, ?_⟩, how3.low (by omega), by show w.heap.size ≤ g3; omega⟩
        show xs.drop f = got pre ++ pc1 ++ rs1
        rw [HA1.out, ← HA2.out, List.append_assoc]
      obtain ⟨fn, tmps, assign, body, hy, hRd⟩ := HY.out _ pre ⟨f + (got pre).length, pc1, g3, cap3⟩ W3 hj3 hhand (Or.inr ⟨hg3, hg3'⟩) (fun b hb => Or.inl (Or.inl (Or.inl (HT1.out.1 b hb)))) (fun b hb => by
        rcases hb with ((h | h) | h) | h
        · exact HT1.out.2.1 b h
        all_goals (right; omega)) (by show D < g3; omega) (fun b hb => by
        rcases hb with ((h | h) | h) | h
        · have := HT1.out.2.2.2 b h; omega
        all_goals omega)
      have HRD := hide1 hRd
      clear hRd hj3 hhand how3 HJ3 HS2
      dsimp only [Item.encs] at hy
      simp only [Int.natCast_add] at hy
      gi_wp2_with fail
      refine ⟨fun h => (by cases h), ?_⟩
      refine HRD.out.mono ?_
      rintro e W4 (⟨rfl, hj4, hsz4, hk4⟩ | ⟨rfl, hj4⟩)
      · have hTin : ∀ b, ((T b ∧ b ≠ D) ∨ wr.heap.size ≤ b) → b < W2.heap.size → ((((T b ∨ (wr.heap.size ≤ b ∧ b < W1.heap.size)) ∨ (W1.heap.size ≤ b ∧ b < W2.heap.size)) ∨ (W2.heap.size ≤ b ∧ b < W3.heap.size))) ∧ b ≠ g3 ∧ b ≠ D := by
          rintro b (h | h) hlt'
          · exact ⟨Or.inl (Or.inl (Or.inl h.1)), by omega, h.2⟩
          · exact ⟨by omega, by omega, by omega⟩
        have hR5 : ReaderAt (fun b => ((((T b ∨ (wr.heap.size ≤ b ∧ b < W1.heap.size)) ∨ (W1.heap.size ≤ b ∧ b < W2.heap.size)) ∨ (W2.heap.size ≤ b ∧ b < W3.heap.size)) ∧ b ≠ g3) ∧ b ≠ D) W4 D (f + (got (pre ++ [⟨f + (got pre).length, pc1, g3, cap3⟩])).length) [] rs1 := by
          rw [got_snoc, List.length_append, ← Nat.add_assoc]
          exact HR3.out.moves (fun b hb hlt' => ⟨⟨⟨(hTin b hb hlt').1, (hTin b hb hlt').2.1⟩, (hTin b hb hlt').2.2⟩, by rw [hk4 b (hTin b hb hlt').1 (hTin b hb hlt').2.1, HK3.out.2.2.2.2 b hlt']⟩) (by rw [hk4 D (Or.inl (Or.inl (Or.inl HT1.out.2.2.1))) (by show D ≠ g3; omega), HK3.out.2.2.2.2 D hD2]) (fun h => h.2 rfl)
        have hall5 : xs.drop f = got (pre ++ [⟨f + (got pre).length, pc1, g3, cap3⟩]) ++ ([] ++ rs1) := by
          rw [got_snoc, List.nil_append, List.append_assoc]
          show xs.drop f = got pre ++ (pc1 ++ rs1)
          rw [HA1.out, HA2.out]
        have hm : ahead xs.length D W4 < ahead xs.length D wr := by
          rw [ahead_of hR5, ahead_of HR1.out, got_snoc, List.length_append]
          show _ - (f + ((got pre).length + pc1.length)) < _
          omega
        have hT5 : Hid ((∀ b, (S0 b ∧ b < w.heap.size) → ((((T b ∨ (wr.heap.size ≤ b ∧ b < W1.heap.size)) ∨ (W1.heap.size ≤ b ∧ b < W2.heap.size)) ∨ (W2.heap.size ≤ b ∧ b < W3.heap.size)) ∧ b ≠ g3)) ∧ (∀ b, ((((T b ∨ (wr.heap.size ≤ b ∧ b < W1.heap.size)) ∨ (W1.heap.size ≤ b ∧ b < W2.heap.size)) ∨ (W2.heap.size ≤ b ∧ b < W3.heap.size)) ∧ b ≠ g3) → (S0 b ∧ b < w.heap.size) ∨ D ≤ b) ∧ ((((T D ∨ (wr.heap.size ≤ D ∧ D < W1.heap.size)) ∨ (W1.heap.size ≤ D ∧ D < W2.heap.size)) ∨ (W2.heap.size ≤ D ∧ D < W3.heap.size)) ∧ D ≠ g3) ∧ ∀ b, ((((T b ∨ (wr.heap.size ≤ b ∧ b < W1.heap.size)) ∨ (W1.heap.size ≤ b ∧ b < W2.heap.size)) ∨ (W2.heap.size ≤ b ∧ b < W3.heap.size)) ∧ b ≠ g3) → b < W4.heap.size) := by
          refine ⟨fun b hb => ⟨Or.inl (Or.inl (Or.inl (HT1.out.1 b hb))), by omega⟩, ?_, ⟨Or.inl (Or.inl (Or.inl HT1.out.2.2.1)), by omega⟩, ?_⟩
          · rintro b ⟨((h | h) | h) | h, _⟩
            · exact HT1.out.2.1 b h
            all_goals (right; omega)
          · rintro b ⟨((h | h) | h) | h, _⟩
            · have := HT1.out.2.2.2 b h; omega
            all_goals omega
        have H5 := hide1 hR5
        have H6 := hide1 hall5
        clear hR5 hall5 hTin
        gi_wp2
        exact ⟨⟨_, _, [], rs1, hj4, H5, H6, by omega, hT5⟩, hm⟩
      · gi_wp2
        exact bodyPost_ret (v := .tuple #[]) (by simp [results, Try.results28, go_sem]) rfl ⟨⟨_, rfl⟩, .inr ⟨_, trivial, hj4⟩⟩

end Rope
end Go.Proofs.Ythjagnnbhpfpoab
namespace Go.Proofs.Ythjagnnbhpfpoab
open Go.RowKit
attribute [local go_sem] Oper.semAt_some
namespace Rope

set_option maxRecDepth 100000 in
set_option maxHeartbeats 2000000 in
theorem sameq_cells (c o p d o' q n : Nat) (xs : List Int) (w : World) (hl : xs.length = n) (hn : n ≤ 1000000000)
    (h1 : Hid (∀ j x, xs[j]? = some x → w.cell? ⟨c, o + j, none⟩ = some (.int .u8 x))) (h2 : Hid (∀ j x, xs[j]? = some x → w.cell? ⟨d, o' + j, none⟩ = some (.int .u8 x))) :
    Calls Try.prog 12 #[.slice (some ⟨c, o, none⟩) n p, .slice (some ⟨d, o', none⟩) n q] w fun e w' => e = .returned (.bool true) ∧ ∃ m, w' = w.drewN m := by
  have gn : (n : Int) ≤ 1000000000 := by omega
  go_enter Try.func12, Try.ntmps12
  go_wp2_with fail
  go_loopw [5] (fun i wr => ∃ j m : Nat, i = .int .i64 (j : Int) ∧ j ≤ n ∧ wr = w.drewN m) (fun i _ => n - (intOf i).toNat)
  case atStart => exact ⟨0, 0, rfl, by omega, rfl⟩
  case round =>
    obtain ⟨j, m, rfl, hj, hk⟩ := hrel
    by_cases hlt : (j : Int) < (n : Int)
    · obtain ⟨x, hx⟩ : ∃ x, xs[j]? = some x := ⟨_, List.getElem?_eq_getElem (by omega)⟩
      have c1 : wr.cell? ⟨c, o + j, none⟩ = some (.int .u8 x) := by rw [hk]; exact grown_cell (grown_drewN w m) (h1.out j x hx)
      have c2 : wr.cell? ⟨d, o' + j, none⟩ = some (.int .u8 x) := by rw [hk]; exact grown_cell (grown_drewN w m) (h2.out j x hx)
      have HK := hide1 hk
      clear hk hx
      go_wp2_with fail
      go_quiet (fail)
      go_wp2
      go_roundw
      case rel => exact ⟨j + 1, m + nq, by go_num, by omega, by rw [HK.out, World.drewN_drewN]⟩
      case measure => simp [intOf]; omega
    · have HK := hide1 hk
      clear hk
      go_wp2
      go_ret
      exact ⟨rfl, m, HK.out⟩

set_option maxRecDepth 100000 in
set_option maxHeartbeats 2000000 in
theorem sameq_none (a b : Option Addr) (p q : Nat) (w : World) :
    Calls Try.prog 12 #[.slice a 0 p, .slice b 0 q] w fun e w' => e = .returned (.bool true) ∧ ∃ m, w' = w.drewN m := by
  go_enter Try.func12, Try.ntmps12
  go_wp2_with fail
  go_loopw [5] (fun i wr => i = .int .i64 0 ∧ wr = w) (fun i _ => (intOf i).toNat)
  case atStart => exact ⟨rfl, rfl⟩
  case round =>
    obtain ⟨rfl, rfl⟩ := hrel
    go_wp2
    go_ret
    exact ⟨rfl, 0, rfl⟩

theorem sameq (S S' : Nat → Prop) (u v : Value) (xs : List Int) (w : World) (h1 : ListAt S w u xs) (h2 : ListAt S' w v xs) (hn : xs.length ≤ 1000000000) :
    Calls Try.prog 12 #[u, v] w fun e w' => e = .returned (.bool true) ∧ ∃ m, w' = w.drewN m := by
  rcases h1 with ⟨rfl, a, p, rfl⟩ | h1
  · obtain ⟨b, q, rfl⟩ := h2.form
    exact sameq_none a b p q w
  · rcases h2 with ⟨rfl, b, q, rfl⟩ | h2
    · obtain ⟨c, o, cap, rfl, _⟩ := h1
      exact sameq_none _ b cap q w
    · obtain ⟨c, o, p, rfl, _, _, hc, _⟩ := h1
      obtain ⟨d, o', q, rfl, _, _, hd, _⟩ := h2
      exact sameq_cells c o p d o' q xs.length xs w rfl hn hc hd
/-- .. as a quiet region asks for it. -/
theorem sameq_at (S S' : Nat → Prop) (u v : Value) (xs : List Int) (w : World) (n : Nat) (h1 : ListAt S w u xs) (h2 : ListAt S' w v xs) (hn : xs.length ≤ 1000000000) :
    Calls Try.prog 12 #[u, v] (w.drewN n) fun e w' => e = .returned (.bool true) ∧ ∃ m, w' = w.drewN m :=
  (sameq S S' u v xs (w.drewN n) (h1.mono (Kept.same (grown_drewN w n) _) (fun _ h => h)) (h2.mono (Kept.same (grown_drewN w n) _) (fun _ h => h)) hn).mono fun _ _ ⟨he, m, hm⟩ => ⟨he, n + m, by rw [hm, World.drewN_drewN]⟩

end Rope
end Go.Proofs.Ythjagnnbhpfpoab
namespace Go.Proofs.Ythjagnnbhpfpoab
open Go.RowKit
namespace Rope

section
variable {F : Fence} {n : Nat} {P : Program} {ops : Array Oper} {md : Region.Mode} {C : World → Prop}
theorem wpIn_of_quiet_sem {o : Oper} {a : Act} {K : Act → Prop} {K' : Act → World → Prop} {Q' : Exit → Act → World → Prop} {w : World} (hsem : ∀ c, o.op ≠ .defer c) (hw : C w) (h : ∀ a w', C w' → K a → K' a w')
    (ha : o.askedIn F P a C) (hh : o.quietIn F n P a C K) : o.wpIn F n P a w K' Q' := by
  obtain ⟨v, h1, h2⟩ := hh
  have h3 := h1 w hw
  unfold Oper.quietAtIn at h3
  unfold Oper.wpIn
  refine ⟨ha w hw, ?_⟩
  rw [Oper.semAt_eq _ _ _ hsem]
  generalize (execOp a.eval o).run P w = r at *
  cases r with
  | ok x w' =>
    cases x <;> simp only [Oper.quietUponIn] at h3 <;> simp only [Oper.uponIn]
    case value u =>
      obtain ⟨e1, e2⟩ := h3
      rw [e1, e2]
      exact h _ _ hw h2
    case skip =>
      obtain ⟨e1, e2⟩ := h3
      rw [e1, ← e2]
      exact h _ _ hw h2
    case enter f args =>
      obtain ⟨e1, hd, hc⟩ := h3
      rw [e1]
      exact ⟨hd, hc.mono fun e w'' ⟨he, hw''⟩ => by subst he; exact h _ _ hw'' h2⟩
  | halt x w' => simp only [Oper.quietUponIn] at h3
theorem wpOpIn_of_quiet_sem {i : Nat} {a : Act} {K : Act → Prop} {K' : Act → World → Prop} {Q' : Exit → Act → World → Prop} {w : World} (hsem : ∀ (i : Nat) (o : Oper), ops[i]? = some o → ∀ c, o.op ≠ .defer c) (hC : C w) (h : ∀ a w', C w' → K a → K' a w')
    (hh : qOpIn F n P ops C i K a) : wpOpIn F n P ops Q' i K' a w := by
  unfold qOpIn at hh
  unfold wpOpIn
  split
  · rename_i ho; simp only [ho] at hh; exact h _ _ hC hh
  · rename_i o ho
    simp only [ho] at hh
    obtain ⟨ha, hh⟩ := hh
    split
    · rename_i hw; simp only [hw, if_true] at hh; exact wpIn_of_quiet_sem (hsem i o ho) hC h ha hh
    · rename_i hw; simp only [hw] at hh; exact ⟨ha w hC, h _ _ hC hh⟩
theorem wpAnyIn_of_quiet_sem {Q : Act → Prop} {Q' : Exit → Act → World → Prop} (hsem : ∀ (i : Nat) (o : Oper), ops[i]? = some o → ∀ c, o.op ≠ .defer c) (hQ : ∀ a w, C w → Q a → Q' .normal a w) : ∀ (fuel : Nat) (listed : Array Bool) (a : Act) (w : World), C w →
    wpAnyQIn F n P md ops C Q fuel listed a → wpAnyIn F n P md ops Q' fuel listed a w
  | 0, _, _, _, hw, h => ⟨h.1, hQ _ _ hw h.2⟩
  | fuel + 1, _, _, _, hw, h => ⟨fun h0 => hQ _ _ hw (h.1 h0), fun i hi => wpOpIn_of_quiet_sem hsem hw (fun a' w' hw' => wpAnyIn_of_quiet_sem hsem hQ fuel _ a' w' hw') (h.2 i hi)⟩
end
theorem wide_fn (f : FuncId) : Fence.wide.fn f = True := rfl
def noDefer (o : Oper) : Bool := match o.op with | .defer _ => false | _ => true
theorem noDefer_ne {o : Oper} (h : noDefer o = true) : ∀ c, o.op ≠ .defer c := fun c e => by unfold noDefer at h; rw [e] at h; cases h
theorem quietIn_round {l0 n : Nat} {P : Program} {ops : Array Oper} {C : World → Prop} {Q : Act → Prop} : ∀ (L : List Oper) (a : Act), wpQuietIn Fence.wide n P ops C Q L a → wpQuietIn (Fence.wide.inRound l0) n P ops C Q L a
  | [], _, h => h
  | o :: rest, a, h => by
    refine ⟨h.1, ?_⟩
    have h2 := h.2
    by_cases hw : Region.wanted o (yielded ops a.tmps) = true
    · simp only [hw, if_true] at h2 ⊢
      obtain ⟨v, h3, h4⟩ := h2
      exact ⟨v, h3, quietIn_round rest _ h4⟩
    · simp only [hw] at h2 ⊢
      exact quietIn_round rest _ h2
/-- A region that only reads, within a round: one walk in the order of the text. -/
theorem region_quiet_round {l0 n : Nat} {P : Program} {id : Nat} {Q : Exit → Act → World → Prop} {a : Act} {w : World} {L : List Oper} (hnd : L.all noDefer = true) (hm : P.follows .mixedOrders = true) (hB : Region.lexB .any L.toArray = true)
    (h : wpQuietIn Fence.wide n P L.toArray (fun w' => ∃ n, w' = w.drewN n) (fun a' => ∀ w', (∃ n, w' = w.drewN n) → Q .normal a' w') L a) : (Code.region id L.toArray true).wpIn (Fence.wide.inRound l0) n P Q a w := by
  have h' : wpQuietIn (Fence.wide.inRound l0) n P L.toArray (fun w' => ∃ n, w' = w.drewN n) (fun a' => ∀ w', (∃ n, w' = w.drewN n) → Q .normal a' w') L a := quietIn_round L a h
  simp only [Region.lexB, Bool.and_eq_true] at hB
  refine wpIn_region_any hm (wpAnyIn_of_quiet_sem (C := fun w' => ∃ n, w' = w.drewN n) (Q := fun a' => ∀ w', (∃ n, w' = w.drewN n) → Q .normal a' w') ?_ (fun _ w' hw' h => h w' hw') _ _ _ _ ⟨1, rfl⟩ ?_)
  · intro i o ho
    refine noDefer_ne (List.all_eq_true.1 hnd o ?_)
    have := List.mem_of_getElem? (l := L) (i := i) (a := o) (by simpa using ho)
    exact this
  · have := wpAnyQIn_lex (F := Fence.wide.inRound l0) (n := n) (P := P) (C := fun w' => ∃ n, w' = w.drewN n) (md := .any) hB.1 L.toArray.toList 0 (Array.replicate L.toArray.size false) a (by simp) (by simpa using hB.2) (by simpa using h')
    simpa using this

end Rope
end Go.Proofs.Ythjagnnbhpfpoab
namespace Go.Proofs.Ythjagnnbhpfpoab
open Go.RowKit
namespace Rope

theorem Script.mono {n0 n1 n : Nat} {w : World} {a : Option Addr} (h : Script w n0 a n) (hn : n0 ≤ n1) : Script w n1 a n := by
  intro i hi
  obtain ⟨c, o, kd, rr, aa, bb, d, ds, h1, h2, h3, h4, h5, h6, h7, h8, h9⟩ := h i hi
  exact ⟨c, o, kd, rr, aa, bb, d, ds, h1, by omega, h3, h4, h5, h6, h7, h8.mono (Same.refl _ _) (fun b hb => by omega), h9⟩
theorem built_kept (a : Option Addr) (n cap : Nat) (w0 w : World) (hk : Kept w0 w) (hs : Script w0 w0.heap.size a n) (hn : n ≤ 140737488351232) :
    Calls Try.prog 7 #[.slice a n cap] w fun e w' => ∃ bP bR xs, e = .returned (.tuple #[.pointer (some ⟨bP, 0, none⟩), .pointer (some ⟨bR, 0, none⟩), .bool true]) ∧ Hid (Kept w w') ∧ Hid (RopeAt All w' (.pointer (some ⟨bP, 0, none⟩)) xs) ∧ Hid (RefAt All w' (.pointer (some ⟨bR, 0, none⟩)) xs) := by
  refine (built_any w.heap.size a n cap w ((hs.low hk.below).mono hk.size) (Nat.le_refl _) hn).mono ?_
  rintro e w' ⟨bP, bR, xs, S, rfl, hb, _, hp, hr⟩
  exact ⟨bP, bR, xs, rfl, Kept.of hb.out, hp.out.mono (Same.refl _ _) (fun _ _ => trivial), hr.out.mono (Same.refl _ _) (fun _ _ => trivial)⟩

def itsV (its : Its) : List Value := its.map fun x => .slice (some ⟨x.1, 0, none⟩) x.2.1 x.2.2
theorem itsV_append (a b : Its) : itsV (a ++ b) = itsV a ++ itsV b := List.map_append
theorem itsV_length (a : Its) : (itsV a).length = a.length := List.length_map _
theorem itsV_at {its : Its} {t b n c : Nat} (h : its[t]? = some (b, n, c)) : (itsV its)[t]? = some (.slice (some ⟨b, 0, none⟩) n c) := by unfold itsV; rw [List.getElem?_map, h]; rfl

/-- The lists that are kept, in the variable in block bk; Ds: the marks that ranges have left. -/
def BookSt (wb : World) (bk : Nat) (Ds : List Nat) (its : Its) (C : Nat → List Value) (aK : Option Addr) (cK : Nat) (w : World) : Prop :=
  KeptBut bk wb w ∧ bk < wb.heap.size ∧ w.cell? ⟨bk, 0, none⟩ = some (.slice aK its.length cK) ∧ w.frozen? ⟨bk, 0, none⟩ = false ∧
  w.ownsRow wb.heap.size 31 1 (.slice aK its.length cK) its.length (itsV its) ∧ Bag w its C ∧ Lone its ∧
  (∀ (t b n c : Nat), its[t]? = some (b, n, c) → wb.heap.size ≤ b ∧ (Value.slice aK its.length cK).ownBlock ≠ some b) ∧ Ds.Nodup ∧ ∀ D, D ∈ Ds → wb.heap.size ≤ D ∧ w.heap[D]? = some (.deferred (some []))

section
variable {wb w W w' w7 : World} {bk cK : Nat} {Ds : List Nat} {its : Its} {C : Nat → List Value} {aK : Option Addr}
theorem BookSt.move (h : BookSt wb bk Ds its C aK cK w) (h1 : w'.os = w.os) (h2 : w'.tape = w.tape) (h3 : w'.output = w.output) (h4 : w.heap.size ≤ w'.heap.size)
    (h5 : ∀ k, k < w.heap.size → (k < wb.heap.size ∨ (∃ t n c : Nat, its[t]? = some (k, n, c)) ∨ (Value.slice aK its.length cK).ownBlock = some k ∨ k ∈ Ds) → w'.heap[k]? = w.heap[k]?) : BookSt wb bk Ds its C aK cK w' := by
  obtain ⟨g1, g2, g3, g4, g5, g6, g7, g8, g9, g10⟩ := h
  have hb : bk < w.heap.size := Nat.lt_of_lt_of_le g2 g1.size
  have hbk := h5 bk hb (Or.inl g2)
  refine ⟨⟨h1.trans g1.1, h2.trans g1.2.1, h3.trans g1.2.2.1, Nat.le_trans g1.size h4, fun k hk hne => ?_⟩, g2, ?_, ?_, owns_same g5 (fun g hg => h5 g (owns_lt g5 g hg) (Or.inr (Or.inr (Or.inl hg)))), fun t b n c ht => ⟨(g6 t b n c ht).1.same (h5 b (g6 t b n c ht).1.lt (Or.inr (Or.inl ⟨t, n, c, ht⟩))), (g6 t b n c ht).2⟩, g7, g8, g9, fun D hD => ⟨(g10 D hD).1, ?_⟩⟩
  · rw [h5 k (Nat.lt_of_lt_of_le hk g1.size) (Or.inl hk)]; exact g1.2.2.2.2 k hk hne
  · rw [World.cell?_of_block (w := w) (a := ⟨bk, 0, none⟩) hbk]; exact g3
  · rw [World.frozen?_of_block (w := w) (a := ⟨bk, 0, none⟩) hbk]; exact g4
  · rw [h5 D (Array.getElem?_eq_some_iff.1 (g10 D hD).2).1 (Or.inr (Or.inr (Or.inr hD)))]; exact (g10 D hD).2
theorem BookSt.kept (h : BookSt wb bk Ds its C aK cK w) (hk : Kept w w') : BookSt wb bk Ds its C aK cK w' := h.move hk.1 hk.2.1 hk.2.2.1 hk.2.2.2.1 (fun k hk' _ => hk.2.2.2.2 k hk')
theorem BookSt.mark (h : BookSt wb bk Ds its C aK cK w) {D : Nat} (hb : wb.heap.size ≤ D) (hd : w.heap[D]? = some (.deferred (some []))) (hn : ∀ D', D' ∈ Ds → D' < D) : BookSt wb bk (D :: Ds) its C aK cK w := by
  obtain ⟨g1, g2, g3, g4, g5, g6, g7, g8, g9, g10⟩ := h
  refine ⟨g1, g2, g3, g4, g5, g6, g7, g8, List.nodup_cons.2 ⟨fun hm => Nat.lt_irrefl _ (hn D hm), g9⟩, fun D' hD' => ?_⟩
  rcases List.mem_cons.1 hD' with rfl | hD'
  · exact ⟨hb, hd⟩
  · exact g10 D' hD'
theorem BookSt.row (h : BookSt wb bk Ds its C aK cK w) : ∀ g, (Value.slice aK its.length cK).ownBlock = some g → wb.heap.size ≤ g ∧ g < w.heap.size ∧ ∃ cs t fz, w.heap[g]? = some (.cells cs t fz) := by
  intro g hg
  have h5 := h.2.2.2.2.1
  refine ⟨owns_base h5 g hg, owns_lt h5 g hg, ?_⟩
  rcases h5.2 with ⟨e, _⟩ | ⟨g', c', cur, e, _, h2, _⟩
  · rw [e] at hg; cases hg
  · rw [e] at hg
    simp only [Value.ownBlock, Option.some.injEq] at hg
    subst hg
    exact ⟨_, _, _, h2⟩
theorem app_some {α : Type} {a b : List α} {t : Nat} {x : α} (h : (a ++ b)[t]? = some x) : (t < a.length ∧ a[t]? = some x) ∨ (a.length ≤ t ∧ b[t - a.length]? = some x) := by
  by_cases ht : t < a.length
  · rw [List.getElem?_append_left ht] at h; exact Or.inl ⟨ht, h⟩
  · rw [List.getElem?_append_right (by omega)] at h; exact Or.inr ⟨by omega, h⟩
theorem BookSt.grow (h : BookSt wb bk Ds its C aK cK w) (hk : Kept w W) {new : Its} {Cn : Nat → List Value} (hb : Bag w new Cn) (hl : Lone new)
    (hn : ∀ (t b n c : Nat), new[t]? = some (b, n, c) → wb.heap.size ≤ b ∧ (Value.slice aK its.length cK).ownBlock ≠ some b ∧ ∀ t' n' c' : Nat, its[t']? ≠ some (b, n', c')) {g cap N : Nat} (hN : N = its.length + new.length)
    (ho : w7.ownsRow wb.heap.size 31 1 (.slice (some ⟨g, 0, none⟩) N cap) N (itsV its ++ itsV new)) (hg : W.grownBy w7 (Value.slice aK its.length cK).ownBlock) (hgg : (Value.slice aK its.length cK).ownBlock = some g ∨ g = W.heap.size) :
    BookSt wb bk Ds (its ++ new) (fun t => if t < its.length then C t else Cn (t - its.length)) (some ⟨g, 0, none⟩) cap (w7.setCell ⟨bk, 0, none⟩ (.slice (some ⟨g, 0, none⟩) N cap)) := by
  have hrow := h.row
  obtain ⟨g1, g2, g3, g4, g5, g6, g7, g8, g9, g10⟩ := h
  have hs := hk.size
  have hs7 := hg.size
  have hbw := g1.size
  have hblk : ∀ k, k < w.heap.size → (Value.slice aK its.length cK).ownBlock ≠ some k → w7.heap[k]? = w.heap[k]? := fun k hk1 hne => by rw [hg.block k (by omega) (fun e => hne e.symm), hk.2.2.2.2 k hk1]
  have hset : ∀ (v : Value) k, k ≠ bk → (w7.setCell ⟨bk, 0, none⟩ v).heap[k]? = w7.heap[k]? := fun v k hne => Below.heap_setCell _ _ _ _ hne
  have hbkrow : (Value.slice aK its.length cK).ownBlock ≠ some bk := fun e => by have := (hrow bk e).1; omega
  have hb7 := hblk bk (by omega) hbkrow
  have hgb : wb.heap.size ≤ g := by
    rcases hgg with e | e
    · exact (hrow g e).1
    · omega
  have hlen : (its ++ new).length = N := by rw [List.length_append, hN]
  have hrowne : ∀ b, b < w.heap.size → (Value.slice aK its.length cK).ownBlock ≠ some b → g ≠ b := fun b hb1 hb2 e => by
    rcases hgg with e2 | e2
    · exact hb2 (by rw [e2, e])
    · omega
  have keep : ∀ b (G : List Value), RowOf w b G → wb.heap.size ≤ b → (Value.slice aK its.length cK).ownBlock ≠ some b → RowOf (w7.setCell ⟨bk, 0, none⟩ (.slice (some ⟨g, 0, none⟩) N cap)) b G := fun b G hr hb1 hb2 =>
    hr.same (by rw [hset _ b (by omega), hblk b hr.lt hb2])
  refine ⟨⟨?_, ?_, ?_, ?_, fun k hk1 hne => ?_⟩, g2, ?_, ?_, ?_, ?_, ?_, ?_, g9, fun D hD => ⟨(g10 D hD).1, ?_⟩⟩
  · exact (hg.os.trans hk.1).trans g1.1
  · exact (hg.tape.trans hk.2.1).trans g1.2.1
  · exact (hg.output.trans hk.2.2.1).trans g1.2.2.1
  · simp [World.setCell]; omega
  · rw [hset _ k hne, hblk k (by omega) (fun e => by have := (hrow k e).1; omega)]; exact g1.2.2.2.2 k hk1 hne
  · rw [hlen]; exact set_same _ ((World.cell?_of_block (w := w) (a := ⟨bk, 0, none⟩) hb7).trans g3)
  · rw [World.frozen?_setCell, World.frozen?_of_block (w := w) (a := ⟨bk, 0, none⟩) hb7]; exact g4
  · rw [hlen, itsV_append]; exact owns_same ho (fun g' hg' => by simp only [Value.ownBlock, Option.some.injEq] at hg'; exact hset _ g' (by omega))
  · intro t b n c ht
    rcases app_some ht with ⟨h1, h2⟩ | ⟨h1, h2⟩
    · simp only [if_pos h1]
      exact ⟨keep b _ (g6 t b n c h2).1 (g8 t b n c h2).1 (g8 t b n c h2).2, (g6 t b n c h2).2⟩
    · simp only [if_neg (Nat.not_lt.2 h1)]
      exact ⟨keep b _ (hb _ b n c h2).1 (hn _ b n c h2).1 (hn _ b n c h2).2.1, (hb _ b n c h2).2⟩
  · intro t t' b n c n' c' ht ht'
    rcases app_some ht with ⟨h1, h2⟩ | ⟨h1, h2⟩ <;> rcases app_some ht' with ⟨h3, h4⟩ | ⟨h3, h4⟩
    · exact g7 t t' b n c n' c' h2 h4
    · exact absurd h2 ((hn _ b n' c' h4).2.2 t n c)
    · exact absurd h4 ((hn _ b n c h2).2.2 t' n' c')
    · have := hl _ _ b n c n' c' h2 h4; omega
  · intro t b n c ht
    rcases app_some ht with ⟨_, h2⟩ | ⟨_, h2⟩
    · refine ⟨(g8 t b n c h2).1, fun e => ?_⟩
      simp only [Value.ownBlock, Option.some.injEq] at e
      exact hrowne b (g6 t b n c h2).1.lt (g8 t b n c h2).2 e
    · refine ⟨(hn _ b n c h2).1, fun e => ?_⟩
      simp only [Value.ownBlock, Option.some.injEq] at e
      exact hrowne b (hb _ b n c h2).1.lt (hn _ b n c h2).2.1 e
  · have hDw := g10 D hD
    have hDlt := (Array.getElem?_eq_some_iff.1 hDw.2).1
    rw [hset _ D (by omega), hblk D hDlt (fun e => by obtain ⟨_, _, cs, t, fz, h'⟩ := hrow D e; rw [hDw.2] at h'; cases h')]
    exact hDw.2
end

theorem own_bag {w : World} {base g n cap : Nat} {xs : List Int} (h : Own w base (.slice (some ⟨g, 0, none⟩) n cap) xs) (hn : n ≤ 1000000000) (hx : xs.length = n) : ∃ G, RowOf w g G ∧ G.length = cap ∧ n ≤ cap ∧ n ≤ 1000000000 ∧ cap ≤ maxLen := by
  subst hx
  obtain ⟨G, h1, h2, _, h4⟩ := owns_row h
  refine ⟨G, h1, h2, h4, hn, ?_⟩
  rcases h.2 with ⟨e, _⟩ | ⟨g', c', cur, e, _, _, _, h5, _⟩
  · cases e
  · simp only [Value.slice.injEq] at e
    rw [e.2.2]; exact h5

/-- The marks are taken on the way out. -/
theorem leaves_marks {F : Fence} {n : Nat} {P : Program} {fn : Func} {tmps : Array Value} {R : Ending → World → Prop} (Ds : List Nat) : ∀ W : World, Ds.Nodup → (∀ D, D ∈ Ds → W.heap[D]? = some (.deferred (some []))) →
    (∀ W' : World, W'.os = W.os → W'.tape = W.tape → W'.output = W.output → W'.heap.size = W.heap.size → (∀ k, k ∉ Ds → W'.heap[k]? = W.heap[k]?) → LeavesIn F n P fn tmps R [] .returning W') →
    LeavesInM F n P fn tmps R (Ds.map fun D => ({ target := .collected D, args := #[] } : Deferred)) .returning W := by
  induction Ds with
  | nil => intro W _ _ h; exact h W rfl rfl rfl rfl (fun _ _ => rfl)
  | cons D Ds ih =>
    intro W hnd hd h
    obtain ⟨hn1, hn2⟩ := List.nodup_cons.1 hnd
    refine ⟨by simp, .inl ⟨D, _, rfl, run_takeDeferred (hd D (List.mem_cons_self)), ?_⟩⟩
    refine ih _ hn2 (fun D' hD' => ?_) (fun W' e1 e2 e3 e4 e5 => h W' (e1.trans rfl) (e2.trans rfl) (e3.trans rfl) (by rw [e4]; simp) (fun k hk => ?_))
    · rw [World.putObj_heap_other (show D' ≠ D from fun e => hn1 (e ▸ hD'))]; exact hd D' (List.mem_cons_of_mem _ hD')
    · rw [e5 k (fun hm => hk (List.mem_cons_of_mem _ hm))]
      exact World.putObj_heap_other (fun e => hk (by rw [e]; exact List.mem_cons_self))

/-- Between two pieces. -/
def RngI (wb : World) (bk ba lo f N0 : Nat) (Ds : List Nat) (T : Nat → Prop) (pre : List Item) (W : World) : Prop :=
  ∃ its C aK cK, BookSt wb bk Ds its C aK cK W ∧ its.length = N0 + pre.length ∧ pre.length ≤ (got pre).length ∧ W.cell? ⟨ba, 0, none⟩ = some (.int .i64 ((f + (got pre).length : Nat) : Int)) ∧ W.frozen? ⟨ba, 0, none⟩ = false ∧
    (∀ (t b n c : Nat), its[t]? = some (b, n, c) → b ≠ ba ∧ ¬ T b ∧ (b < lo ∨ lo + 3 ≤ b)) ∧ (∀ g, (Value.slice aK its.length cK).ownBlock = some g → g ≠ ba ∧ ¬ T g ∧ (g < lo ∨ lo + 3 ≤ g))

section
variable {wb W w7 Wl : World} {bk ba lo f N0 : Nat} {Ds : List Nat} {T : Nat → Prop} {pre : List Item}
theorem rngI_stable (hlo : wb.heap.size ≤ lo) (hba : ba < lo) (hD : ∀ D, D ∈ Ds → D < lo) : Stable (fun b => lo ≤ b ∧ b < lo + 3) (RngI wb bk ba lo f N0 Ds) := by
  rintro T T' pre A A' ⟨its, C, aK, cK, h1, h2, h3, h4, h5, h6, h7⟩ ⟨s1, s2, s3, s4, s5, s6⟩
  have hA : ba < A.heap.size := World.block_lt_of_cell? A ⟨ba, 0, none⟩ h4
  have hb := s5 ba hA (by omega)
  refine ⟨its, C, aK, cK, h1.move s1 s2 s3 s4 (fun k hk hr => s5 k hk ?_), h2, h3, ?_, ?_, fun t b n c ht => ?_, fun g hg => ?_⟩
  · rcases hr with h | ⟨t, n, c, h⟩ | h | h
    · omega
    · have := (h6 t k n c h).2.2; omega
    · have := (h7 k h).2.2; omega
    · have := hD k h; omega
  · rw [World.cell?_of_block (w := A) (a := ⟨ba, 0, none⟩) hb]; exact h4
  · rw [World.frozen?_of_block (w := A) (a := ⟨ba, 0, none⟩) hb]; exact h5
  · obtain ⟨e1, e2, e3⟩ := h6 t b n c ht
    refine ⟨e1, fun hT => ?_, e3⟩
    rcases s6 b hT with h | h
    · exact e2 h
    · have := (h1.2.2.2.2.2.1 t b n c ht).1.lt; omega
  · obtain ⟨e1, e2, e3⟩ := h7 g hg
    refine ⟨e1, fun hT => ?_, e3⟩
    rcases s6 g hT with h | h
    · exact e2 h
    · have := (h1.row g hg).2.1; omega
/-- One piece more. -/
theorem rngI_next {its : Its} {C : Nat → List Value} {aK : Option Addr} {cK m place blk cap g7 c7 N : Nat} {bytes : List Int} (hba1 : wb.heap.size ≤ ba) (hba : ba < lo)
    (h1 : BookSt wb bk Ds its C aK cK W) (h2 : its.length = N0 + pre.length) (h3 : pre.length ≤ (got pre).length) (h4 : W.cell? ⟨ba, 0, none⟩ = some (.int .i64 ((f + (got pre).length : Nat) : Int))) (h5 : W.frozen? ⟨ba, 0, none⟩ = false)
    (h6 : ∀ (t b n c : Nat), its[t]? = some (b, n, c) → b ≠ ba ∧ ¬ T b ∧ (b < lo ∨ lo + 3 ≤ b)) (h7 : ∀ g, (Value.slice aK its.length cK).ownBlock = some g → g ≠ ba ∧ ¬ T g ∧ (g < lo ∨ lo + 3 ≤ g))
    (hTx : T blk) (hTb : ∀ b, T b → b < wb.heap.size ∧ b ≠ bk ∨ lo + 2 ≤ b) (hblk : lo + 2 < blk) (hTl : ∀ b, T b → b < W.heap.size) (how : Own W m (.slice (some ⟨blk, 0, none⟩) bytes.length cap) bytes) (hm : 0 < bytes.length) (hx : bytes.length ≤ 1000000000)
    (v : Value) (hv : v = .int .i64 ((f + (got pre).length + bytes.length : Nat) : Int)) (hk : Kept (W.setCell ⟨ba, 0, none⟩ v) Wl) (hN : N = its.length + 1)
    (ho : w7.ownsRow wb.heap.size 31 1 (.slice (some ⟨g7, 0, none⟩) N c7) N (itsV its ++ [.slice (some ⟨blk, 0, none⟩) bytes.length cap])) (hg : Wl.grownBy w7 (Value.slice aK its.length cK).ownBlock) (hgg : (Value.slice aK its.length cK).ownBlock = some g7 ∨ g7 = Wl.heap.size) :
    KeepsFrom lo W (w7.setCell ⟨bk, 0, none⟩ (.slice (some ⟨g7, 0, none⟩) N c7)) ∧ (∀ b, T b ∧ b ≠ blk → (w7.setCell ⟨bk, 0, none⟩ (.slice (some ⟨g7, 0, none⟩) N c7)).heap[b]? = W.heap[b]?) ∧
      RngI wb bk ba lo f N0 Ds (fun b => T b ∧ b ≠ blk) (pre ++ [⟨place, bytes, blk, cap⟩]) (w7.setCell ⟨bk, 0, none⟩ (.slice (some ⟨g7, 0, none⟩) N c7)) := by
  have hrow := h1.row
  have hbag := h1.2.2.2.2.2.1
  have hown := h1.2.2.2.2.2.2.2.1
  have hbk := h1.2.1
  have hDs := h1.2.2.2.2.2.2.2.2.2
  have hDk : ∀ D, D ∈ Ds → D ≠ ba := fun D hD e => by
    have := (hDs D hD).2
    rw [e] at this
    unfold World.cell? at h4
    simp only [this] at h4
    cases h4
  obtain ⟨W1, hW1⟩ : ∃ W1, W.setCell ⟨ba, 0, none⟩ v = W1 := ⟨_, rfl⟩
  have hset1 : ∀ k, k ≠ ba → W1.heap[k]? = W.heap[k]? := fun k hne => by rw [← hW1]; exact Below.heap_setCell _ _ _ _ hne
  have hsz1 : W1.heap.size = W.heap.size := by rw [← hW1]; simp [World.setCell]
  have c1 : W1.cell? ⟨ba, 0, none⟩ = some v := by rw [← hW1]; exact set_same _ h4
  have z1 : W1.frozen? ⟨ba, 0, none⟩ = false := by rw [← hW1, World.frozen?_setCell]; exact h5
  have os1 : W1.os = W.os ∧ W1.tape = W.tape ∧ W1.output = W.output := by rw [← hW1]; exact ⟨rfl, rfl, rfl⟩
  rw [hW1] at hk
  have hB1 : BookSt wb bk Ds its C aK cK W1 := h1.move os1.1 os1.2.1 os1.2.2 (Nat.le_of_eq hsz1.symm) (fun k hk' hr => hset1 k (by
    rcases hr with h | ⟨t, n, c, h⟩ | h | h
    · omega
    · exact (h6 t k n c h).1
    · exact (h7 k h).1
    · exact hDk k h))
  obtain ⟨G, r1, r2, r3, r4, r5⟩ := own_bag how hx rfl
  have hblt := r1.lt
  have r1' : RowOf W1 blk G := r1.same (hset1 blk (by omega))
  have hB7 := hB1.grow hk (new := [(blk, bytes.length, cap)]) (Cn := fun _ => G)
    (fun t b n c ht => by
      cases t with
      | zero => simp only [List.getElem?_cons_zero, Option.some.injEq, Prod.mk.injEq] at ht; obtain ⟨rfl, rfl, rfl⟩ := ht; exact ⟨r1', r2, r3, r4, r5⟩
      | succ t => simp at ht)
    (fun t t' b n c n' c' ht ht' => by
      have := (List.getElem?_eq_some_iff.1 ht).1
      have := (List.getElem?_eq_some_iff.1 ht').1
      simp at *
      omega)
    (fun t b n c ht => by
      cases t with
      | zero =>
        simp only [List.getElem?_cons_zero, Option.some.injEq, Prod.mk.injEq] at ht
        obtain ⟨rfl, rfl, rfl⟩ := ht
        exact ⟨by omega, fun e => (h7 _ e).2.1 hTx, fun t' n' c' h => (h6 t' _ n' c' h).2.1 hTx⟩
      | succ t => simp at ht) (N := N) (g := g7) (cap := c7) hN ho hg hgg
  have hs7 := hg.size
  have hsl := hk.size
  have hfin : ∀ k, k < W.heap.size → k ≠ ba → k ≠ bk → (Value.slice aK its.length cK).ownBlock ≠ some k → (w7.setCell ⟨bk, 0, none⟩ (.slice (some ⟨g7, 0, none⟩) N c7)).heap[k]? = W.heap[k]? := fun k hk1 n1 n2 n3 => by
    rw [Below.heap_setCell _ _ _ _ n2, hg.block k (by omega) (fun e => n3 e.symm), hk.2.2.2.2 k (by omega), hset1 k n1]
  have hsz : W.heap.size ≤ (w7.setCell ⟨bk, 0, none⟩ (.slice (some ⟨g7, 0, none⟩) N c7)).heap.size := by simp [World.setCell]; omega
  have hgnew : (Value.slice aK its.length cK).ownBlock = some g7 ∨ W.heap.size ≤ g7 := hgg.imp id (fun e => by omega)
  refine ⟨⟨hsz, fun k o hB hk1 ho1 => ?_⟩, fun b hb => ?_, its ++ [(blk, bytes.length, cap)], _, some ⟨g7, 0, none⟩, c7, hB7, ?_, ?_, ?_, ?_, fun t b n c ht => ?_, fun g hgx => ?_⟩
  · rw [hfin k (Array.getElem?_eq_some_iff.1 hk1).1 (by omega) (by omega) (fun e => by obtain ⟨_, _, cs, t, fz, h'⟩ := hrow k e; rw [hk1] at h'; cases h'; cases ho1)]
    exact hk1
  · have hb2 := hTb b hb.1
    exact hfin b (hTl b hb.1) (by omega) (by omega) (fun e => (h7 b e).2.1 hb.1)
  · simp; omega
  · rw [List.length_append, got_snoc, List.length_append, List.length_singleton]; show _ ≤ _ + bytes.length; omega
  · rw [got_snoc, List.length_append]
    rw [World.cell?_of_block (w := W1) (a := ⟨ba, 0, none⟩) ?_, c1, hv]
    · show some (Value.int .i64 _) = some (Value.int .i64 ((f + ((got pre).length + bytes.length) : Nat) : Int))
      rw [Nat.add_assoc]
    · rw [Below.heap_setCell _ _ _ _ (show ba ≠ bk by omega), hg.block ba (by omega) (fun e => (h7 ba e.symm).1 rfl), hk.2.2.2.2 ba (by omega)]
  · rw [World.frozen?_of_block (w := W1) (a := ⟨ba, 0, none⟩) ?_]
    · exact z1
    · rw [Below.heap_setCell _ _ _ _ (show ba ≠ bk by omega), hg.block ba (by omega) (fun e => (h7 ba e.symm).1 rfl), hk.2.2.2.2 ba (by omega)]
  · rcases snoc_some ht with ht | ⟨_, e⟩
    · obtain ⟨e1, e2, e3⟩ := h6 t b n c ht
      exact ⟨e1, fun h => e2 h.1, e3⟩
    · simp only [Prod.mk.injEq] at e
      obtain ⟨rfl, _, _⟩ := e
      exact ⟨by omega, fun h => h.2 rfl, by omega⟩
  · simp only [Value.ownBlock, Option.some.injEq] at hgx
    subst hgx
    rcases hgnew with e | e
    · obtain ⟨e1, e2, e3⟩ := h7 _ e
      exact ⟨e1, fun h => e2 h.1, e3⟩
    · exact ⟨by omega, fun h => by have := hTl _ h.1; omega, by omega⟩
end

/-- All its lists and their row lie below m. -/
def Under (its : Its) (aK : Option Addr) (cK m : Nat) : Prop := (∀ (t b n c : Nat), its[t]? = some (b, n, c) → b < m) ∧ ∀ g, (Value.slice aK its.length cK).ownBlock = some g → g < m
theorem BookSt.under {wb w : World} {bk cK : Nat} {Ds : List Nat} {its : Its} {C : Nat → List Value} {aK : Option Addr} (h : BookSt wb bk Ds its C aK cK w) : Under its aK cK w.heap.size :=
  ⟨fun t b n c ht => (h.2.2.2.2.2.1 t b n c ht).1.lt, fun g hg => (h.row g hg).2.1⟩
/-- Two lists more. -/
theorem BookSt.two {wb w W w7 : World} {bk cK m m1 m2 g1 n1 p1 g2 n2 p2 g cap N : Nat} {Ds : List Nat} {its : Its} {C : Nat → List Value} {aK : Option Addr} {xs ys : List Int} (h : BookSt wb bk Ds its C aK cK w) (hk : Kept w W) (hu : Under its aK cK m) (hwm : wb.heap.size ≤ m) (hm : m ≤ g1) (hlt : g1 < g2)
    (o1 : Own w m1 (.slice (some ⟨g1, 0, none⟩) n1 p1) xs) (o2 : Own w m2 (.slice (some ⟨g2, 0, none⟩) n2 p2) ys) (e1 : xs.length = n1) (e2 : ys.length = n2) (l1 : n1 ≤ 1000000000) (l2 : n2 ≤ 1000000000) (hN : N = its.length + 2)
    (ho : w7.ownsRow wb.heap.size 31 1 (.slice (some ⟨g, 0, none⟩) N cap) N (itsV its ++ [.slice (some ⟨g1, 0, none⟩) n1 p1, .slice (some ⟨g2, 0, none⟩) n2 p2])) (hg : W.grownBy w7 (Value.slice aK its.length cK).ownBlock) (hgg : (Value.slice aK its.length cK).ownBlock = some g ∨ g = W.heap.size) :
    ∃ C', BookSt wb bk Ds (its ++ [(g1, n1, p1), (g2, n2, p2)]) C' (some ⟨g, 0, none⟩) cap (w7.setCell ⟨bk, 0, none⟩ (.slice (some ⟨g, 0, none⟩) N cap)) := by
  obtain ⟨G1, r1⟩ := own_bag o1 l1 e1
  obtain ⟨G2, r2⟩ := own_bag o2 l2 e2
  refine ⟨_, h.grow hk (new := [(g1, n1, p1), (g2, n2, p2)]) (Cn := fun t => if t = 0 then G1 else G2) ?_ ?_ ?_ (N := N) hN ho hg hgg⟩
  · intro t b n c ht
    match t, ht with
    | 0, ht => simp at ht; obtain ⟨rfl, rfl, rfl⟩ := ht; exact r1
    | 1, ht => simp at ht; obtain ⟨rfl, rfl, rfl⟩ := ht; exact r2
    | t + 2, ht => simp at ht
  · intro t t' b n c n' c' ht ht'
    match t, t', ht, ht' with
    | 0, 0, _, _ => rfl
    | 1, 1, _, _ => rfl
    | 0, 1, ht, ht' => simp at ht ht'; omega
    | 1, 0, ht, ht' => simp at ht ht'; omega
    | t + 2, _, ht, _ => simp at ht
    | _, t' + 2, _, ht' => simp at ht'
  · have key : ∀ b, m ≤ b → wb.heap.size ≤ b ∧ (Value.slice aK its.length cK).ownBlock ≠ some b ∧ ∀ t' n' c' : Nat, its[t']? ≠ some (b, n', c') := fun b hb => ⟨by omega, fun e => by have := hu.2 b e; omega, fun t' n' c' h' => by have := hu.1 t' b n' c' h'; omega⟩
    intro t b n c ht
    match t, ht with
    | 0, ht => simp at ht; exact key b (by omega)
    | 1, ht => simp at ht; exact key b (by omega)
    | t + 2, ht => simp at ht
/-- Behind 'at := from'. -/
theorem rng_start {wb w w4 : World} {bk ba cK f : Nat} {Ds : List Nat} {its : Its} {C : Nat → List Value} {aK : Option Addr} {T0 : Nat → Prop} (h : BookSt wb bk Ds its C aK cK w) (hba : ba = w.heap.size) (hw : w4 = w.alloc (.cells #[.int .i64 (f : Int)] 3)) (hT : ∀ b, T0 b → b < wb.heap.size) :
    RngI wb bk ba w4.heap.size f its.length Ds T0 [] w4 ∧ (∀ D, D ∈ Ds → D < w4.heap.size) ∧ ba < w4.heap.size ∧ wb.heap.size ≤ ba ∧ Kept w w4 := by
  have hk : Kept w w4 := hw ▸ (Kept.refl w).alloc _ _
  have hs : w4.heap.size = w.heap.size + 1 := by rw [hw]; simp
  have hu := h.under
  have hwb := h.1.size
  subst hba
  refine ⟨⟨its, C, aK, cK, h.kept hk, rfl, Nat.le_refl _, ?_, ?_, fun t b n c ht => ?_, fun g hg => ?_⟩, fun D hD => ?_, by omega, by omega, hk⟩
  · rw [hw]; exact box_cell rfl 0 _ rfl
  · rw [hw]; exact World.frozen?_alloc_new w _ _ 0
  · have h1 := hu.1 t b n c ht
    have h2 := (h.2.2.2.2.2.2.2.1 t b n c ht).1
    exact ⟨by omega, fun e => by have := hT b e; omega, by omega⟩
  · have h1 := hu.2 g hg
    have h2 := (h.row g hg).1
    exact ⟨by omega, fun e => by have := hT g e; omega, by omega⟩
  · have := (Array.getElem?_eq_some_iff.1 (h.2.2.2.2.2.2.2.2.2 D hD).2).1
    omega

theorem BookSt.slot {wb w W w7 : World} {bk cK : Nat} {Ds : List Nat} {its : Its} {C : Nat → List Value} {aK : Option Addr} (h : BookSt wb bk Ds its C aK cK w) (hk : Kept w W) (hg : W.grownBy w7 (Value.slice aK its.length cK).ownBlock) : w7.cell? ⟨bk, 0, none⟩ = some (.slice aK its.length cK) ∧ w7.frozen? ⟨bk, 0, none⟩ = false := by
  have hr := h.row
  obtain ⟨g1, g2, g3, g4, _⟩ := h
  have hb : bk < w.heap.size := World.block_lt_of_cell? w ⟨bk, 0, none⟩ g3
  have e : w7.heap[bk]? = w.heap[bk]? := by rw [hg.block bk (Nat.lt_of_lt_of_le hb hk.size) (fun e => by have := (hr bk e.symm).1; omega), hk.2.2.2.2 bk hb]
  exact ⟨(World.cell?_of_block (w := w) (a := ⟨bk, 0, none⟩) e).trans g3, (World.frozen?_of_block (w := w) (a := ⟨bk, 0, none⟩) e).trans g4⟩

theorem BookSt.other {wb w W w7 : World} {bk cK k o : Nat} {v u : Value} {Ds : List Nat} {its : Its} {C : Nat → List Value} {aK : Option Addr} (_h : BookSt wb bk Ds its C aK cK w) (hk : Kept w W) (hg : W.grownBy w7 (Value.slice aK its.length cK).ownBlock) (h1 : k ≠ bk) (h2 : ∀ g, (Value.slice aK its.length cK).ownBlock = some g → g < k) (hc : w.cell? ⟨k, o, none⟩ = some v) :
    (w7.setCell ⟨bk, 0, none⟩ u).cell? ⟨k, o, none⟩ = some v := by
  have hb : k < w.heap.size := World.block_lt_of_cell? w ⟨k, o, none⟩ hc
  rw [World.cell?_of_block (w := w) (a := ⟨k, o, none⟩)]
  · exact hc
  · rw [Below.heap_setCell _ _ _ _ (show k ≠ bk from h1), hg.block k (Nat.lt_of_lt_of_le hb hk.size) (fun e => Nat.lt_irrefl _ (h2 k e.symm)), hk.2.2.2.2 k hb]
theorem piece_is {xs bytes rest : List Int} {pre : List Item} {f m : Nat} (hm : m = f + (got pre).length) (h : xs.drop f = got pre ++ bytes ++ rest) : (xs.take (m + bytes.length)).drop m = bytes := by
  have h1 : xs.drop m = bytes ++ rest := by rw [hm, ← List.drop_drop, h, List.append_assoc, List.drop_left]
  rw [List.drop_take, h1, Nat.add_sub_cancel_left, List.take_left]

/-- Behind 'at = at + len(c)'. -/
theorem rng_at {wb W : World} {bk ba cK : Nat} {Ds : List Nat} {its : Its} {C : Nat → List Value} {aK : Option Addr} {v0 : Value} (v : Value) (h1 : BookSt wb bk Ds its C aK cK W) (hba1 : wb.heap.size ≤ ba) (h4 : W.cell? ⟨ba, 0, none⟩ = some v0)
    (h6 : ∀ (t b n c : Nat), its[t]? = some (b, n, c) → b ≠ ba) (h7 : ∀ g, (Value.slice aK its.length cK).ownBlock = some g → g ≠ ba) : BookSt wb bk Ds its C aK cK (W.setCell ⟨ba, 0, none⟩ v) := by
  have hDs := h1.2.2.2.2.2.2.2.2.2
  refine h1.move rfl rfl rfl (by simp [World.setCell]) (fun k hk' hr => Below.heap_setCell _ _ _ _ (show k ≠ ba from ?_))
  rcases hr with h | ⟨t, n, c, h⟩ | h | h
  · omega
  · exact h6 t k n c h
  · exact h7 k h
  · intro e
    have := (hDs k h).2
    rw [e] at this
    unfold World.cell? at h4
    simp only [this] at h4
    cases h4
theorem wpl_add_sliceIn {F : Fence} {n : Nat} {ops : Array Oper} {rest : List Oper} {o : Oper} {a : Act} {Q : Exit → Act → World → Prop} (hgd : o.guard = none) (s x : Operand)
    (ho : o.op = .call { callee := .builtin .append, args := #[s, x], argTypes := #[29, 29] }) (W : World) (n0 : Nat) (vP : Value) (k : Nat) (ps : List Value) (hs : a.eval s = vP) (hown : W.ownsRow n0 31 1 vP k ps)
    (q : Option Addr) (kq cq : Nat) (lb : Nat) (hx : a.eval x = .slice (some ⟨lb, 0, none⟩) 1 1) (hc : W.cell? ⟨lb, 0, none⟩ = some (.slice q kq cq)) (hn : k ≤ 2000000000) (hb : n0 ≤ W.heap.size)
    (h : ∀ g cap w', w'.ownsRow n0 31 1 (.slice (some ⟨g, 0, none⟩) (k + 1) cap) (k + 1) (ps ++ [.slice q kq cq]) → W.grownBy w' vP.ownBlock → (vP.ownBlock = some g ∨ g = W.heap.size) → wpListIn F n Try.prog ops Q rest (a.put o.dst (.slice (some ⟨g, 0, none⟩) (k + 1) cap)) w') : wpListIn F n Try.prog ops Q (o :: rest) a W := by
  obtain ⟨i0, hi, hz0, hz1, hz2⟩ := info_parts bytes_row_info
  refine wpListIn_plain hgd fun K hK' => ?_
  obtain ⟨g, cap, w', hrun, r1, r2, r3, _⟩ := run_append_lies (P := Try.prog) W 29 o.type n0 31 i0 (.slice none 0 0) 1 24 Try.underlying29 hi hz0 hz1 hz2 rfl (by decide) vP k ps hown ⟨lb, 0, none⟩ 1 1 [.slice q kq cq] rfl (one_news hc) (by intro u hu; simp at hu; subst hu; rfl) (by decide) (by unfold maxLen; omega) (by omega) hb W.heap.size rfl
  unfold Oper.wpIn
  refine ⟨?_, ?_⟩
  · simp [Oper.about, ho, resolve, Target.leads, Sem.run_pure]
  · rw [Oper.semAt_plain F _ _ (by rw [ho]; intro c hc'; cases hc')]
    simp [execOp, ho, resolve, invoke, builtin, hs, hx, hrun, Result.andThen]
    exact hK' _ _ (h g cap w' r1 r2 r3)

/-- GrownBytes of the lists that are kept. -/
theorem grown_any {wb w : World} {bk cK : Nat} {Ds : List Nat} {its : Its} {C : Nat → List Value} {aK : Option Addr} (h : BookSt wb bk Ds its C aK cK w) (hN : its.length ≤ 1400000000) :
    Calls Try.prog 13 #[.slice aK its.length cK] w fun e w' => e = .returned (.bool true) ∧ Hid (KeptBut bk wb w') ∧ Hid (∀ D, D ∈ Ds → w'.heap[D]? = some (.deferred (some []))) ∧
      Hid (∀ {m g n p : Nat} {xs : List Int}, Own w m (.slice (some ⟨g, 0, none⟩) n p) xs → (∀ (t b n c : Nat), its[t]? = some (b, n, c) → b ≠ g) → Own w' m (.slice (some ⟨g, 0, none⟩) n p) xs) := by
  obtain ⟨g1, g2, g3, g4, g5, g6, g7, g8, g9, g10⟩ := h
  have key : ∀ w', KeptBag its w w' → Hid (KeptBut bk wb w') ∧ Hid (∀ D, D ∈ Ds → w'.heap[D]? = some (.deferred (some []))) ∧
      Hid (∀ {m g n p : Nat} {xs : List Int}, Own w m (.slice (some ⟨g, 0, none⟩) n p) xs → (∀ (t b n c : Nat), its[t]? = some (b, n, c) → b ≠ g) → Own w' m (.slice (some ⟨g, 0, none⟩) n p) xs) := fun w' hk => by
    refine ⟨⟨hk.1.trans g1.1, hk.2.1.trans g1.2.1, hk.2.2.1.trans g1.2.2.1, Nat.le_trans g1.size hk.2.2.2.1, fun k hk1 hne => ?_⟩, fun D hD => ?_, fun {m g n p xs} ho hne => owns_same ho (fun g' hg' => ?_)⟩
    · rw [hk.2.2.2.2 k (Nat.lt_of_lt_of_le hk1 g1.size) (fun t b n c ht e => by have := (g8 t b n c ht).1; omega)]; exact g1.2.2.2.2 k hk1 hne
    · have hd := (g10 D hD).2
      rw [hk.2.2.2.2 D (Array.getElem?_eq_some_iff.1 hd).1 (fun t b n c ht e => by have hr := (g6 t b n c ht).1; unfold RowOf at hr; rw [← e, hd] at hr; cases hr)]; exact hd
    · simp only [Value.ownBlock, Option.some.injEq] at hg'
      subst hg'
      exact hk.2.2.2.2 g (owns_lt ho g rfl) (fun t b n c ht e => hne t b n c ht e.symm)
  rcases g5.2 with ⟨e, _⟩ | ⟨g0, c0, cur, e, _⟩
  · rw [e]
    exact (grown_nil w).mono fun _ w' ⟨h1, h2⟩ => ⟨h1, key w' (by rw [h2]; exact KeptBag.refl _ _)⟩
  · simp only [Value.slice.injEq] at e
    obtain ⟨rfl, _, rfl⟩ := e
    refine (grown_law its g0 its.length cK C w rfl (by omega) g6 g7 (fun t b n c ht => ?_)).mono fun _ w' ⟨h1, h2⟩ => ⟨h1, key w' h2⟩
    obtain ⟨g', c', e', _, _, hcell⟩ := owns_at g5 (itsV_at ht)
    simp only [Value.slice.injEq, Option.some.injEq, Addr.mk.injEq] at e'
    obtain ⟨⟨rfl, _⟩, _⟩ := e'
    exact ⟨hcell, fun eb => (g8 t b n c ht).2 (by rw [eb]; rfl)⟩

end Rope
end Go.Proofs.Ythjagnnbhpfpoab
