import Derived.Test.YthjagnnbhpfpoaaRefBase
import Derived.Test.YthjagnnbhpfpoaaRopeAsk
namespace Go.Proofs.Ythjagnnbhpfpoaa
open Go.RowKit
attribute [local go_sem] Oper.semAt_some
namespace Rope

theorem lform {S : Nat → Prop} {w : World} {v : Value} {bs : List Int} (h : ListAt S w v bs) : ∃ a cap, v = .slice a bs.length cap := by
  rcases h with ⟨rfl, a, cap, rfl⟩ | ⟨c, o, cap, rfl, _⟩
  · exact ⟨_, _, rfl⟩
  · exact ⟨_, _, rfl⟩
theorem lmono {S S' : Nat → Prop} {w w' : World} {v : Value} {bs : List Int} (h : ListAt S w v bs) (hs : Same S w w') (hS : ∀ b, S b → S' b) : ListAt S' w' v bs := by
  rcases h with h | h
  · exact Or.inl h
  · exact Or.inr (h.mono hs hS)
theorem lkept {S : Nat → Prop} {w w' : World} {v : Value} {bs : List Int} (h : ListAt S w v bs) (hk : Kept w w') : ListAt S w' v bs := lmono h (Kept.same hk S) (fun _ h => h)
theorem lbyt {S : Nat → Prop} {w : World} {v : Value} {bs : List Int} (h : ListAt S w v bs) : Byt bs := by
  rcases h with ⟨rfl, _⟩ | ⟨c, o, cap', he, _, _, hc, hb⟩
  · intro x hx; cases hx
  · exact hb
theorem olist {w : World} {base : Nat} {v : Value} {bs : List Int} (h : Own w base v bs) (hby : Byt bs) : ListAt (fun b => base ≤ b) w v bs := by
  by_cases hb : bs = []
  · subst hb
    rcases h.2 with ⟨rfl, _⟩ | ⟨g, cap, cur, rfl, _⟩
    · exact .inl ⟨rfl, _, _, rfl⟩
    · exact .inl ⟨rfl, _, _, rfl⟩
  · exact .inr (h.slice hb hby)
theorem lcell {S : Nat → Prop} {w : World} {a : Option Addr} {n cap j : Nat} {bs : List Int} {x : Int} (h : ListAt S w (.slice a n cap) bs) (hx : bs[j]? = some x) : ∃ c o, a = some ⟨c, o, none⟩ ∧ w.cell? ⟨c, o + j, none⟩ = some (.int .u8 x) := by
  rcases h with ⟨rfl, _⟩ | ⟨c, o, cap', he, _, _, hc, _⟩
  · simp at hx
  · simp only [Value.slice.injEq] at he
    exact ⟨c, o, he.1, hc j x hx⟩

theorem RefAt.mono {S S' : Nat → Prop} {w w' : World} {r : Value} {xs : List Int} (h : RefAt S w r xs) (hs : Same S w w') (hS : ∀ b, S b → S' b) : RefAt S' w' r xs := by
  obtain ⟨b, v, rfl, h1, h2, h3, h4⟩ := h
  exact ⟨b, v, rfl, hS b h1, hs.1 _ _ _ h1 h2, lmono h3 hs hS, h4⟩
theorem RefAt.kept {S : Nat → Prop} {w w' : World} {r : Value} {xs : List Int} (h : RefAt S w r xs) (hk : Kept w w') : RefAt S w' r xs := h.mono (Kept.same hk S) (fun _ h => h)

/-- A rope of the document was told. -/
def RGave (S : Nat → Prop) (w : World) (xs : List Int) (e : Ending) (w' : World) : Prop :=
  ∃ b, e = .returned (.tuple #[.pointer (some ⟨b, 0, none⟩), .int .i64 0]) ∧ Kept w w' ∧ RefAt S w' (.pointer (some ⟨b, 0, none⟩)) xs

theorem ref_made {S : Nat → Prop} {w w1 : World} {v : Value} {xs : List Int} (hS : Open S w) (hk : Kept w w1) (ho : Own w1 w.heap.size v xs) (hb : Byt xs) (hn : xs.length ≤ 16777216) (t : TypeId) :
    RefAt S (w1.alloc (.cells #[v] t)) (.pointer (some ⟨w1.heap.size, 0, none⟩)) xs := by
  refine ⟨w1.heap.size, v, rfl, hS _ hk.size, by simp, ?_, hn⟩
  exact lmono (olist ho hb) (Kept.same ((Kept.refl w1).alloc _ _) _) (fun b hb => hS b hb)

set_option maxRecDepth 100000 in
set_option maxHeartbeats 2000000 in
theorem rnew_in (S S' : Nat → Prop) (v : Value) (bs : List Int) (w : World) (hv : ListAt S' w v bs) (hS : Open S w) (hn : bs.length ≤ 16777216) :
    Calls Try.prog 62 #[v] w (RGave S w bs) := by
  obtain ⟨a, cap, rfl⟩ := lform hv
  have HV := hide1 hv
  have HB := hide1 (lbyt hv)
  clear hv
  have g : (bs.length : Int) ≤ 16777216 := by omega
  go_enter Try.func62, Try.ntmps62
  go_wp2_with (at_builtin; go_must (refine wpl_append_list rfl _ _ rfl w w.heap.size _ [] (by rfl) (own_nil _ _) S' _ bs (by rfl) HV.out (by simp; omega) (Nat.le_refl _) bs.length (by simp) ?_; intro b1 c1 w1 ho1 hg1))
  go_ret2
  have hk1 : Kept w w1 := (Kept.refl w).grown hg1 (by intro k hk; cases hk)
  exact ⟨w1.heap.size, rfl, hk1.alloc _ _, ref_made hS hk1 ho1 HB.out hn _⟩

set_option maxHeartbeats 1000000 in
theorem rnew_long (a : Option Addr) (n cap : Nat) (w : World) (hn : (16777216 : Int) < (n : Int)) :
    Calls Try.prog 62 #[.slice a n cap] w fun e w' => e = .returned (.tuple #[.pointer none, .int .i64 2]) ∧ w' = w := by
  go_enter Try.func62, Try.ntmps62
  go_wp2
  go_ret2
  exact ⟨rfl, rfl⟩

set_option maxRecDepth 100000 in
set_option maxHeartbeats 2000000 in
theorem rat_in (S : Nat → Prop) (r : Value) (xs : List Int) (i : Nat) (x : Int) (w : World) (h : RefAt S w r xs) (hi : xs[i]? = some x) :
    Calls Try.prog 45 #[r, .int .i64 i] w fun e w' => e = .returned (.tuple #[.int .u8 x, .bool true]) ∧ w' = w := by
  obtain ⟨b, v, rfl, _, hc, hl, hn⟩ := h
  obtain ⟨a, cap, rfl⟩ := lform hl
  obtain ⟨c, o, rfl, hx⟩ := lcell hl hi
  have hlt : (i : Int) < (xs.length : Int) := by have := (List.getElem?_eq_some_iff.1 hi).1; omega
  have e0 : decide ((i : Int) < 0) = false := decide_eq_false (by omega)
  have e1 : decide ((xs.length : Int) ≤ (i : Int)) = false := decide_eq_false (by omega)
  clear hl
  go_enter Try.func45, Try.ntmps45
  go_wp2
  go_ret2
  exact ⟨rfl, rfl⟩

set_option maxRecDepth 100000 in
set_option maxHeartbeats 2000000 in
theorem rat_out (S : Nat → Prop) (r : Value) (xs : List Int) (i : Int) (w : World) (h : RefAt S w r xs) (hi : i < 0 ∨ xs.length ≤ i) :
    Calls Try.prog 45 #[r, .int .i64 i] w fun e w' => e = .returned (.tuple #[.int .u8 0, .bool false]) ∧ w' = w := by
  obtain ⟨b, v, rfl, _, hc, hl, hn⟩ := h
  obtain ⟨a, cap, rfl⟩ := lform hl
  clear hl
  by_cases h0 : i < 0
  · clear hi
    go_enter Try.func45, Try.ntmps45
    go_wp2
    go_ret2
    exact ⟨rfl, rfl⟩
  · have h1 : (xs.length : Int) ≤ i := by omega
    have e0 : decide (i < 0) = false := decide_eq_false h0
    clear hi
    go_enter Try.func45, Try.ntmps45
    go_wp2
    go_ret2
    exact ⟨rfl, rfl⟩

set_option maxRecDepth 100000 in
set_option maxHeartbeats 2000000 in
theorem rpart_in (S : Nat → Prop) (r : Value) (xs : List Int) (f t : Nat) (w : World) (h : RefAt S w r xs) (h1 : f ≤ t) (h2 : t ≤ xs.length) :
    Calls Try.prog 48 #[r, .int .i64 f, .int .i64 t] w fun e w' => ∃ a n cap, e = .returned (.tuple #[.slice a n cap, .int .i64 0]) ∧ Kept w w' ∧ Own w' w.heap.size (.slice a n cap) (span xs f t) := by
  obtain ⟨b, v, rfl, _, hc, hl, hn⟩ := h
  obtain ⟨a, cap, rfl⟩ := lform hl
  obtain ⟨d, q, hsl, hls⟩ := slice_list hl f t h1 h2
  have HL := hide1 hls
  have e0 : decide ((f : Int) < 0) = false := decide_eq_false (by omega)
  have e1 : decide ((t : Int) < (f : Int)) = false := decide_eq_false (by omega)
  have e2 : decide ((xs.length : Int) < (t : Int)) = false := decide_eq_false (by omega)
  clear hl hls
  go_enter Try.func48, Try.ntmps48
  go_wp2_with (at_builtin; go_must (refine wpl_append_list rfl _ _ rfl w w.heap.size _ [] (by rfl) (own_nil _ _) S _ _ (by rfl) HL.out (by simp; omega) (Nat.le_refl _) (t - f) (by simp; omega) ?_; intro b1 c1 w1 ho1 hg1))
  go_ret2
  have hk1 : Kept w w1 := (Kept.refl w).grown hg1 (by intro k hk; cases hk)
  exact ⟨_, _, _, rfl, hk1, ho1⟩

set_option maxRecDepth 100000 in
set_option maxHeartbeats 2000000 in
theorem rpart_out (S : Nat → Prop) (r : Value) (xs : List Int) (f t : Int) (w : World) (h : RefAt S w r xs) (hno : ¬ (0 ≤ f ∧ f ≤ t ∧ t ≤ xs.length)) :
    Calls Try.prog 48 #[r, .int .i64 f, .int .i64 t] w fun e w' => e = .returned (.tuple #[.slice none 0 0, .int .i64 3]) ∧ w' = w := by
  obtain ⟨b, v, rfl, _, hc, hl, hn⟩ := h
  obtain ⟨a, cap, rfl⟩ := lform hl
  clear hl
  by_cases h0 : f < 0
  · clear hno
    go_enter Try.func48, Try.ntmps48
    go_wp2
    go_ret2
    exact ⟨rfl, rfl⟩
  · have e0 : decide (f < 0) = false := decide_eq_false h0
    by_cases h1 : t < f
    · clear hno
      go_enter Try.func48, Try.ntmps48
      go_wp2
      go_ret2
      exact ⟨rfl, rfl⟩
    · have e1 : decide (t < f) = false := decide_eq_false h1
      have h2 : (xs.length : Int) < t := by omega
      clear hno
      go_enter Try.func48, Try.ntmps48
      go_wp2
      go_ret2
      exact ⟨rfl, rfl⟩

theorem span_take (xs : List Int) (f t : Int) : (span xs f t).length ≤ xs.length := by unfold span; simp; omega

set_option maxRecDepth 100000 in
set_option maxHeartbeats 2000000 in
theorem rcut_in (S : Nat → Prop) (r : Value) (xs : List Int) (f t : Nat) (w : World) (h : RefAt S w r xs) (hS : Open S w) (h1 : f ≤ t) (h2 : t ≤ xs.length) :
    Calls Try.prog 65 #[r, .int .i64 f, .int .i64 t] w (RGave S w (span xs f t)) := by
  have hn : xs.length ≤ 16777216 := by obtain ⟨b, v, rfl, _, hc, hl, hn⟩ := h; exact hn
  have hb : Byt xs := by obtain ⟨b, v, rfl, _, hc, hl, hn⟩ := h; exact lbyt hl
  have HB : Hid (Byt (span xs f t)) := (hb.take _).drop _
  have HN : Hid ((span xs f t).length ≤ 16777216) := Nat.le_trans (span_take xs f t) hn
  have HE := hide1 h
  obtain ⟨b, v, rfl, _⟩ := h
  clear hb
  go_enter Try.func65, Try.ntmps65
  go_wp2_with fail
  refine (rpart_in S _ xs f t _ HE.out h1 h2).mono ?_
  rintro e w1 ⟨a1, n1, c1, rfl, hk1, ho1⟩
  have HO := hide1 ho1
  clear ho1
  go_wp2
  go_ret2
  exact ⟨w1.heap.size, rfl, hk1.alloc _ _, ref_made hS hk1 HO.out HB.out HN.out _⟩

set_option maxRecDepth 100000 in
set_option maxHeartbeats 2000000 in
theorem rcut_out (S : Nat → Prop) (r : Value) (xs : List Int) (f t : Int) (w : World) (h : RefAt S w r xs) (hno : ¬ (0 ≤ f ∧ f ≤ t ∧ t ≤ xs.length)) :
    Calls Try.prog 65 #[r, .int .i64 f, .int .i64 t] w fun e w' => e = .returned (.tuple #[.pointer none, .int .i64 3]) ∧ w' = w := by
  have HE := hide1 h
  obtain ⟨b, v, rfl, _⟩ := h
  go_enter Try.func65, Try.ntmps65
  go_wp2_with fail
  refine (rpart_out S _ xs f t _ HE.out hno).mono ?_
  rintro e w1 ⟨rfl, rfl⟩
  go_wp2
  go_ret2
  exact ⟨rfl, rfl⟩

end Rope
end Go.Proofs.Ythjagnnbhpfpoaa
