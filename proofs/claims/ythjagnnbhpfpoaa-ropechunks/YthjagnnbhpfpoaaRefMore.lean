import Derived.Test.YthjagnnbhpfpoaaRefMake
import Derived.Test.YthjagnnbhpfpoaaRopeMake
namespace Go.Proofs.Ythjagnnbhpfpoaa
open Go.RowKit
attribute [local go_sem] Oper.semAt_some
namespace Rope

theorem RefAt.len {S : Nat → Prop} {w : World} {r : Value} {xs : List Int} (h : RefAt S w r xs) : xs.length ≤ 16777216 := by obtain ⟨b, v, rfl, _, hc, hl, hn⟩ := h; exact hn
theorem RefAt.byt {S : Nat → Prop} {w : World} {r : Value} {xs : List Int} (h : RefAt S w r xs) : Byt xs := by obtain ⟨b, v, rfl, _, hc, hl, hn⟩ := h; exact lbyt hl
theorem drew_kept (w : World) : Kept w w.drew := Kept.of ((Below.refl _ _).drew)
theorem grown_first {w w1 : World} (h : w.grownBy w1 (Value.slice none 0 0).ownBlock) : Kept w w1 := (Kept.refl w).grown h (by intro k hk; cases hk)
theorem grown_next {w w1 w2 : World} {v : Value} {bs : List Int} (hk : Kept w w1) (ho : Own w1 w.heap.size v bs) (h : w1.grownBy w2 v.ownBlock) : Kept w w2 := hk.grown h ho.base

set_option maxRecDepth 100000 in
set_option maxHeartbeats 4000000 in
theorem rcat_in (S : Nat → Prop) (r o : Value) (xs ys : List Int) (w : World) (h : RefAt S w r xs) (ho : RefAt S w o ys) (hS : Open S w) (hn : xs.length + ys.length ≤ 16777216) :
    Calls Try.prog 67 #[r, o] w (RGave S w (xs ++ ys)) := by
  have HB : Hid (Byt (xs ++ ys)) := h.byt.append ho.byt
  obtain ⟨b, v, rfl, _, hc, hl, _⟩ := h
  obtain ⟨d, u, rfl, _, hd, hm, _⟩ := ho
  obtain ⟨a, p, rfl⟩ := lform hl
  obtain ⟨a', q, rfl⟩ := lform hm
  have HL := hide1 hl
  have HM := hide1 hm
  have g : (xs.length : Int) + (ys.length : Int) ≤ 16777216 := by omega
  have k1 := keeps hd
  clear hl hm
  go_enter Try.func67, Try.ntmps67
  go_wp2_with fail
  go_region
  all_goals
    go_wp2_with (first
      | (at_builtin; have _g := ho1.out; clear _g; go_must (refine wpl_append_list rfl _ _ rfl w1 w.heap.size _ _ (by rfl) ho1.out S _ ys (by rfl) (lkept HM.out hk1.out) (by simp; omega) hk1.out.size (xs.length + ys.length) (by simp) ?_; intro b2 c2 w2 ho2' hg2; have hk2 := hide1 (grown_next hk1.out ho1.out hg2); have ho2 := hide1 ho2'; clear ho2' hg2))
      | (at_builtin; go_must (refine wpl_append_list rfl _ _ rfl _ w.heap.size _ [] (by rfl) (own_nil _ _) S _ xs (by rfl) (lkept HL.out (drew_kept w)) (by simp; omega) (drew_kept w).size xs.length (by simp) ?_; intro b1 c1 w1 ho1' hg1; have hk1 := hide1 (gtrans (drew_kept w) (grown_first hg1)); have hd1 := k1 w1 hk1.out; have ho1 := hide1 ho1'; clear ho1' hg1)))
    go_ret2
    exact ⟨w2.heap.size, rfl, hk2.out.alloc _ _, ref_made hS hk2.out ho2.out HB.out (by simp; omega) _⟩

set_option maxRecDepth 100000 in
set_option maxHeartbeats 2000000 in
theorem rsplice_range (S : Nat → Prop) (r : Value) (va : Option Addr) (vn vcap : Nat) (xs : List Int) (f d : Int) (w : World) (h : RefAt S w r xs) (hno : ¬ (0 ≤ f ∧ 0 ≤ d ∧ f ≤ xs.length ∧ d ≤ xs.length - f)) :
    Calls Try.prog 68 #[r, .int .i64 f, .int .i64 d, .slice va vn vcap] w fun e w' => e = .returned (.tuple #[.pointer none, .int .i64 3]) ∧ w' = w := by
  obtain ⟨b, v, rfl, _, hc, hl, hn⟩ := h
  obtain ⟨a, p, rfl⟩ := lform hl
  clear hl
  have g : (xs.length : Int) ≤ 16777216 := by omega
  by_cases h0 : f < 0
  · clear hno
    go_enter Try.func68, Try.ntmps68
    go_wp2
    go_ret2
    exact ⟨rfl, rfl⟩
  · have e0 : decide (f < 0) = false := decide_eq_false h0
    by_cases h1 : d < 0
    · clear hno
      go_enter Try.func68, Try.ntmps68
      go_wp2
      go_ret2
      exact ⟨rfl, rfl⟩
    · have e1 : decide (d < 0) = false := decide_eq_false h1
      by_cases h2 : (xs.length : Int) < f
      · clear hno
        go_enter Try.func68, Try.ntmps68
        go_wp2
        go_ret2
        exact ⟨rfl, rfl⟩
      · have e2 : decide ((xs.length : Int) < f) = false := decide_eq_false h2
        have h3 : (xs.length : Int) - f < d := by omega
        clear hno
        go_enter Try.func68, Try.ntmps68
        go_wp2
        go_ret2
        exact ⟨rfl, rfl⟩

set_option maxRecDepth 100000 in
set_option maxHeartbeats 2000000 in
theorem rsplice_long (S : Nat → Prop) (r : Value) (va : Option Addr) (vn vcap : Nat) (xs : List Int) (i k : Nat) (w : World) (h : RefAt S w r xs) (h2 : i + k ≤ xs.length) (hv : vn ≤ 200000000000000) (hn : 16777216 < (xs.length : Int) - k + vn) :
    Calls Try.prog 68 #[r, .int .i64 i, .int .i64 k, .slice va vn vcap] w fun e w' => e = .returned (.tuple #[.pointer none, .int .i64 2]) ∧ w' = w := by
  obtain ⟨b, v, rfl, _, hc, hl, hl'⟩ := h
  obtain ⟨a, p, rfl⟩ := lform hl
  clear hl
  have g : (xs.length : Int) ≤ 16777216 := by omega
  have gv : (vn : Int) ≤ 200000000000000 := by omega
  have e0 : decide ((i : Int) < 0) = false := decide_eq_false (by omega)
  have e1 : decide ((k : Int) < 0) = false := decide_eq_false (by omega)
  have e2 : decide ((xs.length : Int) < (i : Int)) = false := decide_eq_false (by omega)
  have e3 : decide ((xs.length : Int) - (i : Int) < (k : Int)) = false := decide_eq_false (by omega)
  go_enter Try.func68, Try.ntmps68
  go_wp2
  go_ret2
  exact ⟨rfl, rfl⟩

set_option maxRecDepth 100000 in
set_option maxHeartbeats 4000000 in
theorem rsplice_in (S S' : Nat → Prop) (r v : Value) (xs ins : List Int) (i k : Nat) (w : World) (h : RefAt S w r xs) (hv : ListAt S' w v ins) (hS : Open S w) (h2 : i + k ≤ xs.length) (hn : (xs.length : Int) - k + ins.length ≤ 16777216) :
    Calls Try.prog 68 #[r, .int .i64 i, .int .i64 k, v] w (RGave S w (spliced xs ins i k)) := by
  have HB : Hid (Byt (spliced xs ins i k)) := ((h.byt.take _).append (lbyt hv)).append (h.byt.drop _)
  obtain ⟨b, u, rfl, _, hc, hl, hl'⟩ := h
  obtain ⟨a, p, rfl⟩ := lform hl
  obtain ⟨a', q, rfl⟩ := lform hv
  have eik : ((i : Int) + (k : Int)) = ((i + k : Nat) : Int) := by omega
  obtain ⟨d1, q1, hs1, hl1⟩ := slice_front hl i (by omega)
  obtain ⟨d2, q2, hs2, hl2⟩ := slice_rest hl (i + k) (by omega)
  have HL1 := hide1 hl1
  have HL2 := hide1 hl2
  have HV := hide1 hv
  have kc := keeps hc
  have g : (xs.length : Int) ≤ 16777216 := by omega
  have gi : (ins.length : Int) ≤ 33554432 := by omega
  have e0 : decide ((i : Int) < 0) = false := decide_eq_false (by omega)
  have e1 : decide ((k : Int) < 0) = false := decide_eq_false (by omega)
  have e2 : decide ((xs.length : Int) < (i : Int)) = false := decide_eq_false (by omega)
  have e3 : decide ((xs.length : Int) - (i : Int) < (k : Int)) = false := decide_eq_false (by omega)
  rw [← eik] at hs2
  have HLen : Hid ((spliced xs ins i k).length ≤ 16777216) := by
    show _ ≤ _
    unfold spliced
    rw [Int.toNat_natCast, eik, Int.toNat_natCast, List.length_append, List.length_append, List.length_take, List.length_drop]
    omega
  have HE : Hid ([] ++ xs.take i ++ ins ++ xs.drop (i + k) = spliced xs ins i k) := by
    show _ = _
    unfold spliced
    rw [eik]
    rfl
  clear hl hv hl1 hl2 eik
  go_enter Try.func68, Try.ntmps68
  go_wp2_with (first
    | (at_builtin; have _g := ho2.out; clear _g; go_must (refine wpl_append_list rfl _ _ rfl w2 w.heap.size _ _ (by rfl) ho2.out S _ _ (by rfl) (lkept HL2.out hk2.out) (by simp; omega) hk2.out.size (i + ins.length + (xs.length - (i + k))) (by simp; omega) ?_; intro b3 c3 w3 ho3' hg3; have hk3 := hide1 (grown_next hk2.out ho2.out hg3); have ho3 := hide1 ho3'; clear ho3' hg3))
    | (at_builtin; have _g := ho1.out; clear _g; go_must (refine wpl_append_list rfl _ _ rfl w1 w.heap.size _ _ (by rfl) ho1.out S' _ ins (by rfl) (lkept HV.out hk1.out) (by simp; omega) hk1.out.size (i + ins.length) (by simp; omega) ?_; intro b2 c2 w2 ho2' hg2; have hk2 := hide1 (grown_next hk1.out ho1.out hg2); have ho2 := hide1 ho2'; have hc2 := kc w2 hk2.out; clear ho2' hg2))
    | (at_builtin; go_must (refine wpl_append_list rfl _ _ rfl w w.heap.size _ [] (by rfl) (own_nil _ _) S _ _ (by rfl) HL1.out (by simp; omega) (Nat.le_refl _) i (by simp; omega) ?_; intro b1 c1 w1 ho1' hg1; have hk1 := hide1 (grown_first hg1); have ho1 := hide1 ho1'; clear ho1' hg1)))
  go_ret2
  have h3 := ho3.out
  rw [HE.out] at h3
  exact ⟨w3.heap.size, rfl, hk3.out.alloc _ _, ref_made hS hk3.out h3 HB.out HLen.out _⟩

end Rope
end Go.Proofs.Ythjagnnbhpfpoaa
