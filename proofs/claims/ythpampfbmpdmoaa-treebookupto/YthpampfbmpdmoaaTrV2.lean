import Derived.Test.YthpampfbmpdmoaaTrV3
import Derived.Test.YthpampfbmpdmoaaTrPath
namespace Go.Proofs.Ythpampfbmpdmoaa
open Go.RowKit
attribute [local go_sem] Oper.semAt_some
namespace Ex
namespace Tr

/-- A list of ints that can be read: a block of ints from its first cell on. -/
def PathRd (w : World) (pv : Value) (p : List Nat) : Prop := (pv = .slice none 0 0 ∧ p = []) ∨ ∃ g cap cur, pv = .slice (some ⟨g, 0, none⟩) p.length cap ∧ p.length ≤ cap ∧ p.length ≤ 4194304 ∧ w.heap[g]? = some (.cells cur 3 (0, 0)) ∧ cur.toList.take p.length = flatI p
theorem PathRd.nil (w : World) : PathRd w (.slice none 0 0) [] := Or.inl ⟨rfl, rfl⟩
theorem PathRd.same {w w' : World} {pv : Value} {p : List Nat} (h : PathRd w pv p) (hh : ∀ (g : Nat) (cur : Array Value), w.heap[g]? = some (.cells cur 3 (0, 0)) → w'.heap[g]? = w.heap[g]?) : PathRd w' pv p := by
  rcases h with h | ⟨g, cap, cur, h1, h2, h3, h5, h6⟩
  · exact Or.inl h
  · exact Or.inr ⟨g, cap, cur, h1, h2, h3, (hh g cur h5).trans h5, h6⟩
theorem PathRd.keep {w w' : World} {pv : Value} {p : List Nat} (h : PathRd w pv p) (hk : Kept w w') : PathRd w' pv p := h.same fun g _ hg => hk.2.2.2.2 g (Array.getElem?_eq_some_iff.1 hg).1
theorem PathRd.cells {w : World} {p : List Nat} {g cap n : Nat} (h : PathRd w (.slice (some ⟨g, 0, none⟩) n cap) p) : n = p.length ∧ p.length ≤ cap ∧ p.length ≤ 4194304 ∧ ∀ (i n : Nat), p[i]? = some n → w.cell? ⟨g, i, none⟩ = some (.int .i64 (n : Int)) := by
  rcases h with ⟨h, _⟩ | ⟨g', cap', cur, h1, h2, h3, h5, h6⟩
  · cases h
  · injection h1 with e1 e2 e3
    injection e1 with e1
    injection e1 with e1
    subst e1 e3
    refine ⟨e2, h2, h3, fun i n hi => ?_⟩
    have hl := (List.getElem?_eq_some_iff.1 hi).1
    have h7 : (cur.toList.take p.length)[i]? = some (.int .i64 (n : Int)) := by rw [h6]; simp [flatI, hi]
    rw [List.getElem?_take, if_pos hl] at h7
    simp only [World.cell?, h5]
    simpa using h7
theorem PathRd.form {w : World} {pv : Value} {p : List Nat} (h : PathRd w pv p) : (pv = .slice none 0 0 ∧ p = []) ∨ ∃ g cap, pv = .slice (some ⟨g, 0, none⟩) p.length cap := by
  rcases h with h | ⟨g, cap, cur, h1, _⟩
  · exact Or.inl h
  · exact Or.inr ⟨g, cap, h1⟩
theorem IOwn.path {w : World} {base : Nat} {v : Value} {p : List Nat} (h : IOwn w base v p) (hl : p.length ≤ 4194304) : PathRd w v p := by
  rcases h.2 with ⟨rfl, h0⟩ | ⟨g, cap, cur, rfl, h1, h2, h3, h4, h5, h6⟩
  · have e : p = [] := List.length_eq_zero_iff.1 h0
    subst e
    exact PathRd.nil w
  · refine Or.inr ⟨g, cap, cur, rfl, h3, hl, h2, ?_⟩
    rw [Nat.mul_one] at h6
    exact h6
theorem wpl_path {ops : Array Oper} {rest : List Oper} {o : Oper} {a : Act} {Q : Exit → Act → World → Prop} (hgd : o.guard = none) (s x : Operand) (ho : o.op = .call { callee := .builtin .append, args := #[s, x], argTypes := #[40, 40] }) (w : World) (p : List Nat) (m : Nat) (hm : p.length = m) (hs : a.eval s = .slice none 0 0) (c0 cap0 : Nat) (hx : a.eval x = .slice (some ⟨c0, 0, none⟩) m cap0)
    (hc : ∀ (i n : Nat), p[i]? = some n → w.cell? ⟨c0, i, none⟩ = some (.int .i64 (n : Int))) (h0 : 0 < m) (hl : m ≤ 8388608)
    (h : ∀ g cap w', IOwn w' w.heap.size (.slice (some ⟨g, 0, none⟩) m cap) p → Kept w w' → wpList Try.prog ops Q rest (a.put o.dst (.slice (some ⟨g, 0, none⟩) m cap)) w') :
    wpList Try.prog ops Q (o :: rest) a w := by
  obtain ⟨i0, hi, hz0, hz1, hz2⟩ := info_parts intt_info
  subst hm
  refine wpList_append_lies w hgd s x 40 ho w.heap.size 3 i0 _ 1 8 Try.underlying40 hi hz0 hz1 hz2 rfl (by decide) (.slice none 0 0) 0 [] hs ⟨rfl, Or.inl ⟨rfl, rfl⟩⟩ ⟨c0, 0, none⟩ p.length cap0 (flatI p) hx (by simp [flatI]) ?_ ?_ h0 (by unfold maxLen; omega) (by omega) (Nat.le_refl _) w.heap.size rfl ?_
  · intro j y hj
    unfold flatI at hj
    rw [List.getElem?_map] at hj
    obtain ⟨n, hn, rfl⟩ := Option.map_eq_some_iff.1 hj
    have e : (⟨c0, 0, none⟩ : Addr).add j = ⟨c0, j, none⟩ := Addr.add_mid c0 0 j |>.trans (by rw [Nat.zero_add])
    rw [e]
    exact hc j n hn
  · intro u hu
    unfold flatI at hu
    obtain ⟨n, _, rfl⟩ := List.mem_map.1 hu
    rfl
  · intro g cap w' h1 h2 h3 h4
    rw [Nat.zero_add] at h1 ⊢
    refine h g cap w' h1 ⟨h2.os, h2.tape, h2.output, h2.size, fun k hk => h2.block k hk (by simp [Value.ownBlock])⟩

def WithR (w : World) (p : List Nat) (e : Ending) (w' : World) : Prop := ∃ v, e = .returned v ∧ PathRd w' v p ∧ Kept w w'
set_option linter.unusedSimpArgs false in
set_option maxRecDepth 100000 in
set_option maxHeartbeats 2000000 in
theorem with_is (p : List Nat) (pv : Value) (n : Nat) (w : World) (hp : PathRd w pv p) (hl : p.length ≤ 4194303) :
    Calls Try.prog 46 #[pv, .int .i64 (n : Int)] w (WithR w (p ++ [n])) := by
  have hfin : ∀ (wA w9 : World) (g9 c9 m : Nat) (q : List Nat) (ov : Option Nat), Kept w wA → IOwn w9 w.heap.size (.slice (some ⟨g9, 0, none⟩) (m + 1) c9) (q ++ [n]) → q = p → (∀ g, ov = some g → w.heap.size ≤ g) → (wA.alloc (.cells #[.int .i64 (n : Int)] 3)).grownBy w9 ov → WithR w (p ++ [n]) (.returned (.slice (some ⟨g9, 0, none⟩) (m + 1) c9)) w9 := by
    intro wA w9 g9 c9 m q ov hk ho hq hov hg
    subst hq
    refine ⟨_, rfl, ho.path (by rw [List.length_append]; exact Nat.succ_le_succ hl), ?_⟩
    have hkA : Kept w (wA.alloc (.cells #[.int .i64 (n : Int)] 3)) := gtrans hk ((Kept.refl wA).alloc _ _)
    refine ⟨hg.os.trans hkA.1, hg.tape.trans hkA.2.1, hg.output.trans hkA.2.2.1, Nat.le_trans hkA.size hg.size, fun k hk' => (hg.block k (Nat.lt_of_lt_of_le hk' hkA.size) (fun e => ?_)).trans (hkA.2.2.2.2 k hk')⟩
    have := hov k e.symm
    omega
  rcases hp.form with ⟨rfl, rfl⟩ | ⟨g, cap, rfl⟩
  · have HFIN := hide1 hfin
    clear hfin hp
    go_enter Try.func46, Try.ntmps46
    go_upto_region 3 with fail
    go_wp2_with (at_builtin; go_must (refine wpl_int rfl _ _ rfl _ w.heap.size _ [] 0 rfl (by rfl) (World.ownsRow_nil _ _ _ _) w.heap.size n (by rfl) (World.alloc_heap_new w _) (by simp) (by exact alloc_le w _) ?_; intro g9 c9 w9 ho9 hg9 hor9 hl9; have HO9 := hide1 ho9; have HG9 := hide1 hg9; clear ho9 hg9 hor9 hl9))
    go_ret
    exact HFIN.out w w9 g9 c9 0 [] none (Kept.refl w) HO9.out rfl (fun _ h => by cases h) HG9.out
  · obtain ⟨_, h1, h2, h3⟩ := hp.cells
    obtain ⟨m, hm⟩ : ∃ m, p.length = m := ⟨_, rfl⟩
    have HM := hide1 hm
    have H3 := hide1 h3
    have HFIN := hide1 hfin
    rw [hm] at h1 h2 hl ⊢
    have hmI : (m : Int) ≤ 4194303 := by omega
    have hcI : (m : Int) ≤ (cap : Int) := by omega
    clear hp hm h3 hfin
    go_enter Try.func46, Try.ntmps46
    rcases Nat.eq_zero_or_pos m with h0 | h0
    · subst h0
      have hp0 : p = [] := List.length_eq_zero_iff.1 HM.out
      subst hp0
      go_upto_region 3 with fail
      go_wp2_with (at_builtin; go_must (refine wpl_int rfl _ _ rfl _ w.heap.size _ [] 0 rfl (by rfl) (World.ownsRow_nil _ _ _ _) w.heap.size n (by rfl) (World.alloc_heap_new w _) (by simp) (by exact alloc_le w _) ?_; intro g9 c9 w9 ho9 hg9 hor9 hl9; have HO9 := hide1 ho9; have HG9 := hide1 hg9; clear ho9 hg9 hor9 hl9))
      go_ret
      exact HFIN.out w w9 g9 c9 0 [] none (Kept.refl w) HO9.out rfl (fun _ h => by cases h) HG9.out
    · go_upto_region 3 with (at_builtin; go_must (refine wpl_path rfl _ _ rfl _ p m HM.out (by rfl) g cap (by rfl) H3.out h0 (by omega) ?_; intro g8 c8 w8 ho8 hk8; have HO8 := hide1 ho8; have HK8 := hide1 hk8; clear ho8 hk8))
      go_wp2_with (at_builtin; go_must (refine wpl_int rfl _ _ rfl _ w.heap.size _ p m HM.out (by rfl) (owns_same (w' := w8.alloc (.cells #[.int .i64 (n : Int)] 3)) HO8.out (fun d hd => heap_alloc_old w8 _ (HO8.out.lt d hd).2)) w8.heap.size n (by rfl) (World.alloc_heap_new w8 _) (by rw [HM.out]; omega) (by exact Nat.le_trans HK8.out.size (alloc_le w8 _)) ?_; intro g9 c9 w9 ho9 hg9 hor9 hl9; have HO9 := hide1 ho9; have HG9 := hide1 hg9; clear ho9 hg9 hor9 hl9))
      go_ret
      exact HFIN.out w8 w9 g9 c9 m p _ HK8.out HO9.out rfl (fun d h => (HO8.out.lt d h).1) HG9.out

end Tr
end Ex
end Go.Proofs.Ythpampfbmpdmoaa
