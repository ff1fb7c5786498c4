import Derived.Test.YthpampfbmpdmoaaTrV4
namespace Go.Proofs.Ythpampfbmpdmoaa
open Go.RowKit
attribute [local go_sem] Oper.semAt_some
namespace Ex
namespace Tr

/-- Spots that can be read. -/
def SpRd (w : World) (v : Value) (L : List SpM) : Prop := ∃ a c, v = .slice a L.length c ∧ L.length ≤ 4194304 ∧ ∀ (i : Nat) (q : SpM), L[i]? = some q → ∃ g, a = some ⟨g, 0, none⟩ ∧ g < w.heap.size ∧ w.cell? ⟨g, i * 3, none⟩ = some (.pointer (some ⟨q.d, 0, none⟩)) ∧ w.cell? ⟨g, i * 3 + 1, none⟩ = some (.int .i64 (q.pl : Int)) ∧ w.cell? ⟨g, i * 3 + 2, none⟩ = some q.pv
theorem SpOwn.rd {w : World} {base : Nat} {v : Value} {L : List SpM} (h : SpOwn w base v L) (hl : L.length ≤ 4194304) : SpRd w v L := by
  obtain ⟨a, c, rfl⟩ := h.form
  refine ⟨a, c, rfl, hl, fun i q hq => ?_⟩
  obtain ⟨g, cap, e, _, h2, _, h3⟩ := h.cellsAt hq
  injection e with e _ _
  exact ⟨g, e, h2, h3⟩
theorem SpRd.keep {w w' : World} {v : Value} {L : List SpM} (h : SpRd w v L) (hk : Kept w w') : SpRd w' v L := by
  obtain ⟨a, c, h1, h2, h3⟩ := h
  refine ⟨a, c, h1, h2, fun i q hq => ?_⟩
  obtain ⟨g, e, hg, g1, g2, g3⟩ := h3 i q hq
  exact ⟨g, e, Nat.lt_of_lt_of_le hg hk.size, grown_cell hk g1, grown_cell hk g2, grown_cell hk g3⟩
theorem GK.kept {w w' : World} (h : GK none w w') : Kept w w' := ⟨h.1, h.2.1, h.2.2.1, h.2.2.2.1, fun k hk => h.2.2.2.2 k hk (by simp)⟩
section
set_option linter.unusedSimpArgs false
set_option maxRecDepth 100000
theorem walkT_is {R : Nat → Prop} {X : Nat → Rd} {wd : Nat → Nat} {B : Nat} (d : Nat) (w : World) (hF : RFor R X wd B w) (hd : R d) (hB : B ≤ w.heap.size) (hz : (X d).size ≤ 4194304) (hw : wd d ≤ 2305843009213693952) :
    Calls Try.prog 51 #[.pointer (some ⟨d, 0, none⟩)] w fun e w' => ∃ v L, e = .returned v ∧ SpOwn w' w.heap.size v L ∧ L.map keyS = wk X wd (szK X [(d, 0, [])]) [(d, 0, [])] ∧ (∀ s ∈ L, PathRd w' s.pv s.path) ∧ Kept w w' := by
  have HC := hide1 (walkR_is (R := R) (X := X) (wd := wd) w.heap.size hB (X d).size d 0 [] (.slice none 0 0) (.slice none 0 0) [] w hF hd (Nat.le_refl _) (World.ownsRow_nil _ _ _ _) (Nat.le_refl _) (PathRd.nil w) (by simpa using hz) (by simpa using hz) (by omega))
  clear hF hd hB hz hw
  go_enter Try.func51, Try.ntmps51
  go_wp2_with (go_at_call 65; refine HC.out.mono ?_; rintro e w1 ⟨v1, rfl, h1⟩; have H1 := hide1 h1; clear h1)
  go_ret
  obtain ⟨L, h1, h2, h3, h4, h5⟩ := H1.out
  exact ⟨v1, L, rfl, h1, h2, h3, h4.kept⟩
end
/-- What is wanted of a walk: these nodes, at these places. -/
def Wants (P Q : List Nat) (X : Nat → Rd) (L : List SpM) (xs : List (Nat × Nat)) : Prop := L.map (fun s => (s.pl, btw P X s.d)) = xs ∧ ∀ s ∈ L, s.d ∈ Q
theorem Wants.at {P Q : List Nat} {X : Nat → Rd} {L : List SpM} {xs : List (Nat × Nat)} (h : Wants P Q X L xs) {k : Nat} {x : Nat × Nat} (hk : xs[k]? = some x) : ∃ s, L[k]? = some s ∧ s.pl = x.1 ∧ btw P X s.d = x.2 ∧ s.d ∈ Q := by
  rw [← h.1, List.getElem?_map] at hk
  obtain ⟨s, hs, e⟩ := Option.map_eq_some_iff.1 hk
  rw [← e]
  exact ⟨s, hs, rfl, rfl, h.2 s (List.mem_of_getElem? hs)⟩
theorem Wants.len {P Q : List Nat} {X : Nat → Rd} {L : List SpM} {xs : List (Nat × Nat)} (h : Wants P Q X L xs) : xs.length = L.length := by rw [← h.1, List.length_map]

end Tr
end Ex
end Go.Proofs.Ythpampfbmpdmoaa
