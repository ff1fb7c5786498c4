import Derived.Test.YthpampfbmpdmoaaTrH5
namespace Go.Proofs.Ythpampfbmpdmoaa
open Go.RowKit
attribute [local go_sem] Oper.semAt_some
namespace Ex
namespace Tr

theorem BufHas.front {w : World} {g : Nat} {l r : List Nat} (h : BufHas w g (l ++ r)) : BufHas w g l := fun i b hb => h i b (by rw [List.getElem?_append_left (List.getElem?_eq_some_iff.1 hb).1]; exact hb)
section
variable {base fb s0 s1 : Nat} {V : Nat → Prop} {P Q : List Nat} {N : Nat → Nd} {X : Nat → Rd} {m0 m1 : Nat} {vP vR vB : Value} {w : World}
theorem fo_make (hM : FoM base fb s0 s1 V P Q N X m0 m1 vP vR vB w) (hT : TwinOk s0 s1 m0 m1 P Q N X) {js : List Nat} (hj : ∀ j ∈ js, j < P.length) {g n cap : Nat} (hB : BufHas w g (js.map (at_ P))) (hn : js.length = n) (hl : n ≤ 1048576) {s m : Nat} (hs : s = s0 ∧ m = m0 ∨ s = s1 ∧ m = m1) (hP : P.length ≤ 1048576) (kd nn : Int) :
    Calls Try.prog 39 #[.pointer (some ⟨s, 0, none⟩), .int .i64 kd, .int .i64 nn, .slice (some ⟨g, 0, none⟩) n cap] w fun e w' => ∃ pv, e = .returned (.tuple #[pv, .int .i64 (mkErr N s kd nn (js.map (at_ P)))]) ∧ MkGave N s m kd nn (js.map (at_ P)) pv w w' := by
  obtain ⟨h1, h2, h3, h4, h5, h6, h7, h8, h9, hV, hN, hX⟩ := hM
  have hmem : ∀ b ∈ js.map (at_ P), ∃ j, j < P.length ∧ at_ P j = b := fun b hb => by
    obtain ⟨j, hj1, rfl⟩ := List.mem_map.1 hb
    exact ⟨j, hj j hj1, rfl⟩
  have hm0 := hT.2.1
  have hm1 := hT.2.2.1
  refine make_any N w.heap.size s m kd nn _ _ w ?_ (hB.ptrs (by rw [List.length_map, hn]) (by omega)) (fun b hb => ?_) (Nat.le_refl _) (fun b hb => ?_) (fun b hb => ?_) (by omega)
  · rcases hs with ⟨rfl, rfl⟩ | ⟨rfl, rfl⟩
    · exact h2
    · exact h3
  · obtain ⟨j, hj1, rfl⟩ := hmem b hb
    exact (hN _ (at_mem hj1)).at (fun k hk => (hV k hk).2.1)
  · obtain ⟨j, hj1, rfl⟩ := hmem b hb
    exact (hT.pair hj1).1
  · obtain ⟨j, hj1, rfl⟩ := hmem b hb
    rcases (hT.pair hj1).st.2.1 with ⟨_, e⟩ | ⟨_, e⟩ <;> rw [e]
    · exact ⟨m0, h2⟩
    · exact ⟨m1, h3⟩
theorem fo_rmake {m0' m1' : Nat} (hM : FoM base fb s0 s1 V P Q N X m0' m1' vP vR vB w) (hT : TwinOk s0 s1 m0 m1 P Q N X) {js : List Nat} (hj : ∀ j ∈ js, j < P.length) {b' : Nat} {v : Value} (hQ : QOwn w b' v (js.map (at_ Q))) (hv0 : js = [] → v = .slice none 0 0) (hl : js.length ≤ 1048576) (st kd nn : Int) :
    Calls Try.prog 40 #[.int .i64 st, .int .i64 kd, .int .i64 nn, v] w fun e w' => ∃ rv, e = .returned (.tuple #[rv, .int .i64 (errR X st kd nn (js.map (at_ Q)))]) ∧ RkGave X st kd nn (js.map (at_ Q)) rv w w' := by
  obtain ⟨h1, h2, h3, h4, h5, h6, h7, h8, h9, hV, hN, hX⟩ := hM
  have hmem : ∀ b ∈ js.map (at_ Q), ∃ j, j < P.length ∧ at_ Q j = b := fun b hb => by
    obtain ⟨j, hj1, rfl⟩ := List.mem_map.1 hb
    exact ⟨j, hj j hj1, rfl⟩
  refine rmake_any X 0 w.heap.size st kd nn _ v w (hQ.kids (by rw [List.length_map]; omega)) (fun h => hv0 (List.map_eq_nil_iff.1 h)) (fun b hb => ?_) (fun b hb => ?_)
  · obtain ⟨j, hj1, rfl⟩ := hmem b hb
    exact (hX _ (at_mem (by rw [← hT.1]; exact hj1))).is (fun k hk => (hV k hk).2.1)
  · obtain ⟨j, hj1, rfl⟩ := hmem b hb
    have h := hT.pair hj1
    rw [← h.2.1]
    exact h.1.2.1
/-- A store that Make has changed, or not. -/
theorem MkGave.keptBut {s m : Nat} {kd n : Int} {ks : List Nat} {pv : Value} {w' : World} (h : MkGave N s m kd n ks pv w w') : KeptBut s w w' := by
  rcases h with ⟨_, _, rfl⟩ | ⟨_, b, _, _, h, _⟩
  · exact (Kept.refl _).tbut s
  · exact h
end

end Tr
end Ex
end Go.Proofs.Ythpampfbmpdmoaa
