import Derived.Test.YteckbpmliahhhaaMTrV1
import Derived.Test.YteckbpmliahhhaaTrRow
namespace Go.Proofs.Yteckbpmliahhhaa
open Go.RowKit
attribute [local go_sem] Oper.semAt_some
namespace Ex
namespace Tr

/-- How many leaves the document's nodes have. -/
def RLf (R : Nat → Prop) (X : Nat → Rd) (lf : Nat → Nat) : Prop := ∀ d, R d → ((X d).kind = 1 → lf d = 1) ∧ ((X d).kind ≠ 1 → lf d = sumF lf (X d).kids) ∧ lf d ≤ (X d).size
/-- Whether they have failed by themselves. -/
def ownF (x : Rd) : Bool := x.kind == 3 || x.kind == 5 || x.kind == 1 && x.n == -1
def RFl (R : Nat → Prop) (X : Nat → Rd) (fl : Nat → Bool) : Prop := ∀ d, R d → fl d = (ownF (X d) || (X d).kids.any fl)
theorem rlf_of {s0 s1 m0 m1 : Nat} {P Q : List Nat} {N : Nat → Nd} {X : Nat → Rd} (hT : TwinOk s0 s1 m0 m1 P Q N X) : RLf (fun d => d ∈ Q) X (fun d => (N (btw P X d)).leafs) ∧ RFl (fun d => d ∈ Q) X (fun d => (N (btw P X d)).failed) := by
  have key : ∀ d, d ∈ Q → ((X d).kind = 1 → (N (btw P X d)).leafs = 1) ∧ ((X d).kind ≠ 1 → (N (btw P X d)).leafs = sumF (fun k => (N (btw P X k)).leafs) (X d).kids) ∧ (N (btw P X d)).failed = (ownF (X d) || (X d).kids.any fun k => (N (btw P X k)).failed) := by
    intro d hd
    obtain ⟨_, _, _, _, _, _, _, _, _, i, hi, hp, hpl⟩ := twin_of hT hd
    have hiP := (List.getElem?_eq_some_iff.1 hp).1
    have hjs : ∀ j, j < P.length → btw P X (at_ Q j) = at_ P j := by
      intro j hj
      unfold btw
      rw [(hT.pair hj).st.1]
      rfl
    obtain ⟨_, _, st, s, m, _, hh⟩ := hT.2.2.2.1 i _ d hp hi
    rcases hh with ⟨l0, l1, l2, l3, e1, e2⟩ | ⟨kd, n, js, hm, hj, e1, e2⟩
    · rw [e1, e2]
      refine ⟨fun _ => rfl, fun h => absurd rfl h, ?_⟩
      simp [leafN, ownF, rplace, leafR]
    · have ek : (X d).kids = js.map (at_ Q) := by rw [e2]; rfl
      have hmap : ∀ {β : Type} (f : Nat → β), (js.map (at_ Q)).map (fun k => f (btw P X k)) = (js.map (at_ P)).map f := by
        intro β f
        rw [List.map_map, List.map_map]
        refine List.map_congr_left (fun j hj' => ?_)
        simp only [Function.comp_apply]
        rw [hjs j (Nat.lt_trans (hj j hj') hiP)]
      have hkd : (X d).kind = kd := by rw [e2]; rfl
      have hc := may_cases hm
      refine ⟨fun h => by rw [hkd] at h; omega, fun _ => ?_, ?_⟩
      · rw [ek, e1]
        show leafS N (js.map (at_ P)) = _
        unfold leafS sumF
        rw [hmap (fun b => (N b).leafs)]
      · rw [ek, e1]
        show failS N (kd == 3 || kd == 5) (js.map (at_ P)) = _
        have hn1 : (kd == 1) = false := by simp; omega
        have ho : ownF (X d) = (kd == 3 || kd == 5) := by
          unfold ownF
          rw [hkd, hn1]
          simp
        rw [ho]
        unfold failS
        congr 1
        have h9 := congrArg (fun l => List.any l id) (hmap (fun b => (N b).failed))
        simp only [List.any_map] at h9
        simp only [List.any_map]
        simpa [Function.comp_def] using h9.symm
  refine ⟨fun d hd => ⟨(key d hd).1, (key d hd).2.1, ?_⟩, fun d hd => (key d hd).2.2⟩
  obtain ⟨_, _, _, hs, hok, _⟩ := twin_of hT hd
  rw [← hs]
  exact hok.2.2.2
end Tr
end Ex
end Go.Proofs.Yteckbpmliahhhaa
namespace Go.Proofs.Yteckbpmliahhhaa
open Go.RowKit
attribute [local go_sem] Oper.semAt_some
namespace Ex
namespace Tr

theorem but4 (g : Nat) (w : World) (x0 x1 x2 x3 : Value) : KeptBut g w ((((w.setCell ⟨g, 0, none⟩ x0).setCell ⟨g, 1, none⟩ x1).setCell ⟨g, 2, none⟩ x2).setCell ⟨g, 3, none⟩ x3) :=
  (((setCell_but _ _ _ _).trans (setCell_but _ _ _ _)).trans (setCell_but _ _ _ _)).trans (setCell_but _ _ _ _)
theorem set4 {w : World} {g : Nat} {y0 y1 y2 y3 : Value} {t : TypeId} (h : w.heap[g]? = some (.cells #[y0, y1, y2, y3] t (0, 0))) (x0 x1 x2 x3 : Value) : ((((w.setCell ⟨g, 0, none⟩ x0).setCell ⟨g, 1, none⟩ x1).setCell ⟨g, 2, none⟩ x2).setCell ⟨g, 3, none⟩ x3).heap[g]? = some (.cells #[x0, x1, x2, x3] t (0, 0)) := by
  have hl := (Array.getElem?_eq_some_iff.1 h).1
  have he := Option.some.inj ((Array.getElem?_eq_getElem hl).symm.trans h)
  simp [World.setCell, Array.getElem_modify, hl, he]
section
variable {B b : Nat} {w : World} {x : Nd}
set_option linter.unusedSimpArgs false
set_option maxRecDepth 100000
theorem kindK_is (h : NodeAt B w b x) : Calls Try.prog 22 #[.pointer (some ⟨b, 0, none⟩)] w fun e w' => e = .returned (.int .i64 x.kind) ∧ w' = w := by
  obtain ⟨kv, _, _, _, c1, c2, _, _, _, _, _, _, c9, _⟩ := h.cells
  clear h
  go_enter Try.func22, Try.ntmps22
  go_wp2_with fail
  go_ret
  exact ⟨rfl, rfl⟩
theorem nK_is (h : NodeAt B w b x) : Calls Try.prog 23 #[.pointer (some ⟨b, 0, none⟩)] w fun e w' => e = .returned (.int .i64 x.n) ∧ w' = w := by
  obtain ⟨kv, _, _, _, c1, c2, c3, _⟩ := h.cells
  clear h
  go_enter Try.func23, Try.ntmps23
  go_wp2_with fail
  go_ret
  exact ⟨rfl, rfl⟩
theorem kidK_in (h : NodeAt B w b x) {k : Nat} {q : Nat × Nat} (hk : x.kids[k]? = some q) : Calls Try.prog 25 #[.pointer (some ⟨b, 0, none⟩), .int .i64 (k : Int)] w fun e w' => e = .returned (.tuple #[.pointer (some ⟨q.1, 0, none⟩), .bool true]) ∧ w' = w := by
  obtain ⟨kv, ⟨a, cap, rfl, hl1, hl2, hc⟩, _, _, _, _, _, _, _, _, _, c8, _⟩ := h.cells
  clear h
  rcases hc with hc | ⟨g, rfl, _, hc⟩
  · rw [hc] at hk
    simp at hk
  · obtain ⟨t0, t1⟩ := hc k q hk
    have hlt := (List.getElem?_eq_some_iff.1 hk).1
    have hkI : (k : Int) < (x.kids.length : Int) := by omega
    clear hc hk
    go_enter Try.func25, Try.ntmps25
    go_wp2_with fail
    go_ret2
    exact ⟨rfl, rfl⟩
theorem kidK_out (h : NodeAt B w b x) (k : Int) (hk : k < 0 ∨ (x.kids.length : Int) ≤ k) : Calls Try.prog 25 #[.pointer (some ⟨b, 0, none⟩), .int .i64 k] w fun e w' => e = .returned (.tuple #[.pointer none, .bool false]) ∧ w' = w := by
  obtain ⟨kv, ⟨a, cap, rfl, hl1, hl2, hc⟩, _, _, _, _, _, _, _, _, _, c8, _⟩ := h.cells
  clear h hc
  go_enter Try.func25, Try.ntmps25
  by_cases h0 : k < 0
  · go_wp2_with fail
    go_ret2
    exact ⟨rfl, rfl⟩
  · have h1 : (x.kids.length : Int) ≤ k := by omega
    clear hk
    go_wp2_with fail
    go_ret2
    exact ⟨rfl, rfl⟩
end
end Tr
end Ex
end Go.Proofs.Yteckbpmliahhhaa
