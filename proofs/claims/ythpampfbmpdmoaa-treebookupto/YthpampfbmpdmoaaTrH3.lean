import Derived.Test.YthpampfbmpdmoaaTrH2
namespace Go.Proofs.Ythpampfbmpdmoaa
open Go.RowKit
attribute [local go_sem] Oper.semAt_some
namespace Ex
namespace Tr

theorem low_bit (st : Int) : bits .and .i64 st 1 = 0 ∨ bits .and .i64 st 1 = 1 := by
  show IntKind.i64.wrap ((BitVec.ofInt 64 st &&& BitVec.ofInt 64 1).toNat : Int) = 0 ∨ IntKind.i64.wrap ((BitVec.ofInt 64 st &&& BitVec.ofInt 64 1).toNat : Int) = 1
  rw [BitVec.toNat_and, show (BitVec.ofInt 64 1).toNat = 1 by decide, Nat.and_one_is_mod]
  rcases Nat.mod_two_eq_zero_or_one (BitVec.ofInt 64 st).toNat with h | h <;> rw [h]
  · exact Or.inl (by rw [IntKind.wrap_i64]; rfl)
  · exact Or.inr (by rw [IntKind.wrap_i64]; rfl)
/-- A forest that n steps have made. -/
def FoI (base fb s0 s1 n : Nat) (w : World) : Prop := ∃ V P Q N X m0 m1 vP vR vB, FoM base fb s0 s1 V P Q N X m0 m1 vP vR vB w ∧ TwinOk s0 s1 m0 m1 P Q N X ∧ P.length ≤ n
section
variable {base fb s0 s1 : Nat} {V : Nat → Prop} {P Q : List Nat} {N : Nat → Nd} {X : Nat → Rd} {m0 m1 : Nat} {vP vR vB : Value} {w w' : World}
/-- A store that has made one more. -/
theorem FoM.but (h : FoM base fb s0 s1 V P Q N X m0 m1 vP vR vB w) {s m0' m1' : Nat} (hk : KeptBut s w w') (hs : s = s0 ∨ s = s1) (g0 : StoreAt w' s0 m0') (g1 : StoreAt w' s1 m1') : FoM base fb s0 s1 V P Q N X m0' m1' vP vR vB w' := by
  obtain ⟨h1, h2, h3, h4, h5, h6, h7, h8, h9, hV, hN, hX⟩ := h
  have hsb : s < base ∧ s ≠ fb := by rcases hs with rfl | rfl <;> omega
  have hx : KX V w w' := ⟨hk.2.2.2.1, fun k hk' => hk.2.2.2.2 k (hV k hk').2.1 (by have := (hV k hk').1; omega)⟩
  refine ⟨(hk.2.2.2.2 fb (Array.getElem?_eq_some_iff.1 h1).1 (Ne.symm hsb.2)).trans h1, g0, g1, owns_same h4 (fun g hg => hk.2.2.2.2 g (ownsRow_lt h4 g hg).2 (by have := (ownsRow_lt h4 g hg).1; omega)), owns_same h5 (fun g hg => hk.2.2.2.2 g (ownsRow_lt h5 g hg).2 (by have := (ownsRow_lt h5 g hg).1; omega)), h6.same (fun g hg => hk.2.2.2.2 g (h6.lt g hg).2 (by have := (h6.lt g hg).1; omega)), ?_, h8, h9, fun k hk' => ?_, fun b hb => (hN b hb).kx hx, fun d hd => (hX d hd).kx hx⟩
  · have := hk.2.2.2.1
    omega
  · obtain ⟨a1, a2, a3⟩ := hV k hk'
    exact ⟨a1, Nat.lt_of_lt_of_le a2 hk.2.2.2.1, a3⟩
/-- What a forest's blocks are below. -/
def Under (fb : Nat) (V : Nat → Prop) (vP vR vB : Value) (hw : Nat) : Prop := fb < hw ∧ (∀ k, V k → k < hw) ∧ (∀ g, vP.ownBlock = some g → g < hw) ∧ (∀ g, vR.ownBlock = some g → g < hw) ∧ ∀ g, vB.ownBlock = some g → g < hw
theorem FoM.under (h : FoM base fb s0 s1 V P Q N X m0 m1 vP vR vB w) : Under fb V vP vR vB w.heap.size := by
  obtain ⟨h1, h2, h3, h4, h5, h6, h7, h8, h9, hV, hN, hX⟩ := h
  exact ⟨(Array.getElem?_eq_some_iff.1 h1).1, fun k hk => (hV k hk).2.1, fun g hg => (ownsRow_lt h4 g hg).2, fun g hg => (ownsRow_lt h5 g hg).2, fun g hg => (h6.lt g hg).2⟩
end
/-- Both nodes of a step are put down. -/
theorem fo_add {base fb s0 s1 A n : Nat} {V : Nat → Prop} {P Q : List Nat} {N : Nat → Nd} {X : Nat → Rd} {m0 m1 m0' m1' : Nat} {vP vR vB : Value} {w : World} {hw a1 a2 a3 a4 b d : Nat} {Y : Nd} {Z : Rd}
    (hM : FoM base fb s0 s1 V P Q N X m0' m1' vP vR vB w) (hT : TwinOk s0 s1 m0 m1 P Q N X) (hU : Under fb V vP vR vB hw) (hbw : base ≤ hw) (o1 : hw ≤ a1) (o2 : a1 ≤ a2) (o3 : a2 ≤ a3) (o4 : a3 ≤ a4) (o5 : a4 ≤ w.heap.size)
    (hb : NodeV (fun k => a1 ≤ k ∧ k < a2) w b Y) (hd : RefV (fun k => a3 ≤ k ∧ k < a4) w d Z) (h0 : m0 ≤ m0') (h1 : m1 ≤ m1') (h2 : m0' ≤ P.length + 1) (h3 : m1' ≤ P.length + 1)
    (hY : NdOk Y) (hs : Y.size = Z.size) (hp : ∃ (st : Int) (s m : Nat), (st = 0 ∧ s = s0 ∧ m = m0 ∧ m < m0' ∨ st = 1 ∧ s = s1 ∧ m = m1 ∧ m < m1') ∧
      ((∃ l0 l1 l2 l3 : Int, Y = leafN s m l0 l1 l2 l3 ∧ Z = leafR st l0 l1 l2 l3) ∨
       (∃ (kd n : Int) (js : List Nat), mayP kd n = true ∧ (∀ j ∈ js, j < P.length) ∧ Y = makeN N s m kd n (js.map (at_ P)) ∧ Z = makeR X st kd n (js.map (at_ Q))))) (hA : A ≤ fb) (hP : P.length ≤ n) (hn : n < 1048576) :
    Calls Try.prog 35 #[.pointer (some ⟨fb, 0, none⟩), .pointer (some ⟨b, 0, none⟩), .pointer (some ⟨d, 0, none⟩)] w fun e w' => e = .returned (.tuple #[]) ∧ FoI base fb s0 s1 (n + 1) w' ∧ KA A w w' ∧ ∀ k, hw ≤ k → k < w.heap.size → k ≠ d → w'.heap[k]? = w.heap[k]? := by
  obtain ⟨u1, u2, u3, u4, u5⟩ := hU
  have hMM := hM
  obtain ⟨f1, f2, f3, f4, f5, f6, f7, f8, f9, hV, hN, hX⟩ := hM
  have hbP : b ∉ P := fun h => by have := u2 b (hN b h).1; have := hb.1; omega
  have hdQ : d ∉ Q := fun h => by have := u2 d (hX d h).1; have := hd.1; omega
  have hdd := hd.1
  have hbb := hb.1
  have hTa := hT.add hbP hdQ h0 h1 h2 h3 hY (Z := rplace Z P.length) hs (by
    obtain ⟨st, s, m, hsm, hh⟩ := hp
    refine ⟨st, s, m, hsm, ?_⟩
    rcases hh with ⟨l0, l1, l2, l3, q1, q2⟩ | ⟨kd, n, js, q0, qj, q1, q2⟩
    · exact Or.inl ⟨l0, l1, l2, l3, q1, by rw [q2]⟩
    · exact Or.inr ⟨kd, n, js, q0, qj, q1, by rw [q2]⟩) f7.2.2.2.1
  refine (fadd_is base fb s0 s1 A V (fun k => V k ∨ (a1 ≤ k ∧ k < a2) ∨ (a3 ≤ k ∧ k < a4)) (fun k => a1 ≤ k ∧ k < a2) (fun k => a3 ≤ k ∧ k < a4) P Q N (fun k => if k = b then Y else N k) X (fun k => if k = d then rplace Z P.length else X k) m0' m1' vP vR vB w hMM b d Z ?_ (fun k hk => Or.inl hk) (fun k hk => Or.inr (Or.inl hk)) (fun k hk => Or.inr (Or.inr hk)) (fun h => by have := u2 d h; omega) (by show ¬ (a1 ≤ d ∧ d < a2); omega) (by rw [if_pos rfl]; exact hb) (fun c hc => if_neg (fun (e : c = b) => hbP (by rw [← e]; exact hc))) hd (fun c hc => if_neg (fun (e : c = d) => hdQ (by rw [← e]; exact hc))) (by rw [if_pos rfl, hT.1]) hA (by rw [← hT.1]; omega) (by omega)).mono ?_
  · rintro k (hk | hk | hk)
    · exact hV k hk
    · exact ⟨by omega, by omega, fun e => by have := u3 k e; omega, fun e => by have := u4 k e; omega, fun e => by have := u5 k e; omega⟩
    · exact ⟨by omega, by omega, fun e => by have := u3 k e; omega, fun e => by have := u4 k e; omega, fun e => by have := u5 k e; omega⟩
  · rintro e w' ⟨he, vP', vR', hF', hka, hC⟩
    refine ⟨he, ⟨_, _, _, _, _, _, _, _, _, _, hF', hTa, by simp; omega⟩, hka, fun k k1 k2 k3 => hC k k2 k3 (by omega) (fun e => by have := u3 k e; omega) (fun e => by have := u4 k e; omega)⟩

end Tr
end Ex
end Go.Proofs.Ythpampfbmpdmoaa
