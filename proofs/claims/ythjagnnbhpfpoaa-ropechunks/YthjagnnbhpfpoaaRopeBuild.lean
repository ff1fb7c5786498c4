import Derived.Test.YthjagnnbhpfpoaaRopeJoin
namespace Go.Proofs.Ythjagnnbhpfpoaa
open Go.RowKit
namespace Rope

set_option maxHeartbeats 400000 in
theorem build_none (a : Option Addr) (cap : Nat) (w : World) : Calls Try.prog 32 #[.slice a 0 cap] w fun e w' => e = .returned (.pointer none) ∧ w' = w := by
  go_enter Try.func32, Try.ntmps32
  go_wp2
  go_ret
  exact ⟨rfl, rfl⟩

set_option maxRecDepth 100000 in
set_option maxHeartbeats 2000000 in
theorem build_one (S S' : Nat → Prop) (c o cap : Nat) (bs : List Int) (w : World) (hS : Open S w) (hv : SliceAt S' w (.slice (some ⟨c, o, none⟩) bs.length cap) bs) (h0 : 0 < bs.length) (h1 : bs.length ≤ 1024) :
    Calls Try.prog 32 #[.slice (some ⟨c, o, none⟩) bs.length cap] w fun e w' => ∃ d h, e = .returned (at_ d) ∧ Kept w w' ∧ IsPart S w' d h bs := by
  have hz : ((bs.length : Int) == 0) = false := by simp; intro h; rw [h] at h0; simp at h0
  have hne : bs ≠ [] := List.length_pos_iff.1 h0
  go_enter Try.func32, Try.ntmps32
  go_wp2_with (go_at_call 51; go_must (refine (onePiece_leaf S _ bs _ hS S' hv hne (by omega)).mono ?_; rintro e w1 ⟨d, rfl, hk, hp⟩))
  go_ret
  exact ⟨d, 0, rfl, hk, hp⟩

def BuildUpto (S S' : Nat → Prop) (n : Nat) : Prop :=
  ∀ (v : Value) (bs : List Int) (w : World), SliceAt S' w v bs → bs.length < n → bs ≠ [] → bs.length ≤ 50000000 → Open S w →
    Calls Try.prog 32 #[v] w fun e w' => ∃ d h, e = .returned (at_ d) ∧ Kept w w' ∧ IsPart S w' d h bs

set_option maxRecDepth 100000 in
set_option maxHeartbeats 4000000 in
theorem build_two (S S' : Nat → Prop) (n c o cap H : Nat) (bs : List Int) (w : World) (ih : BuildUpto S S' n) (hS : Open S w) (hv : SliceAt S' w (.slice (some ⟨c, o, none⟩) bs.length cap) bs)
    (h1 : 1024 < bs.length) (h2 : bs.length ≤ n) (hn : bs.length ≤ 50000000) (hH : ((bs.length : Int) + 1024 - 1) / 1024 / 2 * 1024 = (H : Int)) (H0 : 0 < H) (H1 : H < bs.length) :
    Calls Try.prog 32 #[.slice (some ⟨c, o, none⟩) bs.length cap] w fun e w' => ∃ v, e = .returned v ∧ Kept w w' ∧ TreeAt S w' v (bs.take H ++ bs.drop H) := by
  have hz : ((bs.length : Int) == 0) = false := by simp; intro h; rw [h] at h1; simp at h1
  obtain ⟨_, hcap, _, _, _⟩ := hv.parts
  have ht := hv.take H (by omega)
  have hd := hv.drop H (by omega)
  have l1 : (bs.take H).length = H := by simp; omega
  have l2 : (bs.drop H).length = bs.length - H := by simp
  have HL1 : Hid ((bs.take H).length = H) := l1
  have HL2 : Hid ((bs.drop H).length = bs.length - H) := l2
  clear l1 l2
  have g1 : (0 : Int) ≤ (H : Int) := by omega
  have g2 : (H : Int) ≤ (bs.length : Int) := by omega
  have g3 : (bs.length : Int) ≤ (cap : Int) := by omega
  have g4 : (H : Int) ≤ (cap : Int) := by omega
  go_enter Try.func32, Try.ntmps32
  go_wp2_with fail
  go_region_held3 (fun w' => Kept w w') (first | assumption | exact Kept.refl _ | exact gtrans (by assumption) (by assumption))
    ((first | (go_at_call 32; refine (ih _ _ _ (by first | exact ht.mono (Kept.same (by assumption) S') (fun _ h => h) | exact hd.mono (Kept.same (by assumption) S') (fun _ h => h)) (by first | (rw [HL1.out]; omega) | (rw [HL2.out]; omega)) (by apply List.ne_nil_of_length_pos; first | (rw [HL1.out]; omega) | (rw [HL2.out]; omega)) (by first | (rw [HL1.out]; omega) | (rw [HL2.out]; omega)) (hS.grown (by assumption))).mono ?_; rintro e w1 ⟨d1, e1, rfl, hk1, hp1⟩) | (go_at_call 37; refine (join_tree S _ _ (bs.take H) (bs.drop H) _ (hS.grown (by assumption)) (Or.inr ⟨_, _, rfl, by first | assumption | exact IsPart.grown (by assumption) (by assumption)⟩) (Or.inr ⟨_, _, rfl, by first | assumption | exact IsPart.grown (by assumption) (by assumption)⟩) (by rw [HL1.out, HL2.out]; omega)).mono ?_; rintro e w2 ⟨v2, rfl, hk2, hp2⟩)))
  all_goals
    go_wp2
    go_ret
    exact ⟨_, rfl, by assumption, by assumption⟩

theorem build_upto (S S' : Nat → Prop) : ∀ n, BuildUpto S S' n := by
  intro n
  induction n with
  | zero => intro v bs w _ h; omega
  | succ n ih =>
    intro v bs w hv hn hne hb hS
    have hv' := hv
    obtain ⟨c, o, cap, rfl, _⟩ := hv'
    have h0 : 0 < bs.length := List.length_pos_iff.2 hne
    by_cases h1 : bs.length ≤ 1024
    · exact build_one S S' c o cap bs w hS hv h0 h1
    · obtain ⟨H, hH⟩ : ∃ H : Nat, ((bs.length : Int) + 1024 - 1) / 1024 / 2 * 1024 = (H : Int) := ⟨(((bs.length : Int) + 1024 - 1) / 1024 / 2 * 1024).toNat, by omega⟩
      refine (build_two S S' n c o cap H bs w ih hS hv (by omega) (by omega) hb hH (by omega) (by omega)).mono ?_
      rintro e w' ⟨v, rfl, hk, hp⟩
      rw [List.take_append_drop] at hp
      rcases hp with ⟨_, rfl⟩ | ⟨d, h, rfl, hp⟩
      · exact absurd rfl hne
      · exact ⟨d, h, rfl, hk, hp⟩

theorem build_list (S S' : Nat → Prop) (v : Value) (bs : List Int) (w : World) (hv : ListAt S' w v bs) (hb : bs.length ≤ 50000000) (hS : Open S w) :
    Calls Try.prog 32 #[v] w fun e w' => ∃ p, e = .returned p ∧ Kept w w' ∧ TreeAt S w' p bs := by
  by_cases hne : bs = []
  · have hv' : ∃ a cap, v = .slice a 0 cap := by
      rcases hv with ⟨_, h⟩ | ⟨c, o, cap, rfl, _⟩
      · exact h
      · exact ⟨_, _, by rw [hne]; rfl⟩
    obtain ⟨a, cap, rfl⟩ := hv'
    refine (build_none a cap w).mono ?_
    rintro e w' ⟨rfl, rfl⟩
    exact ⟨_, rfl, Kept.refl _, Or.inl ⟨rfl, hne⟩⟩
  · rcases hv with ⟨h, _⟩ | hv
    · exact absurd h hne
    · refine (build_upto S S' (bs.length + 1) v bs w hv (by omega) hne hb hS).mono ?_
      rintro e w' ⟨d, h, rfl, hk, hp⟩
      exact ⟨_, rfl, hk, Or.inr ⟨d, h, rfl, hp⟩⟩
end Rope
end Go.Proofs.Ythjagnnbhpfpoaa
