import Derived.Test.YthjagnnbhpfpoaaRopePart
import Derived.Test.YthjagnnbhpfpoaaRopeLend
namespace Go.Proofs.Ythjagnnbhpfpoaa
open Go.RowKit
namespace Rope

theorem RopeAt.form {S : Nat → Prop} {w : World} {r : Value} {xs : List Int} (h : RopeAt S w r xs) : ∃ b, r = .pointer (some ⟨b, 0, none⟩) := by
  obtain ⟨b, _, rfl, _⟩ := h; exact ⟨b, rfl⟩
theorem Own.list {w : World} {base : Nat} {v : Value} {bs : List Int} (h : Own w base v bs) (hby : Byt bs) : ListAt (fun b => base ≤ b) w v bs := by
  by_cases hb : bs = []
  · subst hb
    rcases h.2 with ⟨rfl, _⟩ | ⟨g, cap, cur, rfl, _⟩
    · exact .inl ⟨rfl, _, _, rfl⟩
    · exact .inl ⟨rfl, _, _, rfl⟩
  · exact .inr (h.slice hb hby)

set_option maxRecDepth 100000 in
set_option maxHeartbeats 2000000 in
theorem Bytes_any (S : Nat → Prop) (r : Value) (xs : List Int) (w : World) (h : RopeAt S w r xs) :
    Calls Try.prog 31 #[r] w fun e w' => ∃ g cap, e = .returned (.slice (some ⟨g, 0, none⟩) xs.length cap) ∧ Kept w w' ∧ w.heap.size ≤ g ∧ Own w' w.heap.size (.slice (some ⟨g, 0, none⟩) xs.length cap) xs := by
  obtain ⟨b, rfl⟩ := h.form
  have HE := hide1 h
  clear h
  go_enter Try.func31, Try.ntmps31
  go_wp2_with (first
    | (go_at_call 16; go_must (refine (len_any S _ xs _ HE.out).mono ?_; rintro e w1 ⟨rfl, hk1⟩))
    | (go_at_call 47; go_must (refine (Part_in S _ xs 0 xs.length _ (HE.out.kept hk1) (Nat.zero_le _) (Nat.le_refl _)).mono ?_; rintro e w2 ⟨g, cap, rfl, hk2, hg2, how2⟩; have how3 := hide1 how2; clear how2)))
  go_ret
  have h3 := how3.out
  rw [show span xs ((0 : Nat) : Int) xs.length = xs from span_all, Nat.sub_zero] at h3
  have := hk1.size
  exact ⟨g, cap, rfl, gtrans hk1 hk2, by omega, h3.low (by omega)⟩

end Rope
end Go.Proofs.Ythjagnnbhpfpoaa
