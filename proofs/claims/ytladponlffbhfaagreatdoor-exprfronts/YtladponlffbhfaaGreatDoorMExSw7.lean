import Derived.Test.YtladponlffbhfaaGreatDoorMExSw5
namespace Go.Proofs.YtladponlffbhfaaGreatDoor
open Go.RowKit
attribute [local go_sem] Oper.semAt_some
namespace Ex

theorem less_str {xs ys : List Int} (hx : ∀ z ∈ xs, IsB z) (hy : ∀ z ∈ ys, IsB z) : Op.bytesLess (strOf xs).toList (strOf ys).toList = lessI xs ys := by
  rw [Lib.toList_data, Lib.toList_data, strOf_list, strOf_list, less_u8 xs ys hx hy]
def shortTop {n : Nat} (p : PatN (n + 1)) : List Int := if checkP p = 0 then shortA (n + 1) p else []
theorem check_pos {n : Nat} {p : PatN (n + 1)} (h : checkP p = 0) : posP (n + 1) p ≤ 4096 := by
  unfold checkP at h
  split at h
  · split at h
    · split at h
      · cases h
      · omega
    · cases h
  · exact absurd h (by assumption)
set_option linter.unusedSimpArgs false in
set_option maxRecDepth 100000 in
set_option maxHeartbeats 4000000 in
theorem Shortest_is (S : Nat → Prop) (n : Nat) (p : PatN (n + 1)) (v : Value) (w : World) (h : KidsAt S w n (kids p) v) (hS : ∀ b, S b → b < w.heap.size) :
    Calls Tryz.prog 7 #[valOf p v] w fun e w' => (∃ vr, e = .returned (.tuple #[vr, .int .i64 (checkP p)]) ∧ RowIn w' w.heap.size vr (shortTop p)) ∧ Kept w w' := by
  have HK := hide1 h
  have HS := hide1 hS
  obtain ⟨a, cap, rfl⟩ := h.form
  obtain ⟨b0, b1, b2, b3, b4, b5⟩ := box_at w (.int .i64 (kind p)) (.int .i64 (from_ p)) (.int .i64 (to_ p)) (.int .i64 (min_ p)) (.int .i64 (max_ p)) (.slice a (kids p).length cap) 24
  have HB := hide1 (And.intro b0 (And.intro b1 (And.intro b2 (And.intro b3 (And.intro b4 b5)))))
  clear b0 b1 b2 b3 b4 b5
  rw [valOf_eq]
  have HE : Hid (shortTop p = if checkP p = 0 then shortA (n + 1) p else []) := rfl
  obtain ⟨ck, hck⟩ : ∃ ck, checkP p = ck := ⟨_, rfl⟩
  have HC := hide1 hck
  rw [hck] at HE ⊢
  go_enter Tryz.func7, Tryz.ntmps7
  by_cases hc : ck = 0
  · have HSC := hide1 (short_is n p (check_right (hck.trans hc)) (check_pos (hck.trans hc)))
    have ec : (ck != 0) = false := by simpa using hc
    rw [if_pos hc] at HE
    have HZ := hide1 hc
    clear hc hck h hS
    go_wp2_with (first
      | (go_at_call 15; refine (Check_is S n p _ _ (HK.out.kept ((Kept.refl w).alloc _ _)) (fun b hb => Nat.lt_of_lt_of_le (HS.out b hb) ((Kept.refl w).alloc _ _).size)).mono ?_; rintro e w6 ⟨rfl, hk6⟩; rw [HC.out]; have HK6 := hide1 (gtrans ((Kept.refl w).alloc _ _) hk6); have d0 := grown_cell hk6 HB.out.1; have d1 := grown_cell hk6 HB.out.2.1; have d2 := grown_cell hk6 HB.out.2.2.1; have d3 := grown_cell hk6 HB.out.2.2.2.1; have d4 := grown_cell hk6 HB.out.2.2.2.2.1; have d5 := grown_cell hk6 HB.out.2.2.2.2.2; clear hk6)
      | (go_at_call 16; refine (HSC.out S _ _ (HK.out.kept HK6.out)).mono ?_; rintro e w7 ⟨⟨v7, rfl, hr7⟩, hk7⟩; have HK7 := hide1 (gtrans HK6.out hk7); have HR7 := hide1 (hr7.low (b' := w.heap.size) HK6.out.size); clear hk7 hr7))
    go_ret2
    exact ⟨⟨_, by rw [HZ.out]; rfl, by rw [HE.out]; exact HR7.out⟩, HK7.out⟩
  · have ec : (ck != 0) = true := by simpa using hc
    rw [if_neg hc] at HE
    clear hc hck h hS
    go_wp2_with (go_at_call 15; refine (Check_is S n p _ _ (HK.out.kept ((Kept.refl w).alloc _ _)) (fun b hb => Nat.lt_of_lt_of_le (HS.out b hb) ((Kept.refl w).alloc _ _).size)).mono ?_; rintro e w6 ⟨rfl, hk6⟩; rw [HC.out]; have HK6 := hide1 (gtrans ((Kept.refl w).alloc _ _) hk6); clear hk6)
    go_ret2
    exact ⟨⟨_, rfl, by rw [HE.out]; exact RowIn.nil _ _ _ _⟩, HK6.out⟩

end Ex
end Go.Proofs.YtladponlffbhfaaGreatDoor
