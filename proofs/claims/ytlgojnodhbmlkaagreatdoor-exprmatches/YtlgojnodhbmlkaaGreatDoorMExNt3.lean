import Derived.Test.YtlgojnodhbmlkaaGreatDoorMExNt1
namespace Go.Proofs.YtlgojnodhbmlkaaGreatDoor
open Go.RowKit
attribute [local go_sem] Oper.semAt_some
namespace Ex

theorem thin_arg {w w7 : World} {o2 : Obj} {x0 x1 x2 x3 x4 x5 : Value} (h : Kept ((w.alloc (.cells #[x0, x1, x2, x3, x4, x5] 24)).alloc o2) w7) : BoxAt w7 w.heap.size x0 x1 x2 x3 x4 x5 := by
  have h1 : BoxAt ((w.alloc (.cells #[x0, x1, x2, x3, x4, x5] 24)).alloc o2) w.heap.size x0 x1 x2 x3 x4 x5 := by
    unfold BoxAt
    rw [heap_alloc_old _ _ (by simp)]
    exact heap_alloc_new w _
  exact h1.keep h

set_option linter.unusedSimpArgs false in
set_option maxRecDepth 100000 in
set_option maxHeartbeats 4000000 in
theorem thin_rep (n : Nat) (p : PatN (n + 1 + 1)) (q : PatN (n + 1)) (t : Pat) (hq : kids p = [q]) (hC : ThinC n q t) (h4 : kind p = 4) : ThinC (n + 1) p (if max_ p = 0 ∨ hollowP t = true then mkP 2 0 0 0 0 [] else mkP 4 0 0 (min_ p) (max_ p) [t]) := by
  intro S vk w hk hS
  have HS := hide1 hS
  have HCQ := hide1 hC
  rw [hq] at hk
  obtain ⟨a2, cap2, e2, hc2, _, h7⟩ := hk
  subst e2
  rw [valOf_eq, h4]
  obtain ⟨mx, hmx⟩ : ∃ x, max_ p = x := ⟨_, rfl⟩
  rw [hmx]
  rcases h7 with h7 | ⟨c, o, rfl, hSc, h7⟩
  · simp at h7
  · obtain ⟨u, g0, g1, g2, g3, g4, g5, g6⟩ := h7 0 q rfl
    obtain ⟨a3, cap3, rfl⟩ := g6.form
    have HG6 := hide1 g6
    simp only [Nat.zero_mul, Nat.add_zero] at g0 g1 g2 g3 g4 g5
    have gc : (1 : Int) ≤ (cap2 : Int) := by have := hc2; simp at this; omega
    have hcw : c < w.heap.size := World.block_lt_of_cell? w ⟨c, o, none⟩ g0
    clear h7 g6 hS hC hc2 h4 hmx hq
    go_enter Tryz.func39, Tryz.ntmps39
    by_cases hm : mx = 0
    · rw [if_pos (Or.inl hm)]
      subst hm
      go_wp2_with fail
      refine (HCQ.out S _ _ (HG6.out.kept (((Kept.refl _).alloc _ _).alloc _ _)) (fun d hd => by have := HS.out d hd; simp; omega)).mono ?_
      rintro r w7 ⟨⟨v7, rfl, u7, rfl, hkk⟩, hk7⟩
      rw [valOf_eq]
      obtain ⟨a7, c7, e7⟩ := hkk.form
      subst e7
      have HBZ := hide1 (thin_box hk7)
      have HBE := hide1 (thin_arg hk7)
      have HK7 := hide1 (gtrans (((Kept.refl w).alloc _ _).alloc _ _) hk7)
      have HKI := hide1 (KidsAt.mono (S' := fun d => S d ∨ w.heap.size + 2 ≤ d) (fun _ _ _ _ h => h) (fun d h => by rcases h with h | h; exact Or.inl h; (have h2 := h; simp at h2; exact Or.inr (by omega))) _ _ _ hkk)
      obtain ⟨⟨p0, p1, p2, p3, p4, p5⟩, x0, x1, x2, x3, x4, x5⟩ := HBZ.out.facts
      obtain ⟨⟨q0, q1, q2, q3, q4, q5⟩, zz⟩ := HBE.out.facts
      clear zz
      have hs7 := HBZ.out.lt
      have hs7b : w.heap.size < w7.heap.size := (by omega)
      clear hkk hk7
      dsimp only
      rename_i K0 hK0 K1 hK1
      refine hK1 _ _ ?_
      clear hK1
      have hK0' := hide1 hK0
      clear hK0
      go_wp2_with fail
      refine hK0'.out _ _ ?_
      clear hK0'
      refine wp_seq_k (fun K2 hK2 => ?_)
      refine wp_seq_k (fun K3 hK3 => ?_)
      have HK2 := hide1 hK2
      have HK3 := hide1 hK3
      clear hK2 hK3
      go_wp2_with fail
      refine HK3.out _ _ ?_
      clear HK3
      generalize hWB : w7.alloc _ = WB
      have hwb0 : ∀ j v, w7.cell? ⟨w.heap.size + 1, j, none⟩ = some v → WB.cell? ⟨w.heap.size + 1, j, none⟩ = some v := fun j v h => by rw [← hWB]; exact grown_cell ((Kept.refl w7).alloc _ _) h
      have P0 := hwb0 _ _ p0
      have P1 := hwb0 _ _ p1
      have P2 := hwb0 _ _ p2
      have P3 := hwb0 _ _ p3
      have P4 := hwb0 _ _ p4
      have P5 := hwb0 _ _ p5
      have HBZ2 : Hid (BoxAt WB (w.heap.size + 1) (.int .i64 0) (.int .i64 0) (.int .i64 0) (.int .i64 0) (.int .i64 0) (.slice none 0 0)) := by rw [← hWB]; exact HBZ.out.keep ((Kept.refl _).alloc _ _)
      have HKB : Hid (Kept w WB) := by rw [← hWB]; exact HK7.out.alloc _ _
      obtain ⟨_, X0, X1, X2, X3, X4, X5⟩ := HBZ2.out.facts
      have hlb := HBZ2.out.lt
      clear hWB hwb0 p0 p1 p2 p3 p4 p5 q0 q1 q2 q3 q4 q5 x0 x1 x2 x3 x4 x5 hs7 hs7b
      go_wp2_with fail
      (try simp only [Exit.inBlock, Exit.then])
      refine bodyPost_ret (box_returns rfl _ _ (w.heap.size + 1) _ _ _ _ _ _ rfl (BoxAt.set HBZ2.out)) rfl ?_
      exact ⟨⟨_, rfl, .slice none 0 0, rfl, kids_nil _ _ _ _ _ _ rfl⟩, kept6 HKB.out (by omega)⟩
    · cases hh : hollowP t with
      | true =>
        have HH := hide1 hh
        rw [if_pos (Or.inr rfl)]
        go_wp2_with (first
          | (go_at_call 39; refine (HCQ.out S _ _ (HG6.out.kept (((Kept.refl _).alloc _ _).alloc _ _)) (fun d hd => by have := HS.out d hd; simp; omega)).mono ?_; rintro r w7 ⟨⟨v7, rfl, u7, rfl, hkk⟩, hk7⟩; rw [valOf_eq]; obtain ⟨a7, c7, e7⟩ := hkk.form; subst e7; have HBZ := hide1 (thin_box hk7); have HBE := hide1 (thin_arg hk7); have HK7 := hide1 (gtrans (((Kept.refl w).alloc _ _).alloc _ _) hk7); have HKI := hide1 (KidsAt.mono (S' := fun d => S d ∨ w.heap.size + 2 ≤ d) (fun _ _ _ _ h => h) (fun d h => by rcases h with h | h; exact Or.inl h; (have h2 := h; simp at h2; exact Or.inr (by omega))) _ _ _ hkk); obtain ⟨⟨p0, p1, p2, p3, p4, p5⟩, x0, x1, x2, x3, x4, x5⟩ := HBZ.out.facts; obtain ⟨⟨q0, q1, q2, q3, q4, q5⟩, zz⟩ := HBE.out.facts; clear zz; have hs7 := HBZ.out.lt; have hs7b : w.heap.size < w7.heap.size := (by omega); clear hkk hk7)
          | (go_at_call 62; refine (hollow_is t _ _ _).mono ?_; rintro e w8 ⟨rfl, hk8⟩; rw [HH.out]; have HK8 := hide1 (gtrans ((Kept.refl w7).alloc _ _) hk8); have HBZ := hide1 (HBZ.out.keep HK8.out); have HBE := hide1 (HBE.out.keep HK8.out); have HBP := hide1 ((BoxAt.new w7 _ _ _ _ _ _).keep hk8); have HKI := hide1 (HKI.out.kept HK8.out); obtain ⟨⟨p0, p1, p2, p3, p4, p5⟩, x0, x1, x2, x3, x4, x5⟩ := HBZ.out.facts; obtain ⟨⟨q0, q1, q2, q3, q4, q5⟩, zz⟩ := HBE.out.facts; clear zz; obtain ⟨⟨r0, r1, r2, r3, r4, r5⟩, zz⟩ := HBP.out.facts; clear zz; have hs8 := HBZ.out.lt; have hs8b : w.heap.size < w8.heap.size := (by omega); clear hk8))
        (try simp only [Exit.inBlock, Exit.then])
        refine bodyPost_ret (box_returns rfl _ _ (w.heap.size + 1) _ _ _ _ _ _ rfl (BoxAt.set HBZ.out)) rfl ?_
        exact ⟨⟨_, rfl, .slice none 0 0, rfl, kids_nil _ _ _ _ _ _ rfl⟩, kept6 (gtrans HK7.out HK8.out) (by omega)⟩
      | false =>
        have HH := hide1 hh
        rw [if_neg (by simp [hm])]
        go_wp2_with (first
          | (go_at_call 39; refine (HCQ.out S _ _ (HG6.out.kept (((Kept.refl _).alloc _ _).alloc _ _)) (fun d hd => by have := HS.out d hd; simp; omega)).mono ?_; rintro r w7 ⟨⟨v7, rfl, u7, rfl, hkk⟩, hk7⟩; rw [valOf_eq]; obtain ⟨a7, c7, e7⟩ := hkk.form; subst e7; have HBZ := hide1 (thin_box hk7); have HBE := hide1 (thin_arg hk7); have HK7 := hide1 (gtrans (((Kept.refl w).alloc _ _).alloc _ _) hk7); have HKI := hide1 (KidsAt.mono (S' := fun d => S d ∨ w.heap.size + 2 ≤ d) (fun _ _ _ _ h => h) (fun d h => by rcases h with h | h; exact Or.inl h; (have h2 := h; simp at h2; exact Or.inr (by omega))) _ _ _ hkk); obtain ⟨⟨p0, p1, p2, p3, p4, p5⟩, x0, x1, x2, x3, x4, x5⟩ := HBZ.out.facts; obtain ⟨⟨q0, q1, q2, q3, q4, q5⟩, zz⟩ := HBE.out.facts; clear zz; have hs7 := HBZ.out.lt; have hs7b : w.heap.size < w7.heap.size := (by omega); clear hkk hk7)
          | (go_at_call 63; refine (repeat_is (fun d => S d ∨ w.heap.size + 2 ≤ d) t _ _ _ _ ⟨_, rfl, HKI.out⟩ (fun b hb => Or.inr (by omega))).mono ?_; rintro r w9 ⟨⟨v9, rfl, u9, rfl, hkk⟩, hk9⟩; rw [valOf_mkP]; obtain ⟨a9, c9, e9⟩ := hkk.form; subst e9; have HBZ := hide1 (HBZ.out.keep hk9); have HK9 := hide1 hk9; have HKI9 := hide1 hkk; obtain ⟨⟨p0, p1, p2, p3, p4, p5⟩, x0, x1, x2, x3, x4, x5⟩ := HBZ.out.facts; clear hkk hk9)
          | (go_at_call 62; refine (hollow_is t _ _ _).mono ?_; rintro e w8 ⟨rfl, hk8⟩; rw [HH.out]; have HK8 := hide1 (gtrans ((Kept.refl w7).alloc _ _) hk8); have HBZ := hide1 (HBZ.out.keep HK8.out); have HBE := hide1 (HBE.out.keep HK8.out); have HBP := hide1 ((BoxAt.new w7 _ _ _ _ _ _).keep hk8); have HKI := hide1 (HKI.out.kept HK8.out); obtain ⟨⟨p0, p1, p2, p3, p4, p5⟩, x0, x1, x2, x3, x4, x5⟩ := HBZ.out.facts; obtain ⟨⟨q0, q1, q2, q3, q4, q5⟩, zz⟩ := HBE.out.facts; clear zz; obtain ⟨⟨r0, r1, r2, r3, r4, r5⟩, zz⟩ := HBP.out.facts; clear zz; have hs8 := HBZ.out.lt; have hs8b : w.heap.size < w8.heap.size := (by omega); clear hk8))
        (try simp only [Exit.inBlock, Exit.then])
        refine bodyPost_ret (box_returns rfl _ _ (w.heap.size + 1) _ _ _ _ _ _ rfl (BoxAt.set HBZ.out)) rfl ?_
        exact ⟨thin_one (p := mkP 4 0 0 (min_ p) mx [t]) HKI9.out HS.out, kept6 (gtrans (gtrans HK7.out HK8.out) HK9.out) (by omega)⟩

end Ex
end Go.Proofs.YtlgojnodhbmlkaaGreatDoor
namespace Go.Proofs.YtlgojnodhbmlkaaGreatDoor
open Go.RowKit
namespace Ex

/-- A pattern that can be made lean: a repetition has one part. -/
def WellP : (n : Nat) → PatN n → Prop
  | 0, _ => True
  | n + 1, p => (kind p = 4 → (kids p).length = 1) ∧ (kids p).length ≤ 100000 ∧ ∀ q ∈ kids p, WellP n q
theorem thinG_len : ∀ (l : List Pat) (k : Int), (thinG l k).length ≤ l.length
  | [], _ => Nat.le_refl _
  | p :: l, k => by
    rw [thinG]
    split
    · split
      · exact Nat.le_trans (thinG_len l _) (Nat.le_succ _)
      · exact Nat.succ_le_succ (thinG_len l _)
    · exact Nat.succ_le_succ (thinG_len l _)
theorem thin_is : ∀ (n : Nat) (p : PatN (n + 1)), WellP (n + 1) p → ThinC n p (thinW n p)
  | 0, p, h => by
    have h4 : kind p ≠ 4 := fun e => by have := h.1 e; rw [none_of (kids p)] at this; simp at this
    refine thin_flat 0 p (fun _ => []) ?_ (fun _ => Nat.zero_le _) h4 _ (fun e => ?_) (fun e => ?_) (fun e1 e2 => ?_)
    · intro S vk k w hk hS h0 h1
      have hk2 := KidsAt.fit 0 1 (by omega) (kids p) vk hk
      have := thinParts_is S 0 [] vk k w hk2 hS (fun q hq => by cases hq) h0 h1 (by simp)
      simpa [thinG] using this
    · unfold thinW; rw [if_pos e]
    · unfold thinW; rw [if_neg (by omega), if_pos e]
    · unfold thinW; rw [if_neg e1, if_neg e2]; exact if_neg h4
  | n + 1, p, h => by
    by_cases h4 : kind p = 4
    · obtain ⟨q, hq⟩ : ∃ q, kids p = [q] := List.length_eq_one_iff.1 (h.1 h4)
      have hC := thin_is n q (h.2.2 q (by rw [hq]; exact List.mem_singleton_self q))
      have hr := thin_rep n p q (thinW n q) hq hC h4
      have e : thinW (n + 1) p = if max_ p = 0 ∨ hollowP (thinW n q) = true then mkP 2 0 0 0 0 [] else mkP 4 0 0 (min_ p) (max_ p) [thinW n q] := by
        rw [thinW, if_neg (by omega), if_neg (by omega)]
        refine (if_pos h4).trans ?_
        rw [hq]
        rfl
      rw [e]
      exact hr
    · refine thin_flat (n + 1) p (fun k => thinG ((kids p).map (thinW n)) k) ?_ (fun k => ?_) h4 _ (fun e => ?_) (fun e => ?_) (fun e1 e2 => ?_)
      · intro S vk k w hk hS h0 h1
        exact thinParts_is S n (kids p) vk k w hk hS (fun q hq => thin_is n q (h.2.2 q hq)) h0 h1 h.2.1
      · have := thinG_len ((kids p).map (thinW n)) k
        rw [List.length_map] at this
        have := h.2.1
        omega
      · rw [thinW, if_pos e]
      · rw [thinW, if_neg (by omega), if_pos e]
      · rw [thinW, if_neg e1, if_neg e2]; exact if_neg h4

end Ex
end Go.Proofs.YtlgojnodhbmlkaaGreatDoor
