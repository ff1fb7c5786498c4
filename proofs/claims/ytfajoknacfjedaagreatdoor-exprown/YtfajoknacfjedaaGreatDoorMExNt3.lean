import Derived.Test.YtfajoknacfjedaaGreatDoorMExNt2
import Derived.Test.YtfajoknacfjedaaGreatDoorMExLy2
namespace Go.Proofs.YtfajoknacfjedaaGreatDoor
open Go.RowKit
attribute [local go_sem] Oper.semAt_some
namespace Ex

theorem thin_arg {w w7 : World} {o2 : Obj} {x0 x1 x2 x3 x4 x5 : Value} (h : Kept ((w.alloc (.cells #[x0, x1, x2, x3, x4, x5] 24)).alloc o2) w7) : BoxAt w7 w.heap.size x0 x1 x2 x3 x4 x5 := by
  have h1 : BoxAt ((w.alloc (.cells #[x0, x1, x2, x3, x4, x5] 24)).alloc o2) w.heap.size x0 x1 x2 x3 x4 x5 := by
    unfold BoxAt
    rw [heap_alloc_old _ _ (by simp)]
    exact heap_alloc_new w _
  exact h1.keep h

set_option linter.unusedSimpArgs false in
set_option maxRecDepth 100000 in
set_option maxHeartbeats 4000000 in
theorem thin_rep (n : Nat) (p : PatN (n + 1 + 1)) (q : PatN (n + 1)) (t : Pat) (hq : kids p = [q]) (hC : ThinC n q t) (h4 : kind p = 4) : ThinC (n + 1) p (if max_ p = 0 ∨ hollowP t = true then mkP 2 0 0 0 0 [] else mkP 4 0 0 (min_ p) (max_ p) [t]) := by
  intro S vk w hk hS
  have HS := hide1 hS
  have HCQ := hide1 hC
  rw [hq] at hk
  obtain ⟨a2, cap2, e2, hc2, _, h7⟩ := hk
  subst e2
  rw [valOf_eq, h4]
  obtain ⟨mx, hmx⟩ : ∃ x, max_ p = x := ⟨_, rfl⟩
  rw [hmx]
  rcases h7 with h7 | ⟨c, o, rfl, hSc, h7⟩
  · simp at h7
  · obtain ⟨u, g0, g1, g2, g3, g4, g5, g6⟩ := h7 0 q rfl
    obtain ⟨a3, cap3, rfl⟩ := g6.form
    have HG6 := hide1 g6
    simp only [Nat.zero_mul, Nat.add_zero] at g0 g1 g2 g3 g4 g5
    have gc : (1 : Int) ≤ (cap2 : Int) := by have := hc2; simp at this; omega
    have hcw : c < w.heap.size := World.block_lt_of_cell? w ⟨c, o, none⟩ g0
    clear h7 g6 hS hC hc2 h4 hmx hq
    go_enter Tryz.func63, Tryz.ntmps63
    by_cases hm : mx = 0
    · rw [if_pos (Or.inl hm)]
      subst hm
      go_wp2_with fail
      refine (HCQ.out S _ _ (HG6.out.kept (((Kept.refl _).alloc _ _).alloc _ _)) (fun d hd => by have := HS.out d hd; simp; omega)).mono ?_
      rintro r w7 ⟨⟨v7, rfl, u7, rfl, hkk⟩, hk7⟩
      rw [valOf_eq]
      obtain ⟨a7, c7, e7⟩ := hkk.form
      subst e7
      have HBZ := hide1 (thin_box hk7)
      have HBE := hide1 (thin_arg hk7)
      have HK7 := hide1 (gtrans (((Kept.refl w).alloc _ _).alloc _ _) hk7)
      have HKI := hide1 (KidsAt.mono (S' := fun d => S d ∨ w.heap.size + 2 ≤ d) (fun _ _ _ _ h => h) (fun d h => by rcases h with h | h; exact Or.inl h; (have h2 := h; simp at h2; exact Or.inr (by omega))) _ _ _ hkk)
      obtain ⟨⟨p0, p1, p2, p3, p4, p5⟩, x0, x1, x2, x3, x4, x5⟩ := HBZ.out.facts
      obtain ⟨⟨q0, q1, q2, q3, q4, q5⟩, zz⟩ := HBE.out.facts
      clear zz
      have hs7 := HBZ.out.lt
      have hs7b : w.heap.size < w7.heap.size := (by omega)
      clear hkk hk7
      dsimp only
      rename_i K0 hK0 K1 hK1
      refine hK1 _ _ ?_
      clear hK1
      have hK0' := hide1 hK0
      clear hK0
      go_wp2_with fail
      refine hK0'.out _ _ ?_
      clear hK0'
      refine wp_seq_k (fun K2 hK2 => ?_)
      refine wp_seq_k (fun K3 hK3 => ?_)
      have HK2 := hide1 hK2
      have HK3 := hide1 hK3
      clear hK2 hK3
      go_wp2_with fail
      refine HK3.out _ _ ?_
      clear HK3
      generalize hWB : w7.alloc _ = WB
      have hwb0 : ∀ j v, w7.cell? ⟨w.heap.size + 1, j, none⟩ = some v → WB.cell? ⟨w.heap.size + 1, j, none⟩ = some v := fun j v h => by rw [← hWB]; exact grown_cell ((Kept.refl w7).alloc _ _) h
      have P0 := hwb0 _ _ p0
      have P1 := hwb0 _ _ p1
      have P2 := hwb0 _ _ p2
      have P3 := hwb0 _ _ p3
      have P4 := hwb0 _ _ p4
      have P5 := hwb0 _ _ p5
      have HBZ2 : Hid (BoxAt WB (w.heap.size + 1) (.int .i64 0) (.int .i64 0) (.int .i64 0) (.int .i64 0) (.int .i64 0) (.slice none 0 0)) := by rw [← hWB]; exact HBZ.out.keep ((Kept.refl _).alloc _ _)
      have HKB : Hid (Kept w WB) := by rw [← hWB]; exact HK7.out.alloc _ _
      obtain ⟨_, X0, X1, X2, X3, X4, X5⟩ := HBZ2.out.facts
      have hlb := HBZ2.out.lt
      clear hWB hwb0 p0 p1 p2 p3 p4 p5 q0 q1 q2 q3 q4 q5 x0 x1 x2 x3 x4 x5 hs7 hs7b
      go_wp2_with fail
      (try simp only [Exit.inBlock, Exit.then])
      refine bodyPost_ret (box_returns rfl _ _ (w.heap.size + 1) _ _ _ _ _ _ rfl (BoxAt.set HBZ2.out)) rfl ?_
      exact ⟨⟨_, rfl, .slice none 0 0, rfl, kids_nil _ _ _ _ _ _ rfl⟩, kept6 HKB.out (by omega)⟩
    · cases hh : hollowP t with
      | true =>
        have HH := hide1 hh
        rw [if_pos (Or.inr rfl)]
        go_wp2_with (first
          | (go_at_call 63; refine (HCQ.out S _ _ (HG6.out.kept (((Kept.refl _).alloc _ _).alloc _ _)) (fun d hd => by have := HS.out d hd; simp; omega)).mono ?_; rintro r w7 ⟨⟨v7, rfl, u7, rfl, hkk⟩, hk7⟩; rw [valOf_eq]; obtain ⟨a7, c7, e7⟩ := hkk.form; subst e7; have HBZ := hide1 (thin_box hk7); have HBE := hide1 (thin_arg hk7); have HK7 := hide1 (gtrans (((Kept.refl w).alloc _ _).alloc _ _) hk7); have HKI := hide1 (KidsAt.mono (S' := fun d => S d ∨ w.heap.size + 2 ≤ d) (fun _ _ _ _ h => h) (fun d h => by rcases h with h | h; exact Or.inl h; (have h2 := h; simp at h2; exact Or.inr (by omega))) _ _ _ hkk); obtain ⟨⟨p0, p1, p2, p3, p4, p5⟩, x0, x1, x2, x3, x4, x5⟩ := HBZ.out.facts; obtain ⟨⟨q0, q1, q2, q3, q4, q5⟩, zz⟩ := HBE.out.facts; clear zz; have hs7 := HBZ.out.lt; have hs7b : w.heap.size < w7.heap.size := (by omega); clear hkk hk7)
          | (go_at_call 83; refine (hollow_is t _ _ _).mono ?_; rintro e w8 ⟨rfl, hk8⟩; rw [HH.out]; have HK8 := hide1 (gtrans ((Kept.refl w7).alloc _ _) hk8); have HBZ := hide1 (HBZ.out.keep HK8.out); have HBE := hide1 (HBE.out.keep HK8.out); have HBP := hide1 ((BoxAt.new w7 _ _ _ _ _ _).keep hk8); have HKI := hide1 (HKI.out.kept HK8.out); obtain ⟨⟨p0, p1, p2, p3, p4, p5⟩, x0, x1, x2, x3, x4, x5⟩ := HBZ.out.facts; obtain ⟨⟨q0, q1, q2, q3, q4, q5⟩, zz⟩ := HBE.out.facts; clear zz; obtain ⟨⟨r0, r1, r2, r3, r4, r5⟩, zz⟩ := HBP.out.facts; clear zz; have hs8 := HBZ.out.lt; have hs8b : w.heap.size < w8.heap.size := (by omega); clear hk8))
        (try simp only [Exit.inBlock, Exit.then])
        refine bodyPost_ret (box_returns rfl _ _ (w.heap.size + 1) _ _ _ _ _ _ rfl (BoxAt.set HBZ.out)) rfl ?_
        exact ⟨⟨_, rfl, .slice none 0 0, rfl, kids_nil _ _ _ _ _ _ rfl⟩, kept6 (gtrans HK7.out HK8.out) (by omega)⟩
      | false =>
        have HH := hide1 hh
        rw [if_neg (by simp [hm])]
        go_wp2_with (first
          | (go_at_call 63; refine (HCQ.out S _ _ (HG6.out.kept (((Kept.refl _).alloc _ _).alloc _ _)) (fun d hd => by have := HS.out d hd; simp; omega)).mono ?_; rintro r w7 ⟨⟨v7, rfl, u7, rfl, hkk⟩, hk7⟩; rw [valOf_eq]; obtain ⟨a7, c7, e7⟩ := hkk.form; subst e7; have HBZ := hide1 (thin_box hk7); have HBE := hide1 (thin_arg hk7); have HK7 := hide1 (gtrans (((Kept.refl w).alloc _ _).alloc _ _) hk7); have HKI := hide1 (KidsAt.mono (S' := fun d => S d ∨ w.heap.size + 2 ≤ d) (fun _ _ _ _ h => h) (fun d h => by rcases h with h | h; exact Or.inl h; (have h2 := h; simp at h2; exact Or.inr (by omega))) _ _ _ hkk); obtain ⟨⟨p0, p1, p2, p3, p4, p5⟩, x0, x1, x2, x3, x4, x5⟩ := HBZ.out.facts; obtain ⟨⟨q0, q1, q2, q3, q4, q5⟩, zz⟩ := HBE.out.facts; clear zz; have hs7 := HBZ.out.lt; have hs7b : w.heap.size < w7.heap.size := (by omega); clear hkk hk7)
          | (go_at_call 70; refine (repeat_is (fun d => S d ∨ w.heap.size + 2 ≤ d) t _ _ _ _ ⟨_, rfl, HKI.out⟩ (fun b hb => Or.inr (by omega))).mono ?_; rintro r w9 ⟨⟨v9, rfl, u9, rfl, hkk⟩, hk9⟩; rw [valOf_mkP]; obtain ⟨a9, c9, e9⟩ := hkk.form; subst e9; have HBZ := hide1 (HBZ.out.keep hk9); have HK9 := hide1 hk9; have HKI9 := hide1 hkk; obtain ⟨⟨p0, p1, p2, p3, p4, p5⟩, x0, x1, x2, x3, x4, x5⟩ := HBZ.out.facts; clear hkk hk9)
          | (go_at_call 83; refine (hollow_is t _ _ _).mono ?_; rintro e w8 ⟨rfl, hk8⟩; rw [HH.out]; have HK8 := hide1 (gtrans ((Kept.refl w7).alloc _ _) hk8); have HBZ := hide1 (HBZ.out.keep HK8.out); have HBE := hide1 (HBE.out.keep HK8.out); have HBP := hide1 ((BoxAt.new w7 _ _ _ _ _ _).keep hk8); have HKI := hide1 (HKI.out.kept HK8.out); obtain ⟨⟨p0, p1, p2, p3, p4, p5⟩, x0, x1, x2, x3, x4, x5⟩ := HBZ.out.facts; obtain ⟨⟨q0, q1, q2, q3, q4, q5⟩, zz⟩ := HBE.out.facts; clear zz; obtain ⟨⟨r0, r1, r2, r3, r4, r5⟩, zz⟩ := HBP.out.facts; clear zz; have hs8 := HBZ.out.lt; have hs8b : w.heap.size < w8.heap.size := (by omega); clear hk8))
        (try simp only [Exit.inBlock, Exit.then])
        refine bodyPost_ret (box_returns rfl _ _ (w.heap.size + 1) _ _ _ _ _ _ rfl (BoxAt.set HBZ.out)) rfl ?_
        exact ⟨thin_one (p := mkP 4 0 0 (min_ p) mx [t]) HKI9.out HS.out, kept6 (gtrans (gtrans HK7.out HK8.out) HK9.out) (by omega)⟩

end Ex
end Go.Proofs.YtfajoknacfjedaaGreatDoor
namespace Go.Proofs.YtfajoknacfjedaaGreatDoor
open Go.RowKit
namespace Ex

/-- A pattern that can be made lean: a repetition has one part. -/
def WellP : (n : Nat) → PatN n → Prop
  | 0, _ => True
  | n + 1, p => (kind p = 4 → (kids p).length = 1) ∧ (kids p).length ≤ 100000 ∧ ∀ q ∈ kids p, WellP n q
theorem thinG_len : ∀ (l : List Pat) (k : Int), (thinG l k).length ≤ l.length
  | [], _ => Nat.le_refl _
  | p :: l, k => by
    rw [thinG]
    split
    · split
      · exact Nat.le_trans (thinG_len l _) (Nat.le_succ _)
      · exact Nat.succ_le_succ (thinG_len l _)
    · exact Nat.succ_le_succ (thinG_len l _)
theorem thin_is : ∀ (n : Nat) (p : PatN (n + 1)), WellP (n + 1) p → ThinC n p (thinW n p)
  | 0, p, h => by
    have h4 : kind p ≠ 4 := fun e => by have := h.1 e; rw [none_of (kids p)] at this; simp at this
    refine thin_flat 0 p (fun _ => []) ?_ (fun _ => Nat.zero_le _) h4 _ (fun e => ?_) (fun e => ?_) (fun e1 e2 => ?_)
    · intro S vk k w hk hS h0 h1
      have hk2 := KidsAt.fit 0 1 (by omega) (kids p) vk hk
      have := thinParts_is S 0 [] vk k w hk2 hS (fun q hq => by cases hq) h0 h1 (by simp)
      simpa [thinG] using this
    · unfold thinW; rw [if_pos e]
    · unfold thinW; rw [if_neg (by omega), if_pos e]
    · unfold thinW; rw [if_neg e1, if_neg e2]; exact if_neg h4
  | n + 1, p, h => by
    by_cases h4 : kind p = 4
    · obtain ⟨q, hq⟩ : ∃ q, kids p = [q] := List.length_eq_one_iff.1 (h.1 h4)
      have hC := thin_is n q (h.2.2 q (by rw [hq]; exact List.mem_singleton_self q))
      have hr := thin_rep n p q (thinW n q) hq hC h4
      have e : thinW (n + 1) p = if max_ p = 0 ∨ hollowP (thinW n q) = true then mkP 2 0 0 0 0 [] else mkP 4 0 0 (min_ p) (max_ p) [thinW n q] := by
        rw [thinW, if_neg (by omega), if_neg (by omega)]
        refine (if_pos h4).trans ?_
        rw [hq]
        rfl
      rw [e]
      exact hr
    · refine thin_flat (n + 1) p (fun k => thinG ((kids p).map (thinW n)) k) ?_ (fun k => ?_) h4 _ (fun e => ?_) (fun e => ?_) (fun e1 e2 => ?_)
      · intro S vk k w hk hS h0 h1
        exact thinParts_is S n (kids p) vk k w hk hS (fun q hq => thin_is n q (h.2.2 q hq)) h0 h1 h.2.1
      · have := thinG_len ((kids p).map (thinW n)) k
        rw [List.length_map] at this
        have := h.2.1
        omega
      · rw [thinW, if_pos e]
      · rw [thinW, if_neg (by omega), if_pos e]
      · rw [thinW, if_neg e1, if_neg e2]; exact if_neg h4

end Ex
end Go.Proofs.YtfajoknacfjedaaGreatDoor
namespace Go.Proofs.YtfajoknacfjedaaGreatDoor
open Go.RowKit
attribute [local go_sem] Oper.semAt_some
namespace Ex

/-- A net's takers and forks. -/
abbrev St : Type := List (Int × Int × Nat) × List (Nat × Nat)
/-- What lay does with a pattern. -/
def LayC (n : Nat) (q : PatN (n + 1)) (L : Nat → St → Nat × St) : Prop :=
  ∀ (X : Nat → Prop) (nb next : Nat) (st : St) (vk : Value) (w : World), NetL X w nb st.1 st.2 → KidsAt X w n (kids q) vk → (∀ d, X d → d < w.heap.size ∧ d ≠ nb) → (L next st).2.1.length ≤ 300000 → (L next st).2.2.length ≤ 300000 →
    Calls Tryz.prog 62 #[.pointer (some ⟨nb, 0, none⟩), valOf q vk, .int .i64 (next : Int)] w fun e w' => e = .returned (.int .i64 ((L next st).1 : Int)) ∧ NetL X w' nb (L next st).2.1 (L next st).2.2 ∧ XKept X w w'
def GrowsL (L : Nat → St → Nat × St) : Prop := ∀ next st, st.1.length ≤ (L next st).2.1.length ∧ st.2.length ≤ (L next st).2.2.length
/-- So many copies, the last first. -/
def copiesL (L : Nat → St → Nat × St) : Nat → Nat → St → Nat × St
  | 0, next, st => (next, st)
  | m + 1, next, st => copiesL L m (L next st).1 (L next st).2
theorem copies_grows {L : Nat → St → Nat × St} (hG : GrowsL L) : ∀ m, GrowsL (copiesL L m)
  | 0, _, _ => ⟨Nat.le_refl _, Nat.le_refl _⟩
  | m + 1, next, st => by
    have h1 := hG next st
    have h2 := copies_grows hG m (L next st).1 (L next st).2
    exact ⟨Nat.le_trans h1.1 h2.1, Nat.le_trans h1.2 h2.2⟩
theorem NetL.box {X : Nat → Prop} {w : World} {nb : Nat} {ts : List (Int × Int × Nat)} {fs : List (Nat × Nat)} (h : NetL X w nb ts fs) (c : Array Value) (t : TypeId) : NetL (fun d => X d ∨ d = w.heap.size) (w.alloc (.cells c t)) nb ts fs :=
  (h.keep ((Kept.refl w).alloc c t)).sub (fun d hd => by rcases hd with hd | hd; exact .inl hd; exact .inr (by simp; omega))
theorem NetL.lt {X : Nat → Prop} {w : World} {nb : Nat} {ts : List (Int × Int × Nat)} {fs : List (Nat × Nat)} (h : NetL X w nb ts fs) : nb < w.heap.size := by
  obtain ⟨f0, vt, vf, h1, _⟩ := h
  exact (Array.getElem?_eq_some_iff.1 h1).1
theorem BoxAt.x {X : Nat → Prop} {w w' : World} {g : Nat} {x0 x1 x2 x3 x4 x5 : Value} (h : BoxAt w g x0 x1 x2 x3 x4 x5) (hk : XKept X w w') (hX : X g) : BoxAt w' g x0 x1 x2 x3 x4 x5 := (hk.2.2.2.2 g hX).trans h
/-- The loop of layCopies. -/
def CopR (X : Nat → Prop) (nb : Nat) (L : Nat → St → Nat × St) (count next : Nat) (st : St) (x0 x1 x2 x3 x4 x5 : Value) (w : World) (vn vi : Value) (wr : World) : Prop :=
  ∃ (j nx : Nat) (s : St), vi = .int .i64 (j : Int) ∧ vn = .int .i64 (nx : Int) ∧ j ≤ count ∧ copiesL L count next st = copiesL L (count - j) nx s ∧ NetL (fun d => X d ∨ d = w.heap.size) wr nb s.1 s.2 ∧ XKept (fun d => X d ∨ d = w.heap.size) (w.alloc (.cells #[x0, x1, x2, x3, x4, x5] 24)) wr

set_option linter.unusedSimpArgs false in
set_option maxRecDepth 100000 in
set_option maxHeartbeats 4000000 in
theorem layCopies_is (n : Nat) (q : PatN (n + 1)) (L : Nat → St → Nat × St) (hL : LayC n q L) (hG : GrowsL L) (X : Nat → Prop) (nb count next : Nat) (st : St) (vk : Value) (w : World) (h : NetL X w nb st.1 st.2) (hk : KidsAt X w n (kids q) vk) (hX : ∀ d, X d → d < w.heap.size ∧ d ≠ nb)
    (h1 : (copiesL L count next st).2.1.length ≤ 300000) (h2 : (copiesL L count next st).2.2.length ≤ 300000) (hc : count ≤ 100000) :
    Calls Tryz.prog 98 #[.pointer (some ⟨nb, 0, none⟩), valOf q vk, .int .i64 (count : Int), .int .i64 (next : Int)] w fun e w' => e = .returned (.int .i64 ((copiesL L count next st).1 : Int)) ∧ NetL X w' nb (copiesL L count next st).2.1 (copiesL L count next st).2.2 ∧ XKept X w w' := by
  have HL := hide1 hL
  have HG := hide1 hG
  have HN := hide1 h
  have HK := hide1 hk
  have HX := hide1 hX
  have H1 := hide1 h1
  have H2 := hide1 h2
  have hnb := h.lt
  obtain ⟨ak, ck, rfl⟩ := hk.form
  rw [valOf_eq]
  have hcI : (count : Int) ≤ 100000 := by omega
  clear hL hG h hk hX h1 h2
  go_enter Tryz.func98, Tryz.ntmps98
  go_wp2_with fail
  go_loopw [3, 10] (fun vn vi wr => CopR X nb L count next st (.int .i64 (kind q)) (.int .i64 (from_ q)) (.int .i64 (to_ q)) (.int .i64 (min_ q)) (.int .i64 (max_ q)) (.slice ak (kids q).length ck) w vn vi wr) (fun _ vi _ => count - (intOf vi).toNat)
  case atStart => exact ⟨0, next, st, rfl, rfl, Nat.zero_le _, rfl, HN.out.box _ _, ⟨rfl, rfl, rfl, Nat.le_refl _, fun _ _ => rfl⟩⟩
  case round =>
    obtain ⟨j, nx, s, rfl, rfl, hj, hM, hN, hkx⟩ := hrel
    have HM := hide1 hM
    have HN1 := hide1 hN
    have HKX := hide1 hkx
    have hbx := (BoxAt.new w (.int .i64 (kind q)) (.int .i64 (from_ q)) (.int .i64 (to_ q)) (.int .i64 (min_ q)) (.int .i64 (max_ q)) (.slice ak (kids q).length ck)).x hkx (.inr rfl)
    obtain ⟨⟨q0, q1, q2, q3, q4, q5⟩, zz⟩ := hbx.facts
    have hlw := hbx.lt
    clear zz hbx hM hN hkx
    by_cases hlt : (j : Int) < (count : Int)
    · have HLT : Hid (j < count) := show j < count by omega
      have HM2 : Hid (copiesL L count next st = copiesL L (count - (j + 1)) (L nx s).1 (L nx s).2) := by
        show _ = _
        rw [HM.out, show count - j = count - (j + 1) + 1 by have := HLT.out; omega]
        rfl
      have hb := copies_grows HG.out (count - (j + 1)) (L nx s).1 (L nx s).2
      rw [← HM2.out] at hb
      have HB := hide1 hb
      clear hb
      go_wp2_with (go_at_call 62; refine (HL.out (fun d => X d ∨ d = w.heap.size) nb nx s _ _ HN1.out (KidsAt.mono (w := w) (S := X) (fun d o v hd hcc => HKX.out.cell (.inl hd) (grown_cell ((Kept.refl w).alloc _ _) hcc)) (fun d hd => .inl hd) _ _ _ HK.out) (fun d hd => by rcases hd with hd | hd; (have := HX.out d hd; exact ⟨by omega, this.2⟩); exact ⟨by omega, by omega⟩) (Nat.le_trans HB.out.1 H1.out) (Nat.le_trans HB.out.2 H2.out)).mono ?_; rintro e w7 ⟨rfl, hn7, hk7⟩; have HN7 := hide1 hn7; have HK7 := hide1 hk7; clear hn7 hk7)
      go_roundw
      case rel => exact ⟨j + 1, (L nx s).1, (L nx s).2, by go_num, rfl, HLT.out, HM2.out, HN7.out, HKX.out.trans HK7.out⟩
      case measure => have := HLT.out; simp [intOf]; omega
    · have HE : Hid (copiesL L count next st = (nx, s)) := by
        show _ = _
        rw [HM.out, show count - j = 0 by omega]
        rfl
      go_wp2_with fail
      go_ret
      rw [HE.out]
      refine ⟨rfl, HN1.out.sub (fun d hd => .inl hd), ?_⟩
      have hkx := HKX.out.sub (Y := X) (fun d hd => .inl hd)
      exact (((Kept.refl w).alloc _ _).x (fun d hd => (HX.out d hd).1)).trans hkx

end Ex
end Go.Proofs.YtfajoknacfjedaaGreatDoor
