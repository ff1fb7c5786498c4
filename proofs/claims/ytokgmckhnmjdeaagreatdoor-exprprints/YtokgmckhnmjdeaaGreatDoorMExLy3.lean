import Derived.Test.YtokgmckhnmjdeaaGreatDoorMExLy2
import Derived.Test.YtokgmckhnmjdeaaGreatDoorMExNt3
namespace Go.Proofs.YtokgmckhnmjdeaaGreatDoor
open Go.RowKit
attribute [local go_sem] Oper.semAt_some
namespace Ex

/-- A net's takers and forks. -/
abbrev St : Type := List (Int × Int × Nat) × List (Nat × Nat)
/-- What lay does with a pattern. -/
def LayC (n : Nat) (q : PatN (n + 1)) (L : Nat → St → Nat × St) : Prop :=
  ∀ (X : Nat → Prop) (nb next : Nat) (st : St) (vk : Value) (w : World), NetL X w nb st.1 st.2 → KidsAt X w n (kids q) vk → (∀ d, X d → d < w.heap.size ∧ d ≠ nb) → (L next st).2.1.length ≤ 50000 → (L next st).2.2.length ≤ 50000 →
    Calls Tryz.prog 59 #[.pointer (some ⟨nb, 0, none⟩), valOf q vk, .int .i64 (next : Int)] w fun e w' => e = .returned (.int .i64 ((L next st).1 : Int)) ∧ NetL X w' nb (L next st).2.1 (L next st).2.2 ∧ XKept X w w'
def GrowsL (L : Nat → St → Nat × St) : Prop := ∀ next st, st.1.length ≤ (L next st).2.1.length ∧ st.2.length ≤ (L next st).2.2.length
/-- So many copies, the last first. -/
def copiesL (L : Nat → St → Nat × St) : Nat → Nat → St → Nat × St
  | 0, next, st => (next, st)
  | m + 1, next, st => copiesL L m (L next st).1 (L next st).2
theorem copies_grows {L : Nat → St → Nat × St} (hG : GrowsL L) : ∀ m, GrowsL (copiesL L m)
  | 0, _, _ => ⟨Nat.le_refl _, Nat.le_refl _⟩
  | m + 1, next, st => by
    have h1 := hG next st
    have h2 := copies_grows hG m (L next st).1 (L next st).2
    exact ⟨Nat.le_trans h1.1 h2.1, Nat.le_trans h1.2 h2.2⟩
theorem NetL.box {X : Nat → Prop} {w : World} {nb : Nat} {ts : List (Int × Int × Nat)} {fs : List (Nat × Nat)} (h : NetL X w nb ts fs) (c : Array Value) (t : TypeId) : NetL (fun d => X d ∨ d = w.heap.size) (w.alloc (.cells c t)) nb ts fs :=
  (h.keep ((Kept.refl w).alloc c t)).sub (fun d hd => by rcases hd with hd | hd; exact .inl hd; exact .inr (by simp; omega))
theorem NetL.lt {X : Nat → Prop} {w : World} {nb : Nat} {ts : List (Int × Int × Nat)} {fs : List (Nat × Nat)} (h : NetL X w nb ts fs) : nb < w.heap.size := by
  obtain ⟨f0, vt, vf, h1, _⟩ := h
  exact (Array.getElem?_eq_some_iff.1 h1).1
theorem BoxAt.x {X : Nat → Prop} {w w' : World} {g : Nat} {x0 x1 x2 x3 x4 x5 : Value} (h : BoxAt w g x0 x1 x2 x3 x4 x5) (hk : XKept X w w') (hX : X g) : BoxAt w' g x0 x1 x2 x3 x4 x5 := (hk.2.2.2.2 g hX).trans h
/-- The loop of layCopies. -/
def CopR (X : Nat → Prop) (nb : Nat) (L : Nat → St → Nat × St) (count next : Nat) (st : St) (x0 x1 x2 x3 x4 x5 : Value) (w : World) (vn vi : Value) (wr : World) : Prop :=
  ∃ (j nx : Nat) (s : St), vi = .int .i64 (j : Int) ∧ vn = .int .i64 (nx : Int) ∧ j ≤ count ∧ copiesL L count next st = copiesL L (count - j) nx s ∧ NetL (fun d => X d ∨ d = w.heap.size) wr nb s.1 s.2 ∧ XKept (fun d => X d ∨ d = w.heap.size) (w.alloc (.cells #[x0, x1, x2, x3, x4, x5] 24)) wr

set_option linter.unusedSimpArgs false in
set_option maxRecDepth 100000 in
set_option maxHeartbeats 4000000 in
theorem layCopies_is (n : Nat) (q : PatN (n + 1)) (L : Nat → St → Nat × St) (hL : LayC n q L) (hG : GrowsL L) (X : Nat → Prop) (nb count next : Nat) (st : St) (vk : Value) (w : World) (h : NetL X w nb st.1 st.2) (hk : KidsAt X w n (kids q) vk) (hX : ∀ d, X d → d < w.heap.size ∧ d ≠ nb)
    (h1 : (copiesL L count next st).2.1.length ≤ 50000) (h2 : (copiesL L count next st).2.2.length ≤ 50000) (hc : count ≤ 100000) :
    Calls Tryz.prog 94 #[.pointer (some ⟨nb, 0, none⟩), valOf q vk, .int .i64 (count : Int), .int .i64 (next : Int)] w fun e w' => e = .returned (.int .i64 ((copiesL L count next st).1 : Int)) ∧ NetL X w' nb (copiesL L count next st).2.1 (copiesL L count next st).2.2 ∧ XKept X w w' := by
  have HL := hide1 hL
  have HG := hide1 hG
  have HN := hide1 h
  have HK := hide1 hk
  have HX := hide1 hX
  have H1 := hide1 h1
  have H2 := hide1 h2
  have hnb := h.lt
  obtain ⟨ak, ck, rfl⟩ := hk.form
  rw [valOf_eq]
  have hcI : (count : Int) ≤ 100000 := by omega
  clear hL hG h hk hX h1 h2
  go_enter Tryz.func94, Tryz.ntmps94
  go_wp2_with fail
  go_loopw [3, 10] (fun vn vi wr => CopR X nb L count next st (.int .i64 (kind q)) (.int .i64 (from_ q)) (.int .i64 (to_ q)) (.int .i64 (min_ q)) (.int .i64 (max_ q)) (.slice ak (kids q).length ck) w vn vi wr) (fun _ vi _ => count - (intOf vi).toNat)
  case atStart => exact ⟨0, next, st, rfl, rfl, Nat.zero_le _, rfl, HN.out.box _ _, ⟨rfl, rfl, rfl, Nat.le_refl _, fun _ _ => rfl⟩⟩
  case round =>
    obtain ⟨j, nx, s, rfl, rfl, hj, hM, hN, hkx⟩ := hrel
    have HM := hide1 hM
    have HN1 := hide1 hN
    have HKX := hide1 hkx
    have hbx := (BoxAt.new w (.int .i64 (kind q)) (.int .i64 (from_ q)) (.int .i64 (to_ q)) (.int .i64 (min_ q)) (.int .i64 (max_ q)) (.slice ak (kids q).length ck)).x hkx (.inr rfl)
    obtain ⟨⟨q0, q1, q2, q3, q4, q5⟩, zz⟩ := hbx.facts
    have hlw := hbx.lt
    clear zz hbx hM hN hkx
    by_cases hlt : (j : Int) < (count : Int)
    · have HLT : Hid (j < count) := show j < count by omega
      have HM2 : Hid (copiesL L count next st = copiesL L (count - (j + 1)) (L nx s).1 (L nx s).2) := by
        show _ = _
        rw [HM.out, show count - j = count - (j + 1) + 1 by have := HLT.out; omega]
        rfl
      have hb := copies_grows HG.out (count - (j + 1)) (L nx s).1 (L nx s).2
      rw [← HM2.out] at hb
      have HB := hide1 hb
      clear hb
      go_wp2_with (go_at_call 59; refine (HL.out (fun d => X d ∨ d = w.heap.size) nb nx s _ _ HN1.out (KidsAt.mono (w := w) (S := X) (fun d o v hd hcc => HKX.out.cell (.inl hd) (grown_cell ((Kept.refl w).alloc _ _) hcc)) (fun d hd => .inl hd) _ _ _ HK.out) (fun d hd => by rcases hd with hd | hd; (have := HX.out d hd; exact ⟨by omega, this.2⟩); exact ⟨by omega, by omega⟩) (Nat.le_trans HB.out.1 H1.out) (Nat.le_trans HB.out.2 H2.out)).mono ?_; rintro e w7 ⟨rfl, hn7, hk7⟩; have HN7 := hide1 hn7; have HK7 := hide1 hk7; clear hn7 hk7)
      go_roundw
      case rel => exact ⟨j + 1, (L nx s).1, (L nx s).2, by go_num, rfl, HLT.out, HM2.out, HN7.out, HKX.out.trans HK7.out⟩
      case measure => have := HLT.out; simp [intOf]; omega
    · have HE : Hid (copiesL L count next st = (nx, s)) := by
        show _ = _
        rw [HM.out, show count - j = 0 by omega]
        rfl
      go_wp2_with fail
      go_ret
      rw [HE.out]
      refine ⟨rfl, HN1.out.sub (fun d hd => .inl hd), ?_⟩
      have hkx := HKX.out.sub (Y := X) (fun d hd => .inl hd)
      exact (((Kept.refl w).alloc _ _).x (fun d hd => (HX.out d hd).1)).trans hkx

end Ex
end Go.Proofs.YtokgmckhnmjdeaaGreatDoor
