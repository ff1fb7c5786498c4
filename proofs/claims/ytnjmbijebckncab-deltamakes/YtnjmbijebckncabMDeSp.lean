import Derived.Test.YtnjmbijebckncabMDeGq
import Derived.Test.YtnjmbijebckncabMDeLl
import Derived.Test.YtnjmbijebckncabMDeBd
import Derived.Test.YtnjmbijebckncabMDeGm
namespace Go.Proofs.Ytnjmbijebckncab
open Go.RowKit
attribute [local go_sem] Oper.semAt_some
namespace Ex
namespace Tr

/-- What the document's Script does. -/
def ScC (S : Nat → Prop) (X : Nat → Pn) (rk : Nat → Nat) (F : Int → Bool) (a f b : Nat) : Prop := ∀ w : World, PFor S X rk w → Calls Try.prog 24 #[.pointer (some ⟨a, 0, none⟩), .pointer (some ⟨b, 0, none⟩)] w fun e w' => ∃ v, e = .returned v ∧ LO opE w' w.heap.size v (stpP X F f b) ∧ Kept w w'
theorem lo_op1 (w : World) (x : OpM) : LO opE (w.alloc (.cells #[.int .i64 x.d0, .int .i64 x.d1, .int .i64 x.d2, .int .i64 x.d3, .int .i64 x.d4, .int .i64 x.d5, .int .i64 x.d6, .int .i64 x.d7, .int .i64 x.d8] 60)) w.heap.size (.slice (some ⟨w.heap.size, 0, none⟩) 1 1) [x] :=
  ⟨rfl, Or.inr ⟨w.heap.size, 1, _, rfl, Nat.le_refl _, World.alloc_heap_new w _, Nat.le_refl _, by unfold maxLen; omega, rfl, rfl⟩⟩
set_option linter.unusedSimpArgs false in
set_option maxRecDepth 100000 in
set_option maxHeartbeats 4000000 in
theorem scriptP_step (S : Nat → Prop) (X : Nat → Pn) (rk : Nat → Nat) (a f b : Nat) (F : Int → Bool) (hFd : ∀ id, FdC S X rk id (rk a + 1) a) (hF9 : ∀ y, F y = (fdP X y (rk a + 1) a).isSome) (hb : S b) (hlen : (stpP X F (f + 1) b).length ≤ 4194304) (hkl : (X b).kids.length ≤ 4194304) (ih : ∀ k ∈ (X b).kids, ScC S X rk F a f k) : ScC S X rk F a (f + 1) b := by
  intro w hF
  obtain ⟨va, c, h1, h2, h3⟩ := hF.at_ b hb
  have hkc : ∀ w', Kept w w' → w'.heap[b]? = w.heap[b]? := fun w' hk => hk.2.2.2.2 b (Array.getElem?_eq_some_iff.1 h1).1
  obtain ⟨rs, hrs⟩ : ∃ rs, stpP X F (f + 1) b = rs := ⟨_, rfl⟩
  rw [hrs] at hlen ⊢
  unfold stpP at hrs
  obtain ⟨m, hm⟩ : ∃ m, (X b).kids.length = m := ⟨_, rfl⟩
  rw [hm] at h1 h2 hrs hkl
  obtain ⟨id, hid⟩ : ∃ x, (X b).id = x := ⟨_, rfl⟩
  obtain ⟨kd, hkd2⟩ : ∃ kd, (X b).kind = kd := ⟨_, rfl⟩
  obtain ⟨n, hn2⟩ : ∃ n, (X b).n = n := ⟨_, rfl⟩
  obtain ⟨l0, hl0⟩ : ∃ x, (X b).l0 = x := ⟨_, rfl⟩
  obtain ⟨l1, hl1⟩ : ∃ x, (X b).l1 = x := ⟨_, rfl⟩
  obtain ⟨l2, hl2⟩ : ∃ x, (X b).l2 = x := ⟨_, rfl⟩
  obtain ⟨l3, hl3⟩ : ∃ x, (X b).l3 = x := ⟨_, rfl⟩
  rw [hid, hkd2, hn2, hl0, hl1, hl2, hl3] at h1 hrs
  have HCE : Hid (∀ w', Kept w w' → (w'.cell? ⟨b, 0, none⟩ = some (.int .i64 id) ∧ w'.cell? ⟨b, 1, none⟩ = some (.int .i64 kd) ∧ w'.cell? ⟨b, 2, none⟩ = some (.int .i64 n) ∧ w'.cell? ⟨b, 8, none⟩ = some (.slice va m c)) ∧ w'.cell? ⟨b, 4, none⟩ = some (.int .i64 l0) ∧ w'.cell? ⟨b, 5, none⟩ = some (.int .i64 l1) ∧ w'.cell? ⟨b, 6, none⟩ = some (.int .i64 l2) ∧ w'.cell? ⟨b, 7, none⟩ = some (.int .i64 l3)) := fun w' hk => by
    have h9 := (hkc w' hk).trans h1
    refine ⟨⟨?_, ?_, ?_, ?_⟩, ?_, ?_, ?_, ?_⟩ <;> simp [World.cell?, h9]
  have HKI : Hid (∀ w', Kept w w' → ∀ i, i < m → ∃ k g o, (X b).kids[i]? = some k ∧ va = some ⟨g, o, none⟩ ∧ w'.cell? ⟨g, o + i, none⟩ = some (.pointer (some ⟨k, 0, none⟩))) := fun w' hk i hi => by
    obtain ⟨k, hk2⟩ : ∃ k, (X b).kids[i]? = some k := ⟨_, List.getElem?_eq_getElem (by rw [hm]; exact hi)⟩
    obtain ⟨g, o, e, h4⟩ := h3 i k hk2
    exact ⟨k, g, o, hk2, e, grown_cell hk h4⟩
  obtain ⟨⟨q0, q1, q2, q8⟩, q4, q5, q6, q7⟩ := HCE.out w (Kept.refl w)
  have HFD := hide1 (hFd id w hF)
  have hf9 := hF9 id
  obtain ⟨r, hr⟩ : ∃ r, fdP X id (rk a + 1) a = r := ⟨_, rfl⟩
  rw [hr] at HFD hf9
  have HF := hide1 hF
  have HIH := hide1 ih
  have HM := hide1 hm
  have hcI : (m : Int) ≤ (c : Int) := by omega
  have hmI : (m : Int) ≤ 4194304 := by omega
  clear hF ih hm h1 h2 h3 hkc hkl hid hkd2 hn2 hl0 hl1 hl2 hl3 hr hFd hF9
  cases r with
  | some k =>
    rw [hf9] at hrs
    simp only [Option.isSome_some, if_true] at hrs
    have HR := hide1 hrs
    clear hrs hlen hf9
    go_enter Try.func24, Try.ntmps24
    go_wp2_with (go_at_call 45; refine HFD.out.mono ?_; rintro e w5 ⟨rfl, h9⟩; replace h9 := h9.symm; subst h9; simp only [ptrO, Option.isSome_some])
    go_ret
    refine ⟨_, rfl, ?_, (Kept.refl w).alloc _ _⟩
    rw [← HR.out]
    exact lo_op1 w ⟨1, id, 0, 0, 0, 0, 0, 0, 0⟩
  | none =>
    rw [hf9] at hrs
    simp only [Option.isSome_none, Bool.false_eq_true, if_false] at hrs
    by_cases hk1 : kd = 1
    · subst hk1
      rw [if_pos rfl] at hrs
      have HR := hide1 hrs
      clear hrs hlen hf9
      go_enter Try.func24, Try.ntmps24
      go_wp2_with (go_at_call 45; refine HFD.out.mono ?_; rintro e w5 ⟨rfl, h9⟩; replace h9 := h9.symm; subst h9; simp only [ptrO, Option.isSome_none])
      go_ret
      refine ⟨_, rfl, ?_, (Kept.refl w).alloc _ _⟩
      rw [← HR.out]
      exact lo_op1 w ⟨2, 0, 0, 0, 0, l0, l1, l2, l3⟩
    · rw [if_neg hk1] at hrs
      have eB : (kd == (1 : Int)) = false := by simp; exact hk1
      have HLE : Hid (∀ j, (((X b).kids.take j).flatMap (stpP X F f)).length + 1 ≤ 4194304) := fun j => by
        have h9 := hlen
        rw [← hrs, List.length_append, List.length_singleton] at h9
        have e : (X b).kids.flatMap (stpP X F f) = ((X b).kids.take j).flatMap (stpP X F f) ++ ((X b).kids.drop j).flatMap (stpP X F f) := by rw [← List.flatMap_append, List.take_append_drop]
        rw [e, List.length_append] at h9
        omega
      have HR := hide1 hrs
      clear hrs hlen hf9
      go_enter Try.func24, Try.ntmps24
      go_wp2_with (go_at_call 45; refine HFD.out.mono ?_; rintro e w5 ⟨rfl, h9⟩; replace h9 := h9.symm; subst h9; simp only [ptrO, Option.isSome_none])
      go_loopw [7, 8] (fun v3 v4 wr => ∃ (j L : Nat) (ca : Option Addr) (cc : Nat), v3 = .slice ca L cc ∧ v4 = .int .i64 (j : Int) ∧ j ≤ m ∧ (L : Int) + 1 ≤ 4194304 ∧ Hid ((((X b).kids.take j).flatMap (stpP X F f)).length = L ∧ LO opE wr w.heap.size (.slice ca L cc) (((X b).kids.take j).flatMap (stpP X F f)) ∧ Kept w wr)) (fun _ v4 _ => m - (intOf v4).toNat)
      case atStart => exact ⟨0, 0, none, 0, rfl, rfl, Nat.zero_le _, by omega, rfl, LO.nil _ _, Kept.refl w⟩
      case round =>
        obtain ⟨j, L, ca, cc, rfl, rfl, hj, hL1, hI⟩ := hrel
        clear q0 q1 q2 q8 q4 q5 q6 q7
        obtain ⟨⟨q0, q1, q2, q8⟩, q4, q5, q6, q7⟩ := HCE.out wr hI.out.2.2
        by_cases hjm : j < m
        · obtain ⟨k, g, o, hk, rfl, r0⟩ := HKI.out wr hI.out.2.2 j hjm
          have htk : ((X b).kids.take (j + 1)).flatMap (stpP X F f) = ((X b).kids.take j).flatMap (stpP X F f) ++ stpP X F f k := by
            rw [List.take_add_one, hk, List.flatMap_append]
            simp
          obtain ⟨L5, hL5⟩ : ∃ L5, (stpP X F f k).length = L5 := ⟨_, rfl⟩
          have hLL : (L : Int) + (L5 : Int) + 1 ≤ 4194304 := by
            have h9 := HLE.out (j + 1)
            rw [htk, List.length_append, hI.out.1, hL5] at h9
            omega
          have HTK := hide1 htk
          have HL5 := hide1 hL5
          have HKK : Hid (k ∈ (X b).kids) := List.mem_of_getElem? hk
          have HI := hide1 hI.out
          have hjI : (j : Int) < (m : Int) := by omega
          clear hI htk hL5 hk
          go_wp2_with (first
            | (go_at_call 24; refine (HIH.out k HKK.out wr (HF.out.keep HI.out.2.2)).mono ?_; rintro e w5 ⟨v5, rfl, ho5, hk5⟩; obtain ⟨a5, c5, rfl⟩ := ho5.form; rw [HL5.out] at ho5 ⊢; have HO5 := hide1 ho5; have HK5 := hide1 hk5; clear ho5 hk5)
            | (at_builtin; refine wpl_many (E := opE) rfl _ _ rfl w.heap.size (.slice ca L cc) _ (stpP X F f k) L L5 (L + L5) HI.out.1 HL5.out rfl rfl (HI.out.2.1.keep HK5.out) a5 c5 rfl HO5.out.src (by show (L + L5) * 72 ≤ 140737488355328; omega) (by unfold maxLen; omega) (gtrans HI.out.2.2 HK5.out).size ?_; intro a6 c6 w6 ho6 hg6 hor6; have HO6 := hide1 ho6; have HK6 := hide1 (Kept.lo (gtrans HI.out.2.2 HK5.out) (HI.out.2.1.keep HK5.out) hg6); clear ho6 hg6 hor6))
          exact ⟨⟨j + 1, L + L5, a6, c6, rfl, by simp, by omega, by omega, by rw [HTK.out, List.length_append, HI.out.1, HL5.out], by rw [HTK.out]; exact HO6.out, HK6.out⟩, by simp [intOf] <;> omega⟩
        · obtain rfl : j = m := by omega
          have HI := hide1 hI.out
          have HTK : Hid ((X b).kids.take j = (X b).kids) := List.take_of_length_le (by rw [HM.out]; exact Nat.le_refl _)
          have k1 : ∀ W, Kept w W → W.cell? ⟨b, 1, none⟩ = some (.int .i64 kd) := fun W h => (HCE.out W h).1.2.1
          have k2 : ∀ W, Kept w W → W.cell? ⟨b, 2, none⟩ = some (.int .i64 n) := fun W h => (HCE.out W h).1.2.2.1
          have k8 : ∀ W, Kept w W → W.cell? ⟨b, 8, none⟩ = some (.slice va j c) := fun W h => (HCE.out W h).1.2.2.2
          have hkr : Kept w wr := HI.out.2.2
          have HKA : Hid (∀ X9 : Array Value, Kept wr (wr.alloc (.cells X9 60)).drew) := fun X9 => gtrans ((Kept.refl wr).alloc _ _) (drew_kept _)
          have hjI : ¬ (j : Int) < (j : Int) := by omega
          clear hI
          go_upto_region 12 with fail
          clear q0 q1 q2 q8 q4 q5 q6 q7
          go_region_held3 (fun w' => Kept w w') (first | assumption | exact gtrans hkr (drew_kept _) | exact gtrans hkr (HKA.out _) | exact gtrans hkr ((Kept.refl _).alloc _ _))
            ((refine step_lo (E := opE) rfl _ _ rfl w.heap.size (.slice ca L cc) _ L HI.out.1 rfl (HI.out.2.1.keep (by first | exact HKA.out _ | exact (Kept.refl _).alloc _ _)) wr.heap.size ⟨3, 0, kd, n, (j : Int), 0, 0, 0, 0⟩ rfl (World.alloc_heap_new wr _) (by show (L + 1) * 72 ≤ 140737488355328; omega) (by unfold maxLen; omega) (Nat.le_trans HI.out.2.2.size (Kept.size (by first | exact HKA.out _ | exact (Kept.refl _).alloc _ _))) ?_; intro g9 c9 w9 ho9 hg9 hor9 hl9; have k9 : Kept w w9 := Kept.lo (gtrans HI.out.2.2 (by first | exact HKA.out _ | exact (Kept.refl _).alloc _ _)) (HI.out.2.1.keep (by first | exact HKA.out _ | exact (Kept.refl _).alloc _ _)) hg9; have HO9 := hide1 ho9; clear ho9 hg9 hor9 hl9))
          have HK9 := hide1 k9
          clear k1 k2 k8 k9 hkr
          go_wp2_with fail
          go_ret
          refine ⟨_, rfl, ?_, HK9.out⟩
          have h9 := HO9.out
          rw [HTK.out, HR.out] at h9
          exact h9
theorem scriptP_is (S : Nat → Prop) (X : Nat → Pn) (rk : Nat → Nat) (w0 : World) (hF : PFor S X rk w0) (a : Nat) (F : Int → Bool) (hFd : ∀ id, FdC S X rk id (rk a + 1) a) (hF9 : ∀ y, F y = (fdP X y (rk a + 1) a).isSome) (hlen : ∀ b, S b → (stpP X F (rk b + 1) b).length ≤ 4194304 ∧ (X b).kids.length ≤ 4194304) : ∀ (f b : Nat), S b → rk b < f → ScC S X rk F a f b
  | 0, _, _, h => by omega
  | f + 1, b, hb, h => scriptP_step S X rk a f b F hFd hF9 hb (by rw [stpP_fuel hF F (f + 1) (rk b + 1) b hb h (Nat.lt_succ_self _)]; exact (hlen b hb).1) (hlen b hb).2 (fun k hk => by
      obtain ⟨q1, q2⟩ := hF.kid b hb k hk
      exact scriptP_is S X rk w0 hF a F hFd hF9 hlen f k q1 (by omega))

end Tr
end Ex
end Go.Proofs.Ytnjmbijebckncab
namespace Go.Proofs.Ytnjmbijebckncab
open Go.RowKit
attribute [local go_sem] Oper.semAt_some
namespace Ex
namespace Tr

theorem lo_op {w : World} {base : Nat} {a : Option Addr} {L c : Nat} {ss : List OpM} (h : LO opE w base (.slice a L c) ss) {k : Nat} {x : OpM} (hx : ss[k]? = some x) : ∃ g, a = some ⟨g, 0, none⟩ ∧ (w.cell? ⟨g, k * 9, none⟩ = some (.int .i64 x.d0) ∧ w.cell? ⟨g, k * 9 + 1, none⟩ = some (.int .i64 x.d1) ∧ w.cell? ⟨g, k * 9 + 2, none⟩ = some (.int .i64 x.d2) ∧ w.cell? ⟨g, k * 9 + 3, none⟩ = some (.int .i64 x.d3) ∧ w.cell? ⟨g, k * 9 + 4, none⟩ = some (.int .i64 x.d4)) ∧ w.cell? ⟨g, k * 9 + 5, none⟩ = some (.int .i64 x.d5) ∧ w.cell? ⟨g, k * 9 + 6, none⟩ = some (.int .i64 x.d6) ∧ w.cell? ⟨g, k * 9 + 7, none⟩ = some (.int .i64 x.d7) ∧ w.cell? ⟨g, k * 9 + 8, none⟩ = some (.int .i64 x.d8) := by
  obtain ⟨g, rfl⟩ := h.some (by intro e; rw [e] at hx; simp at hx)
  exact ⟨g, rfl, ⟨h.cell (i := k) (j := 0) hx rfl, h.cell (i := k) (j := 1) hx rfl, h.cell (i := k) (j := 2) hx rfl, h.cell (i := k) (j := 3) hx rfl, h.cell (i := k) (j := 4) hx rfl⟩, h.cell (i := k) (j := 5) hx rfl, h.cell (i := k) (j := 6) hx rfl, h.cell (i := k) (j := 7) hx rfl, h.cell (i := k) (j := 8) hx rfl⟩
set_option linter.unusedSimpArgs false in
set_option maxRecDepth 100000 in
set_option maxHeartbeats 4000000 in
theorem sameOps_is (a1 a2 : Option Addr) (c1 c2 L b1 b2 : Nat) (ss : List OpM) (w : World) (hL : ss.length = L) (hL2 : L ≤ 4194304) (h1 : LO opE w b1 (.slice a1 L c1) ss) (h2 : LO opE w b2 (.slice a2 L c2) ss) :
    Calls Try.prog 19 #[.slice a1 L c1, .slice a2 L c2] w fun e w' => e = .returned (.bool true) ∧ Kept w w' := by
  have HL := hide1 hL
  have H1 := hide1 h1
  have H2 := hide1 h2
  have hLI : (L : Int) ≤ 4194304 := by omega
  have HK0 := hide1 (Kept.refl w)
  clear hL h1 h2
  go_enter Try.func19, Try.ntmps19
  go_wp2_with fail
  go_loopw [5] (fun v5 wr => ∃ k : Nat, k ≤ L ∧ v5 = .int .i64 (k : Int) ∧ Hid (Kept w wr)) (fun v5 _ => L - (intOf v5).toNat)
  case atStart => exact ⟨0, Nat.zero_le _, rfl, HK0⟩
  case round =>
    obtain ⟨k, hk, rfl, HKw⟩ := hrel
    by_cases hkL : k < L
    · obtain ⟨x, hx⟩ : ∃ x, ss[k]? = some x := ⟨_, List.getElem?_eq_getElem (by rw [HL.out]; exact hkL)⟩
      obtain ⟨g1, rfl, ⟨e0, e1, e2, e3, e4⟩, e5, e6, e7, e8⟩ := lo_op (H1.out.keep HKw.out) hx
      obtain ⟨g2, rfl, ⟨d0, d1, d2, d3, d4⟩, d5, d6, d7, d8⟩ := lo_op (H2.out.keep HKw.out) hx
      have hkI : (k : Int) < (L : Int) := by omega
      clear hx
      go_upto_region 6 with fail
      go_quiet (fail)
      have HFIN : Hid (Kept w (wr.drewN nq)) := gtrans HKw.out (drewN_kept _ _)
      clear e0 e1 e2 e3 e4 e5 e6 e7 e8 d0 d1 d2 d3 d4 d5 d6 d7 d8
      go_wp2_with fail
      exact ⟨⟨k + 1, by omega, by simp, HFIN⟩, by simp [intOf] <;> omega⟩
    · have hkI : ¬ (k : Int) < (L : Int) := by omega
      go_wp2_with fail
      go_ret
      exact ⟨rfl, HKw.out⟩

end Tr
end Ex
end Go.Proofs.Ytnjmbijebckncab
namespace Go.Proofs.Ytnjmbijebckncab
open Go.RowKit Go.Maps
attribute [local go_sem] Oper.semAt_some
namespace Ex
namespace Tr

/-- What the region of a leaf's step reads besides the row. -/
def LfS (bb s xb : Nat) (l0 l1 l2 l3 : Int) (X : World) : Prop := X.cell? ⟨bb, 0, none⟩ = some (.pointer (some ⟨s, 0, none⟩)) ∧ X.cell? ⟨xb, 5, none⟩ = some (.int .i64 l0) ∧ X.cell? ⟨xb, 6, none⟩ = some (.int .i64 l1) ∧ X.cell? ⟨xb, 7, none⟩ = some (.int .i64 l2) ∧ X.cell? ⟨xb, 8, none⟩ = some (.int .i64 l3)
theorem LfS.but {bb s xb : Nat} {l0 l1 l2 l3 : Int} {X Y : World} (h : LfS bb s xb l0 l1 l2 l3 X) {d : Nat} (hk : KeptBut d X Y) (h1 : bb ≠ d) (h2 : xb ≠ d) : LfS bb s xb l0 l1 l2 l3 Y := ⟨hk.cell h1 h.1, hk.cell h2 h.2.1, hk.cell h2 h.2.2.1, hk.cell h2 h.2.2.2.1, hk.cell h2 h.2.2.2.2⟩
theorem LfS.keep {bb s xb : Nat} {l0 l1 l2 l3 : Int} {X Y : World} (h : LfS bb s xb l0 l1 l2 l3 X) (hk : Kept X Y) : LfS bb s xb l0 l1 l2 l3 Y := ⟨grown_cell hk h.1, grown_cell hk h.2.1, grown_cell hk h.2.2.1, grown_cell hk h.2.2.2.1, grown_cell hk h.2.2.2.2⟩
theorem LfS.grown {bb s xb : Nat} {l0 l1 l2 l3 : Int} {X Y : World} (h : LfS bb s xb l0 l1 l2 l3 X) {o : Option Nat} (hg : X.grownBy Y o) (hb : bb < X.heap.size) (hx : xb < X.heap.size) (h1 : o ≠ some bb) (h2 : o ≠ some xb) : LfS bb s xb l0 l1 l2 l3 Y := by
  have e1 := hg.block bb hb (fun e => h1 e.symm)
  have e2 := hg.block xb hx (fun e => h2 e.symm)
  exact ⟨(World.cell?_of_block (w := X) (a := ⟨bb, 0, none⟩) e1).trans h.1, (World.cell?_of_block (w := X) (a := ⟨xb, 5, none⟩) e2).trans h.2.1, (World.cell?_of_block (w := X) (a := ⟨xb, 6, none⟩) e2).trans h.2.2.1, (World.cell?_of_block (w := X) (a := ⟨xb, 7, none⟩) e2).trans h.2.2.2.1, (World.cell?_of_block (w := X) (a := ⟨xb, 8, none⟩) e2).trans h.2.2.2.2⟩
set_option linter.unusedSimpArgs false in
set_option maxRecDepth 100000 in
set_option maxHeartbeats 8000000 in
theorem doB_leaf (base bb s mb A : Nat) (V : Nat → Prop) (S : List Nat) (N : Nat → Nd) (m n : Nat) (f : Int → Option Nat) (rv : Value) (row : List Nat) (w : World) (hM : BdM base bb s mb V S N m n f rv row w) (l0 l1 l2 l3 : Int) (hm : m ≤ 4611686018427387904) (hl : row.length ≤ 4194304) (hA : A ≤ bb) (hAs : A ≤ w.heap.size) :
    Calls Try.prog 41 #[.pointer (some ⟨bb, 0, none⟩), .agg #[.int .i64 2, .int .i64 0, .int .i64 0, .int .i64 0, .int .i64 0, .int .i64 l0, .int .i64 l1, .int .i64 l2, .int .i64 l3]] w fun e w' => e = .returned (.int .i64 0) ∧ BdN base bb s mb A S N m n f (leafN s m l0 l1 l2 l3) row w w' := by
  obtain ⟨k, hk⟩ : ∃ k, row.length = k := ⟨_, rfl⟩
  obtain ⟨ra, rc, rfl⟩ : ∃ a c, rv = .slice a k c := by rw [← hk]; exact hM.rl.form
  have HM := hide1 hM
  have HK := hide1 hk
  have hkI : (k : Int) ≤ 4194304 := by omega
  have hmI := hm
  clear hM hk hl
  go_enter Try.func41, Try.ntmps41
  go_upto_region 5 with fail
  obtain ⟨xb, hxb⟩ : ∃ xb, w.heap.size = xb := ⟨_, rfl⟩
  obtain ⟨wx, hwx⟩ : ∃ wx, w.alloc (.cells #[.int .i64 2, .int .i64 0, .int .i64 0, .int .i64 0, .int .i64 0, .int .i64 l0, .int .i64 l1, .int .i64 l2, .int .i64 l3] 60) = wx := ⟨_, rfl⟩
  have hkX : Kept w wx := by rw [← hwx]; exact (Kept.refl w).alloc _ _
  have hXB : wx.heap[xb]? = some (.cells #[.int .i64 2, .int .i64 0, .int .i64 0, .int .i64 0, .int .i64 0, .int .i64 l0, .int .i64 l1, .int .i64 l2, .int .i64 l3] 60 (0, 0)) := by rw [← hwx, ← hxb]; exact World.alloc_heap_new w _
  have HMX := hide1 (HM.out.keep hkX)
  have hlo := HM.out.lo
  have hbX := HMX.out.box
  have hbs : bb ≠ s := by omega
  have hxs : xb ≠ s := by omega
  have hxl : xb < wx.heap.size := (Array.getElem?_eq_some_iff.1 hXB).1
  have hbl : bb < wx.heap.size := (Array.getElem?_eq_some_iff.1 hbX).1
  have hbxb : bb ≠ xb := by omega
  have hS : LfS bb s xb l0 l1 l2 l3 wx := by
    refine ⟨?_, ?_, ?_, ?_, ?_⟩
    · simp [World.cell?, hbX]
    all_goals simp [World.cell?, hXB]
  have HS := hide1 hS
  have HKX := hide1 hkX
  have HXW : Hid (w.heap.size = xb ∧ base ≤ xb) := ⟨hxb, by omega⟩
  rw [hwx, hxb]
  clear hwx hxb hkX hXB hbX hS hlo
  have q2 : wx.cell? ⟨bb, 2, none⟩ = some (.slice ra k rc) := by simp [World.cell?, HMX.out.box]
  refine wp_region_held_drew (S := fun X => LfS bb s xb l0 l1 l2 l3 X) (by kernel_rfl) HS.out (fun hHeld => ?_)
  refine wpAnyH_take (i := 0) (v := .pointer (some ⟨bb, 0, none⟩)) rfl (by kernel_rfl) (by kernel_rfl) (by kernel_rfl) (fun _ _ _ h => h) (Or.inl ⟨by rfl, fun w' hSw => ?_⟩) (by with_reducible assumption) ?_
  · clear hSw
    go_simp
  try simp only [Act.put, List.setIfInBounds_toArray, List.set_cons_zero, List.set_cons_succ]
  refine wpAnyH_take (i := 1) (v := .pointer (some ⟨bb, 0, none⟩)) rfl (by kernel_rfl) (by kernel_rfl) (by kernel_rfl) (fun _ _ _ h => h) (Or.inl ⟨by rfl, fun w' hSw => ?_⟩) (by with_reducible assumption) ?_
  · clear hSw
    go_simp
  try simp only [Act.put, List.setIfInBounds_toArray, List.set_cons_zero, List.set_cons_succ]
  refine wpAnyH_take (i := 2) (v := .pointer (some ⟨bb, 0, none⟩)) rfl (by kernel_rfl) (by kernel_rfl) (by kernel_rfl) (fun _ _ _ h => h) (Or.inl ⟨by rfl, fun w' hSw => ?_⟩) (by with_reducible assumption) ?_
  · clear hSw
    go_simp
  try simp only [Act.put, List.setIfInBounds_toArray, List.set_cons_zero, List.set_cons_succ]
  refine wpAnyH_take (i := 3) (v := .pointer (some ⟨bb, 2, none⟩)) rfl (by kernel_rfl) (by kernel_rfl) (by kernel_rfl) (fun _ _ _ h => h) (Or.inl ⟨by rfl, fun w' hSw => ?_⟩) (by with_reducible assumption) ?_
  · clear hSw
    go_simp
  try simp only [Act.put, List.setIfInBounds_toArray, List.set_cons_zero, List.set_cons_succ]
  refine wpAnyH_take (i := 5) (v := .pointer (some ⟨bb, 0, none⟩)) rfl (by kernel_rfl) (by kernel_rfl) (by kernel_rfl) (fun _ _ _ h => h) (Or.inl ⟨by rfl, fun w' hSw => ?_⟩) (by with_reducible assumption) ?_
  · clear hSw
    go_simp
  try simp only [Act.put, List.setIfInBounds_toArray, List.set_cons_zero, List.set_cons_succ]
  refine wpAnyH_take (i := 6) (v := .pointer (some ⟨bb, 0, none⟩)) rfl (by kernel_rfl) (by kernel_rfl) (by kernel_rfl) (fun _ _ _ h => h) (Or.inl ⟨by rfl, fun w' hSw => ?_⟩) (by with_reducible assumption) ?_
  · clear hSw
    go_simp
  try simp only [Act.put, List.setIfInBounds_toArray, List.set_cons_zero, List.set_cons_succ]
  refine wpAnyH_take (i := 7) (v := .pointer (some ⟨bb, 0, none⟩)) rfl (by kernel_rfl) (by kernel_rfl) (by kernel_rfl) (fun _ _ _ h => h) (Or.inl ⟨by rfl, fun w' hSw => ?_⟩) (by with_reducible assumption) ?_
  · clear hSw
    go_simp
  try simp only [Act.put, List.setIfInBounds_toArray, List.set_cons_zero, List.set_cons_succ]
  refine wpAnyH_take (i := 8) (v := .pointer (some ⟨s, 0, none⟩)) rfl (by kernel_rfl) (by kernel_rfl) (by kernel_rfl) (fun _ _ _ h => h) (Or.inl ⟨by rfl, fun w' hSw => ?_⟩) (by with_reducible assumption) ?_
  · obtain ⟨t0, _⟩ := hSw
    go_simp
  try simp only [Act.put, List.setIfInBounds_toArray, List.set_cons_zero, List.set_cons_succ]
  refine wpAnyH_take (i := 9) (v := .pointer (some ⟨xb, 5, none⟩)) rfl (by kernel_rfl) (by kernel_rfl) (by kernel_rfl) (fun _ _ _ h => h) (Or.inl ⟨by rfl, fun w' hSw => ?_⟩) (by with_reducible assumption) ?_
  · clear hSw
    go_simp
  try simp only [Act.put, List.setIfInBounds_toArray, List.set_cons_zero, List.set_cons_succ]
  refine wpAnyH_take (i := 10) (v := .agg #[.int .i64 l0, .int .i64 l1, .int .i64 l2, .int .i64 l3]) rfl (by kernel_rfl) (by kernel_rfl) (by kernel_rfl) (fun _ _ _ h => h) (Or.inl ⟨by rfl, fun w' hSw => ?_⟩) (by with_reducible assumption) ?_
  · obtain ⟨_, t5, t6, t7, t8⟩ := hSw
    go_simp
  try simp only [Act.put, List.setIfInBounds_toArray, List.set_cons_zero, List.set_cons_succ]
  refine wpAnyH_ready (rs := [4, 11]) (by kernel_rfl) (by simp) ?_
  refine AllReadyH.cons (i := 4) rfl (fun K hK => ?_) (AllReadyH.cons (i := 11) rfl (fun K hK => ?_) AllReadyH.nil)
  · go_simp
    refine hK.out _ _ HS.out (fun hHeldl => ?_)
    clear hK K
    try simp only [Act.put, List.setIfInBounds_toArray, List.set_cons_zero, List.set_cons_succ]
    refine wpAnyH_ready (rs := [11]) (by kernel_rfl) (by simp) ?_
    refine AllReadyH.cons (i := 11) rfl (fun K hK => ?_) AllReadyH.nil
    go_simp
    go_wp2_with (go_at_call 30; refine (leaf_is l0 l1 l2 l3 s m _ (HMX.out.st.keep (by first | exact Kept.refl _ | exact drew_kept _)) hmI).mono ?_; rintro e w2 ⟨b, rfl, hb2, hk2, hs2, hn2⟩; have k2 : KeptBut s wx w2 := hk2; have hb2' : wx.heap.size ≤ b := hb2; clear hk2 hb2)
    have HM2 := hide1 (HMX.out.but (Vb := fun k => wx.heap.size ≤ k ∧ k < w2.heap.size) k2 hs2 (fun k hk => hk) (ndV_of hn2 hb2' (Or.inr rfl)))
    have HS2 := hide1 (HS.out.but k2 hbs hxs)
    have HK2 := hide1 k2
    have HB2 := hide1 hb2'
    have p2 : w2.cell? ⟨bb, 2, none⟩ = some (.slice ra k rc) := k2.cell hbs q2
    clear hs2 hn2 k2 hb2'
    refine hK.out _ _ HS2.out (fun hHeldc => ?_)
    clear hK K
    try simp only [Act.put, List.setIfInBounds_toArray, List.set_cons_zero, List.set_cons_succ]
    refine wpAnyH_ready (rs := [12]) (by kernel_rfl) (by simp) ?_
    refine AllReadyH.cons (i := 12) rfl (fun K hK => ?_) AllReadyH.nil
    go_simp
    obtain ⟨w4, hw4⟩ : ∃ w4, w2.alloc (.cells #[.pointer (some ⟨b, 0, none⟩)] 37) = w4 := ⟨_, rfl⟩
    have hk4 : Kept w2 w4 := by rw [← hw4]; exact (Kept.refl w2).alloc _ _
    have hl4 : w4.heap[w2.heap.size]? = some (.cells #[.pointer (some ⟨b, 0, none⟩)] 37 (0, 0)) := by rw [← hw4]; exact World.alloc_heap_new w2 _
    have p4 : w4.cell? ⟨bb, 2, none⟩ = some (.slice ra k rc) := grown_cell hk4 p2
    have HS4 := hide1 (HS2.out.keep hk4)
    have HL4 := hide1 hl4
    have HK4 := hide1 hk4
    rw [hw4]
    clear hw4 hl4 hk4
    refine hK.out _ _ HS4.out (fun hHelda => ?_)
    clear hK K
    try simp only [Act.put, List.setIfInBounds_toArray, List.set_cons_zero, List.set_cons_succ]
    refine wpAnyH_ready (rs := [13]) (by kernel_rfl) (by simp) ?_
    refine AllReadyH.cons (i := 13) rfl (fun K hK => ?_) AllReadyH.nil
    refine step_lo (E := ndE) rfl _ _ rfl base (.slice ra k rc) row k HK.out (by rfl) ((HM2.out.keep HK4.out).rl.keep (by first | exact Kept.refl _ | exact drew_kept _)) w2.heap.size b (by rfl) HL4.out (by show (k + 1) * 8 ≤ 140737488355328; omega) (by unfold maxLen; omega) (by have h9 := (HM2.out.keep HK4.out).lo.2.2.2.2.2.2; exact h9) ?_
    intro g9 c9 w9 ho9 hg9 hor9 hlt9
    have hM4 := HM2.out.keep HK4.out
    have hbl4 : bb < w4.heap.size := (Array.getElem?_eq_some_iff.1 hM4.box).1
    have hown : ∀ d, (Value.slice ra k rc).ownBlock = some d → base ≤ d := fun d hd => (hM4.rl.lt' d hd).1
    have hob : (Value.slice ra k rc).ownBlock ≠ some bb := fun e => by have h1 := hown bb e; have h2 := hM4.lo.1; omega
    have hox : (Value.slice ra k rc).ownBlock ≠ some xb := fun e => by have h1 := (HM.out.rl.lt' xb e).2; have h2 := HXW.out.1; omega
    have hxl4 : xb < w4.heap.size := by have h1 := HK2.out.2.2.2.1; have h2 := HK4.out.size; omega
    have hg9' : w4.grownBy w9 (Value.slice ra k rc).ownBlock := hg9
    have hor9' : (Value.slice ra k rc).ownBlock = some g9 ∨ g9 = w4.heap.size := hor9
    have hS9 : LfS bb s xb l0 l1 l2 l3 w9 := HS4.out.grown hg9' hbl4 hxl4 hob hox
    have hx9 := (hg9'.block bb hbl4 (fun e => hob e.symm)).trans hM4.box
    have HFIN := hide1 (bd_row hM4 (rv2 := .slice ra k rc) rfl (Kept.refl w4) ho9 hg9' hor9' (fun d hd => by
      rcases List.mem_append.1 hd with h | h
      · exact List.mem_append_left _ (HM.out.sub d h)
      · exact List.mem_append_right _ h) hA)
    have y2 : w9.cell? ⟨bb, 2, none⟩ = some (.slice ra k rc) := by simp [World.cell?, hx9]
    have f2 : w9.frozen? ⟨bb, 2, none⟩ = false := by simp [World.frozen?, hx9]
    have hbl9 : bb < w9.heap.size := (Array.getElem?_eq_some_iff.1 hx9).1
    have HS9 := hide1 hS9
    clear ho9 hg9 hor9 hg9' hor9' hM4 hown hob hox hS9 hx9
    refine hK.out _ _ HS9.out (fun hHeld9 => ?_)
    clear hK K
    try simp only [Act.put, List.setIfInBounds_toArray, List.set_cons_zero, List.set_cons_succ]
    refine wpAnyH_take (i := 14) (v := .pointer (some ⟨bb, 0, none⟩)) rfl (by kernel_rfl) (by kernel_rfl) (by kernel_rfl) (fun _ _ _ h => h) (Or.inl ⟨by rfl, fun w' hSw => ?_⟩) (by with_reducible assumption) ?_
    · clear hSw
      go_simp
    try simp only [Act.put, List.setIfInBounds_toArray, List.set_cons_zero, List.set_cons_succ]
    refine wpAnyH_take (i := 15) (v := .pointer (some ⟨bb, 2, none⟩)) rfl (by kernel_rfl) (by kernel_rfl) (by kernel_rfl) (fun _ _ _ h => h) (Or.inl ⟨by rfl, fun w' hSw => ?_⟩) (by with_reducible assumption) ?_
    · clear hSw
      go_simp
    try simp only [Act.put, List.setIfInBounds_toArray, List.set_cons_zero, List.set_cons_succ]
    refine wpAnyH_ready (rs := [16]) (by kernel_rfl) (by simp) ?_
    refine AllReadyH.cons (i := 16) rfl (fun K hK => ?_) AllReadyH.nil
    have hS10 : LfS bb s xb l0 l1 l2 l3 (w9.setCell ⟨bb, 2, none⟩ (.slice (some ⟨g9, 0, none⟩) (k + 1) c9)) := by
      have h9 := HS9.out
      have hb := setCell_but w9 bb 2 (.slice (some ⟨g9, 0, none⟩) (k + 1) c9)
      have hb0 : (w9.setCell ⟨bb, 2, none⟩ (.slice (some ⟨g9, 0, none⟩) (k + 1) c9)).heap[bb]? = _ := HFIN.out.1.box
      exact ⟨by simp [World.cell?, hb0], hb.cell (Ne.symm hbxb) h9.2.1, hb.cell (Ne.symm hbxb) h9.2.2.1, hb.cell (Ne.symm hbxb) h9.2.2.2.1, hb.cell (Ne.symm hbxb) h9.2.2.2.2⟩
    have HS10 := hide1 hS10
    clear hS10
    go_simp
    refine hK.out _ _ HS10.out (fun hHeldt => ?_)
    clear hK K
    try simp only [Act.put, List.setIfInBounds_toArray, List.set_cons_zero, List.set_cons_succ]
    refine wpAnyH_done (by kernel_rfl) ?_ _
    clear q2 p2 p4 y2 f2
    generalize w9.setCell ⟨bb, 2, none⟩ (.slice (some ⟨g9, 0, none⟩) (k + 1) c9) = W9 at *
    go_wp2_with fail
    go_ret
    have hfin := HFIN.out
    refine ⟨rfl, _, b, (fun e => ?_), ?_, _, hfin.1, ((HKX.out.kas s hAs).trans (HK2.out.kas ?_)).trans ((HK4.out.kas s ?_).trans hfin.2)⟩
    · have h1 := (HM.out.vs b (HM.out.nd b e).1).1; have h2 := HB2.out; have h3 := HKX.out.size; omega
    · have h2 := HB2.out; have h3 := HKX.out.size; omega
    · have h3 := HKX.out.size; omega
    · have h3 := HKX.out.size; have h4 := HK2.out.2.2.2.1; omega
  · go_simp
    go_wp2_with (go_at_call 30; refine (leaf_is l0 l1 l2 l3 s m _ (HMX.out.st.keep (by first | exact Kept.refl _ | exact drew_kept _)) hmI).mono ?_; rintro e w2 ⟨b, rfl, hb2, hk2, hs2, hn2⟩; have k2 : KeptBut s wx w2 := hk2; have hb2' : wx.heap.size ≤ b := hb2; clear hk2 hb2)
    have HM2 := hide1 (HMX.out.but (Vb := fun k => wx.heap.size ≤ k ∧ k < w2.heap.size) k2 hs2 (fun k hk => hk) (ndV_of hn2 hb2' (Or.inr rfl)))
    have HS2 := hide1 (HS.out.but k2 hbs hxs)
    have HK2 := hide1 k2
    have HB2 := hide1 hb2'
    have p2 : w2.cell? ⟨bb, 2, none⟩ = some (.slice ra k rc) := k2.cell hbs q2
    clear hs2 hn2 k2 hb2'
    refine hK.out _ _ HS2.out (fun hHeldc => ?_)
    clear hK K
    try simp only [Act.put, List.setIfInBounds_toArray, List.set_cons_zero, List.set_cons_succ]
    refine wpAnyH_ready (rs := [4, 12]) (by kernel_rfl) (by simp) ?_
    refine AllReadyH.cons (i := 4) rfl (fun K hK => ?_) (AllReadyH.cons (i := 12) rfl (fun K hK => ?_) AllReadyH.nil)
    · go_simp
      refine hK.out _ _ HS2.out (fun hHeldl => ?_)
      clear hK K
      try simp only [Act.put, List.setIfInBounds_toArray, List.set_cons_zero, List.set_cons_succ]
      refine wpAnyH_ready (rs := [12]) (by kernel_rfl) (by simp) ?_
      refine AllReadyH.cons (i := 12) rfl (fun K hK => ?_) AllReadyH.nil
      go_simp
      obtain ⟨w4, hw4⟩ : ∃ w4, w2.alloc (.cells #[.pointer (some ⟨b, 0, none⟩)] 37) = w4 := ⟨_, rfl⟩
      have hk4 : Kept w2 w4 := by rw [← hw4]; exact (Kept.refl w2).alloc _ _
      have hl4 : w4.heap[w2.heap.size]? = some (.cells #[.pointer (some ⟨b, 0, none⟩)] 37 (0, 0)) := by rw [← hw4]; exact World.alloc_heap_new w2 _
      have p4 : w4.cell? ⟨bb, 2, none⟩ = some (.slice ra k rc) := grown_cell hk4 p2
      have HS4 := hide1 (HS2.out.keep hk4)
      have HL4 := hide1 hl4
      have HK4 := hide1 hk4
      rw [hw4]
      clear hw4 hl4 hk4
      refine hK.out _ _ HS4.out (fun hHelda => ?_)
      clear hK K
      try simp only [Act.put, List.setIfInBounds_toArray, List.set_cons_zero, List.set_cons_succ]
      refine wpAnyH_ready (rs := [13]) (by kernel_rfl) (by simp) ?_
      refine AllReadyH.cons (i := 13) rfl (fun K hK => ?_) AllReadyH.nil
      refine step_lo (E := ndE) rfl _ _ rfl base (.slice ra k rc) row k HK.out (by rfl) ((HM2.out.keep HK4.out).rl.keep (by first | exact Kept.refl _ | exact drew_kept _)) w2.heap.size b (by rfl) HL4.out (by show (k + 1) * 8 ≤ 140737488355328; omega) (by unfold maxLen; omega) (by have h9 := (HM2.out.keep HK4.out).lo.2.2.2.2.2.2; exact h9) ?_
      intro g9 c9 w9 ho9 hg9 hor9 hlt9
      have hM4 := HM2.out.keep HK4.out
      have hbl4 : bb < w4.heap.size := (Array.getElem?_eq_some_iff.1 hM4.box).1
      have hown : ∀ d, (Value.slice ra k rc).ownBlock = some d → base ≤ d := fun d hd => (hM4.rl.lt' d hd).1
      have hob : (Value.slice ra k rc).ownBlock ≠ some bb := fun e => by have h1 := hown bb e; have h2 := hM4.lo.1; omega
      have hox : (Value.slice ra k rc).ownBlock ≠ some xb := fun e => by have h1 := (HM.out.rl.lt' xb e).2; have h2 := HXW.out.1; omega
      have hxl4 : xb < w4.heap.size := by have h1 := HK2.out.2.2.2.1; have h2 := HK4.out.size; omega
      have hg9' : w4.grownBy w9 (Value.slice ra k rc).ownBlock := hg9
      have hor9' : (Value.slice ra k rc).ownBlock = some g9 ∨ g9 = w4.heap.size := hor9
      have hS9 : LfS bb s xb l0 l1 l2 l3 w9 := HS4.out.grown hg9' hbl4 hxl4 hob hox
      have hx9 := (hg9'.block bb hbl4 (fun e => hob e.symm)).trans hM4.box
      have HFIN := hide1 (bd_row hM4 (rv2 := .slice ra k rc) rfl (Kept.refl w4) ho9 hg9' hor9' (fun d hd => by
        rcases List.mem_append.1 hd with h | h
        · exact List.mem_append_left _ (HM.out.sub d h)
        · exact List.mem_append_right _ h) hA)
      have y2 : w9.cell? ⟨bb, 2, none⟩ = some (.slice ra k rc) := by simp [World.cell?, hx9]
      have f2 : w9.frozen? ⟨bb, 2, none⟩ = false := by simp [World.frozen?, hx9]
      have hbl9 : bb < w9.heap.size := (Array.getElem?_eq_some_iff.1 hx9).1
      have HS9 := hide1 hS9
      clear ho9 hg9 hor9 hg9' hor9' hM4 hown hob hox hS9 hx9
      refine hK.out _ _ HS9.out (fun hHeld9 => ?_)
      clear hK K
      try simp only [Act.put, List.setIfInBounds_toArray, List.set_cons_zero, List.set_cons_succ]
      refine wpAnyH_take (i := 14) (v := .pointer (some ⟨bb, 0, none⟩)) rfl (by kernel_rfl) (by kernel_rfl) (by kernel_rfl) (fun _ _ _ h => h) (Or.inl ⟨by rfl, fun w' hSw => ?_⟩) (by with_reducible assumption) ?_
      · clear hSw
        go_simp
      try simp only [Act.put, List.setIfInBounds_toArray, List.set_cons_zero, List.set_cons_succ]
      refine wpAnyH_take (i := 15) (v := .pointer (some ⟨bb, 2, none⟩)) rfl (by kernel_rfl) (by kernel_rfl) (by kernel_rfl) (fun _ _ _ h => h) (Or.inl ⟨by rfl, fun w' hSw => ?_⟩) (by with_reducible assumption) ?_
      · clear hSw
        go_simp
      try simp only [Act.put, List.setIfInBounds_toArray, List.set_cons_zero, List.set_cons_succ]
      refine wpAnyH_ready (rs := [16]) (by kernel_rfl) (by simp) ?_
      refine AllReadyH.cons (i := 16) rfl (fun K hK => ?_) AllReadyH.nil
      have hS10 : LfS bb s xb l0 l1 l2 l3 (w9.setCell ⟨bb, 2, none⟩ (.slice (some ⟨g9, 0, none⟩) (k + 1) c9)) := by
        have h9 := HS9.out
        have hb := setCell_but w9 bb 2 (.slice (some ⟨g9, 0, none⟩) (k + 1) c9)
        have hb0 : (w9.setCell ⟨bb, 2, none⟩ (.slice (some ⟨g9, 0, none⟩) (k + 1) c9)).heap[bb]? = _ := HFIN.out.1.box
        exact ⟨by simp [World.cell?, hb0], hb.cell (Ne.symm hbxb) h9.2.1, hb.cell (Ne.symm hbxb) h9.2.2.1, hb.cell (Ne.symm hbxb) h9.2.2.2.1, hb.cell (Ne.symm hbxb) h9.2.2.2.2⟩
      have HS10 := hide1 hS10
      clear hS10
      go_simp
      refine hK.out _ _ HS10.out (fun hHeldt => ?_)
      clear hK K
      try simp only [Act.put, List.setIfInBounds_toArray, List.set_cons_zero, List.set_cons_succ]
      refine wpAnyH_done (by kernel_rfl) ?_ _
      clear q2 p2 p4 y2 f2
      generalize w9.setCell ⟨bb, 2, none⟩ (.slice (some ⟨g9, 0, none⟩) (k + 1) c9) = W9 at *
      go_wp2_with fail
      go_ret
      have hfin := HFIN.out
      refine ⟨rfl, _, b, (fun e => ?_), ?_, _, hfin.1, ((HKX.out.kas s hAs).trans (HK2.out.kas ?_)).trans ((HK4.out.kas s ?_).trans hfin.2)⟩
      · have h1 := (HM.out.vs b (HM.out.nd b e).1).1; have h2 := HB2.out; have h3 := HKX.out.size; omega
      · have h2 := HB2.out; have h3 := HKX.out.size; omega
      · have h3 := HKX.out.size; omega
      · have h3 := HKX.out.size; have h4 := HK2.out.2.2.2.1; omega
    · go_simp
      obtain ⟨w4, hw4⟩ : ∃ w4, w2.alloc (.cells #[.pointer (some ⟨b, 0, none⟩)] 37) = w4 := ⟨_, rfl⟩
      have hk4 : Kept w2 w4 := by rw [← hw4]; exact (Kept.refl w2).alloc _ _
      have hl4 : w4.heap[w2.heap.size]? = some (.cells #[.pointer (some ⟨b, 0, none⟩)] 37 (0, 0)) := by rw [← hw4]; exact World.alloc_heap_new w2 _
      have p4 : w4.cell? ⟨bb, 2, none⟩ = some (.slice ra k rc) := grown_cell hk4 p2
      have HS4 := hide1 (HS2.out.keep hk4)
      have HL4 := hide1 hl4
      have HK4 := hide1 hk4
      rw [hw4]
      clear hw4 hl4 hk4
      refine hK.out _ _ HS4.out (fun hHelda => ?_)
      clear hK K
      try simp only [Act.put, List.setIfInBounds_toArray, List.set_cons_zero, List.set_cons_succ]
      refine wpAnyH_ready (rs := [4]) (by kernel_rfl) (by simp) ?_
      refine AllReadyH.cons (i := 4) rfl (fun K hK => ?_) AllReadyH.nil
      go_simp
      refine hK.out _ _ HS4.out (fun hHeldl => ?_)
      clear hK K
      try simp only [Act.put, List.setIfInBounds_toArray, List.set_cons_zero, List.set_cons_succ]
      refine wpAnyH_ready (rs := [13]) (by kernel_rfl) (by simp) ?_
      refine AllReadyH.cons (i := 13) rfl (fun K hK => ?_) AllReadyH.nil
      refine step_lo (E := ndE) rfl _ _ rfl base (.slice ra k rc) row k HK.out (by rfl) ((HM2.out.keep HK4.out).rl.keep (by first | exact Kept.refl _ | exact drew_kept _)) w2.heap.size b (by rfl) HL4.out (by show (k + 1) * 8 ≤ 140737488355328; omega) (by unfold maxLen; omega) (by have h9 := (HM2.out.keep HK4.out).lo.2.2.2.2.2.2; exact h9) ?_
      intro g9 c9 w9 ho9 hg9 hor9 hlt9
      have hM4 := HM2.out.keep HK4.out
      have hbl4 : bb < w4.heap.size := (Array.getElem?_eq_some_iff.1 hM4.box).1
      have hown : ∀ d, (Value.slice ra k rc).ownBlock = some d → base ≤ d := fun d hd => (hM4.rl.lt' d hd).1
      have hob : (Value.slice ra k rc).ownBlock ≠ some bb := fun e => by have h1 := hown bb e; have h2 := hM4.lo.1; omega
      have hox : (Value.slice ra k rc).ownBlock ≠ some xb := fun e => by have h1 := (HM.out.rl.lt' xb e).2; have h2 := HXW.out.1; omega
      have hxl4 : xb < w4.heap.size := by have h1 := HK2.out.2.2.2.1; have h2 := HK4.out.size; omega
      have hg9' : w4.grownBy w9 (Value.slice ra k rc).ownBlock := hg9
      have hor9' : (Value.slice ra k rc).ownBlock = some g9 ∨ g9 = w4.heap.size := hor9
      have hS9 : LfS bb s xb l0 l1 l2 l3 w9 := HS4.out.grown hg9' hbl4 hxl4 hob hox
      have hx9 := (hg9'.block bb hbl4 (fun e => hob e.symm)).trans hM4.box
      have HFIN := hide1 (bd_row hM4 (rv2 := .slice ra k rc) rfl (Kept.refl w4) ho9 hg9' hor9' (fun d hd => by
        rcases List.mem_append.1 hd with h | h
        · exact List.mem_append_left _ (HM.out.sub d h)
        · exact List.mem_append_right _ h) hA)
      have y2 : w9.cell? ⟨bb, 2, none⟩ = some (.slice ra k rc) := by simp [World.cell?, hx9]
      have f2 : w9.frozen? ⟨bb, 2, none⟩ = false := by simp [World.frozen?, hx9]
      have hbl9 : bb < w9.heap.size := (Array.getElem?_eq_some_iff.1 hx9).1
      have HS9 := hide1 hS9
      clear ho9 hg9 hor9 hg9' hor9' hM4 hown hob hox hS9 hx9
      refine hK.out _ _ HS9.out (fun hHeld9 => ?_)
      clear hK K
      try simp only [Act.put, List.setIfInBounds_toArray, List.set_cons_zero, List.set_cons_succ]
      refine wpAnyH_take (i := 14) (v := .pointer (some ⟨bb, 0, none⟩)) rfl (by kernel_rfl) (by kernel_rfl) (by kernel_rfl) (fun _ _ _ h => h) (Or.inl ⟨by rfl, fun w' hSw => ?_⟩) (by with_reducible assumption) ?_
      · clear hSw
        go_simp
      try simp only [Act.put, List.setIfInBounds_toArray, List.set_cons_zero, List.set_cons_succ]
      refine wpAnyH_take (i := 15) (v := .pointer (some ⟨bb, 2, none⟩)) rfl (by kernel_rfl) (by kernel_rfl) (by kernel_rfl) (fun _ _ _ h => h) (Or.inl ⟨by rfl, fun w' hSw => ?_⟩) (by with_reducible assumption) ?_
      · clear hSw
        go_simp
      try simp only [Act.put, List.setIfInBounds_toArray, List.set_cons_zero, List.set_cons_succ]
      refine wpAnyH_ready (rs := [16]) (by kernel_rfl) (by simp) ?_
      refine AllReadyH.cons (i := 16) rfl (fun K hK => ?_) AllReadyH.nil
      have hS10 : LfS bb s xb l0 l1 l2 l3 (w9.setCell ⟨bb, 2, none⟩ (.slice (some ⟨g9, 0, none⟩) (k + 1) c9)) := by
        have h9 := HS9.out
        have hb := setCell_but w9 bb 2 (.slice (some ⟨g9, 0, none⟩) (k + 1) c9)
        have hb0 : (w9.setCell ⟨bb, 2, none⟩ (.slice (some ⟨g9, 0, none⟩) (k + 1) c9)).heap[bb]? = _ := HFIN.out.1.box
        exact ⟨by simp [World.cell?, hb0], hb.cell (Ne.symm hbxb) h9.2.1, hb.cell (Ne.symm hbxb) h9.2.2.1, hb.cell (Ne.symm hbxb) h9.2.2.2.1, hb.cell (Ne.symm hbxb) h9.2.2.2.2⟩
      have HS10 := hide1 hS10
      clear hS10
      go_simp
      refine hK.out _ _ HS10.out (fun hHeldt => ?_)
      clear hK K
      try simp only [Act.put, List.setIfInBounds_toArray, List.set_cons_zero, List.set_cons_succ]
      refine wpAnyH_done (by kernel_rfl) ?_ _
      clear q2 p2 p4 y2 f2
      generalize w9.setCell ⟨bb, 2, none⟩ (.slice (some ⟨g9, 0, none⟩) (k + 1) c9) = W9 at *
      go_wp2_with fail
      go_ret
      have hfin := HFIN.out
      refine ⟨rfl, _, b, (fun e => ?_), ?_, _, hfin.1, ((HKX.out.kas s hAs).trans (HK2.out.kas ?_)).trans ((HK4.out.kas s ?_).trans hfin.2)⟩
      · have h1 := (HM.out.vs b (HM.out.nd b e).1).1; have h2 := HB2.out; have h3 := HKX.out.size; omega
      · have h2 := HB2.out; have h3 := HKX.out.size; omega
      · have h3 := HKX.out.size; omega
      · have h3 := HKX.out.size; have h4 := HK2.out.2.2.2.1; omega

end Tr
end Ex
end Go.Proofs.Ytnjmbijebckncab
namespace Go.Proofs.Ytnjmbijebckncab
open Go.RowKit Go.Maps
attribute [local go_sem] Oper.semAt_some
namespace Ex
namespace Tr

/-- While the steps are done. -/
def ApI (P : List Nat) (N0 : Nat → Nd) (f : Int → Option Nat) (M0 s b : Nat) (SSs : List (OpM × Nat)) (base bb mb n A : Nat) (w : World) (j : Nat) (wr : World) : Prop := ∃ V S N m rv srow row, BdM base bb s mb V S N m n f rv row wr ∧ ApS P N0 f M0 s S N srow row ∧ okRun N0 f [b] (SSs.drop j) srow ∧ M0 ≤ m ∧ m ≤ M0 + j ∧ row.length ≤ j ∧ KAS A s w wr
/-- What Apply answers. -/
def ApOut (P : List Nat) (N0 : Nat → Nd) (f : Int → Option Nat) (M0 s b L : Nat) (w : World) (e : Ending) (w' : World) : Prop := ∃ c V S N m, e = .returned (.tuple #[.pointer (some ⟨c, 0, none⟩), .int .i64 0]) ∧ KeptBut s w w' ∧ StoreAt w' s m ∧ M0 ≤ m ∧ m ≤ M0 + L ∧ (∀ d ∈ S, NdV V w' d (N d)) ∧ (∀ k, V k → k < w'.heap.size) ∧ FoOk S N s ∧ (∀ d ∈ P, d ∈ S ∧ N d = N0 d) ∧ c ∈ S ∧ RelL N0 N f M0 (wlB N0 [b]) (wlB N [c])
theorem drop_atA {α : Type} {l : List α} {j : Nat} {x : α} (h : l[j]? = some x) : l.drop j = x :: l.drop (j + 1) := by
  have h9 := List.getElem?_eq_some_iff.1 h
  rw [List.drop_eq_getElem_cons h9.1, h9.2]
set_option linter.unusedSimpArgs false in
set_option maxRecDepth 100000 in
set_option maxHeartbeats 8000000 in
theorem applyD_ok (P : List Nat) (N0 : Nat → Nd) (V0 : Nat → Prop) (s M0 a b b0 : Nat) (lv : Value) (w : World) (hV0 : ∀ k, V0 k → k < w.heap.size ∧ k ≠ s) (hN : ∀ c ∈ P, NdV V0 w c (N0 c)) (hst : StoreAt w s M0) (hM0 : M0 ≤ 4611686018420000000) (hS : SrcOk P N0 (nodeF N0 (walkL N0 a)) s) (hnum : NumOk (fun c => c ∈ P) N0) (ha : a ∈ P) (hb : b ∈ P) (hl : LO opE w b0 lv (stp N0 (nodeF N0 (walkL N0 a)) b)) (hb0 : s < b0) :
    Calls Try.prog 12 #[.pointer (some ⟨s, 0, none⟩), .pointer (some ⟨a, 0, none⟩), lv] w (ApOut P N0 (nodeF N0 (walkL N0 a)) M0 s b (stp N0 (nodeF N0 (walkL N0 a)) b).length w) := by
  have hF0 : Forest (fun c => c ∈ P) N0 w.heap.size w := hS.fo.forest hN (fun k hk => (hV0 k hk).1)
  have HNO := hide1 (nodes_is (fun c => c ∈ P) N0 w.heap.size a w hF0 hnum ha (Nat.le_refl _))
  obtain ⟨f, hf⟩ : ∃ f, nodeF N0 (walkL N0 a) = f := ⟨_, rfl⟩
  rw [hf] at HNO hS hl ⊢
  have hlen := stp_len hF0 f (N0 b).size b hb (Nat.le_refl _)
  have hMb := (hF0 b hb).2.1.2.1
  obtain ⟨SSs, hSSs⟩ : ∃ SSs, stpS N0 f (N0 b).size b = SSs := ⟨_, rfl⟩
  have hfst : SSs.map Prod.fst = stp N0 f b := by rw [← hSSs, stpS_fst]; rfl
  have hin : ∀ x ∈ SSs, x.2 ∈ P := by rw [← hSSs]; exact stpS_in hF0 f _ b hb
  have hrun : okRun N0 f [b] (SSs.drop 0) [] := by
    rw [List.drop_zero, ← hSSs]
    have h9 := okRun_app hF0 f [b] (N0 b).size b hb (Nat.le_refl _) [] [] (by show [] ++ [b] = [b]; rfl)
    rwa [List.append_nil] at h9
  obtain ⟨L, hL⟩ : ∃ L, (stp N0 f b).length = L := ⟨_, rfl⟩
  obtain ⟨va, vc, rfl⟩ : ∃ a c, lv = .slice a L c := by rw [← hL]; exact hl.form
  have hLS : SSs.length = L := by rw [← hL, ← hfst, List.length_map]
  have hL4 : L ≤ 4194304 := by omega
  rw [hL]
  have hsl := hst.lt
  have HLR : Hid (∀ W, KAS w.heap.size s w W → ∀ j o c, SSs[j]? = some (o, c) → ∃ g, va = some ⟨g, 0, none⟩ ∧ (W.cell? ⟨g, j * 9, none⟩ = some (.int .i64 o.d0) ∧ W.cell? ⟨g, j * 9 + 1, none⟩ = some (.int .i64 o.d1) ∧ W.cell? ⟨g, j * 9 + 2, none⟩ = some (.int .i64 o.d2) ∧ W.cell? ⟨g, j * 9 + 3, none⟩ = some (.int .i64 o.d3) ∧ W.cell? ⟨g, j * 9 + 4, none⟩ = some (.int .i64 o.d4)) ∧ W.cell? ⟨g, j * 9 + 5, none⟩ = some (.int .i64 o.d5) ∧ W.cell? ⟨g, j * 9 + 6, none⟩ = some (.int .i64 o.d6) ∧ W.cell? ⟨g, j * 9 + 7, none⟩ = some (.int .i64 o.d7) ∧ W.cell? ⟨g, j * 9 + 8, none⟩ = some (.int .i64 o.d8)) := fun W hW j o c hj => by
    have h9 : (stp N0 f b)[j]? = some o := by rw [← hfst, List.getElem?_map, hj]; rfl
    exact lo_op (hl.same (fun d hd => hW.2.2.2.2 d (hl.lt' d hd).2 (by have := (hl.lt' d hd).1; omega))) h9
  have HS := hide1 hS
  have HIN := hide1 hin
  have HRUN := hide1 hrun
  have HLS := hide1 hLS
  have HV0 := hide1 hV0
  have HN := hide1 hN
  have HST := hide1 hst
  have HNUM := hide1 hnum
  have HF0 := hide1 hF0
  have HM0 := hide1 hM0
  have hLI : (L : Int) ≤ 4194304 := by omega
  have hcI : (L : Int) ≤ (vc : Int) := by have h9 := hl.cap; rw [hL] at h9; omega
  clear hF0 hf hlen hMb hSSs hfst hin hrun hL hLS hl hb0 hV0 hN hst hM0 hS hnum ha hb
  go_enter Try.func12, Try.ntmps12
  go_upto_region 4 with (go_at_call 38; refine HNO.out.mono ?_; rintro e w1 ⟨mb, n, rfl, hmb, hn, hm1, hk1⟩; have HM1 := hide1 hm1; have HK1 := hide1 hk1; have HMB := hide1 hmb; clear hm1 hk1 hmb)
  obtain ⟨bb, hbb⟩ : ∃ bb, w1.heap.size = bb := ⟨_, rfl⟩
  obtain ⟨w2, hw2⟩ : ∃ w2, w1.alloc (.cells #[.pointer (some ⟨s, 0, none⟩), .map (some mb), .slice none 0 0] 103) = w2 := ⟨_, rfl⟩
  have hk2 : Kept w1 w2 := by rw [← hw2]; exact (Kept.refl w1).alloc _ _
  have hx2 : w2.heap[bb]? = some (.cells #[.pointer (some ⟨s, 0, none⟩), .map (some mb), .slice none 0 0] 103 (0, 0)) := by rw [← hw2, ← hbb]; exact World.alloc_heap_new w1 _
  have hs2 : bb + 1 = w2.heap.size := by rw [← hw2, ← hbb]; simp
  have hkw2 : Kept w w2 := gtrans HK1.out hk2
  have hws := HK1.out.size
  have hmbl := HM1.out.lt
  have hBd : BdM (bb + 1) bb s mb V0 P N0 M0 n f (.slice none 0 0) [] w2 := by
    have hmb := HMB.out
    refine ⟨hx2, HST.out.keep hkw2, HM1.out.same (hk2.2.2.2.2 mb hmbl), LO.nil _ _, ⟨by omega, by omega, by omega, by omega, by omega, by omega, by omega⟩, fun k hk => ?_, fun c hc => (HN.out c hc).kx ⟨hkw2.size, fun k hk => hkw2.2.2.2.2 k (HV0.out k hk).1⟩, fun c hc => by cases hc⟩
    obtain ⟨v1, v2⟩ := HV0.out k hk
    exact ⟨by omega, by omega, v2, by omega, fun e => by cases e⟩
  have hI0 : ApI P N0 f M0 s b SSs (bb + 1) bb mb n w.heap.size w 0 w2 := ⟨V0, P, N0, M0, _, [], [], hBd, ⟨HS.out.fo, fun d hd => ⟨hd, rfl⟩, fun d hd => (by cases hd), fun d hd => (by cases hd), trivial⟩, HRUN.out, Nat.le_refl _, Nat.le_refl _, Nat.le_refl _, hkw2.kas s (Nat.le_refl _)⟩
  have HI0 := hide1 hI0
  have hAb : w.heap.size ≤ bb := by omega
  rw [hbb, hw2]
  obtain ⟨base, hbase⟩ : ∃ base, bb + 1 = base := ⟨_, rfl⟩
  rw [hbase] at HI0
  clear hbb hw2 hk2 hx2 hs2 hkw2 hws hmbl hBd hI0 HK1 HM1 HMB hbase HNO HRUN HN HV0
  go_wp2_with fail
  go_loopw [21] (fun v21 wr => ∃ j : Nat, j ≤ L ∧ v21 = .int .i64 (j : Int) ∧ Hid (ApI P N0 f M0 s b SSs base bb mb n w.heap.size w j wr)) (fun v21 _ => L - (intOf v21).toNat)
  case atStart => exact ⟨0, Nat.zero_le _, rfl, HI0⟩
  case round =>
    obtain ⟨j, hj, rfl, HI⟩ := hrel
    obtain ⟨V, S, N, m, rv, srow, row, hM, hA, hR, hm0, hm1, hrl, hK⟩ := HI.out
    by_cases hjL : j < L
    · have hjI : (j : Int) < (L : Int) := by omega
      obtain ⟨x, hx⟩ : ∃ x, SSs[j]? = some x := ⟨_, List.getElem?_eq_getElem (by rw [HLS.out]; exact hjL)⟩
      obtain ⟨o, c⟩ := x
      have hcP : c ∈ P := HIN.out (o, c) (List.mem_of_getElem? hx)
      obtain ⟨g, rfl, ⟨e0, e1, e2, e3, e4⟩, e5, e6, e7, e8⟩ := HLR.out wr hK j o c hx
      rw [drop_atA hx] at hR
      have hFo : Forest (fun d => d ∈ S) N wr.heap.size wr := hA.1.forest hM.nd (fun k hk => (hM.vs k hk).1)
      have hAw : w.heap.size ≤ wr.heap.size := hK.2.2.2.1
      have HM := hide1 hM
      have HA := hide1 hA
      have HK := hide1 hK
      have HFo := hide1 hFo
      have hmm := HM0.out
      clear hx HI
      rcases hR with ⟨r1, rfl, r2⟩ | ⟨r1, r3, rfl, r2⟩ | ⟨r1, r3, rfl, r0, hr0, r2⟩
      · dsimp only at e0 e1 e2 e3 e4 e5 e6 e7 e8
        obtain ⟨kp1, _⟩ := HS.out.kp c hcP r1
        have hfit : fits ((N0 c).num : Int) := ⟨by omega, HNUM.out c hcP⟩
        have hcS : c ∈ S := (hA.2.1 c hcP).1
        obtain ⟨id, hid⟩ : ∃ id : Int, ((N0 c).num : Int) = id := ⟨_, rfl⟩
        rw [hid] at kp1 hfit e1
        have HDO : Hid (∀ W, Kept wr W → Calls Try.prog 41 #[.pointer (some ⟨bb, 0, none⟩), .agg #[.int .i64 1, .int .i64 id, .int .i64 0, .int .i64 0, .int .i64 0, .int .i64 0, .int .i64 0, .int .i64 0, .int .i64 0]] W fun e w' => e = .returned (.int .i64 0) ∧ BdR base bb s mb w.heap.size V S N m n f (row ++ [c]) W w') := fun W hW => doB_keep base bb s mb w.heap.size V S N m n f rv row W (hM.keep hW) id c kp1 hfit hcS (by omega) hAb (Nat.le_trans hAw hW.size)
        have HNX : Hid (ApS P N0 f M0 s S N (srow ++ [c]) (row ++ [c])) := hA.keep HS.out hcP r1 HF0.out
        have HR2 := hide1 r2
        clear hM hA hK hFo kp1 hfit hid r1 r2
        go_wp2_with (go_at_call 41; refine (HDO.out _ ((Kept.refl wr).alloc _ _)).mono ?_; rintro e w3 ⟨rfl, rv3, h3, h4⟩; have H3 := hide1 h3; have H4 := hide1 h4; clear h3 h4)
        have HFIN : Hid (ApI P N0 f M0 s b SSs base bb mb n w.heap.size w (j + 1) w3) := ⟨V, S, N, m, rv3, _, _, H3.out, HNX.out, HR2.out, hm0, by omega, by rw [List.length_append, List.length_singleton]; omega, HK.out.trans ((((Kept.refl wr).alloc _ _).kas s hAw).trans H4.out)⟩
        exact ⟨⟨j + 1, by omega, by simp, HFIN⟩, by simp [intOf] <;> omega⟩
      · dsimp only at e0 e1 e2 e3 e4 e5 e6 e7 e8
        obtain ⟨l0, hl0⟩ : ∃ x, (N0 c).l0 = x := ⟨_, rfl⟩
        obtain ⟨l1, hl1⟩ : ∃ x, (N0 c).l1 = x := ⟨_, rfl⟩
        obtain ⟨l2, hl2⟩ : ∃ x, (N0 c).l2 = x := ⟨_, rfl⟩
        obtain ⟨l3, hl3⟩ : ∃ x, (N0 c).l3 = x := ⟨_, rfl⟩
        rw [hl0] at e5
        rw [hl1] at e6
        rw [hl2] at e7
        rw [hl3] at e8
        have HDO : Hid (∀ W, Kept wr W → Calls Try.prog 41 #[.pointer (some ⟨bb, 0, none⟩), .agg #[.int .i64 2, .int .i64 0, .int .i64 0, .int .i64 0, .int .i64 0, .int .i64 l0, .int .i64 l1, .int .i64 l2, .int .i64 l3]] W fun e w' => e = .returned (.int .i64 0) ∧ BdN base bb s mb w.heap.size S N m n f (leafN s m l0 l1 l2 l3) row W w') := fun W hW => doB_leaf base bb s mb w.heap.size V S N m n f rv row W (hM.keep hW) l0 l1 l2 l3 (by omega) (by omega) hAb (Nat.le_trans hAw hW.size)
        have HNX : Hid (∀ d, d ∉ S → ApS P N0 f M0 s (S ++ [d]) (fun k => if k = d then leafN s m l0 l1 l2 l3 else N k) (srow ++ [c]) (row ++ [d])) := fun d hd => by
          rw [← hl0, ← hl1, ← hl2, ← hl3]
          exact HA.out.leaf HS.out hcP r1 r3 hd hm0 HF0.out HFo.out
        have HR2 := hide1 r2
        clear hM hA hK hFo r1 r2 r3 hl0 hl1 hl2 hl3
        go_wp2_with (go_at_call 41; refine (HDO.out _ ((Kept.refl wr).alloc _ _)).mono ?_; rintro e w3 ⟨rfl, V3, d, hd, hd2, rv3, h3, h4⟩; have H3 := hide1 h3; have H4 := hide1 h4; have HD := hide1 hd; clear h3 h4 hd hd2)
        have HFIN : Hid (ApI P N0 f M0 s b SSs base bb mb n w.heap.size w (j + 1) w3) := ⟨V3, _, _, m + 1, rv3, _, _, H3.out, HNX.out d HD.out, HR2.out, by omega, by omega, by rw [List.length_append, List.length_singleton]; omega, HK.out.trans ((((Kept.refl wr).alloc _ _).kas s hAw).trans H4.out)⟩
        exact ⟨⟨j + 1, by omega, by simp, HFIN⟩, by simp [intOf] <;> omega⟩
      · unfold mkOp at e0 e1 e2 e3 e4 e5 e6 e7 e8
        dsimp only at e0 e1 e2 e3 e4 e5 e6 e7 e8
        have hC := hA.2.2.2.2
        rw [hr0] at hC
        obtain ⟨q0, ks, hrow, c1, c2⟩ := hC.split
        have hkl : ks.length = (N0 c).kids.length := by have h9 := c2.len; rwa [List.length_map] at h9
        rw [← hkl] at e4
        obtain ⟨kd, hkd⟩ : ∃ x, (N0 c).kind = x := ⟨_, rfl⟩
        obtain ⟨nn, hnn⟩ : ∃ x, (N0 c).n = x := ⟨_, rfl⟩
        rw [hkd] at e2
        rw [hnn] at e3
        have hmay := (HS.out.mky c hcP r3).1
        rw [hkd, hnn] at hmay
        have hszk := c2.size
        have hszc := (HS.out.fo c hcP).2.2.2.1
        have hszl := (HS.out.fo c hcP).1.2.1
        rw [hrow] at hM
        have HDO : Hid (∀ W, Kept wr W → Calls Try.prog 41 #[.pointer (some ⟨bb, 0, none⟩), .agg #[.int .i64 3, .int .i64 0, .int .i64 kd, .int .i64 nn, .int .i64 (ks.length : Int), .int .i64 0, .int .i64 0, .int .i64 0, .int .i64 0]] W fun e w' => e = .returned (.int .i64 0) ∧ BdN base bb s mb w.heap.size S N m n f (makeN N s m kd nn ks) q0 W w') := fun W hW => doB_make base bb s mb w.heap.size V S N m n f rv q0 ks W (hM.keep hW) kd nn (fun d hd => by
          have h9 := HA.out.1 d (HA.out.2.2.2.1 d (by rw [hrow]; exact List.mem_append_right _ hd))
          exact ⟨h9.1, h9.2.2.2.2⟩) (by omega) hmay (by omega) (by rw [← hrow]; omega) hAb (Nat.le_trans hAw hW.size)
        have HNX : Hid (∀ d, d ∉ S → ApS P N0 f M0 s (S ++ [d]) (fun k => if k = d then makeN N s m kd nn ks else N k) (r0 ++ [c]) (q0 ++ [d])) := fun d hd => by
          rw [← hkd, ← hnn]
          exact HA.out.make HS.out hcP r1 r3 hd hm0 HF0.out HFo.out hr0 hrow c1 c2
        have HR2 := hide1 r2
        have HQL : Hid (q0.length ≤ j) := (by have h9 := hrl; rw [hrow, List.length_append] at h9; omega : q0.length ≤ j)
        obtain ⟨kl, hkl2⟩ : ∃ kl, ks.length = kl := ⟨_, rfl⟩
        rw [hkl2] at e4 HDO
        clear hM hA hK hFo r1 r2 r3 hkd hnn hmay hszk hszc hszl hC c1 c2 hrow hr0 hkl hkl2 hrl
        go_wp2_with (go_at_call 41; refine (HDO.out _ ((Kept.refl wr).alloc _ _)).mono ?_; rintro e w3 ⟨rfl, V3, d, hd, hd2, rv3, h3, h4⟩; have H3 := hide1 h3; have H4 := hide1 h4; have HD := hide1 hd; clear h3 h4 hd hd2)
        have HFIN : Hid (ApI P N0 f M0 s b SSs base bb mb n w.heap.size w (j + 1) w3) := ⟨V3, _, _, m + 1, rv3, _, _, H3.out, HNX.out d HD.out, HR2.out, by omega, by omega, by have h9 := HQL.out; rw [List.length_append, List.length_singleton]; omega, HK.out.trans ((((Kept.refl wr).alloc _ _).kas s hAw).trans H4.out)⟩
        exact ⟨⟨j + 1, by omega, by simp, HFIN⟩, by simp [intOf] <;> omega⟩
    · obtain rfl : j = L := by omega
      rw [List.drop_of_length_le (by rw [HLS.out]; exact Nat.le_refl _)] at hR
      have hsr : srow = [b] := hR
      obtain ⟨h1, h2, h3, h4, h5⟩ := hA
      rw [hsr] at h5
      have hrl1 := h5.len
      obtain ⟨c, rfl⟩ : ∃ c, row = [c] := by
        cases row with
        | nil => simp at hrl1
        | cons c r =>
          cases r with
          | nil => exact ⟨c, rfl⟩
          | cons d r => simp at hrl1
      obtain ⟨g, rc, rfl⟩ := LO.some' hM.rl (by simp)
      have q2 : wr.cell? ⟨bb, 2, none⟩ = some (.slice (some ⟨g, 0, none⟩) 1 rc) := by simp [World.cell?, hM.box]
      have q0 : wr.cell? ⟨g, 0, none⟩ = some (.pointer (some ⟨c, 0, none⟩)) := hM.rl.cell (i := 0) (j := 0) (x := c) rfl rfl
      have hc1 : (1 : Int) ≤ (rc : Int) := by have h9 := hM.rl.cap; simp at h9; omega
      have HOUT : Hid (ApOut P N0 f M0 s b j w (.returned (.tuple #[.pointer (some ⟨c, 0, none⟩), .int .i64 0])) wr) := ⟨c, V, S, N, m, rfl, KAS.kept ((Kept.refl w).tbut s) hK, hM.st, hm0, hm1, hM.nd, fun k hk => (hM.vs k hk).1, h1, h2, h4 c List.mem_cons_self, h5.1.1⟩
      clear hM hK h1 h2 h3 h4 h5 hrl1 hsr hR HI
      go_wp2_with fail
      go_ret2
      exact HOUT.out

end Tr
end Ex
end Go.Proofs.Ytnjmbijebckncab
