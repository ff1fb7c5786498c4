import Derived.Test.YtnjmbijebckncaaMDeGq
import Derived.Test.YtnjmbijebckncaaMDeLl
import Derived.Test.YtnjmbijebckncaaMDeGr
namespace Go.Proofs.Ytnjmbijebckncaa
open Go.RowKit
attribute [local go_sem] Oper.semAt_some
namespace Ex
namespace Tr

/-- What the document's Script does. -/
def ScC (S : Nat → Prop) (X : Nat → Pn) (rk : Nat → Nat) (F : Int → Bool) (a f b : Nat) : Prop := ∀ w : World, PFor S X rk w → Calls Try.prog 23 #[.pointer (some ⟨a, 0, none⟩), .pointer (some ⟨b, 0, none⟩)] w fun e w' => ∃ v, e = .returned v ∧ LO opE w' w.heap.size v (stpP X F f b) ∧ Kept w w'
theorem lo_op1 (w : World) (x : OpM) : LO opE (w.alloc (.cells #[.int .i64 x.d0, .int .i64 x.d1, .int .i64 x.d2, .int .i64 x.d3, .int .i64 x.d4, .int .i64 x.d5, .int .i64 x.d6, .int .i64 x.d7, .int .i64 x.d8] 77)) w.heap.size (.slice (some ⟨w.heap.size, 0, none⟩) 1 1) [x] :=
  ⟨rfl, Or.inr ⟨w.heap.size, 1, _, rfl, Nat.le_refl _, World.alloc_heap_new w _, Nat.le_refl _, by unfold maxLen; omega, rfl, rfl⟩⟩
set_option linter.unusedSimpArgs false in
set_option maxRecDepth 100000 in
set_option maxHeartbeats 4000000 in
theorem scriptP_step (S : Nat → Prop) (X : Nat → Pn) (rk : Nat → Nat) (a f b : Nat) (F : Int → Bool) (hFd : ∀ id, FdC S X rk id (rk a + 1) a) (hF9 : ∀ y, F y = (fdP X y (rk a + 1) a).isSome) (hb : S b) (hlen : (stpP X F (f + 1) b).length ≤ 4194304) (hkl : (X b).kids.length ≤ 4194304) (ih : ∀ k ∈ (X b).kids, ScC S X rk F a f k) : ScC S X rk F a (f + 1) b := by
  intro w hF
  obtain ⟨va, c, h1, h2, h3⟩ := hF.at_ b hb
  have hkc : ∀ w', Kept w w' → w'.heap[b]? = w.heap[b]? := fun w' hk => hk.2.2.2.2 b (Array.getElem?_eq_some_iff.1 h1).1
  obtain ⟨rs, hrs⟩ : ∃ rs, stpP X F (f + 1) b = rs := ⟨_, rfl⟩
  rw [hrs] at hlen ⊢
  unfold stpP at hrs
  obtain ⟨m, hm⟩ : ∃ m, (X b).kids.length = m := ⟨_, rfl⟩
  rw [hm] at h1 h2 hrs hkl
  obtain ⟨id, hid⟩ : ∃ x, (X b).id = x := ⟨_, rfl⟩
  obtain ⟨kd, hkd2⟩ : ∃ kd, (X b).kind = kd := ⟨_, rfl⟩
  obtain ⟨n, hn2⟩ : ∃ n, (X b).n = n := ⟨_, rfl⟩
  obtain ⟨l0, hl0⟩ : ∃ x, (X b).l0 = x := ⟨_, rfl⟩
  obtain ⟨l1, hl1⟩ : ∃ x, (X b).l1 = x := ⟨_, rfl⟩
  obtain ⟨l2, hl2⟩ : ∃ x, (X b).l2 = x := ⟨_, rfl⟩
  obtain ⟨l3, hl3⟩ : ∃ x, (X b).l3 = x := ⟨_, rfl⟩
  rw [hid, hkd2, hn2, hl0, hl1, hl2, hl3] at h1 hrs
  have HCE : Hid (∀ w', Kept w w' → (w'.cell? ⟨b, 0, none⟩ = some (.int .i64 id) ∧ w'.cell? ⟨b, 1, none⟩ = some (.int .i64 kd) ∧ w'.cell? ⟨b, 2, none⟩ = some (.int .i64 n) ∧ w'.cell? ⟨b, 8, none⟩ = some (.slice va m c)) ∧ w'.cell? ⟨b, 4, none⟩ = some (.int .i64 l0) ∧ w'.cell? ⟨b, 5, none⟩ = some (.int .i64 l1) ∧ w'.cell? ⟨b, 6, none⟩ = some (.int .i64 l2) ∧ w'.cell? ⟨b, 7, none⟩ = some (.int .i64 l3)) := fun w' hk => by
    have h9 := (hkc w' hk).trans h1
    refine ⟨⟨?_, ?_, ?_, ?_⟩, ?_, ?_, ?_, ?_⟩ <;> simp [World.cell?, h9]
  have HKI : Hid (∀ w', Kept w w' → ∀ i, i < m → ∃ k g o, (X b).kids[i]? = some k ∧ va = some ⟨g, o, none⟩ ∧ w'.cell? ⟨g, o + i, none⟩ = some (.pointer (some ⟨k, 0, none⟩))) := fun w' hk i hi => by
    obtain ⟨k, hk2⟩ : ∃ k, (X b).kids[i]? = some k := ⟨_, List.getElem?_eq_getElem (by rw [hm]; exact hi)⟩
    obtain ⟨g, o, e, h4⟩ := h3 i k hk2
    exact ⟨k, g, o, hk2, e, grown_cell hk h4⟩
  obtain ⟨⟨q0, q1, q2, q8⟩, q4, q5, q6, q7⟩ := HCE.out w (Kept.refl w)
  have HFD := hide1 (hFd id w hF)
  have hf9 := hF9 id
  obtain ⟨r, hr⟩ : ∃ r, fdP X id (rk a + 1) a = r := ⟨_, rfl⟩
  rw [hr] at HFD hf9
  have HF := hide1 hF
  have HIH := hide1 ih
  have HM := hide1 hm
  have hcI : (m : Int) ≤ (c : Int) := by omega
  have hmI : (m : Int) ≤ 4194304 := by omega
  clear hF ih hm h1 h2 h3 hkc hkl hid hkd2 hn2 hl0 hl1 hl2 hl3 hr hFd hF9
  cases r with
  | some k =>
    rw [hf9] at hrs
    simp only [Option.isSome_some, if_true] at hrs
    have HR := hide1 hrs
    clear hrs hlen hf9
    go_enter Try.func23, Try.ntmps23
    go_wp2_with (go_at_call 41; refine HFD.out.mono ?_; rintro e w5 ⟨rfl, h9⟩; replace h9 := h9.symm; subst h9; simp only [ptrO, Option.isSome_some])
    go_ret
    refine ⟨_, rfl, ?_, (Kept.refl w).alloc _ _⟩
    rw [← HR.out]
    exact lo_op1 w ⟨1, id, 0, 0, 0, 0, 0, 0, 0⟩
  | none =>
    rw [hf9] at hrs
    simp only [Option.isSome_none, Bool.false_eq_true, if_false] at hrs
    by_cases hk1 : kd = 1
    · subst hk1
      rw [if_pos rfl] at hrs
      have HR := hide1 hrs
      clear hrs hlen hf9
      go_enter Try.func23, Try.ntmps23
      go_wp2_with (go_at_call 41; refine HFD.out.mono ?_; rintro e w5 ⟨rfl, h9⟩; replace h9 := h9.symm; subst h9; simp only [ptrO, Option.isSome_none])
      go_ret
      refine ⟨_, rfl, ?_, (Kept.refl w).alloc _ _⟩
      rw [← HR.out]
      exact lo_op1 w ⟨2, 0, 0, 0, 0, l0, l1, l2, l3⟩
    · rw [if_neg hk1] at hrs
      have eB : (kd == (1 : Int)) = false := by simp; exact hk1
      have HLE : Hid (∀ j, (((X b).kids.take j).flatMap (stpP X F f)).length + 1 ≤ 4194304) := fun j => by
        have h9 := hlen
        rw [← hrs, List.length_append, List.length_singleton] at h9
        have e : (X b).kids.flatMap (stpP X F f) = ((X b).kids.take j).flatMap (stpP X F f) ++ ((X b).kids.drop j).flatMap (stpP X F f) := by rw [← List.flatMap_append, List.take_append_drop]
        rw [e, List.length_append] at h9
        omega
      have HR := hide1 hrs
      clear hrs hlen hf9
      go_enter Try.func23, Try.ntmps23
      go_wp2_with (go_at_call 41; refine HFD.out.mono ?_; rintro e w5 ⟨rfl, h9⟩; replace h9 := h9.symm; subst h9; simp only [ptrO, Option.isSome_none])
      go_loopw [7, 8] (fun v3 v4 wr => ∃ (j L : Nat) (ca : Option Addr) (cc : Nat), v3 = .slice ca L cc ∧ v4 = .int .i64 (j : Int) ∧ j ≤ m ∧ (L : Int) + 1 ≤ 4194304 ∧ Hid ((((X b).kids.take j).flatMap (stpP X F f)).length = L ∧ LO opE wr w.heap.size (.slice ca L cc) (((X b).kids.take j).flatMap (stpP X F f)) ∧ Kept w wr)) (fun _ v4 _ => m - (intOf v4).toNat)
      case atStart => exact ⟨0, 0, none, 0, rfl, rfl, Nat.zero_le _, by omega, rfl, LO.nil _ _, Kept.refl w⟩
      case round =>
        obtain ⟨j, L, ca, cc, rfl, rfl, hj, hL1, hI⟩ := hrel
        clear q0 q1 q2 q8 q4 q5 q6 q7
        obtain ⟨⟨q0, q1, q2, q8⟩, q4, q5, q6, q7⟩ := HCE.out wr hI.out.2.2
        by_cases hjm : j < m
        · obtain ⟨k, g, o, hk, rfl, r0⟩ := HKI.out wr hI.out.2.2 j hjm
          have htk : ((X b).kids.take (j + 1)).flatMap (stpP X F f) = ((X b).kids.take j).flatMap (stpP X F f) ++ stpP X F f k := by
            rw [List.take_add_one, hk, List.flatMap_append]
            simp
          obtain ⟨L5, hL5⟩ : ∃ L5, (stpP X F f k).length = L5 := ⟨_, rfl⟩
          have hLL : (L : Int) + (L5 : Int) + 1 ≤ 4194304 := by
            have h9 := HLE.out (j + 1)
            rw [htk, List.length_append, hI.out.1, hL5] at h9
            omega
          have HTK := hide1 htk
          have HL5 := hide1 hL5
          have HKK : Hid (k ∈ (X b).kids) := List.mem_of_getElem? hk
          have HI := hide1 hI.out
          have hjI : (j : Int) < (m : Int) := by omega
          clear hI htk hL5 hk
          go_wp2_with (first
            | (go_at_call 23; refine (HIH.out k HKK.out wr (HF.out.keep HI.out.2.2)).mono ?_; rintro e w5 ⟨v5, rfl, ho5, hk5⟩; obtain ⟨a5, c5, rfl⟩ := ho5.form; rw [HL5.out] at ho5 ⊢; have HO5 := hide1 ho5; have HK5 := hide1 hk5; clear ho5 hk5)
            | (at_builtin; refine wpl_many (E := opE) rfl _ _ rfl w.heap.size (.slice ca L cc) _ (stpP X F f k) L L5 (L + L5) HI.out.1 HL5.out rfl rfl (HI.out.2.1.keep HK5.out) a5 c5 rfl HO5.out.src (by show (L + L5) * 72 ≤ 140737488355328; omega) (by unfold maxLen; omega) (gtrans HI.out.2.2 HK5.out).size ?_; intro a6 c6 w6 ho6 hg6 hor6; have HO6 := hide1 ho6; have HK6 := hide1 (Kept.lo (gtrans HI.out.2.2 HK5.out) (HI.out.2.1.keep HK5.out) hg6); clear ho6 hg6 hor6))
          exact ⟨⟨j + 1, L + L5, a6, c6, rfl, by simp, by omega, by omega, by rw [HTK.out, List.length_append, HI.out.1, HL5.out], by rw [HTK.out]; exact HO6.out, HK6.out⟩, by simp [intOf] <;> omega⟩
        · obtain rfl : j = m := by omega
          have HI := hide1 hI.out
          have HTK : Hid ((X b).kids.take j = (X b).kids) := List.take_of_length_le (by rw [HM.out]; exact Nat.le_refl _)
          have k1 : ∀ W, Kept w W → W.cell? ⟨b, 1, none⟩ = some (.int .i64 kd) := fun W h => (HCE.out W h).1.2.1
          have k2 : ∀ W, Kept w W → W.cell? ⟨b, 2, none⟩ = some (.int .i64 n) := fun W h => (HCE.out W h).1.2.2.1
          have k8 : ∀ W, Kept w W → W.cell? ⟨b, 8, none⟩ = some (.slice va j c) := fun W h => (HCE.out W h).1.2.2.2
          have hkr : Kept w wr := HI.out.2.2
          have HKA : Hid (∀ X9 : Array Value, Kept wr (wr.alloc (.cells X9 77)).drew) := fun X9 => gtrans ((Kept.refl wr).alloc _ _) (drew_kept _)
          have hjI : ¬ (j : Int) < (j : Int) := by omega
          clear hI
          go_upto_region 12 with fail
          clear q0 q1 q2 q8 q4 q5 q6 q7
          go_region_held3 (fun w' => Kept w w') (first | assumption | exact gtrans hkr (drew_kept _) | exact gtrans hkr (HKA.out _) | exact gtrans hkr ((Kept.refl _).alloc _ _))
            ((refine step_lo (E := opE) rfl _ _ rfl w.heap.size (.slice ca L cc) _ L HI.out.1 rfl (HI.out.2.1.keep (by first | exact HKA.out _ | exact (Kept.refl _).alloc _ _)) wr.heap.size ⟨3, 0, kd, n, (j : Int), 0, 0, 0, 0⟩ rfl (World.alloc_heap_new wr _) (by show (L + 1) * 72 ≤ 140737488355328; omega) (by unfold maxLen; omega) (Nat.le_trans HI.out.2.2.size (Kept.size (by first | exact HKA.out _ | exact (Kept.refl _).alloc _ _))) ?_; intro g9 c9 w9 ho9 hg9 hor9 hl9; have k9 : Kept w w9 := Kept.lo (gtrans HI.out.2.2 (by first | exact HKA.out _ | exact (Kept.refl _).alloc _ _)) (HI.out.2.1.keep (by first | exact HKA.out _ | exact (Kept.refl _).alloc _ _)) hg9; have HO9 := hide1 ho9; clear ho9 hg9 hor9 hl9))
          have HK9 := hide1 k9
          clear k1 k2 k8 k9 hkr
          go_wp2_with fail
          go_ret
          refine ⟨_, rfl, ?_, HK9.out⟩
          have h9 := HO9.out
          rw [HTK.out, HR.out] at h9
          exact h9
theorem scriptP_is (S : Nat → Prop) (X : Nat → Pn) (rk : Nat → Nat) (w0 : World) (hF : PFor S X rk w0) (a : Nat) (F : Int → Bool) (hFd : ∀ id, FdC S X rk id (rk a + 1) a) (hF9 : ∀ y, F y = (fdP X y (rk a + 1) a).isSome) (hlen : ∀ b, S b → (stpP X F (rk b + 1) b).length ≤ 4194304 ∧ (X b).kids.length ≤ 4194304) : ∀ (f b : Nat), S b → rk b < f → ScC S X rk F a f b
  | 0, _, _, h => by omega
  | f + 1, b, hb, h => scriptP_step S X rk a f b F hFd hF9 hb (by rw [stpP_fuel hF F (f + 1) (rk b + 1) b hb h (Nat.lt_succ_self _)]; exact (hlen b hb).1) (hlen b hb).2 (fun k hk => by
      obtain ⟨q1, q2⟩ := hF.kid b hb k hk
      exact scriptP_is S X rk w0 hF a F hFd hF9 hlen f k q1 (by omega))

end Tr
end Ex
end Go.Proofs.Ytnjmbijebckncaa
namespace Go.Proofs.Ytnjmbijebckncaa
open Go.RowKit
attribute [local go_sem] Oper.semAt_some
namespace Ex
namespace Tr

theorem lo_op {w : World} {base : Nat} {a : Option Addr} {L c : Nat} {ss : List OpM} (h : LO opE w base (.slice a L c) ss) {k : Nat} {x : OpM} (hx : ss[k]? = some x) : ∃ g, a = some ⟨g, 0, none⟩ ∧ (w.cell? ⟨g, k * 9, none⟩ = some (.int .i64 x.d0) ∧ w.cell? ⟨g, k * 9 + 1, none⟩ = some (.int .i64 x.d1) ∧ w.cell? ⟨g, k * 9 + 2, none⟩ = some (.int .i64 x.d2) ∧ w.cell? ⟨g, k * 9 + 3, none⟩ = some (.int .i64 x.d3) ∧ w.cell? ⟨g, k * 9 + 4, none⟩ = some (.int .i64 x.d4)) ∧ w.cell? ⟨g, k * 9 + 5, none⟩ = some (.int .i64 x.d5) ∧ w.cell? ⟨g, k * 9 + 6, none⟩ = some (.int .i64 x.d6) ∧ w.cell? ⟨g, k * 9 + 7, none⟩ = some (.int .i64 x.d7) ∧ w.cell? ⟨g, k * 9 + 8, none⟩ = some (.int .i64 x.d8) := by
  obtain ⟨g, rfl⟩ := h.some (by intro e; rw [e] at hx; simp at hx)
  exact ⟨g, rfl, ⟨h.cell (i := k) (j := 0) hx rfl, h.cell (i := k) (j := 1) hx rfl, h.cell (i := k) (j := 2) hx rfl, h.cell (i := k) (j := 3) hx rfl, h.cell (i := k) (j := 4) hx rfl⟩, h.cell (i := k) (j := 5) hx rfl, h.cell (i := k) (j := 6) hx rfl, h.cell (i := k) (j := 7) hx rfl, h.cell (i := k) (j := 8) hx rfl⟩
set_option linter.unusedSimpArgs false in
set_option maxRecDepth 100000 in
set_option maxHeartbeats 4000000 in
theorem sameOps_is (a1 a2 : Option Addr) (c1 c2 L b1 b2 : Nat) (ss : List OpM) (w : World) (hL : ss.length = L) (hL2 : L ≤ 4194304) (h1 : LO opE w b1 (.slice a1 L c1) ss) (h2 : LO opE w b2 (.slice a2 L c2) ss) :
    Calls Try.prog 21 #[.slice a1 L c1, .slice a2 L c2] w fun e w' => e = .returned (.bool true) ∧ Kept w w' := by
  have HL := hide1 hL
  have H1 := hide1 h1
  have H2 := hide1 h2
  have hLI : (L : Int) ≤ 4194304 := by omega
  have HK0 := hide1 (Kept.refl w)
  clear hL h1 h2
  go_enter Try.func21, Try.ntmps21
  go_wp2_with fail
  go_loopw [5] (fun v5 wr => ∃ k : Nat, k ≤ L ∧ v5 = .int .i64 (k : Int) ∧ Hid (Kept w wr)) (fun v5 _ => L - (intOf v5).toNat)
  case atStart => exact ⟨0, Nat.zero_le _, rfl, HK0⟩
  case round =>
    obtain ⟨k, hk, rfl, HKw⟩ := hrel
    by_cases hkL : k < L
    · obtain ⟨x, hx⟩ : ∃ x, ss[k]? = some x := ⟨_, List.getElem?_eq_getElem (by rw [HL.out]; exact hkL)⟩
      obtain ⟨g1, rfl, ⟨e0, e1, e2, e3, e4⟩, e5, e6, e7, e8⟩ := lo_op (H1.out.keep HKw.out) hx
      obtain ⟨g2, rfl, ⟨d0, d1, d2, d3, d4⟩, d5, d6, d7, d8⟩ := lo_op (H2.out.keep HKw.out) hx
      have hkI : (k : Int) < (L : Int) := by omega
      clear hx
      go_upto_region 6 with fail
      go_quiet (fail)
      have HFIN : Hid (Kept w (wr.drewN nq)) := gtrans HKw.out (drewN_kept _ _)
      clear e0 e1 e2 e3 e4 e5 e6 e7 e8 d0 d1 d2 d3 d4 d5 d6 d7 d8
      go_wp2_with fail
      exact ⟨⟨k + 1, by omega, by simp, HFIN⟩, by simp [intOf] <;> omega⟩
    · have hkI : ¬ (k : Int) < (L : Int) := by omega
      go_wp2_with fail
      go_ret
      exact ⟨rfl, HKw.out⟩

end Tr
end Ex
end Go.Proofs.Ytnjmbijebckncaa
namespace Go.Proofs.Ytnjmbijebckncaa
open Go.RowKit
attribute [local go_sem] Oper.semAt_some
namespace Ex
namespace Tr

set_option linter.unusedSimpArgs false in
set_option maxRecDepth 100000 in
set_option maxHeartbeats 4000000 in
theorem lawScripts (v0 v1 : Value) (ps : List (Int × Int)) (w : World) (hGr : Calls Try.prog 15 #[v0] w (GroveOut w)) (h1 : PairsIn w v1 ps) :
    Calls Try.prog 8 #[v0, v1] w fun e w' => e = .returned (.bool true) ∧ Kept w w' := by
  obtain ⟨np, hnp⟩ : ∃ n, ps.length = n := ⟨_, rfl⟩
  obtain ⟨pa, pc, rfl, hp1, hp2⟩ : ∃ a c, v1 = .slice a np c ∧ np ≤ c ∧ np ≤ 17592186044416 := by
    obtain ⟨a, c, h2, h3, h4, _⟩ := h1
    rw [hnp] at h2 h3 h4
    exact ⟨a, c, h2, h3, h4⟩
  have HPS := hide1 h1
  have HNP := hide1 hnp
  have HGR := hide1 hGr
  have hpI : (np : Int) ≤ (pc : Int) := by omega
  have hpI2 : (np : Int) ≤ 17592186044416 := by omega
  clear h1 hnp hGr hp1 hp2
  go_enter Try.func8, Try.ntmps8
  go_wp2_with (go_at_call 15; refine HGR.out.mono ?_; rintro e w1 ⟨gb, base, s, rfl, hI, hk1, _, _⟩; have HI := hide1 hI; have HK1 := hide1 hk1; clear hI hk1)
  obtain ⟨V, P, Q, N, X, vN, vP, hM, hT, hPi⟩ := HI.out
  obtain ⟨pn, hpn⟩ : ∃ pn, P.length = pn := ⟨_, rfl⟩
  have hqn : Q.length = pn := by rw [← hT.1]; exact hpn
  obtain ⟨aN, cN, rfl⟩ : ∃ a c, vN = .slice a pn c := by rw [← hpn]; exact hM.nl.form
  obtain ⟨aP, cP, rfl⟩ : ∃ a c, vP = .slice a pn c := by rw [← hqn]; exact hM.pl.form
  rw [hpn] at hM hPi
  have HM := hide1 hM
  have HT := hide1 hT
  have HPN := hide1 hpn
  have HQN := hide1 hqn
  have hpnI : (pn : Int) ≤ 200 := by omega
  have HGX : Hid (∀ W, Kept w1 W → W.cell? ⟨gb, 1, none⟩ = some (.slice aN pn cN) ∧ W.cell? ⟨gb, 2, none⟩ = some (.slice aP pn cP)) := fun W hW => by
    have h9 := (HM.out.keep hW).box
    exact ⟨by simp [World.cell?, h9], by simp [World.cell?, h9]⟩
  have HPX : Hid (∀ W, Kept w1 W → PairsIn W (.slice pa np pc) ps) := fun W hW => HPS.out.keep (gtrans HK1.out hW)
  have HK0 := hide1 (Kept.refl w1)
  clear hM hT hpn hqn HI HGR
  go_loopw [7] (fun v7 wr => ∃ i : Nat, i ≤ np ∧ v7 = .int .i64 (i : Int) ∧ Hid (Kept w1 wr)) (fun v7 _ => np - (intOf v7).toNat)
  case atStart => exact ⟨0, Nat.zero_le _, rfl, HK0⟩
  case round =>
    obtain ⟨i, hi, rfl, HKR⟩ := hrel
    obtain ⟨y1, y2⟩ := HGX.out wr HKR.out
    by_cases hgo : i < np ∧ 0 < pn
    · obtain ⟨hi1, hp1⟩ := hgo
      obtain ⟨x, hx⟩ : ∃ x, ps[i]? = some x := ⟨_, List.getElem?_eq_getElem (by rw [HNP.out]; exact hi1)⟩
      obtain ⟨pg, po, rfl, t0, t1⟩ := (HPX.out wr HKR.out).at' hx
      obtain ⟨x0, x1⟩ := x
      dsimp only at t0 t1
      have HW0 : Hid (∀ W, Calls Try.prog 16 #[.int .i64 x0, .int .i64 (pn : Int)] W fun e w' => e = .returned (.int .i64 (wiN x0 pn : Int)) ∧ w' = W) := fun W => withinD_is x0 pn W hp1 (by omega)
      have HW1 : Hid (∀ W, Calls Try.prog 16 #[.int .i64 x1, .int .i64 (pn : Int)] W fun e w' => e = .returned (.int .i64 (wiN x1 pn : Int)) ∧ w' = W) := fun W => withinD_is x1 pn W hp1 (by omega)
      have hra := wiN_lt x0 hp1
      have hrb := wiN_lt x1 hp1
      obtain ⟨ra, hra2⟩ : ∃ r, wiN x0 pn = r := ⟨_, rfl⟩
      obtain ⟨rb, hrb2⟩ : ∃ r, wiN x1 pn = r := ⟨_, rfl⟩
      rw [hra2] at HW0 hra
      rw [hrb2] at HW1 hrb
      have hi1I : (i : Int) < (np : Int) := by omega
      have hp1I : (0 : Int) < (pn : Int) := by omega
      have hraI : (ra : Int) < (pn : Int) := by omega
      have hrbI : (rb : Int) < (pn : Int) := by omega
      clear hx hra2 hrb2
      go_upto_region 5 with fail
      go_quiet ((go_at_call 16; exact Calls.quiet_of_same (HW0.out _)))
      obtain ⟨wq, hwq⟩ : ∃ wq, wr.drewN nq = wq := ⟨_, rfl⟩
      have hkq : Kept wr wq := by rw [← hwq]; exact drewN_kept _ _
      rw [hwq]
      have y1' := grown_cell hkq y1
      have t1' := grown_cell hkq t1
      have HKQ := hide1 (gtrans HKR.out hkq)
      clear hwq y1 y2 t0 t1 hkq nq
      go_upto_region 6 with fail
      go_quiet ((go_at_call 16; exact Calls.quiet_of_same (HW1.out _)))
      obtain ⟨wz, hwz⟩ : ∃ wz, wq.drewN nq = wz := ⟨_, rfl⟩
      have hkz : Kept wq wz := by rw [← hwz]; exact drewN_kept _ _
      rw [hwz]
      have hk1z := gtrans HKQ.out hkz
      clear hwz y1' t1' hkz nq HKQ
      obtain ⟨y1, y2⟩ := HGX.out wz hk1z
      obtain ⟨a, ha⟩ : ∃ b, P[ra]? = some b := ⟨_, List.getElem?_eq_getElem (by rw [HPN.out]; exact hra)⟩
      obtain ⟨b, hb⟩ : ∃ b, P[rb]? = some b := ⟨_, List.getElem?_eq_getElem (by rw [HPN.out]; exact hrb)⟩
      obtain ⟨da, hda⟩ : ∃ b, Q[ra]? = some b := ⟨_, List.getElem?_eq_getElem (by rw [HQN.out]; exact hra)⟩
      obtain ⟨db, hdb⟩ : ∃ b, Q[rb]? = some b := ⟨_, List.getElem?_eq_getElem (by rw [HQN.out]; exact hrb)⟩
      have hMz := HM.out.keep hk1z
      obtain ⟨gN, gP, rfl, rfl, u1, u2⟩ := gr_read hMz ha hda
      obtain ⟨gN', gP', hgN', hgP', u3, u4⟩ := gr_read hMz hb hdb
      injection hgN' with hgN'
      injection hgN' with hgN'
      injection hgP' with hgP'
      injection hgP' with hgP'
      subst hgN' hgP'
      obtain ⟨SS, hSS⟩ : ∃ SS, stp N (nodeF N (walkL N a)) b = SS := ⟨_, rfl⟩
      obtain ⟨L, hL⟩ : ∃ L, SS.length = L := ⟨_, rfl⟩
      have hFz := gr_forest hMz HT.out
      have hLe : L ≤ 4194304 := by
        rw [← hL, ← hSS]
        have h1 := stp_len hFz (nodeF N (walkL N a)) (N b).size b (List.mem_of_getElem? hb) (Nat.le_refl _)
        have h2 := (hFz b (List.mem_of_getElem? hb)).2.1.2.1
        omega
      have HSC : Hid (∀ W, Kept wz W → Calls Try.prog 22 #[.pointer (some ⟨a, 0, none⟩), .pointer (some ⟨b, 0, none⟩)] W fun e w' => ∃ v, e = .returned v ∧ LO opE w' W.heap.size v SS ∧ Kept W w') := fun W hW => by
        rw [← hSS]
        exact script_is (fun b => b ∈ P) N W.heap.size a b W (gr_forest (hMz.keep hW) HT.out) (gr_num HT.out (by rw [HPN.out]; omega)) (List.mem_of_getElem? ha) (List.mem_of_getElem? hb) (Nat.le_refl _)
      have HSP : Hid (∀ W, Kept wz W → Calls Try.prog 23 #[.pointer (some ⟨da, 0, none⟩), .pointer (some ⟨db, 0, none⟩)] W fun e w' => ∃ v, e = .returned v ∧ LO opE w' W.heap.size v SS ∧ Kept W w') := fun W hW => by
        have hMW := hMz.keep hW
        have hPF := gr_pfor hMW HT.out
        have hla : ra < P.length := by rw [HPN.out]; exact hra
        have hlb : rb < P.length := by rw [HPN.out]; exact hrb
        have h9 := tw_script hMW HT.out hla hlb
        rw [atL_some ha, atL_some hb, atL_some hda, atL_some hdb, hSS] at h9
        have h := scriptP_is (fun d => d ∈ Q) X (rkX X) W hPF da (fun y => (fdP X y (rkX X da + 1) da).isSome) (fun id => findP_is (fun d => d ∈ Q) X (rkX X) W hPF (fun d hd => (tw_lens hMW HT.out d hd).2) id (rkX X da + 1) da (List.mem_of_getElem? hda) (Nat.lt_succ_self _)) (fun _ => rfl) (fun d hd => ⟨by
          obtain ⟨i9, hi9, he9, _⟩ := HT.out.ofQ hd
          have h8 := tw_script hMW HT.out hla hi9
          rw [atL_some ha, atL_some hda, ← he9] at h8
          rw [h8]
          have hF9 := gr_forest hMW HT.out
          have h1 := stp_len hF9 (nodeF N (walkL N a)) (N (atL P i9)).size (atL P i9) (atL_mem hi9) (Nat.le_refl _)
          have h2 := (hF9 _ (atL_mem hi9)).2.1.2.1
          omega, (tw_lens hMW HT.out d hd).2⟩) (rkX X db + 1) db (List.mem_of_getElem? hdb) (Nat.lt_succ_self _) W hPF
        rw [h9] at h
        exact h
      have k1 := kcell y1
      have k2 := kcell y2
      have kA := kcell u1
      have kB := kcell u3
      have kC := kcell u2
      have kD := kcell u4
      have HKZ := hide1 hk1z
      have HL := hide1 hL
      have hkr : Kept wz wz := Kept.refl wz
      clear hMz hFz ha hb hda hdb hSS hL hk1z y1 y2 u1 u2 u3 u4
      go_upto_region 7 with fail
      go_region_held3 (fun w' => Kept wz w') (first | assumption | exact Kept.refl _ | exact drew_kept _ | exact gtrans k7 (drew_kept _) | exact gtrans k6 (drew_kept _) | exact gtrans k5 (drew_kept _))
        ((first
          | (go_at_call 22; refine (HSC.out _ (by first | exact drew_kept _ | exact Kept.refl _)).mono ?_; rintro e w5 ⟨v5, rfl, ho5, hk5⟩; obtain ⟨a5, c5, rfl⟩ := ho5.form; rw [HL.out] at ho5 ⊢; have k5 : Kept wz w5 := gtrans (by first | exact drew_kept _ | exact Kept.refl _) hk5; have HO5 := hide1 ho5; clear ho5 hk5)
          | (go_at_call 23; refine (HSP.out _ (gtrans k5 (by first | exact drew_kept _ | exact Kept.refl _))).mono ?_; rintro e w6 ⟨v6, rfl, ho6, hk6⟩; obtain ⟨a6, c6, rfl⟩ := ho6.form; rw [HL.out] at ho6 ⊢; have k56 : Kept w5 w6 := gtrans (by first | exact drew_kept _ | exact Kept.refl _) hk6; have k6 : Kept wz w6 := gtrans k5 k56; have HO6 := hide1 ho6; clear ho6 hk6)
          | (go_at_call 21; refine (sameOps_is _ _ _ _ L _ _ SS _ HL.out hLe (HO5.out.keep (gtrans k56 (by first | exact drew_kept _ | exact Kept.refl _))) (HO6.out.keep (by first | exact drew_kept _ | exact Kept.refl _))).mono ?_; rintro e w7 ⟨rfl, hk7⟩; have k7 : Kept wz w7 := gtrans k6 (gtrans (by first | exact drew_kept _ | exact Kept.refl _) hk7); clear hk7)))
      have HFIN : Hid (Kept w1 w7) := gtrans HKZ.out k7
      clear k1 k2 kA kB kC kD k5 k6 k7 k56 hkr HSC HSP HO5 HO6
      go_wp2_with fail
      exact ⟨⟨i + 1, by omega, by simp, HFIN⟩, by simp [intOf] <;> omega⟩
    · by_cases h2 : i < np
      · have h3 : ¬ (0 : Int) < (pn : Int) := by omega
        have h4 : (i : Int) < (np : Int) := by omega
        go_wp2_with fail
        go_ret
        exact ⟨rfl, gtrans HK1.out HKR.out⟩
      · have h4 : ¬ (i : Int) < (np : Int) := by omega
        go_wp2_with fail
        go_ret
        exact ⟨rfl, gtrans HK1.out HKR.out⟩

end Tr
end Ex
end Go.Proofs.Ytnjmbijebckncaa
namespace Go.Proofs.Ytnjmbijebckncaa
open Go.ChangeShapes Go.WideShapes Go.ChangeAt Go.RowKit
set_option linter.unusedVariables false
namespace Ex
namespace Tr
namespace Fs

set_option maxRecDepth 100000 in
theorem lifted (os : Os) (started : os.Started) (H : Type) (enc : TypeId × Value → H) :
    ReturnsInHanded {} Try.checked os 8 .any (Rows.deltaScriptsSpec.pre6 enc Try.prog Try.f8 Rows.deltaScriptsRow.domain false) (Rows.deltaScriptsSpec.post enc Try.prog Try.f8 false true false false) := by
  refine returnsInHanded_of_change_sized (C := Try.checked) ownD started (by kernel_rfl) Try.func8
    (ChangeSpec.witness6 (enc := enc) (C := Try.checked) false ⟨#[], #[.slice none 0 0, .slice none 0 0], []⟩ 8 (by kernel_rfl) (by kernel_rfl) (by kernel_rfl) (by kernel_rfl)) ?_
  intro W base args ds gs before hval0 hW hcnd hsz _
  have hval : ∀ (j : Nat) t v, Try.f8.params[j]? = some t → args[j]? = some v → Value.okWide Try.prog W .any base t v := hval0
  have hW' := hW
  obtain ⟨p, q, hA0, hV, rfl, hfz, hnd⟩ := hW
  have hA : DataW.TrodAll enc Try.prog W 0 (fun _ => true) true Try.f8.params.toList args.toList ds p := hA0
  rw [Try.params8] at hA hval
  obtain ⟨v0, vs0, d0, ds0, p0, q0, hargs, rfl, rfl, h0, r0⟩ := trodAll_cons hA
  obtain ⟨v1, vs1, d1, ds1, p1, q1, rfl, rfl, rfl, h1, r1⟩ := trodAll_cons r0
  obtain ⟨rfl, rfl, rfl⟩ := trodAll_nil r1
  obtain rfl : args = #[v0, v1] := by cases args; simp_all
  obtain ⟨rfl, rfl⟩ := trodVars_none hV
  have s0 := okWide_slice Try.underlying38 (hval 0 38 v0 rfl rfl)
  have s1 := okWide_slice Try.underlying39 (hval 1 39 v1 rfl rfl)
  have k0 := h0
  have k1 := h1
  have lt0 : ∀ x ∈ p0, x.block < W.heap.size := by obtain ⟨m, hm⟩ := k0; exact DataW.trod_lt m _ _ _ hm
  have lt1 : ∀ x ∈ p1, x.block < W.heap.size := by obtain ⟨m, hm⟩ := k1; exact DataW.trod_lt m _ _ _ hm
  have wt0 : ∀ n ∈ d0.weights Try.prog 38, n ≤ reachBytes := fun n hn => by
    have := List.all_eq_true.1 hsz n (DataW.weights_mem_each (j := 0) (by rfl) (by rfl) n hn)
    simpa using this
  have wt1 : ∀ n ∈ d1.weights Try.prog 39, n ≤ reachBytes := fun n hn => by
    have := List.all_eq_true.1 hsz n (DataW.weights_mem_each (j := 1) (by rfl) (by rfl) n hn)
    simpa using this
  obtain ⟨l0, x0⟩ := parts_arg s0 k0 wt0
  obtain ⟨ps, x1⟩ := pairs_arg s1 k1 wt1
  clear hA0 hval0
  refine Calls.mono (R := fun e w' => e = .returned (.bool true) ∧ Below W.heap.size W w') ((lawScripts v0 v1 ps W (grove_is v0 l0 W x0) x1).mono fun _ _ h => ⟨h.1, h.2.below⟩) fun e W' ⟨he, bel⟩ => ?_
  subst he
  exact ⟨_, rfl, _, _, _, [], _, [], hW', trodAll_mk1 (shut_bool Try.underlying4 _), (trodAll_cons_mk (Below.trod laidOutD (by kernel_rfl) (of_decide_eq_true (by kernel_rfl)) k0 bel lt0) (trodAll_cons_mk (Below.trod laidOutD (by kernel_rfl) (of_decide_eq_true (by kernel_rfl)) k1 bel lt1) trodAll_mk0)), rfl, bel.frame _, fun h => by cases h⟩

theorem over : Rows.deltaScriptsRow.holds Try.pinned (OpenSpec.ofChange Rows.deltaScriptsSpec) :=
  OpenClaim.holds_of_wide 8 Try.f8 rfl rfl rfl rfl rfl rfl rfl ⟨rfl, rfl, rfl, rfl, rfl⟩ rfl rfl rfl rfl rfl (by kernel_rfl) Try.func8 (by kernel_rfl)
    (of_decide_eq_true (by kernel_rfl)) (by unfold Func.isWrapper; first | (rw [if_pos (by decide +kernel)]; kernel_rfl) | (rw [if_neg (by decide +kernel)]; exact ⟨rfl, rfl⟩))
    (fun os started H enc _ => lifted os started H enc)

end Fs
end Tr
end Ex
theorem deltaScripts_holds : Rows.DeltaScriptsSaid := Ex.Tr.Fs.over
#print axioms deltaScripts_holds
end Go.Proofs.Ytnjmbijebckncaa
