import Derived.Test.YtkkilkojmdeopaaMDeGq
import Derived.Test.YtkkilkojmdeopaaMDeGv
import Derived.Test.YtkkilkojmdeopaaMDeLl
namespace Go.Proofs.Ytkkilkojmdeopaa
open Go.RowKit
attribute [local go_sem] Oper.semAt_some
namespace Ex
namespace Tr

def ptrO : Option Nat → Value
  | none => .pointer none
  | some k => .pointer (some ⟨k, 0, none⟩)
/-- What Find answers. -/
def FdOut (r : Option Nat) (w : World) (e : Ending) (w' : World) : Prop := e = .returned (.tuple #[ptrO r, .bool r.isSome]) ∧ w' = w
def FdC (S : Nat → Prop) (X : Nat → Pn) (rk : Nat → Nat) (id : Int) (f b : Nat) : Prop := ∀ w : World, PFor S X rk w → Calls Try.prog 36 #[.pointer (some ⟨b, 0, none⟩), .int .i64 id] w (FdOut (fdP X id f b) w)
theorem find_take {α : Type} (f : Nat → Option α) (l : List Nat) (j k : Nat) (hk : l[j]? = some k) (h : ∀ x ∈ l.take j, f x = none) {v : α} (hv : f k = some v) : l.findSome? f = some v := by
  have hl := (List.getElem?_eq_some_iff.1 hk)
  have e : l = l.take j ++ k :: l.drop (j + 1) := by
    rw [← hl.2, ← List.drop_eq_getElem_cons hl.1, List.take_append_drop]
  rw [e, List.findSome?_append, (List.findSome?_eq_none_iff).2 h, List.findSome?_cons, hv]
  rfl
set_option linter.unusedSimpArgs false in
set_option maxRecDepth 100000 in
set_option maxHeartbeats 4000000 in
theorem findP_step (S : Nat → Prop) (X : Nat → Pn) (rk : Nat → Nat) (id : Int) (f b : Nat) (hb : S b) (hkl : (X b).kids.length ≤ 4194304) (ih : ∀ k ∈ (X b).kids, FdC S X rk id f k) : FdC S X rk id (f + 1) b := by
  intro w hF
  obtain ⟨a, c, h1, h2, h3⟩ := hF.at_ b hb
  obtain ⟨r, hr⟩ : ∃ r, fdP X id (f + 1) b = r := ⟨_, rfl⟩
  rw [hr]
  unfold fdP at hr
  obtain ⟨m, hm⟩ : ∃ m, (X b).kids.length = m := ⟨_, rfl⟩
  rw [hm] at h1 h2 hkl
  have q0 : w.cell? ⟨b, 0, none⟩ = some (.int .i64 (X b).id) := by simp [World.cell?, h1]
  have q8 : w.cell? ⟨b, 8, none⟩ = some (.slice a m c) := by simp [World.cell?, h1]
  have HKI : Hid (∀ i, i < m → ∃ k g o, (X b).kids[i]? = some k ∧ a = some ⟨g, o, none⟩ ∧ w.cell? ⟨g, o + i, none⟩ = some (.pointer (some ⟨k, 0, none⟩))) := fun i hi => by
    obtain ⟨k, hk2⟩ : ∃ k, (X b).kids[i]? = some k := ⟨_, List.getElem?_eq_getElem (by rw [hm]; exact hi)⟩
    obtain ⟨g, o, e, h4⟩ := h3 i k hk2
    exact ⟨k, g, o, hk2, e, h4⟩
  have HF := hide1 hF
  have HIH := hide1 ih
  have HM := hide1 hm
  have hcI : (m : Int) ≤ (c : Int) := by omega
  have hmI : (m : Int) ≤ 4194304 := by omega
  obtain ⟨x, hx⟩ : ∃ x, (X b).id = x := ⟨_, rfl⟩
  rw [hx] at q0 hr
  by_cases he : x = id
  · subst he
    rw [if_pos rfl] at hr
    subst hr
    clear hF ih hm h1 h2 h3 hkl hx
    go_enter Try.func36, Try.ntmps36
    go_wp2_with fail
    go_ret2
    exact ⟨rfl, rfl⟩
  · rw [if_neg he] at hr
    have eB : (x == id) = false := by simp; exact he
    have HR := hide1 hr
    clear hF ih hm h1 h2 h3 hkl hx hr
    go_enter Try.func36, Try.ntmps36
    go_wp2_with fail
    go_loopw [6] (fun v6 wr => ∃ j : Nat, v6 = .int .i64 (j : Int) ∧ j ≤ m ∧ wr = w ∧ Hid (∀ k ∈ (X b).kids.take j, fdP X id f k = none)) (fun v6 _ => m - (intOf v6).toNat)
    case atStart => exact ⟨0, rfl, Nat.zero_le _, rfl, fun k hk => by simp at hk⟩
    case round =>
      obtain ⟨j, rfl, hj, rfl, hI⟩ := hrel
      by_cases hjm : j < m
      · obtain ⟨k, g, o, hk, rfl, r0⟩ := HKI.out j hjm
        have hjI : (j : Int) < (m : Int) := by omega
        have HC := hide1 (HIH.out k (List.mem_of_getElem? hk) wr HF.out)
        obtain ⟨q, hq⟩ : ∃ q, fdP X id f k = q := ⟨_, rfl⟩
        rw [hq] at HC
        cases q with
        | none =>
          have HI2 : Hid (∀ k ∈ (X b).kids.take (j + 1), fdP X id f k = none) := fun k' hk' => by
            rw [List.take_add_one, hk] at hk'
            rcases List.mem_append.1 hk' with h | h
            · exact hI.out k' h
            · simp at h
              rw [h]; exact hq
          clear hI hk hq
          go_wp2_with (go_at_call 36; refine HC.out.mono ?_; rintro e w5 ⟨rfl, h9⟩; replace h9 := h9.symm; subst h9; simp only [ptrO, Option.isSome_none])
          exact ⟨⟨j + 1, by simp, by omega, trivial, HI2⟩, by simp [intOf] <;> omega⟩
        | some q =>
          have hrr := HR.out
          rw [find_take (fdP X id f) _ j k hk hI.out hq] at hrr
          subst hrr
          clear hI hk hq HR
          go_wp2_with (go_at_call 36; refine HC.out.mono ?_; rintro e w5 ⟨rfl, h9⟩; replace h9 := h9.symm; subst h9; simp only [ptrO, Option.isSome_some])
          go_ret2
          exact ⟨rfl, rfl⟩
      · obtain rfl : j = m := by omega
        have hrr : none = r := by
          rw [← HR.out]
          refine ((List.findSome?_eq_none_iff).2 (fun k hk => hI.out k ?_)).symm
          rw [List.take_of_length_le (by rw [HM.out]; exact Nat.le_refl _)]
          exact hk
        subst hrr
        clear hI HR
        go_wp2_with fail
        go_ret2
        exact ⟨rfl, rfl⟩
theorem findP_is (S : Nat → Prop) (X : Nat → Pn) (rk : Nat → Nat) (w0 : World) (hF : PFor S X rk w0) (hlen : ∀ b, S b → (X b).kids.length ≤ 4194304) (id : Int) : ∀ (f b : Nat), S b → rk b < f → FdC S X rk id f b
  | 0, _, _, h => by omega
  | f + 1, b, hb, h => findP_step S X rk id f b hb (hlen b hb) (fun k hk => by
      obtain ⟨q1, q2⟩ := hF.kid b hb k hk
      exact findP_is S X rk w0 hF hlen id f k q1 (by omega))

end Tr
end Ex
end Go.Proofs.Ytkkilkojmdeopaa
namespace Go.Proofs.Ytkkilkojmdeopaa
open Go.RowKit
attribute [local go_sem] Oper.semAt_some
namespace Ex
namespace Tr

/-- What the document's Script does. -/
def ScC (S : Nat → Prop) (X : Nat → Pn) (rk : Nat → Nat) (F : Int → Bool) (a f b : Nat) : Prop := ∀ w : World, PFor S X rk w → Calls Try.prog 19 #[.pointer (some ⟨a, 0, none⟩), .pointer (some ⟨b, 0, none⟩)] w fun e w' => ∃ v, e = .returned v ∧ LO opE w' w.heap.size v (stpP X F f b) ∧ Kept w w'
theorem lo_op1 (w : World) (x : OpM) : LO opE (w.alloc (.cells #[.int .i64 x.d0, .int .i64 x.d1, .int .i64 x.d2, .int .i64 x.d3, .int .i64 x.d4, .int .i64 x.d5, .int .i64 x.d6, .int .i64 x.d7, .int .i64 x.d8] 56)) w.heap.size (.slice (some ⟨w.heap.size, 0, none⟩) 1 1) [x] :=
  ⟨rfl, Or.inr ⟨w.heap.size, 1, _, rfl, Nat.le_refl _, World.alloc_heap_new w _, Nat.le_refl _, by unfold maxLen; omega, rfl, rfl⟩⟩
set_option linter.unusedSimpArgs false in
set_option maxRecDepth 100000 in
set_option maxHeartbeats 4000000 in
theorem scriptP_step (S : Nat → Prop) (X : Nat → Pn) (rk : Nat → Nat) (a f b : Nat) (F : Int → Bool) (hFd : ∀ id, FdC S X rk id (rk a + 1) a) (hF9 : ∀ y, F y = (fdP X y (rk a + 1) a).isSome) (hb : S b) (hlen : (stpP X F (f + 1) b).length ≤ 4194304) (hkl : (X b).kids.length ≤ 4194304) (ih : ∀ k ∈ (X b).kids, ScC S X rk F a f k) : ScC S X rk F a (f + 1) b := by
  intro w hF
  obtain ⟨va, c, h1, h2, h3⟩ := hF.at_ b hb
  have hkc : ∀ w', Kept w w' → w'.heap[b]? = w.heap[b]? := fun w' hk => hk.2.2.2.2 b (Array.getElem?_eq_some_iff.1 h1).1
  obtain ⟨rs, hrs⟩ : ∃ rs, stpP X F (f + 1) b = rs := ⟨_, rfl⟩
  rw [hrs] at hlen ⊢
  unfold stpP at hrs
  obtain ⟨m, hm⟩ : ∃ m, (X b).kids.length = m := ⟨_, rfl⟩
  rw [hm] at h1 h2 hrs hkl
  obtain ⟨id, hid⟩ : ∃ x, (X b).id = x := ⟨_, rfl⟩
  obtain ⟨kd, hkd2⟩ : ∃ kd, (X b).kind = kd := ⟨_, rfl⟩
  obtain ⟨n, hn2⟩ : ∃ n, (X b).n = n := ⟨_, rfl⟩
  obtain ⟨l0, hl0⟩ : ∃ x, (X b).l0 = x := ⟨_, rfl⟩
  obtain ⟨l1, hl1⟩ : ∃ x, (X b).l1 = x := ⟨_, rfl⟩
  obtain ⟨l2, hl2⟩ : ∃ x, (X b).l2 = x := ⟨_, rfl⟩
  obtain ⟨l3, hl3⟩ : ∃ x, (X b).l3 = x := ⟨_, rfl⟩
  rw [hid, hkd2, hn2, hl0, hl1, hl2, hl3] at h1 hrs
  have HCE : Hid (∀ w', Kept w w' → (w'.cell? ⟨b, 0, none⟩ = some (.int .i64 id) ∧ w'.cell? ⟨b, 1, none⟩ = some (.int .i64 kd) ∧ w'.cell? ⟨b, 2, none⟩ = some (.int .i64 n) ∧ w'.cell? ⟨b, 8, none⟩ = some (.slice va m c)) ∧ w'.cell? ⟨b, 4, none⟩ = some (.int .i64 l0) ∧ w'.cell? ⟨b, 5, none⟩ = some (.int .i64 l1) ∧ w'.cell? ⟨b, 6, none⟩ = some (.int .i64 l2) ∧ w'.cell? ⟨b, 7, none⟩ = some (.int .i64 l3)) := fun w' hk => by
    have h9 := (hkc w' hk).trans h1
    refine ⟨⟨?_, ?_, ?_, ?_⟩, ?_, ?_, ?_, ?_⟩ <;> simp [World.cell?, h9]
  have HKI : Hid (∀ w', Kept w w' → ∀ i, i < m → ∃ k g o, (X b).kids[i]? = some k ∧ va = some ⟨g, o, none⟩ ∧ w'.cell? ⟨g, o + i, none⟩ = some (.pointer (some ⟨k, 0, none⟩))) := fun w' hk i hi => by
    obtain ⟨k, hk2⟩ : ∃ k, (X b).kids[i]? = some k := ⟨_, List.getElem?_eq_getElem (by rw [hm]; exact hi)⟩
    obtain ⟨g, o, e, h4⟩ := h3 i k hk2
    exact ⟨k, g, o, hk2, e, grown_cell hk h4⟩
  obtain ⟨⟨q0, q1, q2, q8⟩, q4, q5, q6, q7⟩ := HCE.out w (Kept.refl w)
  have HFD := hide1 (hFd id w hF)
  have hf9 := hF9 id
  obtain ⟨r, hr⟩ : ∃ r, fdP X id (rk a + 1) a = r := ⟨_, rfl⟩
  rw [hr] at HFD hf9
  have HF := hide1 hF
  have HIH := hide1 ih
  have HM := hide1 hm
  have hcI : (m : Int) ≤ (c : Int) := by omega
  have hmI : (m : Int) ≤ 4194304 := by omega
  clear hF ih hm h1 h2 h3 hkc hkl hid hkd2 hn2 hl0 hl1 hl2 hl3 hr hFd hF9
  cases r with
  | some k =>
    rw [hf9] at hrs
    simp only [Option.isSome_some, if_true] at hrs
    have HR := hide1 hrs
    clear hrs hlen hf9
    go_enter Try.func19, Try.ntmps19
    go_wp2_with (go_at_call 36; refine HFD.out.mono ?_; rintro e w5 ⟨rfl, h9⟩; replace h9 := h9.symm; subst h9; simp only [ptrO, Option.isSome_some])
    go_ret
    refine ⟨_, rfl, ?_, (Kept.refl w).alloc _ _⟩
    rw [← HR.out]
    exact lo_op1 w ⟨1, id, 0, 0, 0, 0, 0, 0, 0⟩
  | none =>
    rw [hf9] at hrs
    simp only [Option.isSome_none, Bool.false_eq_true, if_false] at hrs
    by_cases hk1 : kd = 1
    · subst hk1
      rw [if_pos rfl] at hrs
      have HR := hide1 hrs
      clear hrs hlen hf9
      go_enter Try.func19, Try.ntmps19
      go_wp2_with (go_at_call 36; refine HFD.out.mono ?_; rintro e w5 ⟨rfl, h9⟩; replace h9 := h9.symm; subst h9; simp only [ptrO, Option.isSome_none])
      go_ret
      refine ⟨_, rfl, ?_, (Kept.refl w).alloc _ _⟩
      rw [← HR.out]
      exact lo_op1 w ⟨2, 0, 0, 0, 0, l0, l1, l2, l3⟩
    · rw [if_neg hk1] at hrs
      have eB : (kd == (1 : Int)) = false := by simp; exact hk1
      have HLE : Hid (∀ j, (((X b).kids.take j).flatMap (stpP X F f)).length + 1 ≤ 4194304) := fun j => by
        have h9 := hlen
        rw [← hrs, List.length_append, List.length_singleton] at h9
        have e : (X b).kids.flatMap (stpP X F f) = ((X b).kids.take j).flatMap (stpP X F f) ++ ((X b).kids.drop j).flatMap (stpP X F f) := by rw [← List.flatMap_append, List.take_append_drop]
        rw [e, List.length_append] at h9
        omega
      have HR := hide1 hrs
      clear hrs hlen hf9
      go_enter Try.func19, Try.ntmps19
      go_wp2_with (go_at_call 36; refine HFD.out.mono ?_; rintro e w5 ⟨rfl, h9⟩; replace h9 := h9.symm; subst h9; simp only [ptrO, Option.isSome_none])
      go_loopw [7, 8] (fun v3 v4 wr => ∃ (j L : Nat) (ca : Option Addr) (cc : Nat), v3 = .slice ca L cc ∧ v4 = .int .i64 (j : Int) ∧ j ≤ m ∧ (L : Int) + 1 ≤ 4194304 ∧ Hid ((((X b).kids.take j).flatMap (stpP X F f)).length = L ∧ LO opE wr w.heap.size (.slice ca L cc) (((X b).kids.take j).flatMap (stpP X F f)) ∧ Kept w wr)) (fun _ v4 _ => m - (intOf v4).toNat)
      case atStart => exact ⟨0, 0, none, 0, rfl, rfl, Nat.zero_le _, by omega, rfl, LO.nil _ _, Kept.refl w⟩
      case round =>
        obtain ⟨j, L, ca, cc, rfl, rfl, hj, hL1, hI⟩ := hrel
        clear q0 q1 q2 q8 q4 q5 q6 q7
        obtain ⟨⟨q0, q1, q2, q8⟩, q4, q5, q6, q7⟩ := HCE.out wr hI.out.2.2
        by_cases hjm : j < m
        · obtain ⟨k, g, o, hk, rfl, r0⟩ := HKI.out wr hI.out.2.2 j hjm
          have htk : ((X b).kids.take (j + 1)).flatMap (stpP X F f) = ((X b).kids.take j).flatMap (stpP X F f) ++ stpP X F f k := by
            rw [List.take_add_one, hk, List.flatMap_append]
            simp
          obtain ⟨L5, hL5⟩ : ∃ L5, (stpP X F f k).length = L5 := ⟨_, rfl⟩
          have hLL : (L : Int) + (L5 : Int) + 1 ≤ 4194304 := by
            have h9 := HLE.out (j + 1)
            rw [htk, List.length_append, hI.out.1, hL5] at h9
            omega
          have HTK := hide1 htk
          have HL5 := hide1 hL5
          have HKK : Hid (k ∈ (X b).kids) := List.mem_of_getElem? hk
          have HI := hide1 hI.out
          have hjI : (j : Int) < (m : Int) := by omega
          clear hI htk hL5 hk
          go_wp2_with (first
            | (go_at_call 19; refine (HIH.out k HKK.out wr (HF.out.keep HI.out.2.2)).mono ?_; rintro e w5 ⟨v5, rfl, ho5, hk5⟩; obtain ⟨a5, c5, rfl⟩ := ho5.form; rw [HL5.out] at ho5 ⊢; have HO5 := hide1 ho5; have HK5 := hide1 hk5; clear ho5 hk5)
            | (at_builtin; refine wpl_many (E := opE) rfl _ _ rfl w.heap.size (.slice ca L cc) _ (stpP X F f k) L L5 (L + L5) HI.out.1 HL5.out rfl rfl (HI.out.2.1.keep HK5.out) a5 c5 rfl HO5.out.src (by show (L + L5) * 72 ≤ 140737488355328; omega) (by unfold maxLen; omega) (gtrans HI.out.2.2 HK5.out).size ?_; intro a6 c6 w6 ho6 hg6 hor6; have HO6 := hide1 ho6; have HK6 := hide1 (Kept.lo (gtrans HI.out.2.2 HK5.out) (HI.out.2.1.keep HK5.out) hg6); clear ho6 hg6 hor6))
          exact ⟨⟨j + 1, L + L5, a6, c6, rfl, by simp, by omega, by omega, by rw [HTK.out, List.length_append, HI.out.1, HL5.out], by rw [HTK.out]; exact HO6.out, HK6.out⟩, by simp [intOf] <;> omega⟩
        · obtain rfl : j = m := by omega
          have HI := hide1 hI.out
          have HTK : Hid ((X b).kids.take j = (X b).kids) := List.take_of_length_le (by rw [HM.out]; exact Nat.le_refl _)
          have k1 : ∀ W, Kept w W → W.cell? ⟨b, 1, none⟩ = some (.int .i64 kd) := fun W h => (HCE.out W h).1.2.1
          have k2 : ∀ W, Kept w W → W.cell? ⟨b, 2, none⟩ = some (.int .i64 n) := fun W h => (HCE.out W h).1.2.2.1
          have k8 : ∀ W, Kept w W → W.cell? ⟨b, 8, none⟩ = some (.slice va j c) := fun W h => (HCE.out W h).1.2.2.2
          have hkr : Kept w wr := HI.out.2.2
          have HKA : Hid (∀ X9 : Array Value, Kept wr (wr.alloc (.cells X9 56)).drew) := fun X9 => gtrans ((Kept.refl wr).alloc _ _) (drew_kept _)
          have hjI : ¬ (j : Int) < (j : Int) := by omega
          clear hI
          go_upto_region 12 with fail
          clear q0 q1 q2 q8 q4 q5 q6 q7
          go_region_held3 (fun w' => Kept w w') (first | assumption | exact gtrans hkr (drew_kept _) | exact gtrans hkr (HKA.out _) | exact gtrans hkr ((Kept.refl _).alloc _ _))
            ((refine step_lo (E := opE) rfl _ _ rfl w.heap.size (.slice ca L cc) _ L HI.out.1 rfl (HI.out.2.1.keep (by first | exact HKA.out _ | exact (Kept.refl _).alloc _ _)) wr.heap.size ⟨3, 0, kd, n, (j : Int), 0, 0, 0, 0⟩ rfl (World.alloc_heap_new wr _) (by show (L + 1) * 72 ≤ 140737488355328; omega) (by unfold maxLen; omega) (Nat.le_trans HI.out.2.2.size (Kept.size (by first | exact HKA.out _ | exact (Kept.refl _).alloc _ _))) ?_; intro g9 c9 w9 ho9 hg9 hor9 hl9; have k9 : Kept w w9 := Kept.lo (gtrans HI.out.2.2 (by first | exact HKA.out _ | exact (Kept.refl _).alloc _ _)) (HI.out.2.1.keep (by first | exact HKA.out _ | exact (Kept.refl _).alloc _ _)) hg9; have HO9 := hide1 ho9; clear ho9 hg9 hor9 hl9))
          have HK9 := hide1 k9
          clear k1 k2 k8 k9 hkr
          go_wp2_with fail
          go_ret
          refine ⟨_, rfl, ?_, HK9.out⟩
          have h9 := HO9.out
          rw [HTK.out, HR.out] at h9
          exact h9
theorem scriptP_is (S : Nat → Prop) (X : Nat → Pn) (rk : Nat → Nat) (w0 : World) (hF : PFor S X rk w0) (a : Nat) (F : Int → Bool) (hFd : ∀ id, FdC S X rk id (rk a + 1) a) (hF9 : ∀ y, F y = (fdP X y (rk a + 1) a).isSome) (hlen : ∀ b, S b → (stpP X F (rk b + 1) b).length ≤ 4194304 ∧ (X b).kids.length ≤ 4194304) : ∀ (f b : Nat), S b → rk b < f → ScC S X rk F a f b
  | 0, _, _, h => by omega
  | f + 1, b, hb, h => scriptP_step S X rk a f b F hFd hF9 hb (by rw [stpP_fuel hF F (f + 1) (rk b + 1) b hb h (Nat.lt_succ_self _)]; exact (hlen b hb).1) (hlen b hb).2 (fun k hk => by
      obtain ⟨q1, q2⟩ := hF.kid b hb k hk
      exact scriptP_is S X rk w0 hF a F hFd hF9 hlen f k q1 (by omega))

end Tr
end Ex
end Go.Proofs.Ytkkilkojmdeopaa
namespace Go.Proofs.Ytkkilkojmdeopaa
open Go.RowKit
attribute [local go_sem] Oper.semAt_some
namespace Ex
namespace Tr

theorem lo_op {w : World} {base : Nat} {a : Option Addr} {L c : Nat} {ss : List OpM} (h : LO opE w base (.slice a L c) ss) {k : Nat} {x : OpM} (hx : ss[k]? = some x) : ∃ g, a = some ⟨g, 0, none⟩ ∧ (w.cell? ⟨g, k * 9, none⟩ = some (.int .i64 x.d0) ∧ w.cell? ⟨g, k * 9 + 1, none⟩ = some (.int .i64 x.d1) ∧ w.cell? ⟨g, k * 9 + 2, none⟩ = some (.int .i64 x.d2) ∧ w.cell? ⟨g, k * 9 + 3, none⟩ = some (.int .i64 x.d3) ∧ w.cell? ⟨g, k * 9 + 4, none⟩ = some (.int .i64 x.d4)) ∧ w.cell? ⟨g, k * 9 + 5, none⟩ = some (.int .i64 x.d5) ∧ w.cell? ⟨g, k * 9 + 6, none⟩ = some (.int .i64 x.d6) ∧ w.cell? ⟨g, k * 9 + 7, none⟩ = some (.int .i64 x.d7) ∧ w.cell? ⟨g, k * 9 + 8, none⟩ = some (.int .i64 x.d8) := by
  obtain ⟨g, rfl⟩ := h.some (by intro e; rw [e] at hx; simp at hx)
  exact ⟨g, rfl, ⟨h.cell (i := k) (j := 0) hx rfl, h.cell (i := k) (j := 1) hx rfl, h.cell (i := k) (j := 2) hx rfl, h.cell (i := k) (j := 3) hx rfl, h.cell (i := k) (j := 4) hx rfl⟩, h.cell (i := k) (j := 5) hx rfl, h.cell (i := k) (j := 6) hx rfl, h.cell (i := k) (j := 7) hx rfl, h.cell (i := k) (j := 8) hx rfl⟩
set_option linter.unusedSimpArgs false in
set_option maxRecDepth 100000 in
set_option maxHeartbeats 4000000 in
theorem sameOps_is (a1 a2 : Option Addr) (c1 c2 L b1 b2 : Nat) (ss : List OpM) (w : World) (hL : ss.length = L) (hL2 : L ≤ 4194304) (h1 : LO opE w b1 (.slice a1 L c1) ss) (h2 : LO opE w b2 (.slice a2 L c2) ss) :
    Calls Try.prog 13 #[.slice a1 L c1, .slice a2 L c2] w fun e w' => e = .returned (.bool true) ∧ Kept w w' := by
  have HL := hide1 hL
  have H1 := hide1 h1
  have H2 := hide1 h2
  have hLI : (L : Int) ≤ 4194304 := by omega
  have HK0 := hide1 (Kept.refl w)
  clear hL h1 h2
  go_enter Try.func13, Try.ntmps13
  go_wp2_with fail
  go_loopw [5] (fun v5 wr => ∃ k : Nat, k ≤ L ∧ v5 = .int .i64 (k : Int) ∧ Hid (Kept w wr)) (fun v5 _ => L - (intOf v5).toNat)
  case atStart => exact ⟨0, Nat.zero_le _, rfl, HK0⟩
  case round =>
    obtain ⟨k, hk, rfl, HKw⟩ := hrel
    by_cases hkL : k < L
    · obtain ⟨x, hx⟩ : ∃ x, ss[k]? = some x := ⟨_, List.getElem?_eq_getElem (by rw [HL.out]; exact hkL)⟩
      obtain ⟨g1, rfl, ⟨e0, e1, e2, e3, e4⟩, e5, e6, e7, e8⟩ := lo_op (H1.out.keep HKw.out) hx
      obtain ⟨g2, rfl, ⟨d0, d1, d2, d3, d4⟩, d5, d6, d7, d8⟩ := lo_op (H2.out.keep HKw.out) hx
      have hkI : (k : Int) < (L : Int) := by omega
      clear hx
      go_upto_region 6 with fail
      go_quiet (fail)
      have HFIN : Hid (Kept w (wr.drewN nq)) := gtrans HKw.out (drewN_kept _ _)
      clear e0 e1 e2 e3 e4 e5 e6 e7 e8 d0 d1 d2 d3 d4 d5 d6 d7 d8
      go_wp2_with fail
      exact ⟨⟨k + 1, by omega, by simp, HFIN⟩, by simp [intOf] <;> omega⟩
    · have hkI : ¬ (k : Int) < (L : Int) := by omega
      go_wp2_with fail
      go_ret
      exact ⟨rfl, HKw.out⟩

end Tr
end Ex
end Go.Proofs.Ytkkilkojmdeopaa
