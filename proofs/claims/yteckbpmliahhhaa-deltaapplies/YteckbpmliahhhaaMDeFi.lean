import Derived.Test.YteckbpmliahhhaaMDeGq
import Derived.Test.YteckbpmliahhhaaMDeGv
import Derived.Test.YteckbpmliahhhaaMDeLl
namespace Go.Proofs.Yteckbpmliahhhaa
open Go.RowKit
attribute [local go_sem] Oper.semAt_some
namespace Ex
namespace Tr

def ptrO : Option Nat → Value
  | none => .pointer none
  | some k => .pointer (some ⟨k, 0, none⟩)
/-- What Find answers. -/
def FdOut (r : Option Nat) (w : World) (e : Ending) (w' : World) : Prop := e = .returned (.tuple #[ptrO r, .bool r.isSome]) ∧ w' = w
def FdC (S : Nat → Prop) (X : Nat → Pn) (rk : Nat → Nat) (id : Int) (f b : Nat) : Prop := ∀ w : World, PFor S X rk w → Calls Try.prog 18 #[.pointer (some ⟨b, 0, none⟩), .int .i64 id] w (FdOut (fdP X id f b) w)
theorem find_take {α : Type} (f : Nat → Option α) (l : List Nat) (j k : Nat) (hk : l[j]? = some k) (h : ∀ x ∈ l.take j, f x = none) {v : α} (hv : f k = some v) : l.findSome? f = some v := by
  have hl := (List.getElem?_eq_some_iff.1 hk)
  have e : l = l.take j ++ k :: l.drop (j + 1) := by
    rw [← hl.2, ← List.drop_eq_getElem_cons hl.1, List.take_append_drop]
  rw [e, List.findSome?_append, (List.findSome?_eq_none_iff).2 h, List.findSome?_cons, hv]
  rfl
set_option linter.unusedSimpArgs false in
set_option maxRecDepth 100000 in
set_option maxHeartbeats 4000000 in
theorem findP_step (S : Nat → Prop) (X : Nat → Pn) (rk : Nat → Nat) (id : Int) (f b : Nat) (hb : S b) (hkl : (X b).kids.length ≤ 4194304) (ih : ∀ k ∈ (X b).kids, FdC S X rk id f k) : FdC S X rk id (f + 1) b := by
  intro w hF
  obtain ⟨a, c, h1, h2, h3⟩ := hF.at_ b hb
  obtain ⟨r, hr⟩ : ∃ r, fdP X id (f + 1) b = r := ⟨_, rfl⟩
  rw [hr]
  unfold fdP at hr
  obtain ⟨m, hm⟩ : ∃ m, (X b).kids.length = m := ⟨_, rfl⟩
  rw [hm] at h1 h2 hkl
  have q0 : w.cell? ⟨b, 0, none⟩ = some (.int .i64 (X b).id) := by simp [World.cell?, h1]
  have q8 : w.cell? ⟨b, 8, none⟩ = some (.slice a m c) := by simp [World.cell?, h1]
  have HKI : Hid (∀ i, i < m → ∃ k g o, (X b).kids[i]? = some k ∧ a = some ⟨g, o, none⟩ ∧ w.cell? ⟨g, o + i, none⟩ = some (.pointer (some ⟨k, 0, none⟩))) := fun i hi => by
    obtain ⟨k, hk2⟩ : ∃ k, (X b).kids[i]? = some k := ⟨_, List.getElem?_eq_getElem (by rw [hm]; exact hi)⟩
    obtain ⟨g, o, e, h4⟩ := h3 i k hk2
    exact ⟨k, g, o, hk2, e, h4⟩
  have HF := hide1 hF
  have HIH := hide1 ih
  have HM := hide1 hm
  have hcI : (m : Int) ≤ (c : Int) := by omega
  have hmI : (m : Int) ≤ 4194304 := by omega
  obtain ⟨x, hx⟩ : ∃ x, (X b).id = x := ⟨_, rfl⟩
  rw [hx] at q0 hr
  by_cases he : x = id
  · subst he
    rw [if_pos rfl] at hr
    subst hr
    clear hF ih hm h1 h2 h3 hkl hx
    go_enter Try.func18, Try.ntmps18
    go_wp2_with fail
    go_ret2
    exact ⟨rfl, rfl⟩
  · rw [if_neg he] at hr
    have eB : (x == id) = false := by simp; exact he
    have HR := hide1 hr
    clear hF ih hm h1 h2 h3 hkl hx hr
    go_enter Try.func18, Try.ntmps18
    go_wp2_with fail
    go_loopw [6] (fun v6 wr => ∃ j : Nat, v6 = .int .i64 (j : Int) ∧ j ≤ m ∧ wr = w ∧ Hid (∀ k ∈ (X b).kids.take j, fdP X id f k = none)) (fun v6 _ => m - (intOf v6).toNat)
    case atStart => exact ⟨0, rfl, Nat.zero_le _, rfl, fun k hk => by simp at hk⟩
    case round =>
      obtain ⟨j, rfl, hj, rfl, hI⟩ := hrel
      by_cases hjm : j < m
      · obtain ⟨k, g, o, hk, rfl, r0⟩ := HKI.out j hjm
        have hjI : (j : Int) < (m : Int) := by omega
        have HC := hide1 (HIH.out k (List.mem_of_getElem? hk) wr HF.out)
        obtain ⟨q, hq⟩ : ∃ q, fdP X id f k = q := ⟨_, rfl⟩
        rw [hq] at HC
        cases q with
        | none =>
          have HI2 : Hid (∀ k ∈ (X b).kids.take (j + 1), fdP X id f k = none) := fun k' hk' => by
            rw [List.take_add_one, hk] at hk'
            rcases List.mem_append.1 hk' with h | h
            · exact hI.out k' h
            · simp at h
              rw [h]; exact hq
          clear hI hk hq
          go_wp2_with (go_at_call 18; refine HC.out.mono ?_; rintro e w5 ⟨rfl, h9⟩; replace h9 := h9.symm; subst h9; simp only [ptrO, Option.isSome_none])
          exact ⟨⟨j + 1, by simp, by omega, trivial, HI2⟩, by simp [intOf] <;> omega⟩
        | some q =>
          have hrr := HR.out
          rw [find_take (fdP X id f) _ j k hk hI.out hq] at hrr
          subst hrr
          clear hI hk hq HR
          go_wp2_with (go_at_call 18; refine HC.out.mono ?_; rintro e w5 ⟨rfl, h9⟩; replace h9 := h9.symm; subst h9; simp only [ptrO, Option.isSome_some])
          go_ret2
          exact ⟨rfl, rfl⟩
      · obtain rfl : j = m := by omega
        have hrr : none = r := by
          rw [← HR.out]
          refine ((List.findSome?_eq_none_iff).2 (fun k hk => hI.out k ?_)).symm
          rw [List.take_of_length_le (by rw [HM.out]; exact Nat.le_refl _)]
          exact hk
        subst hrr
        clear hI HR
        go_wp2_with fail
        go_ret2
        exact ⟨rfl, rfl⟩
theorem findP_is (S : Nat → Prop) (X : Nat → Pn) (rk : Nat → Nat) (w0 : World) (hF : PFor S X rk w0) (hlen : ∀ b, S b → (X b).kids.length ≤ 4194304) (id : Int) : ∀ (f b : Nat), S b → rk b < f → FdC S X rk id f b
  | 0, _, _, h => by omega
  | f + 1, b, hb, h => findP_step S X rk id f b hb (hlen b hb) (fun k hk => by
      obtain ⟨q1, q2⟩ := hF.kid b hb k hk
      exact findP_is S X rk w0 hF hlen id f k q1 (by omega))

end Tr
end Ex
end Go.Proofs.Yteckbpmliahhhaa
namespace Go.Proofs.Yteckbpmliahhhaa
open Go.RowKit
attribute [local go_sem] Oper.semAt_some
namespace Ex
namespace Tr

theorem lo_op1 (w : World) (x : OpM) : LO opE (w.alloc (.cells #[.int .i64 x.d0, .int .i64 x.d1, .int .i64 x.d2, .int .i64 x.d3, .int .i64 x.d4, .int .i64 x.d5, .int .i64 x.d6, .int .i64 x.d7, .int .i64 x.d8] 39)) w.heap.size (.slice (some ⟨w.heap.size, 0, none⟩) 1 1) [x] :=
  ⟨rfl, Or.inr ⟨w.heap.size, 1, _, rfl, Nat.le_refl _, World.alloc_heap_new w _, Nat.le_refl _, by unfold maxLen; omega, rfl, rfl⟩⟩
end Tr
end Ex
end Go.Proofs.Yteckbpmliahhhaa
namespace Go.Proofs.Yteckbpmliahhhaa
open Go.RowKit
attribute [local go_sem] Oper.semAt_some
namespace Ex
namespace Tr

theorem lo_op {w : World} {base : Nat} {a : Option Addr} {L c : Nat} {ss : List OpM} (h : LO opE w base (.slice a L c) ss) {k : Nat} {x : OpM} (hx : ss[k]? = some x) : ∃ g, a = some ⟨g, 0, none⟩ ∧ (w.cell? ⟨g, k * 9, none⟩ = some (.int .i64 x.d0) ∧ w.cell? ⟨g, k * 9 + 1, none⟩ = some (.int .i64 x.d1) ∧ w.cell? ⟨g, k * 9 + 2, none⟩ = some (.int .i64 x.d2) ∧ w.cell? ⟨g, k * 9 + 3, none⟩ = some (.int .i64 x.d3) ∧ w.cell? ⟨g, k * 9 + 4, none⟩ = some (.int .i64 x.d4)) ∧ w.cell? ⟨g, k * 9 + 5, none⟩ = some (.int .i64 x.d5) ∧ w.cell? ⟨g, k * 9 + 6, none⟩ = some (.int .i64 x.d6) ∧ w.cell? ⟨g, k * 9 + 7, none⟩ = some (.int .i64 x.d7) ∧ w.cell? ⟨g, k * 9 + 8, none⟩ = some (.int .i64 x.d8) := by
  obtain ⟨g, rfl⟩ := h.some (by intro e; rw [e] at hx; simp at hx)
  exact ⟨g, rfl, ⟨h.cell (i := k) (j := 0) hx rfl, h.cell (i := k) (j := 1) hx rfl, h.cell (i := k) (j := 2) hx rfl, h.cell (i := k) (j := 3) hx rfl, h.cell (i := k) (j := 4) hx rfl⟩, h.cell (i := k) (j := 5) hx rfl, h.cell (i := k) (j := 6) hx rfl, h.cell (i := k) (j := 7) hx rfl, h.cell (i := k) (j := 8) hx rfl⟩
set_option linter.unusedSimpArgs false in
set_option maxRecDepth 100000 in
set_option maxHeartbeats 4000000 in
theorem sameOps_is (a1 a2 : Option Addr) (c1 c2 L b1 b2 : Nat) (ss : List OpM) (w : World) (hL : ss.length = L) (hL2 : L ≤ 4194304) (h1 : LO opE w b1 (.slice a1 L c1) ss) (h2 : LO opE w b2 (.slice a2 L c2) ss) :
    Calls Try.prog 8 #[.slice a1 L c1, .slice a2 L c2] w fun e w' => e = .returned (.bool true) ∧ Kept w w' := by
  have HL := hide1 hL
  have H1 := hide1 h1
  have H2 := hide1 h2
  have hLI : (L : Int) ≤ 4194304 := by omega
  have HK0 := hide1 (Kept.refl w)
  clear hL h1 h2
  go_enter Try.func8, Try.ntmps8
  go_wp2_with fail
  go_loopw [5] (fun v5 wr => ∃ k : Nat, k ≤ L ∧ v5 = .int .i64 (k : Int) ∧ Hid (Kept w wr)) (fun v5 _ => L - (intOf v5).toNat)
  case atStart => exact ⟨0, Nat.zero_le _, rfl, HK0⟩
  case round =>
    obtain ⟨k, hk, rfl, HKw⟩ := hrel
    by_cases hkL : k < L
    · obtain ⟨x, hx⟩ : ∃ x, ss[k]? = some x := ⟨_, List.getElem?_eq_getElem (by rw [HL.out]; exact hkL)⟩
      obtain ⟨g1, rfl, ⟨e0, e1, e2, e3, e4⟩, e5, e6, e7, e8⟩ := lo_op (H1.out.keep HKw.out) hx
      obtain ⟨g2, rfl, ⟨d0, d1, d2, d3, d4⟩, d5, d6, d7, d8⟩ := lo_op (H2.out.keep HKw.out) hx
      have hkI : (k : Int) < (L : Int) := by omega
      clear hx
      go_upto_region 6 with fail
      go_quiet (fail)
      have HFIN : Hid (Kept w (wr.drewN nq)) := gtrans HKw.out (drewN_kept _ _)
      clear e0 e1 e2 e3 e4 e5 e6 e7 e8 d0 d1 d2 d3 d4 d5 d6 d7 d8
      go_wp2_with fail
      exact ⟨⟨k + 1, by omega, by simp, HFIN⟩, by simp [intOf] <;> omega⟩
    · have hkI : ¬ (k : Int) < (L : Int) := by omega
      go_wp2_with fail
      go_ret
      exact ⟨rfl, HKw.out⟩

end Tr
end Ex
end Go.Proofs.Yteckbpmliahhhaa
