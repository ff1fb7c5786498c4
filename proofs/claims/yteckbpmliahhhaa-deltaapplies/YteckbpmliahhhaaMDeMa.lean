import Derived.Test.YteckbpmliahhhaaMDeHu
import Derived.BigQuiet
namespace Go.Proofs.Yteckbpmliahhhaa
open Go.RowKit
attribute [local go_sem] Oper.semAt_some
namespace Ex
namespace Tr

/-- A node of the document whose blocks lie in the set V. -/
def PnV (V : Nat → Prop) (w : World) (b : Nat) (p : Pn) : Prop := V b ∧ ∃ a c, w.heap[b]? = some (.cells #[.int .i64 p.id, .int .i64 p.kind, .int .i64 p.n, .int .i64 p.size, .int .i64 p.l0, .int .i64 p.l1, .int .i64 p.l2, .int .i64 p.l3, .slice a p.kids.length c] 36 (0, 0)) ∧ p.kids.length ≤ c ∧ ∀ (i k : Nat), p.kids[i]? = some k → ∃ g o, a = some ⟨g, o, none⟩ ∧ V g ∧ w.cell? ⟨g, o + i, none⟩ = some (.pointer (some ⟨k, 0, none⟩))
theorem PnV.at {V : Nat → Prop} {w : World} {b : Nat} {p : Pn} (h : PnV V w b p) : PnAt w b p := by
  obtain ⟨_, a, c, h1, h2, h3⟩ := h
  refine ⟨a, c, h1, h2, fun i k hi => ?_⟩
  obtain ⟨g, o, e, _, h4⟩ := h3 i k hi
  exact ⟨g, o, e, h4⟩
/-- The rows of a node over these children. -/
def szP (P : Nat → Pn) (l : List Nat) : Int := (l.map fun k => (P k).size).sum
theorem szP_app (P : Nat → Pn) (l : List Nat) (k : Nat) : szP P (l ++ [k]) = szP P l + (P k).size := by unfold szP; simp
theorem szP_le (P : Nat → Pn) (ks : List Nat) (h : ∀ k ∈ ks, 0 < (P k).size) (j : Nat) : szP P (ks.take j) ≤ szP P ks := by
  have e : szP P ks = szP P (ks.take j) + szP P (ks.drop j) := by unfold szP; rw [← List.sum_append_int, ← List.map_append, List.take_append_drop]
  have hp : ∀ l : List Nat, (∀ k ∈ l, 0 < (P k).size) → 0 ≤ szP P l := fun l => by
    induction l with
    | nil => intro _; simp [szP]
    | cons x l ih =>
      intro hl
      have h1 := hl x List.mem_cons_self
      have h2 := ih (fun k hk => hl k (List.mem_cons_of_mem _ hk))
      unfold szP at h2 ⊢
      rw [List.map_cons, List.sum_cons]
      omega
  have := hp (ks.drop j) (fun k hk => h k (List.mem_of_mem_drop hk))
  omega
set_option linter.unusedSimpArgs false in
set_option maxRecDepth 100000 in
set_option maxHeartbeats 4000000 in
theorem madeP_is (P : Nat → Pn) (kind n : Int) (v : Value) (ks : List Nat) (w : World) (base : Nat) (hv : LO pnE w base v ks) (hkl : ks.length ≤ 4194304) (hP : ∀ k ∈ ks, PnAt w k (P k)) (hsz : ∀ k ∈ ks, 0 < (P k).size ∧ (P k).size ≤ 1500) (hgood : 2 ≤ kind ∧ kind ≤ 5 ∧ 0 ≤ n ∧ (n ≠ 0 → kind = 2)) (hsum : 1 + szP P ks ≤ 4194304) :
    Calls Try.prog 15 #[.int .i64 kind, .int .i64 n, v] w fun e w' => ∃ b, e = .returned (.tuple #[.pointer (some ⟨b, 0, none⟩), .int .i64 0]) ∧ PnV (fun k => w.heap.size ≤ k ∧ k < w'.heap.size) w' b ⟨0, kind, n, 1 + szP P ks, 0, 0, 0, 0, ks⟩ ∧ Kept w w' := by
  obtain ⟨m, hm⟩ : ∃ m, ks.length = m := ⟨_, rfl⟩
  obtain ⟨va, vc, rfl⟩ : ∃ a c, v = .slice a m c := by rw [← hm]; exact hv.form
  have hcap := hv.cap
  rw [hm] at hcap hkl
  have HV := hide1 hv
  have HM := hide1 hm
  have HSR := hide1 hv.src
  have hmI : (m : Int) ≤ 4194304 := by omega
  have hcI : (m : Int) ≤ (vc : Int) := by omega
  have HPR : Hid (∀ j, j < m → ∃ k g, ks[j]? = some k ∧ va = some ⟨g, 0, none⟩ ∧ w.cell? ⟨g, j, none⟩ = some (.pointer (some ⟨k, 0, none⟩)) ∧ w.cell? ⟨k, 3, none⟩ = some (.int .i64 (P k).size)) := fun j hj => by
    obtain ⟨k, hk⟩ : ∃ k, ks[j]? = some k := ⟨_, List.getElem?_eq_getElem (by rw [hm]; exact hj)⟩
    obtain ⟨g, rfl⟩ := hv.some (by intro e; rw [e] at hk; simp at hk)
    have h1 := hv.cell (i := j) (j := 0) (x := k) (u := .pointer (some ⟨k, 0, none⟩)) hk rfl
    rw [show j * pnE.sz + 0 = j from by show j * 1 + 0 = j; omega] at h1
    obtain ⟨a, c, h2, _⟩ := hP k (List.mem_of_getElem? hk)
    exact ⟨k, g, hk, rfl, h1, by simp [World.cell?, h2]⟩
  have HSZ := hide1 hsz
  have HSU := hide1 hsum
  obtain ⟨g1, g2, g3, g4⟩ := hgood
  clear hv hm hcap hkl hP hsz hsum
  by_cases hn0 : n = 0
  · subst hn0
    clear g4 g3
    go_enter Try.func15, Try.ntmps15
    go_wp2_with fail
    go_loopw [8, 9] (fun v8 v9 wr => ∃ (j : Nat) (sz : Int), v8 = .int .i64 sz ∧ v9 = .int .i64 (j : Int) ∧ j ≤ m ∧ 0 ≤ sz ∧ sz ≤ 4194304 ∧ wr = w ∧ Hid (sz = 1 + szP P (ks.take j))) (fun _ v9 _ => m - (intOf v9).toNat)
    case atStart => exact ⟨0, 1, rfl, rfl, Nat.zero_le _, by omega, by omega, rfl, (by simp [szP] : (1 : Int) = 1 + szP P (ks.take 0))⟩
    case round =>
      obtain ⟨j, sz, rfl, rfl, hj, hs0, hs1, rfl, hI⟩ := hrel
      by_cases hjm : j < m
      · obtain ⟨k, g, hk, rfl, r0, r1⟩ := HPR.out j hjm
        have htk : ks.take (j + 1) = ks.take j ++ [k] := by rw [List.take_add_one, hk]; rfl
        have hz := HSZ.out k (List.mem_of_getElem? hk)
        have hle := szP_le P ks (fun k hk => (HSZ.out k hk).1) (j + 1)
        have hsu := HSU.out
        rw [htk, szP_app] at hle
        have hIo := hI.out
        obtain ⟨z, hz2⟩ : ∃ z, (P k).size = z := ⟨_, rfl⟩
        rw [hz2] at hz hle r1
        have hnew : sz + z ≤ 4194304 := by omega
        have HN : Hid (sz + z = 1 + szP P (ks.take (j + 1))) := (by rw [htk, szP_app, hz2]; omega : sz + z = 1 + szP P (ks.take (j + 1)))
        have hjI : (j : Int) < (m : Int) := by omega
        obtain ⟨hz0, hz1⟩ := hz
        clear hI htk hle hsu hIo hk hz2
        go_wp2_with fail
        exact ⟨⟨j + 1, sz + z, rfl, by simp, by omega, by omega, by omega, trivial, HN.out⟩, by simp [intOf] <;> omega⟩
      · obtain rfl : j = m := by omega
        have hfin : sz = 1 + szP P ks := by have h := hI.out; rw [List.take_of_length_le (by rw [HM.out]; exact Nat.le_refl _)] at h; exact h
        have HFI := hide1 hfin
        clear hI hfin
        go_upto_region 11 with fail
        obtain ⟨nb, hnb⟩ : ∃ nb, wr.heap.size = nb := ⟨_, rfl⟩
        obtain ⟨wA, hwA⟩ : ∃ wA, wr.alloc (.cells #[.int .i64 0, .int .i64 kind, .int .i64 0, .int .i64 sz, .int .i64 0, .int .i64 0, .int .i64 0, .int .i64 0, .slice none 0 0] 36) = wA := ⟨_, rfl⟩
        have hkA : Kept wr wA := by rw [← hwA]; exact (Kept.refl wr).alloc _ _
        have hXB : wA.heap[nb]? = some (.cells #[.int .i64 0, .int .i64 kind, .int .i64 0, .int .i64 sz, .int .i64 0, .int .i64 0, .int .i64 0, .int .i64 0, .slice none 0 0] 36 (0, 0)) := by rw [← hwA, ← hnb]; exact World.alloc_heap_new wr _
        have x8 : wA.cell? ⟨nb, 8, none⟩ = some (.slice none 0 0) := by simp [World.cell?, hXB]
        have HXB := hide1 hXB
        have HKA := hide1 hkA
        have HNB := hide1 hnb
        rw [hwA, hnb]
        clear hwA hnb hXB hkA
        go_wp2_with (at_builtin; refine wpl_many (E := pnE) rfl _ _ rfl wA.heap.size (.slice none 0 0) [] ks 0 j j rfl HM.out (Nat.zero_add _) rfl (LO.nil _ _) va vc rfl (HSR.out.keep HKA.out) (by show j * 8 ≤ 140737488355328; omega) (by unfold maxLen; omega) (Nat.le_refl _) ?_; intro a6 c6 w6 ho6 hg6 hor6; have HO6 := hide1 ho6; have HK6 := hide1 (Kept.lo (Kept.refl wA) (LO.nil (E := pnE) wA wA.heap.size) hg6); have hb6 := (HK6.out.2.2.2.2 nb (Array.getElem?_eq_some_iff.1 HXB.out).1).trans HXB.out; have y8 : w6.cell? ⟨nb, 8, none⟩ = some (.slice none 0 0) := (by simp [World.cell?, hb6]); have y9 : w6.frozen? ⟨nb, 8, none⟩ = false := (by simp [World.frozen?, hb6]); have HB6 := hide1 hb6; clear ho6 hg6 hor6 hb6)
        go_ret2
        have hnl := (Array.getElem?_eq_some_iff.1 HXB.out).1
        have ho := HO6.out
        rw [List.nil_append] at ho
        have hset : (w6.setCell ⟨nb, 8, none⟩ (.slice a6 j c6)).heap[nb]? = some (.cells #[.int .i64 0, .int .i64 kind, .int .i64 0, .int .i64 sz, .int .i64 0, .int .i64 0, .int .i64 0, .int .i64 0, .slice a6 j c6] 36 (0, 0)) := by
          have hl := (Array.getElem?_eq_some_iff.1 HB6.out).1
          have he := Option.some.inj ((Array.getElem?_eq_getElem hl).symm.trans HB6.out)
          simp [World.setCell, Array.getElem_modify, hl, he]
        have hoth : ∀ k, k ≠ nb → (w6.setCell ⟨nb, 8, none⟩ (.slice a6 j c6)).heap[k]? = w6.heap[k]? := fun k hk => Below.heap_setCell _ _ _ _ hk
        have hkk : Kept wr w6 := gtrans HKA.out HK6.out
        refine ⟨nb, rfl, ⟨⟨by rw [HNB.out]; exact Nat.le_refl _, (Array.getElem?_eq_some_iff.1 hset).1⟩, a6, c6, ?_, ho.cap, fun i k hi => ?_⟩, ⟨hkk.1, hkk.2.1, hkk.2.2.1, Nat.le_trans hkk.size (by simp [World.setCell]), fun k hk => (hoth k (by have := HNB.out; omega)).trans (hkk.2.2.2.2 k hk)⟩⟩
        · rw [hset, HFI.out, HM.out]
        · obtain ⟨g, rfl⟩ := ho.some (by intro e; rw [e] at hi; simp at hi)
          have hgl := (ho.lt' g rfl).1
          have hgu : g < (w6.setCell ⟨nb, 8, none⟩ (.slice (some ⟨g, 0, none⟩) j c6)).heap.size := by have := (ho.lt' g rfl).2; simpa [World.setCell] using this
          have hgw : wr.heap.size ≤ g := Nat.le_trans HKA.out.size hgl
          have h1 := (ho.same (fun d hd => hoth d (by simp only [Value.ownBlock, Option.some.injEq] at hd; subst hd; show g ≠ nb; omega))).cell (i := i) (j := 0) (x := k) (u := .pointer (some ⟨k, 0, none⟩)) hi rfl
          rw [show i * pnE.sz + 0 = 0 + i from by show i * 1 + 0 = 0 + i; omega] at h1
          exact ⟨g, 0, rfl, ⟨hgw, hgu⟩, h1⟩
  · obtain rfl : kind = 2 := g4 hn0
    have eB : (n == (0 : Int)) = false := by simp; exact hn0
    clear g4 g1 g2
    go_enter Try.func15, Try.ntmps15
    go_wp2_with fail
    go_loopw [8, 9] (fun v8 v9 wr => ∃ (j : Nat) (sz : Int), v8 = .int .i64 sz ∧ v9 = .int .i64 (j : Int) ∧ j ≤ m ∧ 0 ≤ sz ∧ sz ≤ 4194304 ∧ wr = w ∧ Hid (sz = 1 + szP P (ks.take j))) (fun _ v9 _ => m - (intOf v9).toNat)
    case atStart => exact ⟨0, 1, rfl, rfl, Nat.zero_le _, by omega, by omega, rfl, (by simp [szP] : (1 : Int) = 1 + szP P (ks.take 0))⟩
    case round =>
      obtain ⟨j, sz, rfl, rfl, hj, hs0, hs1, rfl, hI⟩ := hrel
      by_cases hjm : j < m
      · obtain ⟨k, g, hk, rfl, r0, r1⟩ := HPR.out j hjm
        have htk : ks.take (j + 1) = ks.take j ++ [k] := by rw [List.take_add_one, hk]; rfl
        have hz := HSZ.out k (List.mem_of_getElem? hk)
        have hle := szP_le P ks (fun k hk => (HSZ.out k hk).1) (j + 1)
        have hsu := HSU.out
        rw [htk, szP_app] at hle
        have hIo := hI.out
        obtain ⟨z, hz2⟩ : ∃ z, (P k).size = z := ⟨_, rfl⟩
        rw [hz2] at hz hle r1
        have hnew : sz + z ≤ 4194304 := by omega
        have HN : Hid (sz + z = 1 + szP P (ks.take (j + 1))) := (by rw [htk, szP_app, hz2]; omega : sz + z = 1 + szP P (ks.take (j + 1)))
        have hjI : (j : Int) < (m : Int) := by omega
        obtain ⟨hz0, hz1⟩ := hz
        clear hI htk hle hsu hIo hk hz2
        go_wp2_with fail
        exact ⟨⟨j + 1, sz + z, rfl, by simp, by omega, by omega, by omega, trivial, HN.out⟩, by simp [intOf] <;> omega⟩
      · obtain rfl : j = m := by omega
        have hfin : sz = 1 + szP P ks := by have h := hI.out; rw [List.take_of_length_le (by rw [HM.out]; exact Nat.le_refl _)] at h; exact h
        have HFI := hide1 hfin
        clear hI hfin
        go_upto_region 11 with fail
        obtain ⟨nb, hnb⟩ : ∃ nb, wr.heap.size = nb := ⟨_, rfl⟩
        obtain ⟨wA, hwA⟩ : ∃ wA, wr.alloc (.cells #[.int .i64 0, .int .i64 2, .int .i64 n, .int .i64 sz, .int .i64 0, .int .i64 0, .int .i64 0, .int .i64 0, .slice none 0 0] 36) = wA := ⟨_, rfl⟩
        have hkA : Kept wr wA := by rw [← hwA]; exact (Kept.refl wr).alloc _ _
        have hXB : wA.heap[nb]? = some (.cells #[.int .i64 0, .int .i64 2, .int .i64 n, .int .i64 sz, .int .i64 0, .int .i64 0, .int .i64 0, .int .i64 0, .slice none 0 0] 36 (0, 0)) := by rw [← hwA, ← hnb]; exact World.alloc_heap_new wr _
        have x8 : wA.cell? ⟨nb, 8, none⟩ = some (.slice none 0 0) := by simp [World.cell?, hXB]
        have HXB := hide1 hXB
        have HKA := hide1 hkA
        have HNB := hide1 hnb
        rw [hwA, hnb]
        clear hwA hnb hXB hkA
        go_wp2_with (at_builtin; refine wpl_many (E := pnE) rfl _ _ rfl wA.heap.size (.slice none 0 0) [] ks 0 j j rfl HM.out (Nat.zero_add _) rfl (LO.nil _ _) va vc rfl (HSR.out.keep HKA.out) (by show j * 8 ≤ 140737488355328; omega) (by unfold maxLen; omega) (Nat.le_refl _) ?_; intro a6 c6 w6 ho6 hg6 hor6; have HO6 := hide1 ho6; have HK6 := hide1 (Kept.lo (Kept.refl wA) (LO.nil (E := pnE) wA wA.heap.size) hg6); have hb6 := (HK6.out.2.2.2.2 nb (Array.getElem?_eq_some_iff.1 HXB.out).1).trans HXB.out; have y8 : w6.cell? ⟨nb, 8, none⟩ = some (.slice none 0 0) := (by simp [World.cell?, hb6]); have y9 : w6.frozen? ⟨nb, 8, none⟩ = false := (by simp [World.frozen?, hb6]); have HB6 := hide1 hb6; clear ho6 hg6 hor6 hb6)
        go_ret2
        have hnl := (Array.getElem?_eq_some_iff.1 HXB.out).1
        have ho := HO6.out
        rw [List.nil_append] at ho
        have hset : (w6.setCell ⟨nb, 8, none⟩ (.slice a6 j c6)).heap[nb]? = some (.cells #[.int .i64 0, .int .i64 2, .int .i64 n, .int .i64 sz, .int .i64 0, .int .i64 0, .int .i64 0, .int .i64 0, .slice a6 j c6] 36 (0, 0)) := by
          have hl := (Array.getElem?_eq_some_iff.1 HB6.out).1
          have he := Option.some.inj ((Array.getElem?_eq_getElem hl).symm.trans HB6.out)
          simp [World.setCell, Array.getElem_modify, hl, he]
        have hoth : ∀ k, k ≠ nb → (w6.setCell ⟨nb, 8, none⟩ (.slice a6 j c6)).heap[k]? = w6.heap[k]? := fun k hk => Below.heap_setCell _ _ _ _ hk
        have hkk : Kept wr w6 := gtrans HKA.out HK6.out
        refine ⟨nb, rfl, ⟨⟨by rw [HNB.out]; exact Nat.le_refl _, (Array.getElem?_eq_some_iff.1 hset).1⟩, a6, c6, ?_, ho.cap, fun i k hi => ?_⟩, ⟨hkk.1, hkk.2.1, hkk.2.2.1, Nat.le_trans hkk.size (by simp [World.setCell]), fun k hk => (hoth k (by have := HNB.out; omega)).trans (hkk.2.2.2.2 k hk)⟩⟩
        · rw [hset, HFI.out, HM.out]
        · obtain ⟨g, rfl⟩ := ho.some (by intro e; rw [e] at hi; simp at hi)
          have hgl := (ho.lt' g rfl).1
          have hgu : g < (w6.setCell ⟨nb, 8, none⟩ (.slice (some ⟨g, 0, none⟩) j c6)).heap.size := by have := (ho.lt' g rfl).2; simpa [World.setCell] using this
          have hgw : wr.heap.size ≤ g := Nat.le_trans HKA.out.size hgl
          have h1 := (ho.same (fun d hd => hoth d (by simp only [Value.ownBlock, Option.some.injEq] at hd; subst hd; show g ≠ nb; omega))).cell (i := i) (j := 0) (x := k) (u := .pointer (some ⟨k, 0, none⟩)) hi rfl
          rw [show i * pnE.sz + 0 = 0 + i from by show i * 1 + 0 = 0 + i; omega] at h1
          exact ⟨g, 0, rfl, ⟨hgw, hgu⟩, h1⟩

end Tr
end Ex
end Go.Proofs.Yteckbpmliahhhaa
namespace Go.Proofs.Yteckbpmliahhhaa
open Go.RowKit
attribute [local go_sem] Oper.semAt_some
namespace Ex
namespace Tr

set_option linter.unusedSimpArgs false in
set_option maxRecDepth 100000 in
set_option maxHeartbeats 4000000 in
/-- Made of a kind that there is not. -/
theorem madeP_bad (kind n : Int) (v : Value) (w : World) (hbad : ¬ (2 ≤ kind ∧ kind ≤ 5 ∧ 0 ≤ n ∧ (n ≠ 0 → kind = 2))) :
    Calls Try.prog 15 #[.int .i64 kind, .int .i64 n, v] w fun e w' => e = .returned (.tuple #[.pointer none, .int .i64 101]) ∧ w' = w := by
  by_cases h1 : kind < 2
  · clear hbad
    go_enter Try.func15, Try.ntmps15
    go_wp2_with fail
    go_ret2
    exact ⟨rfl, rfl⟩
  by_cases h2 : 5 < kind
  · clear hbad
    go_enter Try.func15, Try.ntmps15
    go_wp2_with fail
    go_ret2
    exact ⟨rfl, rfl⟩
  by_cases h3 : n < 0
  · clear hbad
    go_enter Try.func15, Try.ntmps15
    go_wp2_with fail
    go_ret2
    exact ⟨rfl, rfl⟩
  have h4 : n ≠ 0 := fun h => hbad ⟨by omega, by omega, by omega, fun h' => absurd h h'⟩
  have h5 : kind ≠ 2 := fun h => hbad ⟨by omega, by omega, by omega, fun _ => h⟩
  have e4 : (n == (0 : Int)) = false := by simp; exact h4
  have e5 : (kind == (2 : Int)) = false := by simp; exact h5
  have e6 : (n != (0 : Int)) = true := by simp; exact h4
  have e7 : (kind != (2 : Int)) = true := by simp; exact h5
  clear hbad
  go_enter Try.func15, Try.ntmps15
  go_wp2_with fail
  go_ret2
  exact ⟨rfl, rfl⟩

end Tr
end Ex
end Go.Proofs.Yteckbpmliahhhaa
namespace Go.Proofs.Yteckbpmliahhhaa
open Go.RowKit
attribute [local go_sem] Oper.semAt_some
namespace Ex
namespace Tr

set_option linter.unusedSimpArgs false in
set_option maxRecDepth 100000 in
set_option maxHeartbeats 4000000 in
/-- Made of too many rows. -/
theorem madeP_full (P : Nat → Pn) (kind n : Int) (v : Value) (ks : List Nat) (w : World) (base : Nat) (hv : LO pnE w base v ks) (hkl : ks.length ≤ 17592186044416) (hP : ∀ k ∈ ks, PnAt w k (P k)) (hsz : ∀ k ∈ ks, 0 < (P k).size ∧ (P k).size ≤ 1500) (hgood : 2 ≤ kind ∧ kind ≤ 5 ∧ 0 ≤ n ∧ (n ≠ 0 → kind = 2)) (hsum : 4194304 < 1 + szP P ks) :
    Calls Try.prog 15 #[.int .i64 kind, .int .i64 n, v] w fun e w' => e = .returned (.tuple #[.pointer none, .int .i64 6]) ∧ w' = w := by
  obtain ⟨m, hm⟩ : ∃ m, ks.length = m := ⟨_, rfl⟩
  obtain ⟨va, vc, rfl⟩ : ∃ a c, v = .slice a m c := by rw [← hm]; exact hv.form
  have hcap := hv.cap
  rw [hm] at hcap hkl
  have HM := hide1 hm
  have hmI : (m : Int) ≤ 17592186044416 := by omega
  have hcI : (m : Int) ≤ (vc : Int) := by omega
  have HPR : Hid (∀ j, j < m → ∃ k g, ks[j]? = some k ∧ va = some ⟨g, 0, none⟩ ∧ w.cell? ⟨g, j, none⟩ = some (.pointer (some ⟨k, 0, none⟩)) ∧ w.cell? ⟨k, 3, none⟩ = some (.int .i64 (P k).size)) := fun j hj => by
    obtain ⟨k, hk⟩ : ∃ k, ks[j]? = some k := ⟨_, List.getElem?_eq_getElem (by rw [hm]; exact hj)⟩
    obtain ⟨g, rfl⟩ := hv.some (by intro e; rw [e] at hk; simp at hk)
    have h1 := hv.cell (i := j) (j := 0) (x := k) (u := .pointer (some ⟨k, 0, none⟩)) hk rfl
    rw [show j * pnE.sz + 0 = j from by show j * 1 + 0 = j; omega] at h1
    obtain ⟨a, c, h2, _⟩ := hP k (List.mem_of_getElem? hk)
    exact ⟨k, g, hk, rfl, h1, by simp [World.cell?, h2]⟩
  have HSZ := hide1 hsz
  have HSU := hide1 hsum
  obtain ⟨g1, g2, g3, g4⟩ := hgood
  clear hv hm hcap hkl hP hsz hsum
  by_cases hn0 : n = 0
  · subst hn0
    clear g4 g3
    go_enter Try.func15, Try.ntmps15
    go_wp2_with fail
    go_loopw [8, 9] (fun v8 v9 wr => ∃ (j : Nat) (sz : Int), v8 = .int .i64 sz ∧ v9 = .int .i64 (j : Int) ∧ j ≤ m ∧ 0 ≤ sz ∧ sz ≤ 4194304 ∧ wr = w ∧ Hid (sz = 1 + szP P (ks.take j))) (fun _ v9 _ => m - (intOf v9).toNat)
    case atStart => exact ⟨0, 1, rfl, rfl, Nat.zero_le _, by omega, by omega, rfl, (by simp [szP] : (1 : Int) = 1 + szP P (ks.take 0))⟩
    case round =>
      obtain ⟨j, sz, rfl, rfl, hj, hs0, hs1, rfl, hI⟩ := hrel
      by_cases hjm : j < m
      · obtain ⟨k, g, hk, rfl, r0, r1⟩ := HPR.out j hjm
        have htk : ks.take (j + 1) = ks.take j ++ [k] := by rw [List.take_add_one, hk]; rfl
        have hz := HSZ.out k (List.mem_of_getElem? hk)
        have hIo := hI.out
        obtain ⟨z, hz2⟩ : ∃ z, (P k).size = z := ⟨_, rfl⟩
        rw [hz2] at hz r1
        have HN : Hid (sz + z = 1 + szP P (ks.take (j + 1))) := (by rw [htk, szP_app, hz2]; omega : sz + z = 1 + szP P (ks.take (j + 1)))
        have hjI : (j : Int) < (m : Int) := by omega
        obtain ⟨hz0, hz1⟩ := hz
        clear hI htk hIo hk hz2
        by_cases hnew : sz + z ≤ 4194304
        · go_wp2_with fail
          exact ⟨⟨j + 1, sz + z, rfl, by simp, by omega, by omega, by omega, trivial, HN.out⟩, by simp [intOf] <;> omega⟩
        · go_wp2_with fail
          go_ret2
          exact ⟨rfl, rfl⟩
      · obtain rfl : j = m := by omega
        have hfin : sz = 1 + szP P ks := by have h := hI.out; rw [List.take_of_length_le (by rw [HM.out]; exact Nat.le_refl _)] at h; exact h
        have hsu := HSU.out
        omega
  · obtain rfl : kind = 2 := g4 hn0
    have eB : (n == (0 : Int)) = false := by simp; exact hn0
    clear g4 g1 g2
    go_enter Try.func15, Try.ntmps15
    go_wp2_with fail
    go_loopw [8, 9] (fun v8 v9 wr => ∃ (j : Nat) (sz : Int), v8 = .int .i64 sz ∧ v9 = .int .i64 (j : Int) ∧ j ≤ m ∧ 0 ≤ sz ∧ sz ≤ 4194304 ∧ wr = w ∧ Hid (sz = 1 + szP P (ks.take j))) (fun _ v9 _ => m - (intOf v9).toNat)
    case atStart => exact ⟨0, 1, rfl, rfl, Nat.zero_le _, by omega, by omega, rfl, (by simp [szP] : (1 : Int) = 1 + szP P (ks.take 0))⟩
    case round =>
      obtain ⟨j, sz, rfl, rfl, hj, hs0, hs1, rfl, hI⟩ := hrel
      by_cases hjm : j < m
      · obtain ⟨k, g, hk, rfl, r0, r1⟩ := HPR.out j hjm
        have htk : ks.take (j + 1) = ks.take j ++ [k] := by rw [List.take_add_one, hk]; rfl
        have hz := HSZ.out k (List.mem_of_getElem? hk)
        have hIo := hI.out
        obtain ⟨z, hz2⟩ : ∃ z, (P k).size = z := ⟨_, rfl⟩
        rw [hz2] at hz r1
        have HN : Hid (sz + z = 1 + szP P (ks.take (j + 1))) := (by rw [htk, szP_app, hz2]; omega : sz + z = 1 + szP P (ks.take (j + 1)))
        have hjI : (j : Int) < (m : Int) := by omega
        obtain ⟨hz0, hz1⟩ := hz
        clear hI htk hIo hk hz2
        by_cases hnew : sz + z ≤ 4194304
        · go_wp2_with fail
          exact ⟨⟨j + 1, sz + z, rfl, by simp, by omega, by omega, by omega, trivial, HN.out⟩, by simp [intOf] <;> omega⟩
        · go_wp2_with fail
          go_ret2
          exact ⟨rfl, rfl⟩
      · obtain rfl : j = m := by omega
        have hfin : sz = 1 + szP P ks := by have h := hI.out; rw [List.take_of_length_le (by rw [HM.out]; exact Nat.le_refl _)] at h; exact h
        have hsu := HSU.out
        omega

end Tr
end Ex
end Go.Proofs.Yteckbpmliahhhaa
