import Derived.Test.YtpbnjdnlgcfiiaaTrK3
namespace Go.Proofs.Ytpbnjdnlgcfiiaa
open Go.RowKit
attribute [local go_sem] Oper.semAt_some
namespace Ex
namespace Tr

theorem pown_form {w : World} {base : Nat} {v : Value} {P : List Nat} (h : POwn w base v P) : ∃ a c, v = .slice a P.length c := by
  rcases h.2 with ⟨rfl, h0⟩ | ⟨g, cap, cur, rfl, _⟩
  · exact ⟨none, 0, by rw [h0]⟩
  · exact ⟨_, _, rfl⟩

set_option linter.unusedSimpArgs false in
set_option maxRecDepth 100000 in
set_option maxHeartbeats 4000000 in
theorem sameRow_is (fb gp m cp i c B : Nat) (x : Nd) (a0 a1 a2 a3 a4 : Int) (w : World) (hf : w.cell? ⟨fb, 2, none⟩ = some (.slice (some ⟨gp, 0, none⟩) m cp)) (hi : i < m) (hm : m ≤ 4194304) (hc : w.cell? ⟨gp, i, none⟩ = some (.pointer (some ⟨c, 0, none⟩))) (hN : NodeAt B w c x) :
    Calls Try.prog 60 #[.pointer (some ⟨fb, 0, none⟩), .agg #[.int .i64 a0, .int .i64 a1, .int .i64 a2, .int .i64 a3, .int .i64 a4, .int .i64 (x.num : Int)], .agg #[.int .i64 a0, .int .i64 a1, .int .i64 a2, .int .i64 a3, .int .i64 a4, .int .i64 (i : Int)]] w fun e w' => e = .returned (.bool true) ∧ Kept w w' := by
  have HN := hide1 hN
  have hiI : (i : Int) < (m : Int) := by omega
  have hmI : (m : Int) ≤ 4194304 := by omega
  clear hN
  go_enter Try.func60, Try.ntmps60
  go_upto_region 1 with fail
  obtain ⟨nu, hnu⟩ : ∃ nu, x.num = nu := ⟨_, rfl⟩
  obtain ⟨wA, hwA⟩ : ∃ wA, w.alloc (.cells #[.int .i64 a0, .int .i64 a1, .int .i64 a2, .int .i64 a3, .int .i64 a4, .int .i64 (x.num : Int)] 115) = wA := ⟨_, rfl⟩
  obtain ⟨wB, hwB⟩ : ∃ wB, wA.alloc (.cells #[.int .i64 a0, .int .i64 a1, .int .i64 a2, .int .i64 a3, .int .i64 a4, .int .i64 (i : Int)] 115) = wB := ⟨_, rfl⟩
  rw [hwA, hwB]
  have hkA : Kept w wA := by rw [← hwA]; exact (Kept.refl w).alloc _ _
  have hkB : Kept wA wB := by rw [← hwB]; exact (Kept.refl wA).alloc _ _
  have hsA : wA.heap.size = w.heap.size + 1 := by rw [← hwA]; simp
  have hxA : wB.heap[w.heap.size]? = some (.cells #[.int .i64 a0, .int .i64 a1, .int .i64 a2, .int .i64 a3, .int .i64 a4, .int .i64 (x.num : Int)] 115 (0, 0)) := (hkB.2.2.2.2 _ (by omega)).trans (by rw [← hwA]; exact World.alloc_heap_new w _)
  have hxB : wB.heap[w.heap.size + 1]? = some (.cells #[.int .i64 a0, .int .i64 a1, .int .i64 a2, .int .i64 a3, .int .i64 a4, .int .i64 (i : Int)] 115 (0, 0)) := by rw [← hsA, ← hwB]; exact World.alloc_heap_new wA _
  have HKB : Hid (Kept w wB) := gtrans hkA hkB
  have f5 := grown_cell HKB.out hf
  have c5 := grown_cell HKB.out hc
  have HNB := hide1 (HN.out.keep HKB.out)
  obtain ⟨ba, hba⟩ : ∃ ba, w.heap.size = ba := ⟨_, rfl⟩
  rw [hba] at hxA hxB
  rw [hba]
  rw [hnu] at hxA
  have HBA := hide1 hba
  have HNU := hide1 hnu
  have a0c : wB.cell? ⟨ba, 0, none⟩ = some (.int .i64 a0) := by simp [World.cell?, hxA]
  have a1c : wB.cell? ⟨ba, 1, none⟩ = some (.int .i64 a1) := by simp [World.cell?, hxA]
  have a2c : wB.cell? ⟨ba, 2, none⟩ = some (.int .i64 a2) := by simp [World.cell?, hxA]
  have a3c : wB.cell? ⟨ba, 3, none⟩ = some (.int .i64 a3) := by simp [World.cell?, hxA]
  have a4c : wB.cell? ⟨ba, 4, none⟩ = some (.int .i64 a4) := by simp [World.cell?, hxA]
  have a5c : wB.cell? ⟨ba, 5, none⟩ = some (.int .i64 (nu : Int)) := by simp [World.cell?, hxA]
  have b5c : wB.cell? ⟨ba + 1, 5, none⟩ = some (.int .i64 (i : Int)) := by simp [World.cell?, hxB]
  have b5z : wB.frozen? ⟨ba + 1, 5, none⟩ = false := by simp [World.frozen?, hxB]
  have b5l : ba + 1 < wB.heap.size := (Array.getElem?_eq_some_iff.1 hxB).1
  have HNUM : Hid (∀ n, Calls Try.prog 62 #[.pointer (some ⟨c, 0, none⟩)] (wB.drewN n) fun e w' => e = .returned (.int .i64 (nu : Int)) ∧ w' = wB.drewN n) := fun n => by rw [← hnu]; exact number_is (HNB.out.keep (drewN_kept _ _))
  have HXA := hide1 hxA
  have HXB := hide1 hxB
  clear hxA hxB hwA hwB hkA hkB hsA hba hf hc hnu
  go_region_with (first
    | (go_at_call 62; refine (HNUM.out 1).mono ?_; rintro e w1 ⟨rfl, hw1⟩; have hw1 := hw1.symm; subst hw1))
  all_goals
    generalize hW : (wB.drewN 1).setCell ⟨ba + 1, 5, none⟩ (.int .i64 (nu : Int)) = W9
    have hbd : KeptBut (ba + 1) wB W9 := by rw [← hW]; exact ((drewN_kept wB 1).tbut _).trans (setCell_but _ _ _ _)
    have HA9 : Hid (W9.heap[ba]? = some (.cells #[.int .i64 a0, .int .i64 a1, .int .i64 a2, .int .i64 a3, .int .i64 a4, .int .i64 (nu : Int)] 115 (0, 0))) := (hbd.2.2.2.2 ba (by omega) (by omega)).trans HXA.out
    have HB9 : Hid (W9.heap[ba + 1]? = some (.cells #[.int .i64 a0, .int .i64 a1, .int .i64 a2, .int .i64 a3, .int .i64 a4, .int .i64 (nu : Int)] 115 (0, 0))) := by
      rw [← hW]
      have h1 : (wB.drewN 1).heap[ba + 1]? = some (.cells #[.int .i64 a0, .int .i64 a1, .int .i64 a2, .int .i64 a3, .int .i64 a4, .int .i64 (i : Int)] 115 (0, 0)) := HXB.out
      generalize wB.drewN 1 = wq at h1
      have hl := (Array.getElem?_eq_some_iff.1 h1).1
      have he := Option.some.inj ((Array.getElem?_eq_getElem hl).symm.trans h1)
      show _ = _
      simp [World.setCell, Array.getElem_modify, hl, he]
    have HBD := hide1 hbd
    clear hW hbd a0c a1c a2c a3c a4c a5c b5c b5z b5l f5 c5
    have a0c : W9.cell? ⟨ba, 0, none⟩ = some (.int .i64 a0) := by simp [World.cell?, HA9.out]
    have a1c : W9.cell? ⟨ba, 1, none⟩ = some (.int .i64 a1) := by simp [World.cell?, HA9.out]
    have a2c : W9.cell? ⟨ba, 2, none⟩ = some (.int .i64 a2) := by simp [World.cell?, HA9.out]
    have a3c : W9.cell? ⟨ba, 3, none⟩ = some (.int .i64 a3) := by simp [World.cell?, HA9.out]
    have a4c : W9.cell? ⟨ba, 4, none⟩ = some (.int .i64 a4) := by simp [World.cell?, HA9.out]
    have a5c : W9.cell? ⟨ba, 5, none⟩ = some (.int .i64 (nu : Int)) := by simp [World.cell?, HA9.out]
    have b0c : W9.cell? ⟨ba + 1, 0, none⟩ = some (.int .i64 a0) := by simp [World.cell?, HB9.out]
    have b1c : W9.cell? ⟨ba + 1, 1, none⟩ = some (.int .i64 a1) := by simp [World.cell?, HB9.out]
    have b2c : W9.cell? ⟨ba + 1, 2, none⟩ = some (.int .i64 a2) := by simp [World.cell?, HB9.out]
    have b3c : W9.cell? ⟨ba + 1, 3, none⟩ = some (.int .i64 a3) := by simp [World.cell?, HB9.out]
    have b4c : W9.cell? ⟨ba + 1, 4, none⟩ = some (.int .i64 a4) := by simp [World.cell?, HB9.out]
    have b5c : W9.cell? ⟨ba + 1, 5, none⟩ = some (.int .i64 (nu : Int)) := by simp [World.cell?, HB9.out]
    go_wp2_with fail
    go_ret
    exact ⟨rfl, KeptBut.new HKB.out HBD.out (by have := HBA.out; omega)⟩

end Tr
end Ex
end Go.Proofs.Ytpbnjdnlgcfiiaa
